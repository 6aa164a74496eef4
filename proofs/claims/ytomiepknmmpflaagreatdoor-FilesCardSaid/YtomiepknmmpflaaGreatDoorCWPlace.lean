/- The program's keeper of files by name: place, has, get, count. -/
import Derived.Test.YtomiepknmmpflaaGreatDoorCWDrop
namespace Go.Proofs.YtomiepknmmpflaaGreatDoor
open Go.RowKit Go.Joins

/-- The program's rows of files: a slice whose cells they are. -/
abbrev OwnsRows (w : World) (base : Nat) (v : Value) (l : Ov.Files) : Prop := w.ownsRow base 97 2 v l.length (fileCells l)
theorem rows_name {w : World} {base g c : Nat} {l : Ov.Files} (h : OwnsRows w base (.slice (some ⟨g, 0, none⟩) l.length c) l) {k : Nat} (hk : k < l.length) : w.cell? ⟨g, k * 2, none⟩ = some (.string (Ov.nameAt l k)) := by
  rw [h.cellAt _ (by omega), fileCells_name hk]
theorem rows_bytes {w : World} {base g c : Nat} {l : Ov.Files} (h : OwnsRows w base (.slice (some ⟨g, 0, none⟩) l.length c) l) {k : Nat} (hk : k < l.length) : w.cell? ⟨g, k * 2 + 1, none⟩ = some (.string (Ov.fileAt l k)) := by
  rw [h.cellAt _ (by omega), fileCells_bytes hk]

set_option maxRecDepth 100000 in
set_option maxHeartbeats 400000 in
theorem oSplace1_calls (nm th x : ByteArray) (B : Nat) (w : World) (hc : w.cell? ⟨B, 0, none⟩ = some (.string x)) (hB : B < w.heap.size) :
    Calls Tryz.prog 150 #[.agg #[.string nm, .string th], .pointer (some ⟨B, 0, none⟩)] w fun e w' => e = .returned (.bool (nm.toList == x.toList)) ∧ Below w.heap.size w w' := by
  have hc' : ∀ o, (w.alloc o).cell? ⟨B, 0, none⟩ = some (.string x) := fun o => by rw [World.cell?_alloc_past _ _ _ hB]; exact hc
  go_enter Tryz.func150, Tryz.ntmps150
  go_wp2
  go_ret
  exact ⟨rfl, below_alloc1 w _⟩

set_option maxRecDepth 100000 in
set_option maxHeartbeats 400000 in
theorem oSIndex_calls (l : Ov.Files) (v : Value) (x : ByteArray) (B base : Nat) (w : World) (hl : l.length ≤ 8) (h : OwnsRows w base v l) (hc : w.cell? ⟨B, 0, none⟩ = some (.string x)) (hB : B < w.heap.size) :
    Calls Tryz.prog 149 #[v, .func (.func 150) #[] #[.pointer (some ⟨B, 0, none⟩)]] w fun e w' => e = .returned (.int .i64 (Ov.find l x)) ∧ Below w.heap.size w w' := by
  obtain ⟨a, c, rfl⟩ := owns_slice h
  have HO := hide h
  have HC := hide hc
  clear h hc
  go_enter Tryz.func149, Tryz.ntmps149
  go_wp2_with fail
  go_loopw [8, 5] (fun i _ wr => ∃ k, k ≤ l.length ∧ i = .int .i64 (k : Nat) ∧ Below w.heap.size w wr ∧ ∀ j, j < k → Ov.nameAt l j ≠ x) (fun i _ _ => l.length - (intOf i).toNat)
  case atStart => exact ⟨0, Nat.zero_le _, rfl, Below.refl _ _, fun j hj => by omega⟩
  case round =>
    obtain ⟨k, hk, rfl, hbel, hall⟩ := hrel
    have HBL := hide hbel
    have HA := hide hall
    have hsz := hbel.size
    clear hbel hall
    by_cases hlt : k < l.length
    · obtain ⟨g, cc, hv⟩ := ownsRow_form (unhide HO) (by omega)
      obtain ⟨rfl, rfl⟩ : a = some ⟨g, 0, none⟩ ∧ c = cc := by simpa using hv
      have HOr := hide (owns_all (unhide HO) (unhide HBL))
      have cn := rows_name (unhide HOr) hlt
      have ct := rows_bytes (unhide HOr) hlt
      have hcr : wr.cell? ⟨B, 0, none⟩ = some (.string x) := ((unhide HBL).cell (p := ⟨B, 0, none⟩) hB).trans (unhide HC)
      have hBr : B < wr.heap.size := by omega
      obtain ⟨y, hy⟩ : ∃ y, Ov.nameAt l k = y := ⟨_, rfl⟩
      rw [hy] at cn
      have HY := hide hy
      clear hv hy
      by_cases hq : y = x
      · subst hq
        have Hf := hide (Ov.find_eq (l := l) (unhide HA) hlt (unhide HY))
        have hqt : (y.toList == y.toList) = true := beq_self_eq_true _
        go_wp2_with (go_at_call 150; refine (oSplace1_calls _ _ _ B _ hcr hBr).mono ?_; rintro e w1 ⟨rfl, hb1⟩)
        go_ret
        exact ⟨by rw [unhide Hf]; rfl, (unhide HBL).trans (hb1.mono hsz)⟩
      · have hq' : (y.toList == x.toList) = false := by rw [beq_eq_false_iff_ne, ByteArray.toList_eq, ByteArray.toList_eq]; exact fun e => hq (Go.WideShapes.bytes_inj e)
        go_wp2_with (go_at_call 150; refine (oSplace1_calls _ _ _ B _ hcr hBr).mono ?_; rintro e w1 ⟨rfl, hb1⟩)
        go_roundw
        case rel => exact ⟨k + 1, by omega, by go_num, (unhide HBL).trans (hb1.mono hsz), names_step (unhide HA) (by rw [unhide HY]; exact hq)⟩
        case measure => simp [intOf]; omega
    · have Hf := hide (Ov.find_none (l := l) (x := x) (fun j hj => unhide HA j (by omega)))
      go_wp2_with fail
      go_ret
      exact ⟨by rw [unhide Hf]; rfl, unhide HBL⟩

theorem box_at {w : World} {x : Value} {t : TypeId} : (w.alloc (.cells #[x] t)).cell? ⟨w.heap.size, 0, none⟩ = some x := by
  rw [cell_alloc_mark_at w _ _ (0, 0) _ 0 rfl]; rfl

set_option maxRecDepth 100000 in
set_option maxHeartbeats 400000 in
theorem oSplace_calls (l : Ov.Files) (v : Value) (x : ByteArray) (b off base : Nat) (w : World) (hl : l.length ≤ 8) (h : OwnsRows w base v l) (hc : w.cell? ⟨b, off, none⟩ = some v) (hb : b < w.heap.size) :
    Calls Tryz.prog 98 #[.pointer (some ⟨b, off, none⟩), .string x] w fun e w' => e = .returned (.int .i64 (Ov.find l x)) ∧ Below w.heap.size w w' := by
  obtain ⟨a, c, rfl⟩ := owns_slice h
  have HO := hide h
  have hc' : ∀ o, (w.alloc o).cell? ⟨b, off, none⟩ = some (.slice a l.length c) := fun o => by rw [World.cell?_alloc_past _ _ _ hb]; exact hc
  have hmf : ∀ (fn : Fn) (first cap : Array Value) (w : World), (Instr.makeFunc fn first cap).run Tryz.prog w = .ok (.func fn first cap) w := fun _ _ _ _ => rfl
  clear h hc
  go_enter Tryz.func98, Tryz.ntmps98
  go_wp2_with (go_at_call 149; refine (oSIndex_calls l _ x w.heap.size base _ hl ((unhide HO).alloc _) box_at (by simp)).mono ?_; rintro e w1 ⟨rfl, hb1⟩)
  go_ret
  exact ⟨rfl, (below_alloc1 w _).trans (hb1.mono (by simp))⟩

set_option maxRecDepth 100000 in
set_option maxHeartbeats 400000 in
theorem oShas_calls (l : Ov.Files) (v : Value) (x : ByteArray) (b off base : Nat) (w : World) (hl : l.length ≤ 8) (h : OwnsRows w base v l) (hc : w.cell? ⟨b, off, none⟩ = some v) (hb : b < w.heap.size) :
    Calls Tryz.prog 66 #[.pointer (some ⟨b, off, none⟩), .string x] w fun e w' => e = .returned (.bool (Ov.has l x)) ∧ Below w.heap.size w w' := by
  have HO := hide h
  have HC := hide hc
  clear h hc
  by_cases hp : Ov.place l x < l.length
  · have hf : Ov.find l x = (Ov.place l x : Int) := Ov.find_yes hp
    have Hh : Hid (Ov.has l x = true) := by unfold Ov.has; exact decide_eq_true hp
    go_enter Tryz.func66, Tryz.ntmps66
    go_wp2_with (go_at_call 98; refine (oSplace_calls l v x b off base _ hl (unhide HO) (unhide HC) hb).mono ?_; rintro e w1 ⟨rfl, hb1⟩)
    go_ret
    exact ⟨by rw [unhide Hh]; simp, hb1⟩
  · have hf : Ov.find l x = -1 := Ov.find_no hp
    have Hh : Hid (Ov.has l x = false) := by unfold Ov.has; exact decide_eq_false hp
    go_enter Tryz.func66, Tryz.ntmps66
    go_wp2_with (go_at_call 98; refine (oSplace_calls l v x b off base _ hl (unhide HO) (unhide HC) hb).mono ?_; rintro e w1 ⟨rfl, hb1⟩)
    go_ret
    exact ⟨by rw [unhide Hh]; simp, hb1⟩

set_option maxRecDepth 100000 in
set_option maxHeartbeats 400000 in
theorem oSget_calls (l : Ov.Files) (v : Value) (x : ByteArray) (b off base : Nat) (w : World) (hl : l.length ≤ 8) (h : OwnsRows w base v l) (hc : w.cell? ⟨b, off, none⟩ = some v) (hb : b < w.heap.size) :
    Calls Tryz.prog 56 #[.pointer (some ⟨b, off, none⟩), .string x] w fun e w' => e = .returned (.tuple #[.string (Ov.dumpF l x).1, .bool (Ov.has l x)]) ∧ Below w.heap.size w w' := by
  have HO := hide h
  have HC := hide hc
  clear h hc
  by_cases hp : Ov.place l x < l.length
  · have hf : Ov.find l x = (Ov.place l x : Int) := Ov.find_yes hp
    have Hh : Hid (Ov.has l x = true) := by unfold Ov.has; exact decide_eq_true hp
    have HD : Hid ((Ov.dumpF l x).1 = Ov.fileAt l (Ov.place l x)) := by unfold Ov.dumpF; rw [if_pos hp]; exact rfl
    obtain ⟨g, c, rfl⟩ := ownsRow_form (unhide HO) (by omega)
    go_enter Tryz.func56, Tryz.ntmps56
    go_wp2_with (go_at_call 98; refine (oSplace_calls l _ x b off base _ hl (unhide HO) (unhide HC) hb).mono ?_; rintro e w1 ⟨rfl, hb1⟩; have c1 : w1.cell? ⟨b, off, none⟩ = some (.slice (some ⟨g, 0, none⟩) l.length c) := (hb1.cell (p := ⟨b, off, none⟩) hb).trans (unhide HC); have ct := rows_bytes (owns_all (unhide HO) hb1) hp; have HB1 := hide hb1; clear hb1)
    go_ret2
    exact ⟨by rw [unhide Hh, unhide HD]; rfl, unhide HB1⟩
  · have hf : Ov.find l x = -1 := Ov.find_no hp
    have Hh : Hid (Ov.has l x = false) := by unfold Ov.has; exact decide_eq_false hp
    have HD : Hid ((Ov.dumpF l x).1 = ⟨#[]⟩) := by unfold Ov.dumpF; rw [if_neg hp]; exact rfl
    go_enter Tryz.func56, Tryz.ntmps56
    go_wp2_with (go_at_call 98; refine (oSplace_calls l v x b off base _ hl (unhide HO) (unhide HC) hb).mono ?_; rintro e w1 ⟨rfl, hb1⟩)
    go_ret2
    exact ⟨by rw [unhide Hh, unhide HD]; rfl, hb1⟩

set_option maxRecDepth 100000 in
set_option maxHeartbeats 400000 in
theorem oScount_calls (n : Nat) (a : Option Addr) (c b off : Nat) (w : World) (hc : w.cell? ⟨b, off, none⟩ = some (.slice a n c)) :
    Calls Tryz.prog 65 #[.pointer (some ⟨b, off, none⟩)] w fun e w' => e = .returned (.int .i64 n) ∧ w = w' := by
  go_enter Tryz.func65, Tryz.ntmps65
  go_wp2
  go_ret
  exact ⟨rfl, rfl⟩

end Go.Proofs.YtomiepknmmpflaaGreatDoor
