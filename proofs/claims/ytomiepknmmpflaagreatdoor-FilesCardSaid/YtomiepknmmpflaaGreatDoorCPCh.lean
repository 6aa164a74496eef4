/- The program's images by name, in memory: a chain's rows. -/
import Derived.Test.YtomiepknmmpflaaGreatDoorCWOput2
namespace Go.Proofs.YtomiepknmmpflaaGreatDoor
open Go.RowKit Go.Joins

/-- An image as the program holds it: its backing, the block of its clusters, how many, and the number of lost ones. -/
structure Im where
  bk : ByteArray
  g : Nat
  n : Nat
  t : Int
abbrev Ims := List (ByteArray × Im)
/-- The names, with their backings. -/
def fl (L : Ims) : Ov.Files := L.map fun r => (r.1, r.2.bk)
def imVal (m : Im) : Value := .agg #[.string m.bk, .slice (some ⟨m.g, 0, none⟩) m.n m.n, .int .i64 m.t]
def imCells : Ims → List Value
  | [] => []
  | r :: L => .string r.1 :: .string r.2.bk :: .slice (some ⟨r.2.g, 0, none⟩) r.2.n r.2.n :: .int .i64 r.2.t :: imCells L
def imAt (L : Ims) (k : Nat) : Im := (L.getD k (⟨#[]⟩, ⟨⟨#[]⟩, 0, 0, 0⟩)).2
theorem fl_length (L : Ims) : (fl L).length = L.length := by simp [fl]
theorem fl_append (L M : Ims) : fl (L ++ M) = fl L ++ fl M := by simp [fl]
theorem imCells_length (L : Ims) : (imCells L).length = L.length * 4 := by
  induction L with
  | nil => rfl
  | cons r L ih => simp only [imCells, List.length_cons, ih]; omega
theorem imCells_append (L M : Ims) : imCells (L ++ M) = imCells L ++ imCells M := by
  induction L with
  | nil => rfl
  | cons r L ih => simp only [imCells, List.cons_append, ih]
theorem imCells_row {L : Ims} {k : Nat} (h : k < L.length) : (imCells L)[k * 4]? = some (.string (Ov.nameAt (fl L) k)) ∧ (imCells L)[k * 4 + 1]? = some (.string (imAt L k).bk) ∧ (imCells L)[k * 4 + 2]? = some (.slice (some ⟨(imAt L k).g, 0, none⟩) (imAt L k).n (imAt L k).n) ∧ (imCells L)[k * 4 + 3]? = some (.int .i64 (imAt L k).t) := by
  induction L generalizing k with
  | nil => simp at h
  | cons r L ih =>
    cases k with
    | zero => exact ⟨rfl, rfl, rfl, rfl⟩
    | succ k =>
      have := ih (k := k) (by simpa using h)
      have e : (k + 1) * 4 = k * 4 + 4 := by omega
      rw [e]
      exact this
theorem imCells_one (L : Ims) : ∀ u ∈ imCells L, u.oneCell' = true := by
  induction L with
  | nil => intro u hu; cases hu
  | cons r L ih =>
    intro u hu
    simp only [imCells, List.mem_cons] at hu
    rcases hu with rfl | rfl | rfl | rfl | hu
    · rfl
    · rfl
    · rfl
    · rfl
    · exact ih u hu
abbrev OwnsIms (w : World) (base : Nat) (v : Value) (L : Ims) : Prop := w.ownsRow base 151 4 v L.length (imCells L)
theorem ims_row {w : World} {base g c : Nat} {L : Ims} (h : OwnsIms w base (.slice (some ⟨g, 0, none⟩) L.length c) L) {k : Nat} (hk : k < L.length) : w.cell? ⟨g, k * 4, none⟩ = some (.string (Ov.nameAt (fl L) k)) ∧ w.cell? ⟨g, k * 4 + 1, none⟩ = some (.string (imAt L k).bk) ∧ w.cell? ⟨g, k * 4 + 2, none⟩ = some (.slice (some ⟨(imAt L k).g, 0, none⟩) (imAt L k).n (imAt L k).n) ∧ w.cell? ⟨g, k * 4 + 3, none⟩ = some (.int .i64 (imAt L k).t) := by
  obtain ⟨h0, h1, h2, h3⟩ := imCells_row hk
  exact ⟨by rw [h.cellAt _ (by omega), h0], by rw [h.cellAt _ (by omega), h1], by rw [h.cellAt _ (by omega), h2], by rw [h.cellAt _ (by omega), h3]⟩
theorem ims_none {w : World} {base n c : Nat} {a : Option Addr} {L : Ims} (h : w.ownsRow base 151 4 (.slice a n c) n (imCells L)) : a = none → n = 0 ∧ c = 0 := by
  intro e
  subst e
  rcases h.2 with ⟨e, rfl⟩ | ⟨g, cap, cur, e, _⟩
  · simp at e; exact ⟨rfl, e⟩
  · simp at e
theorem ims_holds {w : World} {base c : Nat} {a : Option Addr} {L : Ims} (h : OwnsIms w base (.slice a L.length c) L) : ∀ b, a = some b → ∀ (j : Nat) (u : Value), (imCells L)[j]? = some u → w.cell? (b.add j) = some u := by
  intro b e j u hu
  subst e
  rcases h.2 with ⟨e, _⟩ | ⟨g, cap, cur, e, _⟩
  · simp at e
  · simp at e
    obtain ⟨rfl, rfl⟩ := e
    exact h.cells rfl j u hu

set_option maxRecDepth 100000 in
set_option maxHeartbeats 400000 in
theorem oIplace1_calls (nm bk : ByteArray) (a : Option Addr) (n c : Nat) (t : Int) (x : ByteArray) (B : Nat) (w : World) (hc : w.cell? ⟨B, 0, none⟩ = some (.string x)) (hB : B < w.heap.size) :
    Calls Tryz.prog 142 #[.agg #[.string nm, .string bk, .slice a n c, .int .i64 t], .pointer (some ⟨B, 0, none⟩)] w fun e w' => e = .returned (.bool (nm.toList == x.toList)) ∧ Below w.heap.size w w' := by
  have hc' : ∀ o, (w.alloc o).cell? ⟨B, 0, none⟩ = some (.string x) := fun o => by rw [World.cell?_alloc_past _ _ _ hB]; exact hc
  go_enter Tryz.func142, Tryz.ntmps142
  go_wp2
  go_ret
  exact ⟨rfl, below_alloc1 w _⟩

set_option maxRecDepth 100000 in
set_option maxHeartbeats 400000 in
theorem oIIndex_calls (L : Ims) (v : Value) (x : ByteArray) (B base : Nat) (w : World) (hl : L.length ≤ 8) (h : OwnsIms w base v L) (hc : w.cell? ⟨B, 0, none⟩ = some (.string x)) (hB : B < w.heap.size) :
    Calls Tryz.prog 141 #[v, .func (.func 142) #[] #[.pointer (some ⟨B, 0, none⟩)]] w fun e w' => e = .returned (.int .i64 (Ov.find (fl L) x)) ∧ Below w.heap.size w w' := by
  obtain ⟨a, c, rfl⟩ := owns_slice h
  have HO := hide h
  have HC := hide hc
  clear h hc
  go_enter Tryz.func141, Tryz.ntmps141
  go_wp2_with fail
  go_loopw [8, 5] (fun i _ wr => ∃ k, k ≤ L.length ∧ i = .int .i64 (k : Nat) ∧ Below w.heap.size w wr ∧ ∀ j, j < k → Ov.nameAt (fl L) j ≠ x) (fun i _ _ => L.length - (intOf i).toNat)
  case atStart => exact ⟨0, Nat.zero_le _, rfl, Below.refl _ _, fun j hj => by omega⟩
  case round =>
    obtain ⟨k, hk, rfl, hbel, hall⟩ := hrel
    have HBL := hide hbel
    have HA := hide hall
    have hsz := hbel.size
    clear hbel hall
    by_cases hlt : k < L.length
    · obtain ⟨g, cc, hv⟩ := ownsRow_form (unhide HO) (by omega)
      obtain ⟨rfl, rfl⟩ : a = some ⟨g, 0, none⟩ ∧ c = cc := by simpa using hv
      have HOr := hide (owns_all (unhide HO) (unhide HBL))
      obtain ⟨cn, cb, cs, ct⟩ := ims_row (unhide HOr) hlt
      have hcr : wr.cell? ⟨B, 0, none⟩ = some (.string x) := ((unhide HBL).cell (p := ⟨B, 0, none⟩) hB).trans (unhide HC)
      have hBr : B < wr.heap.size := by omega
      obtain ⟨y, hy⟩ : ∃ y, Ov.nameAt (fl L) k = y := ⟨_, rfl⟩
      obtain ⟨⟨bk, mg, mn, mt⟩, hm⟩ : ∃ m, imAt L k = m := ⟨_, rfl⟩
      rw [hy] at cn
      rw [hm] at cb cs ct
      dsimp only at cb cs ct
      have HY := hide hy
      clear hv hy hm
      by_cases hq : y = x
      · subst hq
        have Hf := hide (Ov.find_eq (l := fl L) (unhide HA) (by rw [fl_length]; exact hlt) (unhide HY))
        have hqt : (y.toList == y.toList) = true := beq_self_eq_true _
        go_wp2_with (go_at_call 142; refine (oIplace1_calls y bk (some ⟨mg, 0, none⟩) mn mn mt y B _ hcr hBr).mono ?_; rintro e w1 ⟨rfl, hb1⟩)
        go_ret
        exact ⟨by rw [unhide Hf]; rfl, (unhide HBL).trans (hb1.mono hsz)⟩
      · have hq' : (y.toList == x.toList) = false := by rw [beq_eq_false_iff_ne, ByteArray.toList_eq, ByteArray.toList_eq]; exact fun e => hq (Go.WideShapes.bytes_inj e)
        go_wp2_with (go_at_call 142; refine (oIplace1_calls y bk (some ⟨mg, 0, none⟩) mn mn mt x B _ hcr hBr).mono ?_; rintro e w1 ⟨rfl, hb1⟩)
        go_roundw
        case rel => exact ⟨k + 1, by omega, by go_num, (unhide HBL).trans (hb1.mono hsz), names_step (unhide HA) (by rw [unhide HY]; exact hq)⟩
        case measure => simp [intOf]; omega
    · have Hf := hide (Ov.find_none (l := fl L) (x := x) (fun j hj => unhide HA j (by rw [fl_length] at hj; omega)))
      go_wp2_with fail
      go_ret
      exact ⟨by rw [unhide Hf]; rfl, unhide HBL⟩

set_option maxRecDepth 100000 in
set_option maxHeartbeats 400000 in
theorem oIplace_calls (L : Ims) (v : Value) (x : ByteArray) (b off base : Nat) (w : World) (hl : L.length ≤ 8) (h : OwnsIms w base v L) (hc : w.cell? ⟨b, off, none⟩ = some v) (hb : b < w.heap.size) :
    Calls Tryz.prog 89 #[.pointer (some ⟨b, off, none⟩), .string x] w fun e w' => e = .returned (.int .i64 (Ov.find (fl L) x)) ∧ Below w.heap.size w w' := by
  obtain ⟨a, c, rfl⟩ := owns_slice h
  have HO := hide h
  have hc' : ∀ o, (w.alloc o).cell? ⟨b, off, none⟩ = some (.slice a L.length c) := fun o => by rw [World.cell?_alloc_past _ _ _ hb]; exact hc
  have hmf : ∀ (fn : Fn) (first cap : Array Value) (w : World), (Instr.makeFunc fn first cap).run Tryz.prog w = .ok (.func fn first cap) w := fun _ _ _ _ => rfl
  clear h hc
  go_enter Tryz.func89, Tryz.ntmps89
  go_wp2_with (go_at_call 141; refine (oIIndex_calls L _ x w.heap.size base _ hl ((unhide HO).alloc _) box_at (by simp)).mono ?_; rintro e w1 ⟨rfl, hb1⟩)
  go_ret
  exact ⟨rfl, (below_alloc1 w _).trans (hb1.mono (by simp))⟩

set_option maxRecDepth 100000 in
set_option maxHeartbeats 400000 in
theorem oIhas_calls (L : Ims) (v : Value) (x : ByteArray) (b off base : Nat) (w : World) (hl : L.length ≤ 8) (h : OwnsIms w base v L) (hc : w.cell? ⟨b, off, none⟩ = some v) (hb : b < w.heap.size) :
    Calls Tryz.prog 96 #[.pointer (some ⟨b, off, none⟩), .string x] w fun e w' => e = .returned (.bool (Ov.has (fl L) x)) ∧ Below w.heap.size w w' := by
  have HO := hide h
  have HC := hide hc
  clear h hc
  by_cases hp : Ov.place (fl L) x < (fl L).length
  · have hf : Ov.find (fl L) x = (Ov.place (fl L) x : Int) := Ov.find_yes hp
    have Hh : Hid (Ov.has (fl L) x = true) := by unfold Ov.has; exact decide_eq_true hp
    go_enter Tryz.func96, Tryz.ntmps96
    go_wp2_with (go_at_call 89; refine (oIplace_calls L v x b off base _ hl (unhide HO) (unhide HC) hb).mono ?_; rintro e w1 ⟨rfl, hb1⟩)
    go_ret
    exact ⟨by rw [unhide Hh]; simp, hb1⟩
  · have hf : Ov.find (fl L) x = -1 := Ov.find_no hp
    have Hh : Hid (Ov.has (fl L) x = false) := by unfold Ov.has; exact decide_eq_false hp
    go_enter Tryz.func96, Tryz.ntmps96
    go_wp2_with (go_at_call 89; refine (oIplace_calls L v x b off base _ hl (unhide HO) (unhide HC) hb).mono ?_; rintro e w1 ⟨rfl, hb1⟩)
    go_ret
    exact ⟨by rw [unhide Hh]; simp, hb1⟩

end Go.Proofs.YtomiepknmmpflaaGreatDoor
