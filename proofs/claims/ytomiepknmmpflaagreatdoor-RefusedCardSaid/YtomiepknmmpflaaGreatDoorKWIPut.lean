/- The program's images by name, in memory: a chain's rows. -/
import Derived.Test.YtomiepknmmpflaaGreatDoorKWODrop2
import Derived.Test.YtomiepknmmpflaaGreatDoorKWParse
import Derived.Test.YtomiepknmmpflaaGreatDoorKWDown
import Derived.Test.YtomiepknmmpflaaGreatDoorKWONew
import Derived.Handy
namespace Go.Proofs.YtomiepknmmpflaaGreatDoor
open Go.RowKit Go.Joins

structure Im where
  bk : ByteArray
  g : Nat
  n : Nat
  t : Int
abbrev Ims := List (ByteArray × Im)
def fl (L : Ims) : Ov.Files := L.map fun r => (r.1, r.2.bk)
def imVal (m : Im) : Value := .agg #[.string m.bk, .slice (some ⟨m.g, 0, none⟩) m.n m.n, .int .i64 m.t]
def imCells : Ims → List Value
  | [] => []
  | r :: L => .string r.1 :: .string r.2.bk :: .slice (some ⟨r.2.g, 0, none⟩) r.2.n r.2.n :: .int .i64 r.2.t :: imCells L
def imAt (L : Ims) (k : Nat) : Im := (L.getD k (⟨#[]⟩, ⟨⟨#[]⟩, 0, 0, 0⟩)).2
theorem fl_length (L : Ims) : (fl L).length = L.length := by simp [fl]
theorem imCells_length (L : Ims) : (imCells L).length = L.length * 4 := by
  induction L with
  | nil => rfl
  | cons r L ih => simp only [imCells, List.length_cons, ih]; omega
theorem imCells_append (L M : Ims) : imCells (L ++ M) = imCells L ++ imCells M := by
  induction L with
  | nil => rfl
  | cons r L ih => simp only [imCells, List.cons_append, ih]
theorem imCells_row {L : Ims} {k : Nat} (h : k < L.length) : (imCells L)[k * 4]? = some (.string (Ov.nameAt (fl L) k)) ∧ (imCells L)[k * 4 + 1]? = some (.string (imAt L k).bk) ∧ (imCells L)[k * 4 + 2]? = some (.slice (some ⟨(imAt L k).g, 0, none⟩) (imAt L k).n (imAt L k).n) ∧ (imCells L)[k * 4 + 3]? = some (.int .i64 (imAt L k).t) := by
  induction L generalizing k with
  | nil => simp at h
  | cons r L ih =>
    cases k with
    | zero => exact ⟨rfl, rfl, rfl, rfl⟩
    | succ k =>
      have := ih (k := k) (by simpa using h)
      have e : (k + 1) * 4 = k * 4 + 4 := by omega
      rw [e]
      exact this
theorem imCells_one (L : Ims) : ∀ u ∈ imCells L, u.oneCell' = true := by
  induction L with
  | nil => intro u hu; cases hu
  | cons r L ih =>
    intro u hu
    simp only [imCells, List.mem_cons] at hu
    rcases hu with rfl | rfl | rfl | rfl | hu
    · rfl
    · rfl
    · rfl
    · rfl
    · exact ih u hu
abbrev OwnsIms (w : World) (base : Nat) (v : Value) (L : Ims) : Prop := w.ownsRow base 151 4 v L.length (imCells L)
theorem ims_row {w : World} {base g c : Nat} {L : Ims} (h : OwnsIms w base (.slice (some ⟨g, 0, none⟩) L.length c) L) {k : Nat} (hk : k < L.length) : w.cell? ⟨g, k * 4, none⟩ = some (.string (Ov.nameAt (fl L) k)) ∧ w.cell? ⟨g, k * 4 + 1, none⟩ = some (.string (imAt L k).bk) ∧ w.cell? ⟨g, k * 4 + 2, none⟩ = some (.slice (some ⟨(imAt L k).g, 0, none⟩) (imAt L k).n (imAt L k).n) ∧ w.cell? ⟨g, k * 4 + 3, none⟩ = some (.int .i64 (imAt L k).t) := by
  obtain ⟨h0, h1, h2, h3⟩ := imCells_row hk
  exact ⟨by rw [h.cellAt _ (by omega), h0], by rw [h.cellAt _ (by omega), h1], by rw [h.cellAt _ (by omega), h2], by rw [h.cellAt _ (by omega), h3]⟩
theorem ims_none {w : World} {base n c : Nat} {a : Option Addr} {L : Ims} (h : w.ownsRow base 151 4 (.slice a n c) n (imCells L)) : a = none → n = 0 ∧ c = 0 := by
  intro e
  subst e
  rcases h.2 with ⟨e, rfl⟩ | ⟨g, cap, cur, e, _⟩
  · simp at e; exact ⟨rfl, e⟩
  · simp at e
theorem ims_holds {w : World} {base c : Nat} {a : Option Addr} {L : Ims} (h : OwnsIms w base (.slice a L.length c) L) : ∀ b, a = some b → ∀ (j : Nat) (u : Value), (imCells L)[j]? = some u → w.cell? (b.add j) = some u := by
  intro b e j u hu
  subst e
  rcases h.2 with ⟨e, _⟩ | ⟨g, cap, cur, e, _⟩
  · simp at e
  · simp at e
    obtain ⟨rfl, rfl⟩ := e
    exact h.cells rfl j u hu

set_option maxRecDepth 100000 in
set_option maxHeartbeats 400000 in
theorem oIplace1_calls (nm bk : ByteArray) (a : Option Addr) (n c : Nat) (t : Int) (x : ByteArray) (B : Nat) (w : World) (hc : w.cell? ⟨B, 0, none⟩ = some (.string x)) (hB : B < w.heap.size) :
    Calls Tryz.prog 142 #[.agg #[.string nm, .string bk, .slice a n c, .int .i64 t], .pointer (some ⟨B, 0, none⟩)] w fun e w' => e = .returned (.bool (nm.toList == x.toList)) ∧ Below w.heap.size w w' := by
  have hc' : ∀ o, (w.alloc o).cell? ⟨B, 0, none⟩ = some (.string x) := fun o => by rw [World.cell?_alloc_past _ _ _ hB]; exact hc
  go_enter Tryz.func142, Tryz.ntmps142
  go_wp2
  go_ret
  exact ⟨rfl, below_alloc1 w _⟩

set_option maxRecDepth 100000 in
set_option maxHeartbeats 400000 in
theorem oIIndex_calls (L : Ims) (v : Value) (x : ByteArray) (B base : Nat) (w : World) (hl : L.length ≤ 8) (h : OwnsIms w base v L) (hc : w.cell? ⟨B, 0, none⟩ = some (.string x)) (hB : B < w.heap.size) :
    Calls Tryz.prog 141 #[v, .func (.func 142) #[] #[.pointer (some ⟨B, 0, none⟩)]] w fun e w' => e = .returned (.int .i64 (Ov.find (fl L) x)) ∧ Below w.heap.size w w' := by
  obtain ⟨a, c, rfl⟩ := owns_slice h
  have HO := hide h
  have HC := hide hc
  clear h hc
  go_enter Tryz.func141, Tryz.ntmps141
  go_wp2_with fail
  go_loopw [8, 5] (fun i _ wr => ∃ k, k ≤ L.length ∧ i = .int .i64 (k : Nat) ∧ Below w.heap.size w wr ∧ ∀ j, j < k → Ov.nameAt (fl L) j ≠ x) (fun i _ _ => L.length - (intOf i).toNat)
  case atStart => exact ⟨0, Nat.zero_le _, rfl, Below.refl _ _, fun j hj => by omega⟩
  case round =>
    obtain ⟨k, hk, rfl, hbel, hall⟩ := hrel
    have HBL := hide hbel
    have HA := hide hall
    have hsz := hbel.size
    clear hbel hall
    by_cases hlt : k < L.length
    · obtain ⟨g, cc, hv⟩ := ownsRow_form (unhide HO) (by omega)
      obtain ⟨rfl, rfl⟩ : a = some ⟨g, 0, none⟩ ∧ c = cc := by simpa using hv
      have HOr := hide (owns_all (unhide HO) (unhide HBL))
      obtain ⟨cn, cb, cs, ct⟩ := ims_row (unhide HOr) hlt
      have hcr : wr.cell? ⟨B, 0, none⟩ = some (.string x) := ((unhide HBL).cell (p := ⟨B, 0, none⟩) hB).trans (unhide HC)
      have hBr : B < wr.heap.size := by omega
      obtain ⟨y, hy⟩ : ∃ y, Ov.nameAt (fl L) k = y := ⟨_, rfl⟩
      obtain ⟨⟨bk, mg, mn, mt⟩, hm⟩ : ∃ m, imAt L k = m := ⟨_, rfl⟩
      rw [hy] at cn
      rw [hm] at cb cs ct
      dsimp only at cb cs ct
      have HY := hide hy
      clear hv hy hm
      by_cases hq : y = x
      · subst hq
        have Hf := hide (Ov.find_eq (l := fl L) (unhide HA) (by rw [fl_length]; exact hlt) (unhide HY))
        have hqt : (y.toList == y.toList) = true := beq_self_eq_true _
        go_wp2_with (go_at_call 142; refine (oIplace1_calls y bk (some ⟨mg, 0, none⟩) mn mn mt y B _ hcr hBr).mono ?_; rintro e w1 ⟨rfl, hb1⟩)
        go_ret
        exact ⟨by rw [unhide Hf]; rfl, (unhide HBL).trans (hb1.mono hsz)⟩
      · have hq' : (y.toList == x.toList) = false := by rw [beq_eq_false_iff_ne, ByteArray.toList_eq, ByteArray.toList_eq]; exact fun e => hq (Go.WideShapes.bytes_inj e)
        go_wp2_with (go_at_call 142; refine (oIplace1_calls y bk (some ⟨mg, 0, none⟩) mn mn mt x B _ hcr hBr).mono ?_; rintro e w1 ⟨rfl, hb1⟩)
        go_roundw
        case rel => exact ⟨k + 1, by omega, by go_num, (unhide HBL).trans (hb1.mono hsz), names_step (unhide HA) (by rw [unhide HY]; exact hq)⟩
        case measure => simp [intOf]; omega
    · have Hf := hide (Ov.find_none (l := fl L) (x := x) (fun j hj => unhide HA j (by rw [fl_length] at hj; omega)))
      go_wp2_with fail
      go_ret
      exact ⟨by rw [unhide Hf]; rfl, unhide HBL⟩

set_option maxRecDepth 100000 in
set_option maxHeartbeats 400000 in
theorem oIplace_calls (L : Ims) (v : Value) (x : ByteArray) (b off base : Nat) (w : World) (hl : L.length ≤ 8) (h : OwnsIms w base v L) (hc : w.cell? ⟨b, off, none⟩ = some v) (hb : b < w.heap.size) :
    Calls Tryz.prog 89 #[.pointer (some ⟨b, off, none⟩), .string x] w fun e w' => e = .returned (.int .i64 (Ov.find (fl L) x)) ∧ Below w.heap.size w w' := by
  obtain ⟨a, c, rfl⟩ := owns_slice h
  have HO := hide h
  have hc' : ∀ o, (w.alloc o).cell? ⟨b, off, none⟩ = some (.slice a L.length c) := fun o => by rw [World.cell?_alloc_past _ _ _ hb]; exact hc
  have hmf : ∀ (fn : Fn) (first cap : Array Value) (w : World), (Instr.makeFunc fn first cap).run Tryz.prog w = .ok (.func fn first cap) w := fun _ _ _ _ => rfl
  clear h hc
  go_enter Tryz.func89, Tryz.ntmps89
  go_wp2_with (go_at_call 141; refine (oIIndex_calls L _ x w.heap.size base _ hl ((unhide HO).alloc _) box_at (by simp)).mono ?_; rintro e w1 ⟨rfl, hb1⟩)
  go_ret
  exact ⟨rfl, (below_alloc1 w _).trans (hb1.mono (by simp))⟩

set_option maxRecDepth 100000 in
set_option maxHeartbeats 400000 in
theorem oIhas_calls (L : Ims) (v : Value) (x : ByteArray) (b off base : Nat) (w : World) (hl : L.length ≤ 8) (h : OwnsIms w base v L) (hc : w.cell? ⟨b, off, none⟩ = some v) (hb : b < w.heap.size) :
    Calls Tryz.prog 96 #[.pointer (some ⟨b, off, none⟩), .string x] w fun e w' => e = .returned (.bool (Ov.has (fl L) x)) ∧ Below w.heap.size w w' := by
  have HO := hide h
  have HC := hide hc
  clear h hc
  by_cases hp : Ov.place (fl L) x < (fl L).length
  · have hf : Ov.find (fl L) x = (Ov.place (fl L) x : Int) := Ov.find_yes hp
    have Hh : Hid (Ov.has (fl L) x = true) := by unfold Ov.has; exact decide_eq_true hp
    go_enter Tryz.func96, Tryz.ntmps96
    go_wp2_with (go_at_call 89; refine (oIplace_calls L v x b off base _ hl (unhide HO) (unhide HC) hb).mono ?_; rintro e w1 ⟨rfl, hb1⟩)
    go_ret
    exact ⟨by rw [unhide Hh]; simp, hb1⟩
  · have hf : Ov.find (fl L) x = -1 := Ov.find_no hp
    have Hh : Hid (Ov.has (fl L) x = false) := by unfold Ov.has; exact decide_eq_false hp
    go_enter Tryz.func96, Tryz.ntmps96
    go_wp2_with (go_at_call 89; refine (oIplace_calls L v x b off base _ hl (unhide HO) (unhide HC) hb).mono ?_; rintro e w1 ⟨rfl, hb1⟩)
    go_ret
    exact ⟨by rw [unhide Hh]; simp, hb1⟩

end Go.Proofs.YtomiepknmmpflaaGreatDoor

namespace Go.Proofs.YtomiepknmmpflaaGreatDoor
open Go.RowKit Go.Joins

theorem blk_new (w : World) (o : Obj) : (w.alloc o).heap[w.heap.size]? = some o := by
  show (w.heap.push _)[w.heap.size]? = _
  simp
theorem dec_itoa : ∀ n : Fin 100, (⟨(Lib.decDigits n.val).toArray⟩ : ByteArray) = dec n.val := by decide +kernel
theorem oItoa_is {v : Int} {n : Nat} {D : ByteArray} (hv : v = (n : Int)) (hn : n < 100) (hd : dec n = D) (w : World) : Calls Tryz.prog 102 #[.int .i64 v] w fun e w' => e = .returned (.string D) ∧ w' = w := by
  subst hv; subst hd
  have := Tryz.strconv_Itoa_small n hn w
  rw [dec_itoa ⟨n, hn⟩] at this
  exact this
theorem cntTo_three (s : ByteArray) (m k : Nat) (hk : k ≤ m) : cntTo (Ov.kindsTo s m) 1 k + cntTo (Ov.kindsTo s m) 255 k + cntTo (Ov.kindsTo s m) 0 k = k := by
  induction k with
  | zero => rfl
  | succ k ih =>
    have ih := ih (by omega)
    have hq : (Ov.kindsTo s m).getD k 0 = Ov.kindOf (Ov.ent s k) := by
      unfold Ov.kindsTo
      rw [List.getD_eq_getElem?_getD, List.getElem?_map, List.getElem?_range (by omega)]; rfl
    simp only [cntTo, hq]
    unfold Ov.kindOf
    split
    · simp; omega
    · split
      · simp; omega
      · simp; omega
theorem rowTo_at {s : ByteArray} (hh : Ov.headOk s) {m k : Nat} (hg : Ov.goodTo s m) (hk : k < m) (j : Nat) (hj : j < 9) : (rowTo s m)[k * 9 + j]? = (clCells s k)[j]? := by
  induction m with
  | zero => omega
  | succ m ih =>
    have hl := rowTo_length hh (k := m) (fun i hi => hg i (by omega))
    rw [rowTo]
    by_cases h : k < m
    · rw [List.getElem?_append_left (by omega)]; exact ih (fun i hi => hg i (by omega)) h
    · obtain rfl : k = m := by omega
      rw [List.getElem?_append_right (by omega), hl, Nat.add_sub_cancel_left]
def kindN (e : Nat) : Int := if e = 0 then 0 else if e = 255 then 1 else 2
theorem byteVals_int {l : List UInt8} {v : Value} (h : v ∈ byteVals l) : ∃ n : Int, v = .int .u8 n := by
  unfold byteVals at h
  rw [List.mem_map] at h
  obtain ⟨b, _, rfl⟩ := h
  exact ⟨_, rfl⟩
theorem clCells_tail {s : ByteArray} {k : Nat} : ∃ l, clCells s k = .int .i64 (kindN (Ov.ent s k)) :: l ∧ ∀ v ∈ l, ∃ n : Int, v = .int .u8 n := by
  unfold clCells kindN
  have hz : ∀ v ∈ zero8, ∃ n : Int, v = .int .u8 n := fun v hv => ⟨0, by unfold zero8 at hv; simpa using hv⟩
  split
  · exact ⟨_, rfl, hz⟩
  · split
    · exact ⟨_, rfl, hz⟩
    · exact ⟨_, rfl, fun v hv => byteVals_int hv⟩
theorem clCells_nine {s : ByteArray} (hh : Ov.headOk s) {k : Nat} (hok : Ov.entOk s k) : ∃ b1 b2 b3 b4 b5 b6 b7 b8 : Int, clCells s k = [.int .i64 (kindN (Ov.ent s k)), .int .u8 b1, .int .u8 b2, .int .u8 b3, .int .u8 b4, .int .u8 b5, .int .u8 b6, .int .u8 b7, .int .u8 b8] := by
  have hl := cl_length hh hok
  obtain ⟨l, h0, hi⟩ := clCells_tail (s := s) (k := k)
  rw [h0] at hl ⊢
  match l, hl, hi with
  | [x1, x2, x3, x4, x5, x6, x7, x8], _, hi =>
    obtain ⟨n1, rfl⟩ := hi x1 (by simp)
    obtain ⟨n2, rfl⟩ := hi x2 (by simp)
    obtain ⟨n3, rfl⟩ := hi x3 (by simp)
    obtain ⟨n4, rfl⟩ := hi x4 (by simp)
    obtain ⟨n5, rfl⟩ := hi x5 (by simp)
    obtain ⟨n6, rfl⟩ := hi x6 (by simp)
    obtain ⟨n7, rfl⟩ := hi x7 (by simp)
    obtain ⟨n8, rfl⟩ := hi x8 (by simp)
    exact ⟨n1, n2, n3, n4, n5, n6, n7, n8, rfl⟩
theorem row_cell {w : World} {g : Nat} {s : ByteArray} {m k : Nat} (h : w.heap[g]? = some (.cells (rowTo s m).toArray 160 (0, 0))) (hh : Ov.headOk s) (hg : Ov.goodTo s m) (hk : k < m) {j : Nat} (hj : j < 9) {v : Value} (hv : (clCells s k)[j]? = some v) : w.cell? ⟨g, k * 9 + j, none⟩ = some v := by
  rw [cell_of_block h]
  show (rowTo s m).toArray[k * 9 + j]? = some v
  rw [List.getElem?_toArray, rowTo_at hh hg hk j hj, hv]

set_option maxRecDepth 100000 in
set_option maxHeartbeats 1000000 in
theorem otally_calls (s : ByteArray) (g m t : Nat) (w : World) (him : Ov.isImage s) (hm : Ov.many s = m) (ht : Ov.lost s = (t : Int)) (hr : w.heap[g]? = some (.cells (rowTo s m).toArray 160 (0, 0))) :
    Calls Tryz.prog 58 #[.agg #[.string (Ov.backing s), .slice (some ⟨g, 0, none⟩) m m, .int .i64 t]] w fun e w' => e = .returned (.string (tally s)) ∧ Below w.heap.size w w' := by
  have hm30 : m ≤ 30 := by rw [← hm]; exact him.1.2.2.2.2.2.1
  have hd60 : Ov.datas s ≤ 60 := him.1.2.2.2.2.2.2.2.2.2.1
  have hlo := Ov.lostTo_bd s (Ov.datas s)
  have ht60 : t ≤ 60 := by unfold Ov.lost at ht; omega
  have HT : Hid (tally s = tallyOf (cntTo (Ov.kindsTo s (Ov.many s)) 1 (Ov.many s)) (cntTo (Ov.kindsTo s (Ov.many s)) 255 (Ov.many s)) (Ov.many s - cntTo (Ov.kindsTo s (Ov.many s)) 1 (Ov.many s) - cntTo (Ov.kindsTo s (Ov.many s)) 255 (Ov.many s)) (Ov.lost s).toNat) := rfl
  have Him := hide him
  have HM := hide hm
  have HR : Hid ((w.alloc (.cells #[.string (Ov.backing s), .slice (some ⟨g, 0, none⟩) m m, .int .i64 t] 90)).heap[g]? = some (.cells (rowTo s m).toArray 160 (0, 0))) := by rw [Below.heap_alloc _ _ _ (blk_lt hr)]; exact hr
  have HLo := hide ht
  clear him hm hd60 hlo hr ht
  go_enter Tryz.func58, Tryz.ntmps58
  go_wp2_with fail
  go_loopw [3, 4, 5, 11] (fun d z o i wr => ∃ k : Nat, k ≤ m ∧ i = .int .i64 k ∧ d = .int .i64 (cntTo (Ov.kindsTo s m) 1 k : Nat) ∧ z = .int .i64 (cntTo (Ov.kindsTo s m) 255 k : Nat) ∧ o = .int .i64 (cntTo (Ov.kindsTo s m) 0 k : Nat) ∧ Below w.heap.size w wr ∧ wr.heap[w.heap.size]? = some (.cells #[.string (Ov.backing s), .slice (some ⟨g, 0, none⟩) m m, .int .i64 t] 90 (0, 0)) ∧ wr.heap[g]? = some (.cells (rowTo s m).toArray 160 (0, 0))) (fun _ _ _ i _ => m - (intOf i).toNat)
  case atStart => exact ⟨0, Nat.zero_le _, rfl, rfl, rfl, rfl, (Below.refl _ _).alloc (Nat.le_refl _) _, blk_new _ _, unhide HR⟩
  case round =>
    obtain ⟨k, hk, rfl, rfl, rfl, rfl, hB, hmb, hrw⟩ := hrel
    have HB := hide hB
    have xt : wr.cell? ⟨w.heap.size, 2, none⟩ = some (.int .i64 t) := blk_cell hmb rfl
    have HMB := hide hmb
    have HRw := hide hrw
    clear hB hmb hrw
    have hc1 := cntTo_le (Ov.kindsTo s m) 1 k
    have hc2 := cntTo_le (Ov.kindsTo s m) 255 k
    have hc3 := cntTo_le (Ov.kindsTo s m) 0 k
    by_cases hlt : k < m
    · have hgd : Ov.goodTo s m := by rw [← unhide HM]; exact (unhide Him).2
      obtain ⟨b1, b2, b3, b4, b5, b6, b7, b8, hcl⟩ := clCells_nine (unhide Him).1 (hgd k hlt)
      have hq : (Ov.kindsTo s m).getD k 0 = Ov.kindOf (Ov.ent s k) := by
        unfold Ov.kindsTo
        rw [List.getD_eq_getElem?_getD, List.getElem?_map, List.getElem?_range (by omega)]; rfl
      obtain ⟨q, hqe⟩ : ∃ q, kindN (Ov.ent s k) = q := ⟨_, rfl⟩
      have HQ := hide hq
      have HQE := hide hqe
      rw [hqe] at hcl
      have x0 := row_cell (unhide HRw) (unhide Him).1 hgd hlt (j := 0) (by omega) (by rw [hcl]; rfl)
      have x1 := row_cell (unhide HRw) (unhide Him).1 hgd hlt (j := 1) (by omega) (by rw [hcl]; rfl)
      have x2 := row_cell (unhide HRw) (unhide Him).1 hgd hlt (j := 2) (by omega) (by rw [hcl]; rfl)
      have x3 := row_cell (unhide HRw) (unhide Him).1 hgd hlt (j := 3) (by omega) (by rw [hcl]; rfl)
      have x4 := row_cell (unhide HRw) (unhide Him).1 hgd hlt (j := 4) (by omega) (by rw [hcl]; rfl)
      have x5 := row_cell (unhide HRw) (unhide Him).1 hgd hlt (j := 5) (by omega) (by rw [hcl]; rfl)
      have x6 := row_cell (unhide HRw) (unhide Him).1 hgd hlt (j := 6) (by omega) (by rw [hcl]; rfl)
      have x7 := row_cell (unhide HRw) (unhide Him).1 hgd hlt (j := 7) (by omega) (by rw [hcl]; rfl)
      have x8 := row_cell (unhide HRw) (unhide Him).1 hgd hlt (j := 8) (by omega) (by rw [hcl]; rfl)
      clear hcl hq hqe hgd
      rw [Nat.add_zero] at x0
      by_cases e0 : Ov.ent s k = 0
      · have h0 : q = 0 := by rw [← unhide HQE]; unfold kindN; rw [if_pos e0]
        have HK : Hid ((Ov.kindsTo s m).getD k 0 = 0) := by rw [unhide HQ]; unfold Ov.kindOf; rw [if_pos e0]; exact rfl
        subst h0
        clear e0
        go_wp2_with fail
        go_roundw
        case rel => exact ⟨k + 1, by omega, by go_num, by rw [cntTo, if_neg (by rw [unhide HK]; omega)]; go_num, by rw [cntTo, if_neg (by rw [unhide HK]; omega)]; go_num, by rw [cntTo, if_pos (unhide HK)]; go_num, (unhide HB).alloc (unhide HB).size _, blk_alloc (unhide HMB) _, blk_alloc (unhide HRw) _⟩
        case measure => simp [intOf]; omega
      by_cases e255 : Ov.ent s k = 255
      · have h0 : q = 1 := by rw [← unhide HQE]; unfold kindN; rw [if_neg e0, if_pos e255]
        have HK : Hid ((Ov.kindsTo s m).getD k 0 = 255) := by rw [unhide HQ]; unfold Ov.kindOf; rw [if_neg e0, if_pos e255]; exact rfl
        subst h0
        clear e0 e255
        go_wp2_with fail
        go_roundw
        case rel => exact ⟨k + 1, by omega, by go_num, by rw [cntTo, if_neg (by rw [unhide HK]; omega)]; go_num, by rw [cntTo, if_pos (unhide HK)]; go_num, by rw [cntTo, if_neg (by rw [unhide HK]; omega)]; go_num, (unhide HB).alloc (unhide HB).size _, blk_alloc (unhide HMB) _, blk_alloc (unhide HRw) _⟩
        case measure => simp [intOf]; omega
      have h0 : q = 2 := by rw [← unhide HQE]; unfold kindN; rw [if_neg e0, if_neg e255]
      have HK : Hid ((Ov.kindsTo s m).getD k 0 = 1) := by rw [unhide HQ]; unfold Ov.kindOf; rw [if_neg e0, if_neg e255]; exact rfl
      subst h0
      clear e0 e255
      go_wp2_with fail
      go_roundw
      case rel => exact ⟨k + 1, by omega, by go_num, by rw [cntTo, if_pos (unhide HK)]; go_num, by rw [cntTo, if_neg (by rw [unhide HK]; omega)]; go_num, by rw [cntTo, if_neg (by rw [unhide HK]; omega)]; go_num, (unhide HB).alloc (unhide HB).size _, blk_alloc (unhide HMB) _, blk_alloc (unhide HRw) _⟩
      case measure => simp [intOf]; omega
    · obtain rfl : k = m := by omega
      have hc4 := cntTo_three s k k (Nat.le_refl _)
      have HT2 : Hid (tally s = tallyOf (cntTo (Ov.kindsTo s k) 1 k) (cntTo (Ov.kindsTo s k) 255 k) (cntTo (Ov.kindsTo s k) 0 k) t) := by
        rw [unhide HT, unhide HM, unhide HLo]
        show _ = tallyOf _ _ _ _
        congr 1; omega
      generalize cntTo (Ov.kindsTo s k) 1 k = d at *
      generalize cntTo (Ov.kindsTo s k) 255 k = z at *
      generalize cntTo (Ov.kindsTo s k) 0 k = o at *
      obtain ⟨D1, e1⟩ : ∃ D, dec d = D := ⟨_, rfl⟩
      obtain ⟨D2, e2⟩ : ∃ D, dec z = D := ⟨_, rfl⟩
      obtain ⟨D3, e3⟩ : ∃ D, dec o = D := ⟨_, rfl⟩
      obtain ⟨D4, e4⟩ : ∃ D, dec t = D := ⟨_, rfl⟩
      have s1 : D1.size ≤ 2 := by rw [← e1]; exact dec_size _
      have s2 : D2.size ≤ 2 := by rw [← e2]; exact dec_size _
      have s3 : D3.size ≤ 2 := by rw [← e3]; exact dec_size _
      have s4 : D4.size ≤ 2 := by rw [← e4]; exact dec_size _
      have E1 := hide e1
      have E2 := hide e2
      have E3 := hide e3
      have E4 := hide e4
      have HR2 : Hid (tally s = D1 ++ comma ++ D2 ++ comma ++ D3 ++ comma ++ D4) := by
        rw [unhide HT2, tallyOf, ← e1, ← e2, ← e3, ← e4]; exact rfl
      clear e1 e2 e3 e4
      go_wp2_with fail
      go_quiet ((first | (go_at_call_of 102 (Value.int IntKind.i64 (d : Int)); exact Calls.quiet_of_same (oItoa_is rfl (by omega) (unhide E1) _)) | (go_at_call_of 102 (Value.int IntKind.i64 (z : Int)); exact Calls.quiet_of_same (oItoa_is rfl (by omega) (unhide E2) _)) | (go_at_call_of 102 (Value.int IntKind.i64 (o : Int)); exact Calls.quiet_of_same (oItoa_is rfl (by omega) (unhide E3) _)) | (go_at_call_of 102 (Value.int IntKind.i64 (t : Int)); exact Calls.quiet_of_same (oItoa_is rfl (by omega) (unhide E4) _))))
      go_wp2_with fail
      go_ret
      exact ⟨by rw [unhide HR2]; rfl, (unhide HB).trans (below_draws _ _ _)⟩

end Go.Proofs.YtomiepknmmpflaaGreatDoor

namespace Go.Proofs.YtomiepknmmpflaaGreatDoor
open Go.RowKit Go.Joins

theorem four_new {w : World} {x y z q : Value} {t : TypeId} {b : Nat} (hb : b = w.heap.size) : ∀ (j : Nat) (u : Value), [x, y, z, q][j]? = some u → (w.alloc (.cells #[x, y, z, q] t)).cell? ((⟨b, 0, none⟩ : Addr).add j) = some u := by
  subst hb
  intro j u hj
  have e : (⟨w.heap.size, 0, none⟩ : Addr).add j = ⟨w.heap.size, j, none⟩ := by simp [Addr.add]; exact fun h => h.symm
  rw [e, cell_alloc_mark_at w #[x, y, z, q] t (0, 0) _ j rfl, ← hj]
  simp
theorem Tryz.infoRowI : (Tryz.prog.info? 151).map (fun i => (i.zero, i.size, i.bytes)) = some (some (.agg #[.string ⟨#[]⟩, .string ⟨#[]⟩, .slice none 0 0, .int .i64 0]), 4, 64) := by kernel_rfl
structure IPutLeft (w : World) (b : Nat) (v : Value) (L : Ims) (v' : Value) (w' : World) : Prop where
  blk : w'.heap[b]? = some (.cells #[v'] 132 (0, 0))
  own : OwnsIms w' 0 v' L
  ne : some b ≠ v'.ownBlock
  fr : OFr w w' b v.ownBlock
  row : v'.ownBlock = v.ownBlock ∨ ∀ k, v'.ownBlock = some k → w.heap.size ≤ k
theorem iput_grown {w w1 w2 w3 : World} {b : Nat} {v v3 : Value} {L : Ims} {x : ByteArray} {m : Im} {o : Obj} (hblk : w.heap[b]? = some (.cells #[v] 132 (0, 0))) (h1 : Below w.heap.size w w1) (h2 : Below w1.heap.size w1 w2) (h3 : (w2.alloc o).grownBy w3 none)
    (ho : w3.ownsRow (w2.alloc o).heap.size 151 4 v3 (L.length + 1) (imCells L ++ [.string x, .string m.bk, .slice (some ⟨m.g, 0, none⟩) m.n m.n, .int .i64 m.t])) : IPutLeft w b v (L ++ [(x, m)]) v3 (w3.setCell ⟨b, 0, none⟩ v3) := by
  have hlt := blk_lt hblk
  have s1 := h1.size
  have s2 := h2.size
  have hne : some b ≠ v3.ownBlock := owns_ne ho (by simp; omega)
  have hbel : Below w.heap.size w w3 := ((h1.trans (h2.mono s1)).alloc (by omega) o).grown h3 (by simp; omega) (fun k hk => by cases hk)
  refine ⟨blk_set_same (put_blk hblk h1 h2 h3) v3, ?_, hne, (OFr.of_below hbel _ _).trans (OFr.set_blk w3 b 0 _ v3), Or.inr fun k hk => ?_⟩
  · have := owns_set (ownsRow_le ho (Nat.zero_le _)) (a := ⟨b, 0, none⟩) hne v3
    unfold OwnsIms
    rw [imCells_append, List.length_append]
    exact this
  · have := (ho.lt k hk).1
    simp at this; omega

set_option maxRecDepth 100000 in
set_option maxHeartbeats 2000000 in
theorem oIput_grows (L : Ims) (a : Option Addr) (c : Nat) (x bk : ByteArray) (mg mn : Nat) (mt : Int) (b : Nat) (w : World) (hl : L.length ≤ 8) (hblk : w.heap[b]? = some (.cells #[.slice a L.length c] 132 (0, 0))) (hown : OwnsIms w 0 (.slice a L.length c) L) (hp : ¬ Ov.place (fl L) x < (fl L).length) (hx : x.size ≤ 1000) (hcap : c < L.length + 1) :
    Calls Tryz.prog 132 #[.pointer (some ⟨b, 0, none⟩), .string x, .agg #[.string bk, .slice (some ⟨mg, 0, none⟩) mn mn, .int .i64 mt]] w fun e w' => e = .returned (.tuple #[]) ∧ ∃ v', IPutLeft w b (.slice a L.length c) (L ++ [(x, ⟨bk, mg, mn, mt⟩)]) v' w' := by
  have HB := hide hblk
  have HO := hide hown
  have hbl := blk_lt hblk
  have hf : Ov.find (fl L) x = -1 := Ov.find_no hp
  obtain ⟨i0, hi, hz0, hz1, hz2⟩ := info_parts Tryz.infoRowI
  clear hblk hown
  go_enter Tryz.func132, Tryz.ntmps132
  go_wp2_with (go_at_call 89; refine (oIplace_calls L _ x b 0 0 _ hl ((unhide HO).alloc _) (blk_cell (blk_alloc (unhide HB) _) rfl) (blk_lt (blk_alloc (unhide HB) _))).mono ?_; rintro e w1 ⟨rfl, hb1⟩; have c1 : w1.cell? ⟨b, 0, none⟩ = some (.slice a L.length c) := (hb1.cell (p := ⟨b, 0, none⟩) (blk_lt (blk_alloc (unhide HB) _))).trans (blk_cell (blk_alloc (unhide HB) _) rfl); have HT : Hid (w1.heap[w.heap.size]? = some (.cells #[.string bk, .slice (some ⟨mg, 0, none⟩) mn mn, .int .i64 mt] 90 (0, 0))) := (hb1.block _ (by simp)).trans (blk_new _ _); have HB1 : Hid (Below w.heap.size w w1) := (below_alloc1 w _).trans (hb1.mono (by simp)); have hsz1 : w.heap.size < w1.heap.size := blk_lt (unhide HT); have hbl1 : b < w1.heap.size := (by omega); have q0 : w1.cell? ⟨w.heap.size, 0, none⟩ = some (.string bk) := blk_cell (unhide HT) rfl; have q1 : w1.cell? ⟨w.heap.size, 1, none⟩ = some (.slice (some ⟨mg, 0, none⟩) mn mn) := blk_cell (unhide HT) rfl; have q2 : w1.cell? ⟨w.heap.size, 2, none⟩ = some (.int .i64 mt) := blk_cell (unhide HT) rfl; clear hb1)
  go_region_law (first | (refine step_append_grows rfl (.tmp 24) (.tmp 29) 130 rfl 151 i0 (.agg #[.string ⟨#[]⟩, .string ⟨#[]⟩, .slice none 0 0, .int .i64 0]) 4 64 Tryz.underlying130 hi hz0 hz1 hz2 rfl (by decide) a L.length c (imCells L) (by simp [Act.eval]) (ims_none (unhide HO)) (imCells_length L) (ims_holds ((owns_all (owns_all (unhide HO) (unhide HB1)) (unhide HB2)).alloc _)) ⟨w2.heap.size, 0, none⟩ 1 1 [.string x, .string bk, .slice (some ⟨mg, 0, none⟩) mn mn, .int .i64 mt] (by simp [Act.eval]) rfl (four_new rfl) (imCells_one [(x, ⟨bk, mg, mn, mt⟩)]) hcap (by unfold maxLen; omega) (by omega) ?_; intro v3 w3 ho3 hg3; obtain ⟨g3, c3, rfl⟩ := ownsRow_form ho3 (by omega); have c4 : w3.cell? ⟨b, 0, none⟩ = some (.slice a L.length c) := put_cell c1 hbl1 (unhide HB2) hg3; have f4 := put_frozen (unhide HB) (unhide HB1) (unhide HB2) hg3) | (go_simp; go_at_call 67; refine (oClone_calls x _ hx).mono ?_; rintro e w2 ⟨rfl, hb2⟩; have HB2 : Hid (Below w1.heap.size w1 w2) := ((Below.refl w1.heap.size w1).drew).trans hb2; have c2 : w2.cell? ⟨b, 0, none⟩ = some (.slice a L.length c) := ((unhide HB2).cell (p := ⟨b, 0, none⟩) hbl1).trans c1; have hbl2 : b < w2.heap.size := Nat.lt_of_lt_of_le hbl1 (unhide HB2).size; have p0 : w2.cell? ⟨w.heap.size, 0, none⟩ = some (.string bk) := ((unhide HB2).cell (p := ⟨w.heap.size, 0, none⟩) hsz1).trans q0; have p1 : w2.cell? ⟨w.heap.size, 1, none⟩ = some (.slice (some ⟨mg, 0, none⟩) mn mn) := ((unhide HB2).cell (p := ⟨w.heap.size, 1, none⟩) hsz1).trans q1; have p2 : w2.cell? ⟨w.heap.size, 2, none⟩ = some (.int .i64 mt) := ((unhide HB2).cell (p := ⟨w.heap.size, 2, none⟩) hsz1).trans q2; have c3 : ∀ o, (w2.alloc o).cell? ⟨b, 0, none⟩ = some (.slice a L.length c) := fun o => (World.cell?_alloc_past _ _ _ hbl2).trans c2; clear hb2))
  all_goals (go_wp2_with fail; go_end0; exact ⟨rfl, _, iput_grown (m := ⟨bk, mg, mn, mt⟩) (unhide HB) (unhide HB1) (unhide HB2) hg3 ho3⟩)

theorem iput_roomy {w w1 w2 w3 : World} {b g c : Nat} {L : Ims} {x : ByteArray} {m : Im} {o : Obj} (hblk : w.heap[b]? = some (.cells #[.slice (some ⟨g, 0, none⟩) L.length c] 132 (0, 0))) (h1 : Below w.heap.size w w1) (h2 : Below w1.heap.size w1 w2) (hbg : b ≠ g) (h3 : (w2.alloc o).grownBy w3 (some g))
    (ho : w3.ownsRow 0 151 4 (.slice (some ⟨g, 0, none⟩) (L.length + 1) c) (L.length + 1) (imCells L ++ [.string x, .string m.bk, .slice (some ⟨m.g, 0, none⟩) m.n m.n, .int .i64 m.t])) :
    IPutLeft w b (.slice (some ⟨g, 0, none⟩) L.length c) (L ++ [(x, m)]) (.slice (some ⟨g, 0, none⟩) (L.length + 1) c) (w3.setCell ⟨b, 0, none⟩ (.slice (some ⟨g, 0, none⟩) (L.length + 1) c)) := by
  have s1 := h1.size
  have s2 := h2.size
  have hne : some b ≠ (Value.slice (some ⟨g, 0, none⟩) (L.length + 1) c).ownBlock := by simp [Value.ownBlock, hbg]
  have hfr : OFr w w3 b (some g) := by
    have sz := h3.size
    simp only [World.size_alloc] at sz
    refine ⟨h3.os.trans (h2.os.trans h1.os), h3.tape.trans (h2.tape.trans h1.tape), h3.output.trans (h2.output.trans h1.output), by omega, fun k hk _ hr => ?_⟩
    rw [h3.block k (by simp; omega) hr, Below.heap_alloc _ _ _ (by omega), h2.block k (by omega), h1.block k hk]
  refine ⟨blk_set_same (put_blk2 hblk h1 h2 hbg h3) _, ?_, hne, hfr.trans (OFr.set_blk w3 b 0 _ _), Or.inl rfl⟩
  have := owns_set ho (a := ⟨b, 0, none⟩) hne (.slice (some ⟨g, 0, none⟩) (L.length + 1) c)
  unfold OwnsIms
  rw [imCells_append, List.length_append]
  exact this

set_option maxRecDepth 100000 in
set_option maxHeartbeats 2000000 in
theorem oIput_room (L : Ims) (g c : Nat) (x bk : ByteArray) (mg mn : Nat) (mt : Int) (b : Nat) (w : World) (hl : L.length ≤ 8) (hblk : w.heap[b]? = some (.cells #[.slice (some ⟨g, 0, none⟩) L.length c] 132 (0, 0))) (hown : OwnsIms w 0 (.slice (some ⟨g, 0, none⟩) L.length c) L) (hp : ¬ Ov.place (fl L) x < (fl L).length) (hx : x.size ≤ 1000) (hne : some b ≠ (Value.slice (some ⟨g, 0, none⟩) L.length c).ownBlock) (hcap : L.length + 1 ≤ c) :
    Calls Tryz.prog 132 #[.pointer (some ⟨b, 0, none⟩), .string x, .agg #[.string bk, .slice (some ⟨mg, 0, none⟩) mn mn, .int .i64 mt]] w fun e w' => e = .returned (.tuple #[]) ∧ ∃ v', IPutLeft w b (.slice (some ⟨g, 0, none⟩) L.length c) (L ++ [(x, ⟨bk, mg, mn, mt⟩)]) v' w' := by
  have HB := hide hblk
  have HO := hide hown
  have hbl := blk_lt hblk
  have hf : Ov.find (fl L) x = -1 := Ov.find_no hp
  obtain ⟨i0, hi, hz0, hz1, hz2⟩ := info_parts Tryz.infoRowI
  have hbg : b ≠ g := fun e => hne (by rw [e]; rfl)
  clear hblk hown hne
  go_enter Tryz.func132, Tryz.ntmps132
  go_wp2_with (go_at_call 89; refine (oIplace_calls L _ x b 0 0 _ hl ((unhide HO).alloc _) (blk_cell (blk_alloc (unhide HB) _) rfl) (blk_lt (blk_alloc (unhide HB) _))).mono ?_; rintro e w1 ⟨rfl, hb1⟩; have c1 : w1.cell? ⟨b, 0, none⟩ = some (.slice (some ⟨g, 0, none⟩) L.length c) := (hb1.cell (p := ⟨b, 0, none⟩) (blk_lt (blk_alloc (unhide HB) _))).trans (blk_cell (blk_alloc (unhide HB) _) rfl); have HT : Hid (w1.heap[w.heap.size]? = some (.cells #[.string bk, .slice (some ⟨mg, 0, none⟩) mn mn, .int .i64 mt] 90 (0, 0))) := (hb1.block _ (by simp)).trans (blk_new _ _); have HB1 : Hid (Below w.heap.size w w1) := (below_alloc1 w _).trans (hb1.mono (by simp)); have hsz1 : w.heap.size < w1.heap.size := blk_lt (unhide HT); have hbl1 : b < w1.heap.size := (by omega); have q0 : w1.cell? ⟨w.heap.size, 0, none⟩ = some (.string bk) := blk_cell (unhide HT) rfl; have q1 : w1.cell? ⟨w.heap.size, 1, none⟩ = some (.slice (some ⟨mg, 0, none⟩) mn mn) := blk_cell (unhide HT) rfl; have q2 : w1.cell? ⟨w.heap.size, 2, none⟩ = some (.int .i64 mt) := blk_cell (unhide HT) rfl; clear hb1)
  go_region_law (first | (refine step_append_row rfl (.tmp 24) (.tmp 29) 130 rfl 0 151 i0 (.agg #[.string ⟨#[]⟩, .string ⟨#[]⟩, .slice none 0 0, .int .i64 0]) 4 64 Tryz.underlying130 hi hz0 hz1 hz2 rfl (by decide) g L.length c (imCells L) (by simp [Act.eval]) ((owns_all (owns_all (unhide HO) (unhide HB1)) (unhide HB2)).alloc _) ⟨w2.heap.size, 0, none⟩ 1 1 [.string x, .string bk, .slice (some ⟨mg, 0, none⟩) mn mn, .int .i64 mt] (by simp [Act.eval]) rfl (four_new rfl) (imCells_one [(x, ⟨bk, mg, mn, mt⟩)]) hcap (by unfold maxLen; omega) (by omega) (Nat.zero_le _) ?_; intro w3 ho3 hg3 _; have c4 : w3.cell? ⟨b, 0, none⟩ = some (.slice (some ⟨g, 0, none⟩) L.length c) := put_cell2 c1 hbl1 (unhide HB2) hbg hg3; have f4 := blk_frozen (put_blk2 (unhide HB) (unhide HB1) (unhide HB2) hbg hg3)) | (go_simp; go_at_call 67; refine (oClone_calls x _ hx).mono ?_; rintro e w2 ⟨rfl, hb2⟩; have HB2 : Hid (Below w1.heap.size w1 w2) := ((Below.refl w1.heap.size w1).drew).trans hb2; have c2 : w2.cell? ⟨b, 0, none⟩ = some (.slice (some ⟨g, 0, none⟩) L.length c) := ((unhide HB2).cell (p := ⟨b, 0, none⟩) hbl1).trans c1; have hbl2 : b < w2.heap.size := Nat.lt_of_lt_of_le hbl1 (unhide HB2).size; have p0 : w2.cell? ⟨w.heap.size, 0, none⟩ = some (.string bk) := ((unhide HB2).cell (p := ⟨w.heap.size, 0, none⟩) hsz1).trans q0; have p1 : w2.cell? ⟨w.heap.size, 1, none⟩ = some (.slice (some ⟨mg, 0, none⟩) mn mn) := ((unhide HB2).cell (p := ⟨w.heap.size, 1, none⟩) hsz1).trans q1; have p2 : w2.cell? ⟨w.heap.size, 2, none⟩ = some (.int .i64 mt) := ((unhide HB2).cell (p := ⟨w.heap.size, 2, none⟩) hsz1).trans q2; have c3 : ∀ o, (w2.alloc o).cell? ⟨b, 0, none⟩ = some (.slice (some ⟨g, 0, none⟩) L.length c) := fun o => (World.cell?_alloc_past _ _ _ hbl2).trans c2; clear hb2))
  all_goals (go_wp2_with fail; go_end0; exact ⟨rfl, _, iput_roomy (m := ⟨bk, mg, mn, mt⟩) (unhide HB) (unhide HB1) (unhide HB2) hbg hg3 ho3⟩)

theorem oIput_calls (L : Ims) (v : Value) (x bk : ByteArray) (mg mn : Nat) (mt : Int) (b : Nat) (w : World) (hl : L.length ≤ 8) (hblk : w.heap[b]? = some (.cells #[v] 132 (0, 0))) (hown : OwnsIms w 0 v L) (hp : ¬ Ov.place (fl L) x < (fl L).length) (hx : x.size ≤ 1000) (hne : some b ≠ v.ownBlock) :
    Calls Tryz.prog 132 #[.pointer (some ⟨b, 0, none⟩), .string x, .agg #[.string bk, .slice (some ⟨mg, 0, none⟩) mn mn, .int .i64 mt]] w fun e w' => e = .returned (.tuple #[]) ∧ ∃ v', IPutLeft w b v (L ++ [(x, ⟨bk, mg, mn, mt⟩)]) v' w' := by
  obtain ⟨a, c, rfl⟩ := owns_slice hown
  by_cases hcap : L.length + 1 ≤ c
  · rcases hown.2 with ⟨e, _⟩ | ⟨g, cap, cur, e, _⟩
    · simp at e; omega
    · simp at e
      obtain ⟨rfl, rfl⟩ := e
      exact oIput_room L g c x bk mg mn mt b w hl hblk hown hp hx hne hcap
  · exact oIput_grows L a c x bk mg mn mt b w hl hblk hown hp hx (by omega)

end Go.Proofs.YtomiepknmmpflaaGreatDoor

