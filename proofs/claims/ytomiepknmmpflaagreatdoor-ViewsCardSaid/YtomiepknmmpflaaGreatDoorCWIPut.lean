/- The program's images by name, in memory: a chain's rows. -/
import Derived.Test.YtomiepknmmpflaaGreatDoorCWOput2
import Derived.Test.YtomiepknmmpflaaGreatDoorCWTally
namespace Go.Proofs.YtomiepknmmpflaaGreatDoor
open Go.RowKit Go.Joins

/-- An image as the program holds it: its backing, the block of its clusters, how many, and the number of lost ones. -/
structure Im where
  bk : ByteArray
  g : Nat
  n : Nat
  t : Int
abbrev Ims := List (ByteArray × Im)
/-- The names, with their backings. -/
def fl (L : Ims) : Ov.Files := L.map fun r => (r.1, r.2.bk)
def imVal (m : Im) : Value := .agg #[.string m.bk, .slice (some ⟨m.g, 0, none⟩) m.n m.n, .int .i64 m.t]
def imCells : Ims → List Value
  | [] => []
  | r :: L => .string r.1 :: .string r.2.bk :: .slice (some ⟨r.2.g, 0, none⟩) r.2.n r.2.n :: .int .i64 r.2.t :: imCells L
def imAt (L : Ims) (k : Nat) : Im := (L.getD k (⟨#[]⟩, ⟨⟨#[]⟩, 0, 0, 0⟩)).2
theorem fl_length (L : Ims) : (fl L).length = L.length := by simp [fl]
theorem fl_append (L M : Ims) : fl (L ++ M) = fl L ++ fl M := by simp [fl]
theorem imCells_length (L : Ims) : (imCells L).length = L.length * 4 := by
  induction L with
  | nil => rfl
  | cons r L ih => simp only [imCells, List.length_cons, ih]; omega
theorem imCells_append (L M : Ims) : imCells (L ++ M) = imCells L ++ imCells M := by
  induction L with
  | nil => rfl
  | cons r L ih => simp only [imCells, List.cons_append, ih]
theorem imCells_row {L : Ims} {k : Nat} (h : k < L.length) : (imCells L)[k * 4]? = some (.string (Ov.nameAt (fl L) k)) ∧ (imCells L)[k * 4 + 1]? = some (.string (imAt L k).bk) ∧ (imCells L)[k * 4 + 2]? = some (.slice (some ⟨(imAt L k).g, 0, none⟩) (imAt L k).n (imAt L k).n) ∧ (imCells L)[k * 4 + 3]? = some (.int .i64 (imAt L k).t) := by
  induction L generalizing k with
  | nil => simp at h
  | cons r L ih =>
    cases k with
    | zero => exact ⟨rfl, rfl, rfl, rfl⟩
    | succ k =>
      have := ih (k := k) (by simpa using h)
      have e : (k + 1) * 4 = k * 4 + 4 := by omega
      rw [e]
      exact this
theorem imCells_one (L : Ims) : ∀ u ∈ imCells L, u.oneCell' = true := by
  induction L with
  | nil => intro u hu; cases hu
  | cons r L ih =>
    intro u hu
    simp only [imCells, List.mem_cons] at hu
    rcases hu with rfl | rfl | rfl | rfl | hu
    · rfl
    · rfl
    · rfl
    · rfl
    · exact ih u hu
abbrev OwnsIms (w : World) (base : Nat) (v : Value) (L : Ims) : Prop := w.ownsRow base 151 4 v L.length (imCells L)
theorem ims_row {w : World} {base g c : Nat} {L : Ims} (h : OwnsIms w base (.slice (some ⟨g, 0, none⟩) L.length c) L) {k : Nat} (hk : k < L.length) : w.cell? ⟨g, k * 4, none⟩ = some (.string (Ov.nameAt (fl L) k)) ∧ w.cell? ⟨g, k * 4 + 1, none⟩ = some (.string (imAt L k).bk) ∧ w.cell? ⟨g, k * 4 + 2, none⟩ = some (.slice (some ⟨(imAt L k).g, 0, none⟩) (imAt L k).n (imAt L k).n) ∧ w.cell? ⟨g, k * 4 + 3, none⟩ = some (.int .i64 (imAt L k).t) := by
  obtain ⟨h0, h1, h2, h3⟩ := imCells_row hk
  exact ⟨by rw [h.cellAt _ (by omega), h0], by rw [h.cellAt _ (by omega), h1], by rw [h.cellAt _ (by omega), h2], by rw [h.cellAt _ (by omega), h3]⟩
theorem ims_none {w : World} {base n c : Nat} {a : Option Addr} {L : Ims} (h : w.ownsRow base 151 4 (.slice a n c) n (imCells L)) : a = none → n = 0 ∧ c = 0 := by
  intro e
  subst e
  rcases h.2 with ⟨e, rfl⟩ | ⟨g, cap, cur, e, _⟩
  · simp at e; exact ⟨rfl, e⟩
  · simp at e
theorem ims_holds {w : World} {base c : Nat} {a : Option Addr} {L : Ims} (h : OwnsIms w base (.slice a L.length c) L) : ∀ b, a = some b → ∀ (j : Nat) (u : Value), (imCells L)[j]? = some u → w.cell? (b.add j) = some u := by
  intro b e j u hu
  subst e
  rcases h.2 with ⟨e, _⟩ | ⟨g, cap, cur, e, _⟩
  · simp at e
  · simp at e
    obtain ⟨rfl, rfl⟩ := e
    exact h.cells rfl j u hu

set_option maxRecDepth 100000 in
set_option maxHeartbeats 400000 in
theorem oIplace1_calls (nm bk : ByteArray) (a : Option Addr) (n c : Nat) (t : Int) (x : ByteArray) (B : Nat) (w : World) (hc : w.cell? ⟨B, 0, none⟩ = some (.string x)) (hB : B < w.heap.size) :
    Calls Tryz.prog 142 #[.agg #[.string nm, .string bk, .slice a n c, .int .i64 t], .pointer (some ⟨B, 0, none⟩)] w fun e w' => e = .returned (.bool (nm.toList == x.toList)) ∧ Below w.heap.size w w' := by
  have hc' : ∀ o, (w.alloc o).cell? ⟨B, 0, none⟩ = some (.string x) := fun o => by rw [World.cell?_alloc_past _ _ _ hB]; exact hc
  go_enter Tryz.func142, Tryz.ntmps142
  go_wp2
  go_ret
  exact ⟨rfl, below_alloc1 w _⟩

set_option maxRecDepth 100000 in
set_option maxHeartbeats 400000 in
theorem oIIndex_calls (L : Ims) (v : Value) (x : ByteArray) (B base : Nat) (w : World) (hl : L.length ≤ 8) (h : OwnsIms w base v L) (hc : w.cell? ⟨B, 0, none⟩ = some (.string x)) (hB : B < w.heap.size) :
    Calls Tryz.prog 141 #[v, .func (.func 142) #[] #[.pointer (some ⟨B, 0, none⟩)]] w fun e w' => e = .returned (.int .i64 (Ov.find (fl L) x)) ∧ Below w.heap.size w w' := by
  obtain ⟨a, c, rfl⟩ := owns_slice h
  have HO := hide h
  have HC := hide hc
  clear h hc
  go_enter Tryz.func141, Tryz.ntmps141
  go_wp2_with fail
  go_loopw [8, 5] (fun i _ wr => ∃ k, k ≤ L.length ∧ i = .int .i64 (k : Nat) ∧ Below w.heap.size w wr ∧ ∀ j, j < k → Ov.nameAt (fl L) j ≠ x) (fun i _ _ => L.length - (intOf i).toNat)
  case atStart => exact ⟨0, Nat.zero_le _, rfl, Below.refl _ _, fun j hj => by omega⟩
  case round =>
    obtain ⟨k, hk, rfl, hbel, hall⟩ := hrel
    have HBL := hide hbel
    have HA := hide hall
    have hsz := hbel.size
    clear hbel hall
    by_cases hlt : k < L.length
    · obtain ⟨g, cc, hv⟩ := ownsRow_form (unhide HO) (by omega)
      obtain ⟨rfl, rfl⟩ : a = some ⟨g, 0, none⟩ ∧ c = cc := by simpa using hv
      have HOr := hide (owns_all (unhide HO) (unhide HBL))
      obtain ⟨cn, cb, cs, ct⟩ := ims_row (unhide HOr) hlt
      have hcr : wr.cell? ⟨B, 0, none⟩ = some (.string x) := ((unhide HBL).cell (p := ⟨B, 0, none⟩) hB).trans (unhide HC)
      have hBr : B < wr.heap.size := by omega
      obtain ⟨y, hy⟩ : ∃ y, Ov.nameAt (fl L) k = y := ⟨_, rfl⟩
      obtain ⟨⟨bk, mg, mn, mt⟩, hm⟩ : ∃ m, imAt L k = m := ⟨_, rfl⟩
      rw [hy] at cn
      rw [hm] at cb cs ct
      dsimp only at cb cs ct
      have HY := hide hy
      clear hv hy hm
      by_cases hq : y = x
      · subst hq
        have Hf := hide (Ov.find_eq (l := fl L) (unhide HA) (by rw [fl_length]; exact hlt) (unhide HY))
        have hqt : (y.toList == y.toList) = true := beq_self_eq_true _
        go_wp2_with (go_at_call 142; refine (oIplace1_calls y bk (some ⟨mg, 0, none⟩) mn mn mt y B _ hcr hBr).mono ?_; rintro e w1 ⟨rfl, hb1⟩)
        go_ret
        exact ⟨by rw [unhide Hf]; rfl, (unhide HBL).trans (hb1.mono hsz)⟩
      · have hq' : (y.toList == x.toList) = false := by rw [beq_eq_false_iff_ne, ByteArray.toList_eq, ByteArray.toList_eq]; exact fun e => hq (Go.WideShapes.bytes_inj e)
        go_wp2_with (go_at_call 142; refine (oIplace1_calls y bk (some ⟨mg, 0, none⟩) mn mn mt x B _ hcr hBr).mono ?_; rintro e w1 ⟨rfl, hb1⟩)
        go_roundw
        case rel => exact ⟨k + 1, by omega, by go_num, (unhide HBL).trans (hb1.mono hsz), names_step (unhide HA) (by rw [unhide HY]; exact hq)⟩
        case measure => simp [intOf]; omega
    · have Hf := hide (Ov.find_none (l := fl L) (x := x) (fun j hj => unhide HA j (by rw [fl_length] at hj; omega)))
      go_wp2_with fail
      go_ret
      exact ⟨by rw [unhide Hf]; rfl, unhide HBL⟩

set_option maxRecDepth 100000 in
set_option maxHeartbeats 400000 in
theorem oIplace_calls (L : Ims) (v : Value) (x : ByteArray) (b off base : Nat) (w : World) (hl : L.length ≤ 8) (h : OwnsIms w base v L) (hc : w.cell? ⟨b, off, none⟩ = some v) (hb : b < w.heap.size) :
    Calls Tryz.prog 89 #[.pointer (some ⟨b, off, none⟩), .string x] w fun e w' => e = .returned (.int .i64 (Ov.find (fl L) x)) ∧ Below w.heap.size w w' := by
  obtain ⟨a, c, rfl⟩ := owns_slice h
  have HO := hide h
  have hc' : ∀ o, (w.alloc o).cell? ⟨b, off, none⟩ = some (.slice a L.length c) := fun o => by rw [World.cell?_alloc_past _ _ _ hb]; exact hc
  have hmf : ∀ (fn : Fn) (first cap : Array Value) (w : World), (Instr.makeFunc fn first cap).run Tryz.prog w = .ok (.func fn first cap) w := fun _ _ _ _ => rfl
  clear h hc
  go_enter Tryz.func89, Tryz.ntmps89
  go_wp2_with (go_at_call 141; refine (oIIndex_calls L _ x w.heap.size base _ hl ((unhide HO).alloc _) box_at (by simp)).mono ?_; rintro e w1 ⟨rfl, hb1⟩)
  go_ret
  exact ⟨rfl, (below_alloc1 w _).trans (hb1.mono (by simp))⟩

set_option maxRecDepth 100000 in
set_option maxHeartbeats 400000 in
theorem oIhas_calls (L : Ims) (v : Value) (x : ByteArray) (b off base : Nat) (w : World) (hl : L.length ≤ 8) (h : OwnsIms w base v L) (hc : w.cell? ⟨b, off, none⟩ = some v) (hb : b < w.heap.size) :
    Calls Tryz.prog 96 #[.pointer (some ⟨b, off, none⟩), .string x] w fun e w' => e = .returned (.bool (Ov.has (fl L) x)) ∧ Below w.heap.size w w' := by
  have HO := hide h
  have HC := hide hc
  clear h hc
  by_cases hp : Ov.place (fl L) x < (fl L).length
  · have hf : Ov.find (fl L) x = (Ov.place (fl L) x : Int) := Ov.find_yes hp
    have Hh : Hid (Ov.has (fl L) x = true) := by unfold Ov.has; exact decide_eq_true hp
    go_enter Tryz.func96, Tryz.ntmps96
    go_wp2_with (go_at_call 89; refine (oIplace_calls L v x b off base _ hl (unhide HO) (unhide HC) hb).mono ?_; rintro e w1 ⟨rfl, hb1⟩)
    go_ret
    exact ⟨by rw [unhide Hh]; simp, hb1⟩
  · have hf : Ov.find (fl L) x = -1 := Ov.find_no hp
    have Hh : Hid (Ov.has (fl L) x = false) := by unfold Ov.has; exact decide_eq_false hp
    go_enter Tryz.func96, Tryz.ntmps96
    go_wp2_with (go_at_call 89; refine (oIplace_calls L v x b off base _ hl (unhide HO) (unhide HC) hb).mono ?_; rintro e w1 ⟨rfl, hb1⟩)
    go_ret
    exact ⟨by rw [unhide Hh]; simp, hb1⟩

end Go.Proofs.YtomiepknmmpflaaGreatDoor

/- The program's images by name: put of a new name. -/
namespace Go.Proofs.YtomiepknmmpflaaGreatDoor
open Go.RowKit Go.Joins

theorem four_new {w : World} {x y z q : Value} {t : TypeId} {b : Nat} (hb : b = w.heap.size) : ∀ (j : Nat) (u : Value), [x, y, z, q][j]? = some u → (w.alloc (.cells #[x, y, z, q] t)).cell? ((⟨b, 0, none⟩ : Addr).add j) = some u := by
  subst hb
  intro j u hj
  have e : (⟨w.heap.size, 0, none⟩ : Addr).add j = ⟨w.heap.size, j, none⟩ := by simp [Addr.add]; exact fun h => h.symm
  rw [e, cell_alloc_mark_at w #[x, y, z, q] t (0, 0) _ j rfl, ← hj]
  simp
theorem Tryz.infoRowI : (Tryz.prog.info? 151).map (fun i => (i.zero, i.size, i.bytes)) = some (some (.agg #[.string ⟨#[]⟩, .string ⟨#[]⟩, .slice none 0 0, .int .i64 0]), 4, 64) := by kernel_rfl
/-- What put leaves. -/
structure IPutLeft (w : World) (b : Nat) (v : Value) (L : Ims) (v' : Value) (w' : World) : Prop where
  blk : w'.heap[b]? = some (.cells #[v'] 132 (0, 0))
  own : OwnsIms w' 0 v' L
  ne : some b ≠ v'.ownBlock
  fr : OFr w w' b v.ownBlock
  row : v'.ownBlock = v.ownBlock ∨ ∀ k, v'.ownBlock = some k → w.heap.size ≤ k
theorem iput_grown {w w1 w2 w3 : World} {b : Nat} {v v3 : Value} {L : Ims} {x : ByteArray} {m : Im} {o : Obj} (hblk : w.heap[b]? = some (.cells #[v] 132 (0, 0))) (h1 : Below w.heap.size w w1) (h2 : Below w1.heap.size w1 w2) (h3 : (w2.alloc o).grownBy w3 none)
    (ho : w3.ownsRow (w2.alloc o).heap.size 151 4 v3 (L.length + 1) (imCells L ++ [.string x, .string m.bk, .slice (some ⟨m.g, 0, none⟩) m.n m.n, .int .i64 m.t])) : IPutLeft w b v (L ++ [(x, m)]) v3 (w3.setCell ⟨b, 0, none⟩ v3) := by
  have hlt := blk_lt hblk
  have s1 := h1.size
  have s2 := h2.size
  have hne : some b ≠ v3.ownBlock := owns_ne ho (by simp; omega)
  have hbel : Below w.heap.size w w3 := ((h1.trans (h2.mono s1)).alloc (by omega) o).grown h3 (by simp; omega) (fun k hk => by cases hk)
  refine ⟨blk_set_same (put_blk hblk h1 h2 h3) v3, ?_, hne, (OFr.of_below hbel _ _).trans (OFr.set_blk w3 b 0 _ v3), Or.inr fun k hk => ?_⟩
  · have := owns_set (ownsRow_le ho (Nat.zero_le _)) (a := ⟨b, 0, none⟩) hne v3
    unfold OwnsIms
    rw [imCells_append, List.length_append]
    exact this
  · have := (ho.lt k hk).1
    simp at this; omega

set_option maxRecDepth 100000 in
set_option maxHeartbeats 2000000 in
theorem oIput_grows (L : Ims) (a : Option Addr) (c : Nat) (x bk : ByteArray) (mg mn : Nat) (mt : Int) (b : Nat) (w : World) (hl : L.length ≤ 8) (hblk : w.heap[b]? = some (.cells #[.slice a L.length c] 132 (0, 0))) (hown : OwnsIms w 0 (.slice a L.length c) L) (hp : ¬ Ov.place (fl L) x < (fl L).length) (hx : x.size ≤ 1000) (hcap : c < L.length + 1) :
    Calls Tryz.prog 132 #[.pointer (some ⟨b, 0, none⟩), .string x, .agg #[.string bk, .slice (some ⟨mg, 0, none⟩) mn mn, .int .i64 mt]] w fun e w' => e = .returned (.tuple #[]) ∧ ∃ v', IPutLeft w b (.slice a L.length c) (L ++ [(x, ⟨bk, mg, mn, mt⟩)]) v' w' := by
  have HB := hide hblk
  have HO := hide hown
  have hbl := blk_lt hblk
  have hf : Ov.find (fl L) x = -1 := Ov.find_no hp
  obtain ⟨i0, hi, hz0, hz1, hz2⟩ := info_parts Tryz.infoRowI
  clear hblk hown
  go_enter Tryz.func132, Tryz.ntmps132
  go_wp2_with (go_at_call 89; refine (oIplace_calls L _ x b 0 0 _ hl ((unhide HO).alloc _) (blk_cell (blk_alloc (unhide HB) _) rfl) (blk_lt (blk_alloc (unhide HB) _))).mono ?_; rintro e w1 ⟨rfl, hb1⟩; have c1 : w1.cell? ⟨b, 0, none⟩ = some (.slice a L.length c) := (hb1.cell (p := ⟨b, 0, none⟩) (blk_lt (blk_alloc (unhide HB) _))).trans (blk_cell (blk_alloc (unhide HB) _) rfl); have HT : Hid (w1.heap[w.heap.size]? = some (.cells #[.string bk, .slice (some ⟨mg, 0, none⟩) mn mn, .int .i64 mt] 90 (0, 0))) := (hb1.block _ (by simp)).trans (blk_new _ _); have HB1 : Hid (Below w.heap.size w w1) := (below_alloc1 w _).trans (hb1.mono (by simp)); have hsz1 : w.heap.size < w1.heap.size := blk_lt (unhide HT); have hbl1 : b < w1.heap.size := (by omega); have q0 : w1.cell? ⟨w.heap.size, 0, none⟩ = some (.string bk) := blk_cell (unhide HT) rfl; have q1 : w1.cell? ⟨w.heap.size, 1, none⟩ = some (.slice (some ⟨mg, 0, none⟩) mn mn) := blk_cell (unhide HT) rfl; have q2 : w1.cell? ⟨w.heap.size, 2, none⟩ = some (.int .i64 mt) := blk_cell (unhide HT) rfl; clear hb1)
  go_region_law (first | (refine step_append_grows rfl (.tmp 24) (.tmp 29) 130 rfl 151 i0 (.agg #[.string ⟨#[]⟩, .string ⟨#[]⟩, .slice none 0 0, .int .i64 0]) 4 64 Tryz.underlying130 hi hz0 hz1 hz2 rfl (by decide) a L.length c (imCells L) (by simp [Act.eval]) (ims_none (unhide HO)) (imCells_length L) (ims_holds ((owns_all (owns_all (unhide HO) (unhide HB1)) (unhide HB2)).alloc _)) ⟨w2.heap.size, 0, none⟩ 1 1 [.string x, .string bk, .slice (some ⟨mg, 0, none⟩) mn mn, .int .i64 mt] (by simp [Act.eval]) rfl (four_new rfl) (imCells_one [(x, ⟨bk, mg, mn, mt⟩)]) hcap (by unfold maxLen; omega) (by omega) ?_; intro v3 w3 ho3 hg3; obtain ⟨g3, c3, rfl⟩ := ownsRow_form ho3 (by omega); have c4 : w3.cell? ⟨b, 0, none⟩ = some (.slice a L.length c) := put_cell c1 hbl1 (unhide HB2) hg3; have f4 := put_frozen (unhide HB) (unhide HB1) (unhide HB2) hg3) | (go_simp; go_at_call 67; refine (oClone_calls x _ hx).mono ?_; rintro e w2 ⟨rfl, hb2⟩; have HB2 : Hid (Below w1.heap.size w1 w2) := ((Below.refl w1.heap.size w1).drew).trans hb2; have c2 : w2.cell? ⟨b, 0, none⟩ = some (.slice a L.length c) := ((unhide HB2).cell (p := ⟨b, 0, none⟩) hbl1).trans c1; have hbl2 : b < w2.heap.size := Nat.lt_of_lt_of_le hbl1 (unhide HB2).size; have p0 : w2.cell? ⟨w.heap.size, 0, none⟩ = some (.string bk) := ((unhide HB2).cell (p := ⟨w.heap.size, 0, none⟩) hsz1).trans q0; have p1 : w2.cell? ⟨w.heap.size, 1, none⟩ = some (.slice (some ⟨mg, 0, none⟩) mn mn) := ((unhide HB2).cell (p := ⟨w.heap.size, 1, none⟩) hsz1).trans q1; have p2 : w2.cell? ⟨w.heap.size, 2, none⟩ = some (.int .i64 mt) := ((unhide HB2).cell (p := ⟨w.heap.size, 2, none⟩) hsz1).trans q2; have c3 : ∀ o, (w2.alloc o).cell? ⟨b, 0, none⟩ = some (.slice a L.length c) := fun o => (World.cell?_alloc_past _ _ _ hbl2).trans c2; clear hb2))
  all_goals (go_wp2_with fail; go_end0; exact ⟨rfl, _, iput_grown (m := ⟨bk, mg, mn, mt⟩) (unhide HB) (unhide HB1) (unhide HB2) hg3 ho3⟩)

theorem iput_roomy {w w1 w2 w3 : World} {b g c : Nat} {L : Ims} {x : ByteArray} {m : Im} {o : Obj} (hblk : w.heap[b]? = some (.cells #[.slice (some ⟨g, 0, none⟩) L.length c] 132 (0, 0))) (h1 : Below w.heap.size w w1) (h2 : Below w1.heap.size w1 w2) (hbg : b ≠ g) (h3 : (w2.alloc o).grownBy w3 (some g))
    (ho : w3.ownsRow 0 151 4 (.slice (some ⟨g, 0, none⟩) (L.length + 1) c) (L.length + 1) (imCells L ++ [.string x, .string m.bk, .slice (some ⟨m.g, 0, none⟩) m.n m.n, .int .i64 m.t])) :
    IPutLeft w b (.slice (some ⟨g, 0, none⟩) L.length c) (L ++ [(x, m)]) (.slice (some ⟨g, 0, none⟩) (L.length + 1) c) (w3.setCell ⟨b, 0, none⟩ (.slice (some ⟨g, 0, none⟩) (L.length + 1) c)) := by
  have s1 := h1.size
  have s2 := h2.size
  have hne : some b ≠ (Value.slice (some ⟨g, 0, none⟩) (L.length + 1) c).ownBlock := by simp [Value.ownBlock, hbg]
  have hfr : OFr w w3 b (some g) := by
    have sz := h3.size
    simp only [World.size_alloc] at sz
    refine ⟨h3.os.trans (h2.os.trans h1.os), h3.tape.trans (h2.tape.trans h1.tape), h3.output.trans (h2.output.trans h1.output), by omega, fun k hk _ hr => ?_⟩
    rw [h3.block k (by simp; omega) hr, Below.heap_alloc _ _ _ (by omega), h2.block k (by omega), h1.block k hk]
  refine ⟨blk_set_same (put_blk2 hblk h1 h2 hbg h3) _, ?_, hne, hfr.trans (OFr.set_blk w3 b 0 _ _), Or.inl rfl⟩
  have := owns_set ho (a := ⟨b, 0, none⟩) hne (.slice (some ⟨g, 0, none⟩) (L.length + 1) c)
  unfold OwnsIms
  rw [imCells_append, List.length_append]
  exact this

set_option maxRecDepth 100000 in
set_option maxHeartbeats 2000000 in
theorem oIput_room (L : Ims) (g c : Nat) (x bk : ByteArray) (mg mn : Nat) (mt : Int) (b : Nat) (w : World) (hl : L.length ≤ 8) (hblk : w.heap[b]? = some (.cells #[.slice (some ⟨g, 0, none⟩) L.length c] 132 (0, 0))) (hown : OwnsIms w 0 (.slice (some ⟨g, 0, none⟩) L.length c) L) (hp : ¬ Ov.place (fl L) x < (fl L).length) (hx : x.size ≤ 1000) (hne : some b ≠ (Value.slice (some ⟨g, 0, none⟩) L.length c).ownBlock) (hcap : L.length + 1 ≤ c) :
    Calls Tryz.prog 132 #[.pointer (some ⟨b, 0, none⟩), .string x, .agg #[.string bk, .slice (some ⟨mg, 0, none⟩) mn mn, .int .i64 mt]] w fun e w' => e = .returned (.tuple #[]) ∧ ∃ v', IPutLeft w b (.slice (some ⟨g, 0, none⟩) L.length c) (L ++ [(x, ⟨bk, mg, mn, mt⟩)]) v' w' := by
  have HB := hide hblk
  have HO := hide hown
  have hbl := blk_lt hblk
  have hf : Ov.find (fl L) x = -1 := Ov.find_no hp
  obtain ⟨i0, hi, hz0, hz1, hz2⟩ := info_parts Tryz.infoRowI
  have hbg : b ≠ g := fun e => hne (by rw [e]; rfl)
  clear hblk hown hne
  go_enter Tryz.func132, Tryz.ntmps132
  go_wp2_with (go_at_call 89; refine (oIplace_calls L _ x b 0 0 _ hl ((unhide HO).alloc _) (blk_cell (blk_alloc (unhide HB) _) rfl) (blk_lt (blk_alloc (unhide HB) _))).mono ?_; rintro e w1 ⟨rfl, hb1⟩; have c1 : w1.cell? ⟨b, 0, none⟩ = some (.slice (some ⟨g, 0, none⟩) L.length c) := (hb1.cell (p := ⟨b, 0, none⟩) (blk_lt (blk_alloc (unhide HB) _))).trans (blk_cell (blk_alloc (unhide HB) _) rfl); have HT : Hid (w1.heap[w.heap.size]? = some (.cells #[.string bk, .slice (some ⟨mg, 0, none⟩) mn mn, .int .i64 mt] 90 (0, 0))) := (hb1.block _ (by simp)).trans (blk_new _ _); have HB1 : Hid (Below w.heap.size w w1) := (below_alloc1 w _).trans (hb1.mono (by simp)); have hsz1 : w.heap.size < w1.heap.size := blk_lt (unhide HT); have hbl1 : b < w1.heap.size := (by omega); have q0 : w1.cell? ⟨w.heap.size, 0, none⟩ = some (.string bk) := blk_cell (unhide HT) rfl; have q1 : w1.cell? ⟨w.heap.size, 1, none⟩ = some (.slice (some ⟨mg, 0, none⟩) mn mn) := blk_cell (unhide HT) rfl; have q2 : w1.cell? ⟨w.heap.size, 2, none⟩ = some (.int .i64 mt) := blk_cell (unhide HT) rfl; clear hb1)
  go_region_law (first | (refine step_append_row rfl (.tmp 24) (.tmp 29) 130 rfl 0 151 i0 (.agg #[.string ⟨#[]⟩, .string ⟨#[]⟩, .slice none 0 0, .int .i64 0]) 4 64 Tryz.underlying130 hi hz0 hz1 hz2 rfl (by decide) g L.length c (imCells L) (by simp [Act.eval]) ((owns_all (owns_all (unhide HO) (unhide HB1)) (unhide HB2)).alloc _) ⟨w2.heap.size, 0, none⟩ 1 1 [.string x, .string bk, .slice (some ⟨mg, 0, none⟩) mn mn, .int .i64 mt] (by simp [Act.eval]) rfl (four_new rfl) (imCells_one [(x, ⟨bk, mg, mn, mt⟩)]) hcap (by unfold maxLen; omega) (by omega) (Nat.zero_le _) ?_; intro w3 ho3 hg3 _; have c4 : w3.cell? ⟨b, 0, none⟩ = some (.slice (some ⟨g, 0, none⟩) L.length c) := put_cell2 c1 hbl1 (unhide HB2) hbg hg3; have f4 := blk_frozen (put_blk2 (unhide HB) (unhide HB1) (unhide HB2) hbg hg3)) | (go_simp; go_at_call 67; refine (oClone_calls x _ hx).mono ?_; rintro e w2 ⟨rfl, hb2⟩; have HB2 : Hid (Below w1.heap.size w1 w2) := ((Below.refl w1.heap.size w1).drew).trans hb2; have c2 : w2.cell? ⟨b, 0, none⟩ = some (.slice (some ⟨g, 0, none⟩) L.length c) := ((unhide HB2).cell (p := ⟨b, 0, none⟩) hbl1).trans c1; have hbl2 : b < w2.heap.size := Nat.lt_of_lt_of_le hbl1 (unhide HB2).size; have p0 : w2.cell? ⟨w.heap.size, 0, none⟩ = some (.string bk) := ((unhide HB2).cell (p := ⟨w.heap.size, 0, none⟩) hsz1).trans q0; have p1 : w2.cell? ⟨w.heap.size, 1, none⟩ = some (.slice (some ⟨mg, 0, none⟩) mn mn) := ((unhide HB2).cell (p := ⟨w.heap.size, 1, none⟩) hsz1).trans q1; have p2 : w2.cell? ⟨w.heap.size, 2, none⟩ = some (.int .i64 mt) := ((unhide HB2).cell (p := ⟨w.heap.size, 2, none⟩) hsz1).trans q2; have c3 : ∀ o, (w2.alloc o).cell? ⟨b, 0, none⟩ = some (.slice (some ⟨g, 0, none⟩) L.length c) := fun o => (World.cell?_alloc_past _ _ _ hbl2).trans c2; clear hb2))
  all_goals (go_wp2_with fail; go_end0; exact ⟨rfl, _, iput_roomy (m := ⟨bk, mg, mn, mt⟩) (unhide HB) (unhide HB1) (unhide HB2) hbg hg3 ho3⟩)

/-- put of a new name, whole. -/
theorem oIput_calls (L : Ims) (v : Value) (x bk : ByteArray) (mg mn : Nat) (mt : Int) (b : Nat) (w : World) (hl : L.length ≤ 8) (hblk : w.heap[b]? = some (.cells #[v] 132 (0, 0))) (hown : OwnsIms w 0 v L) (hp : ¬ Ov.place (fl L) x < (fl L).length) (hx : x.size ≤ 1000) (hne : some b ≠ v.ownBlock) :
    Calls Tryz.prog 132 #[.pointer (some ⟨b, 0, none⟩), .string x, .agg #[.string bk, .slice (some ⟨mg, 0, none⟩) mn mn, .int .i64 mt]] w fun e w' => e = .returned (.tuple #[]) ∧ ∃ v', IPutLeft w b v (L ++ [(x, ⟨bk, mg, mn, mt⟩)]) v' w' := by
  obtain ⟨a, c, rfl⟩ := owns_slice hown
  by_cases hcap : L.length + 1 ≤ c
  · rcases hown.2 with ⟨e, _⟩ | ⟨g, cap, cur, e, _⟩
    · simp at e; omega
    · simp at e
      obtain ⟨rfl, rfl⟩ := e
      exact oIput_room L g c x bk mg mn mt b w hl hblk hown hp hx hne hcap
  · exact oIput_grows L a c x bk mg mn mt b w hl hblk hown hp hx (by omega)

end Go.Proofs.YtomiepknmmpflaaGreatDoor
