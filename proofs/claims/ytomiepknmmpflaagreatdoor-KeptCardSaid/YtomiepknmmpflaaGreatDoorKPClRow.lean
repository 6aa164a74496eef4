/- The program's way back through a chain: its contract. -/
import Derived.Test.YtomiepknmmpflaaGreatDoorKIter2
import Derived.Test.YtomiepknmmpflaaGreatDoorKWNames
import Derived.Test.YtomiepknmmpflaaGreatDoorKWOKeep
import Derived.Test.YtomiepknmmpflaaGreatDoorKWViewOver
namespace Go.Proofs.YtomiepknmmpflaaGreatDoor
open Go.RowKit Go.Joins Go.Shelf

attribute [local go_sem] Oper.semAt_some

theorem room_none {F : Fence} (hd : F.depth = none) (k : Nat) : F.room k := fun d h => by rw [hd] at h; cases h
theorem Lets.owns {R : Nat → Prop} {B : Nat} {w w' : World} (h : Lets R B w w') {base e size n : Nat} {v : Value} {xs : List Value} (ho : w.ownsRow base e size v n xs) (hr : ∀ k, v.ownBlock = some k → R k ∨ B ≤ k) : w'.ownsRow base e size v n xs := by
  refine ⟨ho.1, ?_⟩
  rcases ho.2 with k | ⟨g, cap, cur, hv, hg, hh, r⟩
  · exact Or.inl k
  · refine Or.inr ⟨g, cap, cur, hv, hg, ?_, r⟩
    rw [h.same g (blk_lt hh) (hr g (by rw [hv]; rfl))]; exact hh
def rowArgs (L : Ims) (p : Nat) : Array Value := #[.int .i64 (p : Nat), .agg #[.string (Ov.nameAt (fl L) p), .string (imAt L p).bk, .slice (some ⟨(imAt L p).g, 0, none⟩) (imAt L p).n (imAt L p).n, .int .i64 (imAt L p).t]]
def backArgs (L : Ims) (p : Nat) : Array Value := #[.string (Ov.nameAt (fl L) p), .agg #[.string (imAt L p).bk, .slice (some ⟨(imAt L p).g, 0, none⟩) (imAt L p).n (imAt L p).n, .int .i64 (imAt L p).t]]
def downFrom (n : Nat) : List Nat := (List.range n).reverse
theorem downFrom_length (n : Nat) : (downFrom n).length = n := by simp [downFrom]
theorem downFrom_at {n k p : Nat} (h : (downFrom n)[k]? = some p) : k < n ∧ p = n - 1 - k := by
  obtain ⟨h1, h2⟩ := List.getElem?_eq_some_iff.1 h
  rw [downFrom_length] at h1
  refine ⟨h1, ?_⟩
  rw [← h2]
  simp [downFrom]
theorem downFrom_get {n k : Nat} (h : k < n) : (downFrom n)[k]? = some (n - 1 - k) := by
  rw [List.getElem?_eq_getElem (by rw [downFrom_length]; exact h)]
  simp [downFrom]

set_option maxRecDepth 100000 in
set_option maxHeartbeats 4000000 in
theorem oBack1_gives (n : Nat) (hn : 1 ≤ n) (Bs g c base : Nat) (L : Ims) (w : World) (hl1 : 1 ≤ L.length) (hl : L.length ≤ 8) (R : Nat → Prop) (r1 : R Bs) (rg : R g)
    (h1 : w.cell? ⟨Bs, 0, none⟩ = some (.slice (some ⟨g, 0, none⟩) L.length c)) (ho : OwnsIms w base (.slice (some ⟨g, 0, none⟩) L.length c) L) :
    Gives Fence.wide n Tryz.prog 184 #[.pointer (some ⟨Bs, 0, none⟩)] (rowArgs L) (downFrom L.length) R w := by
  intro l J W hW hJ hY h0
  have c1 := (hW.cell (p := ⟨Bs, 0, none⟩) (cell_lt h1)).trans h1
  have HO := hide (owns_all ho hW)
  have HY := hide hY
  have HR := hide (And.intro r1 rg)
  have HC1 := hide c1
  clear ho hW h1 hY hJ r1 rg
  have hro : Fence.wide.round = none := rfl
  have hF8 : Fence.wide.fn 184 := trivial
  refine callsIn_of_wp Tryz.func184 rfl hF8 ?_ hro
  simp only [Tryz.ntmps184, List.size_toArray, List.length_cons, List.length_nil, Nat.reduceAdd, Nat.reduceSub, Array.replicate_succ, Array.replicate_zero, List.push_toArray, List.append_toArray, List.nil_append, List.cons_append]
  gi_wp2
  gi_loopw [3] (fun i wr => ∃ k : Nat, k ≤ L.length ∧ i = .int .i64 ((L.length : Int) - 1 - k) ∧ J k wr ∧ Lets R W.heap.size W wr) (fun i _ => (intOf i + 1).toNat)
  case atStart => exact ⟨0, Nat.zero_le _, by simp, h0, Lets.refl _ _ _⟩
  case round =>
    obtain ⟨k, hk, rfl, hJs, hL⟩ := hrel
    by_cases hlt : k < L.length
    · have HL := hide hL
      have c1r := hL.cell (unhide HC1) (Or.inl (unhide HR).1)
      have hor := hL.owns (unhide HO) (fun q hq => Or.inl (by simp [Value.ownBlock] at hq; subst hq; exact (unhide HR).2))
      obtain ⟨p, hp⟩ : ∃ p, L.length - 1 - k = p := ⟨_, rfl⟩
      obtain ⟨y0, y1, y2, y3⟩ := ims_row hor (k := p) (by omega)
      obtain ⟨fn, tmps, assign, body, hy, hR⟩ := unhide HY k p wr (by rw [downFrom_get hlt, hp]) hJs
      unfold rowArgs at hy
      obtain ⟨nm, hnm⟩ : ∃ nm, Ov.nameAt (fl L) p = nm := ⟨_, rfl⟩
      obtain ⟨⟨bk, mg, mn, mt⟩, hm⟩ : ∃ m, imAt L p = m := ⟨_, rfl⟩
      rw [hnm] at y0 hy
      rw [hm] at y1 y2 y3 hy
      dsimp only at y1 y2 y3 hy
      have hpI : (L.length : Int) - 1 - k = (p : Int) := by omega
      rw [hpI]
      have hpl : p < L.length := by omega
      have HP := hide hpI
      have HRD := hide hR
      clear hL hJs hor hnm hm hpI hp hR c1
      gi_wp2
      refine (unhide HRD).mono ?_
      rintro e w3 ⟨rfl, hj3, hl3⟩
      gi_wp2
      go_roundw
      case rel => exact ⟨k + 1, by omega, by congr 1; have := unhide HP; omega, hj3, (unhide HL).trans hl3⟩
      case measure => simp [intOf]
    · obtain rfl : k = L.length := by omega
      have hneg : (L.length : Int) - 1 - L.length = -1 := by omega
      rw [hneg]
      clear hL hneg
      gi_wp2
      go_end0
      exact ⟨⟨_, rfl⟩, by rw [downFrom_length]; exact hJs⟩

theorem round_any {m m' l l0 : Nat} {P : Program} {f : FuncId} {tmps : Array Value} {assign body : Go.Code} {w : World} {R : Ending → World → Prop} (h : RoundIn Fence.wide m P l f tmps assign body w R) : RoundIn (Fence.wide.inRound l0) m' P l f tmps assign body w R := ⟨h.1, fun c cs _ => h.2 c cs (room_none rfl _)⟩
theorem oBack_in (n : Nat) (a : Option Addr) (m c : Nat) (w : World) :
    CallsIn Fence.wide n Tryz.prog 155 #[.slice a m c] w fun e w' => e = .returned (.func (.func 184) #[] #[.pointer (some ⟨w.heap.size, 0, none⟩)]) ∧ w' = w.alloc (.cells #[.slice a m c] 130) := by
  refine callsIn_of_wp Tryz.func155 rfl trivial ?_ rfl
  simp only [Tryz.ntmps155, List.size_toArray, List.length_cons, List.length_nil, Nat.reduceAdd, Nat.reduceSub, Array.replicate_succ, Array.replicate_zero, List.push_toArray, List.append_toArray, List.nil_append, List.cons_append]
  gi_wp2
  go_ret
  exact ⟨rfl, rfl⟩
theorem oIbackward_in (n : Nat) (p : Option Addr) (w : World) :
    CallsIn Fence.wide n Tryz.prog 108 #[.pointer p] w fun e w' => e = .returned (.func (.func 154) #[] #[.pointer (some ⟨w.heap.size, 0, none⟩)]) ∧ w' = w.alloc (.cells #[.pointer p] 78) := by
  refine callsIn_of_wp Tryz.func108 rfl trivial ?_ rfl
  simp only [Tryz.ntmps108, List.size_toArray, List.length_cons, List.length_nil, Nat.reduceAdd, Nat.reduceSub, Array.replicate_succ, Array.replicate_zero, List.push_toArray, List.append_toArray, List.nil_append, List.cons_append]
  gi_wp2
  go_ret
  exact ⟨rfl, rfl⟩

set_option maxRecDepth 100000 in
set_option maxHeartbeats 4000000 in
theorem oIback1_gives (n : Nat) (hn : 4 ≤ n) (Bs cb g c base : Nat) (L : Ims) (w : World) (hl1 : 1 ≤ L.length) (hl : L.length ≤ 8) (R : Nat → Prop) (rg : R g) (hRl : ∀ k, R k → k < w.heap.size)
    (h1 : w.cell? ⟨Bs, 0, none⟩ = some (.pointer (some ⟨cb, 0, none⟩))) (h2 : w.cell? ⟨cb, 0, none⟩ = some (.slice (some ⟨g, 0, none⟩) L.length c)) (ho : OwnsIms w base (.slice (some ⟨g, 0, none⟩) L.length c) L) :
    Gives Fence.wide n Tryz.prog 154 #[.pointer (some ⟨Bs, 0, none⟩)] (backArgs L) (downFrom L.length) R w := by
  intro l J W hW hJ hY h0
  have c1 := (hW.cell (p := ⟨Bs, 0, none⟩) (cell_lt h1)).trans h1
  have c2 := (hW.cell (p := ⟨cb, 0, none⟩) (cell_lt h2)).trans h2
  have HO := hide (owns_all ho hW)
  have hwW := hW.size
  have HY := hide hY
  have HJ := hide hJ
  have hb1 := cell_lt c1
  have hb2 := cell_lt c2
  have c1a : ∀ o, (W.alloc o).cell? ⟨Bs, 0, none⟩ = some (.pointer (some ⟨cb, 0, none⟩)) := fun o => (World.cell?_alloc_past _ _ _ hb1).trans c1
  have c2a : ∀ o, (W.alloc o).cell? ⟨cb, 0, none⟩ = some (.slice (some ⟨g, 0, none⟩) L.length c) := fun o => (World.cell?_alloc_past _ _ _ hb2).trans c2
  clear ho hW h1 h2 hY hJ c1 c2
  have hro : Fence.wide.round = none := rfl
  have hF8 : Fence.wide.fn 154 := trivial
  have hFB : Fence.wide.fn 155 := trivial
  have hFC : Fence.wide.fn 184 := trivial
  have hn1 : 1 ≤ n := by omega
  refine callsIn_of_wp_marks Tryz.func154 rfl hF8 ?_ hro
  simp only [Tryz.ntmps154, List.size_toArray, List.length_cons, List.length_nil, Nat.reduceAdd, Nat.reduceSub, Array.replicate_succ, Array.replicate_zero, List.push_toArray, List.append_toArray, List.nil_append, List.cons_append]
  gi_wp2_with (gi_at_call 155; refine (oBack_in _ _ _ _ _).mono ?_; rintro e w' ⟨rfl, rfl⟩)
  have bY : Boxed ((W.alloc (.cells #[.func (.yield l) #[] #[]] 216)).alloc (.cells #[.slice (some ⟨g, 0, none⟩) L.length c] 130)) W.heap.size 216 (.func (.yield l) #[] #[]) := (Boxed.new W _ _).alloc _
  have bS : Boxed ((W.alloc (.cells #[.func (.yield l) #[] #[]] 216)).alloc (.cells #[.slice (some ⟨g, 0, none⟩) L.length c] 130)) (W.heap.size + 1) 130 (.slice (some ⟨g, 0, none⟩) L.length c) := by
    have := Boxed.new (W.alloc (.cells #[.func (.yield l) #[] #[]] 216)) 130 (.slice (some ⟨g, 0, none⟩) L.length c)
    rwa [World.size_alloc] at this
  have hB0 := below_alloc2 W (.cells #[.func (.yield l) #[] #[]] 216) (.cells #[.slice (some ⟨g, 0, none⟩) L.length c] 130)
  have j0 : J 0 ((W.alloc (.cells #[.func (.yield l) #[] #[]] 216)).alloc (.cells #[.slice (some ⟨g, 0, none⟩) L.length c] 130)) := (unhide HJ).alloc _ ((unhide HJ).alloc _ h0)
  obtain ⟨w2, hw2⟩ : ∃ w2, w2 = ((W.alloc (.cells #[.func (.yield l) #[] #[]] 216)).alloc (.cells #[.slice (some ⟨g, 0, none⟩) L.length c] 130)) := ⟨_, rfl⟩
  have hsz2 : w2.heap.size = W.heap.size + 1 + 1 := by rw [hw2]; simp
  rw [← hw2] at bY bS hB0 j0
  rw [← hw2]
  clear hw2 c1a c2a
  have hgW : g < W.heap.size := by have := hRl g rg; omega
  have hgv := oBack1_gives (n - 1) (by omega) (W.heap.size + 1) g c base L w2 hl1 hl (fun i => i = W.heap.size + 1 ∨ i = g) (Or.inl rfl) (Or.inr rfl) bS.cell (owns_all (unhide HO) hB0)
  refine wp_gives hro hn1 (gf := 184) (lb := #[.pointer (some ⟨W.heap.size + 1, 0, none⟩)]) rfl hFC (enters_of Tryz.func184 (by kernel_rfl) rfl)
    hgv (Below.refl _ _) (fun k hk => by rcases hk with e | e <;> omega) (fun _ => rfl)
    (fun k X => J k X ∧ Boxed X W.heap.size 216 (.func (.yield l) #[] #[]))
    (fun k X Y row hs hg hr => ⟨unhide HJ k X Y row hs.1 hg (fun r e => ⟨by have := (hr r e).1; omega, (hr r e).2⟩), hs.2.kept hg (fun e => by have := (hr _ e.symm).1; omega)⟩) ⟨j0, bY⟩
    (fun p X => { tmps := #[.func (.yield l) #[] #[], .pointer (some ⟨Bs, 0, none⟩), .pointer (some ⟨W.heap.size, 0, none⟩), undef, .pointer (some ⟨X.heap.size, 0, none⟩), .pointer (some ⟨cb, 0, none⟩), .pointer (some ⟨cb, 0, none⟩), .pointer (some ⟨cb, 0, none⟩), .slice (some ⟨g, 0, none⟩) L.length c, .func (.func 184) #[] #[.pointer (some ⟨W.heap.size + 1, 0, none⟩)], .int .i64 (p : Nat), .agg #[.string (Ov.nameAt (fl L) p), .string (imAt L p).bk, .slice (some ⟨(imAt L p).g, 0, none⟩) (imAt L p).n (imAt L p).n, .int .i64 (imAt L p).t], undef, undef, undef, undef, undef, undef, undef], defers := [] })
    (fun p X => X.alloc (.cells #[.string (Ov.nameAt (fl L) p), .string (imAt L p).bk, .slice (some ⟨(imAt L p).g, 0, none⟩) (imAt L p).n (imAt L p).n, .int .i64 (imAt L p).t] 151))
    (fun p X => below_alloc1 X _) ?assign ?body ?done
  case assign =>
    intro y k X K hK
    unfold rowArgs
    gi_wp2
    exact hK
  case body =>
    intro l' k p X o o' hl' ho' hoc hx hI
    obtain ⟨hj, hbx⟩ := hI
    have hll : l' < X.heap.size := blk_lt ho'
    have hj1 := (unhide HJ).putObj o ((unhide HJ).alloc (.cells #[.string (Ov.nameAt (fl L) p), .string (imAt L p).bk, .slice (some ⟨(imAt L p).g, 0, none⟩) (imAt L p).n (imAt L p).n, .int .i64 (imAt L p).t] 151) hj) (by omega) (blk_alloc ho' _) hoc
    have hbx1 : Boxed ((X.alloc (.cells #[.string (Ov.nameAt (fl L) p), .string (imAt L p).bk, .slice (some ⟨(imAt L p).g, 0, none⟩) (imAt L p).n (imAt L p).n, .int .i64 (imAt L p).t] 151)).putObj l' o) W.heap.size 216 (.func (.yield l) #[] #[]) := (World.putObj_heap_other (by omega)).trans (hbx.alloc _)
    have hrx : ((X.alloc (.cells #[.string (Ov.nameAt (fl L) p), .string (imAt L p).bk, .slice (some ⟨(imAt L p).g, 0, none⟩) (imAt L p).n (imAt L p).n, .int .i64 (imAt L p).t] 151)).putObj l' o).heap[X.heap.size]? = some (.cells #[.string (Ov.nameAt (fl L) p), .string (imAt L p).bk, .slice (some ⟨(imAt L p).g, 0, none⟩) (imAt L p).n (imAt L p).n, .int .i64 (imAt L p).t] 151 (0, 0)) := (World.putObj_heap_other (by omega)).trans (blk_new X _)
    obtain ⟨W1, hW1⟩ : ∃ W1, W1 = (X.alloc (.cells #[.string (Ov.nameAt (fl L) p), .string (imAt L p).bk, .slice (some ⟨(imAt L p).g, 0, none⟩) (imAt L p).n (imAt L p).n, .int .i64 (imAt L p).t] 151)).putObj l' o := ⟨_, rfl⟩
    rw [← hW1] at hj1 hbx1 hrx
    rw [← hW1]
    clear hW1 hj hbx hgv bY bS hB0 j0
    have y0 := blk_cell (i := 0) hrx rfl
    have y1 := blk_cell (i := 1) hrx rfl
    have y2 := blk_cell (i := 2) hrx rfl
    have y3 := blk_cell (i := 3) hrx rfl
    have cY := hbx1.cell
    have HBX := hide hbx1
    obtain ⟨fn, tmps, assign, body, hy, hR⟩ := unhide HY k p W1 hx hj1
    unfold backArgs at hy
    have HRD := hide hR
    clear hR hj1 hbx1 hrx
    gi_wp2
    refine ⟨fun _ => by omega, (round_any (unhide HRD)).mono ?_⟩
    rintro e w3 ⟨rfl, hj3, hl3⟩
    gi_wp2
    refine ⟨hl3.weak (fun j hj => ?_), hj3, (hl3.same W.heap.size (unhide HBX).lt (Or.inr (Nat.le_refl _))).trans (unhide HBX)⟩
    rcases hj with (e | e) | e
    · exact Or.inr (by omega)
    · rw [e]; exact Or.inl rg
    · exact Or.inr (by omega)
  case done =>
    intro D X hD hI hK
    rw [downFrom_length] at hI
    gi_wp2
    refine ⟨by simp, .inl ⟨_, _, rfl, run_takeDeferred hK, ?_⟩⟩
    exact ⟨_, results_none rfl _ _ _, ⟨_, rfl⟩, by rw [downFrom_length]; exact (unhide HJ).putObj _ hI.1 (by omega) hK rfl⟩

end Go.Proofs.YtomiepknmmpflaaGreatDoor

namespace Go.Proofs.YtomiepknmmpflaaGreatDoor
open Go.RowKit Go.Joins

def qOf (s : ByteArray) (k : Nat) : Int := if Ov.ent s k = 0 then 0 else if Ov.ent s k = 255 then 1 else 2
def dOf (s : ByteArray) (k : Nat) : Eight := fun j => if Ov.ent s k = 0 ∨ Ov.ent s k = 255 then 0 else Ov.byteAt (Ov.blockOf s (Ov.ent s k)) j
theorem qOf_known (s : ByteArray) (k : Nat) : qOf s k = 0 ∨ qOf s k = 1 ∨ qOf s k = 2 := by
  unfold qOf
  split
  · exact Or.inl rfl
  · split
    · exact Or.inr (Or.inl rfl)
    · exact Or.inr (Or.inr rfl)
theorem rowTo_prefix (s : ByteArray) {k n : Nat} (h : k ≤ n) : ∃ q, rowTo s n = rowTo s k ++ q := by
  induction n with
  | zero => obtain rfl : k = 0 := by omega
            exact ⟨[], by simp⟩
  | succ n ih =>
    by_cases e : k = n + 1
    · subst e; exact ⟨[], by simp⟩
    · obtain ⟨q, hq⟩ := ih (by omega)
      exact ⟨q ++ clCells s n, by rw [rowTo, hq, List.append_assoc]⟩
theorem rowTo_cell {s : ByteArray} (hi : Ov.isImage s) {k j : Nat} (hk : k < Ov.many s) (hj : j < 9) : (rowTo s (Ov.many s))[k * 9 + j]? = (clCells s k)[j]? := by
  obtain ⟨q, hq⟩ := rowTo_prefix s (k := k + 1) (n := Ov.many s) (by omega)
  have h1 := rowTo_length hi.1 (k := k) (fun i h => hi.2 i (by omega))
  have h2 := rowTo_length hi.1 (k := k + 1) (fun i h => hi.2 i (by omega))
  rw [hq, List.getElem?_append_left (by omega), rowTo, List.getElem?_append_right (by omega), h1, show k * 9 + j - k * 9 = j from by omega]
theorem byteVals_at {l : List UInt8} {j : Nat} (h : j < l.length) : (byteVals l)[j]? = some (.int .u8 ((l.getD j 0).toNat : Nat)) := by
  unfold byteVals
  rw [List.getElem?_map, List.getD_eq_getElem?_getD, List.getElem?_eq_getElem h]
  rfl
theorem clCells_kind (s : ByteArray) (k : Nat) : (clCells s k)[0]? = some (.int .i64 (qOf s k)) := by
  unfold clCells qOf
  split
  · rfl
  · split <;> rfl
theorem zero8_at {j : Nat} (h : j < 8) : zero8[j]? = some (.int .u8 ((0 : Nat) : Int)) := by
  unfold zero8
  rw [List.getElem?_replicate, if_pos h]; rfl
theorem clCells_byte {s : ByteArray} (hi : Ov.isImage s) {k j : Nat} (hk : k < Ov.many s) (hj : j < 8) : (clCells s k)[j + 1]? = some (.int .u8 (dOf s k j : Nat)) := by
  unfold clCells dOf
  by_cases h0 : Ov.ent s k = 0
  · rw [if_pos h0, if_pos (Or.inl h0), List.getElem?_cons_succ]; exact zero8_at hj
  · rw [if_neg h0]
    by_cases h255 : Ov.ent s k = 255
    · rw [if_pos h255, if_pos (Or.inr h255), List.getElem?_cons_succ]; exact zero8_at hj
    · rw [if_neg h255, if_neg (by omega), List.getElem?_cons_succ]
      have hb : (Ov.blockOf s (Ov.ent s k)).size = 8 := data_size hi hk (Ov.kindOf_data h0 h255)
      rw [byteVals_at (by have : (Ov.blockOf s (Ov.ent s k)).data.toList.length = (Ov.blockOf s (Ov.ent s k)).size := rfl
                          omega)]
      rfl
theorem cl_of {w : World} {g : Nat} {s : ByteArray} (hi : Ov.isImage s) (hg : w.heap[g]? = some (.cells (rowTo s (Ov.many s)).toArray 160 (0, 0))) : Cl w g (Ov.many s) (qOf s) (dOf s) := by
  refine ⟨fun k hk => ?_, fun k hk j hj => ?_, blk_lt hg⟩
  · have := rowTo_cell hi hk (j := 0) (by omega)
    rw [Nat.add_zero] at this
    exact blk_cell hg (by rw [List.getElem?_toArray, this]; exact clCells_kind s k)
  · exact blk_cell hg (by rw [List.getElem?_toArray, rowTo_cell hi hk (by omega)]; exact clCells_byte hi hk hj)

def fOf (l : Ov.Files) (y : ByteArray) : ByteArray := Ov.fileAt l (Ov.place l y)
def sufN (l : Ov.Files) (ns : List ByteArray) (k : Nat) : Nat := if k = 0 then 0 else Ov.many (fOf l (ns.getD (ns.length - k) ⟨#[]⟩))
def sufV (l : Ov.Files) (ns : List ByteArray) (k : Nat) : Nat → Nat := Ov.atTo l (ns.drop (ns.length - k))
theorem atTo_over {l : Ov.Files} {rest : List ByteArray} {y : ByteArray} {nl i : Nat} (hz : nl ≤ i / 8 → Ov.atTo l rest i = 0) (hi : i / 8 < Ov.many (fOf l y)) : overV (qOf (fOf l y)) (dOf (fOf l y)) nl (Ov.atTo l rest) i = Ov.atTo l (y :: rest) i := by
  rw [Ov.atTo_cons, show Ov.fileAt l (Ov.place l y) = fOf l y from rfl, if_neg (by omega)]
  unfold overV
  by_cases h0 : Ov.ent (fOf l y) (i / 8) = 0
  · have hk : Ov.kindOf (Ov.ent (fOf l y) (i / 8)) = 0 := by unfold Ov.kindOf; rw [if_pos h0]
    have hq : qOf (fOf l y) (i / 8) = 0 := by unfold qOf; rw [if_pos h0]
    rw [hk, hq, if_neg (show ¬ (0 : Int) = 255 by decide), if_neg (show ¬ (0 : Int) = 1 by decide), if_neg (show ¬ (0 : Int) = 2 by decide), if_neg (show ¬ (0 : Int) = 1 by decide)]
    by_cases hn : i / 8 < nl
    · rw [if_pos hn]
    · rw [if_neg hn]; exact (hz (by omega)).symm
  · by_cases h255 : Ov.ent (fOf l y) (i / 8) = 255
    · have hk : Ov.kindOf (Ov.ent (fOf l y) (i / 8)) = 255 := by unfold Ov.kindOf; rw [if_neg h0, if_pos h255]
      have hq : qOf (fOf l y) (i / 8) = 1 := by unfold qOf; rw [if_neg h0, if_pos h255]
      rw [hk, hq, if_pos rfl, if_pos rfl]
    · have hk := Ov.kindOf_data h0 h255
      have hq : qOf (fOf l y) (i / 8) = 2 := by unfold qOf; rw [if_neg h0, if_neg h255]
      rw [hk, hq, if_neg (by decide), if_pos rfl, if_neg (by decide), if_pos rfl]
      unfold dOf
      rw [if_neg (by omega)]
theorem suf_zero (l : Ov.Files) (ns : List ByteArray) {k i : Nat} (hk : k ≤ ns.length) (h : sufN l ns k ≤ i / 8) : sufV l ns k i = 0 := by
  unfold sufV
  by_cases h0 : k = 0
  · subst h0; rw [Nat.sub_zero, List.drop_length]; rfl
  · unfold sufN at h
    rw [if_neg h0] at h
    have hlt : ns.length - k < ns.length := by omega
    rw [List.drop_eq_getElem_cons hlt, Ov.atTo_cons, if_pos]
    rw [List.getD_eq_getElem?_getD, List.getElem?_eq_getElem hlt] at h
    exact h
theorem suf_step (l : Ov.Files) (ns : List ByteArray) {k p i : Nat} {y : ByteArray} (hk : k < ns.length) (hp : p = ns.length - 1 - k) (hy : ns.getD p ⟨#[]⟩ = y) (hi : i < 8 * Ov.many (fOf l y)) : overV (qOf (fOf l y)) (dOf (fOf l y)) (sufN l ns k) (sufV l ns k) i = sufV l ns (k + 1) i := by
  have hlt : ns.length - (k + 1) < ns.length := by omega
  have e : ns.drop (ns.length - (k + 1)) = y :: ns.drop (ns.length - k) := by
    rw [List.drop_eq_getElem_cons hlt]
    have h1 : ns.length - (k + 1) + 1 = ns.length - k := by omega
    have h2 : ns[ns.length - (k + 1)] = y := by
      have hpe : p = ns.length - (k + 1) := by omega
      rw [← hy, hpe, List.getD_eq_getElem?_getD, List.getElem?_eq_getElem hlt]
      rfl
    rw [h1, h2]
  unfold sufV
  rw [e]
  exact atTo_over (fun h => suf_zero l ns (by omega) h) (by omega)
theorem sufN_succ (l : Ov.Files) (ns : List ByteArray) {k p : Nat} {y : ByteArray} (hp : p = ns.length - 1 - k) (hy : ns.getD p ⟨#[]⟩ = y) : sufN l ns (k + 1) = Ov.many (fOf l y) := by
  unfold sufN
  rw [if_neg (by omega), show ns.length - (k + 1) = p from by omega, hy]

end Go.Proofs.YtomiepknmmpflaaGreatDoor

namespace Go.Proofs.YtomiepknmmpflaaGreatDoor
open Go.RowKit Go.Joins

def clCell (q : Nat → Int) (d : Nat → Eight) (i : Nat) : Value := if i % 9 = 0 then .int .i64 (q (i / 9)) else .int .u8 (d (i / 9) (i % 9 - 1) : Nat)
def clRow (q : Nat → Int) (d : Nat → Eight) (m : Nat) : List Value := (List.range (m * 9)).map (clCell q d)
theorem clRow_length (q : Nat → Int) (d : Nat → Eight) (m : Nat) : (clRow q d m).length = m * 9 := by simp [clRow]
theorem clRow_get {q : Nat → Int} {d : Nat → Eight} {m i : Nat} (h : i < m * 9) : (clRow q d m)[i]? = some (clCell q d i) := by simp [clRow, h]
theorem clCell_kind (q : Nat → Int) (d : Nat → Eight) (k : Nat) : clCell q d (k * 9) = .int .i64 (q k) := by
  unfold clCell; rw [if_pos (by omega), show k * 9 / 9 = k from by omega]
theorem clCell_byte (q : Nat → Int) (d : Nat → Eight) (k : Nat) {j : Nat} (hj : j < 8) : clCell q d (k * 9 + (j + 1)) = .int .u8 (d k j : Nat) := by
  unfold clCell; rw [if_neg (by omega), show (k * 9 + (j + 1)) / 9 = k from by omega, show (k * 9 + (j + 1)) % 9 - 1 = j from by omega]
theorem clCell_congr {q q' : Nat → Int} {d d' : Nat → Eight} {i : Nat} (hq : q (i / 9) = q' (i / 9)) (hd : ∀ j, j < 8 → d (i / 9) j = d' (i / 9) j) : clCell q d i = clCell q' d' i := by
  unfold clCell
  rw [hq]
  split
  · rfl
  · rw [hd _ (by omega)]
theorem clRow_congr {q q' : Nat → Int} {d d' : Nat → Eight} {m : Nat} (hq : ∀ k, k < m → q k = q' k) (hd : ∀ k, k < m → ∀ j, j < 8 → d k j = d' k j) : clRow q d m = clRow q' d' m := by
  unfold clRow
  refine List.map_congr_left fun i hi => ?_
  have hi' : i < m * 9 := by simpa using hi
  exact clCell_congr (hq _ (by omega)) (hd _ (by omega))
theorem cl_row {w : World} {g m : Nat} {q : Nat → Int} {d : Nat → Eight} (hg : w.heap[g]? = some (.cells (clRow q d m).toArray 160 (0, 0))) : Cl w g m q d :=
  ⟨fun k hk => blk_cell hg (by rw [List.getElem?_toArray, clRow_get (by omega), clCell_kind]), fun k hk j hj => blk_cell hg (by rw [List.getElem?_toArray, clRow_get (by omega), clCell_byte q d k hj]), blk_lt hg⟩
theorem rowTo_row {s : ByteArray} (hi : Ov.isImage s) : rowTo s (Ov.many s) = clRow (qOf s) (dOf s) (Ov.many s) := by
  have hl := rowTo_length hi.1 (k := Ov.many s) hi.2
  refine List.ext_getElem? fun i => ?_
  by_cases h : i < Ov.many s * 9
  · rw [clRow_get h]
    have hk : i / 9 < Ov.many s := by omega
    have hc := rowTo_cell hi hk (j := i % 9) (by omega)
    rw [show i / 9 * 9 + i % 9 = i from by omega] at hc
    rw [hc]
    unfold clCell
    by_cases h0 : i % 9 = 0
    · rw [if_pos h0, h0]; exact clCells_kind s _
    · rw [if_neg h0]
      have := clCells_byte hi hk (j := i % 9 - 1) (by omega)
      rw [show i % 9 - 1 + 1 = i % 9 from by omega] at this
      exact this
  · rw [List.getElem?_eq_none (by omega), List.getElem?_eq_none (by rw [clRow_length]; omega)]
def upQ (q : Nat → Int) (n : Nat) (x : Int) : Nat → Int := fun i => if i = n then x else q i
def upD (d : Nat → Eight) (n : Nat) (e : Eight) : Nat → Eight := fun i => if i = n then e else d i
theorem up_other {q : Nat → Int} {d : Nat → Eight} {n i : Nat} {x : Int} {e : Eight} (h : i / 9 ≠ n) : clCell (upQ q n x) (upD d n e) i = clCell q d i := clCell_congr (by unfold upQ; rw [if_neg h]) (fun j _ => by unfold upD; rw [if_neg h])
theorem clRow_copy {q : Nat → Int} {d : Nat → Eight} {m n : Nat} {x : Int} {e : Eight} (hn : n < m) : ((clRow q d m).set (n * 9) (.int .i64 x)).take (n * 9 + 1) ++ blkCells e ++ ((clRow q d m).set (n * 9) (.int .i64 x)).drop (n * 9 + 1 + 8) = clRow (upQ q n x) (upD d n e) m := by
  have hl : ((clRow q d m).set (n * 9) (.int .i64 x)).length = m * 9 := by rw [List.length_set, clRow_length]
  have h1 : (((clRow q d m).set (n * 9) (.int .i64 x)).take (n * 9 + 1)).length = n * 9 + 1 := by rw [List.length_take, hl]; omega
  refine List.ext_getElem? fun i => ?_
  by_cases hi : i < m * 9
  · rw [clRow_get hi, List.append_assoc]
    by_cases ha : i < n * 9 + 1
    · rw [List.getElem?_append_left (by omega), List.getElem?_take, if_pos ha, List.getElem?_set]
      by_cases hb : n * 9 = i
      · subst hb
        rw [if_pos rfl, if_pos (by rw [clRow_length]; omega), clCell_kind]
        unfold upQ; rw [if_pos rfl]
      · rw [if_neg hb, clRow_get hi, up_other (by omega)]
    · rw [List.getElem?_append_right (by omega), h1]
      by_cases hc : i < n * 9 + 9
      · rw [List.getElem?_append_left (by rw [blkCells_length]; omega)]
        obtain ⟨j, rfl⟩ : ∃ j, i = n * 9 + (j + 1) := ⟨i - n * 9 - 1, by omega⟩
        rw [clCell_byte _ _ _ (by omega), show n * 9 + (j + 1) - (n * 9 + 1) = j from by omega]
        have hu : upD d n e n j = e j := by unfold upD; rw [if_pos rfl]
        rw [hu]
        match j, (show j < 8 by omega) with
        | 0, _ => rfl
        | 1, _ => rfl
        | 2, _ => rfl
        | 3, _ => rfl
        | 4, _ => rfl
        | 5, _ => rfl
        | 6, _ => rfl
        | 7, _ => rfl
      · rw [List.getElem?_append_right (by rw [blkCells_length]; omega), blkCells_length, List.getElem?_drop, show n * 9 + 1 + 8 + (i - (n * 9 + 1) - 8) = i from by omega, List.getElem?_set, if_neg (by omega), clRow_get hi, up_other (by omega)]
  · rw [List.getElem?_eq_none (by rw [List.length_append, List.length_append, h1, blkCells_length, List.length_drop, hl]; omega), List.getElem?_eq_none (by rw [clRow_length]; omega)]
theorem clRow_nine {q : Nat → Int} {d : Nat → Eight} {m n : Nat} {x : Int} : (((((((((clRow q d m).set (n * 9) (.int .i64 x)).set (n * 9 + 1) (.int .u8 0)).set (n * 9 + 2) (.int .u8 0)).set (n * 9 + 3) (.int .u8 0)).set (n * 9 + 4) (.int .u8 0)).set (n * 9 + 5) (.int .u8 0)).set (n * 9 + 6) (.int .u8 0)).set (n * 9 + 7) (.int .u8 0)).set (n * 9 + 8) (.int .u8 0) = clRow (upQ q n x) (upD d n fun _ => 0) m := by
  refine List.ext_getElem? fun i => ?_
  by_cases hi : i < m * 9
  · have hb : ∀ j, j < 8 → clCell (upQ q n x) (upD d n fun _ => 0) (n * 9 + (j + 1)) = .int .u8 0 := fun j hj => by
      rw [clCell_byte _ _ _ hj]; unfold upD; rw [if_pos rfl]; rfl
    have hk : clCell (upQ q n x) (upD d n fun _ => 0) (n * 9) = .int .i64 x := by rw [clCell_kind]; unfold upQ; rw [if_pos rfl]
    rw [clRow_get hi]
    simp only [List.getElem?_set, List.length_set, clRow_length]
    by_cases h8 : n * 9 + 8 = i
    · subst h8; rw [if_pos rfl, if_pos hi]; exact congrArg some (hb 7 (by omega)).symm
    rw [if_neg h8]
    by_cases h7 : n * 9 + 7 = i
    · subst h7; rw [if_pos rfl, if_pos hi]; exact congrArg some (hb 6 (by omega)).symm
    rw [if_neg h7]
    by_cases h6 : n * 9 + 6 = i
    · subst h6; rw [if_pos rfl, if_pos hi]; exact congrArg some (hb 5 (by omega)).symm
    rw [if_neg h6]
    by_cases h5 : n * 9 + 5 = i
    · subst h5; rw [if_pos rfl, if_pos hi]; exact congrArg some (hb 4 (by omega)).symm
    rw [if_neg h5]
    by_cases h4 : n * 9 + 4 = i
    · subst h4; rw [if_pos rfl, if_pos hi]; exact congrArg some (hb 3 (by omega)).symm
    rw [if_neg h4]
    by_cases h3 : n * 9 + 3 = i
    · subst h3; rw [if_pos rfl, if_pos hi]; exact congrArg some (hb 2 (by omega)).symm
    rw [if_neg h3]
    by_cases h2 : n * 9 + 2 = i
    · subst h2; rw [if_pos rfl, if_pos hi]; exact congrArg some (hb 1 (by omega)).symm
    rw [if_neg h2]
    by_cases h1 : n * 9 + 1 = i
    · subst h1; rw [if_pos rfl, if_pos hi]; exact congrArg some (hb 0 (by omega)).symm
    rw [if_neg h1]
    by_cases h0 : n * 9 = i
    · subst h0; rw [if_pos rfl, if_pos hi]; exact congrArg some hk.symm
    rw [if_neg h0, clRow_get hi, up_other (by omega)]
  · rw [List.getElem?_eq_none (by simp only [List.length_set, clRow_length]; omega), List.getElem?_eq_none (by rw [clRow_length]; omega)]

theorem step_copy_slice {P : Program} {ops : Array Oper} {o : Oper} {a : Act} {w : World} {K : Act → World → Prop} {Q : Exit → Act → World → Prop} {E : Prop} (hgd : o.guard = none) (d x : Operand) (dT sT : TypeId)
    (ho : o.op = .call { callee := .builtin .copy, args := #[d, x], argTypes := #[dT, sT] }) (elem : TypeId) (hu : P.underlying dT = some (.slice elem)) (hsz : (P.info? elem).map (·.size) = some 1)
    (g off dLen dCap : Nat) (ad : Addr) (sLen sCap : Nat) (hd : a.eval d = .slice (some ⟨g, off, none⟩) dLen dCap) (hx : a.eval x = .slice (some ad) sLen sCap) (cur : List Value) (t : TypeId) (hg : w.heap[g]? = some (.cells cur.toArray t (0, 0))) (cs : List Value) (hn : cs.length = Nat.min sLen dLen)
    (hsrc : ∀ j v, cs[j]? = some v → w.cell? (ad.add j) = some v) (hfit : off + cs.length ≤ cur.length) (h1 : ∀ v ∈ cs, v.oneCell' = true)
    (h : ∀ w', w'.heap[g]? = some (.cells (cur.take off ++ cs ++ cur.drop (off + cs.length)).toArray t (0, 0)) → w.grownBy w' (some g) → w'.heap.size = w.heap.size → K (a.put o.dst (goInt cs.length)) w') :
    if Region.wanted o (yielded ops a.tmps) = true then Oper.wp P o a w K Q else E := by
  have hw : Region.wanted o (yielded ops a.tmps) = true := by simp [Region.wanted, hgd]
  rw [if_pos hw]
  have hrun := run_copy_row (P := P) w dT sT o.type elem g off dLen dCap ad sLen sCap cur.toArray t cs hu hsz hg hn hsrc (by simpa using hfit) h1
  have hK := h _ (setRow_heap w g cur.toArray _ t _ hg) ⟨rfl, rfl, rfl, by simp, fun k _ hk => setRow_other w g k _ (fun e => hk (by simp [e]))⟩ (by simp)
  unfold Oper.wp
  simp only [execOp, ho, resolve, invoke, builtin, Sem.run_bind, Sem.run_pure, Result.andThen_ok, List.map_toArray, List.map_cons, List.map_nil, hd, hx, hrun]
  exact hK

end Go.Proofs.YtomiepknmmpflaaGreatDoor

