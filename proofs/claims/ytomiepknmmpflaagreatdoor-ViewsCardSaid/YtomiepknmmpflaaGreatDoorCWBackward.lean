/- The program's way back through a chain: its contract. -/
import Derived.Test.YtomiepknmmpflaaGreatDoorCIter2
import Derived.Test.YtomiepknmmpflaaGreatDoorCWNames
import Derived.Test.YtomiepknmmpflaaGreatDoorCWOKeep
namespace Go.Proofs.YtomiepknmmpflaaGreatDoor
open Go.RowKit Go.Joins Go.Shelf

attribute [local go_sem] Oper.semAt_some

theorem room_none {F : Fence} (hd : F.depth = none) (k : Nat) : F.room k := fun d h => by rw [hd] at h; cases h
/-- Where no depth is asked the figures are all one. -/
theorem yield_any {m : Nat} (m' : Nat) {P : Program} {l : Nat} {args : Array Value} {W : World} {R : Ending → World → Prop} (h : YieldAt Fence.wide m P l args W R) : YieldAt Fence.wide m' P l args W R := by
  obtain ⟨fn, tmps, assign, body, hy, hR⟩ := h
  exact ⟨fn, tmps, assign, body, hy, ⟨hR.1, fun c cs _ => hR.2 c cs (room_none rfl _)⟩⟩
theorem Lets.owns {R : Nat → Prop} {B : Nat} {w w' : World} (h : Lets R B w w') {base e size n : Nat} {v : Value} {xs : List Value} (ho : w.ownsRow base e size v n xs) (hr : ∀ k, v.ownBlock = some k → R k ∨ B ≤ k) : w'.ownsRow base e size v n xs := by
  refine ⟨ho.1, ?_⟩
  rcases ho.2 with k | ⟨g, cap, cur, hv, hg, hh, r⟩
  · exact Or.inl k
  · refine Or.inr ⟨g, cap, cur, hv, hg, ?_, r⟩
    rw [h.same g (blk_lt hh) (hr g (by rw [hv]; rfl))]; exact hh
/-- A row, as the library's iterator hands it over; an image, as the chain's does. -/
def rowArgs (L : Ims) (p : Nat) : Array Value := #[.int .i64 (p : Nat), .agg #[.string (Ov.nameAt (fl L) p), .string (imAt L p).bk, .slice (some ⟨(imAt L p).g, 0, none⟩) (imAt L p).n (imAt L p).n, .int .i64 (imAt L p).t]]
def backArgs (L : Ims) (p : Nat) : Array Value := #[.string (Ov.nameAt (fl L) p), .agg #[.string (imAt L p).bk, .slice (some ⟨(imAt L p).g, 0, none⟩) (imAt L p).n (imAt L p).n, .int .i64 (imAt L p).t]]
/-- The places, from the last on. -/
def downFrom (n : Nat) : List Nat := (List.range n).reverse
theorem downFrom_length (n : Nat) : (downFrom n).length = n := by simp [downFrom]
theorem downFrom_at {n k p : Nat} (h : (downFrom n)[k]? = some p) : k < n ∧ p = n - 1 - k := by
  obtain ⟨h1, h2⟩ := List.getElem?_eq_some_iff.1 h
  rw [downFrom_length] at h1
  refine ⟨h1, ?_⟩
  rw [← h2]
  simp [downFrom]
theorem downFrom_get {n k : Nat} (h : k < n) : (downFrom n)[k]? = some (n - 1 - k) := by
  rw [List.getElem?_eq_getElem (by rw [downFrom_length]; exact h)]
  simp [downFrom]

set_option maxRecDepth 100000 in
set_option maxHeartbeats 4000000 in
theorem oBack1_gives (n : Nat) (hn : 1 ≤ n) (Bs g c base : Nat) (L : Ims) (w : World) (hl1 : 1 ≤ L.length) (hl : L.length ≤ 8) (R : Nat → Prop) (r1 : R Bs) (rg : R g)
    (h1 : w.cell? ⟨Bs, 0, none⟩ = some (.slice (some ⟨g, 0, none⟩) L.length c)) (ho : OwnsIms w base (.slice (some ⟨g, 0, none⟩) L.length c) L) :
    Gives Fence.wide n Tryz.prog 184 #[.pointer (some ⟨Bs, 0, none⟩)] (rowArgs L) (downFrom L.length) R w := by
  intro l J W hW hJ hY h0
  have c1 := (hW.cell (p := ⟨Bs, 0, none⟩) (cell_lt h1)).trans h1
  have HO := hide (owns_all ho hW)
  have HY := hide hY
  have HR := hide (And.intro r1 rg)
  have HC1 := hide c1
  clear ho hW h1 hY hJ r1 rg
  have hro : Fence.wide.round = none := rfl
  have hF8 : Fence.wide.fn 184 := trivial
  refine callsIn_of_wp Tryz.func184 rfl hF8 ?_ hro
  simp only [Tryz.ntmps184, List.size_toArray, List.length_cons, List.length_nil, Nat.reduceAdd, Nat.reduceSub, Array.replicate_succ, Array.replicate_zero, List.push_toArray, List.append_toArray, List.nil_append, List.cons_append]
  gi_wp2
  gi_loopw [3] (fun i wr => ∃ k : Nat, k ≤ L.length ∧ i = .int .i64 ((L.length : Int) - 1 - k) ∧ J k wr ∧ Lets R W.heap.size W wr) (fun i _ => (intOf i + 1).toNat)
  case atStart => exact ⟨0, Nat.zero_le _, by simp, h0, Lets.refl _ _ _⟩
  case round =>
    obtain ⟨k, hk, rfl, hJs, hL⟩ := hrel
    by_cases hlt : k < L.length
    · have HL := hide hL
      have c1r := hL.cell (unhide HC1) (Or.inl (unhide HR).1)
      have hor := hL.owns (unhide HO) (fun q hq => Or.inl (by simp [Value.ownBlock] at hq; subst hq; exact (unhide HR).2))
      obtain ⟨p, hp⟩ : ∃ p, L.length - 1 - k = p := ⟨_, rfl⟩
      obtain ⟨y0, y1, y2, y3⟩ := ims_row hor (k := p) (by omega)
      obtain ⟨fn, tmps, assign, body, hy, hR⟩ := unhide HY k p wr (by rw [downFrom_get hlt, hp]) hJs
      unfold rowArgs at hy
      obtain ⟨nm, hnm⟩ : ∃ nm, Ov.nameAt (fl L) p = nm := ⟨_, rfl⟩
      obtain ⟨⟨bk, mg, mn, mt⟩, hm⟩ : ∃ m, imAt L p = m := ⟨_, rfl⟩
      rw [hnm] at y0 hy
      rw [hm] at y1 y2 y3 hy
      dsimp only at y1 y2 y3 hy
      have hpI : (L.length : Int) - 1 - k = (p : Int) := by omega
      rw [hpI]
      have hpl : p < L.length := by omega
      have HP := hide hpI
      have HRD := hide hR
      clear hL hJs hor hnm hm hpI hp hR c1
      gi_wp2
      refine (unhide HRD).mono ?_
      rintro e w3 ⟨rfl, hj3, hl3⟩
      gi_wp2
      go_roundw
      case rel => exact ⟨k + 1, by omega, by congr 1; have := unhide HP; omega, hj3, (unhide HL).trans hl3⟩
      case measure => simp [intOf]
    · obtain rfl : k = L.length := by omega
      have hneg : (L.length : Int) - 1 - L.length = -1 := by omega
      rw [hneg]
      clear hL hneg
      gi_wp2
      go_end0
      exact ⟨⟨_, rfl⟩, by rw [downFrom_length]; exact hJs⟩

theorem round_any {m m' l l0 : Nat} {P : Program} {f : FuncId} {tmps : Array Value} {assign body : Go.Code} {w : World} {R : Ending → World → Prop} (h : RoundIn Fence.wide m P l f tmps assign body w R) : RoundIn (Fence.wide.inRound l0) m' P l f tmps assign body w R := ⟨h.1, fun c cs _ => h.2 c cs (room_none rfl _)⟩
theorem oBack_in (n : Nat) (a : Option Addr) (m c : Nat) (w : World) :
    CallsIn Fence.wide n Tryz.prog 155 #[.slice a m c] w fun e w' => e = .returned (.func (.func 184) #[] #[.pointer (some ⟨w.heap.size, 0, none⟩)]) ∧ w' = w.alloc (.cells #[.slice a m c] 130) := by
  refine callsIn_of_wp Tryz.func155 rfl trivial ?_ rfl
  simp only [Tryz.ntmps155, List.size_toArray, List.length_cons, List.length_nil, Nat.reduceAdd, Nat.reduceSub, Array.replicate_succ, Array.replicate_zero, List.push_toArray, List.append_toArray, List.nil_append, List.cons_append]
  gi_wp2
  go_ret
  exact ⟨rfl, rfl⟩
theorem oIbackward_in (n : Nat) (p : Option Addr) (w : World) :
    CallsIn Fence.wide n Tryz.prog 108 #[.pointer p] w fun e w' => e = .returned (.func (.func 154) #[] #[.pointer (some ⟨w.heap.size, 0, none⟩)]) ∧ w' = w.alloc (.cells #[.pointer p] 78) := by
  refine callsIn_of_wp Tryz.func108 rfl trivial ?_ rfl
  simp only [Tryz.ntmps108, List.size_toArray, List.length_cons, List.length_nil, Nat.reduceAdd, Nat.reduceSub, Array.replicate_succ, Array.replicate_zero, List.push_toArray, List.append_toArray, List.nil_append, List.cons_append]
  gi_wp2
  go_ret
  exact ⟨rfl, rfl⟩

set_option maxRecDepth 100000 in
set_option maxHeartbeats 4000000 in
theorem oIback1_gives (n : Nat) (hn : 4 ≤ n) (Bs cb g c base : Nat) (L : Ims) (w : World) (hl1 : 1 ≤ L.length) (hl : L.length ≤ 8) (R : Nat → Prop) (rg : R g) (hRl : ∀ k, R k → k < w.heap.size)
    (h1 : w.cell? ⟨Bs, 0, none⟩ = some (.pointer (some ⟨cb, 0, none⟩))) (h2 : w.cell? ⟨cb, 0, none⟩ = some (.slice (some ⟨g, 0, none⟩) L.length c)) (ho : OwnsIms w base (.slice (some ⟨g, 0, none⟩) L.length c) L) :
    Gives Fence.wide n Tryz.prog 154 #[.pointer (some ⟨Bs, 0, none⟩)] (backArgs L) (downFrom L.length) R w := by
  intro l J W hW hJ hY h0
  have c1 := (hW.cell (p := ⟨Bs, 0, none⟩) (cell_lt h1)).trans h1
  have c2 := (hW.cell (p := ⟨cb, 0, none⟩) (cell_lt h2)).trans h2
  have HO := hide (owns_all ho hW)
  have hwW := hW.size
  have HY := hide hY
  have HJ := hide hJ
  have hb1 := cell_lt c1
  have hb2 := cell_lt c2
  have c1a : ∀ o, (W.alloc o).cell? ⟨Bs, 0, none⟩ = some (.pointer (some ⟨cb, 0, none⟩)) := fun o => (World.cell?_alloc_past _ _ _ hb1).trans c1
  have c2a : ∀ o, (W.alloc o).cell? ⟨cb, 0, none⟩ = some (.slice (some ⟨g, 0, none⟩) L.length c) := fun o => (World.cell?_alloc_past _ _ _ hb2).trans c2
  clear ho hW h1 h2 hY hJ c1 c2
  have hro : Fence.wide.round = none := rfl
  have hF8 : Fence.wide.fn 154 := trivial
  have hFB : Fence.wide.fn 155 := trivial
  have hFC : Fence.wide.fn 184 := trivial
  have hn1 : 1 ≤ n := by omega
  refine callsIn_of_wp_marks Tryz.func154 rfl hF8 ?_ hro
  simp only [Tryz.ntmps154, List.size_toArray, List.length_cons, List.length_nil, Nat.reduceAdd, Nat.reduceSub, Array.replicate_succ, Array.replicate_zero, List.push_toArray, List.append_toArray, List.nil_append, List.cons_append]
  gi_wp2_with (gi_at_call 155; refine (oBack_in _ _ _ _ _).mono ?_; rintro e w' ⟨rfl, rfl⟩)
  have bY : Boxed ((W.alloc (.cells #[.func (.yield l) #[] #[]] 216)).alloc (.cells #[.slice (some ⟨g, 0, none⟩) L.length c] 130)) W.heap.size 216 (.func (.yield l) #[] #[]) := (Boxed.new W _ _).alloc _
  have bS : Boxed ((W.alloc (.cells #[.func (.yield l) #[] #[]] 216)).alloc (.cells #[.slice (some ⟨g, 0, none⟩) L.length c] 130)) (W.heap.size + 1) 130 (.slice (some ⟨g, 0, none⟩) L.length c) := by
    have := Boxed.new (W.alloc (.cells #[.func (.yield l) #[] #[]] 216)) 130 (.slice (some ⟨g, 0, none⟩) L.length c)
    rwa [World.size_alloc] at this
  have hB0 := below_alloc2 W (.cells #[.func (.yield l) #[] #[]] 216) (.cells #[.slice (some ⟨g, 0, none⟩) L.length c] 130)
  have j0 : J 0 ((W.alloc (.cells #[.func (.yield l) #[] #[]] 216)).alloc (.cells #[.slice (some ⟨g, 0, none⟩) L.length c] 130)) := (unhide HJ).alloc _ ((unhide HJ).alloc _ h0)
  obtain ⟨w2, hw2⟩ : ∃ w2, w2 = ((W.alloc (.cells #[.func (.yield l) #[] #[]] 216)).alloc (.cells #[.slice (some ⟨g, 0, none⟩) L.length c] 130)) := ⟨_, rfl⟩
  have hsz2 : w2.heap.size = W.heap.size + 1 + 1 := by rw [hw2]; simp
  rw [← hw2] at bY bS hB0 j0
  rw [← hw2]
  clear hw2 c1a c2a
  have hgW : g < W.heap.size := by have := hRl g rg; omega
  have hgv := oBack1_gives (n - 1) (by omega) (W.heap.size + 1) g c base L w2 hl1 hl (fun i => i = W.heap.size + 1 ∨ i = g) (Or.inl rfl) (Or.inr rfl) bS.cell (owns_all (unhide HO) hB0)
  refine wp_gives hro hn1 (gf := 184) (lb := #[.pointer (some ⟨W.heap.size + 1, 0, none⟩)]) rfl hFC (enters_of Tryz.func184 (by kernel_rfl) rfl)
    hgv (Below.refl _ _) (fun k hk => by rcases hk with e | e <;> omega) (fun _ => rfl)
    (fun k X => J k X ∧ Boxed X W.heap.size 216 (.func (.yield l) #[] #[]))
    (fun k X Y row hs hg hr => ⟨unhide HJ k X Y row hs.1 hg (fun r e => ⟨by have := (hr r e).1; omega, (hr r e).2⟩), hs.2.kept hg (fun e => by have := (hr _ e.symm).1; omega)⟩) ⟨j0, bY⟩
    (fun p X => { tmps := #[.func (.yield l) #[] #[], .pointer (some ⟨Bs, 0, none⟩), .pointer (some ⟨W.heap.size, 0, none⟩), undef, .pointer (some ⟨X.heap.size, 0, none⟩), .pointer (some ⟨cb, 0, none⟩), .pointer (some ⟨cb, 0, none⟩), .pointer (some ⟨cb, 0, none⟩), .slice (some ⟨g, 0, none⟩) L.length c, .func (.func 184) #[] #[.pointer (some ⟨W.heap.size + 1, 0, none⟩)], .int .i64 (p : Nat), .agg #[.string (Ov.nameAt (fl L) p), .string (imAt L p).bk, .slice (some ⟨(imAt L p).g, 0, none⟩) (imAt L p).n (imAt L p).n, .int .i64 (imAt L p).t], undef, undef, undef, undef, undef, undef, undef], defers := [] })
    (fun p X => X.alloc (.cells #[.string (Ov.nameAt (fl L) p), .string (imAt L p).bk, .slice (some ⟨(imAt L p).g, 0, none⟩) (imAt L p).n (imAt L p).n, .int .i64 (imAt L p).t] 151))
    (fun p X => below_alloc1 X _) ?assign ?body ?done
  case assign =>
    intro y k X K hK
    unfold rowArgs
    gi_wp2
    exact hK
  case body =>
    intro l' k p X o o' hl' ho' hoc hx hI
    obtain ⟨hj, hbx⟩ := hI
    have hll : l' < X.heap.size := blk_lt ho'
    have hj1 := (unhide HJ).putObj o ((unhide HJ).alloc (.cells #[.string (Ov.nameAt (fl L) p), .string (imAt L p).bk, .slice (some ⟨(imAt L p).g, 0, none⟩) (imAt L p).n (imAt L p).n, .int .i64 (imAt L p).t] 151) hj) (by omega) (blk_alloc ho' _) hoc
    have hbx1 : Boxed ((X.alloc (.cells #[.string (Ov.nameAt (fl L) p), .string (imAt L p).bk, .slice (some ⟨(imAt L p).g, 0, none⟩) (imAt L p).n (imAt L p).n, .int .i64 (imAt L p).t] 151)).putObj l' o) W.heap.size 216 (.func (.yield l) #[] #[]) := (World.putObj_heap_other (by omega)).trans (hbx.alloc _)
    have hrx : ((X.alloc (.cells #[.string (Ov.nameAt (fl L) p), .string (imAt L p).bk, .slice (some ⟨(imAt L p).g, 0, none⟩) (imAt L p).n (imAt L p).n, .int .i64 (imAt L p).t] 151)).putObj l' o).heap[X.heap.size]? = some (.cells #[.string (Ov.nameAt (fl L) p), .string (imAt L p).bk, .slice (some ⟨(imAt L p).g, 0, none⟩) (imAt L p).n (imAt L p).n, .int .i64 (imAt L p).t] 151 (0, 0)) := (World.putObj_heap_other (by omega)).trans (blk_new X _)
    obtain ⟨W1, hW1⟩ : ∃ W1, W1 = (X.alloc (.cells #[.string (Ov.nameAt (fl L) p), .string (imAt L p).bk, .slice (some ⟨(imAt L p).g, 0, none⟩) (imAt L p).n (imAt L p).n, .int .i64 (imAt L p).t] 151)).putObj l' o := ⟨_, rfl⟩
    rw [← hW1] at hj1 hbx1 hrx
    rw [← hW1]
    clear hW1 hj hbx hgv bY bS hB0 j0
    have y0 := blk_cell (i := 0) hrx rfl
    have y1 := blk_cell (i := 1) hrx rfl
    have y2 := blk_cell (i := 2) hrx rfl
    have y3 := blk_cell (i := 3) hrx rfl
    have cY := hbx1.cell
    have HBX := hide hbx1
    obtain ⟨fn, tmps, assign, body, hy, hR⟩ := unhide HY k p W1 hx hj1
    unfold backArgs at hy
    have HRD := hide hR
    clear hR hj1 hbx1 hrx
    gi_wp2
    refine ⟨fun _ => by omega, (round_any (unhide HRD)).mono ?_⟩
    rintro e w3 ⟨rfl, hj3, hl3⟩
    gi_wp2
    refine ⟨hl3.weak (fun j hj => ?_), hj3, (hl3.same W.heap.size (unhide HBX).lt (Or.inr (Nat.le_refl _))).trans (unhide HBX)⟩
    rcases hj with (e | e) | e
    · exact Or.inr (by omega)
    · rw [e]; exact Or.inl rg
    · exact Or.inr (by omega)
  case done =>
    intro D X hD hI hK
    rw [downFrom_length] at hI
    gi_wp2
    refine ⟨by simp, .inl ⟨_, _, rfl, run_takeDeferred hK, ?_⟩⟩
    exact ⟨_, results_none rfl _ _ _, ⟨_, rfl⟩, by rw [downFrom_length]; exact (unhide HJ).putObj _ hI.1 (by omega) hK rfl⟩

end Go.Proofs.YtomiepknmmpflaaGreatDoor
