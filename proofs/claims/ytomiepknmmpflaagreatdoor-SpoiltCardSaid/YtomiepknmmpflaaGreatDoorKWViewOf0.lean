/- The program's viewOf. -/
import Derived.Test.YtomiepknmmpflaaGreatDoorKPClRow
namespace Go.Proofs.YtomiepknmmpflaaGreatDoor
open Go.RowKit Go.Joins Go.Shelf

attribute [local go_sem] Oper.semAt_some

structure VO (w : World) (V : Nat) (l : Ov.Files) (ns : List ByteArray) (k : Nat) (W : World) : Prop where
  row : ∃ a c, Boxed W V 117 (.slice a (sufN l ns k) c) ∧ OwnsRun W 0 (.slice a (sufN l ns k) c) (sufN l ns k) (sufV l ns k)
  below : Below w.heap.size w W
theorem VO.own (w : World) (V : Nat) (l : Ov.Files) (ns : List ByteArray) (n : Nat) (hn : w.heap.size ≤ n) : OwnFrom n (VO w V l ns) := by
  intro k W W' row h hg hr
  obtain ⟨a, c, h1, h2⟩ := h.row
  refine ⟨⟨a, c, h1.kept hg (fun e => ?_), owns_grown h2 hg ?_⟩, h.below.grown hg h.below.size (fun r e => by have := (hr r e).1; omega)⟩
  · obtain ⟨_, o, ho, hc⟩ := hr V e.symm
    rw [show W.heap[V]? = _ from h1] at ho; cases ho; cases hc
  · by_cases hv : (Value.slice a (sufN l ns k) c).ownBlock = none
    · exact Or.inl hv
    · refine Or.inr fun e => ?_
      obtain ⟨g, hgq⟩ := Option.ne_none_iff_exists'.1 hv
      obtain ⟨cs, hcs⟩ := own_blk h2 hgq
      obtain ⟨_, o, ho, hc⟩ := hr g (by rw [← e]; exact hgq)
      rw [hcs] at ho; cases ho; cases hc
theorem VO.set {w W2 : World} {V : Nat} {l : Ov.Files} {ns : List ByteArray} {k : Nat} {a a' : Option Addr} {n' c c' : Nat} (hV : w.heap.size ≤ V) (hv : Boxed W2 V 117 (.slice a (sufN l ns k) c)) (hb : Below w.heap.size w W2) (hn : n' = sufN l ns (k + 1)) (ho : OwnsRun W2 0 (.slice a' n' c') n' (sufV l ns (k + 1))) : VO w V l ns (k + 1) (W2.setCell ⟨V, 0, none⟩ (.slice a' n' c')) := by
  subst hn
  exact ⟨⟨a', c', hv.set _, owns_set ho (a := ⟨V, 0, none⟩) (hv.not_row (by decide) ho) _⟩, hb.setCell (p := ⟨V, 0, none⟩) hV _⟩

theorem lies_at {w : World} {cb : Nat} {l : Ov.Files} {L : Ims} {ns : List ByteArray} (h : Lies w cb l L) (hns : L.map Prod.fst = ns) {p : Nat} (hp : p < L.length) : ∃ y gp, ns.getD p ⟨#[]⟩ = y ∧ cb ≤ gp ∧ Ov.isImage (fOf l y) ∧ imAt L p = imOf (fOf l y) gp ∧ w.heap[gp]? = some (.cells (rowTo (fOf l y) (Ov.many (fOf l y))).toArray 160 (0, 0)) := by
  have hm : L[p] ∈ L := List.getElem_mem hp
  obtain ⟨h0, h1, h2, h3⟩ := h _ hm
  refine ⟨L[p].1, L[p].2.g, ?_, h0, h1, ?_, h3⟩
  · rw [← hns]; simp [hp]
  · have : imAt L p = L[p].2 := by simp [imAt, hp]
    rw [this]; exact h2

set_option maxRecDepth 100000 in
set_option maxHeartbeats 4000000 in
theorem oviewOf_calls (l : Ov.Files) (L : Ims) (cb : Nat) (r : Option Nat) (w : World) (hch : Ch w cb r l L) (hl1 : 1 ≤ L.length) (hl : L.length ≤ 8) :
    Calls Tryz.prog 70 #[.pointer (some ⟨cb, 0, none⟩)] w fun e w' => ∃ a c, e = .returned (.slice a (sufN l (L.map Prod.fst) L.length) c) ∧ Below w.heap.size w w' ∧ OwnsRun w' 0 (.slice a (sufN l (L.map Prod.fst) L.length) c) (sufN l (L.map Prod.fst) L.length) (sufV l (L.map Prod.fst) L.length) := by
  obtain ⟨⟨v, hblk, hown, _⟩, hlies⟩ := hch
  obtain ⟨g, c, rfl⟩ := ownsRow_form hown (by omega)
  have hcc : w.cell? ⟨cb, 0, none⟩ = some (.slice (some ⟨g, 0, none⟩) L.length c) := blk_cell hblk rfl
  have hcbl := blk_lt hblk
  have hgl : g < w.heap.size := (hown.lt g rfl).2
  have HO := hide hown
  have HLI := hide hlies
  have HCC := hide hcc
  clear hown hlies hcc hblk
  obtain ⟨ns, hns⟩ : ∃ ns, L.map Prod.fst = ns := ⟨_, rfl⟩
  have hnl : ns.length = L.length := by rw [← hns]; simp
  rw [hns]
  have HNS := hide hns
  have HNL := hide hnl
  clear hns hnl
  refine (callsIn_wide (n := 9)).1 ?_
  have hro : Fence.wide.round = none := rfl
  refine callsIn_of_wp_marks Tryz.func70 rfl trivial ?_ hro
  simp only [Tryz.ntmps70, List.size_toArray, List.length_cons, List.length_nil, Nat.reduceAdd, Nat.reduceSub, Array.replicate_succ, Array.replicate_zero, List.push_toArray, List.append_toArray, List.nil_append, List.cons_append]
  have hfA : Fence.wide.fn 108 := trivial
  have hfB : Fence.wide.fn 154 := trivial
  have hfC : Fence.wide.fn 109 := trivial
  gi_wp2_with (gi_at_call 108; refine (oIbackward_in _ _ _).mono ?_; rintro e w' ⟨rfl, rfl⟩)
  have bV : Boxed ((w.alloc (.cells #[.slice none 0 0] 117)).alloc (.cells #[.pointer (some ⟨cb, 0, none⟩)] 78)) w.heap.size 117 (.slice none 0 0) := (Boxed.new w _ _).alloc _
  have bP : Boxed ((w.alloc (.cells #[.slice none 0 0] 117)).alloc (.cells #[.pointer (some ⟨cb, 0, none⟩)] 78)) (w.heap.size + 1) 78 (.pointer (some ⟨cb, 0, none⟩)) := by
    have := Boxed.new (w.alloc (.cells #[.slice none 0 0] 117)) 78 (.pointer (some ⟨cb, 0, none⟩))
    rwa [World.size_alloc] at this
  have hB0 := below_alloc2 w (.cells #[.slice none 0 0] 117) (.cells #[.pointer (some ⟨cb, 0, none⟩)] 78)
  obtain ⟨w2, hw2⟩ : ∃ w2, w2 = ((w.alloc (.cells #[.slice none 0 0] 117)).alloc (.cells #[.pointer (some ⟨cb, 0, none⟩)] 78)) := ⟨_, rfl⟩
  have hsz2 : w2.heap.size = w.heap.size + 1 + 1 := by rw [hw2]; simp
  rw [← hw2] at bV bP hB0
  rw [← hw2]
  clear hw2
  have hgv := oIback1_gives 8 (by decide) (w.heap.size + 1) cb g c 0 L w2 hl1 hl (fun i => i = w.heap.size + 1 ∨ i = cb ∨ i = g) (Or.inr (Or.inr rfl)) (fun k hk => by rcases hk with e | e | e <;> omega) bP.cell ((hB0.cell (p := ⟨cb, 0, none⟩) hcbl).trans (unhide HCC)) (owns_all (unhide HO) hB0)
  refine wp_gives hro (by decide) (gf := 154) (lb := #[.pointer (some ⟨w.heap.size + 1, 0, none⟩)]) rfl hfB (enters_of Tryz.func154 (by kernel_rfl) rfl)
    hgv (Below.refl _ _) (fun k hk => by rcases hk with e | e | e <;> omega) (fun _ => rfl)
    (VO w w.heap.size l ns) (VO.own _ _ _ _ _ (by omega)) ⟨⟨none, 0, bV, World.ownsRow_nil _ _ _ _⟩, hB0⟩
    (fun p X => { tmps := #[.pointer (some ⟨cb, 0, none⟩), undef, .slice none 0 0, .pointer (some ⟨w.heap.size, 0, none⟩), undef, .pointer (some ⟨X.heap.size, 0, none⟩), .pointer (some ⟨cb, 0, none⟩), .func (.func 154) #[] #[.pointer (some ⟨w.heap.size + 1, 0, none⟩)], .string (Ov.nameAt (fl L) p), .agg #[.string (imAt L p).bk, .slice (some ⟨(imAt L p).g, 0, none⟩) (imAt L p).n (imAt L p).n, .int .i64 (imAt L p).t], undef, undef, undef, undef], defers := [] })
    (fun p X => X.alloc (.cells #[.string (imAt L p).bk, .slice (some ⟨(imAt L p).g, 0, none⟩) (imAt L p).n (imAt L p).n, .int .i64 (imAt L p).t] 90))
    (fun p X => below_alloc1 X _) ?assign ?body ?done
  case assign =>
    intro y k X K hK
    unfold backArgs
    gi_wp2
    exact hK
  case body =>
    intro l' k p X o o' hl' ho' hoc hx hI
    obtain ⟨hk, hpe⟩ := downFrom_at hx
    have hpl : p < L.length := by omega
    have hll : l' < X.heap.size := blk_lt ho'
    obtain ⟨y, gp, hy, _, him, hmp, hgp⟩ := lies_at (unhide HLI) (unhide HNS) hpl
    rw [hmp]
    have hm30 : Ov.many (fOf l y) ≤ 30 := him.1.2.2.2.2.2.1
    have hm1 : 1 ≤ Ov.many (fOf l y) := him.1.2.2.2.2.1
    obtain ⟨C, hC⟩ : ∃ C : Obj, C = .cells #[.string (imOf (fOf l y) gp).bk, .slice (some ⟨(imOf (fOf l y) gp).g, 0, none⟩) (imOf (fOf l y) gp).n (imOf (fOf l y) gp).n, .int .i64 (imOf (fOf l y) gp).t] 90 (0, 0) := ⟨_, rfl⟩
    rw [← hC]
    have hgr : X.grownBy ((X.alloc C).putObj l' o) (some l') := ⟨rfl, rfl, rfl, by simp, fun i hi hne => (World.putObj_heap_other (fun e => hne (by rw [e]))).trans ((below_alloc1 X C).block i hi)⟩
    have hvo := VO.own w w.heap.size l ns w2.heap.size (by omega) k X _ (some l') hI hgr (fun r e => by cases e; exact ⟨hl', o', ho', hoc⟩)
    have hrx : ((X.alloc C).putObj l' o).heap[X.heap.size]? = some C := (World.putObj_heap_other (by omega)).trans (blk_new X _)
    obtain ⟨W1, hW1⟩ : ∃ W1, W1 = (X.alloc C).putObj l' o := ⟨_, rfl⟩
    rw [← hW1] at hvo hrx
    rw [← hW1]
    clear hW1 hgr
    rw [hC] at hrx
    have y0 := blk_cell (i := 0) hrx rfl
    have y1 := blk_cell (i := 1) hrx rfl
    have y2 := blk_cell (i := 2) hrx rfl
    obtain ⟨a, cc, hv, hrow⟩ := hvo.row
    have hcl : Cl W1 gp (Ov.many (fOf l y)) (qOf (fOf l y)) (dOf (fOf l y)) := cl_of him ((hvo.below.block gp (blk_lt hgp)).trans hgp)
    have cV := hv.cell
    have hN30 : sufN l ns k ≤ 30 := by
      unfold sufN
      split
      · omega
      · rename_i h0
        obtain ⟨y', gp', hy', _, him', _, _⟩ := lies_at (unhide HLI) (unhide HNS) (p := ns.length - k) (by have := unhide HNL; omega)
        rw [hy']
        exact him'.1.2.2.2.2.2.1
    have HV := hide hv
    have HROW := hide hrow
    have HCL := hide hcl
    have HBW := hide hvo.below
    have HST : Hid (∀ i, i < 8 * Ov.many (fOf l y) → overV (qOf (fOf l y)) (dOf (fOf l y)) (sufN l ns k) (sufV l ns k) i = sufV l ns (k + 1) i) := fun i hi => suf_step l ns (by have := unhide HNL; omega) (by have := unhide HNL; omega) hy hi
    have HSN : Hid (Ov.many (fOf l y) = sufN l ns (k + 1)) := (sufN_succ l ns (by have := unhide HNL; omega) hy).symm
    obtain ⟨m, hm⟩ : ∃ m, Ov.many (fOf l y) = m := ⟨_, rfl⟩
    obtain ⟨bkp, hbkp⟩ : ∃ x, (imOf (fOf l y) gp).bk = x := ⟨_, rfl⟩
    obtain ⟨tp, htp⟩ : ∃ x, (imOf (fOf l y) gp).t = x := ⟨_, rfl⟩
    obtain ⟨q, hq⟩ : ∃ q, qOf (fOf l y) = q := ⟨_, rfl⟩
    obtain ⟨d, hd⟩ : ∃ d, dOf (fOf l y) = d := ⟨_, rfl⟩
    have HQ3 : Hid (∀ k, k < m → q k = 0 ∨ q k = 1 ∨ q k = 2) := fun k _ => by rw [← hq]; exact qOf_known _ _
    rw [show (imOf (fOf l y) gp).n = m from hm, show (imOf (fOf l y) gp).g = gp from rfl] at y1
    rw [hbkp] at y0
    rw [htp] at y2
    rw [hm, hq, hd] at HCL HST
    rw [hm] at HSN hm1 hm30
    obtain ⟨N, hN⟩ : ∃ N, sufN l ns k = N := ⟨_, rfl⟩
    rw [hN] at cV HV HROW HST hN30
    have HNN := hide hN
    clear hvo hrx hv hrow hcl hI hC ho' hgp hmp him hy hm hbkp htp hq hd hN hgv bV bP hB0
    gi_wp2_with (gi_at_call 109; refine (CallsIn.inRound l' ((callsIn_wide (n := _)).2 (oviewOver_calls bkp tp gp m N 0 q d (sufV l ns k) (.slice a N cc) W1 hm1 hm30 hN30 (unhide HCL) (unhide HROW) (unhide HQ3)))).mono ?_; rintro e w3 ⟨a3, c3, rfl, hb3, ho3⟩; have hv3 : Boxed w3 w.heap.size 117 (.slice a N cc) := (hb3.block _ (unhide HV).lt).trans (unhide HV); have cV3 := hv3.cell; have fV3 := hv3.frozen; have HB3 := hide hb3; have HO3 := hide ho3; have HV3 := hide hv3; clear hb3 ho3 hv3)
    have ho4 : OwnsRun w3 0 (.slice a3 m c3) m (sufV l ns (k + 1)) := by
      have h1 := ownsRow_le (unhide HO3) (Nat.zero_le _)
      rw [runTo_congr (unhide HST)] at h1
      exact h1
    exact ⟨(Lets.of_below (unhide HB3)).setCell (p := ⟨w.heap.size, 0, none⟩) (by rintro (e | e | e) <;> simp at e <;> omega) (by show w.heap.size < w2.heap.size; omega) _, VO.set (a := a) (c := cc) (Nat.le_refl _) (by rw [unhide HNN]; exact unhide HV3) ((unhide HBW).trans ((unhide HB3).mono (unhide HBW).size)) (unhide HSN) ho4⟩
  case done =>
    intro D X hD hI hK
    rw [downFrom_length] at hI
    obtain ⟨⟨a, c, hv, hrow⟩, hB⟩ := hI
    have hc := hv.cell
    have HRW := hide hrow
    have HBW := hide hB
    clear hrow hB
    gi_wp2
    refine ⟨by simp, .inl ⟨_, _, rfl, run_takeDeferred hK, ?_⟩⟩
    exact ⟨_, results_tmp rfl _ _ _, a, c, rfl, (unhide HBW).trans (belowK_b (w := w) (Nat.le_refl _) X D _ _ (by omega) hK rfl rfl), ownsRow_putObj (unhide HRW) _ hK rfl⟩

end Go.Proofs.YtomiepknmmpflaaGreatDoor

namespace Go.Proofs.YtomiepknmmpflaaGreatDoor
open Go.RowKit Go.Joins Go.Shelf

attribute [local go_sem] Oper.semAt_some

set_option maxRecDepth 100000 in
set_option maxHeartbeats 2000000 in
theorem oBack1_nil (n : Nat) (Bs : Nat) (w : World) (R : Nat → Prop) (h1 : w.cell? ⟨Bs, 0, none⟩ = some (.slice none 0 0)) :
    Gives Fence.wide n Tryz.prog 184 #[.pointer (some ⟨Bs, 0, none⟩)] (rowArgs []) ([] : List Nat) R w := by
  intro l J W hW hJ hY h0
  have c1 := (hW.cell (p := ⟨Bs, 0, none⟩) (cell_lt h1)).trans h1
  clear hW h1 hY hJ
  have hro : Fence.wide.round = none := rfl
  have hF8 : Fence.wide.fn 184 := trivial
  refine callsIn_of_wp Tryz.func184 rfl hF8 ?_ hro
  simp only [Tryz.ntmps184, List.size_toArray, List.length_cons, List.length_nil, Nat.reduceAdd, Nat.reduceSub, Array.replicate_succ, Array.replicate_zero, List.push_toArray, List.append_toArray, List.nil_append, List.cons_append]
  gi_wp2
  gi_loopw [3] (fun i wr => i = .int .i64 (-1) ∧ J 0 wr) (fun _ _ => 0)
  case atStart => exact ⟨rfl, h0⟩
  case round =>
    obtain ⟨rfl, hJs⟩ := hrel
    gi_wp2
    go_end0
    exact ⟨⟨_, rfl⟩, hJs⟩

set_option maxRecDepth 100000 in
set_option maxHeartbeats 2000000 in
theorem oIback1_nil (n : Nat) (hn : 4 ≤ n) (Bs cb : Nat) (w : World) (R : Nat → Prop)
    (h1 : w.cell? ⟨Bs, 0, none⟩ = some (.pointer (some ⟨cb, 0, none⟩))) (h2 : w.cell? ⟨cb, 0, none⟩ = some (.slice none 0 0)) :
    Gives Fence.wide n Tryz.prog 154 #[.pointer (some ⟨Bs, 0, none⟩)] (backArgs []) ([] : List Nat) R w := by
  intro l J W hW hJ hY h0
  have c1 := (hW.cell (p := ⟨Bs, 0, none⟩) (cell_lt h1)).trans h1
  have c2 := (hW.cell (p := ⟨cb, 0, none⟩) (cell_lt h2)).trans h2
  have hwW := hW.size
  have HJ := hide hJ
  have hb1 := cell_lt c1
  have hb2 := cell_lt c2
  have c1a : ∀ o, (W.alloc o).cell? ⟨Bs, 0, none⟩ = some (.pointer (some ⟨cb, 0, none⟩)) := fun o => (World.cell?_alloc_past _ _ _ hb1).trans c1
  have c2a : ∀ o, (W.alloc o).cell? ⟨cb, 0, none⟩ = some (.slice none 0 0) := fun o => (World.cell?_alloc_past _ _ _ hb2).trans c2
  clear hW h1 h2 hY hJ c1 c2
  have hro : Fence.wide.round = none := rfl
  have hF8 : Fence.wide.fn 154 := trivial
  have hFB : Fence.wide.fn 155 := trivial
  have hFC : Fence.wide.fn 184 := trivial
  have hn1 : 1 ≤ n := by omega
  refine callsIn_of_wp_marks Tryz.func154 rfl hF8 ?_ hro
  simp only [Tryz.ntmps154, List.size_toArray, List.length_cons, List.length_nil, Nat.reduceAdd, Nat.reduceSub, Array.replicate_succ, Array.replicate_zero, List.push_toArray, List.append_toArray, List.nil_append, List.cons_append]
  gi_wp2_with (gi_at_call 155; refine (oBack_in _ _ _ _ _).mono ?_; rintro e w' ⟨rfl, rfl⟩)
  have bS : Boxed ((W.alloc (.cells #[.func (.yield l) #[] #[]] 216)).alloc (.cells #[.slice none 0 0] 130)) (W.heap.size + 1) 130 (.slice none 0 0) := by
    have := Boxed.new (W.alloc (.cells #[.func (.yield l) #[] #[]] 216)) 130 (.slice none 0 0)
    rwa [World.size_alloc] at this
  have j0 : J 0 ((W.alloc (.cells #[.func (.yield l) #[] #[]] 216)).alloc (.cells #[.slice none 0 0] 130)) := (unhide HJ).alloc _ ((unhide HJ).alloc _ h0)
  obtain ⟨w2, hw2⟩ : ∃ w2, w2 = ((W.alloc (.cells #[.func (.yield l) #[] #[]] 216)).alloc (.cells #[.slice none 0 0] 130)) := ⟨_, rfl⟩
  have hsz2 : w2.heap.size = W.heap.size + 1 + 1 := by rw [hw2]; simp
  rw [← hw2] at bS j0
  rw [← hw2]
  clear hw2 c1a c2a
  refine wp_gives hro hn1 (gf := 184) (lb := #[.pointer (some ⟨W.heap.size + 1, 0, none⟩)]) rfl hFC (enters_of Tryz.func184 (by kernel_rfl) rfl)
    (oBack1_nil (n - 1) (W.heap.size + 1) w2 (fun i => i = W.heap.size + 1) bS.cell) (Below.refl _ _) (fun k hk => by omega) (fun _ => rfl)
    (fun k X => J k X)
    (fun k X Y row hs hg hr => unhide HJ k X Y row hs hg (fun r e => ⟨by have := (hr r e).1; omega, (hr r e).2⟩)) j0
    (fun p X => { tmps := #[.func (.yield l) #[] #[], .pointer (some ⟨Bs, 0, none⟩), .pointer (some ⟨W.heap.size, 0, none⟩), undef, .pointer (some ⟨X.heap.size, 0, none⟩), .pointer (some ⟨cb, 0, none⟩), .pointer (some ⟨cb, 0, none⟩), .pointer (some ⟨cb, 0, none⟩), .slice none 0 0, .func (.func 184) #[] #[.pointer (some ⟨W.heap.size + 1, 0, none⟩)], .int .i64 (p : Nat), .agg #[.string (Ov.nameAt (fl []) p), .string (imAt [] p).bk, .slice (some ⟨(imAt [] p).g, 0, none⟩) (imAt [] p).n (imAt [] p).n, .int .i64 (imAt [] p).t], undef, undef, undef, undef, undef, undef, undef], defers := [] })
    (fun p X => X.alloc (.cells #[.string (Ov.nameAt (fl []) p), .string (imAt [] p).bk, .slice (some ⟨(imAt [] p).g, 0, none⟩) (imAt [] p).n (imAt [] p).n, .int .i64 (imAt [] p).t] 151))
    (fun p X => below_alloc1 X _) ?assign ?body ?done
  case assign =>
    intro y k X K hK
    unfold rowArgs
    gi_wp2
    exact hK
  case body =>
    intro l' k p X o o' hl' ho' hoc hx hI
    simp at hx
  case done =>
    intro D X hD hI hK
    gi_wp2
    refine ⟨by simp, .inl ⟨_, _, rfl, run_takeDeferred hK, ?_⟩⟩
    exact ⟨_, results_none rfl _ _ _, ⟨_, rfl⟩, (unhide HJ).putObj _ hI (by omega) hK rfl⟩

set_option maxRecDepth 100000 in
set_option maxHeartbeats 2000000 in
theorem oviewOf_none (cb : Nat) (w : World) (hcc : w.cell? ⟨cb, 0, none⟩ = some (.slice none 0 0)) :
    Calls Tryz.prog 70 #[.pointer (some ⟨cb, 0, none⟩)] w fun e w' => e = .returned (.slice none 0 0) ∧ Below w.heap.size w w' := by
  have hcbl := cell_lt hcc
  have HCC := hide hcc
  clear hcc
  refine (callsIn_wide (n := 9)).1 ?_
  have hro : Fence.wide.round = none := rfl
  refine callsIn_of_wp_marks Tryz.func70 rfl trivial ?_ hro
  simp only [Tryz.ntmps70, List.size_toArray, List.length_cons, List.length_nil, Nat.reduceAdd, Nat.reduceSub, Array.replicate_succ, Array.replicate_zero, List.push_toArray, List.append_toArray, List.nil_append, List.cons_append]
  have hfA : Fence.wide.fn 108 := trivial
  have hfB : Fence.wide.fn 154 := trivial
  gi_wp2_with (gi_at_call 108; refine (oIbackward_in _ _ _).mono ?_; rintro e w' ⟨rfl, rfl⟩)
  have bV : Boxed ((w.alloc (.cells #[.slice none 0 0] 117)).alloc (.cells #[.pointer (some ⟨cb, 0, none⟩)] 78)) w.heap.size 117 (.slice none 0 0) := (Boxed.new w _ _).alloc _
  have bP : Boxed ((w.alloc (.cells #[.slice none 0 0] 117)).alloc (.cells #[.pointer (some ⟨cb, 0, none⟩)] 78)) (w.heap.size + 1) 78 (.pointer (some ⟨cb, 0, none⟩)) := by
    have := Boxed.new (w.alloc (.cells #[.slice none 0 0] 117)) 78 (.pointer (some ⟨cb, 0, none⟩))
    rwa [World.size_alloc] at this
  have hB0 := below_alloc2 w (.cells #[.slice none 0 0] 117) (.cells #[.pointer (some ⟨cb, 0, none⟩)] 78)
  obtain ⟨w2, hw2⟩ : ∃ w2, w2 = ((w.alloc (.cells #[.slice none 0 0] 117)).alloc (.cells #[.pointer (some ⟨cb, 0, none⟩)] 78)) := ⟨_, rfl⟩
  have hsz2 : w2.heap.size = w.heap.size + 1 + 1 := by rw [hw2]; simp
  rw [← hw2] at bV bP hB0
  rw [← hw2]
  clear hw2
  refine wp_gives hro (by decide) (gf := 154) (lb := #[.pointer (some ⟨w.heap.size + 1, 0, none⟩)]) rfl hfB (enters_of Tryz.func154 (by kernel_rfl) rfl)
    (oIback1_nil 8 (by decide) (w.heap.size + 1) cb w2 (fun i => i = w.heap.size + 1) bP.cell ((hB0.cell (p := ⟨cb, 0, none⟩) hcbl).trans (unhide HCC))) (Below.refl _ _) (fun k hk => by omega) (fun _ => rfl)
    (fun _ X => Boxed X w.heap.size 117 (.slice none 0 0) ∧ Below w.heap.size w X)
    (fun k X Y row hs hg hr => ⟨hs.1.kept hg (fun e => by have := (hr _ e.symm).1; omega), hs.2.grown hg hs.2.size (fun r e => by have := (hr r e).1; omega)⟩) ⟨bV, hB0⟩
    (fun p X => { tmps := #[.pointer (some ⟨cb, 0, none⟩), undef, .slice none 0 0, .pointer (some ⟨w.heap.size, 0, none⟩), undef, .pointer (some ⟨X.heap.size, 0, none⟩), .pointer (some ⟨cb, 0, none⟩), .func (.func 154) #[] #[.pointer (some ⟨w.heap.size + 1, 0, none⟩)], .string (Ov.nameAt (fl []) p), .agg #[.string (imAt [] p).bk, .slice (some ⟨(imAt [] p).g, 0, none⟩) (imAt [] p).n (imAt [] p).n, .int .i64 (imAt [] p).t], undef, undef, undef, undef], defers := [] })
    (fun p X => X.alloc (.cells #[.string (imAt [] p).bk, .slice (some ⟨(imAt [] p).g, 0, none⟩) (imAt [] p).n (imAt [] p).n, .int .i64 (imAt [] p).t] 90))
    (fun p X => below_alloc1 X _) ?assign ?body ?done
  case assign =>
    intro y k X K hK
    unfold backArgs
    gi_wp2
    exact hK
  case body =>
    intro l' k p X o o' hl' ho' hoc hx hI
    simp at hx
  case done =>
    intro D X hD hI hK
    obtain ⟨hv, hB⟩ := hI
    have hc := hv.cell
    have HBW := hide hB
    clear hB
    gi_wp2
    refine ⟨by simp, .inl ⟨_, _, rfl, run_takeDeferred hK, ?_⟩⟩
    exact ⟨_, results_tmp rfl _ _ _, rfl, (unhide HBW).trans (belowK_b (w := w) (Nat.le_refl _) X D _ _ (by omega) hK rfl rfl)⟩

end Go.Proofs.YtomiepknmmpflaaGreatDoor

