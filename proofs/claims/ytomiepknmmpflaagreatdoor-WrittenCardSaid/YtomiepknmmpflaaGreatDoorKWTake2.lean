/- The program's take. -/
import Derived.Test.YtomiepknmmpflaaGreatDoorKWTake
import Derived.Test.YtomiepknmmpflaaGreatDoorKWViewOver
namespace Go.Proofs.YtomiepknmmpflaaGreatDoor
open Go.RowKit Go.Joins Go.Shelf

attribute [local go_sem] Oper.semAt_some

def takQ (m : Nat) (qa q : Nat → Int) (i : Nat) : Int := if cAtQ m qa i ≠ 0 then cAtQ m qa i else q i
def takD (m : Nat) (qa : Nat → Int) (da d : Nat → Eight) (i : Nat) : Eight := if cAtQ m qa i ≠ 0 then cAtD m da i else d i
abbrev OwnsCl (w : World) (base : Nat) (s : Value) (n : Nat) (q : Nat → Int) (d : Nat → Eight) : Prop := w.ownsRow base 160 9 s n (clRow q d n)
structure TI (w : World) (V B1 B2 : Nat) (u1 u2 : Value) (q : Nat → Int) (d : Nat → Eight) (k : Nat) (W : World) : Prop where
  row : ∃ a c, Boxed W V 88 (.slice a k c) ∧ OwnsCl W w.heap.size (.slice a k c) k q d
  below : Below w.heap.size w W
  b1 : Boxed W B1 88 u1
  b2 : Boxed W B2 88 u2
theorem TI.own (w : World) (V B1 B2 : Nat) (u1 u2 : Value) (q : Nat → Int) (d : Nat → Eight) (n : Nat) (hn : w.heap.size ≤ n) : OwnFrom n (TI w V B1 B2 u1 u2 q d) := by
  intro k W W' row h hg hr
  obtain ⟨a, c, h1, h2⟩ := h.row
  have ne : ∀ {B : Nat} {t : TypeId} {v : Value}, Boxed W B t v → some B ≠ row := fun {B t v} hb e => by
    obtain ⟨_, o, ho, hc⟩ := hr B e.symm
    rw [show W.heap[B]? = _ from hb] at ho; cases ho; cases hc
  refine ⟨⟨a, c, h1.kept hg (ne h1), owns_grown h2 hg ?_⟩, h.below.grown hg h.below.size (fun r e => by have := (hr r e).1; omega), h.b1.kept hg (ne h.b1), h.b2.kept hg (ne h.b2)⟩
  by_cases hv : (Value.slice a k c).ownBlock = none
  · exact Or.inl hv
  · refine Or.inr fun e => ?_
    obtain ⟨g, hgq⟩ := Option.ne_none_iff_exists'.1 hv
    obtain ⟨cs, hcs⟩ := own_blk h2 hgq
    obtain ⟨_, o, ho, hc⟩ := hr g (by rw [← e]; exact hgq)
    rw [hcs] at ho; cases ho; cases hc
theorem TI.step {w W2 w1 : World} {V B1 B2 : Nat} {u1 u2 : Value} {q : Nat → Int} {d : Nat → Eight} {k : Nat} {a : Option Addr} {c : Nat} {v' : Value} {tmp : Obj} {R : Nat → Prop} {x : Int} {e : Eight} (h2 : TI w V B1 B2 u1 u2 q d k W2) (hV : w.heap.size ≤ V) (n1 : B1 ≠ V) (n2 : B2 ≠ V) (hR : ∀ i, R i → i = B1 ∨ i = B2 ∨ i < w.heap.size)
    (hv : Boxed W2 V 88 (.slice a k c)) (hrow : OwnsCl W2 w.heap.size (.slice a k c) k q d) (hs : clRow q d (k + 1) = clRow q d k ++ cl9 x e)
    (ho : w1.ownsRow w.heap.size 160 9 v' (k + 1) (clRow q d k ++ cl9 x e)) (hg : (W2.alloc tmp).grownBy w1 (Value.slice a k c).ownBlock) (hsl : ∃ a' c', v' = .slice a' (k + 1) c') (n : Nat) :
    (Boxed w1 V 88 (.slice a k c)) ∧ LetsW R n W2 (w1.setCell ⟨V, 0, none⟩ v') ∧ TI w V B1 B2 u1 u2 q d (k + 1) (w1.setCell ⟨V, 0, none⟩ v') := by
  obtain ⟨q1, q2, q3, q4, q5⟩ := hv.appended (n₀ := w.heap.size) (by decide) hrow h2.below.size hV ho hg
  obtain ⟨a', c', rfl⟩ := hsl
  have k1 : Boxed w1 B1 88 u1 := (h2.b1.alloc tmp).kept hg (h2.b1.not_row (by decide) hrow)
  have k2 : Boxed w1 B2 88 u2 := (h2.b2.alloc tmp).kept hg (h2.b2.not_row (by decide) hrow)
  have k1' : Boxed (w1.setCell ⟨V, 0, none⟩ (.slice a' (k + 1) c')) B1 88 u1 := k1.kept (grownBy_setCell' w1 V _) (by simp; exact n1)
  have k2' : Boxed (w1.setCell ⟨V, 0, none⟩ (.slice a' (k + 1) c')) B2 88 u2 := k2.kept (grownBy_setCell' w1 V _) (by simp; exact n2)
  refine ⟨q1, ⟨q5.size, fun i _ hr => ?_, fun i o _ ho hc => q4.same i o ho hc⟩, ⟨⟨a', c', q2, by rw [OwnsCl, hs]; exact q3⟩, h2.below.trans q5, k1', k2'⟩⟩
  rcases hR i hr with rfl | rfl | hl
  · exact (show _ = _ from k1').trans (show _ = _ from h2.b1).symm
  · exact (show _ = _ from k2').trans (show _ = _ from h2.b2).symm
  · exact q5.block i hl
theorem cl_owned {w : World} {base g n c : Nat} {q : Nat → Int} {d : Nat → Eight} (h : OwnsCl w base (.slice (some ⟨g, 0, none⟩) n c) n q d) : Cl w g n q d :=
  ⟨fun k hk => by rw [h.cellAt _ (by omega), clRow_get (by omega), clCell_kind], fun k hk j hj => by rw [h.cellAt _ (by omega), clRow_get (by omega), clCell_byte q d k hj], (h.lt g rfl).2⟩
abbrev set9 (W : World) (b : Nat) (v0 v1 v2 v3 v4 v5 v6 v7 v8 : Value) : World := (set8 W b v0 v1 v2 v3 v4 v5 v6 v7).setCell ⟨b, 8, none⟩ v8
theorem set9_grown (W : World) (b : Nat) (v0 v1 v2 v3 v4 v5 v6 v7 v8 : Value) : W.grownBy (set9 W b v0 v1 v2 v3 v4 v5 v6 v7 v8) (some b) := grown_trans (set8_grown W b v0 v1 v2 v3 v4 v5 v6 v7) (grown_set _ b 8 v8)
theorem set9_size (W : World) (b : Nat) (v0 v1 v2 v3 v4 v5 v6 v7 v8 : Value) : (set9 W b v0 v1 v2 v3 v4 v5 v6 v7 v8).heap.size = W.heap.size := by simp [set9, set8]
theorem row_new {W : World} {L : List Value} {t : TypeId} {b : Nat} (hb : b = W.heap.size) : ∀ (j : Nat) (u : Value), L[j]? = some u → (W.alloc (.cells L.toArray t)).cell? ((⟨b, 0, none⟩ : Addr).add j) = some u := by
  subst hb; exact row_src (blk_new W _)

set_option maxRecDepth 100000 in
set_option maxHeartbeats 4000000 in
theorem otake_calls (bk : ByteArray) (t : Int) (I g k ga m ca : Nat) (q : Nat → Int) (d : Nat → Eight) (qa : Nat → Int) (da : Nat → Eight) (w : World) (hI : w.heap[I]? = some (.cells #[.string bk, .slice (some ⟨g, 0, none⟩) k k, .int .i64 t] 90 (0, 0))) (hg : w.heap[g]? = some (.cells (clRow q d k).toArray 160 (0, 0))) (hc : Cl w ga m qa da) (hgI : ga ≠ I) (hk : k ≤ 30) (hm : m ≤ 30) (hn1 : 1 ≤ k) :
    Calls Tryz.prog 51 #[.pointer (some ⟨I, 0, none⟩), .slice (some ⟨ga, 0, none⟩) m ca] w fun e w' => (∃ u, e = .returned u) ∧ ∃ a c, w'.heap[I]? = some (.cells #[.string bk, .slice a (max k m) c, .int .i64 t] 90 (0, 0)) ∧ OwnsCl w' 0 (.slice a (max k m) c) (max k m) (takQ m qa (growQ bk k q)) (takD m qa da (growD k d)) ∧ OFr w w' I none ∧ ∀ i, (Value.slice a (max k m) c).ownBlock = some i → w.heap.size ≤ i := by
  obtain ⟨i0, hi, hz0, hz1, hz2⟩ := info_parts Tryz.infoClus
  have HGR := hide (ogrow_calls bk t I g k m q d w hI hg hk hm)
  have HC := hide hc
  have hIl := blk_lt hI
  clear hI hg hc
  refine (callsIn_wide (n := 6)).1 ?_
  have hro : Fence.wide.round = none := rfl
  refine callsIn_of_wp_marks Tryz.func51 rfl trivial ?_ hro
  simp only [Tryz.ntmps51, List.size_toArray, List.length_cons, List.length_nil, Nat.reduceAdd, Nat.reduceSub, Array.replicate_succ, Array.replicate_zero, List.push_toArray, List.append_toArray, List.nil_append, List.cons_append]
  have hfA : Fence.wide.fn 91 := trivial
  have hfB : Fence.wide.fn 143 := trivial
  have hfG : Fence.wide.fn 90 := trivial
  gi_wp2_with (first
    | (gi_at_call 91; refine (oalongC_in _ _ _ _ _ _ _ _).mono ?_; rintro e w' ⟨rfl, rfl⟩)
    | (gi_at_call 90; refine ((callsIn_wide (n := _)).2 (unhide HGR)).mono ?_; rintro e w1 ⟨⟨u1, rfl⟩, g2, c2, hG⟩; have j1 : ∀ o, (w1.alloc o).cell? ⟨I, 1, none⟩ = some (.slice (some ⟨g2, 0, none⟩) (max k m) c2) := (fun o => blk_cell (blk_alloc hG.img o) rfl); have HG := hide hG; clear hG))
  have hG := unhide HG
  have hgl : g2 < w1.heap.size := (hG.row.lt g2 rfl).2
  have HCA : Hid (Cl w1 ga m qa da) := (unhide HC).same (hG.fr.block ga (unhide HC).lt hgI (by simp)) hG.fr.size
  have HCB : Hid (Cl w1 g2 (max k m) (growQ bk k q) (growD k d)) := cl_owned hG.row
  have hal : ga < w1.heap.size := (unhide HCA).lt
  have hK30 : max k m ≤ 30 := by omega
  have hK1 : 1 ≤ max k m := by omega
  clear hG
  have hB0 : Below w1.heap.size w1 (((w1.alloc (.cells #[.slice none 0 0] 88)).alloc (.cells #[.slice (some ⟨g2, 0, none⟩) (max k m) c2] 88)).alloc (.cells #[.slice (some ⟨ga, 0, none⟩) m ca] 88)) := (below_alloc1 w1 _).trans ((below_alloc2 _ _ _).mono (by simp))
  have bV : Boxed (((w1.alloc (.cells #[.slice none 0 0] 88)).alloc (.cells #[.slice (some ⟨g2, 0, none⟩) (max k m) c2] 88)).alloc (.cells #[.slice (some ⟨ga, 0, none⟩) m ca] 88)) w1.heap.size 88 (.slice none 0 0) := ((Boxed.new w1 88 (.slice none 0 0)).alloc _).alloc _
  have b1 : Boxed (((w1.alloc (.cells #[.slice none 0 0] 88)).alloc (.cells #[.slice (some ⟨g2, 0, none⟩) (max k m) c2] 88)).alloc (.cells #[.slice (some ⟨ga, 0, none⟩) m ca] 88)) (w1.heap.size + 1) 88 (.slice (some ⟨g2, 0, none⟩) (max k m) c2) := by
    have := Boxed.new (w1.alloc (.cells #[.slice none 0 0] 88)) 88 (.slice (some ⟨g2, 0, none⟩) (max k m) c2)
    rw [World.size_alloc] at this
    exact this.alloc _
  have b2 : Boxed (((w1.alloc (.cells #[.slice none 0 0] 88)).alloc (.cells #[.slice (some ⟨g2, 0, none⟩) (max k m) c2] 88)).alloc (.cells #[.slice (some ⟨ga, 0, none⟩) m ca] 88)) (w1.heap.size + 1 + 1) 88 (.slice (some ⟨ga, 0, none⟩) m ca) := by
    have := Boxed.new ((w1.alloc (.cells #[.slice none 0 0] 88)).alloc (.cells #[.slice (some ⟨g2, 0, none⟩) (max k m) c2] 88)) 88 (.slice (some ⟨ga, 0, none⟩) m ca)
    rw [World.size_alloc, World.size_alloc] at this
    exact this
  obtain ⟨w4, hw4⟩ : ∃ w4, w4 = ((w1.alloc (.cells #[.slice none 0 0] 88)).alloc (.cells #[.slice (some ⟨g2, 0, none⟩) (max k m) c2] 88)).alloc (.cells #[.slice (some ⟨ga, 0, none⟩) m ca] 88) := ⟨_, rfl⟩
  have hsz4 : w4.heap.size = w1.heap.size + 1 + 1 + 1 := by rw [hw4]; simp
  rw [← hw4] at hB0 bV b1 b2
  rw [← hw4]
  clear hw4 j1
  have HR : Hid (∀ i, (fun i => i = w1.heap.size + 1 ∨ i = w1.heap.size + 1 + 1 ∨ i = g2 ∨ i = ga) i → i = w1.heap.size + 1 ∨ i = w1.heap.size + 1 + 1 ∨ i < w1.heap.size) := fun i hi => by
    rcases hi with e | e | e | e
    · exact Or.inl e
    · exact Or.inr (Or.inl e)
    · exact Or.inr (Or.inr (by omega))
    · exact Or.inr (Or.inr (by omega))
  have hgv := oalongC1_gives 5 (by decide) (w1.heap.size + 1) (w1.heap.size + 1 + 1) g2 (max k m) c2 m ga ca (growQ bk k q) (growD k d) qa da w4 hK30 (fun i => i = w1.heap.size + 1 ∨ i = w1.heap.size + 1 + 1 ∨ i = g2 ∨ i = ga) (Or.inl rfl) (Or.inr (Or.inl rfl)) (Or.inr (Or.inr (Or.inl rfl))) (Or.inr (Or.inr (Or.inr rfl))) b1.cell b2.cell ((unhide HCB).same (hB0.block g2 hgl) hB0.size) ((unhide HCA).same (hB0.block ga hal) hB0.size)
  refine wp_givesW hro (by decide) (gf := 143) (lb := #[.pointer (some ⟨w1.heap.size + 1, 0, none⟩), .pointer (some ⟨w1.heap.size + 1 + 1, 0, none⟩)]) rfl hfB (enters_of Tryz.func143 (by kernel_rfl) rfl)
    hgv (Below.refl _ _) (fun k hk => by rcases unhide HR k hk with e | e | e <;> omega) (fun _ => rfl)
    (TI w1 w1.heap.size (w1.heap.size + 1) (w1.heap.size + 1 + 1) (.slice (some ⟨g2, 0, none⟩) (max k m) c2) (.slice (some ⟨ga, 0, none⟩) m ca) (takQ m qa (growQ bk k q)) (takD m qa da (growD k d))) (TI.own _ _ _ _ _ _ _ _ _ (by omega)) ⟨⟨none, 0, bV, World.ownsRow_nil _ _ _ _⟩, hB0, b1, b2⟩
    (fun k1 W => { tmps := #[.pointer (some ⟨I, 0, none⟩), .slice (some ⟨ga, 0, none⟩) m ca, undef, undef, .pointer (some ⟨w1.heap.size, 0, none⟩), .pointer (some ⟨W.heap.size, 0, none⟩), .pointer (some ⟨W.heap.size + 1, 0, none⟩), .pointer (some ⟨I, 0, none⟩), .slice (some ⟨ga, 0, none⟩) m ca, .int .i64 (m : Nat), u1, .pointer (some ⟨I, 0, none⟩), .pointer (some ⟨I, 0, none⟩), .pointer (some ⟨I, 1, none⟩), .slice (some ⟨g2, 0, none⟩) (max k m) c2, .slice (some ⟨ga, 0, none⟩) m ca, .func (.func 143) #[] #[.pointer (some ⟨w1.heap.size + 1, 0, none⟩), .pointer (some ⟨w1.heap.size + 1 + 1, 0, none⟩)], clVal (growQ bk k q k1) (growD k d k1), clVal (cAtQ m qa k1) (cAtD m da k1), undef, undef, undef, undef, undef, undef, undef, undef, undef, undef, undef, undef], defers := [] })
    (fun k1 W => (W.alloc (.cells #[.int .i64 (growQ bk k q k1), .int .u8 (growD k d k1 0 : Nat), .int .u8 (growD k d k1 1 : Nat), .int .u8 (growD k d k1 2 : Nat), .int .u8 (growD k d k1 3 : Nat), .int .u8 (growD k d k1 4 : Nat), .int .u8 (growD k d k1 5 : Nat), .int .u8 (growD k d k1 6 : Nat), .int .u8 (growD k d k1 7 : Nat)] 160)).alloc (.cells #[.int .i64 (cAtQ m qa k1), .int .u8 (cAtD m da k1 0 : Nat), .int .u8 (cAtD m da k1 1 : Nat), .int .u8 (cAtD m da k1 2 : Nat), .int .u8 (cAtD m da k1 3 : Nat), .int .u8 (cAtD m da k1 4 : Nat), .int .u8 (cAtD m da k1 5 : Nat), .int .u8 (cAtD m da k1 6 : Nat), .int .u8 (cAtD m da k1 7 : Nat)] 160))
    (fun k1 W => below_alloc2 W _ _) ?assign ?body ?done
  case assign =>
    intro y k1 W K hK
    unfold pairC
    unfold clVal at hK ⊢
    gi_wp2
    exact hK
  case body =>
    intro l k1 x W o o' hl ho hoc hx hI
    have hkm : k1 < max k m ∧ x = k1 := by
      obtain ⟨h1, h2⟩ := List.getElem?_eq_some_iff.1 hx
      rw [List.getElem_range] at h2
      rw [List.length_range] at h1
      exact ⟨h1, h2.symm⟩
    obtain ⟨hkm, rfl⟩ := hkm
    have hll : l < W.heap.size := blk_lt ho
    have hWz := hI.below.size
    have hW4 : w1.heap.size + 1 + 1 < W.heap.size := hI.b2.lt
    have ne0 : W.heap.size ≠ l := by omega
    have ne1 : W.heap.size + 1 ≠ l := by omega
    obtain ⟨C, hCd⟩ : ∃ C : Obj, C = .cells #[.int .i64 (growQ bk k q x), .int .u8 (growD k d x 0 : Nat), .int .u8 (growD k d x 1 : Nat), .int .u8 (growD k d x 2 : Nat), .int .u8 (growD k d x 3 : Nat), .int .u8 (growD k d x 4 : Nat), .int .u8 (growD k d x 5 : Nat), .int .u8 (growD k d x 6 : Nat), .int .u8 (growD k d x 7 : Nat)] 160 (0, 0) := ⟨_, rfl⟩
    obtain ⟨S, hSd⟩ : ∃ S : Obj, S = .cells #[.int .i64 (cAtQ m qa x), .int .u8 (cAtD m da x 0 : Nat), .int .u8 (cAtD m da x 1 : Nat), .int .u8 (cAtD m da x 2 : Nat), .int .u8 (cAtD m da x 3 : Nat), .int .u8 (cAtD m da x 4 : Nat), .int .u8 (cAtD m da x 5 : Nat), .int .u8 (cAtD m da x 6 : Nat), .int .u8 (cAtD m da x 7 : Nat)] 160 (0, 0) := ⟨_, rfl⟩
    rw [← hCd, ← hSd]
    have hcC : (((W.alloc C).alloc S).putObj l o).heap[W.heap.size]? = some C := (World.putObj_heap_other ne0).trans (blk_alloc (blk_new W C) S)
    have hcS : (((W.alloc C).alloc S).putObj l o).heap[W.heap.size + 1]? = some S := (World.putObj_heap_other ne1).trans (by have := blk_new (W.alloc C) S; rwa [World.size_alloc] at this)
    have hgr : W.grownBy (((W.alloc C).alloc S).putObj l o) (some l) := ⟨rfl, rfl, rfl, by simp; omega, fun i hi hne => (World.putObj_heap_other (fun e => hne (by rw [e]))).trans ((below_alloc2 W C S).block i hi)⟩
    obtain ⟨W1, hW1⟩ : ∃ W1, W1 = ((W.alloc C).alloc S).putObj l o := ⟨_, rfl⟩
    have hs1 : W1.heap.size = W.heap.size + 1 + 1 := by rw [hW1]; simp
    rw [← hW1] at hcC hcS hgr
    rw [← hW1]
    clear hW1
    have hVI : ∀ W2, W.grownBy W2 (some l) → TI w1 w1.heap.size (w1.heap.size + 1) (w1.heap.size + 1 + 1) (.slice (some ⟨g2, 0, none⟩) (max k m) c2) (.slice (some ⟨ga, 0, none⟩) m ca) (takQ m qa (growQ bk k q)) (takD m qa da (growD k d)) x W2 := fun W2 h => TI.own w1 _ _ _ _ _ _ _ w4.heap.size (by omega) x W W2 (some l) hI h (fun r e => by cases e; exact ⟨by omega, o', ho, hoc⟩)
    have hR8 : ∀ i, (fun i => i = w1.heap.size + 1 ∨ i = w1.heap.size + 1 + 1 ∨ i = g2 ∨ i = ga) i → i < W.heap.size := fun i hi => by rcases unhide HR i hi with e | e | e <;> omega
    have HR8 := hide hR8
    have HVI := hide hVI
    have HGR2 := hide hgr
    have HCC : Hid (W1.heap[W.heap.size]? = some C) := hcC
    have HCS : Hid (W1.heap[W.heap.size + 1]? = some S) := hcS
    clear hR8 hVI hgr hI hx ho hgv bV b1 b2 hB0
    rw [hCd] at HCC
    rw [hSd] at HCS
    clear hCd hSd hcC hcS
    obtain ⟨uq, huq⟩ : ∃ e, cAtQ m qa x = e := ⟨_, rfl⟩
    obtain ⟨ud, hud⟩ : ∃ e, cAtD m da x = e := ⟨_, rfl⟩
    obtain ⟨oq, hoq⟩ : ∃ e, growQ bk k q x = e := ⟨_, rfl⟩
    obtain ⟨od, hod⟩ : ∃ e, growD k d x = e := ⟨_, rfl⟩
    rw [huq, hud] at HCS
    rw [hoq, hod] at HCC
    have HUQ := hide huq
    have HUD := hide hud
    have HOQ := hide hoq
    have HOD := hide hod
    have HCQ : Hid (clVal (growQ bk k q x) (growD k d x) = clVal oq od) := by rw [hoq, hod]; exact rfl
    have HCU : Hid (clVal (cAtQ m qa x) (cAtD m da x) = clVal uq ud) := by rw [huq, hud]; exact rfl
    clear huq hud hoq hod
    rw [unhide HCQ, unhide HCU]
    have f0 := blk_cell (i := 0) (unhide HCC) rfl
    have f1 := blk_cell (i := 1) (unhide HCC) rfl
    have f2 := blk_cell (i := 2) (unhide HCC) rfl
    have f3 := blk_cell (i := 3) (unhide HCC) rfl
    have f4 := blk_cell (i := 4) (unhide HCC) rfl
    have f5 := blk_cell (i := 5) (unhide HCC) rfl
    have f6 := blk_cell (i := 6) (unhide HCC) rfl
    have f7 := blk_cell (i := 7) (unhide HCC) rfl
    have f8 := blk_cell (i := 8) (unhide HCC) rfl
    have p0 := blk_cell (i := 0) (unhide HCS) rfl
    have p1 := blk_cell (i := 1) (unhide HCS) rfl
    have p2 := blk_cell (i := 2) (unhide HCS) rfl
    have p3 := blk_cell (i := 3) (unhide HCS) rfl
    have p4 := blk_cell (i := 4) (unhide HCS) rfl
    have p5 := blk_cell (i := 5) (unhide HCS) rfl
    have p6 := blk_cell (i := 6) (unhide HCS) rfl
    have p7 := blk_cell (i := 7) (unhide HCS) rfl
    have p8 := blk_cell (i := 8) (unhide HCS) rfl
    have pf := blk_frozen (unhide HCC)
    by_cases hq : uq = 0
    · have hv2 := unhide HVI W1 (unhide HGR2)
      obtain ⟨a, c, hv, hrow⟩ := hv2.row
      have HSC : Hid (clRow (takQ m qa (growQ bk k q)) (takD m qa da (growD k d)) (x + 1) = clRow (takQ m qa (growQ bk k q)) (takD m qa da (growD k d)) x ++ cl9 oq od) := by rw [clRow_snoc, show takQ m qa (growQ bk k q) x = oq from by unfold takQ; rw [unhide HUQ, if_neg (fun h => h hq)]; exact unhide HOQ, show takD m qa da (growD k d) x = od from by unfold takD; rw [unhide HUQ, if_neg (fun h => h hq)]; exact unhide HOD]; exact rfl
      have HV2 := hide hv2
      have HVB := hide hv
      have HROW := hide hrow
      have hcv := hv.cell
      have hws := hv2.below.size
      have HSR : Hid (∀ (j : Nat) (u : Value), (cl9 oq od)[j]? = some u → (W1.alloc (.cells (cl9 oq od).toArray 160)).cell? ((⟨W.heap.size + 1 + 1, 0, none⟩ : Addr).add j) = some u) := row_new (by omega)
      subst hq
      clear hv2 hv hrow
      gi_wp2_with (gi_at_builtin; refine wpListIn_append_own _ rfl _ _ 88 rfl w1.heap.size 160 i0 _ 9 16 Tryz.underlying88 hi hz0 hz1 hz2 rfl (by decide) (.slice a x c) x _ rfl (by exact (unhide HROW).alloc _) ⟨W.heap.size + 1 + 1, 0, none⟩ 1 1 (cl9 oq od) rfl rfl (unhide HSR) (cl9_one _ _) (by unfold maxLen; omega) (by omega) (by simp; omega) ?_; intro v' w5 hown' hgrow _; obtain ⟨g', cap', rfl⟩ := ownsRow_succ hown'; obtain ⟨hv1, hl1, hi1⟩ := TI.step (n := w4.heap.size) (R := (fun i => i = w1.heap.size + 1 ∨ i = w1.heap.size + 1 + 1 ∨ i = g2 ∨ i = ga)) (unhide HV2) (Nat.le_refl _) (by omega) (by omega) (unhide HR) (unhide HVB) (unhide HROW) (unhide HSC) hown' hgrow ⟨_, _, rfl⟩; have hc1 := hv1.cell; have hf1 := hv1.frozen; have HL1 := hide hl1; have HI1 := hide hi1; clear hv1 hl1 hi1 hown' hgrow)
      exact ⟨(unhide HL1).weak (by omega), unhide HI1⟩
    · have hqn : (uq != 0) = true := by rw [bne_iff_ne]; exact hq
      obtain ⟨W2, hW2⟩ : ∃ W2, W2 = set9 W1 W.heap.size (.int .i64 uq) (.int .u8 (ud 0 : Nat)) (.int .u8 (ud 1 : Nat)) (.int .u8 (ud 2 : Nat)) (.int .u8 (ud 3 : Nat)) (.int .u8 (ud 4 : Nat)) (.int .u8 (ud 5 : Nat)) (.int .u8 (ud 6 : Nat)) (.int .u8 (ud 7 : Nat)) := ⟨_, rfl⟩
      have hg2 : W1.grownBy W2 (some W.heap.size) := by rw [hW2]; exact set9_grown _ _ _ _ _ _ _ _ _ _ _
      have hs2 : W2.heap.size = W.heap.size + 1 + 1 := by rw [hW2, set9_size]; exact hs1
      have hv2 := unhide HVI W2 (grown_new (unhide HGR2) hg2 (Nat.le_refl _))
      obtain ⟨a, c, hv, hrow⟩ := hv2.row
      have HSC : Hid (clRow (takQ m qa (growQ bk k q)) (takD m qa da (growD k d)) (x + 1) = clRow (takQ m qa (growQ bk k q)) (takD m qa da (growD k d)) x ++ cl9 uq ud) := by rw [clRow_snoc, show takQ m qa (growQ bk k q) x = uq from by unfold takQ; rw [unhide HUQ, if_pos hq], show takD m qa da (growD k d) x = ud from by unfold takD; rw [unhide HUQ, if_pos hq]; exact unhide HUD]; exact rfl
      have HLW : Hid (LetsW (fun i => i = w1.heap.size + 1 ∨ i = w1.heap.size + 1 + 1 ∨ i = g2 ∨ i = ga) w4.heap.size W1 W2) := LetsW.of_grown hg2 (fun h => by have := unhide HR8 _ h; omega) ⟨_, _, unhide HCC⟩
      have HSR : Hid (∀ (j : Nat) (u : Value), (cl9 uq ud)[j]? = some u → (W2.alloc (.cells (cl9 uq ud).toArray 160)).cell? ((⟨W.heap.size + 1 + 1, 0, none⟩ : Addr).add j) = some u) := row_new (by omega)
      have hws := hv2.below.size
      have HV2 := hide hv2
      have HVB := hide hv
      have HROW := hide hrow
      have hcv := hv.cell
      clear hv2 hv hrow hg2 hq
      subst hW2
      gi_wp2_with (gi_at_builtin; refine wpListIn_append_own _ rfl _ _ 88 rfl w1.heap.size 160 i0 _ 9 16 Tryz.underlying88 hi hz0 hz1 hz2 rfl (by decide) (.slice a x c) x _ rfl (by exact (unhide HROW).alloc _) ⟨W.heap.size + 1 + 1, 0, none⟩ 1 1 (cl9 uq ud) rfl rfl (unhide HSR) (cl9_one _ _) (by unfold maxLen; omega) (by omega) (by simp; omega) ?_; intro v' w5 hown' hgrow _; obtain ⟨g', cap', rfl⟩ := ownsRow_succ hown'; obtain ⟨hv1, hl1, hi1⟩ := TI.step (n := w4.heap.size) (R := (fun i => i = w1.heap.size + 1 ∨ i = w1.heap.size + 1 + 1 ∨ i = g2 ∨ i = ga)) (unhide HV2) (Nat.le_refl _) (by omega) (by omega) (unhide HR) (unhide HVB) (unhide HROW) (unhide HSC) hown' hgrow ⟨_, _, rfl⟩; have hc1 := hv1.cell; have hf1 := hv1.frozen; have HL1 := hide hl1; have HI1 := hide hi1; clear hv1 hl1 hi1 hown' hgrow)
      exact ⟨((unhide HLW).trans (unhide HL1)).weak (by omega), unhide HI1⟩
  case done =>
    intro D W hD hI hK
    rw [List.length_range] at hI
    obtain ⟨⟨a, c, hv, hrow⟩, hB, _, _⟩ := hI
    have hc := hv.cell
    have hi1 : W.heap[I]? = some (.cells #[.string bk, .slice (some ⟨g2, 0, none⟩) (max k m) c2, .int .i64 t] 90 (0, 0)) := (hB.block I (blk_lt (unhide HG).img)).trans (unhide HG).img
    have c1 := blk_cell (i := 1) hi1 rfl
    have f1 := blk_frozen hi1 1
    have HRW := hide hrow
    have HBW := hide hB
    have HI1 := hide hi1
    clear hrow hB hi1
    gi_wp2
    have hlI : I < w1.heap.size := blk_lt (unhide HG).img
    have hne : some I ≠ (Value.slice a (max k m) c).ownBlock := owns_ne (unhide HRW) hlI
    have hK3 : (W.setCell ⟨I, 1, none⟩ (.slice a (max k m) c)).heap[D]? = some _ := (Below.heap_setCell _ _ _ _ (show D ≠ I by omega)).trans hK
    have hi3 : (W.setCell ⟨I, 1, none⟩ (.slice a (max k m) c)).heap[I]? = some (.cells #[.string bk, .slice a (max k m) c, .int .i64 t] 90 (0, 0)) := by
      have := blk_set_same (i := 1) (unhide HI1) (.slice a (max k m) c)
      simpa using this
    have ho3 : OwnsCl (W.setCell ⟨I, 1, none⟩ (.slice a (max k m) c)) w1.heap.size (.slice a (max k m) c) (max k m) (takQ m qa (growQ bk k q)) (takD m qa da (growD k d)) := owns_set (unhide HRW) (a := ⟨I, 1, none⟩) hne _
    have hw1s := (unhide HG).fr.size
    refine ⟨by simp, .inl ⟨_, _, rfl, run_takeDeferred hK3, ?_⟩⟩
    refine ⟨_, results_none rfl _ _ _, ⟨_, rfl⟩, a, c, (World.putObj_heap_other (show I ≠ D by omega)).trans hi3, ownsRow_le (ownsRow_putObj ho3 _ hK3 rfl) (Nat.zero_le _), ?_, fun i hi => ?_⟩
    · have f1 : OFr w (W.setCell ⟨I, 1, none⟩ (.slice a (max k m) c)) I none := ((unhide HG).fr.trans (OFr.of_below (unhide HBW) _ _)).trans (OFr.set_blk W I 1 _ _)
      exact ⟨f1.os, f1.tape, f1.output, by simpa using f1.size, fun i hi q1 q2 => (World.putObj_heap_other (show i ≠ D by omega)).trans (f1.block i hi q1 q2)⟩
    · have := ((unhide HRW).lt i hi).1
      omega

end Go.Proofs.YtomiepknmmpflaaGreatDoor

