/- The program's viewOver: what an image's view has over the view of its backing. -/
import Derived.Test.YtomiepknmmpflaaGreatDoorKWNames
import Derived.RangeFuncBox
import Derived.Test.YtomiepknmmpflaaGreatDoorKWOKeep
namespace Go.Proofs.YtomiepknmmpflaaGreatDoor
open Go.RowKit Go.Joins Go.Shelf

attribute [local go_sem] Oper.semAt_some

def overV (q : Nat → Int) (d : Nat → Eight) (nl : Nat) (v : Nat → Nat) (i : Nat) : Nat :=
  if q (i / 8) = 1 then 0 else if q (i / 8) = 2 then d (i / 8) (i % 8) else if i / 8 < nl then v i else 0
def overB (q : Nat → Int) (d : Nat → Eight) (nl : Nat) (v : Nat → Nat) (k : Nat) : Eight := fun j => overV q d nl v (8 * k + j)
theorem runTo_over (q : Nat → Int) (d : Nat → Eight) (nl : Nat) (v : Nat → Nat) (k : Nat) : runTo (overV q d nl v) (k + 1) = runTo (overV q d nl v) k ++ blkCells (overB q d nl v k) := rfl
theorem blk_congr {e f : Eight} (h : ∀ j, j < 8 → e j = f j) : blkCells e = blkCells f := by
  unfold blkCells
  rw [h 0 (by omega), h 1 (by omega), h 2 (by omega), h 3 (by omega), h 4 (by omega), h 5 (by omega), h 6 (by omega), h 7 (by omega)]
theorem div_of {k j : Nat} (h : j < 8) : (8 * k + j) / 8 = k ∧ (8 * k + j) % 8 = j := by omega
theorem over_zero {q : Nat → Int} {d : Nat → Eight} {nl : Nat} {v : Nat → Nat} {k : Nat} (h : q k = 1) : blkCells (overB q d nl v k) = blkCells (fun _ => 0) := blk_congr fun j hj => by
  unfold overB overV; rw [(div_of hj).1, if_pos h]
theorem over_data {q : Nat → Int} {d : Nat → Eight} {nl : Nat} {v : Nat → Nat} {k : Nat} (h : q k = 2) : blkCells (overB q d nl v k) = blkCells (d k) := blk_congr fun j hj => by
  unfold overB overV; rw [(div_of hj).1, (div_of hj).2, if_neg (by omega), if_pos h]
theorem over_open {q : Nat → Int} {d : Nat → Eight} {nl : Nat} {v : Nat → Nat} {k : Nat} (h : q k = 0) : blkCells (overB q d nl v k) = blkCells (runAt nl v k) := blk_congr fun j hj => by
  unfold overB overV runAt; rw [(div_of hj).1, if_neg (by omega), if_neg (by omega)]

structure VI (w : World) (V B1 B2 : Nat) (u1 u2 : Value) (f : Nat → Nat) (k : Nat) (W : World) : Prop where
  row : ∃ a c, Boxed W V 117 (.slice a k c) ∧ OwnsRun W w.heap.size (.slice a k c) k f
  below : Below w.heap.size w W
  b1 : Boxed W B1 88 u1
  b2 : Boxed W B2 117 u2
theorem VI.kept {w W W' : World} {V B1 B2 : Nat} {u1 u2 : Value} {f : Nat → Nat} {k : Nat} (h : VI w V B1 B2 u1 u2 f k W) (hb : Below W.heap.size W W') : VI w V B1 B2 u1 u2 f k W' := by
  obtain ⟨a, c, h1, h2⟩ := h.row
  exact ⟨⟨a, c, (hb.block V h1.lt).trans h1, owns_all h2 hb⟩, h.below.trans (hb.mono h.below.size), (hb.block B1 h.b1.lt).trans h.b1, (hb.block B2 h.b2.lt).trans h.b2⟩
theorem VI.own (w : World) (V B1 B2 : Nat) (u1 u2 : Value) (f : Nat → Nat) (n : Nat) (hn : w.heap.size ≤ n) : OwnFrom n (VI w V B1 B2 u1 u2 f) := by
  intro k W W' row h hg hr
  obtain ⟨a, c, h1, h2⟩ := h.row
  have ne : ∀ {B : Nat} {t : TypeId} {v : Value}, Boxed W B t v → some B ≠ row := fun {B t v} hb e => by
    obtain ⟨_, o, ho, hc⟩ := hr B e.symm
    rw [show W.heap[B]? = _ from hb] at ho; cases ho; cases hc
  refine ⟨⟨a, c, h1.kept hg (ne h1), owns_grown h2 hg ?_⟩, h.below.grown hg h.below.size (fun r e => by have := (hr r e).1; omega), h.b1.kept hg (ne h.b1), h.b2.kept hg (ne h.b2)⟩
  by_cases hv : (Value.slice a k c).ownBlock = none
  · exact Or.inl hv
  · refine Or.inr fun e => ?_
    obtain ⟨g, hgq⟩ := Option.ne_none_iff_exists'.1 hv
    obtain ⟨cs, hcs⟩ := own_blk h2 hgq
    obtain ⟨_, o, ho, hc⟩ := hr g (by rw [← e]; exact hgq)
    rw [hcs] at ho; cases ho; cases hc
theorem VI.step {w W2 w1 : World} {V B1 B2 : Nat} {u1 u2 : Value} {f : Nat → Nat} {k : Nat} {a : Option Addr} {c : Nat} {v' : Value} {tmp : Obj} {R : Nat → Prop} {e : Eight} (h2 : VI w V B1 B2 u1 u2 f k W2) (hV : w.heap.size ≤ V) (hne : V ≠ B2) (hR : ∀ i, R i → i = B1 ∨ i = B2 ∨ i < w.heap.size)
    (hv : Boxed W2 V 117 (.slice a k c)) (hrow : OwnsRun W2 w.heap.size (.slice a k c) k f) (hs : runTo f (k + 1) = runTo f k ++ blkCells e)
    (ho : w1.ownsRow w.heap.size 158 8 v' (k + 1) (runTo f k ++ blkCells e)) (hg : (W2.alloc tmp).grownBy w1 (Value.slice a k c).ownBlock) (hsl : ∃ a' c', v' = .slice a' (k + 1) c') (n : Nat) :
    (Boxed w1 V 117 (.slice a k c)) ∧ LetsW R n W2 (w1.setCell ⟨V, 0, none⟩ v') ∧ VI w V B1 B2 u1 u2 f (k + 1) (w1.setCell ⟨V, 0, none⟩ v') := by
  obtain ⟨q1, q2, q3, q4, q5⟩ := hv.appended (n₀ := w.heap.size) (by decide) hrow h2.below.size hV ho hg
  obtain ⟨a', c', rfl⟩ := hsl
  have k1 : Boxed w1 B1 88 u1 := (h2.b1.alloc tmp).kept hg (h2.b1.not_row (by decide) hrow)
  have k2 : Boxed w1 B2 117 u2 := (h2.b2.alloc tmp).kept hg (h2.b2.not_row (by decide) hrow)
  have n1 : B1 ≠ V := fun e => by subst e; have := (show w1.heap[B1]? = _ from k1).symm.trans q1; simp at this
  have k1' : Boxed (w1.setCell ⟨V, 0, none⟩ (.slice a' (k + 1) c')) B1 88 u1 := k1.kept (grownBy_setCell' w1 V _) (by simp; exact n1)
  have k2' : Boxed (w1.setCell ⟨V, 0, none⟩ (.slice a' (k + 1) c')) B2 117 u2 := k2.kept (grownBy_setCell' w1 V _) (by simp; exact fun e => hne e.symm)
  refine ⟨q1, ⟨q5.size, fun i _ hr => ?_, fun i o _ ho hc => q4.same i o ho hc⟩, ⟨⟨a', c', q2, by rw [OwnsRun, hs]; exact q3⟩, h2.below.trans q5, k1', k2'⟩⟩
  rcases hR i hr with rfl | rfl | hl
  · exact (show _ = _ from k1').trans (show _ = _ from h2.b1).symm
  · exact (show _ = _ from k2').trans (show _ = _ from h2.b2).symm
  · exact q5.block i hl
theorem LetsW.setCell {R : Nat → Prop} {B : Nat} {w w' : World} (h : LetsW R B w w') {p : Addr} (hr : ¬ R p.block) (hc : ∃ cs t, w'.heap[p.block]? = some (.cells cs t (0, 0))) (u : Value) : LetsW R B w (w'.setCell p u) := by
  refine h.trans ⟨by simp, fun k _ hk => Below.heap_setCell _ _ _ _ fun e => hr (e ▸ hk), fun k o _ ho hco => (Below.heap_setCell _ _ _ _ fun e => ?_).trans ho⟩
  obtain ⟨cs, t, hc⟩ := hc
  rw [e, hc] at ho; cases ho; cases hco
theorem grown_new {W W1 W2 : World} {r : Option Nat} {b : Nat} (h : W.grownBy W1 r) (k : W1.grownBy W2 (some b)) (hb : W.heap.size ≤ b) : W.grownBy W2 r :=
  ⟨k.os.trans h.os, k.tape.trans h.tape, k.output.trans h.output, Nat.le_trans h.size k.size, fun i hi hne => (k.block i (Nat.lt_of_lt_of_le hi h.size) (by simp; omega)).trans (h.block i hi hne)⟩
abbrev set8 (W : World) (b : Nat) (v0 v1 v2 v3 v4 v5 v6 v7 : Value) : World := (((((((W.setCell ⟨b, 0, none⟩ v0).setCell ⟨b, 1, none⟩ v1).setCell ⟨b, 2, none⟩ v2).setCell ⟨b, 3, none⟩ v3).setCell ⟨b, 4, none⟩ v4).setCell ⟨b, 5, none⟩ v5).setCell ⟨b, 6, none⟩ v6).setCell ⟨b, 7, none⟩ v7
theorem set8_grown (W : World) (b : Nat) (v0 v1 v2 v3 v4 v5 v6 v7 : Value) : W.grownBy (set8 W b v0 v1 v2 v3 v4 v5 v6 v7) (some b) :=
  grown_trans (grown_trans (grown_trans (grown_trans (grown_trans (grown_trans (grown_trans (grown_set _ b 0 v0) (grown_set _ b 1 v1)) (grown_set _ b 2 v2)) (grown_set _ b 3 v3)) (grown_set _ b 4 v4)) (grown_set _ b 5 v5)) (grown_set _ b 6 v6)) (grown_set _ b 7 v7)
theorem set8_size (W : World) (b : Nat) (v0 v1 v2 v3 v4 v5 v6 v7 : Value) : (set8 W b v0 v1 v2 v3 v4 v5 v6 v7).heap.size = W.heap.size := by simp [set8]
theorem LetsW.of_grown {R : Nat → Prop} {n b : Nat} {W W' : World} (hg : W.grownBy W' (some b)) (hr : ¬ R b) (hc : ∃ cs t, W.heap[b]? = some (.cells cs t (0, 0))) : LetsW R n W W' := by
  refine ⟨hg.size, fun k hk hR => hg.block k hk (fun e => by cases e; exact hr hR), fun k o _ ho hco => (hg.block k (blk_lt ho) (fun e => ?_)).trans ho⟩
  cases e
  obtain ⟨cs, t, hc⟩ := hc
  rw [hc] at ho; cases ho; cases hco

set_option maxRecDepth 100000 in
set_option maxHeartbeats 4000000 in
theorem oviewOver_calls (bk : ByteArray) (t : Int) (g m nl base : Nat) (q : Nat → Int) (d : Nat → Eight) (v : Nat → Nat) (s : Value) (w : World) (hm1 : 1 ≤ m) (hm : m ≤ 30) (hnl : nl ≤ 30) (hc : Cl w g m q d) (ho : OwnsRun w base s nl v) (hq : ∀ k, k < m → q k = 0 ∨ q k = 1 ∨ q k = 2) :
    Calls Tryz.prog 109 #[.agg #[.string bk, .slice (some ⟨g, 0, none⟩) m m, .int .i64 t], s] w fun e w' => ∃ a c, e = .returned (.slice a m c) ∧ Below w.heap.size w w' ∧ OwnsRun w' w.heap.size (.slice a m c) m (overV q d nl v) := by
  obtain ⟨sa, sc, rfl⟩ := owns_slice ho
  obtain ⟨i0, hi, hz0, hz1, hz2⟩ := info_parts Tryz.infoBlock
  have HC := hide hc
  have HO := hide ho
  have HQ := hide hq
  clear hc ho hq
  refine (callsIn_wide (n := 6)).1 ?_
  have hro : Fence.wide.round = none := rfl
  refine callsIn_of_wp_marks Tryz.func109 rfl trivial ?_ hro
  simp only [Tryz.ntmps109, List.size_toArray, List.length_cons, List.length_nil, Nat.reduceAdd, Nat.reduceSub, Array.replicate_succ, Array.replicate_zero, List.push_toArray, List.append_toArray, List.nil_append, List.cons_append]
  have hfA : Fence.wide.fn 156 := trivial
  have hfB : Fence.wide.fn 185 := trivial
  gi_wp2_with (gi_at_call 156; refine (oalong_in _ _ _ _ _ _ _ _).mono ?_; rintro e w' ⟨rfl, rfl⟩)
  have hB0 : Below w.heap.size w ((((w.alloc (.cells #[.string bk, .slice (some ⟨g, 0, none⟩) m m, .int .i64 t] 90)).alloc (.cells #[.slice none 0 0] 117)).alloc (.cells #[.slice (some ⟨g, 0, none⟩) m m] 88)).alloc (.cells #[.slice sa nl sc] 117)) := (below_alloc2 w _ _).trans ((below_alloc2 _ _ _).mono (by simp; omega))
  have bV : Boxed ((((w.alloc (.cells #[.string bk, .slice (some ⟨g, 0, none⟩) m m, .int .i64 t] 90)).alloc (.cells #[.slice none 0 0] 117)).alloc (.cells #[.slice (some ⟨g, 0, none⟩) m m] 88)).alloc (.cells #[.slice sa nl sc] 117)) (w.heap.size + 1) 117 (.slice none 0 0) := by
    have := Boxed.new (w.alloc (.cells #[.string bk, .slice (some ⟨g, 0, none⟩) m m, .int .i64 t] 90)) 117 (.slice none 0 0)
    rw [World.size_alloc] at this
    exact (this.alloc _).alloc _
  have b1 : Boxed ((((w.alloc (.cells #[.string bk, .slice (some ⟨g, 0, none⟩) m m, .int .i64 t] 90)).alloc (.cells #[.slice none 0 0] 117)).alloc (.cells #[.slice (some ⟨g, 0, none⟩) m m] 88)).alloc (.cells #[.slice sa nl sc] 117)) (w.heap.size + 1 + 1) 88 (.slice (some ⟨g, 0, none⟩) m m) := by
    have := Boxed.new ((w.alloc (.cells #[.string bk, .slice (some ⟨g, 0, none⟩) m m, .int .i64 t] 90)).alloc (.cells #[.slice none 0 0] 117)) 88 (.slice (some ⟨g, 0, none⟩) m m)
    rw [World.size_alloc, World.size_alloc] at this
    exact this.alloc _
  have b2 : Boxed ((((w.alloc (.cells #[.string bk, .slice (some ⟨g, 0, none⟩) m m, .int .i64 t] 90)).alloc (.cells #[.slice none 0 0] 117)).alloc (.cells #[.slice (some ⟨g, 0, none⟩) m m] 88)).alloc (.cells #[.slice sa nl sc] 117)) (w.heap.size + 1 + 1 + 1) 117 (.slice sa nl sc) := by
    have := Boxed.new (((w.alloc (.cells #[.string bk, .slice (some ⟨g, 0, none⟩) m m, .int .i64 t] 90)).alloc (.cells #[.slice none 0 0] 117)).alloc (.cells #[.slice (some ⟨g, 0, none⟩) m m] 88)) 117 (.slice sa nl sc)
    rw [World.size_alloc, World.size_alloc, World.size_alloc] at this
    exact this
  obtain ⟨w4, hw4⟩ : ∃ w4, w4 = ((((w.alloc (.cells #[.string bk, .slice (some ⟨g, 0, none⟩) m m, .int .i64 t] 90)).alloc (.cells #[.slice none 0 0] 117)).alloc (.cells #[.slice (some ⟨g, 0, none⟩) m m] 88)).alloc (.cells #[.slice sa nl sc] 117)) := ⟨_, rfl⟩
  have hsz4 : w4.heap.size = w.heap.size + 1 + 1 + 1 + 1 := by rw [hw4]; simp
  rw [← hw4] at hB0 bV b1 b2
  rw [← hw4]
  clear hw4
  have hgl := (unhide HC).lt
  have HR : Hid (∀ i, (i = w.heap.size + 1 + 1 ∨ i = w.heap.size + 1 + 1 + 1 ∨ i = g ∨ (Value.slice sa nl sc).ownBlock = some i) → i = w.heap.size + 1 + 1 ∨ i = w.heap.size + 1 + 1 + 1 ∨ i < w.heap.size) := fun i hi => by
    rcases hi with e | e | e | e
    · exact Or.inl e
    · exact Or.inr (Or.inl e)
    · exact Or.inr (Or.inr (by omega))
    · exact Or.inr (Or.inr ((unhide HO).lt i e).2)
  have hg := oalong1_gives 5 (by decide) (w.heap.size + 1 + 1) (w.heap.size + 1 + 1 + 1) g m nl base q d v (.slice sa nl sc) w4 hm1 hm hnl (fun i => i = w.heap.size + 1 + 1 ∨ i = w.heap.size + 1 + 1 + 1 ∨ i = g ∨ (Value.slice sa nl sc).ownBlock = some i) (Or.inl rfl) (Or.inr (Or.inl rfl)) (Or.inr (Or.inr (Or.inl rfl))) (fun k hk => Or.inr (Or.inr (Or.inr hk))) b1.cell b2.cell ((unhide HC).same (hB0.block g hgl) hB0.size) (owns_all (unhide HO) hB0)
  refine wp_givesW hro (by decide) (gf := 185) (lb := #[.pointer (some ⟨w.heap.size + 1 + 1, 0, none⟩), .pointer (some ⟨w.heap.size + 1 + 1 + 1, 0, none⟩)]) rfl hfB (enters_of Tryz.func185 (by kernel_rfl) rfl)
    hg (Below.refl _ _) (fun k hk => by rcases unhide HR k hk with e | e | e <;> omega) (fun _ => rfl)
    (VI w (w.heap.size + 1) (w.heap.size + 1 + 1) (w.heap.size + 1 + 1 + 1) (.slice (some ⟨g, 0, none⟩) m m) (.slice sa nl sc) (overV q d nl v)) (VI.own _ _ _ _ _ _ _ _ (by omega)) ⟨⟨none, 0, bV, World.ownsRow_nil _ _ _ _⟩, hB0, b1, b2⟩
    (fun k W => { tmps := #[.agg #[.string bk, .slice (some ⟨g, 0, none⟩) m m, .int .i64 t], .slice sa nl sc, .pointer (some ⟨w.heap.size, 0, none⟩), undef, .slice none 0 0, .pointer (some ⟨w.heap.size + 1, 0, none⟩), .pointer (some ⟨W.heap.size, 0, none⟩), .pointer (some ⟨W.heap.size + 1, 0, none⟩), .pointer (some ⟨w.heap.size, 1, none⟩), .slice (some ⟨g, 0, none⟩) m m, .slice sa nl sc, .func (.func 185) #[] #[.pointer (some ⟨w.heap.size + 1 + 1, 0, none⟩), .pointer (some ⟨w.heap.size + 1 + 1 + 1, 0, none⟩)], clVal (q k) (d k), blkVal (runAt nl v k), undef, undef, undef, undef, undef, undef, undef, undef, undef, undef, undef, undef, undef, undef], defers := [] })
    (fun k W => (W.alloc (.cells #[.int .i64 (q k), .int .u8 (d k 0 : Nat), .int .u8 (d k 1 : Nat), .int .u8 (d k 2 : Nat), .int .u8 (d k 3 : Nat), .int .u8 (d k 4 : Nat), .int .u8 (d k 5 : Nat), .int .u8 (d k 6 : Nat), .int .u8 (d k 7 : Nat)] 160)).alloc (.cells #[.int .u8 (runAt nl v k 0 : Nat), .int .u8 (runAt nl v k 1 : Nat), .int .u8 (runAt nl v k 2 : Nat), .int .u8 (runAt nl v k 3 : Nat), .int .u8 (runAt nl v k 4 : Nat), .int .u8 (runAt nl v k 5 : Nat), .int .u8 (runAt nl v k 6 : Nat), .int .u8 (runAt nl v k 7 : Nat)] 158))
    (fun k W => below_alloc2 W _ _) ?assign ?body ?done
  case assign =>
    intro y k W K hK
    unfold pairArgs
    unfold clVal blkVal at hK ⊢
    gi_wp2
    exact hK
  case body =>
    intro l k x W o o' hl ho hoc hx hI
    have hkm : k < m ∧ x = k := by
      obtain ⟨h1, h2⟩ := List.getElem?_eq_some_iff.1 hx
      rw [List.getElem_range] at h2
      rw [List.length_range] at h1
      exact ⟨h1, h2.symm⟩
    obtain ⟨hkm, rfl⟩ := hkm
    have hll : l < W.heap.size := blk_lt ho
    have hWz := hI.below.size
    have hW4 : w.heap.size + 1 + 1 + 1 < W.heap.size := hI.b2.lt
    have ne0 : W.heap.size ≠ l := by omega
    have ne1 : W.heap.size + 1 ≠ l := by omega
    -- the world behind the round's variables
    obtain ⟨C, hCd⟩ : ∃ C : Obj, C = .cells #[.int .i64 (q x), .int .u8 (d x 0 : Nat), .int .u8 (d x 1 : Nat), .int .u8 (d x 2 : Nat), .int .u8 (d x 3 : Nat), .int .u8 (d x 4 : Nat), .int .u8 (d x 5 : Nat), .int .u8 (d x 6 : Nat), .int .u8 (d x 7 : Nat)] 160 (0, 0) := ⟨_, rfl⟩
    obtain ⟨S, hSd⟩ : ∃ S : Obj, S = .cells #[.int .u8 (runAt nl v x 0 : Nat), .int .u8 (runAt nl v x 1 : Nat), .int .u8 (runAt nl v x 2 : Nat), .int .u8 (runAt nl v x 3 : Nat), .int .u8 (runAt nl v x 4 : Nat), .int .u8 (runAt nl v x 5 : Nat), .int .u8 (runAt nl v x 6 : Nat), .int .u8 (runAt nl v x 7 : Nat)] 158 (0, 0) := ⟨_, rfl⟩
    rw [← hCd, ← hSd]
    have hcC : (((W.alloc C).alloc S).putObj l o).heap[W.heap.size]? = some C := (World.putObj_heap_other ne0).trans (blk_alloc (blk_new W C) S)
    have hcS : (((W.alloc C).alloc S).putObj l o).heap[W.heap.size + 1]? = some S := (World.putObj_heap_other ne1).trans (by have := blk_new (W.alloc C) S; rwa [World.size_alloc] at this)
    have hgr : W.grownBy (((W.alloc C).alloc S).putObj l o) (some l) := ⟨rfl, rfl, rfl, by simp; omega, fun i hi hne => (World.putObj_heap_other (fun e => hne (by rw [e]))).trans ((below_alloc2 W C S).block i hi)⟩
    obtain ⟨W1, hW1⟩ : ∃ W1, W1 = ((W.alloc C).alloc S).putObj l o := ⟨_, rfl⟩
    have hs1 : W1.heap.size = W.heap.size + 1 + 1 := by rw [hW1]; simp
    rw [← hW1] at hcC hcS hgr
    rw [← hW1]
    clear hW1
    have hVI : ∀ W2, W.grownBy W2 (some l) → VI w (w.heap.size + 1) (w.heap.size + 1 + 1) (w.heap.size + 1 + 1 + 1) (.slice (some ⟨g, 0, none⟩) m m) (.slice sa nl sc) (overV q d nl v) x W2 := fun W2 h => VI.own w _ _ _ _ _ _ w4.heap.size (by omega) x W W2 (some l) hI h (fun r e => by cases e; exact ⟨by omega, o', ho, hoc⟩)
    have hR8 : ∀ i, (i = w.heap.size + 1 + 1 ∨ i = w.heap.size + 1 + 1 + 1 ∨ i = g ∨ (Value.slice sa nl sc).ownBlock = some i) → i < W.heap.size := fun i hi => by rcases unhide HR i hi with e | e | e <;> omega
    have HR8 := hide hR8
    have HVI := hide hVI
    have HGR := hide hgr
    have HCC : Hid (W1.heap[W.heap.size]? = some C) := hcC
    have HCS : Hid (W1.heap[W.heap.size + 1]? = some S) := hcS
    have hq3 := unhide HQ x hkm
    clear hR8 hVI hgr hI hx ho hg bV b1 b2 hB0
    rw [hCd] at HCC
    rw [hSd] at HCS
    have f0 := blk_cell (i := 0) (unhide HCC) rfl
    have f1 := blk_cell (i := 1) (unhide HCC) rfl
    have f2 := blk_cell (i := 2) (unhide HCC) rfl
    have f3 := blk_cell (i := 3) (unhide HCC) rfl
    have f4 := blk_cell (i := 4) (unhide HCC) rfl
    have f5 := blk_cell (i := 5) (unhide HCC) rfl
    have f6 := blk_cell (i := 6) (unhide HCC) rfl
    have f7 := blk_cell (i := 7) (unhide HCC) rfl
    have f8 := blk_cell (i := 8) (unhide HCC) rfl
    have p0 := blk_cell (i := 0) (unhide HCS) rfl
    have p1 := blk_cell (i := 1) (unhide HCS) rfl
    have p2 := blk_cell (i := 2) (unhide HCS) rfl
    have p3 := blk_cell (i := 3) (unhide HCS) rfl
    have p4 := blk_cell (i := 4) (unhide HCS) rfl
    have p5 := blk_cell (i := 5) (unhide HCS) rfl
    have p6 := blk_cell (i := 6) (unhide HCS) rfl
    have p7 := blk_cell (i := 7) (unhide HCS) rfl
    have pf := blk_frozen (unhide HCS)
    clear hCd hSd hcC hcS
    rcases hq3 with hq | hq | hq
    · have hv2 := unhide HVI W1 (unhide HGR)
      obtain ⟨a, c, hv, hrow⟩ := hv2.row
      have HSC : Hid (runTo (overV q d nl v) (x + 1) = runTo (overV q d nl v) x ++ blkCells (runAt nl v x)) := by rw [runTo_over, over_open hq]; exact rfl
      have HV2 := hide hv2
      have HVB := hide hv
      have HROW := hide hrow
      have hcv := hv.cell
      have hws := hv2.below.size
      have HSR : Hid (∀ (j : Nat) (u : Value), (blkCells (runAt nl v x))[j]? = some u → (W1.alloc (.cells (blkCells (runAt nl v x)).toArray 158)).cell? ((⟨W.heap.size + 1 + 1, 0, none⟩ : Addr).add j) = some u) := by rw [← hs1]; exact blk_src (e := runAt nl v x) (t := 158) (blk_new W1 _)
      rw [hq] at f0
      clear hv2 hv hrow
      gi_wp2_with (gi_at_builtin; refine wpListIn_append_own _ rfl _ _ 117 rfl w.heap.size 158 i0 _ 8 8 Tryz.underlying117 hi hz0 hz1 hz2 rfl (by decide) (.slice a x c) x _ rfl (by exact (unhide HROW).alloc _) ⟨W.heap.size + 1 + 1, 0, none⟩ 1 1 (blkCells (runAt nl v x)) rfl rfl (unhide HSR) (blk_one _) (by unfold maxLen; omega) (by omega) (by simp; omega) ?_; intro v' w1 hown' hgrow _; obtain ⟨g', cap', rfl⟩ := ownsRow_succ hown'; obtain ⟨hv1, hl1, hi1⟩ := VI.step (n := w4.heap.size) (R := fun i => i = w.heap.size + 1 + 1 ∨ i = w.heap.size + 1 + 1 + 1 ∨ i = g ∨ (Value.slice sa nl sc).ownBlock = some i) (unhide HV2) (by omega) (by omega) (unhide HR) (unhide HVB) (unhide HROW) (unhide HSC) hown' hgrow ⟨_, _, rfl⟩; have hc1 := hv1.cell; have hf1 := hv1.frozen; have HL1 := hide hl1; have HI1 := hide hi1; clear hv1 hl1 hi1 hown' hgrow)
      exact ⟨(unhide HL1).weak (by omega), unhide HI1⟩
    · obtain ⟨W2, hW2⟩ : ∃ W2, W2 = set8 W1 (W.heap.size + 1) (.int .u8 0) (.int .u8 0) (.int .u8 0) (.int .u8 0) (.int .u8 0) (.int .u8 0) (.int .u8 0) (.int .u8 0) := ⟨_, rfl⟩
      have hg2 : W1.grownBy W2 (some (W.heap.size + 1)) := by rw [hW2]; exact set8_grown _ _ _ _ _ _ _ _ _ _
      have hs2 : W2.heap.size = W.heap.size + 1 + 1 := by rw [hW2, set8_size]; exact hs1
      have hv2 := unhide HVI W2 (grown_new (unhide HGR) hg2 (by omega))
      obtain ⟨a, c, hv, hrow⟩ := hv2.row
      have HSC : Hid (runTo (overV q d nl v) (x + 1) = runTo (overV q d nl v) x ++ blkCells (fun _ => 0)) := by rw [runTo_over, over_zero hq]; exact rfl
      have HLW : Hid (LetsW (fun i => i = w.heap.size + 1 + 1 ∨ i = w.heap.size + 1 + 1 + 1 ∨ i = g ∨ (Value.slice sa nl sc).ownBlock = some i) w4.heap.size W1 W2) := LetsW.of_grown hg2 (fun h => by have := unhide HR8 _ h; omega) ⟨_, _, unhide HCS⟩
      have HSR : Hid (∀ (j : Nat) (u : Value), (blkCells (fun _ => 0))[j]? = some u → (W2.alloc (.cells (blkCells (fun _ => 0)).toArray 158)).cell? ((⟨W.heap.size + 1 + 1, 0, none⟩ : Addr).add j) = some u) := by rw [← hs2]; exact blk_src (e := (fun _ => 0)) (t := 158) (blk_new W2 _)
      have hws := hv2.below.size
      have HV2 := hide hv2
      have HVB := hide hv
      have HROW := hide hrow
      have hcv := hv.cell
      rw [hq] at f0
      clear hv2 hv hrow hg2
      subst hW2
      gi_wp2_with (gi_at_builtin; refine wpListIn_append_own _ rfl _ _ 117 rfl w.heap.size 158 i0 _ 8 8 Tryz.underlying117 hi hz0 hz1 hz2 rfl (by decide) (.slice a x c) x _ rfl (by exact (unhide HROW).alloc _) ⟨W.heap.size + 1 + 1, 0, none⟩ 1 1 (blkCells (fun _ => 0)) rfl rfl (unhide HSR) (blk_one _) (by unfold maxLen; omega) (by omega) (by simp; omega) ?_; intro v' w1 hown' hgrow _; obtain ⟨g', cap', rfl⟩ := ownsRow_succ hown'; obtain ⟨hv1, hl1, hi1⟩ := VI.step (n := w4.heap.size) (R := fun i => i = w.heap.size + 1 + 1 ∨ i = w.heap.size + 1 + 1 + 1 ∨ i = g ∨ (Value.slice sa nl sc).ownBlock = some i) (unhide HV2) (by omega) (by omega) (unhide HR) (unhide HVB) (unhide HROW) (unhide HSC) hown' hgrow ⟨_, _, rfl⟩; have hc1 := hv1.cell; have hf1 := hv1.frozen; have HL1 := hide hl1; have HI1 := hide hi1; clear hv1 hl1 hi1 hown' hgrow)
      exact ⟨((unhide HLW).trans (unhide HL1)).weak (by omega), unhide HI1⟩
    · obtain ⟨W2, hW2⟩ : ∃ W2, W2 = set8 W1 (W.heap.size + 1) (.int .u8 (d x 0 : Nat)) (.int .u8 (d x 1 : Nat)) (.int .u8 (d x 2 : Nat)) (.int .u8 (d x 3 : Nat)) (.int .u8 (d x 4 : Nat)) (.int .u8 (d x 5 : Nat)) (.int .u8 (d x 6 : Nat)) (.int .u8 (d x 7 : Nat)) := ⟨_, rfl⟩
      have hg2 : W1.grownBy W2 (some (W.heap.size + 1)) := by rw [hW2]; exact set8_grown _ _ _ _ _ _ _ _ _ _
      have hs2 : W2.heap.size = W.heap.size + 1 + 1 := by rw [hW2, set8_size]; exact hs1
      have hv2 := unhide HVI W2 (grown_new (unhide HGR) hg2 (by omega))
      obtain ⟨a, c, hv, hrow⟩ := hv2.row
      have HSC : Hid (runTo (overV q d nl v) (x + 1) = runTo (overV q d nl v) x ++ blkCells (d x)) := by rw [runTo_over, over_data hq]; exact rfl
      have HLW : Hid (LetsW (fun i => i = w.heap.size + 1 + 1 ∨ i = w.heap.size + 1 + 1 + 1 ∨ i = g ∨ (Value.slice sa nl sc).ownBlock = some i) w4.heap.size W1 W2) := LetsW.of_grown hg2 (fun h => by have := unhide HR8 _ h; omega) ⟨_, _, unhide HCS⟩
      have HSR : Hid (∀ (j : Nat) (u : Value), (blkCells (d x))[j]? = some u → (W2.alloc (.cells (blkCells (d x)).toArray 158)).cell? ((⟨W.heap.size + 1 + 1, 0, none⟩ : Addr).add j) = some u) := by rw [← hs2]; exact blk_src (e := (d x)) (t := 158) (blk_new W2 _)
      have hws := hv2.below.size
      have HV2 := hide hv2
      have HVB := hide hv
      have HROW := hide hrow
      have hcv := hv.cell
      rw [hq] at f0
      clear hv2 hv hrow hg2
      subst hW2
      gi_wp2_with (gi_at_builtin; refine wpListIn_append_own _ rfl _ _ 117 rfl w.heap.size 158 i0 _ 8 8 Tryz.underlying117 hi hz0 hz1 hz2 rfl (by decide) (.slice a x c) x _ rfl (by exact (unhide HROW).alloc _) ⟨W.heap.size + 1 + 1, 0, none⟩ 1 1 (blkCells (d x)) rfl rfl (unhide HSR) (blk_one _) (by unfold maxLen; omega) (by omega) (by simp; omega) ?_; intro v' w1 hown' hgrow _; obtain ⟨g', cap', rfl⟩ := ownsRow_succ hown'; obtain ⟨hv1, hl1, hi1⟩ := VI.step (n := w4.heap.size) (R := fun i => i = w.heap.size + 1 + 1 ∨ i = w.heap.size + 1 + 1 + 1 ∨ i = g ∨ (Value.slice sa nl sc).ownBlock = some i) (unhide HV2) (by omega) (by omega) (unhide HR) (unhide HVB) (unhide HROW) (unhide HSC) hown' hgrow ⟨_, _, rfl⟩; have hc1 := hv1.cell; have hf1 := hv1.frozen; have HL1 := hide hl1; have HI1 := hide hi1; clear hv1 hl1 hi1 hown' hgrow)
      exact ⟨((unhide HLW).trans (unhide HL1)).weak (by omega), unhide HI1⟩
  case done =>
    intro D W hD hI hK
    rw [List.length_range] at hI
    obtain ⟨⟨a, c, hv, hrow⟩, hB, _, _⟩ := hI
    have hc := hv.cell
    have HRW := hide hrow
    have HBW := hide hB
    clear hrow hB
    gi_wp2
    refine ⟨by simp, .inl ⟨_, _, rfl, run_takeDeferred hK, ?_⟩⟩
    exact ⟨_, results_tmp rfl _ _ _, a, c, rfl, (unhide HBW).trans (belowK_b (w := w) (Nat.le_refl _) W D _ _ (by omega) hK rfl rfl), ownsRow_putObj (unhide HRW) _ hK rfl⟩

end Go.Proofs.YtomiepknmmpflaaGreatDoor

