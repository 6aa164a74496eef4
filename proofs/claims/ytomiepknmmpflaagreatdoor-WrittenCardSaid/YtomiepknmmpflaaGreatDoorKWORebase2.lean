/- The program's pin: open clusters that would read otherwise say themselves what they have shown. -/
import Derived.Test.YtomiepknmmpflaaGreatDoorKWFirst
import Derived.Test.YtomiepknmmpflaaGreatDoorKWORebase
namespace Go.Proofs.YtomiepknmmpflaaGreatDoor
open Go.RowKit Go.Joins Go.Shelf

attribute [local go_sem] Oper.semAt_some

set_option maxHeartbeats 2000000 in
theorem store_nine (w2 : World) (g x m : Nat) (q : Nat → Int) (d : Nat → Eight) (sq : Int) (s0 s1 s2 s3 s4 s5 s6 s7 : Nat) (hg : w2.heap[g]? = some (.cells (clRow q d m).toArray 160 (0, 0))) (hx : x < m) :
    (Instr.storeAt 160 (.pointer (some ⟨g, x * 9, none⟩)) (.agg #[.int .i64 sq, .int .u8 (s0 : Nat), .int .u8 (s1 : Nat), .int .u8 (s2 : Nat), .int .u8 (s3 : Nat), .int .u8 (s4 : Nat), .int .u8 (s5 : Nat), .int .u8 (s6 : Nat), .int .u8 (s7 : Nat)])).run Tryz.prog w2 = .ok () (((((((((w2.setCell ⟨g, x * 9, none⟩ (.int .i64 sq)).setCell ⟨g, x * 9 + 1, none⟩ (.int .u8 (s0 : Nat))).setCell ⟨g, x * 9 + 2, none⟩ (.int .u8 (s1 : Nat))).setCell ⟨g, x * 9 + 3, none⟩ (.int .u8 (s2 : Nat))).setCell ⟨g, x * 9 + 4, none⟩ (.int .u8 (s3 : Nat))).setCell ⟨g, x * 9 + 5, none⟩ (.int .u8 (s4 : Nat))).setCell ⟨g, x * 9 + 6, none⟩ (.int .u8 (s5 : Nat))).setCell ⟨g, x * 9 + 7, none⟩ (.int .u8 (s6 : Nat))).setCell ⟨g, x * 9 + 8, none⟩ (.int .u8 (s7 : Nat))) := by
  have af := blk_frozen hg
  have acl := cl_row hg
  obtain ⟨v0, v1, v2, v3, v4, v5, v6, v7, v8⟩ := acl.nine hx
  clear hg acl
  go_simp

set_option maxRecDepth 100000 in
set_option maxHeartbeats 8000000 in
theorem opin_calls (bk : ByteArray) (t : Int) (I g m gv cv nl bv base : Nat) (q : Nat → Int) (d : Nat → Eight) (u v : Nat → Nat) (s : Value) (w : World) (hI : w.heap[I]? = some (.cells #[.string bk, .slice (some ⟨g, 0, none⟩) m m, .int .i64 t] 90 (0, 0))) (hg : w.heap[g]? = some (.cells (clRow q d m).toArray 160 (0, 0))) (hv0 : OwnsRun w bv (.slice (some ⟨gv, 0, none⟩) m cv) m u) (ho : OwnsRun w base s nl v) (hm : m ≤ 30) (hnl : nl ≤ 30) (hu : ∀ i, u i < 256) (hv : ∀ i, v i < 256) :
    Calls Tryz.prog 97 #[.pointer (some ⟨I, 0, none⟩), .slice (some ⟨gv, 0, none⟩) m cv, s] w fun e w' => (∃ u, e = .returned u) ∧ SD w g m (pinQ (sel (unl u nl v) m) u q) (pinD (sel (unl u nl v) m) u q d) w' := by
  obtain ⟨sa, sc, rfl⟩ := owns_slice ho
  have HI := hide hI
  have HG := hide hg
  have HV := hide hv0
  have HO := hide ho
  have hIl := blk_lt hI
  have hgl := blk_lt hg
  have hvl := (hv0.lt gv rfl).2
  have hIg : I ≠ g := blk_two hI hg (by decide)
  have hgv : g ≠ gv := fun e => own_ne hv0 hg (by decide) (by rw [e]; rfl)
  have HSG : Hid (some g ≠ (Value.slice sa nl sc).ownBlock) := own_ne ho hg (by decide)
  clear hI hg hv0 ho
  refine (callsIn_wide (n := 6)).1 ?_
  have hro : Fence.wide.round = none := rfl
  refine callsIn_of_wp_marks Tryz.func97 rfl trivial ?_ hro
  simp only [Tryz.ntmps97, List.size_toArray, List.length_cons, List.length_nil, Nat.reduceAdd, Nat.reduceSub, Array.replicate_succ, Array.replicate_zero, List.push_toArray, List.append_toArray, List.nil_append, List.cons_append]
  have hfA : Fence.wide.fn 147 := trivial
  have hfB : Fence.wide.fn 181 := trivial
  have hfS : Fence.wide.fn 148 := trivial
  gi_wp2_with (gi_at_call 147; refine (ounlike_in _ _ _ _ _ _ _ _).mono ?_; rintro e w' ⟨rfl, rfl⟩)
  have hB0 : Below w.heap.size w ((((w.alloc (.cells #[.pointer (some ⟨I, 0, none⟩)] 152)).alloc (.cells #[.slice (some ⟨gv, 0, none⟩) m cv] 117)).alloc (.cells #[.slice (some ⟨gv, 0, none⟩) m cv] 117)).alloc (.cells #[.slice sa nl sc] 117)) := (below_alloc2 w _ _).trans ((below_alloc2 _ _ _).mono (by simp; omega))
  have b3 : Boxed ((((w.alloc (.cells #[.pointer (some ⟨I, 0, none⟩)] 152)).alloc (.cells #[.slice (some ⟨gv, 0, none⟩) m cv] 117)).alloc (.cells #[.slice (some ⟨gv, 0, none⟩) m cv] 117)).alloc (.cells #[.slice sa nl sc] 117)) w.heap.size 152 (.pointer (some ⟨I, 0, none⟩)) := (((Boxed.new w 152 (.pointer (some ⟨I, 0, none⟩))).alloc _).alloc _).alloc _
  have b4 : Boxed ((((w.alloc (.cells #[.pointer (some ⟨I, 0, none⟩)] 152)).alloc (.cells #[.slice (some ⟨gv, 0, none⟩) m cv] 117)).alloc (.cells #[.slice (some ⟨gv, 0, none⟩) m cv] 117)).alloc (.cells #[.slice sa nl sc] 117)) (w.heap.size + 1) 117 (.slice (some ⟨gv, 0, none⟩) m cv) := by
    have := Boxed.new (w.alloc (.cells #[.pointer (some ⟨I, 0, none⟩)] 152)) 117 (.slice (some ⟨gv, 0, none⟩) m cv)
    rw [World.size_alloc] at this
    exact (this.alloc _).alloc _
  have b1 : Boxed ((((w.alloc (.cells #[.pointer (some ⟨I, 0, none⟩)] 152)).alloc (.cells #[.slice (some ⟨gv, 0, none⟩) m cv] 117)).alloc (.cells #[.slice (some ⟨gv, 0, none⟩) m cv] 117)).alloc (.cells #[.slice sa nl sc] 117)) (w.heap.size + 1 + 1) 117 (.slice (some ⟨gv, 0, none⟩) m cv) := by
    have := Boxed.new ((w.alloc (.cells #[.pointer (some ⟨I, 0, none⟩)] 152)).alloc (.cells #[.slice (some ⟨gv, 0, none⟩) m cv] 117)) 117 (.slice (some ⟨gv, 0, none⟩) m cv)
    rw [World.size_alloc, World.size_alloc] at this
    exact this.alloc _
  have b2 : Boxed ((((w.alloc (.cells #[.pointer (some ⟨I, 0, none⟩)] 152)).alloc (.cells #[.slice (some ⟨gv, 0, none⟩) m cv] 117)).alloc (.cells #[.slice (some ⟨gv, 0, none⟩) m cv] 117)).alloc (.cells #[.slice sa nl sc] 117)) (w.heap.size + 1 + 1 + 1) 117 (.slice sa nl sc) := by
    have := Boxed.new (((w.alloc (.cells #[.pointer (some ⟨I, 0, none⟩)] 152)).alloc (.cells #[.slice (some ⟨gv, 0, none⟩) m cv] 117)).alloc (.cells #[.slice (some ⟨gv, 0, none⟩) m cv] 117)) 117 (.slice sa nl sc)
    rw [World.size_alloc, World.size_alloc, World.size_alloc] at this
    exact this
  obtain ⟨w4, hw4⟩ : ∃ w4, w4 = ((((w.alloc (.cells #[.pointer (some ⟨I, 0, none⟩)] 152)).alloc (.cells #[.slice (some ⟨gv, 0, none⟩) m cv] 117)).alloc (.cells #[.slice (some ⟨gv, 0, none⟩) m cv] 117)).alloc (.cells #[.slice sa nl sc] 117)) := ⟨_, rfl⟩
  have hsz4 : w4.heap.size = w.heap.size + 1 + 1 + 1 + 1 := by rw [hw4]; simp
  rw [← hw4] at hB0 b3 b4 b1 b2
  rw [← hw4]
  clear hw4
  have HR : Hid (∀ i, (fun i => i = w.heap.size + 1 + 1 ∨ i = w.heap.size + 1 + 1 + 1 ∨ i = gv ∨ (Value.slice sa nl sc).ownBlock = some i) i → i = w.heap.size + 1 + 1 ∨ i = w.heap.size + 1 + 1 + 1 ∨ i < w.heap.size) := fun i hi => by
    rcases hi with e | e | e | e
    · exact Or.inl e
    · exact Or.inr (Or.inl e)
    · exact Or.inr (Or.inr (by omega))
    · exact Or.inr (Or.inr ((unhide HO).lt i e).2)
  have HRG : Hid (¬ (fun i => i = w.heap.size + 1 + 1 ∨ i = w.heap.size + 1 + 1 + 1 ∨ i = gv ∨ (Value.slice sa nl sc).ownBlock = some i) g) := fun h => by
    rcases h with e | e | e | e
    · omega
    · omega
    · exact hgv e
    · exact unhide HSG e.symm
  have hgv2 := ounlike1_gives 5 (by decide) (w.heap.size + 1 + 1) (w.heap.size + 1 + 1 + 1) gv m cv nl bv base u v (.slice sa nl sc) w4 hm hnl hu hv (fun i => i = w.heap.size + 1 + 1 ∨ i = w.heap.size + 1 + 1 + 1 ∨ i = gv ∨ (Value.slice sa nl sc).ownBlock = some i) (Or.inl rfl) (Or.inr (Or.inl rfl)) (Or.inr (Or.inr (Or.inl rfl))) (fun k hk => Or.inr (Or.inr (Or.inr hk))) b1.cell b2.cell (owns_all (unhide HV) hB0) (owns_all (unhide HO) hB0)
  refine wp_givesW hro (by decide) (gf := 181) (lb := #[.pointer (some ⟨w.heap.size + 1 + 1, 0, none⟩), .pointer (some ⟨w.heap.size + 1 + 1 + 1, 0, none⟩)]) rfl hfB (enters_of Tryz.func181 (by kernel_rfl) rfl)
    hgv2 (Below.refl _ _) (fun k hk => by rcases unhide HR k hk with e | e | e <;> omega) (fun _ => rfl)
    (fun k W => SD w4 g m (pinQ ((sel (unl u nl v) m).take k) u q) (pinD ((sel (unl u nl v) m).take k) u q d) W) (SD.own w4 g m _ _) ⟨by rw [List.take_zero, pin_nil]; exact (hB0.block g hgl).trans (unhide HG), grown_of_below (Below.refl _ _) _⟩
    (fun x W => { tmps := #[.pointer (some ⟨I, 0, none⟩), .slice (some ⟨gv, 0, none⟩) m cv, .slice sa nl sc, .pointer (some ⟨w.heap.size, 0, none⟩), .pointer (some ⟨w.heap.size + 1, 0, none⟩), undef, .int .i64 (x : Nat), .slice (some ⟨gv, 0, none⟩) m cv, .slice sa nl sc, .func (.func 181) #[] #[.pointer (some ⟨w.heap.size + 1 + 1, 0, none⟩), .pointer (some ⟨w.heap.size + 1 + 1 + 1, 0, none⟩)], .int .i64 (x : Nat), undef, undef, undef, undef, undef, undef, undef, undef, undef, undef, undef, undef, undef, undef, undef, undef, undef, undef, undef, undef], defers := [] })
    (fun x W => W)
    (fun x W => Below.refl _ _) ?assign ?body ?done
  case assign =>
    intro y x W K hK
    gi_wp2
    exact hK
  case body =>
    intro l k x W o o' hl ho hoc hx hI
    obtain ⟨hxm, hxn, hxt⟩ := sel_new hx
    have hgr : W.grownBy (W.putObj l o) (some l) := ⟨rfl, rfl, rfl, by simp, fun i hi hne => World.putObj_heap_other (fun e => hne (by rw [e]))⟩
    have hI1 : SD w4 g m (pinQ ((sel (unl u nl v) m).take k) u q) (pinD ((sel (unl u nl v) m).take k) u q d) (W.putObj l o) := SD.own w4 g m (fun k => pinQ ((sel (unl u nl v) m).take k) u q) (fun k => pinD ((sel (unl u nl v) m).take k) u q d) k W _ (some l) hI hgr (fun r e => by cases e; exact ⟨hl, o', ho, hoc⟩)
    obtain ⟨W1, hW1⟩ : ∃ W1, W1 = W.putObj l o := ⟨_, rfl⟩
    rw [← hW1] at hI1
    rw [← hW1, hxt]
    obtain ⟨L, hLe⟩ : ∃ L, (sel (unl u nl v) m).take k = L := ⟨_, rfl⟩
    rw [hLe] at hI1 hxn ⊢
    have old : ∀ {b : Nat} {ob : Obj}, w4.heap[b]? = some ob → b ≠ g → W1.heap[b]? = some ob := fun {b ob} hb hne => (hI1.grown.block b (blk_lt hb) (by simp; exact hne)).trans hb
    have i1 : W1.cell? ⟨I, 1, none⟩ = some (.slice (some ⟨g, 0, none⟩) m m) := blk_cell (old ((hB0.block I hIl).trans (unhide HI)) hIg) rfl
    have c3 : W1.cell? ⟨w.heap.size, 0, none⟩ = some (.pointer (some ⟨I, 0, none⟩)) := blk_cell (old b3 (by omega)) rfl
    have c4 : W1.cell? ⟨w.heap.size + 1, 0, none⟩ = some (.slice (some ⟨gv, 0, none⟩) m cv) := blk_cell (old b4 (by omega)) rfl
    have hru : OwnsRun W1 bv (.slice (some ⟨gv, 0, none⟩) m cv) m u := owns_grown (owns_all (unhide HV) hB0) hI1.grown (Or.inr (by simp [Value.ownBlock]; exact fun e => hgv e.symm))
    obtain ⟨y0, y1, y2, y3, y4, y5, y6, y7⟩ := run_eight hru hxm
    have hcl := cl_row hI1.row
    obtain ⟨z0, z1, z2, z3, z4, z5, z6, z7, z8⟩ := hcl.nine hxm
    have hq0 : pinQ L u q x = q x := by unfold pinQ; rw [if_neg (fun h => hxn h.1)]
    rw [hq0] at z0
    have zf := blk_frozen hI1.row
    have HSD := hide hI1
    have HSDG : Hid (W1.heap[g]? = _) := hI1.row
    clear hI hI1 hx hxt hLe hW1 hgr hgv2 b1 b2 b3 b4 hru hcl hq0 ho hB0 old
    obtain ⟨qx, hqx⟩ : ∃ e, q x = e := ⟨_, rfl⟩
    rw [hqx] at z0
    by_cases hq : qx = 0
    · subst hq
      have hsay : ∀ X, Calls Tryz.prog 148 #[.agg #[.int .u8 (u (8 * x) : Nat), .int .u8 (u (8 * x + 1) : Nat), .int .u8 (u (8 * x + 2) : Nat), .int .u8 (u (8 * x + 3) : Nat), .int .u8 (u (8 * x + 4) : Nat), .int .u8 (u (8 * x + 5) : Nat), .int .u8 (u (8 * x + 6) : Nat), .int .u8 (u (8 * x + 7) : Nat)]] X fun r w' => r = .returned (clVal (sayQ fun j => u (8 * x + j)) (sayD fun j => u (8 * x + j))) ∧ Below X.heap.size X w' := fun X => osaying_calls (fun j => u (8 * x + j)) (fun j _ => hu _) X
      have HN : Hid (∀ w2, Below W1.heap.size W1 w2 → ∃ w3, ((Instr.storeAt 160 (.pointer (some ⟨g, x * 9, none⟩)) (.agg #[.int .i64 (sayQ fun j => u (8 * x + j)), .int .u8 (sayD (fun j => u (8 * x + j)) 0 : Nat), .int .u8 (sayD (fun j => u (8 * x + j)) 1 : Nat), .int .u8 (sayD (fun j => u (8 * x + j)) 2 : Nat), .int .u8 (sayD (fun j => u (8 * x + j)) 3 : Nat), .int .u8 (sayD (fun j => u (8 * x + j)) 4 : Nat), .int .u8 (sayD (fun j => u (8 * x + j)) 5 : Nat), .int .u8 (sayD (fun j => u (8 * x + j)) 6 : Nat), .int .u8 (sayD (fun j => u (8 * x + j)) 7 : Nat)])).run Tryz.prog w2 = .ok () w3 ∧ ∀ k, k ≠ g → w3.heap[k]? = w2.heap[k]?) ∧ LetsW (fun i => i = w.heap.size + 1 + 1 ∨ i = w.heap.size + 1 + 1 + 1 ∨ i = gv ∨ (Value.slice sa nl sc).ownBlock = some i) w4.heap.size W1 w3 ∧ SD w4 g m (pinQ (L ++ [x]) u q) (pinD (L ++ [x]) u q d) w3) := fun w2 hb => by
        have h2 := (unhide HSD).kept hb
        have h3 := h2.put (n := x) (x := sayQ fun j => u (8 * x + j)) (e := sayD fun j => u (8 * x + j))
        refine ⟨_, ⟨store_nine w2 g x m _ _ _ _ _ _ _ _ _ _ _ h2.row hxm, fun k hk => ?_⟩, (LetsW.of_below hb).trans (LetsW.of_grown (nine_grown w2 g x _ _ _ _ _ _ _ _ _) (unhide HRG) ⟨_, _, h2.row⟩), by rw [pin_more hqx]; exact h3.row, h3.grown⟩
        rw [Below.heap_setCell _ _ _ _ hk, Below.heap_setCell _ _ _ _ hk, Below.heap_setCell _ _ _ _ hk, Below.heap_setCell _ _ _ _ hk, Below.heap_setCell _ _ _ _ hk, Below.heap_setCell _ _ _ _ hk, Below.heap_setCell _ _ _ _ hk, Below.heap_setCell _ _ _ _ hk, Below.heap_setCell _ _ _ _ hk]
      unfold clVal at hsay
      obtain ⟨sq, hsq⟩ : ∃ e, (sayQ fun j => u (8 * x + j)) = e := ⟨_, rfl⟩
      obtain ⟨s0, hs0⟩ : ∃ e, sayD (fun j => u (8 * x + j)) 0 = e := ⟨_, rfl⟩
      obtain ⟨s1, hs1⟩ : ∃ e, sayD (fun j => u (8 * x + j)) 1 = e := ⟨_, rfl⟩
      obtain ⟨s2, hs2⟩ : ∃ e, sayD (fun j => u (8 * x + j)) 2 = e := ⟨_, rfl⟩
      obtain ⟨s3, hs3⟩ : ∃ e, sayD (fun j => u (8 * x + j)) 3 = e := ⟨_, rfl⟩
      obtain ⟨s4, hs4⟩ : ∃ e, sayD (fun j => u (8 * x + j)) 4 = e := ⟨_, rfl⟩
      obtain ⟨s5, hs5⟩ : ∃ e, sayD (fun j => u (8 * x + j)) 5 = e := ⟨_, rfl⟩
      obtain ⟨s6, hs6⟩ : ∃ e, sayD (fun j => u (8 * x + j)) 6 = e := ⟨_, rfl⟩
      obtain ⟨s7, hs7⟩ : ∃ e, sayD (fun j => u (8 * x + j)) 7 = e := ⟨_, rfl⟩
      rw [hsq, hs0, hs1, hs2, hs3, hs4, hs5, hs6, hs7] at hsay HN
      obtain ⟨d0, e0⟩ : ∃ e, u (8 * x) = e := ⟨_, rfl⟩
      obtain ⟨d1, e1⟩ : ∃ e, u (8 * x + 1) = e := ⟨_, rfl⟩
      obtain ⟨d2, e2⟩ : ∃ e, u (8 * x + 2) = e := ⟨_, rfl⟩
      obtain ⟨d3, e3⟩ : ∃ e, u (8 * x + 3) = e := ⟨_, rfl⟩
      obtain ⟨d4, e4⟩ : ∃ e, u (8 * x + 4) = e := ⟨_, rfl⟩
      obtain ⟨d5, e5⟩ : ∃ e, u (8 * x + 5) = e := ⟨_, rfl⟩
      obtain ⟨d6, e6⟩ : ∃ e, u (8 * x + 6) = e := ⟨_, rfl⟩
      obtain ⟨d7, e7⟩ : ∃ e, u (8 * x + 7) = e := ⟨_, rfl⟩
      simp only [e0, e1, e2, e3, e4, e5, e6, e7] at hsay
      rw [e0] at y0; rw [e1] at y1; rw [e2] at y2; rw [e3] at y3; rw [e4] at y4; rw [e5] at y5; rw [e6] at y6; rw [e7] at y7
      have HSAY := hide hsay
      have hIl1 : I < W1.heap.size := cell_lt i1
      have h3l : w.heap.size < W1.heap.size := cell_lt c3
      clear hsay hsq hs0 hs1 hs2 hs3 hs4 hs5 hs6 hs7 e0 e1 e2 e3 e4 e5 e6 e7 hqx
      gi_wp2
      have hno : ¬ LetsOut (Exit.inBlock 1 (goesOnW (fun i => i = w.heap.size + 1 + 1 ∨ i = w.heap.size + 1 + 1 + 1 ∨ i = gv ∨ (Value.slice sa nl sc).ownBlock = some i) w4.heap.size (SD w4 g m (pinQ (L ++ [x]) u q) (pinD (L ++ [x]) u q d)) W1)) := fun ⟨_, _, h⟩ => h
      have n3 : w.heap.size ≠ g := by omega
      have n4 : w.heap.size + 1 ≠ g := by omega
      have hgvl : gv < W1.heap.size := cell_lt y0
      have hS0 : ∀ k, k ≠ g → k < W1.heap.size → W1.drew.heap[k]? = W1.heap[k]? := fun k _ _ => rfl
      refine region_held (N := 12) (S := fun X => ∀ k, k ≠ g → k < W1.heap.size → X.heap[k]? = W1.heap[k]?) (by kernel_rfl) (plain_ops (by kernel_rfl)) (by exact hno) rfl ?_
      refine wpAnyH_take (i := 0) (v := (.pointer (some ⟨I, 0, none⟩))) rfl (by kernel_rfl) (by kernel_rfl) (by kernel_rfl) (fun _ _ _ h => h) (Or.inl ⟨by rfl, fun X hX => ?_⟩) hS0 ?_
      · have k := (World.cell?_of_block (a := ⟨w.heap.size, 0, none⟩) (hX _ n3 h3l)).trans c3; go_simp
      refine wpAnyH_take (i := 1) (v := (.pointer (some ⟨I, 0, none⟩))) rfl (by kernel_rfl) (by kernel_rfl) (by kernel_rfl) (fun _ _ _ h => h) (Or.inl ⟨by rfl, fun X hX => ?_⟩) hS0 ?_
      · go_simp
      refine wpAnyH_take (i := 2) (v := (.pointer (some ⟨I, 1, none⟩))) rfl (by kernel_rfl) (by kernel_rfl) (by kernel_rfl) (fun _ _ _ h => h) (Or.inl ⟨by rfl, fun X hX => ?_⟩) hS0 ?_
      · go_simp
      refine wpAnyH_take (i := 3) (v := (.slice (some ⟨g, 0, none⟩) m m)) rfl (by kernel_rfl) (by kernel_rfl) (by kernel_rfl) (fun _ _ _ h => h) (Or.inl ⟨by rfl, fun X hX => ?_⟩) hS0 ?_
      · have k := (World.cell?_of_block (a := ⟨I, 1, none⟩) (hX _ hIg hIl1)).trans i1; go_simp
      refine wpAnyH_take (i := 4) (v := (.int .i64 (x : Nat))) rfl (by kernel_rfl) (by kernel_rfl) (by kernel_rfl) (fun _ _ _ h => h) (Or.inl ⟨by rfl, fun X hX => ?_⟩) hS0 ?_
      · go_simp
      refine wpAnyH_take (i := 5) (v := (.slice (some ⟨gv, 0, none⟩) m cv)) rfl (by kernel_rfl) (by kernel_rfl) (by kernel_rfl) (fun _ _ _ h => h) (Or.inl ⟨by rfl, fun X hX => ?_⟩) hS0 ?_
      · have k := (World.cell?_of_block (a := ⟨w.heap.size + 1, 0, none⟩) (hX _ n4 (cell_lt c4))).trans c4; go_simp
      refine wpAnyH_take (i := 6) (v := (.int .i64 (x : Nat))) rfl (by kernel_rfl) (by kernel_rfl) (by kernel_rfl) (fun _ _ _ h => h) (Or.inl ⟨by rfl, fun X hX => ?_⟩) hS0 ?_
      · go_simp
      refine wpAnyH_take (i := 7) (v := (.pointer (some ⟨gv, x * 8, none⟩))) rfl (by kernel_rfl) (by kernel_rfl) (by kernel_rfl) (fun _ _ _ h => h) (Or.inl ⟨by rfl, fun X hX => ?_⟩) hS0 ?_
      · go_simp
      refine wpAnyH_take (i := 8) (v := (.agg #[.int .u8 (d0 : Nat), .int .u8 (d1 : Nat), .int .u8 (d2 : Nat), .int .u8 (d3 : Nat), .int .u8 (d4 : Nat), .int .u8 (d5 : Nat), .int .u8 (d6 : Nat), .int .u8 (d7 : Nat)])) rfl (by kernel_rfl) (by kernel_rfl) (by kernel_rfl) (fun _ _ _ h => h) (Or.inl ⟨by rfl, fun X hX => ?_⟩) hS0 ?_
      · have k0 := (World.cell?_of_block (a := ⟨gv, x * 8, none⟩) (hX _ (fun e => hgv e.symm) hgvl)).trans y0; have k1 := (World.cell?_of_block (a := ⟨gv, x * 8 + 1, none⟩) (hX _ (fun e => hgv e.symm) hgvl)).trans y1; have k2 := (World.cell?_of_block (a := ⟨gv, x * 8 + 2, none⟩) (hX _ (fun e => hgv e.symm) hgvl)).trans y2; have k3 := (World.cell?_of_block (a := ⟨gv, x * 8 + 3, none⟩) (hX _ (fun e => hgv e.symm) hgvl)).trans y3; have k4 := (World.cell?_of_block (a := ⟨gv, x * 8 + 4, none⟩) (hX _ (fun e => hgv e.symm) hgvl)).trans y4; have k5 := (World.cell?_of_block (a := ⟨gv, x * 8 + 5, none⟩) (hX _ (fun e => hgv e.symm) hgvl)).trans y5; have k6 := (World.cell?_of_block (a := ⟨gv, x * 8 + 6, none⟩) (hX _ (fun e => hgv e.symm) hgvl)).trans y6; have k7 := (World.cell?_of_block (a := ⟨gv, x * 8 + 7, none⟩) (hX _ (fun e => hgv e.symm) hgvl)).trans y7; go_simp
      refine held_call (i := 9) (f := 148) (args := #[.agg #[.int .u8 (d0 : Nat), .int .u8 (d1 : Nat), .int .u8 (d2 : Nat), .int .u8 (d3 : Nat), .int .u8 (d4 : Nat), .int .u8 (d5 : Nat), .int .u8 (d6 : Nat), .int .u8 (d7 : Nat)]]) (by kernel_rfl) rfl rfl (by go_simp) (unhide HSAY _) fun r w2 hr2 => ?_
      obtain ⟨rfl, hb2⟩ := hr2
      have hb3 : Below W1.heap.size W1 w2 := ((Below.refl _ _).drew).trans hb2
      have hS2 : ∀ k, k ≠ g → k < W1.heap.size → w2.heap[k]? = W1.heap[k]? := fun k _ hk => hb3.block k hk
      refine ⟨_, rfl, hS2, ?_⟩
      refine wpAnyH_take (i := 10) (v := (.pointer (some ⟨g, x * 9, none⟩))) rfl (by kernel_rfl) (by kernel_rfl) (by kernel_rfl) (fun _ _ _ h => h) (Or.inl ⟨by rfl, fun X hX => ?_⟩) hS2 ?_
      · go_simp
      obtain ⟨w3, ⟨hst, hk3⟩, hl3, hs3⟩ := unhide HN w2 hb3
      refine held_store (i := 11) (w' := w3) (by kernel_rfl) rfl rfl rfl ?_ ?_ hst (fun k hk hlt => (hk3 k hk).trans (hS2 k hk hlt)) ?_
      · go_simp
      · go_simp
      · refine wpAnyH_done (by kernel_rfl) ?_ _
        exact ⟨hl3, hs3⟩
    · have hqe : (qx == 0) = false := beq_eq_false_iff_ne.2 hq
      have HN : Hid (SD w4 g m (pinQ (L ++ [x]) u q) (pinD (L ++ [x]) u q d) W1) := ⟨by rw [pin_skip (by rw [hqx]; exact hq)]; exact (unhide HSD).row, (unhide HSD).grown⟩
      clear hqx hq
      gi_wp2
      exact ⟨LetsW.refl _ _ _, unhide HN⟩
  case done =>
    intro D W hD hI hK
    rw [List.take_length] at hI
    have hi4 : W.heap[I]? = _ := (hI.grown.block I (by omega) (by simp; exact hIg)).trans ((hB0.block I hIl).trans (unhide HI))
    have HFIN : Hid (SD w g m (pinQ (sel (unl u nl v) m) u q) (pinD (sel (unl u nl v) m) u q d) W) := ⟨hI.row, ⟨hI.grown.os.trans hB0.os, hI.grown.tape.trans hB0.tape, hI.grown.output.trans hB0.output, Nat.le_trans hB0.size hI.grown.size, fun i hi hne => (hI.grown.block i (by omega) hne).trans (hB0.block i hi)⟩⟩
    clear hI hi4
    gi_wp2
    refine ⟨by simp, .inl ⟨_, _, rfl, run_takeDeferred hK, ?_⟩⟩
    have f := unhide HFIN
    refine ⟨_, results_none rfl _ _ _, ⟨_, rfl⟩, (World.putObj_heap_other (show g ≠ D by omega)).trans f.row, ⟨f.grown.os, f.grown.tape, f.grown.output, by simpa using f.grown.size, fun i hi hne => (World.putObj_heap_other (show i ≠ D by omega)).trans (f.grown.block i hi hne)⟩⟩

end Go.Proofs.YtomiepknmmpflaaGreatDoor

namespace Go.Proofs.YtomiepknmmpflaaGreatDoor
open Go.RowKit Go.Joins

theorem put_since {w w1 w2 : World} {b off : Nat} {cs : Array Value} {t : TypeId} {v v' : Value} {l : Ov.Files} (h : Below w.heap.size w w1) (hp : PutLeft w1 b off cs t v l v' w2) : PutLeft w b off cs t v l v' w2 :=
  ⟨hp.blk, hp.own, hp.ne, (OFr.of_below h _ _).trans hp.fr, hp.row.imp id fun e k hk => Nat.le_trans h.size (e k hk)⟩

set_option maxRecDepth 100000 in
set_option maxHeartbeats 4000000 in
theorem orebase_none (l : Ov.Files) (x bk : ByteArray) (b B : Nat) (r : Option Nat) (room : Nat) (s0 s1 s2 s3 : Addr) (v : Value) (w : World) (hC : ChainAt w b B r room l s0 s1 s2 s3) (hblk : w.heap[b]? = some (.cells #[.int .i32 1, .int .u32 0, .int .i64 room, v] 77 (0, 0))) (hown : OwnsRows w 0 v l) (hso : Ov.soundF l x = 0) (hb0 : bk.size = 0) :
    Calls Tryz.prog 55 #[.pointer (some ⟨b, 0, none⟩), .string x, .string bk] w fun e w' => e = .returned (.int .i64 (rebaseF room l x bk).1) ∧ ((rebaseF room l x bk).2 = l ∧ Below w.heap.size w w' ∨ ∃ v', PutLeft w b 3 #[.int .i32 1, .int .u32 0, .int .i64 room, v] 77 v (rebaseF room l x bk).2 v' w') := by
  obtain ⟨hp, hc⟩ := sound_here hso
  have hd0 : (Ov.downOf l x).2.1 = 0 := by unfold Ov.soundF at hso; rwa [if_pos hp] at hso
  have HCA := hide (oopenChain_yes x _ b B r room l s0 s1 s2 s3 hC hp hd0)
  have hi := hC.li
  have hm := hc.many_le
  have him := hc.image
  have hx1000 : x.size ≤ 1000 := Nat.le_trans (hi.name_size hp) (by omega)
  have hbk8 : bk.size ≤ 8 := by omega
  have hov : overN l bk = [] := by unfold overN; rw [if_pos hb0]
  have hom : overM l bk = 0 := by unfold overM; rw [if_pos hb0]
  have hbe := isE_of hb0
  obtain ⟨s, hse⟩ : ∃ s, fOf l x = s := ⟨_, rfl⟩
  rw [show Ov.fileAt l (Ov.place l x) = s from hse] at him
  rw [show fileOf l x = s from hse] at hm
  obtain ⟨m, hme⟩ : ∃ m, Ov.many s = m := ⟨_, rfl⟩
  rw [hme] at hm
  obtain ⟨hm1, hm30⟩ := hm
  obtain ⟨ns, hns⟩ : ∃ ns, (Ov.downOf l x).1 = ns := ⟨_, rfl⟩
  obtain ⟨K, hK⟩ : ∃ K, allTo m (kOld s) (rebK l ns) (rebC l s ns (overN l bk)) = K := ⟨_, rfl⟩
  obtain ⟨Bs, hBs⟩ : ∃ Bs, allTo m (bOld s) (fun i => viewF l ns (8 * i) 8) (rebD l s ns (overN l bk)) = Bs := ⟨_, rfl⟩
  have HF : Hid (rebaseF room l x bk = Ov.putF room l (Ov.withF l x (encode bk K Bs))) := by
    unfold rebaseF
    rw [if_neg (by omega), if_neg (fun q => q.1 hb0), if_neg (by rw [hov]; simp [Ov.metB]), show fileOf l x = s from hse, hme, hns, hK, hBs]
    exact rfl
  have HSY := hide (says_rebase (l := l) (nx := ns) (bk := bk) him hme (fun q => absurd hb0 q))
  rw [hK, hBs, hom] at HSY
  have hes : (encode bk K Bs).size ≤ 1000 := by
    have hKl : K.length = m := by rw [← hK, allTo_length]
    have := encode_size bk K Bs (fun j hj => by
      rw [← hBs, allTo_getD (by omega)]
      split
      · rw [viewF_size]; omega
      · exact bOld_size j)
    omega
  have HOPE := hide (fun (L : Ims) (cb : Nat) (r : Option Nat) (W : World) => opened (L := L) (cb := cb) (r := r) (w := W) hso)
  obtain ⟨b0, hbk⟩ : ∃ b0, Ov.backing s = b0 := ⟨_, rfl⟩
  obtain ⟨t, ht⟩ : ∃ t, Ov.lost s = t := ⟨_, rfl⟩
  have HRS : Hid (rowTo s m = clRow (qOf s) (dOf s) m) := by have := rowTo_row him; rw [hme] at this; exact this
  have hbl := blk_lt hblk
  have HB := hide hblk
  have HO := hide hown
  have HI := hide hi
  have HC := hide hC
  have HPL := hide hp
  have HSE := hide hse
  have HME := hide hme
  have HNS := hide hns
  have HBK := hide hbk
  have HLT := hide ht
  have HOV := hide hov
  clear hC hblk hown hso hp hc hd0 hi him hse hme hns hK hBs hbk ht hov hom hb0
  go_enter Tryz.func55, Tryz.ntmps55
  go_wp2_with (first
    | (go_at_call 53; refine (okeep_put l v x (encode bk K Bs) b room _ (unhide HI) (unhide HPL) (((unhide HB11).block b hbl).trans (unhide HB)) (owns_all (unhide HO) (unhide HB11)) hx1000 hes).mono ?_; rintro e w12 ⟨he, hk12⟩; rw [← unhide HF] at he hk12; subst he; have HK12 := hide hk12; clear hk12)
    | (go_at_call 54; refine (ofile_says (unhide HSY) (blk_set_other (unhide HSD).row (unhide HNE) _) bk t hm1 hm30 hbk8).mono ?_; rintro e w11 ⟨rfl, hb11⟩; have HB11 : Hid (Below w.heap.size w w11) := ((unhide HB9).setCell (p := ⟨w6.heap.size, 0, none⟩) (unhide HM0) _).trans (hb11.mono (by simpa using (unhide HB9).size)); clear hb11)
    | (go_at_call 97; refine (opin_calls b0 t w6.heap.size gp m gv c7 0 0 0 (qOf s) (dOf s) (Ov.atTo l ns) (Ov.atTo l (overN l bk)) _ _ (unhide HM8) (unhide HGP8) (unhide HV8) (unhide HU8) hm30 (by omega) (fun i => Ov.atTo_lt _ _ _) (fun i => Ov.atTo_lt _ _ _)).mono ?_; rintro e w9 ⟨⟨u9, rfl⟩, hsd⟩; have HSD := hide hsd; have HB9 : Hid (Below w.heap.size w w9) := below_grown_at (unhide HB8) hsd.grown (unhide HGW) (unhide HB8).size; have HM9 : Hid (w9.heap[w6.heap.size]? = some (.cells #[.string b0, .slice (some ⟨gp, 0, none⟩) m m, .int .i64 t] 90 (0, 0))) := (hsd.grown.block _ (blk_lt (unhide HM8)) (by simp; exact fun e => unhide HNE e.symm)).trans (unhide HM8); have k0 := blk_cell (i := 0) (unhide HM9) rfl; have kf := blk_frozen (unhide HM9); have k1 := blk_cell (i := 1) (unhide HM9) rfl; have k2 := blk_cell (i := 2) (unhide HM9) rfl; clear hsd)
    | (go_at_call 70; refine (oviewOf_none w3.heap.size _ (unhide HCVB7)).mono ?_; rintro e w8 ⟨rfl, hb8⟩; have HB8 := hide ((unhide HB7).trans (hb8.mono (unhide HB7).size)); have HM8 := hide ((hb8.block _ (blk_lt (unhide HM7))).trans (unhide HM7)); have HGP8 := hide ((hb8.block _ (blk_lt (unhide HGP7))).trans (unhide HGP7)); have HV8 := hide (owns_all (unhide HV7) hb8); have HU8 : Hid (OwnsRun w8 0 (.slice none 0 0) 0 (Ov.atTo l (overN l bk))) := World.ownsRow_nil _ _ _ _; clear hb8)
    | (go_at_call 70; refine (oviewOf_calls l L cb r2 _ (unhide HCH6) hL1 hL8).mono ?_; rintro e w7 ⟨a7, c7, he, hb7, ho7⟩; rw [unhide HSN] at he ho7; rw [unhide HSV] at ho7; subst he; obtain ⟨gv, cc, hva⟩ := ownsRow_form ho7 (by omega); obtain ⟨rfl, rfl⟩ : a7 = some ⟨gv, 0, none⟩ ∧ c7 = cc := (by simpa using hva); have HB7 := hide ((unhide HB6).trans (hb7.mono (unhide HB6).size)); have HM7 := hide ((hb7.block _ (blk_lt (unhide HM6))).trans (unhide HM6)); have HGP7 := hide ((hb7.block _ (blk_lt (unhide HGP6))).trans (unhide HGP6)); have HV7 := hide ho7; have HCVB7 : Hid (w7.cell? ⟨w3.heap.size, 0, none⟩ = some (.slice none 0 0)) := (hb7.cell (p := ⟨w3.heap.size, 0, none⟩) (cell_lt (unhide HCVB6))).trans (unhide HCVB6); clear hb7 ho7 hva)
    | (go_at_call 50; refine (oIget_calls L vv x cb 0 0 _ hL8 (unhide HOW5) (unhide HCV5) (unhide HPLL) (by omega)).mono ?_; rintro e w6 ⟨he, hb6⟩; rw [unhide HIM] at he; subst he; have HB6 : Hid (Below w.heap.size w (w6.alloc (.cells #[.string b0, .slice (some ⟨gp, 0, none⟩) m m, .int .i64 t] 90))) := ((unhide HB5).trans (hb6.mono (unhide HB5).size)).alloc (Nat.le_trans (unhide HB5).size hb6.size) _; have HCH6 := hide (((unhide HCH5).kept hb6).kept (below_alloc1 w6 (.cells #[.string b0, .slice (some ⟨gp, 0, none⟩) m m, .int .i64 t] 90))); have HM6 : Hid ((w6.alloc (.cells #[.string b0, .slice (some ⟨gp, 0, none⟩) m m, .int .i64 t] 90)).heap[w6.heap.size]? = some (.cells #[.string b0, .slice (some ⟨gp, 0, none⟩) m m, .int .i64 t] 90 (0, 0))) := blk_new w6 _; have HGP6 : Hid ((w6.alloc (.cells #[.string b0, .slice (some ⟨gp, 0, none⟩) m m, .int .i64 t] 90)).heap[gp]? = some (.cells (clRow (qOf s) (dOf s) m).toArray 160 (0, 0))) := blk_alloc ((hb6.block gp (blk_lt (unhide HGP5))).trans (unhide HGP5)) _; have HNE : Hid (gp ≠ w6.heap.size) := Nat.ne_of_lt (Nat.lt_of_lt_of_le (blk_lt (unhide HGP5)) hb6.size); have HM0 : Hid (w.heap.size ≤ w6.heap.size) := Nat.le_trans (unhide HB5).size hb6.size; have HCVB6 : Hid ((w6.alloc (.cells #[.string b0, .slice (some ⟨gp, 0, none⟩) m m, .int .i64 t] 90)).cell? ⟨w3.heap.size, 0, none⟩ = some (.slice none 0 0)) := (World.cell?_alloc_past _ _ _ (Nat.lt_of_lt_of_le (cell_lt (unhide HCVB5)) hb6.size)).trans ((hb6.cell (p := ⟨w3.heap.size, 0, none⟩) (cell_lt (unhide HCVB5))).trans (unhide HCVB5)); clear hb6)
    | (go_at_call 96; refine (oIhas_calls [] (.slice none 0 0) x w3.heap.size 0 0 _ (by simp) (unhide HOWB) (unhide HCVB) (cell_lt (unhide HCVB))).mono ?_; rintro e w5 ⟨he, hb5⟩; rw [unhide HHN] at he; subst he; have HB5 := hide ((unhide HB4).trans (hb5.mono (unhide HB4).size)); have HCH5 := hide ((unhide HCH4).kept hb5); have HOW5 := hide (owns_all (unhide HOW4) hb5); have HCV5 : Hid (w5.cell? ⟨cb, 0, none⟩ = some vv) := (hb5.cell (p := ⟨cb, 0, none⟩) (cell_lt (unhide HCV4))).trans (unhide HCV4); have HGP5 := hide ((hb5.block gp (blk_lt (unhide HGP4))).trans (unhide HGP4)); have HCVB5 : Hid (w5.cell? ⟨w3.heap.size, 0, none⟩ = some (.slice none 0 0)) := (hb5.cell (p := ⟨w3.heap.size, 0, none⟩) (cell_lt (unhide HCVB))).trans (unhide HCVB); clear hb5)
    | (go_at_call 72; refine (oopenBacking_none bk b _ hbe).mono ?_; rintro e w4 ⟨rfl, hw4⟩; have hb4 : Below w3.heap.size w3 w4 := (by rw [← hw4]; exact below_alloc1 w3 _); have HCVB : Hid (w4.cell? ⟨w3.heap.size, 0, none⟩ = some (.slice none 0 0)) := (by rw [← hw4]; exact blk_cell (blk_new w3 _) rfl); have HOWB : Hid (OwnsIms w4 0 (.slice none 0 0) []) := World.ownsRow_nil _ _ _ _; have HHN : Hid (Ov.has (fl []) x = false) := has_names (L := []) rfl x; have HCH4 := hide ((unhide HCH3).kept hb4); have HOW4 := hide (owns_all (unhide HOW3) hb4); have HCV4 : Hid (w4.cell? ⟨cb, 0, none⟩ = some vv) := (hb4.cell (p := ⟨cb, 0, none⟩) (cell_lt (unhide HCV3))).trans (unhide HCV3); have HGP4 := hide ((hb4.block gp (blk_lt (unhide HGP3))).trans (unhide HGP3)); have HB4 := hide ((unhide HB3).trans (hb4.mono (unhide HB3).size)); clear hb4 hw4)
    | (go_at_call 45; refine (unhide HCA).mono ?_; rintro e w3 ⟨hb3, cb, r2, L, rfl, hcb, hch, hnL, hL8, _⟩; obtain ⟨hL1, hpl, hsN, hsV, gp, hcg, himp, hgp⟩ := unhide HOPE L cb r2 w3 hch hnL; rw [unhide HSE] at hsN himp hgp; rw [unhide HME] at hsN hgp; rw [unhide HRS] at hgp; rw [unhide HNS] at hsV; obtain ⟨⟨vv, hv1, hv2, _⟩, _⟩ := id hch; have HB3 := hide hb3; have HC3 := hide ((unhide HC).kept hb3); have HCH3 := hide hch; have HOW3 := hide hv2; have HCV3 : Hid (w3.cell? ⟨cb, 0, none⟩ = some vv) := blk_cell hv1 rfl; have HPLL := hide hpl; have HIM : Hid (imVal (imAt L 0) = .agg #[.string b0, .slice (some ⟨gp, 0, none⟩) m m, .int .i64 t]) := (by rw [himp]; unfold imVal imOf; dsimp only; rw [unhide HME, unhide HBK, unhide HLT]; exact rfl); have HGP3 : Hid (w3.heap[gp]? = some (.cells (clRow (qOf s) (dOf s) m).toArray 160 (0, 0))) := hgp; have HSN := hide hsN; have HSV := hide hsV; have HGW : Hid (w.heap.size ≤ gp) := Nat.le_trans hcb hcg; clear hb3 hcb hch hnL hpl hsN hsV himp hgp hv1 hv2 hcg))
  go_ret
  exact ⟨rfl, (unhide HK12).elim (fun h => Or.inl ⟨h.1, (unhide HB11).trans (h.2.mono (unhide HB11).size)⟩) (fun ⟨v', h⟩ => Or.inr ⟨v', put_since (unhide HB11) h⟩)⟩

set_option maxRecDepth 100000 in
set_option maxHeartbeats 4000000 in
theorem orebase_over (l : Ov.Files) (x bk : ByteArray) (b B : Nat) (r : Option Nat) (room : Nat) (s0 s1 s2 s3 : Addr) (v : Value) (w : World) (hC : ChainAt w b B r room l s0 s1 s2 s3) (hblk : w.heap[b]? = some (.cells #[.int .i32 1, .int .u32 0, .int .i64 room, v] 77 (0, 0))) (hown : OwnsRows w 0 v l) (hso : Ov.soundF l x = 0) (hbn : bk.size ≠ 0) (hsb : Ov.soundF l bk = 0) (hmet : Ov.metB (overN l bk) x = false) :
    Calls Tryz.prog 55 #[.pointer (some ⟨b, 0, none⟩), .string x, .string bk] w fun e w' => e = .returned (.int .i64 (rebaseF room l x bk).1) ∧ ((rebaseF room l x bk).2 = l ∧ Below w.heap.size w w' ∨ ∃ v', PutLeft w b 3 #[.int .i32 1, .int .u32 0, .int .i64 room, v] 77 v (rebaseF room l x bk).2 v' w') := by
  obtain ⟨hp, hc⟩ := sound_here hso
  have hd0 : (Ov.downOf l x).2.1 = 0 := by unfold Ov.soundF at hso; rwa [if_pos hp] at hso
  have HCA := hide (oopenChain_yes x _ b B r room l s0 s1 s2 s3 hC hp hd0)
  have hi := hC.li
  have hm := hc.many_le
  have him := hc.image
  have hx1000 : x.size ≤ 1000 := Nat.le_trans (hi.name_size hp) (by omega)
  obtain ⟨hpb, hcb⟩ := sound_here hsb
  have hd1 : (Ov.downOf l bk).2.1 = 0 := by unfold Ov.soundF at hsb; rwa [if_pos hpb] at hsb
  have hbk8 : bk.size ≤ 8 := hi.name_size hpb
  have hnl30 : Ov.many (fOf l bk) ≤ 30 := hcb.many_le.2
  have hov : overN l bk = (Ov.downOf l bk).1 := by unfold overN; rw [if_neg hbn]
  have hom : overM l bk = Ov.many (fOf l bk) := by unfold overM; rw [if_neg hbn]
  have hbe := nonempty_of hbn
  have HPB := hide hpb
  have HD1 := hide hd1
  have HMT : Hid (Ov.metB (Ov.downOf l bk).1 x = false) := by rw [← hov]; exact hmet
  have HOPB := hide (fun (L : Ims) (cb : Nat) (r : Option Nat) (W : World) => opened (L := L) (cb := cb) (r := r) (w := W) hsb)
  obtain ⟨s, hse⟩ : ∃ s, fOf l x = s := ⟨_, rfl⟩
  rw [show Ov.fileAt l (Ov.place l x) = s from hse] at him
  rw [show fileOf l x = s from hse] at hm
  obtain ⟨m, hme⟩ : ∃ m, Ov.many s = m := ⟨_, rfl⟩
  rw [hme] at hm
  obtain ⟨hm1, hm30⟩ := hm
  obtain ⟨ns, hns⟩ : ∃ ns, (Ov.downOf l x).1 = ns := ⟨_, rfl⟩
  obtain ⟨K, hK⟩ : ∃ K, allTo m (kOld s) (rebK l ns) (rebC l s ns (overN l bk)) = K := ⟨_, rfl⟩
  obtain ⟨Bs, hBs⟩ : ∃ Bs, allTo m (bOld s) (fun i => viewF l ns (8 * i) 8) (rebD l s ns (overN l bk)) = Bs := ⟨_, rfl⟩
  have HF : Hid (rebaseF room l x bk = Ov.putF room l (Ov.withF l x (encode bk K Bs))) := by
    unfold rebaseF
    rw [if_neg (by omega), if_neg (fun q => q.2 hsb), if_neg (by rw [hmet]; simp), show fileOf l x = s from hse, hme, hns, hK, hBs]
    exact rfl
  have HSY := hide (says_rebase (l := l) (nx := ns) (bk := bk) him hme (fun _ => hcb))
  rw [hK, hBs, hom] at HSY
  have hes : (encode bk K Bs).size ≤ 1000 := by
    have hKl : K.length = m := by rw [← hK, allTo_length]
    have := encode_size bk K Bs (fun j hj => by
      rw [← hBs, allTo_getD (by omega)]
      split
      · rw [viewF_size]; omega
      · exact bOld_size j)
    omega
  have HOPE := hide (fun (L : Ims) (cb : Nat) (r : Option Nat) (W : World) => opened (L := L) (cb := cb) (r := r) (w := W) hso)
  obtain ⟨b0, hbk⟩ : ∃ b0, Ov.backing s = b0 := ⟨_, rfl⟩
  obtain ⟨t, ht⟩ : ∃ t, Ov.lost s = t := ⟨_, rfl⟩
  have HRS : Hid (rowTo s m = clRow (qOf s) (dOf s) m) := by have := rowTo_row him; rw [hme] at this; exact this
  have hbl := blk_lt hblk
  have HB := hide hblk
  have HO := hide hown
  have HI := hide hi
  have HC := hide hC
  have HPL := hide hp
  have HSE := hide hse
  have HME := hide hme
  have HNS := hide hns
  have HBK := hide hbk
  have HLT := hide ht
  have HOV := hide hov
  clear hC hblk hown hso hp hc hd0 hi him hse hme hns hK hBs hbk ht hov hom hbn hsb hmet hpb hcb hd1
  go_enter Tryz.func55, Tryz.ntmps55
  go_wp2_with (first
    | (go_at_call 53; refine (okeep_put l v x (encode bk K Bs) b room _ (unhide HI) (unhide HPL) (((unhide HB11).block b hbl).trans (unhide HB)) (owns_all (unhide HO) (unhide HB11)) hx1000 hes).mono ?_; rintro e w12 ⟨he, hk12⟩; rw [← unhide HF] at he hk12; subst he; have HK12 := hide hk12; clear hk12)
    | (go_at_call 54; refine (ofile_says (unhide HSY) (blk_set_other (unhide HSD).row (unhide HNE) _) bk t hm1 hm30 hbk8).mono ?_; rintro e w11 ⟨rfl, hb11⟩; have HB11 : Hid (Below w.heap.size w w11) := ((unhide HB9).setCell (p := ⟨w6.heap.size, 0, none⟩) (unhide HM0) _).trans (hb11.mono (by simpa using (unhide HB9).size)); clear hb11)
    | (go_at_call 97; refine (opin_calls b0 t w6.heap.size gp m gv c7 (Ov.many (fOf l bk)) 0 0 (qOf s) (dOf s) (Ov.atTo l ns) (Ov.atTo l (overN l bk)) _ _ (unhide HM8) (unhide HGP8) (unhide HV8) (unhide HU8) hm30 hnl30 (fun i => Ov.atTo_lt _ _ _) (fun i => Ov.atTo_lt _ _ _)).mono ?_; rintro e w9 ⟨⟨u9, rfl⟩, hsd⟩; have HSD := hide hsd; have HB9 : Hid (Below w.heap.size w w9) := below_grown_at (unhide HB8) hsd.grown (unhide HGW) (unhide HB8).size; have HM9 : Hid (w9.heap[w6.heap.size]? = some (.cells #[.string b0, .slice (some ⟨gp, 0, none⟩) m m, .int .i64 t] 90 (0, 0))) := (hsd.grown.block _ (blk_lt (unhide HM8)) (by simp; exact fun e => unhide HNE e.symm)).trans (unhide HM8); have k0 := blk_cell (i := 0) (unhide HM9) rfl; have kf := blk_frozen (unhide HM9); have k1 := blk_cell (i := 1) (unhide HM9) rfl; have k2 := blk_cell (i := 2) (unhide HM9) rfl; clear hsd)
    | (go_at_call 70; refine (oviewOf_calls l L2 cb2 r3 _ (unhide HCHB7) hLb1 hL2).mono ?_; rintro e w8 ⟨a8, c8, he, hb8, ho8⟩; rw [unhide HSNB] at he ho8; rw [unhide HSVB] at ho8; subst he; have HB8 := hide ((unhide HB7).trans (hb8.mono (unhide HB7).size)); have HM8 := hide ((hb8.block _ (blk_lt (unhide HM7))).trans (unhide HM7)); have HGP8 := hide ((hb8.block _ (blk_lt (unhide HGP7))).trans (unhide HGP7)); have HV8 := hide (owns_all (unhide HV7) hb8); have HU8 : Hid (OwnsRun w8 0 (.slice a8 (Ov.many (fOf l bk)) c8) (Ov.many (fOf l bk)) (Ov.atTo l (overN l bk))) := (by rw [unhide HOV]; exact ho8); clear hb8 ho8)
    | (go_at_call 70; refine (oviewOf_calls l L cb r2 _ (unhide HCH6) hL1 hL8).mono ?_; rintro e w7 ⟨a7, c7, he, hb7, ho7⟩; rw [unhide HSN] at he ho7; rw [unhide HSV] at ho7; subst he; obtain ⟨gv, cc, hva⟩ := ownsRow_form ho7 (by omega); obtain ⟨rfl, rfl⟩ : a7 = some ⟨gv, 0, none⟩ ∧ c7 = cc := (by simpa using hva); have HB7 := hide ((unhide HB6).trans (hb7.mono (unhide HB6).size)); have HM7 := hide ((hb7.block _ (blk_lt (unhide HM6))).trans (unhide HM6)); have HGP7 := hide ((hb7.block _ (blk_lt (unhide HGP6))).trans (unhide HGP6)); have HV7 := hide ho7; have HCHB7 := hide ((unhide HCHB6).kept hb7); clear hb7 ho7 hva)
    | (go_at_call 50; refine (oIget_calls L vv x cb 0 0 _ hL8 (unhide HOW5) (unhide HCV5) (unhide HPLL) (by omega)).mono ?_; rintro e w6 ⟨he, hb6⟩; rw [unhide HIM] at he; subst he; have HB6 : Hid (Below w.heap.size w (w6.alloc (.cells #[.string b0, .slice (some ⟨gp, 0, none⟩) m m, .int .i64 t] 90))) := ((unhide HB5).trans (hb6.mono (unhide HB5).size)).alloc (Nat.le_trans (unhide HB5).size hb6.size) _; have HCH6 := hide (((unhide HCH5).kept hb6).kept (below_alloc1 w6 (.cells #[.string b0, .slice (some ⟨gp, 0, none⟩) m m, .int .i64 t] 90))); have HM6 : Hid ((w6.alloc (.cells #[.string b0, .slice (some ⟨gp, 0, none⟩) m m, .int .i64 t] 90)).heap[w6.heap.size]? = some (.cells #[.string b0, .slice (some ⟨gp, 0, none⟩) m m, .int .i64 t] 90 (0, 0))) := blk_new w6 _; have HGP6 : Hid ((w6.alloc (.cells #[.string b0, .slice (some ⟨gp, 0, none⟩) m m, .int .i64 t] 90)).heap[gp]? = some (.cells (clRow (qOf s) (dOf s) m).toArray 160 (0, 0))) := blk_alloc ((hb6.block gp (blk_lt (unhide HGP5))).trans (unhide HGP5)) _; have HNE : Hid (gp ≠ w6.heap.size) := Nat.ne_of_lt (Nat.lt_of_lt_of_le (blk_lt (unhide HGP5)) hb6.size); have HM0 : Hid (w.heap.size ≤ w6.heap.size) := Nat.le_trans (unhide HB5).size hb6.size; have HCHB6 := hide (((unhide HCHB5).kept hb6).kept (below_alloc1 w6 (.cells #[.string b0, .slice (some ⟨gp, 0, none⟩) m m, .int .i64 t] 90))); clear hb6)
    | (go_at_call 96; refine (oIhas_calls L2 v2 x cb2 0 0 _ hL2 (unhide HOWB) (unhide HCVB) (cell_lt (unhide HCVB))).mono ?_; rintro e w5 ⟨he, hb5⟩; rw [unhide HHN] at he; subst he; have HB5 := hide ((unhide HB4).trans (hb5.mono (unhide HB4).size)); have HCH5 := hide ((unhide HCH4).kept hb5); have HOW5 := hide (owns_all (unhide HOW4) hb5); have HCV5 : Hid (w5.cell? ⟨cb, 0, none⟩ = some vv) := (hb5.cell (p := ⟨cb, 0, none⟩) (cell_lt (unhide HCV4))).trans (unhide HCV4); have HGP5 := hide ((hb5.block gp (blk_lt (unhide HGP4))).trans (unhide HGP4)); have HCHB5 := hide ((unhide HCHB4).kept hb5); clear hb5)
    | (go_at_call 72; refine (oopenBacking_yes bk b _ l _ hbe (oopenChain_yes bk _ b B r room l s0 s1 s2 s3 (unhide HC3) (unhide HPB) (unhide HD1))).mono ?_; rintro e w4 ⟨hb4, cb2, r3, L2, rfl, hcb2, hch2, hnL2, hL2, _⟩; obtain ⟨hLb1, _, hsNb, hsVb, _⟩ := unhide HOPB L2 cb2 r3 w4 hch2 hnL2; obtain ⟨⟨v2, hv1, hv2, _⟩, _⟩ := id hch2; have HOWB := hide hv2; have HCVB : Hid (w4.cell? ⟨cb2, 0, none⟩ = some v2) := blk_cell hv1 rfl; have HHN : Hid (Ov.has (fl L2) x = false) := (has_names hnL2 x).trans (unhide HMT); have HCHB4 := hide hch2; have HSNB := hide hsNb; have HSVB := hide hsVb; have HCH4 := hide ((unhide HCH3).kept hb4); have HOW4 := hide (owns_all (unhide HOW3) hb4); have HCV4 : Hid (w4.cell? ⟨cb, 0, none⟩ = some vv) := (hb4.cell (p := ⟨cb, 0, none⟩) (cell_lt (unhide HCV3))).trans (unhide HCV3); have HGP4 := hide ((hb4.block gp (blk_lt (unhide HGP3))).trans (unhide HGP3)); have HB4 := hide ((unhide HB3).trans (hb4.mono (unhide HB3).size)); clear hb4 hcb2 hch2 hnL2 hv1 hv2 hsNb hsVb)
    | (go_at_call 45; refine (unhide HCA).mono ?_; rintro e w3 ⟨hb3, cb, r2, L, rfl, hcb, hch, hnL, hL8, _⟩; obtain ⟨hL1, hpl, hsN, hsV, gp, hcg, himp, hgp⟩ := unhide HOPE L cb r2 w3 hch hnL; rw [unhide HSE] at hsN himp hgp; rw [unhide HME] at hsN hgp; rw [unhide HRS] at hgp; rw [unhide HNS] at hsV; obtain ⟨⟨vv, hv1, hv2, _⟩, _⟩ := id hch; have HB3 := hide hb3; have HC3 := hide ((unhide HC).kept hb3); have HCH3 := hide hch; have HOW3 := hide hv2; have HCV3 : Hid (w3.cell? ⟨cb, 0, none⟩ = some vv) := blk_cell hv1 rfl; have HPLL := hide hpl; have HIM : Hid (imVal (imAt L 0) = .agg #[.string b0, .slice (some ⟨gp, 0, none⟩) m m, .int .i64 t]) := (by rw [himp]; unfold imVal imOf; dsimp only; rw [unhide HME, unhide HBK, unhide HLT]; exact rfl); have HGP3 : Hid (w3.heap[gp]? = some (.cells (clRow (qOf s) (dOf s) m).toArray 160 (0, 0))) := hgp; have HSN := hide hsN; have HSV := hide hsV; have HGW : Hid (w.heap.size ≤ gp) := Nat.le_trans hcb hcg; clear hb3 hcb hch hnL hpl hsN hsV himp hgp hv1 hv2 hcg))
  go_ret
  exact ⟨rfl, (unhide HK12).elim (fun h => Or.inl ⟨h.1, (unhide HB11).trans (h.2.mono (unhide HB11).size)⟩) (fun ⟨v', h⟩ => Or.inr ⟨v', put_since (unhide HB11) h⟩)⟩

theorem orebase_calls (l : Ov.Files) (x bk : ByteArray) (b B : Nat) (r : Option Nat) (room : Nat) (s0 s1 s2 s3 : Addr) (v : Value) (w : World) (hC : ChainAt w b B r room l s0 s1 s2 s3) (hblk : w.heap[b]? = some (.cells #[.int .i32 1, .int .u32 0, .int .i64 room, v] 77 (0, 0))) (hown : OwnsRows w 0 v l) :
    Calls Tryz.prog 55 #[.pointer (some ⟨b, 0, none⟩), .string x, .string bk] w fun e w' => e = .returned (.int .i64 (rebaseF room l x bk).1) ∧ ((rebaseF room l x bk).2 = l ∧ Below w.heap.size w w' ∨ ∃ v', PutLeft w b 3 #[.int .i32 1, .int .u32 0, .int .i64 room, v] 77 v (rebaseF room l x bk).2 v' w') := by
  by_cases h1 : Ov.soundF l x = 0
  · by_cases h2 : bk.size = 0
    · exact orebase_none l x bk b B r room s0 s1 s2 s3 v w hC hblk hown h1 h2
    · by_cases h3 : Ov.soundF l bk = 0
      · cases h4 : Ov.metB (overN l bk) x with
        | true => exact orebase_met l x bk b B r room s0 s1 s2 s3 v w hC hblk hown h1 h2 h3 h4
        | false => exact orebase_over l x bk b B r room s0 s1 s2 s3 v w hC hblk hown h1 h2 h3 h4
      · exact orebase_bad2 l x bk b B r room s0 s1 s2 s3 v w hC hblk hown h1 h2 h3
  · exact orebase_bad1 l x bk b B r room s0 s1 s2 s3 v w hC hblk hown h1

end Go.Proofs.YtomiepknmmpflaaGreatDoor

