/- The program's keep. -/
import Derived.Test.YtdcmmmggiokbhaaGreatDoorCWOAll
import Derived.Test.YtdcmmmggiokbhaaGreatDoorCWOput2
namespace Go.Proofs.YtdcmmmggiokbhaaGreatDoor
open Go.RowKit Go.Joins Go.Shelf

attribute [local go_sem] Oper.semAt_some

/-- What keep adds up, round by round. -/
def addUp (x : ByteArray) (s : Int) (pre : List (ByteArray × ByteArray)) : Int := pre.foldl (fun t f => if f.1 = x then t else wrap64 (t + (f.2.size : Int))) s
theorem addUp_snoc (x : ByteArray) (s : Int) (pre : List (ByteArray × ByteArray)) (f : ByteArray × ByteArray) : addUp x s (pre ++ [f]) = if f.1 = x then addUp x s pre else wrap64 (addUp x s pre + (f.2.size : Int)) := by simp [addUp]

/-- Where nothing panics and nothing leaves: only what follows is asked. -/
def NQ (K : Act → World → Prop) : Exit → Act → World → Prop
  | .normal, a, w => K a w
  | _, _, _ => False
theorem wp_calm {P : Program} {c : Code} {K : Act → World → Prop} {Q' : Exit → Act → World → Prop} {a : Act} {w : World} (h : c.wp P (NQ K) a w) : c.wp P (Exit.then K Q') a w :=
  wp_mono h (by intro e a' w' hq; cases e <;> first | exact hq | exact hq.elim)
/-- A block that is no cells lies on through put. -/
theorem put_defers {w w3 : World} {b off D : Nat} {cs : Array Value} {t : TypeId} {v v3 : Value} {l l0 : Ov.Files} {o : Obj} (hp : PutLeft w b off cs t v l v3 w3) (hD : w.heap[D]? = some o) (ho : o.isCells = false) (hb : ∃ cs0 t0 fr, w.heap[b]? = some (.cells cs0 t0 fr)) (hown : OwnsRows w 0 v l0) : w3.heap[D]? = some o := by
  rw [hp.fr.block D (blk_lt hD) ?_ ?_]
  · exact hD
  · rintro rfl
    obtain ⟨cs0, t0, fr, hb⟩ := hb
    rw [hb] at hD; cases hD; cases ho
  · intro e
    rcases hown.2 with ⟨rfl, _⟩ | ⟨g, cap, cur, rfl, _, hg, _⟩
    · cases e
    · simp only [Value.ownBlock, Option.some.injEq] at e
      subst e
      rw [hg] at hD; cases hD; cases ho
theorem put_after {w W w3 : World} {b off D : Nat} {cs : Array Value} {t : TypeId} {v v3 : Value} {l : Ov.Files} {o o' : Obj} (hB : Below w.heap.size w W) (hp : PutLeft W b off cs t v l v3 w3) (hD : w3.heap[D]? = some o) (ho : o.isCells = false) (hDs : w.heap.size ≤ D) : PutLeft w b off cs t v l v3 (w3.putObj D o') := by
  have hg := grownBy_putObj' w3 D o'
  have hbD : b ≠ D := fun e => by
    have := hp.blk
    rw [e, hD] at this; cases this; cases ho
  refine ⟨?_, ownsRow_putObj hp.own o' hD ho, hp.ne, ?_, ?_⟩
  · rw [hg.block b (blk_lt hp.blk) (by simp [hbD])]; exact hp.blk
  · have f1 := (OFr.of_below hB b v.ownBlock).trans hp.fr
    refine ⟨hg.os.trans f1.os, hg.tape.trans f1.tape, hg.output.trans f1.output, Nat.le_trans f1.size hg.size, fun k hk hkb hkr => ?_⟩
    rw [hg.block k (Nat.lt_of_lt_of_le hk f1.size) (by simp; omega)]
    exact f1.block k hk hkb hkr
  · rcases hp.row with e | e
    · exact Or.inl e
    · exact Or.inr fun k hk => Nat.le_trans hB.size (e k hk)

set_option maxRecDepth 100000 in
set_option maxHeartbeats 2000000 in
theorem okeep_in (l : Ov.Files) (v : Value) (x f : ByteArray) (b room : Nat) (w : World) (hl : l.length ≤ 8) (hblk : w.heap[b]? = some (.cells #[.int .i32 1, .int .u32 0, .int .i64 room, v] 56 (0, 0))) (hown : OwnsRows w 0 v l) (hne : some b ≠ v.ownBlock) (hx : x.size ≤ 1000) :
    Calls Tryz.prog 49 #[.pointer (some ⟨b, 0, none⟩), .string x, .string f] w fun e w' => ((room : Int) < addUp x f.size l ∧ e = .returned (.int .i64 9) ∧ Below w.heap.size w w') ∨ (addUp x f.size l ≤ (room : Int) ∧ e = .returned (.int .i64 0) ∧ ∃ v', PutLeft w b 3 #[.int .i32 1, .int .u32 0, .int .i64 room, v] 56 v (Ov.withF l x f) v' w') := by
  have HB := hide hblk
  have HO := hide hown
  have HN := hide hne
  have hbl := blk_lt hblk
  have hc3 : w.cell? ⟨b, 3, none⟩ = some v := blk_cell hblk rfl
  clear hblk hown hne
  refine (callsIn_wide (n := 6)).1 ?_
  have hro : Fence.wide.round = none := rfl
  refine callsIn_of_wp_marks Tryz.func49 rfl trivial ?_ hro
  simp only [Tryz.ntmps49, List.size_toArray, List.length_cons, List.length_nil, Nat.reduceAdd, Nat.reduceSub, Array.replicate_succ, Array.replicate_zero, List.push_toArray, List.append_toArray, List.nil_append, List.cons_append]
  have hfA : Fence.wide.fn 84 := trivial
  have hfB : Fence.wide.fn 114 := trivial
  gi_wp2_with (gi_at_call 84; refine (oSall_in Fence.wide _ hfA hro _ _).mono ?_; rintro e w' ⟨rfl, rfl⟩)
  have bN := Boxed.new w 9 (.string x)
  have bT := Boxed.new (w.alloc (.cells #[.string x] 9)) 3 (.int .i64 f.size)
  have bP := Boxed.new ((w.alloc (.cells #[.string x] 9)).alloc (.cells #[.int .i64 f.size] 3)) 154 (.pointer (some ⟨b, 3, none⟩))
  simp only [World.size_alloc] at bT bP
  have hB0 := below_alloc3 w (.cells #[.string x] 9) (.cells #[.int .i64 f.size] 3) (.cells #[.pointer (some ⟨b, 3, none⟩)] 154)
  have hcv := (hB0.cell (p := ⟨b, 3, none⟩) hbl).trans hc3
  have HOw := owns_all (unhide HO) hB0
  refine wpIn_rangeFunc_ownG hro (by decide) (gf := 114) (lb := #[.pointer (some ⟨w.heap.size + 1 + 1, 0, none⟩)]) rfl hfB (enters_of Tryz.func114 (by kernel_rfl) rfl)
    (oSall_stops Fence.wide _ hfB hro (by decide) (w.heap.size + 1 + 1) w.heap.size b 3 v l hl _ (by simp) (by simp; omega) hbl bP.cell hcv HOw (fun k hk => ((unhide HO).lt k hk).2)) belowK_t (belowK_b (by simp; omega)) (Below.refl _ _) (fun _ => rfl)
    (fun pre W => ((W.cell? ⟨w.heap.size + 1, 0, none⟩ = some (.int .i64 (addUp x f.size pre)) ∧ W.frozen? ⟨w.heap.size + 1, 0, none⟩ = false) ∧ W.cell? ⟨w.heap.size, 0, none⟩ = some (.string x)) ∧ Below w.heap.size w W)
    (fun _ _ _ => False)
    (OwnFrom.and (Own.from (fun s A B row hs hg hr => ⟨⟨cell_kept hs.1.1 hg hr, (frozen_kept hs.1.1 hg hr).trans hs.1.2⟩, cell_kept hs.2 hg hr⟩) _) (ownFrom_below (Nat.le_refl _) (by simp; omega)))
    (fun _ _ _ _ _ hs _ _ => hs)
    ⟨⟨⟨(bT.alloc _).cell, (bT.alloc _).frozen⟩, ((bN.alloc _).alloc _).cell⟩, hB0⟩
    (fun o => { tmps := #[.pointer (some ⟨b, 0, none⟩), .string x, .string f, undef, .pointer (some ⟨w.heap.size, 0, none⟩), undef, .int .i64 0, .pointer (some ⟨w.heap.size + 1, 0, none⟩), .string o.1, .string o.2, .string f, .int .i64 f.size, .pointer (some ⟨b, 0, none⟩), .pointer (some ⟨b, 0, none⟩), .pointer (some ⟨b, 3, none⟩), .func (.func 114) #[] #[.pointer (some ⟨w.heap.size + 1 + 1, 0, none⟩)], .string o.1, .string o.2, undef, undef, undef, undef, undef, undef, undef, undef, undef, undef, undef, undef, undef, undef, undef, undef, undef, undef, undef], defers := [] }) ?assign ?body ?done ?stop
  case assign =>
    intro y o W K hK
    gi_wp2
    exact hK
  case body =>
    rintro y pre o W ⟨⟨⟨hc, hf⟩, hcx⟩, hB⟩ _
    by_cases hq : o.1 = x
    · have hqt : (o.1.toList == x.toList) = true := by rw [hq]; exact beq_self_eq_true _
      have Hsn : Hid (addUp x f.size (pre ++ [o]) = addUp x f.size pre) := by rw [addUp_snoc, if_pos hq]; exact rfl
      have hq2 : (o.1.toList != x.toList) = false := by rw [bne, hqt]; rfl
      clear hq
      gi_wp2
      exact ⟨(KeepsOthers.refl _).from _, Below.refl _ _, ⟨⟨by rw [unhide Hsn]; exact hc, hf⟩, hcx⟩, hB⟩
    · have hq' : (o.1.toList == x.toList) = false := by rw [beq_eq_false_iff_ne, ByteArray.toList_eq, ByteArray.toList_eq]; exact fun e => hq (Go.WideShapes.bytes_inj e)
      have Hsn : Hid (addUp x f.size (pre ++ [o]) = wrap64 (addUp x f.size pre + (o.2.size : Int))) := by rw [addUp_snoc, if_neg hq]; exact rfl
      gi_wp2
      exact ⟨(KeepsOthers.setCell _ _ _).from _, (Below.refl w.heap.size W).setCell (p := ⟨w.heap.size + 1, 0, none⟩) (by simp) _, ⟨⟨by rw [unhide Hsn]; exact World.cell?_setCell_same' _ _ _ (by rw [hc]; rfl), by rw [World.frozen?_setCell]; exact hf⟩, (World.cell?_setCell_other _ _ _ _ (by simp)).trans hcx⟩, hB.setCell (p := ⟨w.heap.size + 1, 0, none⟩) (by simp) _⟩
  case done =>
    rintro D ys W hD rfl ⟨⟨⟨hc, _⟩, hcx⟩, hB⟩ hK
    have hroom : W.cell? ⟨b, 2, none⟩ = some (.int .i64 room) := (hB.cell (p := ⟨b, 2, none⟩) hbl).trans (blk_cell (unhide HB) rfl)
    obtain ⟨T, hT⟩ : ∃ T, addUp x f.size ys = T := ⟨_, rfl⟩
    rw [hT] at hc
    have HT := hide hT
    clear hT
    have hDs : w.heap.size ≤ D := by simp at hD; omega
    by_cases hfull : (room : Int) < T
    · gi_wp2
      gi_region
      all_goals gi_wp2
      refine ⟨by simp, .inl ⟨_, _, rfl, run_takeDeferred (w := W.drew) hK, ?_⟩⟩
      exact ⟨_, results_tmp rfl _ _ _, Or.inl ⟨by rw [unhide HT]; exact hfull, rfl, hB.drew.trans (belowK_b (w := w) (Nat.le_refl _) W.drew D _ _ hDs hK rfl rfl)⟩⟩
    · have hblW : W.heap[b]? = _ := (hB.block b hbl).trans (unhide HB)
      have HBW := hide hblW
      have HOW := hide (owns_all (unhide HO) hB)
      clear hblW
      gi_wp2
      gi_region
      all_goals gi_wp2
      refine wpIn_wide.2 (wp_calm ?_)
      go_region_with (go_at_call 85; refine (oSput_calls ys v x f b 3 #[.int .i32 1, .int .u32 0, .int .i64 room, v] 56 _ hl (by exact unhide HBW) rfl (by exact unhide HOW) (unhide HN) hx).mono ?_; rintro e w3 ⟨rfl, v3, hp3⟩)
      all_goals simp only [NQ]
      all_goals gi_wp2
      all_goals have hK3 := put_defers hp3 (by exact hK) rfl ⟨_, _, _, by exact unhide HBW⟩ (by exact unhide HOW)
      all_goals refine ⟨by simp, .inl ⟨_, _, rfl, run_takeDeferred hK3, ?_⟩⟩
      all_goals exact ⟨_, results_tmp rfl _ _ _, Or.inr ⟨by rw [unhide HT]; omega, rfl, v3, put_after hB.drew.drew hp3 hK3 rfl hDs⟩⟩
  case stop =>
    rintro D c pre W _ _ h _
    exact h.elim

end Go.Proofs.YtdcmmmggiokbhaaGreatDoor
