/- The program's keep. -/
import Derived.Test.YtdcmmmggiokbhaaGreatDoorCWOAll
import Derived.Test.YtdcmmmggiokbhaaGreatDoorCWOput2
import Derived.Test.YtdcmmmggiokbhaaGreatDoorCWODrop2
namespace Go.Proofs.YtdcmmmggiokbhaaGreatDoor
open Go.RowKit Go.Joins Go.Shelf

attribute [local go_sem] Oper.semAt_some

/-- What keep adds up, round by round. -/
def addUp (x : ByteArray) (s : Int) (pre : List (ByteArray × ByteArray)) : Int := pre.foldl (fun t f => if f.1 = x then t else wrap64 (t + (f.2.size : Int))) s
theorem addUp_snoc (x : ByteArray) (s : Int) (pre : List (ByteArray × ByteArray)) (f : ByteArray × ByteArray) : addUp x s (pre ++ [f]) = if f.1 = x then addUp x s pre else wrap64 (addUp x s pre + (f.2.size : Int)) := by simp [addUp]

/-- Where nothing panics and nothing leaves: only what follows is asked. -/
def NQ (K : Act → World → Prop) : Exit → Act → World → Prop
  | .normal, a, w => K a w
  | _, _, _ => False
theorem wp_calm {P : Program} {c : Code} {K : Act → World → Prop} {Q' : Exit → Act → World → Prop} {a : Act} {w : World} (h : c.wp P (NQ K) a w) : c.wp P (Exit.then K Q') a w :=
  wp_mono h (by intro e a' w' hq; cases e <;> first | exact hq | exact hq.elim)
/-- A block that is no cells lies on through put. -/
theorem put_defers {w w3 : World} {b off D : Nat} {cs : Array Value} {t : TypeId} {v v3 : Value} {l l0 : Ov.Files} {o : Obj} (hp : PutLeft w b off cs t v l v3 w3) (hD : w.heap[D]? = some o) (ho : o.isCells = false) (hb : ∃ cs0 t0 fr, w.heap[b]? = some (.cells cs0 t0 fr)) (hown : OwnsRows w 0 v l0) : w3.heap[D]? = some o := by
  rw [hp.fr.block D (blk_lt hD) ?_ ?_]
  · exact hD
  · rintro rfl
    obtain ⟨cs0, t0, fr, hb⟩ := hb
    rw [hb] at hD; cases hD; cases ho
  · intro e
    rcases hown.2 with ⟨rfl, _⟩ | ⟨g, cap, cur, rfl, _, hg, _⟩
    · cases e
    · simp only [Value.ownBlock, Option.some.injEq] at e
      subst e
      rw [hg] at hD; cases hD; cases ho
theorem put_after {w W w3 : World} {b off D : Nat} {cs : Array Value} {t : TypeId} {v v3 : Value} {l : Ov.Files} {o o' : Obj} (hB : Below w.heap.size w W) (hp : PutLeft W b off cs t v l v3 w3) (hD : w3.heap[D]? = some o) (ho : o.isCells = false) (hDs : w.heap.size ≤ D) : PutLeft w b off cs t v l v3 (w3.putObj D o') := by
  have hg := grownBy_putObj' w3 D o'
  have hbD : b ≠ D := fun e => by
    have := hp.blk
    rw [e, hD] at this; cases this; cases ho
  refine ⟨?_, ownsRow_putObj hp.own o' hD ho, hp.ne, ?_, ?_⟩
  · rw [hg.block b (blk_lt hp.blk) (by simp [hbD])]; exact hp.blk
  · have f1 := (OFr.of_below hB b v.ownBlock).trans hp.fr
    refine ⟨hg.os.trans f1.os, hg.tape.trans f1.tape, hg.output.trans f1.output, Nat.le_trans f1.size hg.size, fun k hk hkb hkr => ?_⟩
    rw [hg.block k (Nat.lt_of_lt_of_le hk f1.size) (by simp; omega)]
    exact f1.block k hk hkb hkr
  · rcases hp.row with e | e
    · exact Or.inl e
    · exact Or.inr fun k hk => Nat.le_trans hB.size (e k hk)

set_option maxRecDepth 100000 in
set_option maxHeartbeats 2000000 in
theorem okeep_in (l : Ov.Files) (v : Value) (x f : ByteArray) (b room : Nat) (w : World) (hl : l.length ≤ 8) (hblk : w.heap[b]? = some (.cells #[.int .i32 1, .int .u32 0, .int .i64 room, v] 56 (0, 0))) (hown : OwnsRows w 0 v l) (hne : some b ≠ v.ownBlock) (hx : x.size ≤ 1000) :
    Calls Tryz.prog 49 #[.pointer (some ⟨b, 0, none⟩), .string x, .string f] w fun e w' => ((room : Int) < addUp x f.size l ∧ e = .returned (.int .i64 9) ∧ Below w.heap.size w w') ∨ (addUp x f.size l ≤ (room : Int) ∧ e = .returned (.int .i64 0) ∧ ∃ v', PutLeft w b 3 #[.int .i32 1, .int .u32 0, .int .i64 room, v] 56 v (Ov.withF l x f) v' w') := by
  have HB := hide hblk
  have HO := hide hown
  have HN := hide hne
  have hbl := blk_lt hblk
  have hc3 : w.cell? ⟨b, 3, none⟩ = some v := blk_cell hblk rfl
  clear hblk hown hne
  refine (callsIn_wide (n := 6)).1 ?_
  have hro : Fence.wide.round = none := rfl
  refine callsIn_of_wp_marks Tryz.func49 rfl trivial ?_ hro
  simp only [Tryz.ntmps49, List.size_toArray, List.length_cons, List.length_nil, Nat.reduceAdd, Nat.reduceSub, Array.replicate_succ, Array.replicate_zero, List.push_toArray, List.append_toArray, List.nil_append, List.cons_append]
  have hfA : Fence.wide.fn 84 := trivial
  have hfB : Fence.wide.fn 114 := trivial
  gi_wp2_with (gi_at_call 84; refine (oSall_in Fence.wide _ hfA hro _ _).mono ?_; rintro e w' ⟨rfl, rfl⟩)
  have bN := Boxed.new w 9 (.string x)
  have bT := Boxed.new (w.alloc (.cells #[.string x] 9)) 3 (.int .i64 f.size)
  have bP := Boxed.new ((w.alloc (.cells #[.string x] 9)).alloc (.cells #[.int .i64 f.size] 3)) 154 (.pointer (some ⟨b, 3, none⟩))
  simp only [World.size_alloc] at bT bP
  have hB0 := below_alloc3 w (.cells #[.string x] 9) (.cells #[.int .i64 f.size] 3) (.cells #[.pointer (some ⟨b, 3, none⟩)] 154)
  have hcv := (hB0.cell (p := ⟨b, 3, none⟩) hbl).trans hc3
  have HOw := owns_all (unhide HO) hB0
  refine wpIn_rangeFunc_ownG hro (by decide) (gf := 114) (lb := #[.pointer (some ⟨w.heap.size + 1 + 1, 0, none⟩)]) rfl hfB (enters_of Tryz.func114 (by kernel_rfl) rfl)
    (oSall_stops Fence.wide _ hfB hro (by decide) (w.heap.size + 1 + 1) w.heap.size b 3 v l hl _ (by simp) (by simp; omega) hbl bP.cell hcv HOw (fun k hk => ((unhide HO).lt k hk).2)) belowK_t (belowK_b (by simp; omega)) (Below.refl _ _) (fun _ => rfl)
    (fun pre W => ((W.cell? ⟨w.heap.size + 1, 0, none⟩ = some (.int .i64 (addUp x f.size pre)) ∧ W.frozen? ⟨w.heap.size + 1, 0, none⟩ = false) ∧ W.cell? ⟨w.heap.size, 0, none⟩ = some (.string x)) ∧ Below w.heap.size w W)
    (fun _ _ _ => False)
    (OwnFrom.and (Own.from (fun s A B row hs hg hr => ⟨⟨cell_kept hs.1.1 hg hr, (frozen_kept hs.1.1 hg hr).trans hs.1.2⟩, cell_kept hs.2 hg hr⟩) _) (ownFrom_below (Nat.le_refl _) (by simp; omega)))
    (fun _ _ _ _ _ hs _ _ => hs)
    ⟨⟨⟨(bT.alloc _).cell, (bT.alloc _).frozen⟩, ((bN.alloc _).alloc _).cell⟩, hB0⟩
    (fun o => { tmps := #[.pointer (some ⟨b, 0, none⟩), .string x, .string f, undef, .pointer (some ⟨w.heap.size, 0, none⟩), undef, .int .i64 0, .pointer (some ⟨w.heap.size + 1, 0, none⟩), .string o.1, .string o.2, .string f, .int .i64 f.size, .pointer (some ⟨b, 0, none⟩), .pointer (some ⟨b, 0, none⟩), .pointer (some ⟨b, 3, none⟩), .func (.func 114) #[] #[.pointer (some ⟨w.heap.size + 1 + 1, 0, none⟩)], .string o.1, .string o.2, undef, undef, undef, undef, undef, undef, undef, undef, undef, undef, undef, undef, undef, undef, undef, undef, undef, undef, undef], defers := [] }) ?assign ?body ?done ?stop
  case assign =>
    intro y o W K hK
    gi_wp2
    exact hK
  case body =>
    rintro y pre o W ⟨⟨⟨hc, hf⟩, hcx⟩, hB⟩ _
    by_cases hq : o.1 = x
    · have hqt : (o.1.toList == x.toList) = true := by rw [hq]; exact beq_self_eq_true _
      have Hsn : Hid (addUp x f.size (pre ++ [o]) = addUp x f.size pre) := by rw [addUp_snoc, if_pos hq]; exact rfl
      have hq2 : (o.1.toList != x.toList) = false := by rw [bne, hqt]; rfl
      clear hq
      gi_wp2
      exact ⟨(KeepsOthers.refl _).from _, Below.refl _ _, ⟨⟨by rw [unhide Hsn]; exact hc, hf⟩, hcx⟩, hB⟩
    · have hq' : (o.1.toList == x.toList) = false := by rw [beq_eq_false_iff_ne, ByteArray.toList_eq, ByteArray.toList_eq]; exact fun e => hq (Go.WideShapes.bytes_inj e)
      have Hsn : Hid (addUp x f.size (pre ++ [o]) = wrap64 (addUp x f.size pre + (o.2.size : Int))) := by rw [addUp_snoc, if_neg hq]; exact rfl
      gi_wp2
      exact ⟨(KeepsOthers.setCell _ _ _).from _, (Below.refl w.heap.size W).setCell (p := ⟨w.heap.size + 1, 0, none⟩) (by simp) _, ⟨⟨by rw [unhide Hsn]; exact World.cell?_setCell_same' _ _ _ (by rw [hc]; rfl), by rw [World.frozen?_setCell]; exact hf⟩, (World.cell?_setCell_other _ _ _ _ (by simp)).trans hcx⟩, hB.setCell (p := ⟨w.heap.size + 1, 0, none⟩) (by simp) _⟩
  case done =>
    rintro D ys W hD rfl ⟨⟨⟨hc, _⟩, hcx⟩, hB⟩ hK
    have hroom : W.cell? ⟨b, 2, none⟩ = some (.int .i64 room) := (hB.cell (p := ⟨b, 2, none⟩) hbl).trans (blk_cell (unhide HB) rfl)
    obtain ⟨T, hT⟩ : ∃ T, addUp x f.size ys = T := ⟨_, rfl⟩
    rw [hT] at hc
    have HT := hide hT
    clear hT
    have hDs : w.heap.size ≤ D := by simp at hD; omega
    by_cases hfull : (room : Int) < T
    · gi_wp2
      gi_region
      all_goals gi_wp2
      refine ⟨by simp, .inl ⟨_, _, rfl, run_takeDeferred (w := W.drew) hK, ?_⟩⟩
      exact ⟨_, results_tmp rfl _ _ _, Or.inl ⟨by rw [unhide HT]; exact hfull, rfl, hB.drew.trans (belowK_b (w := w) (Nat.le_refl _) W.drew D _ _ hDs hK rfl rfl)⟩⟩
    · have hblW : W.heap[b]? = _ := (hB.block b hbl).trans (unhide HB)
      have HBW := hide hblW
      have HOW := hide (owns_all (unhide HO) hB)
      clear hblW
      gi_wp2
      gi_region
      all_goals gi_wp2
      refine wpIn_wide.2 (wp_calm ?_)
      go_region_with (go_at_call 85; refine (oSput_calls ys v x f b 3 #[.int .i32 1, .int .u32 0, .int .i64 room, v] 56 _ hl (by exact unhide HBW) rfl (by exact unhide HOW) (unhide HN) hx).mono ?_; rintro e w3 ⟨rfl, v3, hp3⟩)
      all_goals simp only [NQ]
      all_goals gi_wp2
      all_goals have hK3 := put_defers hp3 (by exact hK) rfl ⟨_, _, _, by exact unhide HBW⟩ (by exact unhide HOW)
      all_goals refine ⟨by simp, .inl ⟨_, _, rfl, run_takeDeferred hK3, ?_⟩⟩
      all_goals exact ⟨_, results_tmp rfl _ _ _, Or.inr ⟨by rw [unhide HT]; omega, rfl, v3, put_after hB.drew.drew hp3 hK3 rfl hDs⟩⟩
  case stop =>
    rintro D c pre W _ _ h _
    exact h.elim

end Go.Proofs.YtdcmmmggiokbhaaGreatDoor

/- What keep adds up is what the files would have together. -/
namespace Go.Proofs.YtdcmmmggiokbhaaGreatDoor
open Go.RowKit Go.Joins

/-- How many bytes the files of other names have. -/
def others (x : ByteArray) : Ov.Files → Nat
  | [] => 0
  | f :: l => (if f.1 = x then 0 else f.2.size) + others x l
theorem addUp_eq (x : ByteArray) (l : Ov.Files) (s : Nat) (hl : ∀ f ∈ l, f.2.size ≤ 1000) (hs : s + 1000 * l.length ≤ 1000000) : addUp x s l = ((s + others x l : Nat) : Int) := by
  induction l generalizing s with
  | nil => simp [addUp, others]
  | cons f l ih =>
    have hf := hl f (by simp)
    simp only [List.length_cons] at hs
    by_cases e : f.1 = x
    · have := ih s (fun g hg => hl g (by simp [hg])) (by omega)
      simp only [addUp, List.foldl_cons, if_pos e] at this ⊢
      rw [this]; simp [others, e]
    · have h2 : wrap64 ((s : Int) + (f.2.size : Int)) = ((s + f.2.size : Nat) : Int) := by
        rw [IntWalk.wrap64_in _ ⟨by omega, by omega⟩]; omega
      have := ih (s + f.2.size) (fun g hg => hl g (by simp [hg])) (by omega)
      simp only [addUp, List.foldl_cons, if_neg e] at this ⊢
      rw [h2, this]; simp only [others, if_neg e]; omega
theorem others_none {x : ByteArray} {l : Ov.Files} (h : x ∉ l.map Prod.fst) : others x l = Ov.total l := by
  induction l with
  | nil => rfl
  | cons f l ih =>
    simp only [List.map_cons, List.mem_cons, not_or] at h
    simp only [others, Ov.total, if_neg (Ne.symm h.1), ih h.2]
theorem total_with {x f : ByteArray} {l : Ov.Files} (h : (l.map Prod.fst).Nodup) : Ov.total (Ov.withF l x f) = f.size + others x l := by
  induction l with
  | nil => simp [Ov.withF, Ov.place, Ov.total, others]
  | cons g l ih =>
    rw [List.map_cons, List.nodup_cons] at h
    by_cases e : g.1 = x
    · have hp : Ov.place (g :: l) x = 0 := by rw [Ov.place, if_pos e]
      have : Ov.withF (g :: l) x f = (x, f) :: l := by unfold Ov.withF; rw [hp, if_pos (by simp)]; rfl
      rw [this]
      simp only [Ov.total, others, if_pos e, Nat.zero_add]
      rw [others_none (by rw [← e]; exact h.1)]
    · have hp : Ov.place (g :: l) x = Ov.place l x + 1 := by rw [Ov.place, if_neg e]
      have : Ov.withF (g :: l) x f = g :: Ov.withF l x f := by
        unfold Ov.withF
        rw [hp]
        by_cases hq : Ov.place l x < l.length
        · rw [if_pos hq, if_pos (by simpa using hq)]; rfl
        · rw [if_neg hq, if_neg (by simpa using hq)]; rfl
      rw [this]
      simp only [Ov.total, others, if_neg e, ih h.2]
      omega
theorem LI.file_size {room : Nat} {l : Ov.Files} (h : Ov.LI room l) : ∀ f ∈ l, f.2.size ≤ 1000 := fun f hf => by
  obtain ⟨i, hi, e⟩ := List.mem_iff_getElem.1 hf
  have := h.size i hi
  rw [show Ov.fileAt l i = f.2 from by simp [Ov.fileAt, hi, e]] at this
  exact this
theorem addUp_total {room : Nat} {l : Ov.Files} (h : Ov.LI room l) (x f : ByteArray) (hf : f.size ≤ 1000) : addUp x f.size l = (Ov.total (Ov.withF l x f) : Int) := by
  have hl := h.len
  rw [addUp_eq x l f.size (LI.file_size h) (by omega), total_with h.nodup]

/-- keep where there is no room. -/
theorem okeep_no (l : Ov.Files) (v : Value) (x f : ByteArray) (b room : Nat) (w : World) (hl : l.length ≤ 8) (hblk : w.heap[b]? = some (.cells #[.int .i32 1, .int .u32 0, .int .i64 room, v] 56 (0, 0))) (hown : OwnsRows w 0 v l) (hne : some b ≠ v.ownBlock) (hx : x.size ≤ 1000) (h : (room : Int) < addUp x f.size l) : Calls Tryz.prog 49 #[.pointer (some ⟨b, 0, none⟩), .string x, .string f] w fun e w' => e = .returned (.int .i64 9) ∧ Below w.heap.size w w' := by
  refine (okeep_in l v x f b room w hl hblk hown hne hx).mono ?_
  rintro e w' (⟨_, rfl, hb⟩ | ⟨h1, _⟩)
  · exact ⟨rfl, hb⟩
  · omega
/-- keep where there is. -/
theorem okeep_yes (l : Ov.Files) (v : Value) (x f : ByteArray) (b room : Nat) (w : World) (hl : l.length ≤ 8) (hblk : w.heap[b]? = some (.cells #[.int .i32 1, .int .u32 0, .int .i64 room, v] 56 (0, 0))) (hown : OwnsRows w 0 v l) (hne : some b ≠ v.ownBlock) (hx : x.size ≤ 1000) (h : addUp x f.size l ≤ (room : Int)) : Calls Tryz.prog 49 #[.pointer (some ⟨b, 0, none⟩), .string x, .string f] w fun e w' => e = .returned (.int .i64 0) ∧ ∃ v', PutLeft w b 3 #[.int .i32 1, .int .u32 0, .int .i64 room, v] 56 v (Ov.withF l x f) v' w' := by
  refine (okeep_in l v x f b room w hl hblk hown hne hx).mono ?_
  rintro e w' (⟨h1, _⟩ | ⟨_, rfl, v', hp⟩)
  · omega
  · exact ⟨rfl, v', hp⟩

end Go.Proofs.YtdcmmmggiokbhaaGreatDoor

/- The program's Load. -/
namespace Go.Proofs.YtdcmmmggiokbhaaGreatDoor
open Go.RowKit Go.Joins

open Go.MuLone in
set_option maxRecDepth 100000 in
set_option maxHeartbeats 1000000 in
theorem oLoad_calls (l : Ov.Files) (x f : ByteArray) (b : Nat) (r : Option Nat) (room : Nat) (w : World) (hi : Ov.LI room l) (h : OvRep w b r room l) :
    Calls Tryz.prog 30 #[.pointer (some ⟨b, 0, none⟩), .string x, .string f] w fun e w' => e = .returned (.int .i64 (Ov.loadF room l x f).1) ∧ OvLeft w b r room (Ov.loadF room l x f).2 w' := by
  obtain ⟨v, h1, h2, h3, h4⟩ := id h
  have HR := hide h
  obtain ⟨a, c, rfl⟩ := owns_slice h2
  have c0 : w.cell? ⟨b, 0, none⟩ = some (.int .i32 0) := blk_cell h1 rfl
  have f0 := blk_frozen h1 0
  have hbl := blk_lt h1
  have HB := hide (blk_set_same (i := 0) h1 (.int .i32 1))
  have HO := hide (owns_set h2 h3 (a := ⟨b, 0, none⟩) (.int .i32 1))
  have H3 := hide h3
  have H4 := hide h4
  have hl8 := hi.len
  have HI := hide hi
  clear h h1 h2 h3 h4 hi
  cases hn : Ov.nameB x
  · have HL : Hid (Ov.loadF room l x f = (2, l)) := by unfold Ov.loadF; rw [if_pos hn]; exact rfl
    go_enter_defers Tryz.func30, Tryz.ntmps30
    go_wp2_with (first | (go_at_call 42; refine (lock_free muLib ⟨b, 0, none⟩ _ c0 f0).mono ?_; rintro e w1 ⟨rfl, rfl⟩) | (go_at_call 62; refine (oisName_calls _ _).mono ?_; rintro e w' ⟨rfl, hw⟩; obtain rfl := hw.symm))
    refine leaves_cons (f := 43) (args := #[.pointer (some ⟨b, 0, none⟩)]) (by simp) (by simp [go_sem]) ?_
    refine (unlock_deferred muLib ⟨b, 0, none⟩ .returning _ ?_ ?_).mono ?_
    · exact ((Below.refl (w.setCell ⟨b, 0, none⟩ (.int .i32 1)).heap.size (w.setCell ⟨b, 0, none⟩ (.int .i32 1))).cell (p := ⟨b, 0, none⟩) (by simpa using hbl)).trans (blk_cell (unhide HB) rfl)
    · exact ((Below.refl (w.setCell ⟨b, 0, none⟩ (.int .i32 1)).heap.size (w.setCell ⟨b, 0, none⟩ (.int .i32 1))).frozen (p := ⟨b, 0, none⟩) (by simpa using hbl)).trans (blk_frozen (unhide HB) 0)
    rintro e u' w'' ⟨rfl, rfl, rfl⟩
    refine ⟨_, results_tmp rfl _ _ _, ?_, ?_⟩
    · rw [unhide HL]; rfl
    · rw [unhide HL]; exact OvLeft.quiet (unhide HR) (Below.refl (w.setCell ⟨b, 0, none⟩ (.int .i32 1)).heap.size (w.setCell ⟨b, 0, none⟩ (.int .i32 1)))
  have hx1000 : x.size ≤ 1000 := Nat.le_trans (Ov.nameB_size hn) (by omega)
  by_cases hf : 1000 < f.size
  · have HL : Hid (Ov.loadF room l x f = (1, l)) := by unfold Ov.loadF; rw [if_neg (by rw [hn]; simp), if_pos (Or.inl hf)]; exact rfl
    go_enter_defers Tryz.func30, Tryz.ntmps30
    go_wp2_with (first | (go_at_call 42; refine (lock_free muLib ⟨b, 0, none⟩ _ c0 f0).mono ?_; rintro e w1 ⟨rfl, rfl⟩) | (go_at_call 62; refine (oisName_calls _ _).mono ?_; rintro e w' ⟨rfl, hw⟩; obtain rfl := hw.symm))
    refine leaves_cons (f := 43) (args := #[.pointer (some ⟨b, 0, none⟩)]) (by simp) (by simp [go_sem]) ?_
    refine (unlock_deferred muLib ⟨b, 0, none⟩ .returning _ ?_ ?_).mono ?_
    · exact ((Below.refl (w.setCell ⟨b, 0, none⟩ (.int .i32 1)).heap.size (w.setCell ⟨b, 0, none⟩ (.int .i32 1))).cell (p := ⟨b, 0, none⟩) (by simpa using hbl)).trans (blk_cell (unhide HB) rfl)
    · exact ((Below.refl (w.setCell ⟨b, 0, none⟩ (.int .i32 1)).heap.size (w.setCell ⟨b, 0, none⟩ (.int .i32 1))).frozen (p := ⟨b, 0, none⟩) (by simpa using hbl)).trans (blk_frozen (unhide HB) 0)
    rintro e u' w'' ⟨rfl, rfl, rfl⟩
    refine ⟨_, results_tmp rfl _ _ _, ?_, ?_⟩
    · rw [unhide HL]; rfl
    · rw [unhide HL]; exact OvLeft.quiet (unhide HR) (Below.refl (w.setCell ⟨b, 0, none⟩ (.int .i32 1)).heap.size (w.setCell ⟨b, 0, none⟩ (.int .i32 1)))
  have hf1000 : f.size ≤ 1000 := by omega
  by_cases h8 : 8 ≤ l.length
  · have hd8 : decide ((8 : Int) ≤ (l.length : Int)) = true := decide_eq_true (by omega)
    by_cases hp : Ov.place l x < l.length
    · have Hh : Ov.has l x = true := by unfold Ov.has; exact decide_eq_true hp
      have HLP : Hid (Ov.loadF room l x f = Ov.putF room l (Ov.withF l x f)) := by unfold Ov.loadF; rw [if_neg (by rw [hn]; simp), if_neg (by omega)]; exact rfl
      by_cases hrm : (room : Int) < addUp x f.size l
      · have h1 := hrm
        have HRM := hide hrm
        have HL : Hid (Ov.loadF room l x f = (9, l)) := by
          rw [unhide HLP]; unfold Ov.putF; rw [if_pos (by rw [addUp_total (unhide HI) x f hf1000] at h1; omega)]; exact rfl
        clear h1 hrm
        go_enter_defers Tryz.func30, Tryz.ntmps30
        go_wp2_with (first | (go_at_call 42; refine (lock_free muLib ⟨b, 0, none⟩ _ c0 f0).mono ?_; rintro e w1 ⟨rfl, rfl⟩) | (go_at_call 62; refine (oisName_calls _ _).mono ?_; rintro e w' ⟨rfl, hw⟩; obtain rfl := hw.symm) | (go_at_call 63; refine (oScount_calls l.length a c b 3 _ (blk_cell (unhide HB) rfl)).mono ?_; rintro e w' ⟨rfl, rfl⟩) | (go_at_call 64; refine (oShas_calls l _ x b 3 0 _ hl8 (unhide HO) (blk_cell (unhide HB) rfl) (by simpa using hbl)).mono ?_; rintro e w2 ⟨rfl, hb2⟩; have HB2 := hide hb2; clear hb2) | (go_at_call 65; refine (oClone_calls f _ hf1000).mono ?_; rintro e w3 ⟨rfl, hb3⟩; have HB3 : Hid (Below (w.setCell ⟨b, 0, none⟩ (.int .i32 1)).heap.size (w.setCell ⟨b, 0, none⟩ (.int .i32 1)) w3) := (unhide HB2).trans (hb3.mono (unhide HB2).size); clear hb3) | (go_at_call 49; refine (okeep_no l (.slice a l.length c) x f b room _ hl8 (((unhide HB3).block b (by simpa using hbl)).trans (unhide HB)) (owns_all (unhide HO) (unhide HB3)) (unhide H3) hx1000 (unhide HRM)).mono ?_; rintro e w4 ⟨rfl, hb4⟩))
        have hb5 := (unhide HB3).trans (hb4.mono (unhide HB3).size)
        refine leaves_cons (f := 43) (args := #[.pointer (some ⟨b, 0, none⟩)]) (by simp) (by simp [go_sem]) ?_
        refine (unlock_deferred muLib ⟨b, 0, none⟩ .returning _ ?_ ?_).mono ?_
        · exact (hb5.cell (p := ⟨b, 0, none⟩) (by simpa using hbl)).trans (blk_cell (unhide HB) rfl)
        · exact (hb5.frozen (p := ⟨b, 0, none⟩) (by simpa using hbl)).trans (blk_frozen (unhide HB) 0)
        rintro e u' w'' ⟨rfl, rfl, rfl⟩
        refine ⟨_, results_tmp rfl _ _ _, ?_, ?_⟩
        · rw [unhide HL]; rfl
        · rw [unhide HL]; exact OvLeft.quiet (unhide HR) hb5
      · have h1 : addUp x f.size l ≤ (room : Int) := by omega
        have HRM := hide h1
        have HL : Hid (Ov.loadF room l x f = (0, Ov.withF l x f)) := by
          rw [unhide HLP]; unfold Ov.putF; rw [if_neg (by rw [addUp_total (unhide HI) x f hf1000] at h1; omega)]; exact rfl
        clear h1 hrm
        go_enter_defers Tryz.func30, Tryz.ntmps30
        go_wp2_with (first | (go_at_call 42; refine (lock_free muLib ⟨b, 0, none⟩ _ c0 f0).mono ?_; rintro e w1 ⟨rfl, rfl⟩) | (go_at_call 62; refine (oisName_calls _ _).mono ?_; rintro e w' ⟨rfl, hw⟩; obtain rfl := hw.symm) | (go_at_call 63; refine (oScount_calls l.length a c b 3 _ (blk_cell (unhide HB) rfl)).mono ?_; rintro e w' ⟨rfl, rfl⟩) | (go_at_call 64; refine (oShas_calls l _ x b 3 0 _ hl8 (unhide HO) (blk_cell (unhide HB) rfl) (by simpa using hbl)).mono ?_; rintro e w2 ⟨rfl, hb2⟩; have HB2 := hide hb2; clear hb2) | (go_at_call 65; refine (oClone_calls f _ hf1000).mono ?_; rintro e w3 ⟨rfl, hb3⟩; have HB3 : Hid (Below (w.setCell ⟨b, 0, none⟩ (.int .i32 1)).heap.size (w.setCell ⟨b, 0, none⟩ (.int .i32 1)) w3) := (unhide HB2).trans (hb3.mono (unhide HB2).size); clear hb3) | (go_at_call 49; refine (okeep_yes l (.slice a l.length c) x f b room _ hl8 (((unhide HB3).block b (by simpa using hbl)).trans (unhide HB)) (owns_all (unhide HO) (unhide HB3)) (unhide H3) hx1000 (unhide HRM)).mono ?_; rintro e w4 ⟨rfl, v4, hp4⟩))
        refine leaves_cons (f := 43) (args := #[.pointer (some ⟨b, 0, none⟩)]) (by simp) (by simp [go_sem]) ?_
        refine (unlock_deferred muLib ⟨b, 0, none⟩ .returning _ ?_ ?_).mono ?_
        · exact blk_cell hp4.blk rfl
        · exact blk_frozen hp4.blk 0
        rintro e u' w'' ⟨rfl, rfl, rfl⟩
        refine ⟨_, results_tmp rfl _ _ _, ?_, ?_⟩
        · rw [unhide HL]; rfl
        · rw [unhide HL]; exact OvLeft.turn (unhide HR) (unhide HB3) (unhide H4) hp4
    · have Hh : Ov.has l x = false := by unfold Ov.has; exact decide_eq_false hp
      have HL : Hid (Ov.loadF room l x f = (1, l)) := by unfold Ov.loadF; rw [if_neg (by rw [hn]; simp), if_pos (Or.inr ⟨by omega, hp⟩)]; exact rfl
      go_enter_defers Tryz.func30, Tryz.ntmps30
      go_wp2_with (first | (go_at_call 42; refine (lock_free muLib ⟨b, 0, none⟩ _ c0 f0).mono ?_; rintro e w1 ⟨rfl, rfl⟩) | (go_at_call 62; refine (oisName_calls _ _).mono ?_; rintro e w' ⟨rfl, hw⟩; obtain rfl := hw.symm) | (go_at_call 63; refine (oScount_calls l.length a c b 3 _ (blk_cell (unhide HB) rfl)).mono ?_; rintro e w' ⟨rfl, rfl⟩) | (go_at_call 64; refine (oShas_calls l _ x b 3 0 _ hl8 (unhide HO) (blk_cell (unhide HB) rfl) (by simpa using hbl)).mono ?_; rintro e w2 ⟨rfl, hb2⟩; have HB2 := hide hb2; clear hb2))
      refine leaves_cons (f := 43) (args := #[.pointer (some ⟨b, 0, none⟩)]) (by simp) (by simp [go_sem]) ?_
      refine (unlock_deferred muLib ⟨b, 0, none⟩ .returning _ ?_ ?_).mono ?_
      · exact ((unhide HB2).cell (p := ⟨b, 0, none⟩) (by simpa using hbl)).trans (blk_cell (unhide HB) rfl)
      · exact ((unhide HB2).frozen (p := ⟨b, 0, none⟩) (by simpa using hbl)).trans (blk_frozen (unhide HB) 0)
      rintro e u' w'' ⟨rfl, rfl, rfl⟩
      refine ⟨_, results_tmp rfl _ _ _, ?_, ?_⟩
      · rw [unhide HL]; rfl
      · rw [unhide HL]; exact OvLeft.quiet (unhide HR) (unhide HB2)
  · have hd8 : decide ((8 : Int) ≤ (l.length : Int)) = false := decide_eq_false (by omega)
    have HLP : Hid (Ov.loadF room l x f = Ov.putF room l (Ov.withF l x f)) := by unfold Ov.loadF; rw [if_neg (by rw [hn]; simp), if_neg (by omega)]; exact rfl
    by_cases hrm : (room : Int) < addUp x f.size l
    · have h1 := hrm
      have HRM := hide hrm
      have HL : Hid (Ov.loadF room l x f = (9, l)) := by
        rw [unhide HLP]; unfold Ov.putF; rw [if_pos (by rw [addUp_total (unhide HI) x f hf1000] at h1; omega)]; exact rfl
      clear h1 hrm
      go_enter_defers Tryz.func30, Tryz.ntmps30
      go_wp2_with (first | (go_at_call 42; refine (lock_free muLib ⟨b, 0, none⟩ _ c0 f0).mono ?_; rintro e w1 ⟨rfl, rfl⟩) | (go_at_call 62; refine (oisName_calls _ _).mono ?_; rintro e w' ⟨rfl, hw⟩; obtain rfl := hw.symm) | (go_at_call 63; refine (oScount_calls l.length a c b 3 _ (blk_cell (unhide HB) rfl)).mono ?_; rintro e w' ⟨rfl, rfl⟩) | (go_at_call 65; refine (oClone_calls f _ hf1000).mono ?_; rintro e w3 ⟨rfl, hb3⟩; have HB3 : Hid (Below (w.setCell ⟨b, 0, none⟩ (.int .i32 1)).heap.size (w.setCell ⟨b, 0, none⟩ (.int .i32 1)) w3) := hb3; clear hb3) | (go_at_call 49; refine (okeep_no l (.slice a l.length c) x f b room _ hl8 (((unhide HB3).block b (by simpa using hbl)).trans (unhide HB)) (owns_all (unhide HO) (unhide HB3)) (unhide H3) hx1000 (unhide HRM)).mono ?_; rintro e w4 ⟨rfl, hb4⟩))
      have hb5 := (unhide HB3).trans (hb4.mono (unhide HB3).size)
      refine leaves_cons (f := 43) (args := #[.pointer (some ⟨b, 0, none⟩)]) (by simp) (by simp [go_sem]) ?_
      refine (unlock_deferred muLib ⟨b, 0, none⟩ .returning _ ?_ ?_).mono ?_
      · exact (hb5.cell (p := ⟨b, 0, none⟩) (by simpa using hbl)).trans (blk_cell (unhide HB) rfl)
      · exact (hb5.frozen (p := ⟨b, 0, none⟩) (by simpa using hbl)).trans (blk_frozen (unhide HB) 0)
      rintro e u' w'' ⟨rfl, rfl, rfl⟩
      refine ⟨_, results_tmp rfl _ _ _, ?_, ?_⟩
      · rw [unhide HL]; rfl
      · rw [unhide HL]; exact OvLeft.quiet (unhide HR) hb5
    · have h1 : addUp x f.size l ≤ (room : Int) := by omega
      have HRM := hide h1
      have HL : Hid (Ov.loadF room l x f = (0, Ov.withF l x f)) := by
        rw [unhide HLP]; unfold Ov.putF; rw [if_neg (by rw [addUp_total (unhide HI) x f hf1000] at h1; omega)]; exact rfl
      clear h1 hrm
      go_enter_defers Tryz.func30, Tryz.ntmps30
      go_wp2_with (first | (go_at_call 42; refine (lock_free muLib ⟨b, 0, none⟩ _ c0 f0).mono ?_; rintro e w1 ⟨rfl, rfl⟩) | (go_at_call 62; refine (oisName_calls _ _).mono ?_; rintro e w' ⟨rfl, hw⟩; obtain rfl := hw.symm) | (go_at_call 63; refine (oScount_calls l.length a c b 3 _ (blk_cell (unhide HB) rfl)).mono ?_; rintro e w' ⟨rfl, rfl⟩) | (go_at_call 65; refine (oClone_calls f _ hf1000).mono ?_; rintro e w3 ⟨rfl, hb3⟩; have HB3 : Hid (Below (w.setCell ⟨b, 0, none⟩ (.int .i32 1)).heap.size (w.setCell ⟨b, 0, none⟩ (.int .i32 1)) w3) := hb3; clear hb3) | (go_at_call 49; refine (okeep_yes l (.slice a l.length c) x f b room _ hl8 (((unhide HB3).block b (by simpa using hbl)).trans (unhide HB)) (owns_all (unhide HO) (unhide HB3)) (unhide H3) hx1000 (unhide HRM)).mono ?_; rintro e w4 ⟨rfl, v4, hp4⟩))
      refine leaves_cons (f := 43) (args := #[.pointer (some ⟨b, 0, none⟩)]) (by simp) (by simp [go_sem]) ?_
      refine (unlock_deferred muLib ⟨b, 0, none⟩ .returning _ ?_ ?_).mono ?_
      · exact blk_cell hp4.blk rfl
      · exact blk_frozen hp4.blk 0
      rintro e u' w'' ⟨rfl, rfl, rfl⟩
      refine ⟨_, results_tmp rfl _ _ _, ?_, ?_⟩
      · rw [unhide HL]; rfl
      · rw [unhide HL]; exact OvLeft.turn (unhide HR) (unhide HB3) (unhide H4) hp4
end Go.Proofs.YtdcmmmggiokbhaaGreatDoor
