/- The program's keep. -/
import Derived.Test.YtomiepknmmpflaaGreatDoorCWOCopy
namespace Go.Proofs.YtomiepknmmpflaaGreatDoor
open Go.RowKit Go.Joins Go.Shelf

attribute [local go_sem] Oper.semAt_some

/-- All files that are put in, one after another. -/
def withAll (l ch : Ov.Files) : Ov.Files := ch.foldl (fun l f => Ov.withF l f.1 f.2) l
theorem withAll_snoc (l pre : Ov.Files) (f : ByteArray × ByteArray) : withAll l (pre ++ [f]) = Ov.withF (withAll l pre) f.1 f.2 := by simp [withAll]
theorem withF_more (l : Ov.Files) (x f : ByteArray) : l.length ≤ (Ov.withF l x f).length := by rw [Ov.withF_length]; split <;> omega
theorem withAll_more (ch : Ov.Files) : ∀ l : Ov.Files, l.length ≤ (withAll l ch).length := by
  induction ch with
  | nil => exact fun l => Nat.le_refl _
  | cons f ch ih => exact fun l => Nat.le_trans (withF_more l f.1 f.2) (ih _)
theorem withAll_take (l ch : Ov.Files) (n : Nat) : (withAll l (ch.take n)).length ≤ (withAll l ch).length := by
  have e : withAll l ch = withAll (withAll l (ch.take n)) (ch.drop n) := by
    unfold withAll
    rw [← List.foldl_append, List.take_append_drop]
  rw [e]; exact withAll_more _ _
/-- What keep adds up, round by round. -/
def addLens (pre : List (ByteArray × ByteArray)) : Int := pre.foldl (fun t f => wrap64 (t + (f.2.size : Int))) 0
theorem addLens_snoc (pre : List (ByteArray × ByteArray)) (f : ByteArray × ByteArray) : addLens (pre ++ [f]) = wrap64 (addLens pre + (f.2.size : Int)) := by simp [addLens]

/-- Where nothing panics and nothing leaves: only what follows is asked. -/
def NQ (K : Act → World → Prop) : Exit → Act → World → Prop
  | .normal, a, w => K a w
  | _, _, _ => False
theorem wp_calm {P : Program} {c : Code} {K : Act → World → Prop} {Q' : Exit → Act → World → Prop} {a : Act} {w : World} (h : c.wp P (NQ K) a w) : c.wp P (Exit.then K Q') a w :=
  wp_mono h (by intro e a' w' hq; cases e <;> first | exact hq | exact hq.elim)
/-- A block that is no cells lies on through put. -/
theorem put_defers {w w3 : World} {b off D : Nat} {cs : Array Value} {t : TypeId} {v v3 : Value} {l l0 : Ov.Files} {o : Obj} (hp : PutLeft w b off cs t v l v3 w3) (hD : w.heap[D]? = some o) (ho : o.isCells = false) (hb : ∃ cs0 t0 fr, w.heap[b]? = some (.cells cs0 t0 fr)) (hown : OwnsRows w 0 v l0) : w3.heap[D]? = some o := by
  rw [hp.fr.block D (blk_lt hD) ?_ ?_]
  · exact hD
  · rintro rfl
    obtain ⟨cs0, t0, fr, hb⟩ := hb
    rw [hb] at hD; cases hD; cases ho
  · intro e
    rcases hown.2 with ⟨rfl, _⟩ | ⟨g, cap, cur, rfl, _, hg, _⟩
    · cases e
    · simp only [Value.ownBlock, Option.some.injEq] at e
      subst e
      rw [hg] at hD; cases hD; cases ho
theorem put_after {w W w3 : World} {b off D : Nat} {cs : Array Value} {t : TypeId} {v v3 : Value} {l : Ov.Files} {o o' : Obj} (hB : Below w.heap.size w W) (hp : PutLeft W b off cs t v l v3 w3) (hD : w3.heap[D]? = some o) (ho : o.isCells = false) (hDs : w.heap.size ≤ D) : PutLeft w b off cs t v l v3 (w3.putObj D o') := by
  have hg := grownBy_putObj' w3 D o'
  have hbD : b ≠ D := fun e => by
    have := hp.blk
    rw [e, hD] at this; cases this; cases ho
  refine ⟨?_, ownsRow_putObj hp.own o' hD ho, hp.ne, ?_, ?_⟩
  · rw [hg.block b (blk_lt hp.blk) (by simp [hbD])]; exact hp.blk
  · have f1 := (OFr.of_below hB b v.ownBlock).trans hp.fr
    refine ⟨hg.os.trans f1.os, hg.tape.trans f1.tape, hg.output.trans f1.output, Nat.le_trans f1.size hg.size, fun k hk hkb hkr => ?_⟩
    rw [hg.block k (Nat.lt_of_lt_of_le hk f1.size) (by simp; omega)]
    exact f1.block k hk hkb hkr
  · rcases hp.row with e | e
    · exact Or.inl e
    · exact Or.inr fun k hk => Nat.le_trans hB.size (e k hk)

/-- The copy that keep works on, at block ba. -/
structure Aft (w : World) (ba : Nat) (L : Ov.Files) (W : World) : Prop where
  below : Below w.heap.size w W
  lt : w.heap.size ≤ ba
  row : ∃ a c, W.heap[ba]? = some (.cells #[.slice a L.length c] 75 (0, 0)) ∧ OwnsRows W 0 (.slice a L.length c) L ∧ some ba ≠ (Value.slice a L.length c).ownBlock ∧ ∀ k, (Value.slice a L.length c).ownBlock = some k → w.heap.size ≤ k
theorem Aft.kept {w W W' : World} {ba : Nat} {L : Ov.Files} (h : Aft w ba L W) (hb : Below W.heap.size W W') : Aft w ba L W' := by
  obtain ⟨a, c, h1, h2, h3, h4⟩ := h.row
  exact ⟨h.below.trans (hb.mono h.below.size), h.lt, a, c, by rw [hb.block ba (blk_lt h1)]; exact h1, owns_all h2 hb, h3, h4⟩
theorem Aft.put {w W W' : World} {ba : Nat} {L L' : Ov.Files} {v v' : Value} (h : Aft w ba L W) (hv : ∀ k, v.ownBlock = some k → w.heap.size ≤ k) (hp : PutLeft W ba 0 #[v] 75 v L' v' W') : Aft w ba L' W' := by
  obtain ⟨a, c, rfl⟩ := owns_slice hp.own
  refine ⟨⟨hp.fr.os.trans h.below.os, hp.fr.tape.trans h.below.tape, hp.fr.output.trans h.below.output, Nat.le_trans h.below.size hp.fr.size, fun k hk => ?_⟩, h.lt, a, c, hp.blk, hp.own, hp.ne, fun k hk => ?_⟩
  · have hlt := h.lt
    have hsz := h.below.size
    rw [hp.fr.block k (by omega) (by omega) (fun e => by have := hv k e.symm; omega)]
    exact h.below.block k hk
  · rcases hp.row with e | e
    · exact hv k (e ▸ hk)
    · exact Nat.le_trans h.below.size (e k hk)
/-- What keep leaves: the copy in the place of the files. -/
theorem Aft.left {w W : World} {b : Nat} {L : Ov.Files} {cs : Array Value} {t : TypeId} {v : Value} {a : Option Addr} {c : Nat} (hb : w.heap[b]? = some (.cells cs t (0, 0))) (hB : Below w.heap.size w W) (h2 : OwnsRows W 0 (.slice a L.length c) L) (h4 : ∀ k, (Value.slice a L.length c).ownBlock = some k → w.heap.size ≤ k) : PutLeft w b 3 cs t v L (.slice a L.length c) (W.setCell ⟨b, 3, none⟩ (.slice a L.length c)) := by
  have hbl := blk_lt hb
  have hne : some b ≠ (Value.slice a L.length c).ownBlock := fun e => by have := h4 b e.symm; omega
  exact ⟨blk_set_same ((hB.block b hbl).trans hb) _, owns_set h2 (a := ⟨b, 3, none⟩) hne _, hne, (OFr.of_below hB _ _).trans (OFr.set_blk W b 3 _ _), Or.inr h4⟩

set_option maxRecDepth 100000 in
set_option maxHeartbeats 4000000 in
theorem okeep_in (l ch : Ov.Files) (v : Value) (g b room : Nat) (w : World) (hl : (withAll l ch).length ≤ 8) (hc2 : ch.length ≤ 2) (hblk : w.heap[b]? = some (.cells #[.int .i32 1, .int .u32 0, .int .i64 room, v] 77 (0, 0))) (hown : OwnsRows w 0 v l) (hch : OwnsRows w 0 (.slice (some ⟨g, 0, none⟩) ch.length ch.length) ch) (hx : ∀ f ∈ ch, f.1.size ≤ 1000) :
    Calls Tryz.prog 53 #[.pointer (some ⟨b, 0, none⟩), .slice (some ⟨g, 0, none⟩) ch.length ch.length] w fun e w' => ((room : Int) < addLens (withAll l ch) ∧ e = .returned (.int .i64 9) ∧ Below w.heap.size w w') ∨ (addLens (withAll l ch) ≤ (room : Int) ∧ e = .returned (.int .i64 0) ∧ ∃ v', PutLeft w b 3 #[.int .i32 1, .int .u32 0, .int .i64 room, v] 77 v (withAll l ch) v' w') := by
  obtain ⟨va, vc, rfl⟩ := owns_slice hown
  have HB := hide hblk
  have HO := hide hown
  have HC := hide hch
  have HX := hide hx
  have hbl := blk_lt hblk
  have hc3 : w.cell? ⟨b, 3, none⟩ = some (.slice va l.length vc) := blk_cell hblk rfl
  have hl0 : l.length ≤ 8 := Nat.le_trans (withAll_more ch l) hl
  have HL := hide hl
  clear hblk hown hch hx hl
  refine (callsIn_wide (n := 6)).1 ?_
  have hro : Fence.wide.round = none := rfl
  refine callsIn_of_wp_marks Tryz.func53 rfl trivial ?_ hro
  simp only [Tryz.ntmps53, List.size_toArray, List.length_cons, List.length_nil, Nat.reduceAdd, Nat.reduceSub, Array.replicate_succ, Array.replicate_zero, List.push_toArray, List.append_toArray, List.nil_append, List.cons_append]
  have hfA : Fence.wide.fn 94 := trivial
  have hfB : Fence.wide.fn 146 := trivial
  have hfC : Fence.wide.fn 92 := trivial
  have hfP : Fence.wide.fn 93 := trivial
  gi_wp2_with (gi_at_call 92; refine ((callsIn_wide (n := _)).2 (oScopied_calls l _ b 3 _ hl0 (unhide HO) hc3 hbl)).mono ?_; rintro e w1 ⟨a1, c1, rfl, ho1, hb1⟩)
  have hA0 : Aft w w1.heap.size l (w1.alloc (.cells #[.slice a1 l.length c1] 75)) := ⟨hb1.alloc hb1.size _, hb1.size, a1, c1, heap_alloc_new w1 _, (ownsRow_le ho1 (Nat.zero_le _)).alloc _, fun e => by have := (ho1.lt _ e.symm).2; omega, fun k hk => (ho1.lt k hk).1⟩
  have HA0 := hide hA0
  have hgl := ((unhide HC).lt g rfl).2
  clear hA0 ho1 hb1
  gi_loopw [17, 7] (fun i _ wr => ∃ n : Nat, n ≤ ch.length ∧ i = .int .i64 n ∧ Aft w w1.heap.size (withAll l (ch.take n)) wr) (fun i _ _ => ch.length - (intOf i).toNat)
  case atStart => exact ⟨0, Nat.zero_le _, rfl, unhide HA0⟩
  case round =>
    obtain ⟨n, hn, rfl, hA⟩ := hrel
    by_cases hlt : n < ch.length
    · have cn : wr.cell? ⟨g, n * 2, none⟩ = some (.string (Ov.nameAt ch n)) := (hA.below.cell (p := ⟨g, n * 2, none⟩) hgl).trans (rows_name (unhide HC) hlt)
      have ct : wr.cell? ⟨g, n * 2 + 1, none⟩ = some (.string (Ov.fileAt ch n)) := (hA.below.cell (p := ⟨g, n * 2 + 1, none⟩) hgl).trans (rows_bytes (unhide HC) hlt)
      have HSN := hide (take_snoc_files hlt)
      have hxn : (Ov.nameAt ch n).size ≤ 1000 := by
        obtain ⟨q, hq, e⟩ := Ov.nameAt_mem hlt
        rw [e]; exact unhide HX q hq
      have hln := Nat.le_trans (withAll_take l ch n) (unhide HL)
      obtain ⟨L, hLe⟩ : ∃ L, withAll l (ch.take n) = L := ⟨_, rfl⟩
      obtain ⟨x, hxe⟩ : ∃ x, Ov.nameAt ch n = x := ⟨_, rfl⟩
      obtain ⟨f, hfe⟩ : ∃ f, Ov.fileAt ch n = f := ⟨_, rfl⟩
      rw [hLe] at hA hln
      rw [hxe] at cn hxn HSN
      rw [hfe] at ct HSN
      have hAa := hA.kept (below_alloc1 wr (.cells #[.string x, .string f] 97))
      obtain ⟨va2, vc2, h1, h2, h3, h4⟩ := hAa.row
      have HAA := hide hAa
      have H1 := hide h1
      have H2 := hide h2
      have H3 := hide h3
      have H4 := hide h4
      have HLE := hide hLe
      clear hA hAa h1 h2 h3 h4 hLe hxe hfe
      gi_wp2_with (gi_at_call 93; refine ((callsIn_wide (n := _)).2 (oSput_calls L _ x f w1.heap.size 0 #[.slice va2 L.length vc2] 75 _ hln (by exact unhide H1) rfl (by exact unhide H2) (unhide H3) hxn)).mono ?_; rintro e w3 ⟨rfl, v3, hp3⟩)
      go_roundw
      case rel => exact ⟨n + 1, by omega, by simp, by rw [unhide HSN, withAll_snoc, unhide HLE]; exact (unhide HAA).put (unhide H4) hp3⟩
      case measure => simp [intOf]; omega
    · obtain rfl : n = ch.length := by omega
      rw [List.take_length] at hA
      obtain ⟨L, hLe⟩ : ∃ L, withAll l ch = L := ⟨_, rfl⟩
      have hln := unhide HL
      rw [hLe] at hA hln
      have HLE := hide hLe
      obtain ⟨va2, vc2, h1, h2, h3, h4⟩ := hA.row
      have HA := hide hA
      have H1 := hide h1
      have H2 := hide h2
      have H3 := hide h3
      have H4 := hide h4
      clear hA h1 h2 h3 h4 hLe
      gi_wp2_with (gi_at_call 94; refine (oSall_in Fence.wide _ hfA hro _ _).mono ?_; rintro e w' ⟨rfl, rfl⟩)
      have bT := Boxed.new wr 3 (.int .i64 0)
      have bP := Boxed.new (wr.alloc (.cells #[.int .i64 0] 3)) 168 (.pointer (some ⟨w1.heap.size, 0, none⟩))
      simp only [World.size_alloc] at bP
      have hB0 := below_alloc2 wr (.cells #[.int .i64 0] 3) (.cells #[.pointer (some ⟨w1.heap.size, 0, none⟩)] 168)
      have hbl1 : w1.heap.size < wr.heap.size := blk_lt (unhide H1)
      have hcv := (hB0.cell (p := ⟨w1.heap.size, 0, none⟩) hbl1).trans (blk_cell (i := 0) (unhide H1) rfl)
      have HOw := owns_all (unhide H2) hB0
      have hwz := (unhide HA).below.size
      refine wpIn_rangeFunc_ownG hro (by decide) (gf := 146) (lb := #[.pointer (some ⟨wr.heap.size + 1, 0, none⟩)]) rfl hfB (enters_of Tryz.func146 (by kernel_rfl) rfl)
        (oSall_stops Fence.wide _ hfB hro (by decide) (wr.heap.size + 1) wr.heap.size w1.heap.size 0 (.slice va2 L.length vc2) L hln _ (by simp) (by simp; omega) hbl1 bP.cell hcv HOw (fun k hk => ((unhide H2).lt k hk).2)) belowK_t (belowK_b (by simp; omega)) (Below.refl _ _) (fun _ => rfl)
        (fun pre W => (W.cell? ⟨wr.heap.size, 0, none⟩ = some (.int .i64 (addLens pre)) ∧ W.frozen? ⟨wr.heap.size, 0, none⟩ = false) ∧ Below wr.heap.size wr W)
        (fun _ _ _ => False)
        (OwnFrom.and (Own.from (fun s A B row hs hg hr => ⟨cell_kept hs.1 hg hr, (frozen_kept hs.1 hg hr).trans hs.2⟩) _) (ownFrom_below (Nat.le_refl _) (by simp; omega)))
        (fun _ _ _ _ _ hs _ _ => hs)
        ⟨⟨(bT.alloc _).cell, (bT.alloc _).frozen⟩, hB0⟩
        (fun o => { tmps := #[.pointer (some ⟨b, 0, none⟩), .slice (some ⟨g, 0, none⟩) ch.length ch.length, undef, undef, .int .i64 0, .pointer (some ⟨w1.heap.size, 0, none⟩), undef, u7, .pointer (some ⟨wr.heap.size, 0, none⟩), undef, .string o.2, .pointer (some ⟨b, 0, none⟩), .pointer (some ⟨b, 0, none⟩), .pointer (some ⟨b, 3, none⟩), .agg #[.slice a1 l.length c1], .slice (some ⟨g, 0, none⟩) ch.length ch.length, .int .i64 (ch.length : Nat), .int .i64 (ch.length : Nat), .bool false, u19, u20, u21, u22, u23, u24, u25, u26, .func (.func 146) #[] #[.pointer (some ⟨wr.heap.size + 1, 0, none⟩)], .string o.1, .string o.2, undef, undef, undef, undef, undef, undef, undef, undef, undef, undef, undef, undef, undef, undef], defers := [] }) ?assign ?body ?done ?stop
      case assign =>
        intro y o W K hK
        gi_wp2
        exact hK
      case body =>
        rintro y pre o W ⟨⟨hc, hf⟩, hB⟩ _
        have Hsn : Hid (addLens (pre ++ [o]) = wrap64 (addLens pre + (o.2.size : Int))) := addLens_snoc pre o
        gi_wp2
        exact ⟨(KeepsOthers.setCell _ _ _).from _, (Below.refl wr.heap.size W).setCell (p := ⟨wr.heap.size, 0, none⟩) (by simp) _, ⟨by rw [unhide Hsn]; exact World.cell?_setCell_same' _ _ _ (by rw [hc]; rfl), by rw [World.frozen?_setCell]; exact hf⟩, hB.setCell (p := ⟨wr.heap.size, 0, none⟩) (by simp) _⟩
      case done =>
        rintro D ys W hD rfl ⟨⟨hc, _⟩, hB⟩ hK
        have hBW : Below w.heap.size w W := (unhide HA).below.trans (hB.mono hwz)
        have hroom : W.cell? ⟨b, 2, none⟩ = some (.int .i64 room) := (hBW.cell (p := ⟨b, 2, none⟩) hbl).trans (blk_cell (unhide HB) rfl)
        have hfz : W.frozen? ⟨b, 3, none⟩ = false := (hBW.frozen (p := ⟨b, 3, none⟩) hbl).trans (blk_frozen (unhide HB) 3)
        have hce : W.cell? ⟨b, 3, none⟩ = some (.slice va l.length vc) := (hBW.cell (p := ⟨b, 3, none⟩) hbl).trans (blk_cell (unhide HB) rfl)
        have hca : W.cell? ⟨w1.heap.size, 0, none⟩ = some (.slice va2 ys.length vc2) := (hB.cell (p := ⟨w1.heap.size, 0, none⟩) hbl1).trans (blk_cell (unhide H1) rfl)
        obtain ⟨T, hT⟩ : ∃ T, addLens ys = T := ⟨_, rfl⟩
        rw [hT] at hc
        have HT := hide hT
        clear hT
        have hDs : w.heap.size ≤ D := by simp at hD; omega
        have HBW := hide hBW
        have HOW := hide (owns_all (unhide H2) hB)
        clear hBW
        by_cases hfull : (room : Int) < T
        · gi_wp2
          gi_region
          all_goals gi_wp2
          refine ⟨by simp, .inl ⟨_, _, rfl, run_takeDeferred (w := W.drew) hK, ?_⟩⟩
          exact ⟨_, results_tmp rfl _ _ _, Or.inl ⟨by rw [unhide HLE, unhide HT]; exact hfull, rfl, (unhide HBW).drew.trans (belowK_b (w := w) (Nat.le_refl _) W.drew D _ _ hDs hK rfl rfl)⟩⟩
        · gi_wp2
          gi_region
          all_goals gi_wp2
          have hpl := Aft.left (v := .slice va l.length vc) (unhide HB) (unhide HBW).drew (owns_all (unhide HOW) ((Below.refl _ W).drew)) (unhide H4)
          have hK3 : (W.drew.setCell ⟨b, 3, none⟩ (.slice va2 ys.length vc2)).heap[D]? = some _ := (Below.heap_setCell _ _ _ _ (show D ≠ b by omega)).trans hK
          refine ⟨by simp, .inl ⟨_, _, rfl, run_takeDeferred hK3, ?_⟩⟩
          exact ⟨_, results_tmp rfl _ _ _, Or.inr ⟨by rw [unhide HLE, unhide HT]; omega, rfl, _, by rw [unhide HLE]; exact put_after (Below.refl _ _) hpl hK3 rfl hDs⟩⟩
      case stop =>
        rintro D c pre W _ _ h _
        exact h.elim

end Go.Proofs.YtomiepknmmpflaaGreatDoor
