/- The law's steps: pick, made. -/
import Derived.Test.YtomiepknmmpflaaGreatDoorCWLaw
namespace Go.Proofs.YtomiepknmmpflaaGreatDoor
open Go.RowKit Go.Joins

theorem StOk.same {w w' : World} {B : Nat} {s : St} (h : StOk w B s) (hk : ∀ (k : Nat) (cs : Array Value) (t : TypeId), w.heap[k]? = some (Obj.cells cs t (0, 0)) → t ≠ 127 → t ≠ 60 → w'.heap[k]? = w.heap[k]?) : StOk w' B s := by
  obtain ⟨c, hc⟩ := h.ov.blk
  obtain ⟨d, hd⟩ := h.ref.blk
  exact ⟨h.ov.of_blocks (hk _ _ _ hc (by decide) (by decide)) (fun k e => by
    obtain ⟨f, hf⟩ := h.ov.row e
    exact hk _ _ _ hf (by decide) (by decide)), h.ref.of_blocks (hk _ _ _ hd (by decide) (by decide)) (fun k cs e => hk _ _ _ e (by decide) (by decide)), h.li, h.bx, h.ry, h.rx⟩
/-- A new pair. -/
theorem st_new (w : World) (B n : Nat) (hB : B ≤ w.heap.size) (hn : n ≤ 4000) : StOk ((w.alloc (.cells #[.int .i32 0, .int .u32 0, .int .i64 n, .slice none 0 0] 77)).alloc (.cells #[.int .i64 n, .slice none 0 0] 180)) B ⟨w.heap.size, none, w.heap.size + 1, n, []⟩ := by
  refine ⟨⟨.slice none 0 0, blk_alloc (blk_new w _) _, World.ownsRow_nil _ _ _ _, by simp [Value.ownBlock], rfl⟩, ⟨.slice none 0 0, blk_new1 w _ _, World.ownsRow_nil _ _ _ _, by simp [Value.ownBlock]⟩, ⟨by simp, fun j hj => by simp at hj, hn, fun j hj => by simp at hj, List.nodup_nil⟩, hB, by show B ≤ w.heap.size + 1; omega, fun k hk => by cases hk⟩
/-- The pair is put behind the others. -/
theorem LW.add {w w3 : World} {B wb n : Nat} {s0 s1 s2 s3 : Addr} {v v' : Value} {S : List St} {o : Obj} (h : LW w B wb s0 s1 s2 s3 v S) (hn : n ≤ 4000)
    (hg : (((w.alloc (.cells #[.int .i32 0, .int .u32 0, .int .i64 n, .slice none 0 0] 77)).alloc (.cells #[.int .i64 n, .slice none 0 0] 180)).alloc o).grownBy w3 v.ownBlock)
    (ho : w3.ownsRow B 127 2 v' (S.length + 1) (prCells S ++ [.pointer (some ⟨w.heap.size, 0, none⟩), .pointer (some ⟨w.heap.size + 1, 0, none⟩)])) :
    LW (w3.setCell ⟨wb, 0, none⟩ v') B wb s0 s1 s2 s3 v' (S ++ [⟨w.heap.size, none, w.heap.size + 1, n, []⟩]) ∧ w3.heap[wb]? = some (.cells #[v] 60 (0, 0)) ∧ Below B w (w3.setCell ⟨wb, 0, none⟩ v') := by
  have hBs := h.un.se.size
  have hb3 : Below w.heap.size w (((w.alloc (.cells #[.int .i32 0, .int .u32 0, .int .i64 n, .slice none 0 0] 77)).alloc (.cells #[.int .i64 n, .slice none 0 0] 180)).alloc o) := below_alloc3 w _ _ _
  have h3 := h.kept hb3
  have hwb : w3.heap[wb]? = some (.cells #[v] 60 (0, 0)) := by
    rw [hg.block wb (blk_lt h3.blk) (own_ne h3.own h3.blk (by decide))]; exact h3.blk
  have bB : Below B (((w.alloc (.cells #[.int .i32 0, .int .u32 0, .int .i64 n, .slice none 0 0] 77)).alloc (.cells #[.int .i64 n, .slice none 0 0] 180)).alloc o) (w3.setCell ⟨wb, 0, none⟩ v') :=
    ((Below.refl B _).grown hg h3.un.se.size (fun k hk => (h3.own.lt k hk).1)).setCell (p := ⟨wb, 0, none⟩) h.wb _
  have same : ∀ (k : Nat) (cs : Array Value) (t : TypeId), (((w.alloc (.cells #[.int .i32 0, .int .u32 0, .int .i64 n, .slice none 0 0] 77)).alloc (.cells #[.int .i64 n, .slice none 0 0] 180)).alloc o).heap[k]? = some (Obj.cells cs t (0, 0)) → t ≠ 127 → t ≠ 60 → (w3.setCell ⟨wb, 0, none⟩ v').heap[k]? = (((w.alloc (.cells #[.int .i32 0, .int .u32 0, .int .i64 n, .slice none 0 0] 77)).alloc (.cells #[.int .i64 n, .slice none 0 0] 180)).alloc o).heap[k]? := fun k cs t hk t1 t2 => by
    have e1 := hg.block k (blk_lt hk) (own_ne h3.own hk t1)
    rw [Below.heap_setCell _ _ _ _ (fun e => blk_two (e1.trans hk) hwb t2 e)]
    exact e1
  refine ⟨⟨h3.un.kept bB, blk_set_same (i := 0) hwb v', ?_, ?_, ?_, h.wb⟩, hwb, (hb3.mono hBs).trans bB⟩
  · rw [prCells_append, List.length_append]
    exact owns_set ho (own_ne ho hwb (by decide)) v'
  · intro s hs
    rw [List.mem_append] at hs
    rcases hs with hs | hs
    · exact (h3.each s hs).same same
    · simp only [List.mem_singleton] at hs
      subst hs
      exact ((st_new w B n hBs hn).kept (below_alloc1 _ _)).same same
  · rw [List.pairwise_append]
    refine ⟨h.apart, List.pairwise_singleton _ _, fun s hs t ht => ?_⟩
    simp only [List.mem_singleton] at ht
    subst ht
    obtain ⟨c, hc⟩ := (h.each s hs).ov.blk
    obtain ⟨d, hd⟩ := (h.each s hs).ref.blk
    have l1 := blk_lt hc
    have l2 := blk_lt hd
    refine ⟨fun e => by simp only at e; omega, fun e => by simp only at e; omega, ?_⟩
    by_cases hr : s.rx = none
    · exact Or.inl hr
    · exact Or.inr hr

/-- Which of n things a number speaks of. -/
def pickN (c : Int) (n : Nat) : Nat := if c < 0 then (-(c + 1)).toNat % n else c.toNat % n
theorem pickN_lt (c : Int) {n : Nat} (h : 1 ≤ n) : pickN c n < n := by unfold pickN; split <;> exact Nat.mod_lt _ h
set_option maxRecDepth 100000 in
set_option maxHeartbeats 400000 in
theorem lpick_calls (c : Int) (n : Nat) (w : World) (hc1 : -9223372036854775808 ≤ c) (hc2 : c ≤ 9223372036854775807) (hn : 1 ≤ n) (hn2 : n ≤ 1000000000000000) :
    Calls Tryz.prog 40 #[.int .i64 c, .int .i64 n] w fun e w' => e = .returned (.int .i64 (pickN c n : Nat)) ∧ w = w' := by
  by_cases h0 : c < 0
  · have Hp : Hid (pickN c n = (-(c + 1)).toNat % n) := by unfold pickN; exact if_pos h0
    go_enter Tryz.func40, Tryz.ntmps40
    go_wp2
    go_ret
    obtain ⟨m, hm⟩ : ∃ m : Nat, c + 1 = -(m : Int) := ⟨(-(c + 1)).toNat, by omega⟩
    refine ⟨?_, rfl⟩
    have e : -((c + 1).tmod (n : Int)) = ((m % n : Nat) : Int) := by rw [hm, Int.neg_tmod, Int.neg_neg]; rfl
    show Ending.returned (Value.int IntKind.i64 (-((c + 1).tmod (n : Int)))) = _
    rw [e, unhide Hp, hm, Int.neg_neg, Int.toNat_natCast]
  · have Hp : Hid (pickN c n = c.toNat % n) := by unfold pickN; exact if_neg h0
    go_enter Tryz.func40, Tryz.ntmps40
    go_wp2
    go_ret
    obtain ⟨m, rfl⟩ : ∃ m : Nat, c = (m : Int) := ⟨c.toNat, by omega⟩
    exact ⟨by rw [unhide Hp, Int.toNat_natCast]; rfl, rfl⟩

theorem Tryz.infoPair : (Tryz.prog.info? 127).map (fun i => (i.zero, i.size, i.bytes)) = some (some (.agg #[.pointer none, .pointer none]), 2, 16) := by kernel_rfl

set_option maxRecDepth 100000 in
set_option maxHeartbeats 1000000 in
theorem lmade_no (n : Int) (w : World) (wb : Nat) (h : n < 0 ∨ 4000 < n) : Calls Tryz.prog 39 #[.pointer (some ⟨wb, 0, none⟩), .int .i64 n] w fun e w' => e = .returned (.bool true) ∧ w = w' := by
  have HN := hide h
  clear h
  go_enter Tryz.func39, Tryz.ntmps39
  go_wp2_with (first
    | (go_at_call 75; refine (lnum_calls 1 _ ⟨by decide, by decide⟩).mono ?_; rintro e w3 ⟨rfl, rfl⟩)
    | (go_at_call 74; refine (rNew_no n _ (unhide HN)).mono ?_; rintro e w2 ⟨rfl, rfl⟩)
    | (go_at_call 73; refine (oNew_no n _ (unhide HN)).mono ?_; rintro e w1 ⟨rfl, rfl⟩))
  go_ret
  exact ⟨rfl, rfl⟩

set_option maxRecDepth 100000 in
set_option maxHeartbeats 2000000 in
theorem lmade_yes (n : Nat) (w : World) (B wb : Nat) (s0 s1 s2 s3 : Addr) (v : Value) (S : List St) (h : LW w B wb s0 s1 s2 s3 v S) (hn : n ≤ 4000) (hS : S.length ≤ 5000000000000) : Calls Tryz.prog 39 #[.pointer (some ⟨wb, 0, none⟩), .int .i64 n] w fun e w' => e = .returned (.bool true) ∧ ∃ v' S', LW w' B wb s0 s1 s2 s3 v' S' ∧ S'.length = S.length + 1 ∧ Below B w w' := by
  obtain ⟨i0, hi, hz0, hz1, hz2⟩ := info_parts Tryz.infoPair
  obtain ⟨a, c, rfl⟩ := owns_slice h.own
  have HW := hide h
  have c0 : ∀ o1 o2, ((w.alloc o1).alloc o2).cell? ⟨wb, 0, none⟩ = some (.slice a S.length c) := fun o1 o2 => blk_cell (blk_alloc (blk_alloc h.blk _) _) rfl
  have hBs := h.un.se.size
  clear h
  go_enter Tryz.func39, Tryz.ntmps39
  go_wp2_with (first
    | (at_builtin; refine wpList_append_own _ rfl (.tmp 36) (.tmp 40) 58 rfl B 127 i0 (.agg #[.pointer none, .pointer none]) 2 16 Tryz.underlying58 hi hz0 hz1 hz2 rfl (by decide) (.slice a S.length c) S.length _ rfl ((((unhide HW).own.alloc _).alloc _).alloc _) ⟨w.heap.size + 1 + 1, 0, none⟩ 1 1 [.pointer (some ⟨w.heap.size, 0, none⟩), .pointer (some ⟨w.heap.size + 1, 0, none⟩)] rfl rfl (two_new (by simp)) (by intro u hu; simp at hu; rcases hu with rfl | rfl <;> rfl) (by unfold maxLen; omega) (by omega) (by simp; omega) ?_; intro v3 w3 ho3 hg3 _; obtain ⟨g3, c3, rfl⟩ := ownsRow_form ho3 (by omega); have HA := hide ((unhide HW).add hn hg3 ho3); have d0 := blk_cell (i := 0) (unhide HA).2.1 rfl; have f0 := blk_frozen (unhide HA).2.1 0; clear ho3 hg3)
    | (go_at_call 75; refine (lnum_calls 0 _ ⟨by decide, by decide⟩).mono ?_; rintro e w3 ⟨rfl, rfl⟩)
    | (go_at_call 74; refine (rNew_yes n _ hn).mono ?_; rintro e w2 ⟨rfl, rfl⟩)
    | (go_at_call 73; refine (oNew_yes n _ hn).mono ?_; rintro e w1 ⟨rfl, rfl⟩))
  go_ret
  exact ⟨rfl, _, _, (unhide HA).1, by simp, (unhide HA).2.2⟩

end Go.Proofs.YtomiepknmmpflaaGreatDoor

/- The law: plays, Files. -/
namespace Go.Proofs.YtomiepknmmpflaaGreatDoor
open Go.RowKit Go.Joins

/-- What a step leaves. -/
def StepPost (B wb : Nat) (s0 s1 s2 s3 : Addr) (N : Nat) (w : World) (e : Ending) (w' : World) : Prop := e = .returned (.bool true) ∧ ∃ v' S', LW w' B wb s0 s1 s2 s3 v' S' ∧ S'.length ≤ N + 1 ∧ Below B w w'
theorem add_next (b : Addr) (m t : Nat) (h : 1 ≤ t) : (⟨(b.add m).block, (b.add m).off + t, none⟩ : Addr) = b.add (m + t) := by
  unfold Addr.add
  by_cases hm : m = 0
  · subst hm
    simp
    omega
  · rw [if_neg hm, if_neg (by omega)]
    simp; omega
/-- A script in memory: each step's seven cells. -/
def Script (w : World) (a : Addr) (n : Nat) : Prop := ∀ i, i < n → ∃ (k W x y : Int) (nm ot tx : ByteArray), OpOk W x y tx ∧
  w.cell? (a.add (i * 7)) = some (.int .i64 k) ∧ w.cell? (a.add (i * 7 + 1)) = some (.int .i64 W) ∧ w.cell? (a.add (i * 7 + 2)) = some (.int .i64 x) ∧ w.cell? (a.add (i * 7 + 3)) = some (.int .i64 y) ∧
  w.cell? (a.add (i * 7 + 4)) = some (.string nm) ∧ w.cell? (a.add (i * 7 + 5)) = some (.string ot) ∧ w.cell? (a.add (i * 7 + 6)) = some (.string tx)

set_option maxRecDepth 100000 in
set_option maxHeartbeats 2000000 in
theorem lplays_calls (top : Int) (w : World) (a : Option Addr) (n c : Nat) (room : Int) (s0 s1 s2 s3 : Addr) (hu : Under w w.heap.size s0 s1 s2 s3) (hr1 : -9223372036854775808 ≤ room) (hr2 : room ≤ 9223372036854775807) (hn : n ≤ 2000000000000) (hsc : ∀ b, a = some b → (1 ≤ n → b.block < w.heap.size) ∧ Script w b n) (ha : a = none → n = 0)
    (step : ∀ (B wb : Nat) (v : Value) (S : List St) (k W x y : Int) (nm ot tx : ByteArray) (w1 : World), LW w1 B wb s0 s1 s2 s3 v S → k ≤ top → S.length ≤ 5000000000000 → OpOk W x y tx → Calls Tryz.prog 41 #[.pointer (some ⟨wb, 0, none⟩), .agg #[.int .i64 k, .int .i64 W, .int .i64 x, .int .i64 y, .string nm, .string ot, .string tx]] w1 (StepPost B wb s0 s1 s2 s3 S.length w1)) :
    Calls Tryz.prog 14 #[.slice a n c, .int .i64 room, .int .i64 top] w fun e w' => e = .returned (.bool true) ∧ Below w.heap.size w w' := by
  have HU := hide hu
  have HST := hide step
  have HSC := hide hsc
  have hp := pickN_lt room (n := 4001) (by omega)
  obtain ⟨p, hpe⟩ : ∃ p, pickN room 4001 = p := ⟨_, rfl⟩
  rw [hpe] at hp
  have hpick : ∀ w', Calls Tryz.prog 40 #[.int .i64 room, .int .i64 4001] w' fun e w'' => e = .returned (.int .i64 (p : Nat)) ∧ w' = w'' := fun w' => by
    have := lpick_calls room 4001 w' hr1 hr2 (by omega) (by omega)
    rw [hpe] at this
    exact this
  have HP := hide hpick
  have H0 : Hid (LW (w.alloc (.cells #[.slice none 0 0] 60)) w.heap.size w.heap.size s0 s1 s2 s3 (.slice none 0 0) []) :=
    ⟨hu.kept (below_alloc1 w _), blk_new _ _, World.ownsRow_nil _ _ _ _, fun s hs => absurd hs List.not_mem_nil, List.Pairwise.nil, Nat.le_refl _⟩
  clear hu step hpe hpick hsc
  go_enter Tryz.func14, Tryz.ntmps14
  go_wp2_with (first
    | (go_at_call 39; refine (lmade_yes p _ _ _ s0 s1 s2 s3 _ _ (unhide H0) (by omega) (by simp)).mono ?_; rintro e w1 ⟨rfl, v1, S1, h1, hl1, hb1⟩)
    | (go_at_call 40; refine (unhide HP _).mono ?_; rintro e w' ⟨rfl, rfl⟩))
  go_loopw [9] (fun i wr => ∃ (k : Nat) (v : Value) (S : List St), k ≤ n ∧ i = .int .i64 k ∧ LW wr w.heap.size w.heap.size s0 s1 s2 s3 v S ∧ S.length ≤ k + 1 ∧ Below w.heap.size w wr) (fun i _ => n - (intOf i).toNat)
  case atStart => exact ⟨0, v1, S1, Nat.zero_le _, rfl, h1, by rw [hl1]; exact Nat.le_refl _, (below_alloc1 w _).trans hb1⟩
  case round =>
    obtain ⟨k, v, S, hk, rfl, hlw, hSl, hbel⟩ := hrel
    have HLW := hide hlw
    have HBL := hide hbel
    have hsz := hbel.size
    clear hlw h1 hl1 hb1
    by_cases hlt : k < n
    · obtain ⟨b, rfl⟩ : ∃ b, a = some b := by
        cases a with
        | none => have := ha rfl; omega
        | some b => exact ⟨b, rfl⟩
      obtain ⟨hbb0, hscr⟩ := unhide HSC b rfl
      have hbb := hbb0 (by omega)
      obtain ⟨kd, W, x, y, nm, ot, tx, hok, d0, d1, d2, d3, d4, d5, d6⟩ := hscr k hlt
      have hc : ∀ t, wr.cell? (b.add t) = w.cell? (b.add t) := fun t => hbel.cell (p := b.add t) (by rw [add_block]; exact hbb)
      rw [← hc] at d0 d1 d2 d3 d4 d5 d6
      rw [← add_next b (k * 7) _ (by omega)] at d1 d2 d3 d4 d5 d6
      clear hc hscr hbel
      have HOK := hide hok
      clear hok
      by_cases h7 : top < kd
      · go_wp2_with fail
        go_roundw
        case rel => exact ⟨k + 1, v, S, by omega, by go_num, (unhide HLW).kept (below_alloc1 wr _), by omega, (unhide HBL).alloc hsz _⟩
        case measure => simp [intOf]; omega
      · have hk7 : kd ≤ top := by omega
        have HLA := hide ((unhide HLW).kept (below_alloc1 wr (.cells #[.int .i64 kd, .int .i64 W, .int .i64 x, .int .i64 y, .string nm, .string ot, .string tx] 63)))
        go_wp2_with (go_at_call 41; refine (unhide HST _ _ v S kd W x y nm ot tx _ (unhide HLA) hk7 (by omega) (unhide HOK)).mono ?_; rintro e w2 ⟨rfl, v2, S2, l2, n2, b2⟩)
        go_roundw
        case rel => exact ⟨k + 1, v2, S2, by omega, by go_num, l2, by omega, ((unhide HBL).alloc hsz _).trans b2⟩
        case measure => simp [intOf]; omega
    · go_wp2_with fail
      go_ret
      exact ⟨rfl, unhide HBL⟩

set_option maxRecDepth 100000 in
set_option maxHeartbeats 400000 in
theorem lFiles_of (w : World) (a : Option Addr) (n c : Nat) (room : Int) (h : Calls Tryz.prog 14 #[.slice a n c, .int .i64 room, .int .i64 7] w fun e w' => e = .returned (.bool true) ∧ Below w.heap.size w w') :
    Calls Tryz.prog 3 #[.slice a n c, .int .i64 room] w fun e w' => e = .returned (.bool true) ∧ Below w.heap.size w w' := by
  have H := hide h
  clear h
  go_enter Tryz.func3, Tryz.ntmps3
  go_wp2_with (go_at_call 14; refine (unhide H).mono ?_; rintro e w1 ⟨rfl, hb⟩)
  go_ret
  exact ⟨rfl, hb⟩

set_option maxRecDepth 100000 in
set_option maxHeartbeats 400000 in
theorem lViews_of (w : World) (a : Option Addr) (n c : Nat) (room : Int) (h : Calls Tryz.prog 14 #[.slice a n c, .int .i64 room, .int .i64 11] w fun e w' => e = .returned (.bool true) ∧ Below w.heap.size w w') :
    Calls Tryz.prog 4 #[.slice a n c, .int .i64 room] w fun e w' => e = .returned (.bool true) ∧ Below w.heap.size w w' := by
  have H := hide h
  clear h
  go_enter Tryz.func4, Tryz.ntmps4
  go_wp2_with (go_at_call 14; refine (unhide H).mono ?_; rintro e w1 ⟨rfl, hb⟩)
  go_ret
  exact ⟨rfl, hb⟩

end Go.Proofs.YtomiepknmmpflaaGreatDoor
