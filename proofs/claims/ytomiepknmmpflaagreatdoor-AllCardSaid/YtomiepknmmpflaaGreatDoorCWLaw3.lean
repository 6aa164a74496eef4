/- The law's steps: step. -/
import Derived.Test.YtomiepknmmpflaaGreatDoorCWRow
namespace Go.Proofs.YtomiepknmmpflaaGreatDoor
open Go.RowKit Go.Joins

theorem lfiles_calls (w : World) (B wb i : Nat) (s0 s1 s2 s3 : Addr) (v : Value) (S : List St) (s : St) (k W n m : Int) (nm ot tx : ByteArray) (hk2 : 2 ≤ k) (hk7 : k ≤ 7) (h : LW w B wb s0 s1 s2 s3 v S) (hs : S[i]? = some s) :
    Calls Tryz.prog 78 #[.agg #[.pointer (some ⟨s.bx, 0, none⟩), .pointer (some ⟨s.ry, 0, none⟩)], .agg #[.int .i64 k, .int .i64 W, .int .i64 n, .int .i64 m, .string nm, .string ot, .string tx]] w fun e w' => e = .returned (.bool true) ∧ ∃ S', LW w' B wb s0 s1 s2 s3 v S' ∧ S'.length = S.length ∧ Below B w w' := by
  have hk : k = 2 ∨ k = 3 ∨ k = 4 ∨ k = 5 ∨ k = 6 ∨ k = 7 := by omega
  rcases hk with rfl | rfl | rfl | rfl | rfl | rfl
  · exact lfiles_load w B wb i s0 s1 s2 s3 v S s W n m nm ot tx h hs
  · exact lfiles_dump w B wb i s0 s1 s2 s3 v S s W n m nm ot tx h hs
  · exact lfiles_drop w B wb i s0 s1 s2 s3 v S s W n m nm ot tx h hs
  · exact lfiles_make w B wb i s0 s1 s2 s3 v S s W n m nm ot tx h hs
  · exact lfiles_chain w B wb i s0 s1 s2 s3 v S s W n m nm ot tx h hs
  · exact lfiles_check w B wb i s0 s1 s2 s3 v S s W n m nm ot tx h hs

set_option maxRecDepth 100000 in
set_option maxHeartbeats 20000000 in
theorem lstep_files (w : World) (B wb : Nat) (s0 s1 s2 s3 : Addr) (v : Value) (S : List St) (k W n m : Int) (nm ot tx : ByteArray) (h : LW w B wb s0 s1 s2 s3 v S) (hk2 : 2 ≤ k) (hk7 : k ≤ 7) (hS : S.length ≤ 5000000000000) (hW1 : -9223372036854775808 ≤ W) (hW2 : W ≤ 9223372036854775807) (hS1 : 1 ≤ S.length) :
    Calls Tryz.prog 41 #[.pointer (some ⟨wb, 0, none⟩), .agg #[.int .i64 k, .int .i64 W, .int .i64 n, .int .i64 m, .string nm, .string ot, .string tx]] w (StepPost B wb s0 s1 s2 s3 S.length w) := by
  obtain ⟨g, c, rfl⟩ := ownsRow_form h.own (by omega)
  have HW := hide (h.kept (below_alloc1 w (.cells #[.int .i64 k, .int .i64 W, .int .i64 n, .int .i64 m, .string nm, .string ot, .string tx] 63)))
  have c0 : ∀ o, (w.alloc o).cell? ⟨wb, 0, none⟩ = some (.slice (some ⟨g, 0, none⟩) S.length c) := fun o => blk_cell (blk_alloc h.blk _) rfl
  have e1 : (k == 1) = false := by simp; omega
  have e0 : ((S.length : Int) == 0) = false := beq_eq_false_iff_ne.2 (by omega)
  have e8 : (k == 8) = false := by simp; omega
  have e9 : (k == 9) = false := by simp; omega
  have e10 : (k == 10) = false := by simp; omega
  have e11 : (k == 11) = false := by simp; omega
  have e12 : (k == 12) = false := by simp; omega
  have e13 : (k == 13) = false := by simp; omega
  have e14 : (k == 14) = false := by simp; omega
  have e15 : (k == 15) = false := by simp; omega
  have hgl : g < w.heap.size := (h.own.lt g rfl).2
  have hj := pickN_lt W hS1
  obtain ⟨j, hje⟩ : ∃ j, pickN W S.length = j := ⟨_, rfl⟩
  rw [hje] at hj
  obtain ⟨s, hs⟩ : ∃ s, S[j]? = some s := ⟨S[j], List.getElem?_eq_getElem hj⟩
  have HS := hide hs
  have HJ := hide hje
  have q0 : w.cell? ⟨g, j * 2, none⟩ = some (.pointer (some ⟨s.bx, 0, none⟩)) := (h.own.cellAt _ (by omega)).trans (prCells_at hs).1
  have q1 : w.cell? ⟨g, j * 2 + 1, none⟩ = some (.pointer (some ⟨s.ry, 0, none⟩)) := (h.own.cellAt _ (by omega)).trans (prCells_at hs).2
  have r0 : ∀ o, (w.alloc o).cell? ⟨g, j * 2, none⟩ = some (.pointer (some ⟨s.bx, 0, none⟩)) := fun o => (World.cell?_alloc_past _ _ _ hgl).trans q0
  have r1 : ∀ o, (w.alloc o).cell? ⟨g, j * 2 + 1, none⟩ = some (.pointer (some ⟨s.ry, 0, none⟩)) := fun o => (World.cell?_alloc_past _ _ _ hgl).trans q1
  have t0 : ∀ o1 o2, ((w.alloc o1).alloc o2).cell? ⟨g, j * 2, none⟩ = some (.pointer (some ⟨s.bx, 0, none⟩)) := fun o1 o2 => (World.cell?_alloc_past _ _ _ (by simp; omega)).trans (r0 o1)
  have t1 : ∀ o1 o2, ((w.alloc o1).alloc o2).cell? ⟨g, j * 2 + 1, none⟩ = some (.pointer (some ⟨s.ry, 0, none⟩)) := fun o1 o2 => (World.cell?_alloc_past _ _ _ (by simp; omega)).trans (r1 o1)
  have c2 : ∀ o1 o2, ((w.alloc o1).alloc o2).cell? ⟨wb, 0, none⟩ = some (.slice (some ⟨g, 0, none⟩) S.length c) := fun o1 o2 => blk_cell (blk_alloc (blk_alloc h.blk _) _) rfl
  have hp : ∀ w', Calls Tryz.prog 40 #[.int .i64 W, .int .i64 S.length] w' fun e w'' => e = .returned (.int .i64 (j : Nat)) ∧ w' = w'' := fun w' => by
    have := lpick_calls W S.length w' hW1 hW2 hS1 (by omega)
    rw [hje] at this
    exact this
  have HP := hide hp
  have hBz := h.un.se.size
  have HWc : Hid (LW (((w.alloc (.cells #[.int .i64 k, .int .i64 W, .int .i64 n, .int .i64 m, .string nm, .string ot, .string tx] 63)).alloc (.cells #[.pointer (some ⟨s.bx, 0, none⟩), .pointer (some ⟨s.ry, 0, none⟩)] 127)).drew) B wb s0 s1 s2 s3 (.slice (some ⟨g, 0, none⟩) S.length c) S) := h.kept ((below_alloc2 w _ _).drew)
  have z0 : (((w.alloc (.cells #[.int .i64 k, .int .i64 W, .int .i64 n, .int .i64 m, .string nm, .string ot, .string tx] 63)).alloc (.cells #[.pointer (some ⟨s.bx, 0, none⟩), .pointer (some ⟨s.ry, 0, none⟩)] 127)).drew).heap[w.heap.size]? = some (.cells #[.int .i64 k, .int .i64 W, .int .i64 n, .int .i64 m, .string nm, .string ot, .string tx] 63 (0, 0)) := blk_alloc (blk_new w _) _
  have z1 : (((w.alloc (.cells #[.int .i64 k, .int .i64 W, .int .i64 n, .int .i64 m, .string nm, .string ot, .string tx] 63)).alloc (.cells #[.pointer (some ⟨s.bx, 0, none⟩), .pointer (some ⟨s.ry, 0, none⟩)] 127)).drew).heap[w.heap.size + 1]? = some (.cells #[.pointer (some ⟨s.bx, 0, none⟩), .pointer (some ⟨s.ry, 0, none⟩)] 127 (0, 0)) := blk_new1 w _ _
  have HZ0 := hide z0
  have HZ1 := hide z1
  clear h hje hp hs q0 q1 z0 z1
  go_enter Tryz.func41, Tryz.ntmps41
  go_upto_region 5 with fail
  go_cut [5] from 29 (fun p W' => p = .pointer (some ⟨w.heap.size + 1, 0, none⟩) ∧ W' = (((w.alloc (.cells #[.int .i64 k, .int .i64 W, .int .i64 n, .int .i64 m, .string nm, .string ot, .string tx] 63)).alloc (.cells #[.pointer (some ⟨s.bx, 0, none⟩), .pointer (some ⟨s.ry, 0, none⟩)] 127)).drew))
  case first =>
    go_region_with (go_at_call 40; refine (unhide HP _).mono ?_; rintro e w1 ⟨rfl, rfl⟩)
    all_goals (go_wp2_with fail; go_meet)
    all_goals exact ⟨rfl, rfl⟩
  case rest =>
    obtain ⟨rfl, hwc⟩ := hcut
    have HLc : Hid (LW wc B wb s0 s1 s2 s3 (.slice (some ⟨g, 0, none⟩) S.length c) S) := by rw [hwc]; exact unhide HWc
    have y0 := blk_cell (i := 0) (unhide HZ0) rfl
    have y1 := blk_cell (i := 1) (unhide HZ0) rfl
    have y2 := blk_cell (i := 2) (unhide HZ0) rfl
    have y3 := blk_cell (i := 3) (unhide HZ0) rfl
    have y4 := blk_cell (i := 4) (unhide HZ0) rfl
    have y5 := blk_cell (i := 5) (unhide HZ0) rfl
    have y6 := blk_cell (i := 6) (unhide HZ0) rfl
    have x0 := blk_cell (i := 0) (unhide HZ1) rfl
    have x1 := blk_cell (i := 1) (unhide HZ1) rfl
    rw [← hwc] at y0 y1 y2 y3 y4 y5 y6 x0 x1
    have HBc : Hid (Below B w wc) := by rw [hwc]; exact (below_alloc2 w _ _).drew.mono hBz
    clear hwc c0 c2 r0 r1 t0 t1
    go_wp2_with (go_at_call 78; refine (lfiles_calls _ B wb j s0 s1 s2 s3 _ S s k W n m nm ot tx hk2 hk7 (unhide HLc) (unhide HS)).mono ?_; rintro e w3 ⟨rfl, S3, l3, n3, b3⟩)
    go_ret
    exact ⟨rfl, _, S3, l3, by omega, (unhide HBc).trans b3⟩

set_option maxRecDepth 100000 in
set_option maxHeartbeats 1000000 in
theorem lstep_idle (w : World) (B wb : Nat) (s0 s1 s2 s3 : Addr) (v : Value) (S : List St) (k W n m : Int) (nm ot tx : ByteArray) (h : LW w B wb s0 s1 s2 s3 v S) (hk1 : k ≠ 1) (hk : S.length = 0 ∨ (1 ≤ S.length ∧ k < 2)) (hS : S.length ≤ 5000000000000) :
    Calls Tryz.prog 41 #[.pointer (some ⟨wb, 0, none⟩), .agg #[.int .i64 k, .int .i64 W, .int .i64 n, .int .i64 m, .string nm, .string ot, .string tx]] w (StepPost B wb s0 s1 s2 s3 S.length w) := by
  obtain ⟨a, c, rfl⟩ := owns_slice h.own
  have HW := hide (h.kept (below_alloc1 w (.cells #[.int .i64 k, .int .i64 W, .int .i64 n, .int .i64 m, .string nm, .string ot, .string tx] 63)))
  have hBz := h.un.se.size
  have c0 : ∀ o, (w.alloc o).cell? ⟨wb, 0, none⟩ = some (.slice a S.length c) := fun o => blk_cell (blk_alloc h.blk _) rfl
  have e1 : (k == 1) = false := beq_eq_false_iff_ne.2 hk1
  clear h
  rcases hk with hk | ⟨hk, hk2⟩
  · have e0 : ((S.length : Int) == 0) = true := by rw [beq_iff_eq]; omega
    go_enter Tryz.func41, Tryz.ntmps41
    go_wp2
    go_ret
    exact ⟨rfl, _, S, unhide HW, by omega, (below_alloc1 w _).mono hBz⟩
  · have e0 : ((S.length : Int) == 0) = false := beq_eq_false_iff_ne.2 (by omega)
    go_enter Tryz.func41, Tryz.ntmps41
    go_wp2
    go_ret
    exact ⟨rfl, _, S, unhide HW, by omega, (below_alloc1 w _).mono hBz⟩

set_option maxRecDepth 100000 in
set_option maxHeartbeats 1000000 in
theorem lstep_new (w : World) (B wb : Nat) (s0 s1 s2 s3 : Addr) (v : Value) (S : List St) (W n m : Int) (nm ot tx : ByteArray) (h : LW w B wb s0 s1 s2 s3 v S) (hS : S.length ≤ 5000000000000) :
    Calls Tryz.prog 41 #[.pointer (some ⟨wb, 0, none⟩), .agg #[.int .i64 1, .int .i64 W, .int .i64 n, .int .i64 m, .string nm, .string ot, .string tx]] w (StepPost B wb s0 s1 s2 s3 S.length w) := by
  have HW := hide (h.kept (below_alloc1 w (.cells #[.int .i64 1, .int .i64 W, .int .i64 n, .int .i64 m, .string nm, .string ot, .string tx] 63)))
  have hBz := h.un.se.size
  clear h
  by_cases hn : n < 0 ∨ 4000 < n
  · have HN := hide hn
    clear hn
    go_enter Tryz.func41, Tryz.ntmps41
    go_wp2_with (go_at_call 39; refine (lmade_no n _ wb (unhide HN)).mono ?_; rintro e w1 ⟨rfl, rfl⟩)
    go_ret
    exact ⟨rfl, _, S, unhide HW, by omega, (below_alloc1 w _).mono hBz⟩
  · obtain ⟨p, rfl⟩ := Int.eq_ofNat_of_zero_le (show 0 ≤ n by omega)
    go_enter Tryz.func41, Tryz.ntmps41
    go_wp2_with (go_at_call 39; refine (lmade_yes p _ B wb s0 s1 s2 s3 v S (unhide HW) (by omega) hS).mono ?_; rintro e w1 ⟨rfl, v1, S1, l1, n1, b1⟩)
    go_ret
    exact ⟨rfl, v1, S1, l1, by omega, ((below_alloc1 w _).mono hBz).trans b1⟩

theorem lstep_calls (w : World) (B wb : Nat) (s0 s1 s2 s3 : Addr) (v : Value) (S : List St) (k W n m : Int) (nm ot tx : ByteArray) (h : LW w B wb s0 s1 s2 s3 v S) (hk7 : k ≤ 7) (hS : S.length ≤ 5000000000000) (hok : OpOk W n m tx) :
    Calls Tryz.prog 41 #[.pointer (some ⟨wb, 0, none⟩), .agg #[.int .i64 k, .int .i64 W, .int .i64 n, .int .i64 m, .string nm, .string ot, .string tx]] w (StepPost B wb s0 s1 s2 s3 S.length w) := by
  by_cases h1 : k = 1
  · subst h1; exact lstep_new w B wb s0 s1 s2 s3 v S W n m nm ot tx h hS
  by_cases h0 : S.length = 0
  · exact lstep_idle w B wb s0 s1 s2 s3 v S k W n m nm ot tx h h1 (Or.inl h0) hS
  by_cases h2 : k < 2
  · exact lstep_idle w B wb s0 s1 s2 s3 v S k W n m nm ot tx h h1 (Or.inr ⟨by omega, h2⟩) hS
  exact lstep_files w B wb s0 s1 s2 s3 v S k W n m nm ot tx h (by omega) hk7 hS hok.w1 hok.w2 (by omega)

end Go.Proofs.YtomiepknmmpflaaGreatDoor

