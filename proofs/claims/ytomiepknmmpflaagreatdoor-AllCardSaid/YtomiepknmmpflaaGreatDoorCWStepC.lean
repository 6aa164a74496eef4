/- The law's steps: step, with tools (Commit). -/
import Derived.Test.YtomiepknmmpflaaGreatDoorCWRow
import Derived.Test.YtomiepknmmpflaaGreatDoorCWLawT
namespace Go.Proofs.YtomiepknmmpflaaGreatDoor
open Go.RowKit Go.Joins

set_option maxRecDepth 100000 in
set_option maxHeartbeats 20000000 in
theorem lstep_commit (w : World) (B wb : Nat) (s0 s1 s2 s3 : Addr) (v : Value) (S : List St) (W n m : Int) (nm ot tx : ByteArray) (h : LW w B wb s0 s1 s2 s3 v S) (hS : S.length ≤ 5000000000000) (hok : OpOk W n m tx) (hS1 : 1 ≤ S.length) :
    Calls Tryz.prog 41 #[.pointer (some ⟨wb, 0, none⟩), .agg #[.int .i64 12, .int .i64 W, .int .i64 n, .int .i64 m, .string nm, .string ot, .string tx]] w (StepPost B wb s0 s1 s2 s3 S.length w) := by
  obtain ⟨g, c, rfl⟩ := ownsRow_form h.own (by omega)
  have HW := hide (h.kept (below_alloc1 w (.cells #[.int .i64 12, .int .i64 W, .int .i64 n, .int .i64 m, .string nm, .string ot, .string tx] 63)))
  have c0 : ∀ o, (w.alloc o).cell? ⟨wb, 0, none⟩ = some (.slice (some ⟨g, 0, none⟩) S.length c) := fun o => blk_cell (blk_alloc h.blk _) rfl
  have e0 : ((S.length : Int) == 0) = false := beq_eq_false_iff_ne.2 (by omega)
  have HOK := hide hok
  clear hok
  have hgl : g < w.heap.size := (h.own.lt g rfl).2
  have hj := pickN_lt W hS1
  obtain ⟨j, hje⟩ : ∃ j, pickN W S.length = j := ⟨_, rfl⟩
  rw [hje] at hj
  obtain ⟨s, hs⟩ : ∃ s, S[j]? = some s := ⟨S[j], List.getElem?_eq_getElem hj⟩
  have HS := hide hs
  have HJ := hide hje
  have q0 : w.cell? ⟨g, j * 2, none⟩ = some (.pointer (some ⟨s.bx, 0, none⟩)) := (h.own.cellAt _ (by omega)).trans (prCells_at hs).1
  have q1 : w.cell? ⟨g, j * 2 + 1, none⟩ = some (.pointer (some ⟨s.ry, 0, none⟩)) := (h.own.cellAt _ (by omega)).trans (prCells_at hs).2
  have r0 : ∀ o, (w.alloc o).cell? ⟨g, j * 2, none⟩ = some (.pointer (some ⟨s.bx, 0, none⟩)) := fun o => (World.cell?_alloc_past _ _ _ hgl).trans q0
  have r1 : ∀ o, (w.alloc o).cell? ⟨g, j * 2 + 1, none⟩ = some (.pointer (some ⟨s.ry, 0, none⟩)) := fun o => (World.cell?_alloc_past _ _ _ hgl).trans q1
  have t0 : ∀ o1 o2, ((w.alloc o1).alloc o2).cell? ⟨g, j * 2, none⟩ = some (.pointer (some ⟨s.bx, 0, none⟩)) := fun o1 o2 => (World.cell?_alloc_past _ _ _ (by simp; omega)).trans (r0 o1)
  have t1 : ∀ o1 o2, ((w.alloc o1).alloc o2).cell? ⟨g, j * 2 + 1, none⟩ = some (.pointer (some ⟨s.ry, 0, none⟩)) := fun o1 o2 => (World.cell?_alloc_past _ _ _ (by simp; omega)).trans (r1 o1)
  have c2 : ∀ o1 o2, ((w.alloc o1).alloc o2).cell? ⟨wb, 0, none⟩ = some (.slice (some ⟨g, 0, none⟩) S.length c) := fun o1 o2 => blk_cell (blk_alloc (blk_alloc h.blk _) _) rfl
  have hp : ∀ w', Calls Tryz.prog 40 #[.int .i64 W, .int .i64 S.length] w' fun e w'' => e = .returned (.int .i64 (j : Nat)) ∧ w' = w'' := fun w' => by
    have := lpick_calls W S.length w' (unhide HOK).w1 (unhide HOK).w2 hS1 (by omega)
    rw [hje] at this
    exact this
  have HP := hide hp
  have hBz := h.un.se.size
  have HWc : Hid (LW (((w.alloc (.cells #[.int .i64 12, .int .i64 W, .int .i64 n, .int .i64 m, .string nm, .string ot, .string tx] 63)).alloc (.cells #[.pointer (some ⟨s.bx, 0, none⟩), .pointer (some ⟨s.ry, 0, none⟩)] 127)).drew) B wb s0 s1 s2 s3 (.slice (some ⟨g, 0, none⟩) S.length c) S) := h.kept ((below_alloc2 w _ _).drew)
  have z0 : (((w.alloc (.cells #[.int .i64 12, .int .i64 W, .int .i64 n, .int .i64 m, .string nm, .string ot, .string tx] 63)).alloc (.cells #[.pointer (some ⟨s.bx, 0, none⟩), .pointer (some ⟨s.ry, 0, none⟩)] 127)).drew).heap[w.heap.size]? = some (.cells #[.int .i64 12, .int .i64 W, .int .i64 n, .int .i64 m, .string nm, .string ot, .string tx] 63 (0, 0)) := blk_alloc (blk_new w _) _
  have z1 : (((w.alloc (.cells #[.int .i64 12, .int .i64 W, .int .i64 n, .int .i64 m, .string nm, .string ot, .string tx] 63)).alloc (.cells #[.pointer (some ⟨s.bx, 0, none⟩), .pointer (some ⟨s.ry, 0, none⟩)] 127)).drew).heap[w.heap.size + 1]? = some (.cells #[.pointer (some ⟨s.bx, 0, none⟩), .pointer (some ⟨s.ry, 0, none⟩)] 127 (0, 0)) := blk_new1 w _ _
  have HZ0 := hide z0
  have HZ1 := hide z1
  clear h hje hp hs q0 q1 z0 z1
  go_enter Tryz.func41, Tryz.ntmps41
  go_upto_region 5 with fail
  go_cut [5] from 29 (fun p W' => p = .pointer (some ⟨w.heap.size + 1, 0, none⟩) ∧ W' = (((w.alloc (.cells #[.int .i64 12, .int .i64 W, .int .i64 n, .int .i64 m, .string nm, .string ot, .string tx] 63)).alloc (.cells #[.pointer (some ⟨s.bx, 0, none⟩), .pointer (some ⟨s.ry, 0, none⟩)] 127)).drew))
  case first =>
    go_region_with (go_at_call 40; refine (unhide HP _).mono ?_; rintro e w1 ⟨rfl, rfl⟩)
    all_goals (go_wp2_with fail; go_meet)
    all_goals exact ⟨rfl, rfl⟩
  case rest =>
    obtain ⟨rfl, hwc⟩ := hcut
    have HLc : Hid (LW wc B wb s0 s1 s2 s3 (.slice (some ⟨g, 0, none⟩) S.length c) S) := by rw [hwc]; exact unhide HWc
    have y0 := blk_cell (i := 0) (unhide HZ0) rfl
    have y1 := blk_cell (i := 1) (unhide HZ0) rfl
    have y2 := blk_cell (i := 2) (unhide HZ0) rfl
    have y3 := blk_cell (i := 3) (unhide HZ0) rfl
    have y4 := blk_cell (i := 4) (unhide HZ0) rfl
    have y5 := blk_cell (i := 5) (unhide HZ0) rfl
    have y6 := blk_cell (i := 6) (unhide HZ0) rfl
    have x0 := blk_cell (i := 0) (unhide HZ1) rfl
    have x1 := blk_cell (i := 1) (unhide HZ1) rfl
    rw [← hwc] at y0 y1 y2 y3 y4 y5 y6 x0 x1
    have HBc : Hid (Below B w wc) := by rw [hwc]; exact (below_alloc2 w _ _).drew.mono hBz
    clear hwc c0 c2 r0 r1 t0 t1
    go_wp2_with (go_at_call 77; refine (ltools_calls _ B wb j s0 s1 s2 s3 _ S s 12 W n m nm ot tx (by omega) (by omega) (unhide HLc) (unhide HS) (unhide HOK)).mono ?_; rintro e w3 ⟨rfl, S3, l3, n3, b3⟩)
    go_ret
    exact ⟨rfl, _, S3, l3, by omega, (unhide HBc).trans b3⟩

end Go.Proofs.YtomiepknmmpflaaGreatDoor

