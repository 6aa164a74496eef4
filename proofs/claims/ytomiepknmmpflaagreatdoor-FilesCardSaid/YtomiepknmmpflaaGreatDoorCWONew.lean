/- The numbers under which this dump holds the library's lock, and that it holds it. -/
import Derived.Test.YtomiepknmmpflaaGreatDoorRows
import Derived.Conc.MuLone
import Derived.KernelRfl
import Derived.Test.YtomiepknmmpflaaGreatDoorCWOput
namespace Go.Proofs.YtomiepknmmpflaaGreatDoor
abbrev muL : Go.Conc.Locks.MuLink := { lock := 43, unlock := 44, ilock := 79, iunlock := 80, lockSlow := 128, unlockSlow := 131, disable := 124, enable := 126, acquire := 127, relMerge := 129, cas32 := 125, add32 := 130, tMutex := 72, tIMutex := 70, tPMutex := 129, tPIMutex := 191, tPI32 := 193, tUP := 195, tNoCopy := 67, tU32 := 68 }
theorem muLib : Go.Conc.Locks.MuLib Tryz.prog muL :=
  ⟨Tryz.func43, Tryz.func44, Tryz.func79, Tryz.func80, Tryz.func124, Tryz.func126, Tryz.func127, Tryz.func129, Tryz.func125, Tryz.func130,
   Tryz.underlying70, Tryz.runUnderlying70, Tryz.sizeOf70, Tryz.isAgg70, Tryz.zeroValue70,
   Tryz.underlying72, Tryz.runUnderlying72, Tryz.sizeOf72, Tryz.isAgg72, Tryz.zeroValue72,
   Tryz.underlying129, Tryz.runUnderlying129, Tryz.sizeOf129, Tryz.isAgg129, Tryz.zeroValue129,
   Tryz.underlying191, Tryz.runUnderlying191, Tryz.sizeOf191, Tryz.isAgg191, Tryz.zeroValue191,
   Tryz.underlying193, Tryz.runUnderlying193, Tryz.sizeOf193, Tryz.isAgg193, Tryz.zeroValue193,
   Tryz.underlying195, Tryz.runUnderlying195, Tryz.sizeOf195, Tryz.isAgg195, Tryz.zeroValue195,
   Tryz.underlying67, Tryz.runUnderlying67, Tryz.sizeOf67, Tryz.isAgg67, Tryz.zeroValue67,
   Tryz.underlying21, Tryz.runUnderlying21, Tryz.sizeOf21, Tryz.isAgg21, Tryz.zeroValue21,
   (by kernel_rfl)⟩
end Go.Proofs.YtomiepknmmpflaaGreatDoor

/- The program's store in memory. -/
namespace Go.Proofs.YtomiepknmmpflaaGreatDoor
open Go.RowKit Go.Joins

/-- A store of the program at block b, its lock's word s, its rows at block r. -/
def OvAt (s : Int) (w : World) (b : Nat) (r : Option Nat) (room : Nat) (l : Ov.Files) : Prop :=
  ∃ v, w.heap[b]? = some (.cells #[.int .i32 s, .int .u32 0, .int .i64 room, v] 77 (0, 0)) ∧ OwnsRows w 0 v l ∧ some b ≠ v.ownBlock ∧ v.ownBlock = r
/-- Free. -/
abbrev OvRep := OvAt 0
theorem OvAt.lock {s s' : Int} {w : World} {b room : Nat} {r : Option Nat} {l : Ov.Files} (h : OvAt s w b r room l) : OvAt s' (w.setCell ⟨b, 0, none⟩ (.int .i32 s')) b r room l := by
  obtain ⟨v, h1, h2, h3, h4⟩ := h
  exact ⟨v, blk_set_same (i := 0) h1 _, owns_set h2 h3 _, h3, h4⟩
theorem OvAt.kept {s : Int} {w w' : World} {b room : Nat} {r : Option Nat} {l : Ov.Files} (h : OvAt s w b r room l) (hb : Below w.heap.size w w') : OvAt s w' b r room l := by
  obtain ⟨v, h1, h2, h3, h4⟩ := h
  exact ⟨v, by rw [hb.block b (blk_lt h1)]; exact h1, owns_all h2 hb, h3, h4⟩
/-- What a call of the program leaves. -/
structure OvLeft (w : World) (b : Nat) (r : Option Nat) (room : Nat) (l : Ov.Files) (w' : World) : Prop where
  rep : ∃ r', OvRep w' b r' room l ∧ (r' = r ∨ ∀ k, r' = some k → w.heap.size ≤ k)
  fr : OFr w w' b r
/-- The lock taken, new memory made, the lock let go. -/
theorem OvLeft.quiet {w w2 : World} {b room : Nat} {r : Option Nat} {l : Ov.Files} (h : OvRep w b r room l) (hb : Below (w.setCell ⟨b, 0, none⟩ (.int .i32 1)).heap.size (w.setCell ⟨b, 0, none⟩ (.int .i32 1)) w2) : OvLeft w b r room l (w2.setCell ⟨b, 0, none⟩ (.int .i32 0)) := by
  have h2 := (h.lock (s' := 1)).kept hb
  exact ⟨⟨r, h2.lock, Or.inl rfl⟩, ((OFr.set_blk w b 0 r _).trans (OFr.of_below hb b r)).trans (OFr.set_blk w2 b 0 r _)⟩

open Go.MuLone in
set_option maxRecDepth 100000 in
set_option maxHeartbeats 400000 in
theorem oDump_calls (l : Ov.Files) (x : ByteArray) (b : Nat) (r : Option Nat) (room : Nat) (w : World) (hl8 : l.length ≤ 8) (h : OvRep w b r room l) :
    Calls Tryz.prog 34 #[.pointer (some ⟨b, 0, none⟩), .string x] w fun e w' => e = .returned (.tuple #[.string (Ov.dumpF l x).1, .int .i64 (Ov.dumpF l x).2]) ∧ OvLeft w b r room l w' := by
  obtain ⟨v, h1, h2, h3, h4⟩ := id h
  have HR := hide h
  have c0 : w.cell? ⟨b, 0, none⟩ = some (.int .i32 0) := blk_cell h1 rfl
  have f0 := blk_frozen h1 0
  have hbl := blk_lt h1
  have HB := hide (blk_set_same (i := 0) h1 (.int .i32 1))
  have HO := hide (owns_set h2 h3 (a := ⟨b, 0, none⟩) (.int .i32 1))
  clear h h1 h2 h3 h4
  by_cases hp : Ov.place l x < l.length
  · have Hh : Ov.has l x = true := by unfold Ov.has; exact decide_eq_true hp
    have HD : Hid ((Ov.dumpF l x).2 = 0) := by unfold Ov.dumpF; rw [if_pos hp]; exact rfl
    go_enter_defers Tryz.func34, Tryz.ntmps34
    go_wp2_with (first | (go_at_call 43; refine (lock_free muLib ⟨b, 0, none⟩ _ c0 f0).mono ?_; rintro e w1 ⟨rfl, rfl⟩) | (go_at_call 56; refine (oSget_calls l v x b 3 0 _ hl8 (unhide HO) (blk_cell (unhide HB) rfl) (by simpa using hbl)).mono ?_; rintro e w2 ⟨rfl, hb2⟩))
    refine leaves_cons (f := 44) (args := #[.pointer (some ⟨b, 0, none⟩)]) (by simp) (by simp [go_sem]) ?_
    refine (unlock_deferred muLib ⟨b, 0, none⟩ .returning _ ?_ ?_).mono ?_
    · exact (hb2.cell (p := ⟨b, 0, none⟩) (by simpa using hbl)).trans (blk_cell (unhide HB) rfl)
    · exact (hb2.frozen (p := ⟨b, 0, none⟩) (by simpa using hbl)).trans (blk_frozen (unhide HB) 0)
    rintro e u' w'' ⟨rfl, rfl, rfl⟩
    refine ⟨_, results_tmp2 rfl _ _ _, ?_, OvLeft.quiet (unhide HR) hb2⟩
    rw [unhide HD]; rfl
  · have Hh : Ov.has l x = false := by unfold Ov.has; exact decide_eq_false hp
    have HD : Hid (Ov.dumpF l x = (⟨#[]⟩, 4)) := by unfold Ov.dumpF; rw [if_neg hp]; exact rfl
    go_enter_defers Tryz.func34, Tryz.ntmps34
    go_wp2_with (first | (go_at_call 43; refine (lock_free muLib ⟨b, 0, none⟩ _ c0 f0).mono ?_; rintro e w1 ⟨rfl, rfl⟩) | (go_at_call 56; refine (oSget_calls l v x b 3 0 _ hl8 (unhide HO) (blk_cell (unhide HB) rfl) (by simpa using hbl)).mono ?_; rintro e w2 ⟨rfl, hb2⟩))
    refine leaves_cons (f := 44) (args := #[.pointer (some ⟨b, 0, none⟩)]) (by simp) (by simp [go_sem]) ?_
    refine (unlock_deferred muLib ⟨b, 0, none⟩ .returning _ ?_ ?_).mono ?_
    · exact (hb2.cell (p := ⟨b, 0, none⟩) (by simpa using hbl)).trans (blk_cell (unhide HB) rfl)
    · exact (hb2.frozen (p := ⟨b, 0, none⟩) (by simpa using hbl)).trans (blk_frozen (unhide HB) 0)
    rintro e u' w'' ⟨rfl, rfl, rfl⟩
    refine ⟨_, results_tmp2 rfl _ _ _, ?_, OvLeft.quiet (unhide HR) hb2⟩
    rw [unhide HD]; rfl

end Go.Proofs.YtomiepknmmpflaaGreatDoor

/- The program's New. -/
namespace Go.Proofs.YtomiepknmmpflaaGreatDoor
open Go.RowKit Go.Joins

set_option maxRecDepth 100000 in
set_option maxHeartbeats 400000 in
theorem oNew_no (n : Int) (w : World) (h : n < 0 ∨ 4000 < n) : Calls Tryz.prog 73 #[.int .i64 n] w fun e w' => e = .returned (.tuple #[.pointer none, .int .i64 1]) ∧ w = w' := by
  rcases h with h | h
  · go_enter Tryz.func73, Tryz.ntmps73
    go_wp2
    go_ret2
    exact ⟨rfl, rfl⟩
  · have h0 : decide (n < 0) = false := decide_eq_false (by omega)
    go_enter Tryz.func73, Tryz.ntmps73
    go_wp2
    go_ret2
    exact ⟨rfl, rfl⟩
set_option maxRecDepth 100000 in
set_option maxHeartbeats 400000 in
theorem oNew_yes (n : Nat) (w : World) (h : n ≤ 4000) : Calls Tryz.prog 73 #[.int .i64 n] w fun e w' => e = .returned (.tuple #[.pointer (some ⟨w.heap.size, 0, none⟩), .int .i64 0]) ∧ w' = w.alloc (.cells #[.int .i32 0, .int .u32 0, .int .i64 n, .slice none 0 0] 77) := by
  go_enter Tryz.func73, Tryz.ntmps73
  go_wp2
  go_ret2
  exact ⟨rfl, rfl⟩
theorem OvRep.new (w : World) (n : Nat) : OvRep (w.alloc (.cells #[.int .i32 0, .int .u32 0, .int .i64 n, .slice none 0 0] 77)) w.heap.size none n [] :=
  ⟨_, by show (w.heap.push _)[w.heap.size]? = _; simp, World.ownsRow_nil _ _ _ _, by simp [Value.ownBlock], rfl⟩

end Go.Proofs.YtomiepknmmpflaaGreatDoor
