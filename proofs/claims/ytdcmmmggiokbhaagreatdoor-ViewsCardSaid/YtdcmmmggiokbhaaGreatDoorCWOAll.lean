/- The numbers under which this dump holds the library's lock, and that it holds it. -/
import Derived.Test.YtdcmmmggiokbhaaGreatDoorRows
import Derived.Conc.MuLone
import Derived.KernelRfl
import Derived.Test.YtdcmmmggiokbhaaGreatDoorCWTally
import Derived.RangeFuncNested
import Derived.RangeFuncBound
import Derived.RangeFuncCalls
import Derived.RangeFuncLeaves
import Derived.Shelf.Abstract
import Derived.Shelf.RegionOpen
import Derived.OwnWalkIn
import Derived.TacticsInMore
import Derived.LoopNIn
import Derived.LoopIn
namespace Go.Proofs.YtdcmmmggiokbhaaGreatDoor
abbrev muL : Go.Conc.Locks.MuLink := { lock := 42, unlock := 43, ilock := 77, iunlock := 78, lockSlow := 107, unlockSlow := 110, disable := 103, enable := 105, acquire := 106, relMerge := 108, cas32 := 104, add32 := 109, tMutex := 51, tIMutex := 49, tPMutex := 131, tPIMutex := 175, tPI32 := 177, tUP := 179, tNoCopy := 46, tU32 := 47 }
theorem muLib : Go.Conc.Locks.MuLib Tryz.prog muL :=
  ⟨Tryz.func42, Tryz.func43, Tryz.func77, Tryz.func78, Tryz.func103, Tryz.func105, Tryz.func106, Tryz.func108, Tryz.func104, Tryz.func109,
   Tryz.underlying49, Tryz.runUnderlying49, Tryz.sizeOf49, Tryz.isAgg49, Tryz.zeroValue49,
   Tryz.underlying51, Tryz.runUnderlying51, Tryz.sizeOf51, Tryz.isAgg51, Tryz.zeroValue51,
   Tryz.underlying131, Tryz.runUnderlying131, Tryz.sizeOf131, Tryz.isAgg131, Tryz.zeroValue131,
   Tryz.underlying175, Tryz.runUnderlying175, Tryz.sizeOf175, Tryz.isAgg175, Tryz.zeroValue175,
   Tryz.underlying177, Tryz.runUnderlying177, Tryz.sizeOf177, Tryz.isAgg177, Tryz.zeroValue177,
   Tryz.underlying179, Tryz.runUnderlying179, Tryz.sizeOf179, Tryz.isAgg179, Tryz.zeroValue179,
   Tryz.underlying46, Tryz.runUnderlying46, Tryz.sizeOf46, Tryz.isAgg46, Tryz.zeroValue46,
   Tryz.underlying21, Tryz.runUnderlying21, Tryz.sizeOf21, Tryz.isAgg21, Tryz.zeroValue21,
   (by kernel_rfl)⟩
end Go.Proofs.YtdcmmmggiokbhaaGreatDoor

/- The program's store in memory. -/
namespace Go.Proofs.YtdcmmmggiokbhaaGreatDoor
open Go.RowKit Go.Joins

/-- A store of the program at block b, its lock's word s, its rows at block r. -/
def OvAt (s : Int) (w : World) (b : Nat) (r : Option Nat) (room : Nat) (l : Ov.Files) : Prop :=
  ∃ v, w.heap[b]? = some (.cells #[.int .i32 s, .int .u32 0, .int .i64 room, v] 56 (0, 0)) ∧ OwnsRows w 0 v l ∧ some b ≠ v.ownBlock ∧ v.ownBlock = r
/-- Free. -/
abbrev OvRep := OvAt 0
theorem OvAt.lock {s s' : Int} {w : World} {b room : Nat} {r : Option Nat} {l : Ov.Files} (h : OvAt s w b r room l) : OvAt s' (w.setCell ⟨b, 0, none⟩ (.int .i32 s')) b r room l := by
  obtain ⟨v, h1, h2, h3, h4⟩ := h
  exact ⟨v, blk_set_same (i := 0) h1 _, owns_set h2 h3 _, h3, h4⟩
theorem OvAt.kept {s : Int} {w w' : World} {b room : Nat} {r : Option Nat} {l : Ov.Files} (h : OvAt s w b r room l) (hb : Below w.heap.size w w') : OvAt s w' b r room l := by
  obtain ⟨v, h1, h2, h3, h4⟩ := h
  exact ⟨v, by rw [hb.block b (blk_lt h1)]; exact h1, owns_all h2 hb, h3, h4⟩
/-- What a call of the program leaves. -/
structure OvLeft (w : World) (b : Nat) (r : Option Nat) (room : Nat) (l : Ov.Files) (w' : World) : Prop where
  rep : ∃ r', OvRep w' b r' room l ∧ (r' = r ∨ ∀ k, r' = some k → w.heap.size ≤ k)
  fr : OFr w w' b r
/-- The lock taken, new memory made, the lock let go. -/
theorem OvLeft.quiet {w w2 : World} {b room : Nat} {r : Option Nat} {l : Ov.Files} (h : OvRep w b r room l) (hb : Below (w.setCell ⟨b, 0, none⟩ (.int .i32 1)).heap.size (w.setCell ⟨b, 0, none⟩ (.int .i32 1)) w2) : OvLeft w b r room l (w2.setCell ⟨b, 0, none⟩ (.int .i32 0)) := by
  have h2 := (h.lock (s' := 1)).kept hb
  exact ⟨⟨r, h2.lock, Or.inl rfl⟩, ((OFr.set_blk w b 0 r _).trans (OFr.of_below hb b r)).trans (OFr.set_blk w2 b 0 r _)⟩

open Go.MuLone in
set_option maxRecDepth 100000 in
set_option maxHeartbeats 400000 in
theorem oDump_calls (l : Ov.Files) (x : ByteArray) (b : Nat) (r : Option Nat) (room : Nat) (w : World) (hl8 : l.length ≤ 8) (h : OvRep w b r room l) :
    Calls Tryz.prog 32 #[.pointer (some ⟨b, 0, none⟩), .string x] w fun e w' => e = .returned (.tuple #[.string (Ov.dumpF l x).1, .int .i64 (Ov.dumpF l x).2]) ∧ OvLeft w b r room l w' := by
  obtain ⟨v, h1, h2, h3, h4⟩ := id h
  have HR := hide h
  have c0 : w.cell? ⟨b, 0, none⟩ = some (.int .i32 0) := blk_cell h1 rfl
  have f0 := blk_frozen h1 0
  have hbl := blk_lt h1
  have HB := hide (blk_set_same (i := 0) h1 (.int .i32 1))
  have HO := hide (owns_set h2 h3 (a := ⟨b, 0, none⟩) (.int .i32 1))
  clear h h1 h2 h3 h4
  by_cases hp : Ov.place l x < l.length
  · have Hh : Ov.has l x = true := by unfold Ov.has; exact decide_eq_true hp
    have HD : Hid ((Ov.dumpF l x).2 = 0) := by unfold Ov.dumpF; rw [if_pos hp]; exact rfl
    go_enter_defers Tryz.func32, Tryz.ntmps32
    go_wp2_with (first | (go_at_call 42; refine (lock_free muLib ⟨b, 0, none⟩ _ c0 f0).mono ?_; rintro e w1 ⟨rfl, rfl⟩) | (go_at_call 67; refine (oSget_calls l v x b 3 0 _ hl8 (unhide HO) (blk_cell (unhide HB) rfl) (by simpa using hbl)).mono ?_; rintro e w2 ⟨rfl, hb2⟩))
    refine leaves_cons (f := 43) (args := #[.pointer (some ⟨b, 0, none⟩)]) (by simp) (by simp [go_sem]) ?_
    refine (unlock_deferred muLib ⟨b, 0, none⟩ .returning _ ?_ ?_).mono ?_
    · exact (hb2.cell (p := ⟨b, 0, none⟩) (by simpa using hbl)).trans (blk_cell (unhide HB) rfl)
    · exact (hb2.frozen (p := ⟨b, 0, none⟩) (by simpa using hbl)).trans (blk_frozen (unhide HB) 0)
    rintro e u' w'' ⟨rfl, rfl, rfl⟩
    refine ⟨_, results_tmp2 rfl _ _ _, ?_, OvLeft.quiet (unhide HR) hb2⟩
    rw [unhide HD]; rfl
  · have Hh : Ov.has l x = false := by unfold Ov.has; exact decide_eq_false hp
    have HD : Hid (Ov.dumpF l x = (⟨#[]⟩, 4)) := by unfold Ov.dumpF; rw [if_neg hp]; exact rfl
    go_enter_defers Tryz.func32, Tryz.ntmps32
    go_wp2_with (first | (go_at_call 42; refine (lock_free muLib ⟨b, 0, none⟩ _ c0 f0).mono ?_; rintro e w1 ⟨rfl, rfl⟩) | (go_at_call 67; refine (oSget_calls l v x b 3 0 _ hl8 (unhide HO) (blk_cell (unhide HB) rfl) (by simpa using hbl)).mono ?_; rintro e w2 ⟨rfl, hb2⟩))
    refine leaves_cons (f := 43) (args := #[.pointer (some ⟨b, 0, none⟩)]) (by simp) (by simp [go_sem]) ?_
    refine (unlock_deferred muLib ⟨b, 0, none⟩ .returning _ ?_ ?_).mono ?_
    · exact (hb2.cell (p := ⟨b, 0, none⟩) (by simpa using hbl)).trans (blk_cell (unhide HB) rfl)
    · exact (hb2.frozen (p := ⟨b, 0, none⟩) (by simpa using hbl)).trans (blk_frozen (unhide HB) 0)
    rintro e u' w'' ⟨rfl, rfl, rfl⟩
    refine ⟨_, results_tmp2 rfl _ _ _, ?_, OvLeft.quiet (unhide HR) hb2⟩
    rw [unhide HD]; rfl

end Go.Proofs.YtdcmmmggiokbhaaGreatDoor

/- The program's iterator over its files: its contract. -/
namespace Go.Proofs.YtdcmmmggiokbhaaGreatDoor
open Go.RowKit Go.Joins Go.Shelf

attribute [local go_sem] Oper.semAt_some

theorem take_snoc_files {l : Ov.Files} {k : Nat} (h : k < l.length) : l.take (k + 1) = l.take k ++ [(Ov.nameAt l k, Ov.fileAt l k)] := by
  have e1 : Ov.nameAt l k = l[k].1 := by simp [Ov.nameAt, h]
  have e2 : Ov.fileAt l k = l[k].2 := by simp [Ov.fileAt, h]
  rw [List.take_succ_eq_append_getElem h, e1, e2]

set_option maxRecDepth 100000 in
set_option maxHeartbeats 2000000 in
theorem oSall1_in (F : Fence) (n : Nat) (h8 : F.fn 114) (hro : F.round = none) (hn : 1 ≤ n) (y Bs n₀ b off g c : Nat) (l : Ov.Files) (hl : l.length ≤ 8) (hg : g < n₀) (J Jx : List (ByteArray × ByteArray) → World → Prop)
    (hA : ∀ pre W1 o, J pre W1 → J pre (World.alloc W1 o))
    (hY : ∀ pre x W, J pre W → pre.length < l.length → YieldAt F (n - 1) Tryz.prog y #[.string x.1, .string x.2] W fun e W' =>
      (e = .returned (.bool true) ∧ J (pre ++ [x]) W' ∧ Below n₀ W W') ∨ (e = .returned (.bool false) ∧ Jx (pre ++ [x]) W'))
    (W : World) (hn0 : n₀ ≤ W.heap.size) (hcB : W.cell? ⟨Bs, 0, none⟩ = some (.pointer (some ⟨b, off, none⟩))) (hcv : W.cell? ⟨b, off, none⟩ = some (.slice (some ⟨g, 0, none⟩) l.length c)) (ho : OwnsRows W 0 (.slice (some ⟨g, 0, none⟩) l.length c) l) (h0 : J [] W) :
    CallsIn F n Tryz.prog 114 #[.func (.yield y) #[] #[], .pointer (some ⟨Bs, 0, none⟩)] W fun e W' => (∃ v, e = .returned v) ∧
      ((∃ ys, ys = l ∧ J ys W') ∨ (∃ pre, (∃ k, k ≤ l.length ∧ pre = l.take k) ∧ Jx pre W')) := by
  have HO := hide ho
  clear ho
  refine callsIn_of_wp Tryz.func114 rfl h8 ?_ hro
  simp only [Tryz.ntmps114, List.size_toArray, List.length_cons, List.length_nil, Nat.reduceAdd, Nat.reduceSub, Array.replicate_succ, Array.replicate_zero, List.push_toArray, List.append_toArray, List.nil_append, List.cons_append]
  gi_wp2
  gi_loopw [10, 4] (fun i _ wr => ∃ k : Nat, k ≤ l.length ∧ i = .int .i64 k ∧ J (l.take k) wr ∧ Below n₀ W wr) (fun i _ _ => l.length - (intOf i).toNat)
  case atStart => exact ⟨0, Nat.zero_le _, rfl, h0, Below.refl _ _⟩
  case round =>
    obtain ⟨k, hk, rfl, hJs, hnx⟩ := hrel
    have HNX := hide hnx
    have hwr : n₀ ≤ wr.heap.size := Nat.le_trans hn0 hnx.size
    by_cases hlt : k < l.length
    · have cn : wr.cell? ⟨g, k * 2, none⟩ = some (.string (Ov.nameAt l k)) := (hnx.cell (p := ⟨g, k * 2, none⟩) hg).trans (rows_name (unhide HO) hlt)
      have ct : wr.cell? ⟨g, k * 2 + 1, none⟩ = some (.string (Ov.fileAt l k)) := (hnx.cell (p := ⟨g, k * 2 + 1, none⟩) hg).trans (rows_bytes (unhide HO) hlt)
      obtain ⟨fn, tmps, assign, body, hy, hR⟩ := hY _ (Ov.nameAt l k, Ov.fileAt l k) (wr.alloc (.cells #[.string (Ov.nameAt l k), .string (Ov.fileAt l k)] 156)) (hA _ wr _ hJs) (by rw [List.length_take]; omega)
      dsimp only at hy
      have Hsn := hide (take_snoc_files hlt)
      clear hJs hnx
      gi_wp2
      refine hR.mono ?_
      rintro e W3 (⟨rfl, hJ3, hk3⟩ | ⟨rfl, hJx3⟩)
      · gi_wp2
        go_roundw
        case rel => exact ⟨k + 1, by omega, by simp, by rw [unhide Hsn]; exact hJ3, ((unhide HNX).alloc hwr _).trans hk3⟩
        case measure => simp [intOf]; omega
      · gi_wp2
        refine bodyPost_ret (results_none rfl _ _ _) rfl ?_
        exact ⟨⟨_, rfl⟩, .inr ⟨_, ⟨k + 1, by omega, (unhide Hsn).symm⟩, hJx3⟩⟩
    · obtain rfl : k = l.length := by omega
      rw [List.take_length] at hJs
      gi_wp2
      go_end0
      exact ⟨⟨_, rfl⟩, .inl ⟨_, rfl, hJs⟩⟩

set_option maxRecDepth 100000 in
set_option maxHeartbeats 1000000 in
theorem oSall1_nil_in (F : Fence) (n : Nat) (h8 : F.fn 114) (hro : F.round = none) (y Bs b off : Nat) (J : List (ByteArray × ByteArray) → World → Prop)
    (W : World) (hcB : W.cell? ⟨Bs, 0, none⟩ = some (.pointer (some ⟨b, off, none⟩))) (hcv : W.cell? ⟨b, off, none⟩ = some (.slice none 0 0)) (h0 : J [] W) :
    CallsIn F n Tryz.prog 114 #[.func (.yield y) #[] #[], .pointer (some ⟨Bs, 0, none⟩)] W fun e W' => (∃ v, e = .returned v) ∧ J [] W' := by
  refine callsIn_of_wp Tryz.func114 rfl h8 ?_ hro
  simp only [Tryz.ntmps114, List.size_toArray, List.length_cons, List.length_nil, Nat.reduceAdd, Nat.reduceSub, Array.replicate_succ, Array.replicate_zero, List.push_toArray, List.append_toArray, List.nil_append, List.cons_append]
  gi_wp2
  gi_loopw [10, 4] (fun i _ wr => i = .int .i64 0 ∧ J [] wr) (fun _ _ _ => 0)
  case atStart => exact ⟨rfl, h0⟩
  case round =>
    obtain ⟨rfl, hJs⟩ := hrel
    gi_wp2
    go_end0
    exact ⟨⟨_, rfl⟩, hJs⟩

/-- all: the keeper's address is boxed; the function value captures the box. -/
theorem oSall_in (F : Fence) (n : Nat) (h6 : F.fn 84) (hro : F.round = none) (p : Option Addr) (w : World) :
    CallsIn F n Tryz.prog 84 #[.pointer p] w fun e w' => e = .returned (.func (.func 114) #[] #[.pointer (some ⟨w.heap.size, 0, none⟩)]) ∧ w' = w.alloc (.cells #[.pointer p] 154) := by
  refine callsIn_of_wp Tryz.func84 rfl h6 ?_ hro
  simp only [Tryz.ntmps84, List.size_toArray, List.length_cons, List.length_nil, Nat.reduceAdd, Nat.reduceSub, Array.replicate_succ, Array.replicate_zero, List.push_toArray, List.append_toArray, List.nil_append, List.cons_append]
  gi_wp2
  go_ret
  exact ⟨rfl, rfl⟩

/-- THE ITERATOR's CONTRACT: all files, in their order; or the first of them. -/
theorem oSall_stops (F : Fence) (n : Nat) (h8 : F.fn 114) (hro : F.round = none) (hn : 1 ≤ n) (Bs n₀ b off : Nat) (v : Value) (l : Ov.Files) (hl : l.length ≤ 8) (w : World) (hBs : Bs < w.heap.size) (hn₀ : n₀ ≤ w.heap.size) (hb : b < n₀)
    (hcB : w.cell? ⟨Bs, 0, none⟩ = some (.pointer (some ⟨b, off, none⟩))) (hcv : w.cell? ⟨b, off, none⟩ = some v) (ho : OwnsRows w 0 v l) (hg : ∀ k, v.ownBlock = some k → k < n₀) :
    SeqStopsK F n Tryz.prog 114 #[.pointer (some ⟨Bs, 0, none⟩)] (fun x : ByteArray × ByteArray => #[Value.string x.1, Value.string x.2]) (Below n₀) (fun ys => ys = l) (fun pre => ∃ k, k ≤ l.length ∧ pre = l.take k) l.length w := fun y J Jx W hW hJ _ hY h0 => by
  have hcB' := (hW.cell (p := ⟨Bs, 0, none⟩) hBs).trans hcB
  have hcv' := (hW.cell (p := ⟨b, off, none⟩) (by exact Nat.lt_of_lt_of_le hb hn₀)).trans hcv
  have ho' := owns_all ho hW
  rcases ownsRow_forms ho' with ⟨rfl, e0⟩ | ⟨g, c, rfl⟩
  · obtain rfl : l = [] := List.length_eq_zero_iff.1 e0
    exact (oSall1_nil_in F n h8 hro y Bs b off J W hcB' hcv' h0).mono fun e W' ⟨he, hj⟩ => ⟨he, .inl ⟨_, rfl, hj⟩⟩
  · exact oSall1_in F n h8 hro hn y Bs n₀ b off g c l hl (hg g rfl) J Jx (fun pre W1 o hj => hJ pre W1 _ none hj (World.grownBy_alloc W1 o none) (fun r e => by cases e)) hY W (Nat.le_trans hn₀ hW.size) hcB' hcv' ho' h0

end Go.Proofs.YtdcmmmggiokbhaaGreatDoor

/- The program's New. -/
namespace Go.Proofs.YtdcmmmggiokbhaaGreatDoor
open Go.RowKit Go.Joins

set_option maxRecDepth 100000 in
set_option maxHeartbeats 400000 in
theorem oNew_no (n : Int) (w : World) (h : n < 0 ∨ 4000 < n) : Calls Tryz.prog 9 #[.int .i64 n] w fun e w' => e = .returned (.tuple #[.pointer none, .int .i64 1]) ∧ w = w' := by
  rcases h with h | h
  · go_enter Tryz.func9, Tryz.ntmps9
    go_wp2
    go_ret2
    exact ⟨rfl, rfl⟩
  · have h0 : decide (n < 0) = false := decide_eq_false (by omega)
    go_enter Tryz.func9, Tryz.ntmps9
    go_wp2
    go_ret2
    exact ⟨rfl, rfl⟩
set_option maxRecDepth 100000 in
set_option maxHeartbeats 400000 in
theorem oNew_yes (n : Nat) (w : World) (h : n ≤ 4000) : Calls Tryz.prog 9 #[.int .i64 n] w fun e w' => e = .returned (.tuple #[.pointer (some ⟨w.heap.size, 0, none⟩), .int .i64 0]) ∧ w' = w.alloc (.cells #[.int .i32 0, .int .u32 0, .int .i64 n, .slice none 0 0] 56) := by
  go_enter Tryz.func9, Tryz.ntmps9
  go_wp2
  go_ret2
  exact ⟨rfl, rfl⟩
theorem OvRep.new (w : World) (n : Nat) : OvRep (w.alloc (.cells #[.int .i32 0, .int .u32 0, .int .i64 n, .slice none 0 0] 56)) w.heap.size none n [] :=
  ⟨_, by show (w.heap.push _)[w.heap.size]? = _; simp, World.ownsRow_nil _ _ _ _, by simp [Value.ownBlock], rfl⟩

end Go.Proofs.YtdcmmmggiokbhaaGreatDoor
