/- The program's iterator over its files: its contract. -/
import Derived.RangeFuncNested
import Derived.RangeFuncBound
import Derived.RangeFuncCalls
import Derived.RangeFuncLeaves
import Derived.Shelf.Abstract
import Derived.Shelf.RegionOpen
import Derived.OwnWalkIn
import Derived.TacticsInMore
import Derived.LoopNIn
import Derived.LoopIn
import Derived.Test.YtomiepknmmpflaaGreatDoorCWONew
import Derived.Test.YtomiepknmmpflaaGreatDoorCWOput2
import Derived.Maps.AppendAt
namespace Go.Proofs.YtomiepknmmpflaaGreatDoor
open Go.RowKit Go.Joins Go.Shelf

attribute [local go_sem] Oper.semAt_some

theorem take_snoc_files {l : Ov.Files} {k : Nat} (h : k < l.length) : l.take (k + 1) = l.take k ++ [(Ov.nameAt l k, Ov.fileAt l k)] := by
  have e1 : Ov.nameAt l k = l[k].1 := by simp [Ov.nameAt, h]
  have e2 : Ov.fileAt l k = l[k].2 := by simp [Ov.fileAt, h]
  rw [List.take_succ_eq_append_getElem h, e1, e2]

set_option maxRecDepth 100000 in
set_option maxHeartbeats 2000000 in
theorem oSall1_in (F : Fence) (n : Nat) (h8 : F.fn 146) (hro : F.round = none) (hn : 1 ≤ n) (y Bs n₀ b off g c : Nat) (l : Ov.Files) (hl : l.length ≤ 8) (hg : g < n₀) (J Jx : List (ByteArray × ByteArray) → World → Prop)
    (hA : ∀ pre W1 o, J pre W1 → J pre (World.alloc W1 o))
    (hY : ∀ pre x W, J pre W → pre.length < l.length → YieldAt F (n - 1) Tryz.prog y #[.string x.1, .string x.2] W fun e W' =>
      (e = .returned (.bool true) ∧ J (pre ++ [x]) W' ∧ Below n₀ W W') ∨ (e = .returned (.bool false) ∧ Jx (pre ++ [x]) W'))
    (W : World) (hn0 : n₀ ≤ W.heap.size) (hcB : W.cell? ⟨Bs, 0, none⟩ = some (.pointer (some ⟨b, off, none⟩))) (hcv : W.cell? ⟨b, off, none⟩ = some (.slice (some ⟨g, 0, none⟩) l.length c)) (ho : OwnsRows W 0 (.slice (some ⟨g, 0, none⟩) l.length c) l) (h0 : J [] W) :
    CallsIn F n Tryz.prog 146 #[.func (.yield y) #[] #[], .pointer (some ⟨Bs, 0, none⟩)] W fun e W' => (∃ v, e = .returned v) ∧
      ((∃ ys, ys = l ∧ J ys W') ∨ (∃ pre, (∃ k, k ≤ l.length ∧ pre = l.take k) ∧ Jx pre W')) := by
  have HO := hide ho
  clear ho
  refine callsIn_of_wp Tryz.func146 rfl h8 ?_ hro
  simp only [Tryz.ntmps146, List.size_toArray, List.length_cons, List.length_nil, Nat.reduceAdd, Nat.reduceSub, Array.replicate_succ, Array.replicate_zero, List.push_toArray, List.append_toArray, List.nil_append, List.cons_append]
  gi_wp2
  gi_loopw [10, 4] (fun i _ wr => ∃ k : Nat, k ≤ l.length ∧ i = .int .i64 k ∧ J (l.take k) wr ∧ Below n₀ W wr) (fun i _ _ => l.length - (intOf i).toNat)
  case atStart => exact ⟨0, Nat.zero_le _, rfl, h0, Below.refl _ _⟩
  case round =>
    obtain ⟨k, hk, rfl, hJs, hnx⟩ := hrel
    have HNX := hide hnx
    have hwr : n₀ ≤ wr.heap.size := Nat.le_trans hn0 hnx.size
    by_cases hlt : k < l.length
    · have cn : wr.cell? ⟨g, k * 2, none⟩ = some (.string (Ov.nameAt l k)) := (hnx.cell (p := ⟨g, k * 2, none⟩) hg).trans (rows_name (unhide HO) hlt)
      have ct : wr.cell? ⟨g, k * 2 + 1, none⟩ = some (.string (Ov.fileAt l k)) := (hnx.cell (p := ⟨g, k * 2 + 1, none⟩) hg).trans (rows_bytes (unhide HO) hlt)
      obtain ⟨fn, tmps, assign, body, hy, hR⟩ := hY _ (Ov.nameAt l k, Ov.fileAt l k) (wr.alloc (.cells #[.string (Ov.nameAt l k), .string (Ov.fileAt l k)] 97)) (hA _ wr _ hJs) (by rw [List.length_take]; omega)
      dsimp only at hy
      have Hsn := hide (take_snoc_files hlt)
      clear hJs hnx
      gi_wp2
      refine hR.mono ?_
      rintro e W3 (⟨rfl, hJ3, hk3⟩ | ⟨rfl, hJx3⟩)
      · gi_wp2
        go_roundw
        case rel => exact ⟨k + 1, by omega, by simp, by rw [unhide Hsn]; exact hJ3, ((unhide HNX).alloc hwr _).trans hk3⟩
        case measure => simp [intOf]; omega
      · gi_wp2
        refine bodyPost_ret (results_none rfl _ _ _) rfl ?_
        exact ⟨⟨_, rfl⟩, .inr ⟨_, ⟨k + 1, by omega, (unhide Hsn).symm⟩, hJx3⟩⟩
    · obtain rfl : k = l.length := by omega
      rw [List.take_length] at hJs
      gi_wp2
      go_end0
      exact ⟨⟨_, rfl⟩, .inl ⟨_, rfl, hJs⟩⟩

set_option maxRecDepth 100000 in
set_option maxHeartbeats 1000000 in
theorem oSall1_nil_in (F : Fence) (n : Nat) (h8 : F.fn 146) (hro : F.round = none) (y Bs b off : Nat) (J : List (ByteArray × ByteArray) → World → Prop)
    (W : World) (hcB : W.cell? ⟨Bs, 0, none⟩ = some (.pointer (some ⟨b, off, none⟩))) (hcv : W.cell? ⟨b, off, none⟩ = some (.slice none 0 0)) (h0 : J [] W) :
    CallsIn F n Tryz.prog 146 #[.func (.yield y) #[] #[], .pointer (some ⟨Bs, 0, none⟩)] W fun e W' => (∃ v, e = .returned v) ∧ J [] W' := by
  refine callsIn_of_wp Tryz.func146 rfl h8 ?_ hro
  simp only [Tryz.ntmps146, List.size_toArray, List.length_cons, List.length_nil, Nat.reduceAdd, Nat.reduceSub, Array.replicate_succ, Array.replicate_zero, List.push_toArray, List.append_toArray, List.nil_append, List.cons_append]
  gi_wp2
  gi_loopw [10, 4] (fun i _ wr => i = .int .i64 0 ∧ J [] wr) (fun _ _ _ => 0)
  case atStart => exact ⟨rfl, h0⟩
  case round =>
    obtain ⟨rfl, hJs⟩ := hrel
    gi_wp2
    go_end0
    exact ⟨⟨_, rfl⟩, hJs⟩

/-- all: the keeper's address is boxed; the function value captures the box. -/
theorem oSall_in (F : Fence) (n : Nat) (h6 : F.fn 94) (hro : F.round = none) (p : Option Addr) (w : World) :
    CallsIn F n Tryz.prog 94 #[.pointer p] w fun e w' => e = .returned (.func (.func 146) #[] #[.pointer (some ⟨w.heap.size, 0, none⟩)]) ∧ w' = w.alloc (.cells #[.pointer p] 168) := by
  refine callsIn_of_wp Tryz.func94 rfl h6 ?_ hro
  simp only [Tryz.ntmps94, List.size_toArray, List.length_cons, List.length_nil, Nat.reduceAdd, Nat.reduceSub, Array.replicate_succ, Array.replicate_zero, List.push_toArray, List.append_toArray, List.nil_append, List.cons_append]
  gi_wp2
  go_ret
  exact ⟨rfl, rfl⟩

/-- THE ITERATOR's CONTRACT: all files, in their order; or the first of them. -/
theorem oSall_stops (F : Fence) (n : Nat) (h8 : F.fn 146) (hro : F.round = none) (hn : 1 ≤ n) (Bs n₀ b off : Nat) (v : Value) (l : Ov.Files) (hl : l.length ≤ 8) (w : World) (hBs : Bs < w.heap.size) (hn₀ : n₀ ≤ w.heap.size) (hb : b < n₀)
    (hcB : w.cell? ⟨Bs, 0, none⟩ = some (.pointer (some ⟨b, off, none⟩))) (hcv : w.cell? ⟨b, off, none⟩ = some v) (ho : OwnsRows w 0 v l) (hg : ∀ k, v.ownBlock = some k → k < n₀) :
    SeqStopsK F n Tryz.prog 146 #[.pointer (some ⟨Bs, 0, none⟩)] (fun x : ByteArray × ByteArray => #[Value.string x.1, Value.string x.2]) (Below n₀) (fun ys => ys = l) (fun pre => ∃ k, k ≤ l.length ∧ pre = l.take k) l.length w := fun y J Jx W hW hJ _ hY h0 => by
  have hcB' := (hW.cell (p := ⟨Bs, 0, none⟩) hBs).trans hcB
  have hcv' := (hW.cell (p := ⟨b, off, none⟩) (by exact Nat.lt_of_lt_of_le hb hn₀)).trans hcv
  have ho' := owns_all ho hW
  rcases ownsRow_forms ho' with ⟨rfl, e0⟩ | ⟨g, c, rfl⟩
  · obtain rfl : l = [] := List.length_eq_zero_iff.1 e0
    exact (oSall1_nil_in F n h8 hro y Bs b off J W hcB' hcv' h0).mono fun e W' ⟨he, hj⟩ => ⟨he, .inl ⟨_, rfl, hj⟩⟩
  · exact oSall1_in F n h8 hro hn y Bs n₀ b off g c l hl (hg g rfl) J Jx (fun pre W1 o hj => hJ pre W1 _ none hj (World.grownBy_alloc W1 o none) (fun r e => by cases e)) hY W (Nat.le_trans hn₀ hW.size) hcB' hcv' ho' h0

end Go.Proofs.YtomiepknmmpflaaGreatDoor

/- The program's copy of its files. -/
namespace Go.Proofs.YtomiepknmmpflaaGreatDoor
open Go.RowKit Go.Joins

theorem files_nil {l : Ov.Files} (h : l.length = 0) : l = [] := List.eq_nil_of_length_eq_zero h
set_option maxRecDepth 100000 in
set_option maxHeartbeats 1000000 in
theorem oSClone_calls (l : Ov.Files) (v : Value) (w : World) (hl : l.length ≤ 8) (hown : OwnsRows w 0 v l) :
    Calls Tryz.prog 145 #[v] w fun e w' => ∃ a c, e = .returned (.slice a l.length c) ∧ OwnsRows w' w.heap.size (.slice a l.length c) l ∧ Below w.heap.size w w' := by
  obtain ⟨i0, hi, hz0, hz1, hz2⟩ := info_parts Tryz.infoRow
  rcases hown.2 with ⟨rfl, h0⟩ | ⟨g, cap, cur, rfl, _⟩
  · have hl0 : l = [] := files_nil (by simpa using h0)
    subst hl0
    have he : ∀ W : World, (binOp .eql 73 (.slice none 0 0) (.slice none 0 0)).run Tryz.prog W = .ok (.bool true) W := fun _ => by kernel_rfl
    go_enter Tryz.func145, Tryz.ntmps145
    go_wp2
    go_ret
    exact ⟨none, 0, rfl, World.ownsRow_nil _ _ _ _, Below.refl _ _⟩
  · have HO := hide hown
    have he : ∀ W : World, (binOp .eql 73 (.slice (some ⟨g, 0, none⟩) l.length cap) (.slice none 0 0)).run Tryz.prog W = .ok (.bool false) W := fun _ => by kernel_rfl
    clear hown
    go_enter Tryz.func145, Tryz.ntmps145
    go_wp2_with (at_builtin; refine wpList_append_own_at _ rfl (.tmp 5) (.tmp 6) 73 rfl w.heap.size 97 i0 (.agg #[.string ⟨#[]⟩, .string ⟨#[]⟩]) 2 32 Tryz.underlying73 hi hz0 hz1 hz2 rfl (by decide) (.slice (some ⟨w.heap.size, 0, none⟩) 0 0) 0 [] rfl (World.ownsRow_lit w #[] 0 (Nat.le_refl _) (by unfold maxLen; omega) rfl) ⟨g, 0, none⟩ l.length cap (fileCells l) rfl (fileCells_length l) (rows_holds ((unhide HO).alloc _) _ rfl) (fun u hu => fileCells_one l u hu) (by unfold maxLen; omega) (by omega) (by simp) ?_; intro v2 w2 ho2 hg2 _ hw2; obtain ⟨g2, c2, rfl⟩ := owns_slice ho2)
    go_ret
    have hb : Below w.heap.size w w2 := ((below_alloc1 w _)).grown hg2 (by simp) (fun k hk => by simp [Value.ownBlock] at hk; omega)
    refine ⟨g2, c2, by simp, ?_, hb⟩
    unfold OwnsRows
    simpa using ho2

set_option maxRecDepth 100000 in
set_option maxHeartbeats 1000000 in
theorem oScopied_calls (l : Ov.Files) (v : Value) (b off : Nat) (w : World) (hl : l.length ≤ 8) (hown : OwnsRows w 0 v l) (hc : w.cell? ⟨b, off, none⟩ = some v) (hb : b < w.heap.size) :
    Calls Tryz.prog 92 #[.pointer (some ⟨b, off, none⟩)] w fun e w' => ∃ a c, e = .returned (.agg #[.slice a l.length c]) ∧ OwnsRows w' w.heap.size (.slice a l.length c) l ∧ Below w.heap.size w w' := by
  obtain ⟨a, c, rfl⟩ := owns_slice hown
  have hc2 : ∀ o, (w.alloc o).cell? ⟨b, off, none⟩ = some (.slice a l.length c) := fun o => (World.cell?_alloc_past _ _ _ hb).trans hc
  have HO := hide hown
  clear hown hc
  go_enter Tryz.func92, Tryz.ntmps92
  go_wp2_with (go_at_call 145; go_must (refine (oSClone_calls l _ _ hl ((unhide HO).alloc _)).mono ?_; rintro e w1 ⟨a1, c1, rfl, ho1, hb1⟩; have bx := (hb1.block w.heap.size (by simp)).trans (heap_alloc_new w _); have xf := blk_frozen bx 0; have x0 := blk_cell (i := 0) bx rfl))
  exact bodyPost_ret (v := .agg #[.slice a1 l.length c1]) (by simp [results, Tryz.results92, go_sem, x0]) rfl ⟨a1, c1, rfl, owns_set (ownsRow_le ho1 (by simp)) (a := ⟨w.heap.size, 0, none⟩) (owns_ne ho1 (by simp)) _, ((below_alloc1 w _).trans (hb1.mono (by simp))).setCell (p := ⟨w.heap.size, 0, none⟩) (Nat.le_refl _) _⟩

end Go.Proofs.YtomiepknmmpflaaGreatDoor
