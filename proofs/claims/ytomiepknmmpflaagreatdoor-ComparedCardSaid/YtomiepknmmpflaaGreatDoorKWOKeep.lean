/- The program's iterator over its files: its contract. -/
import Derived.RangeFuncNested
import Derived.RangeFuncBound
import Derived.RangeFuncCalls
import Derived.RangeFuncLeaves
import Derived.Shelf.Abstract
import Derived.Shelf.RegionOpen
import Derived.OwnWalkIn
import Derived.TacticsInMore
import Derived.LoopNIn
import Derived.LoopIn
import Derived.Test.YtomiepknmmpflaaGreatDoorKWONew
import Derived.Test.YtomiepknmmpflaaGreatDoorKWODrop2
import Derived.Maps.AppendAt
namespace Go.Proofs.YtomiepknmmpflaaGreatDoor
open Go.RowKit Go.Joins Go.Shelf

attribute [local go_sem] Oper.semAt_some

theorem take_snoc_files {l : Ov.Files} {k : Nat} (h : k < l.length) : l.take (k + 1) = l.take k ++ [(Ov.nameAt l k, Ov.fileAt l k)] := by
  have e1 : Ov.nameAt l k = l[k].1 := by simp [Ov.nameAt, h]
  have e2 : Ov.fileAt l k = l[k].2 := by simp [Ov.fileAt, h]
  rw [List.take_succ_eq_append_getElem h, e1, e2]

set_option maxRecDepth 100000 in
set_option maxHeartbeats 2000000 in
theorem oSall1_in (F : Fence) (n : Nat) (h8 : F.fn 146) (hro : F.round = none) (hn : 1 ≤ n) (y Bs n₀ b off g c : Nat) (l : Ov.Files) (hl : l.length ≤ 8) (hg : g < n₀) (J Jx : List (ByteArray × ByteArray) → World → Prop)
    (hA : ∀ pre W1 o, J pre W1 → J pre (World.alloc W1 o))
    (hY : ∀ pre x W, J pre W → pre.length < l.length → YieldAt F (n - 1) Tryz.prog y #[.string x.1, .string x.2] W fun e W' =>
      (e = .returned (.bool true) ∧ J (pre ++ [x]) W' ∧ Below n₀ W W') ∨ (e = .returned (.bool false) ∧ Jx (pre ++ [x]) W'))
    (W : World) (hn0 : n₀ ≤ W.heap.size) (hcB : W.cell? ⟨Bs, 0, none⟩ = some (.pointer (some ⟨b, off, none⟩))) (hcv : W.cell? ⟨b, off, none⟩ = some (.slice (some ⟨g, 0, none⟩) l.length c)) (ho : OwnsRows W 0 (.slice (some ⟨g, 0, none⟩) l.length c) l) (h0 : J [] W) :
    CallsIn F n Tryz.prog 146 #[.func (.yield y) #[] #[], .pointer (some ⟨Bs, 0, none⟩)] W fun e W' => (∃ v, e = .returned v) ∧
      ((∃ ys, ys = l ∧ J ys W') ∨ (∃ pre, (∃ k, k ≤ l.length ∧ pre = l.take k) ∧ Jx pre W')) := by
  have HO := hide ho
  clear ho
  refine callsIn_of_wp Tryz.func146 rfl h8 ?_ hro
  simp only [Tryz.ntmps146, List.size_toArray, List.length_cons, List.length_nil, Nat.reduceAdd, Nat.reduceSub, Array.replicate_succ, Array.replicate_zero, List.push_toArray, List.append_toArray, List.nil_append, List.cons_append]
  gi_wp2
  gi_loopw [10, 4] (fun i _ wr => ∃ k : Nat, k ≤ l.length ∧ i = .int .i64 k ∧ J (l.take k) wr ∧ Below n₀ W wr) (fun i _ _ => l.length - (intOf i).toNat)
  case atStart => exact ⟨0, Nat.zero_le _, rfl, h0, Below.refl _ _⟩
  case round =>
    obtain ⟨k, hk, rfl, hJs, hnx⟩ := hrel
    have HNX := hide hnx
    have hwr : n₀ ≤ wr.heap.size := Nat.le_trans hn0 hnx.size
    by_cases hlt : k < l.length
    · have cn : wr.cell? ⟨g, k * 2, none⟩ = some (.string (Ov.nameAt l k)) := (hnx.cell (p := ⟨g, k * 2, none⟩) hg).trans (rows_name (unhide HO) hlt)
      have ct : wr.cell? ⟨g, k * 2 + 1, none⟩ = some (.string (Ov.fileAt l k)) := (hnx.cell (p := ⟨g, k * 2 + 1, none⟩) hg).trans (rows_bytes (unhide HO) hlt)
      obtain ⟨fn, tmps, assign, body, hy, hR⟩ := hY _ (Ov.nameAt l k, Ov.fileAt l k) (wr.alloc (.cells #[.string (Ov.nameAt l k), .string (Ov.fileAt l k)] 97)) (hA _ wr _ hJs) (by rw [List.length_take]; omega)
      dsimp only at hy
      have Hsn := hide (take_snoc_files hlt)
      clear hJs hnx
      gi_wp2
      refine hR.mono ?_
      rintro e W3 (⟨rfl, hJ3, hk3⟩ | ⟨rfl, hJx3⟩)
      · gi_wp2
        go_roundw
        case rel => exact ⟨k + 1, by omega, by simp, by rw [unhide Hsn]; exact hJ3, ((unhide HNX).alloc hwr _).trans hk3⟩
        case measure => simp [intOf]; omega
      · gi_wp2
        refine bodyPost_ret (results_none rfl _ _ _) rfl ?_
        exact ⟨⟨_, rfl⟩, .inr ⟨_, ⟨k + 1, by omega, (unhide Hsn).symm⟩, hJx3⟩⟩
    · obtain rfl : k = l.length := by omega
      rw [List.take_length] at hJs
      gi_wp2
      go_end0
      exact ⟨⟨_, rfl⟩, .inl ⟨_, rfl, hJs⟩⟩

set_option maxRecDepth 100000 in
set_option maxHeartbeats 1000000 in
theorem oSall1_nil_in (F : Fence) (n : Nat) (h8 : F.fn 146) (hro : F.round = none) (y Bs b off : Nat) (J : List (ByteArray × ByteArray) → World → Prop)
    (W : World) (hcB : W.cell? ⟨Bs, 0, none⟩ = some (.pointer (some ⟨b, off, none⟩))) (hcv : W.cell? ⟨b, off, none⟩ = some (.slice none 0 0)) (h0 : J [] W) :
    CallsIn F n Tryz.prog 146 #[.func (.yield y) #[] #[], .pointer (some ⟨Bs, 0, none⟩)] W fun e W' => (∃ v, e = .returned v) ∧ J [] W' := by
  refine callsIn_of_wp Tryz.func146 rfl h8 ?_ hro
  simp only [Tryz.ntmps146, List.size_toArray, List.length_cons, List.length_nil, Nat.reduceAdd, Nat.reduceSub, Array.replicate_succ, Array.replicate_zero, List.push_toArray, List.append_toArray, List.nil_append, List.cons_append]
  gi_wp2
  gi_loopw [10, 4] (fun i _ wr => i = .int .i64 0 ∧ J [] wr) (fun _ _ _ => 0)
  case atStart => exact ⟨rfl, h0⟩
  case round =>
    obtain ⟨rfl, hJs⟩ := hrel
    gi_wp2
    go_end0
    exact ⟨⟨_, rfl⟩, hJs⟩

theorem oSall_in (F : Fence) (n : Nat) (h6 : F.fn 94) (hro : F.round = none) (p : Option Addr) (w : World) :
    CallsIn F n Tryz.prog 94 #[.pointer p] w fun e w' => e = .returned (.func (.func 146) #[] #[.pointer (some ⟨w.heap.size, 0, none⟩)]) ∧ w' = w.alloc (.cells #[.pointer p] 168) := by
  refine callsIn_of_wp Tryz.func94 rfl h6 ?_ hro
  simp only [Tryz.ntmps94, List.size_toArray, List.length_cons, List.length_nil, Nat.reduceAdd, Nat.reduceSub, Array.replicate_succ, Array.replicate_zero, List.push_toArray, List.append_toArray, List.nil_append, List.cons_append]
  gi_wp2
  go_ret
  exact ⟨rfl, rfl⟩

theorem oSall_stops (F : Fence) (n : Nat) (h8 : F.fn 146) (hro : F.round = none) (hn : 1 ≤ n) (Bs n₀ b off : Nat) (v : Value) (l : Ov.Files) (hl : l.length ≤ 8) (w : World) (hBs : Bs < w.heap.size) (hn₀ : n₀ ≤ w.heap.size) (hb : b < n₀)
    (hcB : w.cell? ⟨Bs, 0, none⟩ = some (.pointer (some ⟨b, off, none⟩))) (hcv : w.cell? ⟨b, off, none⟩ = some v) (ho : OwnsRows w 0 v l) (hg : ∀ k, v.ownBlock = some k → k < n₀) :
    SeqStopsK F n Tryz.prog 146 #[.pointer (some ⟨Bs, 0, none⟩)] (fun x : ByteArray × ByteArray => #[Value.string x.1, Value.string x.2]) (Below n₀) (fun ys => ys = l) (fun pre => ∃ k, k ≤ l.length ∧ pre = l.take k) l.length w := fun y J Jx W hW hJ _ hY h0 => by
  have hcB' := (hW.cell (p := ⟨Bs, 0, none⟩) hBs).trans hcB
  have hcv' := (hW.cell (p := ⟨b, off, none⟩) (by exact Nat.lt_of_lt_of_le hb hn₀)).trans hcv
  have ho' := owns_all ho hW
  rcases ownsRow_forms ho' with ⟨rfl, e0⟩ | ⟨g, c, rfl⟩
  · obtain rfl : l = [] := List.length_eq_zero_iff.1 e0
    exact (oSall1_nil_in F n h8 hro y Bs b off J W hcB' hcv' h0).mono fun e W' ⟨he, hj⟩ => ⟨he, .inl ⟨_, rfl, hj⟩⟩
  · exact oSall1_in F n h8 hro hn y Bs n₀ b off g c l hl (hg g rfl) J Jx (fun pre W1 o hj => hJ pre W1 _ none hj (World.grownBy_alloc W1 o none) (fun r e => by cases e)) hY W (Nat.le_trans hn₀ hW.size) hcB' hcv' ho' h0

end Go.Proofs.YtomiepknmmpflaaGreatDoor

namespace Go.Proofs.YtomiepknmmpflaaGreatDoor
open Go.RowKit Go.Joins

theorem files_nil {l : Ov.Files} (h : l.length = 0) : l = [] := List.eq_nil_of_length_eq_zero h
set_option maxRecDepth 100000 in
set_option maxHeartbeats 1000000 in
theorem oSClone_calls (l : Ov.Files) (v : Value) (w : World) (hl : l.length ≤ 8) (hown : OwnsRows w 0 v l) :
    Calls Tryz.prog 145 #[v] w fun e w' => ∃ a c, e = .returned (.slice a l.length c) ∧ OwnsRows w' w.heap.size (.slice a l.length c) l ∧ Below w.heap.size w w' := by
  obtain ⟨i0, hi, hz0, hz1, hz2⟩ := info_parts Tryz.infoRow
  rcases hown.2 with ⟨rfl, h0⟩ | ⟨g, cap, cur, rfl, _⟩
  · have hl0 : l = [] := files_nil (by simpa using h0)
    subst hl0
    have he : ∀ W : World, (binOp .eql 73 (.slice none 0 0) (.slice none 0 0)).run Tryz.prog W = .ok (.bool true) W := fun _ => by kernel_rfl
    go_enter Tryz.func145, Tryz.ntmps145
    go_wp2
    go_ret
    exact ⟨none, 0, rfl, World.ownsRow_nil _ _ _ _, Below.refl _ _⟩
  · have HO := hide hown
    have he : ∀ W : World, (binOp .eql 73 (.slice (some ⟨g, 0, none⟩) l.length cap) (.slice none 0 0)).run Tryz.prog W = .ok (.bool false) W := fun _ => by kernel_rfl
    clear hown
    go_enter Tryz.func145, Tryz.ntmps145
    go_wp2_with (at_builtin; refine wpList_append_own_at _ rfl (.tmp 5) (.tmp 6) 73 rfl w.heap.size 97 i0 (.agg #[.string ⟨#[]⟩, .string ⟨#[]⟩]) 2 32 Tryz.underlying73 hi hz0 hz1 hz2 rfl (by decide) (.slice (some ⟨w.heap.size, 0, none⟩) 0 0) 0 [] rfl (World.ownsRow_lit w #[] 0 (Nat.le_refl _) (by unfold maxLen; omega) rfl) ⟨g, 0, none⟩ l.length cap (fileCells l) rfl (fileCells_length l) (rows_holds ((unhide HO).alloc _) _ rfl) (fun u hu => fileCells_one l u hu) (by unfold maxLen; omega) (by omega) (by simp) ?_; intro v2 w2 ho2 hg2 _ hw2; obtain ⟨g2, c2, rfl⟩ := owns_slice ho2)
    go_ret
    have hb : Below w.heap.size w w2 := ((below_alloc1 w _)).grown hg2 (by simp) (fun k hk => by simp [Value.ownBlock] at hk; omega)
    refine ⟨g2, c2, by simp, ?_, hb⟩
    unfold OwnsRows
    simpa using ho2

set_option maxRecDepth 100000 in
set_option maxHeartbeats 1000000 in
theorem oScopied_calls (l : Ov.Files) (v : Value) (b off : Nat) (w : World) (hl : l.length ≤ 8) (hown : OwnsRows w 0 v l) (hc : w.cell? ⟨b, off, none⟩ = some v) (hb : b < w.heap.size) :
    Calls Tryz.prog 92 #[.pointer (some ⟨b, off, none⟩)] w fun e w' => ∃ a c, e = .returned (.agg #[.slice a l.length c]) ∧ OwnsRows w' w.heap.size (.slice a l.length c) l ∧ Below w.heap.size w w' := by
  obtain ⟨a, c, rfl⟩ := owns_slice hown
  have hc2 : ∀ o, (w.alloc o).cell? ⟨b, off, none⟩ = some (.slice a l.length c) := fun o => (World.cell?_alloc_past _ _ _ hb).trans hc
  have HO := hide hown
  clear hown hc
  go_enter Tryz.func92, Tryz.ntmps92
  go_wp2_with (go_at_call 145; go_must (refine (oSClone_calls l _ _ hl ((unhide HO).alloc _)).mono ?_; rintro e w1 ⟨a1, c1, rfl, ho1, hb1⟩; have bx := (hb1.block w.heap.size (by simp)).trans (heap_alloc_new w _); have xf := blk_frozen bx 0; have x0 := blk_cell (i := 0) bx rfl))
  exact bodyPost_ret (v := .agg #[.slice a1 l.length c1]) (by simp [results, Tryz.results92, go_sem, x0]) rfl ⟨a1, c1, rfl, owns_set (ownsRow_le ho1 (by simp)) (a := ⟨w.heap.size, 0, none⟩) (owns_ne ho1 (by simp)) _, ((below_alloc1 w _).trans (hb1.mono (by simp))).setCell (p := ⟨w.heap.size, 0, none⟩) (Nat.le_refl _) _⟩

end Go.Proofs.YtomiepknmmpflaaGreatDoor

namespace Go.Proofs.YtomiepknmmpflaaGreatDoor
open Go.RowKit Go.Joins Go.Shelf

attribute [local go_sem] Oper.semAt_some

def withAll (l ch : Ov.Files) : Ov.Files := ch.foldl (fun l f => Ov.withF l f.1 f.2) l
theorem withAll_snoc (l pre : Ov.Files) (f : ByteArray × ByteArray) : withAll l (pre ++ [f]) = Ov.withF (withAll l pre) f.1 f.2 := by simp [withAll]
theorem withF_more (l : Ov.Files) (x f : ByteArray) : l.length ≤ (Ov.withF l x f).length := by rw [Ov.withF_length]; split <;> omega
theorem withAll_more (ch : Ov.Files) : ∀ l : Ov.Files, l.length ≤ (withAll l ch).length := by
  induction ch with
  | nil => exact fun l => Nat.le_refl _
  | cons f ch ih => exact fun l => Nat.le_trans (withF_more l f.1 f.2) (ih _)
theorem withAll_take (l ch : Ov.Files) (n : Nat) : (withAll l (ch.take n)).length ≤ (withAll l ch).length := by
  have e : withAll l ch = withAll (withAll l (ch.take n)) (ch.drop n) := by
    unfold withAll
    rw [← List.foldl_append, List.take_append_drop]
  rw [e]; exact withAll_more _ _
def addLens (pre : List (ByteArray × ByteArray)) : Int := pre.foldl (fun t f => wrap64 (t + (f.2.size : Int))) 0
theorem addLens_snoc (pre : List (ByteArray × ByteArray)) (f : ByteArray × ByteArray) : addLens (pre ++ [f]) = wrap64 (addLens pre + (f.2.size : Int)) := by simp [addLens]

def NQ (K : Act → World → Prop) : Exit → Act → World → Prop
  | .normal, a, w => K a w
  | _, _, _ => False
theorem wp_calm {P : Program} {c : Code} {K : Act → World → Prop} {Q' : Exit → Act → World → Prop} {a : Act} {w : World} (h : c.wp P (NQ K) a w) : c.wp P (Exit.then K Q') a w :=
  wp_mono h (by intro e a' w' hq; cases e <;> first | exact hq | exact hq.elim)
theorem put_after {w W w3 : World} {b off D : Nat} {cs : Array Value} {t : TypeId} {v v3 : Value} {l : Ov.Files} {o o' : Obj} (hB : Below w.heap.size w W) (hp : PutLeft W b off cs t v l v3 w3) (hD : w3.heap[D]? = some o) (ho : o.isCells = false) (hDs : w.heap.size ≤ D) : PutLeft w b off cs t v l v3 (w3.putObj D o') := by
  have hg := grownBy_putObj' w3 D o'
  have hbD : b ≠ D := fun e => by
    have := hp.blk
    rw [e, hD] at this; cases this; cases ho
  refine ⟨?_, ownsRow_putObj hp.own o' hD ho, hp.ne, ?_, ?_⟩
  · rw [hg.block b (blk_lt hp.blk) (by simp [hbD])]; exact hp.blk
  · have f1 := (OFr.of_below hB b v.ownBlock).trans hp.fr
    refine ⟨hg.os.trans f1.os, hg.tape.trans f1.tape, hg.output.trans f1.output, Nat.le_trans f1.size hg.size, fun k hk hkb hkr => ?_⟩
    rw [hg.block k (Nat.lt_of_lt_of_le hk f1.size) (by simp; omega)]
    exact f1.block k hk hkb hkr
  · rcases hp.row with e | e
    · exact Or.inl e
    · exact Or.inr fun k hk => Nat.le_trans hB.size (e k hk)

structure Aft (w : World) (ba : Nat) (L : Ov.Files) (W : World) : Prop where
  below : Below w.heap.size w W
  lt : w.heap.size ≤ ba
  row : ∃ a c, W.heap[ba]? = some (.cells #[.slice a L.length c] 75 (0, 0)) ∧ OwnsRows W 0 (.slice a L.length c) L ∧ some ba ≠ (Value.slice a L.length c).ownBlock ∧ ∀ k, (Value.slice a L.length c).ownBlock = some k → w.heap.size ≤ k
theorem Aft.kept {w W W' : World} {ba : Nat} {L : Ov.Files} (h : Aft w ba L W) (hb : Below W.heap.size W W') : Aft w ba L W' := by
  obtain ⟨a, c, h1, h2, h3, h4⟩ := h.row
  exact ⟨h.below.trans (hb.mono h.below.size), h.lt, a, c, by rw [hb.block ba (blk_lt h1)]; exact h1, owns_all h2 hb, h3, h4⟩
theorem Aft.put {w W W' : World} {ba : Nat} {L L' : Ov.Files} {v v' : Value} (h : Aft w ba L W) (hv : ∀ k, v.ownBlock = some k → w.heap.size ≤ k) (hp : PutLeft W ba 0 #[v] 75 v L' v' W') : Aft w ba L' W' := by
  obtain ⟨a, c, rfl⟩ := owns_slice hp.own
  refine ⟨⟨hp.fr.os.trans h.below.os, hp.fr.tape.trans h.below.tape, hp.fr.output.trans h.below.output, Nat.le_trans h.below.size hp.fr.size, fun k hk => ?_⟩, h.lt, a, c, hp.blk, hp.own, hp.ne, fun k hk => ?_⟩
  · have hlt := h.lt
    have hsz := h.below.size
    rw [hp.fr.block k (by omega) (by omega) (fun e => by have := hv k e.symm; omega)]
    exact h.below.block k hk
  · rcases hp.row with e | e
    · exact hv k (e ▸ hk)
    · exact Nat.le_trans h.below.size (e k hk)
theorem Aft.left {w W : World} {b : Nat} {L : Ov.Files} {cs : Array Value} {t : TypeId} {v : Value} {a : Option Addr} {c : Nat} (hb : w.heap[b]? = some (.cells cs t (0, 0))) (hB : Below w.heap.size w W) (h2 : OwnsRows W 0 (.slice a L.length c) L) (h4 : ∀ k, (Value.slice a L.length c).ownBlock = some k → w.heap.size ≤ k) : PutLeft w b 3 cs t v L (.slice a L.length c) (W.setCell ⟨b, 3, none⟩ (.slice a L.length c)) := by
  have hbl := blk_lt hb
  have hne : some b ≠ (Value.slice a L.length c).ownBlock := fun e => by have := h4 b e.symm; omega
  exact ⟨blk_set_same ((hB.block b hbl).trans hb) _, owns_set h2 (a := ⟨b, 3, none⟩) hne _, hne, (OFr.of_below hB _ _).trans (OFr.set_blk W b 3 _ _), Or.inr h4⟩

set_option maxRecDepth 100000 in
set_option maxHeartbeats 4000000 in
theorem okeep_in (l ch : Ov.Files) (v : Value) (g b room : Nat) (w : World) (hl : (withAll l ch).length ≤ 8) (hc2 : ch.length ≤ 2) (hblk : w.heap[b]? = some (.cells #[.int .i32 1, .int .u32 0, .int .i64 room, v] 77 (0, 0))) (hown : OwnsRows w 0 v l) (hch : OwnsRows w 0 (.slice (some ⟨g, 0, none⟩) ch.length ch.length) ch) (hx : ∀ f ∈ ch, f.1.size ≤ 1000) :
    Calls Tryz.prog 53 #[.pointer (some ⟨b, 0, none⟩), .slice (some ⟨g, 0, none⟩) ch.length ch.length] w fun e w' => ((room : Int) < addLens (withAll l ch) ∧ e = .returned (.int .i64 9) ∧ Below w.heap.size w w') ∨ (addLens (withAll l ch) ≤ (room : Int) ∧ e = .returned (.int .i64 0) ∧ ∃ v', PutLeft w b 3 #[.int .i32 1, .int .u32 0, .int .i64 room, v] 77 v (withAll l ch) v' w') := by
  obtain ⟨va, vc, rfl⟩ := owns_slice hown
  have HB := hide hblk
  have HO := hide hown
  have HC := hide hch
  have HX := hide hx
  have hbl := blk_lt hblk
  have hc3 : w.cell? ⟨b, 3, none⟩ = some (.slice va l.length vc) := blk_cell hblk rfl
  have hl0 : l.length ≤ 8 := Nat.le_trans (withAll_more ch l) hl
  have HL := hide hl
  clear hblk hown hch hx hl
  refine (callsIn_wide (n := 6)).1 ?_
  have hro : Fence.wide.round = none := rfl
  refine callsIn_of_wp_marks Tryz.func53 rfl trivial ?_ hro
  simp only [Tryz.ntmps53, List.size_toArray, List.length_cons, List.length_nil, Nat.reduceAdd, Nat.reduceSub, Array.replicate_succ, Array.replicate_zero, List.push_toArray, List.append_toArray, List.nil_append, List.cons_append]
  have hfA : Fence.wide.fn 94 := trivial
  have hfB : Fence.wide.fn 146 := trivial
  have hfC : Fence.wide.fn 92 := trivial
  have hfP : Fence.wide.fn 93 := trivial
  gi_wp2_with (gi_at_call 92; refine ((callsIn_wide (n := _)).2 (oScopied_calls l _ b 3 _ hl0 (unhide HO) hc3 hbl)).mono ?_; rintro e w1 ⟨a1, c1, rfl, ho1, hb1⟩)
  have hA0 : Aft w w1.heap.size l (w1.alloc (.cells #[.slice a1 l.length c1] 75)) := ⟨hb1.alloc hb1.size _, hb1.size, a1, c1, heap_alloc_new w1 _, (ownsRow_le ho1 (Nat.zero_le _)).alloc _, fun e => by have := (ho1.lt _ e.symm).2; omega, fun k hk => (ho1.lt k hk).1⟩
  have HA0 := hide hA0
  have hgl := ((unhide HC).lt g rfl).2
  clear hA0 ho1 hb1
  gi_loopw [17, 7] (fun i _ wr => ∃ n : Nat, n ≤ ch.length ∧ i = .int .i64 n ∧ Aft w w1.heap.size (withAll l (ch.take n)) wr) (fun i _ _ => ch.length - (intOf i).toNat)
  case atStart => exact ⟨0, Nat.zero_le _, rfl, unhide HA0⟩
  case round =>
    obtain ⟨n, hn, rfl, hA⟩ := hrel
    by_cases hlt : n < ch.length
    · have cn : wr.cell? ⟨g, n * 2, none⟩ = some (.string (Ov.nameAt ch n)) := (hA.below.cell (p := ⟨g, n * 2, none⟩) hgl).trans (rows_name (unhide HC) hlt)
      have ct : wr.cell? ⟨g, n * 2 + 1, none⟩ = some (.string (Ov.fileAt ch n)) := (hA.below.cell (p := ⟨g, n * 2 + 1, none⟩) hgl).trans (rows_bytes (unhide HC) hlt)
      have HSN := hide (take_snoc_files hlt)
      have hxn : (Ov.nameAt ch n).size ≤ 1000 := by
        obtain ⟨q, hq, e⟩ := Ov.nameAt_mem hlt
        rw [e]; exact unhide HX q hq
      have hln := Nat.le_trans (withAll_take l ch n) (unhide HL)
      obtain ⟨L, hLe⟩ : ∃ L, withAll l (ch.take n) = L := ⟨_, rfl⟩
      obtain ⟨x, hxe⟩ : ∃ x, Ov.nameAt ch n = x := ⟨_, rfl⟩
      obtain ⟨f, hfe⟩ : ∃ f, Ov.fileAt ch n = f := ⟨_, rfl⟩
      rw [hLe] at hA hln
      rw [hxe] at cn hxn HSN
      rw [hfe] at ct HSN
      have hAa := hA.kept (below_alloc1 wr (.cells #[.string x, .string f] 97))
      obtain ⟨va2, vc2, h1, h2, h3, h4⟩ := hAa.row
      have HAA := hide hAa
      have H1 := hide h1
      have H2 := hide h2
      have H3 := hide h3
      have H4 := hide h4
      have HLE := hide hLe
      clear hA hAa h1 h2 h3 h4 hLe hxe hfe
      gi_wp2_with (gi_at_call 93; refine ((callsIn_wide (n := _)).2 (oSput_calls L _ x f w1.heap.size 0 #[.slice va2 L.length vc2] 75 _ hln (by exact unhide H1) rfl (by exact unhide H2) (unhide H3) hxn)).mono ?_; rintro e w3 ⟨rfl, v3, hp3⟩)
      go_roundw
      case rel => exact ⟨n + 1, by omega, by simp, by rw [unhide HSN, withAll_snoc, unhide HLE]; exact (unhide HAA).put (unhide H4) hp3⟩
      case measure => simp [intOf]; omega
    · obtain rfl : n = ch.length := by omega
      rw [List.take_length] at hA
      obtain ⟨L, hLe⟩ : ∃ L, withAll l ch = L := ⟨_, rfl⟩
      have hln := unhide HL
      rw [hLe] at hA hln
      have HLE := hide hLe
      obtain ⟨va2, vc2, h1, h2, h3, h4⟩ := hA.row
      have HA := hide hA
      have H1 := hide h1
      have H2 := hide h2
      have H3 := hide h3
      have H4 := hide h4
      clear hA h1 h2 h3 h4 hLe
      gi_wp2_with (gi_at_call 94; refine (oSall_in Fence.wide _ hfA hro _ _).mono ?_; rintro e w' ⟨rfl, rfl⟩)
      have bT := Boxed.new wr 3 (.int .i64 0)
      have bP := Boxed.new (wr.alloc (.cells #[.int .i64 0] 3)) 168 (.pointer (some ⟨w1.heap.size, 0, none⟩))
      simp only [World.size_alloc] at bP
      have hB0 := below_alloc2 wr (.cells #[.int .i64 0] 3) (.cells #[.pointer (some ⟨w1.heap.size, 0, none⟩)] 168)
      have hbl1 : w1.heap.size < wr.heap.size := blk_lt (unhide H1)
      have hcv := (hB0.cell (p := ⟨w1.heap.size, 0, none⟩) hbl1).trans (blk_cell (i := 0) (unhide H1) rfl)
      have HOw := owns_all (unhide H2) hB0
      have hwz := (unhide HA).below.size
      refine wpIn_rangeFunc_ownG hro (by decide) (gf := 146) (lb := #[.pointer (some ⟨wr.heap.size + 1, 0, none⟩)]) rfl hfB (enters_of Tryz.func146 (by kernel_rfl) rfl)
        (oSall_stops Fence.wide _ hfB hro (by decide) (wr.heap.size + 1) wr.heap.size w1.heap.size 0 (.slice va2 L.length vc2) L hln _ (by simp) (by simp; omega) hbl1 bP.cell hcv HOw (fun k hk => ((unhide H2).lt k hk).2)) belowK_t (belowK_b (by simp; omega)) (Below.refl _ _) (fun _ => rfl)
        (fun pre W => (W.cell? ⟨wr.heap.size, 0, none⟩ = some (.int .i64 (addLens pre)) ∧ W.frozen? ⟨wr.heap.size, 0, none⟩ = false) ∧ Below wr.heap.size wr W)
        (fun _ _ _ => False)
        (OwnFrom.and (Own.from (fun s A B row hs hg hr => ⟨cell_kept hs.1 hg hr, (frozen_kept hs.1 hg hr).trans hs.2⟩) _) (ownFrom_below (Nat.le_refl _) (by simp; omega)))
        (fun _ _ _ _ _ hs _ _ => hs)
        ⟨⟨(bT.alloc _).cell, (bT.alloc _).frozen⟩, hB0⟩
        (fun o => { tmps := #[.pointer (some ⟨b, 0, none⟩), .slice (some ⟨g, 0, none⟩) ch.length ch.length, undef, undef, .int .i64 0, .pointer (some ⟨w1.heap.size, 0, none⟩), undef, u7, .pointer (some ⟨wr.heap.size, 0, none⟩), undef, .string o.2, .pointer (some ⟨b, 0, none⟩), .pointer (some ⟨b, 0, none⟩), .pointer (some ⟨b, 3, none⟩), .agg #[.slice a1 l.length c1], .slice (some ⟨g, 0, none⟩) ch.length ch.length, .int .i64 (ch.length : Nat), .int .i64 (ch.length : Nat), .bool false, u19, u20, u21, u22, u23, u24, u25, u26, .func (.func 146) #[] #[.pointer (some ⟨wr.heap.size + 1, 0, none⟩)], .string o.1, .string o.2, undef, undef, undef, undef, undef, undef, undef, undef, undef, undef, undef, undef, undef, undef], defers := [] }) ?assign ?body ?done ?stop
      case assign =>
        intro y o W K hK
        gi_wp2
        exact hK
      case body =>
        rintro y pre o W ⟨⟨hc, hf⟩, hB⟩ _
        have Hsn : Hid (addLens (pre ++ [o]) = wrap64 (addLens pre + (o.2.size : Int))) := addLens_snoc pre o
        gi_wp2
        exact ⟨(KeepsOthers.setCell _ _ _).from _, (Below.refl wr.heap.size W).setCell (p := ⟨wr.heap.size, 0, none⟩) (by simp) _, ⟨by rw [unhide Hsn]; exact World.cell?_setCell_same' _ _ _ (by rw [hc]; rfl), by rw [World.frozen?_setCell]; exact hf⟩, hB.setCell (p := ⟨wr.heap.size, 0, none⟩) (by simp) _⟩
      case done =>
        rintro D ys W hD rfl ⟨⟨hc, _⟩, hB⟩ hK
        have hBW : Below w.heap.size w W := (unhide HA).below.trans (hB.mono hwz)
        have hroom : W.cell? ⟨b, 2, none⟩ = some (.int .i64 room) := (hBW.cell (p := ⟨b, 2, none⟩) hbl).trans (blk_cell (unhide HB) rfl)
        have hfz : W.frozen? ⟨b, 3, none⟩ = false := (hBW.frozen (p := ⟨b, 3, none⟩) hbl).trans (blk_frozen (unhide HB) 3)
        have hce : W.cell? ⟨b, 3, none⟩ = some (.slice va l.length vc) := (hBW.cell (p := ⟨b, 3, none⟩) hbl).trans (blk_cell (unhide HB) rfl)
        have hca : W.cell? ⟨w1.heap.size, 0, none⟩ = some (.slice va2 ys.length vc2) := (hB.cell (p := ⟨w1.heap.size, 0, none⟩) hbl1).trans (blk_cell (unhide H1) rfl)
        obtain ⟨T, hT⟩ : ∃ T, addLens ys = T := ⟨_, rfl⟩
        rw [hT] at hc
        have HT := hide hT
        clear hT
        have hDs : w.heap.size ≤ D := by simp at hD; omega
        have HBW := hide hBW
        have HOW := hide (owns_all (unhide H2) hB)
        clear hBW
        by_cases hfull : (room : Int) < T
        · gi_wp2
          gi_region
          all_goals gi_wp2
          refine ⟨by simp, .inl ⟨_, _, rfl, run_takeDeferred (w := W.drew) hK, ?_⟩⟩
          exact ⟨_, results_tmp rfl _ _ _, Or.inl ⟨by rw [unhide HLE, unhide HT]; exact hfull, rfl, (unhide HBW).drew.trans (belowK_b (w := w) (Nat.le_refl _) W.drew D _ _ hDs hK rfl rfl)⟩⟩
        · gi_wp2
          gi_region
          all_goals gi_wp2
          have hpl := Aft.left (v := .slice va l.length vc) (unhide HB) (unhide HBW).drew (owns_all (unhide HOW) ((Below.refl _ W).drew)) (unhide H4)
          have hK3 : (W.drew.setCell ⟨b, 3, none⟩ (.slice va2 ys.length vc2)).heap[D]? = some _ := (Below.heap_setCell _ _ _ _ (show D ≠ b by omega)).trans hK
          refine ⟨by simp, .inl ⟨_, _, rfl, run_takeDeferred hK3, ?_⟩⟩
          exact ⟨_, results_tmp rfl _ _ _, Or.inr ⟨by rw [unhide HLE, unhide HT]; omega, rfl, _, by rw [unhide HLE]; exact put_after (Below.refl _ _) hpl hK3 rfl hDs⟩⟩
      case stop =>
        rintro D c pre W _ _ h _
        exact h.elim

end Go.Proofs.YtomiepknmmpflaaGreatDoor

