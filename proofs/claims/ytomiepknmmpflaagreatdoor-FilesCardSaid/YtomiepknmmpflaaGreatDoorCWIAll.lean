/- The program's iterator over a chain's images: its contract. -/
import Derived.Test.YtomiepknmmpflaaGreatDoorCWOCopy
import Derived.Test.YtomiepknmmpflaaGreatDoorCPDownO
namespace Go.Proofs.YtomiepknmmpflaaGreatDoor
open Go.RowKit Go.Joins Go.Shelf

attribute [local go_sem] Oper.semAt_some

/-- A row whose name is no long text. -/
abbrev Nm := { x : ByteArray × Im // x.1.size ≤ 1000 }
abbrev Nm.ims (L : List Nm) : Ims := L.map Subtype.val
theorem Nm.at_name {L : List Nm} {k : Nat} (h : k < L.length) : Ov.nameAt (fl (Nm.ims L)) k = L[k].val.1 := by simp [Ov.nameAt, fl, Nm.ims, h]
theorem Nm.at_im {L : List Nm} {k : Nat} (h : k < L.length) : imAt (Nm.ims L) k = L[k].val.2 := by simp [imAt, Nm.ims, h]
theorem Nm.exists {L : Ims} (h : ∀ x ∈ L, x.1.size ≤ 1000) : ∃ M : List Nm, Nm.ims M = L := by
  induction L with
  | nil => exact ⟨[], rfl⟩
  | cons x L ih =>
    obtain ⟨M, hM⟩ := ih fun y hy => h y (List.mem_cons_of_mem _ hy)
    exact ⟨⟨x, h x List.mem_cons_self⟩ :: M, by simp only [Nm.ims, List.map_cons] at hM ⊢; rw [hM]⟩
/-- What the iterator hands over. -/
def imArgs (x : Nm) : Array Value := #[.string x.val.1, .agg #[.string x.val.2.bk, .slice (some ⟨x.val.2.g, 0, none⟩) x.val.2.n x.val.2.n, .int .i64 x.val.2.t]]

set_option maxRecDepth 100000 in
set_option maxHeartbeats 2000000 in
theorem oIall1_in (F : Fence) (n : Nat) (h8 : F.fn 139) (hro : F.round = none) (hn : 1 ≤ n) (y Bs n₀ b off g c : Nat) (L : List Nm) (hl : L.length ≤ 8) (hg : g < n₀) (J Jx : List Nm → World → Prop)
    (hA : ∀ pre W1 o, J pre W1 → J pre (World.alloc W1 o))
    (hY : ∀ pre x W, J pre W → pre.length < L.length → YieldAt F (n - 1) Tryz.prog y (imArgs x) W fun e W' =>
      (e = .returned (.bool true) ∧ J (pre ++ [x]) W' ∧ Below n₀ W W') ∨ (e = .returned (.bool false) ∧ Jx (pre ++ [x]) W'))
    (W : World) (hn0 : n₀ ≤ W.heap.size) (hcB : W.cell? ⟨Bs, 0, none⟩ = some (.pointer (some ⟨b, off, none⟩))) (hcv : W.cell? ⟨b, off, none⟩ = some (.slice (some ⟨g, 0, none⟩) L.length c)) (ho : OwnsIms W 0 (.slice (some ⟨g, 0, none⟩) L.length c) (Nm.ims L)) (h0 : J [] W) :
    CallsIn F n Tryz.prog 139 #[.func (.yield y) #[] #[], .pointer (some ⟨Bs, 0, none⟩)] W fun e W' => (∃ v, e = .returned v) ∧
      ((∃ ys, ys = L ∧ J ys W') ∨ (∃ pre, (∃ k, k ≤ L.length ∧ pre = L.take k) ∧ Jx pre W')) := by
  have HO := hide ho
  clear ho
  refine callsIn_of_wp Tryz.func139 rfl h8 ?_ hro
  simp only [Tryz.ntmps139, List.size_toArray, List.length_cons, List.length_nil, Nat.reduceAdd, Nat.reduceSub, Array.replicate_succ, Array.replicate_zero, List.push_toArray, List.append_toArray, List.nil_append, List.cons_append]
  gi_wp2
  gi_loopw [10, 4] (fun i _ wr => ∃ k : Nat, k ≤ L.length ∧ i = .int .i64 k ∧ J (L.take k) wr ∧ Below n₀ W wr) (fun i _ _ => L.length - (intOf i).toNat)
  case atStart => exact ⟨0, Nat.zero_le _, rfl, h0, Below.refl _ _⟩
  case round =>
    obtain ⟨k, hk, rfl, hJs, hnx⟩ := hrel
    have HNX := hide hnx
    have hwr : n₀ ≤ wr.heap.size := Nat.le_trans hn0 hnx.size
    by_cases hlt : k < L.length
    · obtain ⟨r0, r1, r2, r3⟩ := ims_row (L := Nm.ims L) (c := c) (g := g) (by have := unhide HO; rw [show (Nm.ims L).length = L.length from by simp]; exact this) (k := k) (by simpa using hlt)
      rw [Nm.at_name hlt] at r0
      rw [Nm.at_im hlt] at r1 r2 r3
      have cn := (hnx.cell (p := ⟨g, k * 4, none⟩) hg).trans r0
      have cb := (hnx.cell (p := ⟨g, k * 4 + 1, none⟩) hg).trans r1
      have cs := (hnx.cell (p := ⟨g, k * 4 + 2, none⟩) hg).trans r2
      have ct := (hnx.cell (p := ⟨g, k * 4 + 3, none⟩) hg).trans r3
      have Hsn := hide (List.take_succ_eq_append_getElem hlt)
      obtain ⟨x, hx⟩ : ∃ x, L[k] = x := ⟨_, rfl⟩
      rw [hx] at cn cb cs ct Hsn
      obtain ⟨fn, tmps, assign, body, hy, hR⟩ := hY _ x (wr.alloc (.cells #[.string x.val.1, .string x.val.2.bk, .slice (some ⟨x.val.2.g, 0, none⟩) x.val.2.n x.val.2.n, .int .i64 x.val.2.t] 151)) (hA _ wr _ hJs) (by rw [List.length_take]; omega)
      unfold imArgs at hy
      clear hx
      clear hJs hnx r0 r1 r2 r3
      gi_wp2
      refine hR.mono ?_
      rintro e W3 (⟨rfl, hJ3, hk3⟩ | ⟨rfl, hJx3⟩)
      · gi_wp2
        go_roundw
        case rel => exact ⟨k + 1, by omega, by simp, by rw [unhide Hsn]; exact hJ3, ((unhide HNX).alloc hwr _).trans hk3⟩
        case measure => simp [intOf]; omega
      · gi_wp2
        refine bodyPost_ret (results_none rfl _ _ _) rfl ?_
        exact ⟨⟨_, rfl⟩, .inr ⟨_, ⟨k + 1, by omega, (unhide Hsn).symm⟩, hJx3⟩⟩
    · obtain rfl : k = L.length := by omega
      rw [List.take_length] at hJs
      gi_wp2
      go_end0
      exact ⟨⟨_, rfl⟩, .inl ⟨_, rfl, hJs⟩⟩

set_option maxRecDepth 100000 in
set_option maxHeartbeats 1000000 in
theorem oIall1_nil_in (F : Fence) (n : Nat) (h8 : F.fn 139) (hro : F.round = none) (y Bs b off : Nat) (J : List Nm → World → Prop)
    (W : World) (hcB : W.cell? ⟨Bs, 0, none⟩ = some (.pointer (some ⟨b, off, none⟩))) (hcv : W.cell? ⟨b, off, none⟩ = some (.slice none 0 0)) (h0 : J [] W) :
    CallsIn F n Tryz.prog 139 #[.func (.yield y) #[] #[], .pointer (some ⟨Bs, 0, none⟩)] W fun e W' => (∃ v, e = .returned v) ∧ J [] W' := by
  refine callsIn_of_wp Tryz.func139 rfl h8 ?_ hro
  simp only [Tryz.ntmps139, List.size_toArray, List.length_cons, List.length_nil, Nat.reduceAdd, Nat.reduceSub, Array.replicate_succ, Array.replicate_zero, List.push_toArray, List.append_toArray, List.nil_append, List.cons_append]
  gi_wp2
  gi_loopw [10, 4] (fun i _ wr => i = .int .i64 0 ∧ J [] wr) (fun _ _ _ => 0)
  case atStart => exact ⟨rfl, h0⟩
  case round =>
    obtain ⟨rfl, hJs⟩ := hrel
    gi_wp2
    go_end0
    exact ⟨⟨_, rfl⟩, hJs⟩

/-- all: the chain's address is boxed; the function value captures the box. -/
theorem oIall_in (F : Fence) (n : Nat) (h6 : F.fn 84) (hro : F.round = none) (p : Option Addr) (w : World) :
    CallsIn F n Tryz.prog 84 #[.pointer p] w fun e w' => e = .returned (.func (.func 139) #[] #[.pointer (some ⟨w.heap.size, 0, none⟩)]) ∧ w' = w.alloc (.cells #[.pointer p] 78) := by
  refine callsIn_of_wp Tryz.func84 rfl h6 ?_ hro
  simp only [Tryz.ntmps84, List.size_toArray, List.length_cons, List.length_nil, Nat.reduceAdd, Nat.reduceSub, Array.replicate_succ, Array.replicate_zero, List.push_toArray, List.append_toArray, List.nil_append, List.cons_append]
  gi_wp2
  go_ret
  exact ⟨rfl, rfl⟩

/-- THE ITERATOR's CONTRACT: all images, in their order; or the first of them. -/
theorem oIall_stops (F : Fence) (n : Nat) (h8 : F.fn 139) (hro : F.round = none) (hn : 1 ≤ n) (Bs n₀ b off : Nat) (v : Value) (L : List Nm) (hl : L.length ≤ 8) (w : World) (hBs : Bs < w.heap.size) (hn₀ : n₀ ≤ w.heap.size) (hb : b < n₀)
    (hcB : w.cell? ⟨Bs, 0, none⟩ = some (.pointer (some ⟨b, off, none⟩))) (hcv : w.cell? ⟨b, off, none⟩ = some v) (ho : OwnsIms w 0 v (Nm.ims L)) (hg : ∀ k, v.ownBlock = some k → k < n₀) :
    SeqStopsK F n Tryz.prog 139 #[.pointer (some ⟨Bs, 0, none⟩)] imArgs (Below n₀) (fun ys => ys = L) (fun pre => ∃ k, k ≤ L.length ∧ pre = L.take k) L.length w := fun y J Jx W hW hJ _ hY h0 => by
  have hcB' := (hW.cell (p := ⟨Bs, 0, none⟩) hBs).trans hcB
  have hcv' := (hW.cell (p := ⟨b, off, none⟩) (by exact Nat.lt_of_lt_of_le hb hn₀)).trans hcv
  have ho' := owns_all ho hW
  rw [show (Nm.ims L).length = L.length from by simp] at ho'
  rcases ownsRow_forms ho' with ⟨rfl, e0⟩ | ⟨g, c, rfl⟩
  · obtain rfl : L = [] := List.length_eq_zero_iff.1 (by simpa using e0)
    exact (oIall1_nil_in F n h8 hro y Bs b off J W hcB' hcv' h0).mono fun e W' ⟨he, hj⟩ => ⟨he, .inl ⟨_, rfl, hj⟩⟩
  · exact oIall1_in F n h8 hro hn y Bs n₀ b off g c L hl (hg g rfl) J Jx (fun pre W1 o hj => hJ pre W1 _ none hj (World.grownBy_alloc W1 o none) (fun r e => by cases e)) hY W (Nat.le_trans hn₀ hW.size) hcB' hcv' (by unfold OwnsIms; rw [show (Nm.ims L).length = L.length from by simp]; exact ho') h0

end Go.Proofs.YtomiepknmmpflaaGreatDoor
