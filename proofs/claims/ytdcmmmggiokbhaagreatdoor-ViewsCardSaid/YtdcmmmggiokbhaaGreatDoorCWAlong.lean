/- The program's iterator over a chain's images: its contract. -/
import Derived.Test.YtdcmmmggiokbhaaGreatDoorCWOAll
import Derived.Test.YtdcmmmggiokbhaaGreatDoorCWBuild
import Derived.Test.YtdcmmmggiokbhaaGreatDoorCPFile
import Derived.Test.YtdcmmmggiokbhaaGreatDoorCPBytes
import Derived.Test.YtdcmmmggiokbhaaGreatDoorCWFile
import Derived.Test.YtdcmmmggiokbhaaGreatDoorCIter2
import Derived.Stop.RegionWithIn
import Derived.Sort.QuietIn
namespace Go.Proofs.YtdcmmmggiokbhaaGreatDoor
open Go.RowKit Go.Joins Go.Shelf

attribute [local go_sem] Oper.semAt_some

/-- A row whose name is no long text. -/
abbrev Nm := { x : ByteArray × Im // x.1.size ≤ 1000 }
abbrev Nm.ims (L : List Nm) : Ims := L.map Subtype.val
theorem Nm.at_name {L : List Nm} {k : Nat} (h : k < L.length) : Ov.nameAt (fl (Nm.ims L)) k = L[k].val.1 := by simp [Ov.nameAt, fl, Nm.ims, h]
theorem Nm.at_im {L : List Nm} {k : Nat} (h : k < L.length) : imAt (Nm.ims L) k = L[k].val.2 := by simp [imAt, Nm.ims, h]
theorem Nm.exists {L : Ims} (h : ∀ x ∈ L, x.1.size ≤ 1000) : ∃ M : List Nm, Nm.ims M = L := by
  induction L with
  | nil => exact ⟨[], rfl⟩
  | cons x L ih =>
    obtain ⟨M, hM⟩ := ih fun y hy => h y (List.mem_cons_of_mem _ hy)
    exact ⟨⟨x, h x List.mem_cons_self⟩ :: M, by simp only [Nm.ims, List.map_cons] at hM ⊢; rw [hM]⟩
/-- What the iterator hands over. -/
def imArgs (x : Nm) : Array Value := #[.string x.val.1, .agg #[.string x.val.2.bk, .slice (some ⟨x.val.2.g, 0, none⟩) x.val.2.n x.val.2.n, .int .i64 x.val.2.t]]

set_option maxRecDepth 100000 in
set_option maxHeartbeats 2000000 in
theorem oIall1_in (F : Fence) (n : Nat) (h8 : F.fn 126) (hro : F.round = none) (hn : 1 ≤ n) (y Bs n₀ b off g c : Nat) (L : List Nm) (hl : L.length ≤ 8) (hg : g < n₀) (J Jx : List Nm → World → Prop)
    (hA : ∀ pre W1 o, J pre W1 → J pre (World.alloc W1 o))
    (hY : ∀ pre x W, J pre W → pre.length < L.length → YieldAt F (n - 1) Tryz.prog y (imArgs x) W fun e W' =>
      (e = .returned (.bool true) ∧ J (pre ++ [x]) W' ∧ Below n₀ W W') ∨ (e = .returned (.bool false) ∧ Jx (pre ++ [x]) W'))
    (W : World) (hn0 : n₀ ≤ W.heap.size) (hcB : W.cell? ⟨Bs, 0, none⟩ = some (.pointer (some ⟨b, off, none⟩))) (hcv : W.cell? ⟨b, off, none⟩ = some (.slice (some ⟨g, 0, none⟩) L.length c)) (ho : OwnsIms W 0 (.slice (some ⟨g, 0, none⟩) L.length c) (Nm.ims L)) (h0 : J [] W) :
    CallsIn F n Tryz.prog 126 #[.func (.yield y) #[] #[], .pointer (some ⟨Bs, 0, none⟩)] W fun e W' => (∃ v, e = .returned v) ∧
      ((∃ ys, ys = L ∧ J ys W') ∨ (∃ pre, (∃ k, k ≤ L.length ∧ pre = L.take k) ∧ Jx pre W')) := by
  have HO := hide ho
  clear ho
  refine callsIn_of_wp Tryz.func126 rfl h8 ?_ hro
  simp only [Tryz.ntmps126, List.size_toArray, List.length_cons, List.length_nil, Nat.reduceAdd, Nat.reduceSub, Array.replicate_succ, Array.replicate_zero, List.push_toArray, List.append_toArray, List.nil_append, List.cons_append]
  gi_wp2
  gi_loopw [10, 4] (fun i _ wr => ∃ k : Nat, k ≤ L.length ∧ i = .int .i64 k ∧ J (L.take k) wr ∧ Below n₀ W wr) (fun i _ _ => L.length - (intOf i).toNat)
  case atStart => exact ⟨0, Nat.zero_le _, rfl, h0, Below.refl _ _⟩
  case round =>
    obtain ⟨k, hk, rfl, hJs, hnx⟩ := hrel
    have HNX := hide hnx
    have hwr : n₀ ≤ wr.heap.size := Nat.le_trans hn0 hnx.size
    by_cases hlt : k < L.length
    · obtain ⟨r0, r1, r2, r3⟩ := ims_row (L := Nm.ims L) (c := c) (g := g) (by have := unhide HO; rw [show (Nm.ims L).length = L.length from by simp]; exact this) (k := k) (by simpa using hlt)
      rw [Nm.at_name hlt] at r0
      rw [Nm.at_im hlt] at r1 r2 r3
      have cn := (hnx.cell (p := ⟨g, k * 4, none⟩) hg).trans r0
      have cb := (hnx.cell (p := ⟨g, k * 4 + 1, none⟩) hg).trans r1
      have cs := (hnx.cell (p := ⟨g, k * 4 + 2, none⟩) hg).trans r2
      have ct := (hnx.cell (p := ⟨g, k * 4 + 3, none⟩) hg).trans r3
      have Hsn := hide (List.take_succ_eq_append_getElem hlt)
      obtain ⟨x, hx⟩ : ∃ x, L[k] = x := ⟨_, rfl⟩
      rw [hx] at cn cb cs ct Hsn
      obtain ⟨fn, tmps, assign, body, hy, hR⟩ := hY _ x (wr.alloc (.cells #[.string x.val.1, .string x.val.2.bk, .slice (some ⟨x.val.2.g, 0, none⟩) x.val.2.n x.val.2.n, .int .i64 x.val.2.t] 183)) (hA _ wr _ hJs) (by rw [List.length_take]; omega)
      unfold imArgs at hy
      clear hx
      clear hJs hnx r0 r1 r2 r3
      gi_wp2
      refine hR.mono ?_
      rintro e W3 (⟨rfl, hJ3, hk3⟩ | ⟨rfl, hJx3⟩)
      · gi_wp2
        go_roundw
        case rel => exact ⟨k + 1, by omega, by simp, by rw [unhide Hsn]; exact hJ3, ((unhide HNX).alloc hwr _).trans hk3⟩
        case measure => simp [intOf]; omega
      · gi_wp2
        refine bodyPost_ret (results_none rfl _ _ _) rfl ?_
        exact ⟨⟨_, rfl⟩, .inr ⟨_, ⟨k + 1, by omega, (unhide Hsn).symm⟩, hJx3⟩⟩
    · obtain rfl : k = L.length := by omega
      rw [List.take_length] at hJs
      gi_wp2
      go_end0
      exact ⟨⟨_, rfl⟩, .inl ⟨_, rfl, hJs⟩⟩

set_option maxRecDepth 100000 in
set_option maxHeartbeats 1000000 in
theorem oIall1_nil_in (F : Fence) (n : Nat) (h8 : F.fn 126) (hro : F.round = none) (y Bs b off : Nat) (J : List Nm → World → Prop)
    (W : World) (hcB : W.cell? ⟨Bs, 0, none⟩ = some (.pointer (some ⟨b, off, none⟩))) (hcv : W.cell? ⟨b, off, none⟩ = some (.slice none 0 0)) (h0 : J [] W) :
    CallsIn F n Tryz.prog 126 #[.func (.yield y) #[] #[], .pointer (some ⟨Bs, 0, none⟩)] W fun e W' => (∃ v, e = .returned v) ∧ J [] W' := by
  refine callsIn_of_wp Tryz.func126 rfl h8 ?_ hro
  simp only [Tryz.ntmps126, List.size_toArray, List.length_cons, List.length_nil, Nat.reduceAdd, Nat.reduceSub, Array.replicate_succ, Array.replicate_zero, List.push_toArray, List.append_toArray, List.nil_append, List.cons_append]
  gi_wp2
  gi_loopw [10, 4] (fun i _ wr => i = .int .i64 0 ∧ J [] wr) (fun _ _ _ => 0)
  case atStart => exact ⟨rfl, h0⟩
  case round =>
    obtain ⟨rfl, hJs⟩ := hrel
    gi_wp2
    go_end0
    exact ⟨⟨_, rfl⟩, hJs⟩

/-- all: the chain's address is boxed; the function value captures the box. -/
theorem oIall_in (F : Fence) (n : Nat) (h6 : F.fn 97) (hro : F.round = none) (p : Option Addr) (w : World) :
    CallsIn F n Tryz.prog 97 #[.pointer p] w fun e w' => e = .returned (.func (.func 126) #[] #[.pointer (some ⟨w.heap.size, 0, none⟩)]) ∧ w' = w.alloc (.cells #[.pointer p] 118) := by
  refine callsIn_of_wp Tryz.func97 rfl h6 ?_ hro
  simp only [Tryz.ntmps97, List.size_toArray, List.length_cons, List.length_nil, Nat.reduceAdd, Nat.reduceSub, Array.replicate_succ, Array.replicate_zero, List.push_toArray, List.append_toArray, List.nil_append, List.cons_append]
  gi_wp2
  go_ret
  exact ⟨rfl, rfl⟩

/-- THE ITERATOR's CONTRACT: all images, in their order; or the first of them. -/
theorem oIall_stops (F : Fence) (n : Nat) (h8 : F.fn 126) (hro : F.round = none) (hn : 1 ≤ n) (Bs n₀ b off : Nat) (v : Value) (L : List Nm) (hl : L.length ≤ 8) (w : World) (hBs : Bs < w.heap.size) (hn₀ : n₀ ≤ w.heap.size) (hb : b < n₀)
    (hcB : w.cell? ⟨Bs, 0, none⟩ = some (.pointer (some ⟨b, off, none⟩))) (hcv : w.cell? ⟨b, off, none⟩ = some v) (ho : OwnsIms w 0 v (Nm.ims L)) (hg : ∀ k, v.ownBlock = some k → k < n₀) :
    SeqStopsK F n Tryz.prog 126 #[.pointer (some ⟨Bs, 0, none⟩)] imArgs (Below n₀) (fun ys => ys = L) (fun pre => ∃ k, k ≤ L.length ∧ pre = L.take k) L.length w := fun y J Jx W hW hJ _ hY h0 => by
  have hcB' := (hW.cell (p := ⟨Bs, 0, none⟩) hBs).trans hcB
  have hcv' := (hW.cell (p := ⟨b, off, none⟩) (by exact Nat.lt_of_lt_of_le hb hn₀)).trans hcv
  have ho' := owns_all ho hW
  rw [show (Nm.ims L).length = L.length from by simp] at ho'
  rcases ownsRow_forms ho' with ⟨rfl, e0⟩ | ⟨g, c, rfl⟩
  · obtain rfl : L = [] := List.length_eq_zero_iff.1 (by simpa using e0)
    exact (oIall1_nil_in F n h8 hro y Bs b off J W hcB' hcv' h0).mono fun e W' ⟨he, hj⟩ => ⟨he, .inl ⟨_, rfl, hj⟩⟩
  · exact oIall1_in F n h8 hro hn y Bs n₀ b off g c L hl (hg g rfl) J Jx (fun pre W1 o hj => hJ pre W1 _ none hj (World.grownBy_alloc W1 o none) (fun r e => by cases e)) hY W (Nat.le_trans hn₀ hW.size) hcB' hcv' (by unfold OwnsIms; rw [show (Nm.ims L).length = L.length from by simp]; exact ho') h0

end Go.Proofs.YtdcmmmggiokbhaaGreatDoor

/- Runs of clusters' bytes, as the program holds a view: blocks of eight bytes, in memory. -/
namespace Go.Proofs.YtdcmmmggiokbhaaGreatDoor
open Go.RowKit Go.Joins

theorem Tryz.infoBlock : (Tryz.prog.info? 140).map (fun i => (i.zero, i.size, i.bytes)) = some (some (.agg #[.int .u8 0, .int .u8 0, .int .u8 0, .int .u8 0, .int .u8 0, .int .u8 0, .int .u8 0, .int .u8 0]), 8, 8) := by kernel_rfl
/-- Eight bytes: a function of the place. -/
abbrev Eight := Nat → Nat
/-- A block as a value. -/
def blkVal (e : Eight) : Value := .agg #[.int .u8 (e 0 : Nat), .int .u8 (e 1 : Nat), .int .u8 (e 2 : Nat), .int .u8 (e 3 : Nat), .int .u8 (e 4 : Nat), .int .u8 (e 5 : Nat), .int .u8 (e 6 : Nat), .int .u8 (e 7 : Nat)]
def blkCells (e : Eight) : List Value := [.int .u8 (e 0 : Nat), .int .u8 (e 1 : Nat), .int .u8 (e 2 : Nat), .int .u8 (e 3 : Nat), .int .u8 (e 4 : Nat), .int .u8 (e 5 : Nat), .int .u8 (e 6 : Nat), .int .u8 (e 7 : Nat)]
theorem blkCells_length (e : Eight) : (blkCells e).length = 8 := rfl
/-- A run's cells: v n: byte n of the whole run. -/
def runTo (v : Nat → Nat) : Nat → List Value
  | 0 => []
  | k + 1 => runTo v k ++ blkCells (fun j => v (8 * k + j))
theorem runTo_length (v : Nat → Nat) (k : Nat) : (runTo v k).length = k * 8 := by
  induction k with
  | zero => rfl
  | succ k ih => rw [runTo, List.length_append, ih, blkCells_length]; omega
theorem runTo_prefix (v : Nat → Nat) {k n : Nat} (h : k ≤ n) : ∃ q, runTo v n = runTo v k ++ q := by
  induction n with
  | zero => obtain rfl : k = 0 := by omega
            exact ⟨[], by simp⟩
  | succ n ih =>
    by_cases e : k = n + 1
    · subst e; exact ⟨[], by simp⟩
    · obtain ⟨q, hq⟩ := ih (by omega)
      exact ⟨q ++ blkCells (fun j => v (8 * n + j)), by rw [runTo, hq, List.append_assoc]⟩
theorem runTo_at (v : Nat → Nat) {n k j : Nat} (hk : k < n) (hj : j < 8) : (runTo v n)[k * 8 + j]? = some (.int .u8 (v (8 * k + j) : Nat)) := by
  obtain ⟨q, hq⟩ := runTo_prefix v (k := k + 1) (n := n) (by omega)
  have h1 := runTo_length v k
  rw [hq, List.getElem?_append_left (by rw [runTo_length]; omega), runTo, List.getElem?_append_right (by omega), h1, show k * 8 + j - k * 8 = j from by omega]
  match j, hj with
  | 0, _ => rfl
  | 1, _ => rfl
  | 2, _ => rfl
  | 3, _ => rfl
  | 4, _ => rfl
  | 5, _ => rfl
  | 6, _ => rfl
  | 7, _ => rfl
theorem runTo_congr {v u : Nat → Nat} {n : Nat} (h : ∀ i, i < 8 * n → v i = u i) : runTo v n = runTo u n := by
  induction n with
  | zero => rfl
  | succ n ih =>
    rw [runTo, runTo, ih (fun i hi => h i (by omega))]
    have e : ∀ j, j < 8 → v (8 * n + j) = u (8 * n + j) := fun j hj => h _ (by omega)
    unfold blkCells
    dsimp only
    rw [e 0 (by omega), e 1 (by omega), e 2 (by omega), e 3 (by omega), e 4 (by omega), e 5 (by omega), e 6 (by omega), e 7 (by omega)]
/-- A run that owns its memory: n blocks. -/
abbrev OwnsRun (w : World) (base : Nat) (s : Value) (n : Nat) (v : Nat → Nat) : Prop := w.ownsRow base 140 8 s n (runTo v n)
theorem run_cells {w : World} {base g c n : Nat} {v : Nat → Nat} (h : OwnsRun w base (.slice (some ⟨g, 0, none⟩) n c) n v) {k : Nat} (hk : k < n) {j : Nat} (hj : j < 8) : w.cell? ⟨g, k * 8 + j, none⟩ = some (.int .u8 (v (8 * k + j) : Nat)) := by
  rw [h.cellAt _ (by omega)]; exact runTo_at v hk hj
theorem run_eight {w : World} {base g c n : Nat} {v : Nat → Nat} (h : OwnsRun w base (.slice (some ⟨g, 0, none⟩) n c) n v) {k : Nat} (hk : k < n) :
    w.cell? ⟨g, k * 8, none⟩ = some (.int .u8 (v (8 * k) : Nat)) ∧ w.cell? ⟨g, k * 8 + 1, none⟩ = some (.int .u8 (v (8 * k + 1) : Nat)) ∧ w.cell? ⟨g, k * 8 + 2, none⟩ = some (.int .u8 (v (8 * k + 2) : Nat)) ∧ w.cell? ⟨g, k * 8 + 3, none⟩ = some (.int .u8 (v (8 * k + 3) : Nat)) ∧ w.cell? ⟨g, k * 8 + 4, none⟩ = some (.int .u8 (v (8 * k + 4) : Nat)) ∧ w.cell? ⟨g, k * 8 + 5, none⟩ = some (.int .u8 (v (8 * k + 5) : Nat)) ∧ w.cell? ⟨g, k * 8 + 6, none⟩ = some (.int .u8 (v (8 * k + 6) : Nat)) ∧ w.cell? ⟨g, k * 8 + 7, none⟩ = some (.int .u8 (v (8 * k + 7) : Nat)) :=
  ⟨run_cells h hk (j := 0) (by omega), run_cells h hk (by omega), run_cells h hk (by omega), run_cells h hk (by omega), run_cells h hk (by omega), run_cells h hk (by omega), run_cells h hk (by omega), run_cells h hk (by omega)⟩
/-- What lies at a place, or noughts behind the end. -/
def runAt (n : Nat) (v : Nat → Nat) (k : Nat) : Eight := fun j => if k < n then v (8 * k + j) else 0

set_option maxRecDepth 100000 in
set_option maxHeartbeats 1000000 in
theorem oat_calls (n k base : Nat) (v : Nat → Nat) (s : Value) (w : World) (h : OwnsRun w base s n v) (hn : n ≤ 30) (hk : k ≤ 30) :
    Calls Tryz.prog 146 #[s, .int .i64 (k : Nat)] w fun e w' => e = .returned (blkVal (runAt n v k)) ∧ Below w.heap.size w w' := by
  obtain ⟨a, c, rfl⟩ := owns_slice h
  by_cases hlt : k < n
  · obtain ⟨g, cc, hv⟩ := ownsRow_form h (by omega)
    obtain ⟨rfl, rfl⟩ : a = some ⟨g, 0, none⟩ ∧ c = cc := by simpa using hv
    have hg : g < w.heap.size := (h.lt g rfl).2
    have HV : Hid (blkVal (runAt n v k) = .agg #[.int .u8 (v (8 * k) : Nat), .int .u8 (v (8 * k + 1) : Nat), .int .u8 (v (8 * k + 2) : Nat), .int .u8 (v (8 * k + 3) : Nat), .int .u8 (v (8 * k + 4) : Nat), .int .u8 (v (8 * k + 5) : Nat), .int .u8 (v (8 * k + 6) : Nat), .int .u8 (v (8 * k + 7) : Nat)]) := by
      unfold blkVal runAt; simp only [if_pos hlt, Nat.add_zero]; exact trivial
    obtain ⟨c0, c1, c2, c3, c4, c5, c6, c7⟩ := run_eight h hlt
    obtain ⟨e0, h0⟩ : ∃ e, v (8 * k) = e := ⟨_, rfl⟩
    obtain ⟨e1, h1⟩ : ∃ e, v (8 * k + 1) = e := ⟨_, rfl⟩
    obtain ⟨e2, h2⟩ : ∃ e, v (8 * k + 2) = e := ⟨_, rfl⟩
    obtain ⟨e3, h3⟩ : ∃ e, v (8 * k + 3) = e := ⟨_, rfl⟩
    obtain ⟨e4, h4⟩ : ∃ e, v (8 * k + 4) = e := ⟨_, rfl⟩
    obtain ⟨e5, h5⟩ : ∃ e, v (8 * k + 5) = e := ⟨_, rfl⟩
    obtain ⟨e6, h6⟩ : ∃ e, v (8 * k + 6) = e := ⟨_, rfl⟩
    obtain ⟨e7, h7⟩ : ∃ e, v (8 * k + 7) = e := ⟨_, rfl⟩
    rw [h0] at c0; rw [h1] at c1; rw [h2] at c2; rw [h3] at c3; rw [h4] at c4; rw [h5] at c5; rw [h6] at c6; rw [h7] at c7
    rw [h0, h1, h2, h3, h4, h5, h6, h7] at HV
    have p0 : ∀ o, (w.alloc o).cell? ⟨g, k * 8, none⟩ = some (.int .u8 (e0 : Nat)) := fun o => (World.cell?_alloc_past _ _ _ hg).trans c0
    have p1 : ∀ o, (w.alloc o).cell? ⟨g, k * 8 + 1, none⟩ = some (.int .u8 (e1 : Nat)) := fun o => (World.cell?_alloc_past _ _ _ hg).trans c1
    have p2 : ∀ o, (w.alloc o).cell? ⟨g, k * 8 + 2, none⟩ = some (.int .u8 (e2 : Nat)) := fun o => (World.cell?_alloc_past _ _ _ hg).trans c2
    have p3 : ∀ o, (w.alloc o).cell? ⟨g, k * 8 + 3, none⟩ = some (.int .u8 (e3 : Nat)) := fun o => (World.cell?_alloc_past _ _ _ hg).trans c3
    have p4 : ∀ o, (w.alloc o).cell? ⟨g, k * 8 + 4, none⟩ = some (.int .u8 (e4 : Nat)) := fun o => (World.cell?_alloc_past _ _ _ hg).trans c4
    have p5 : ∀ o, (w.alloc o).cell? ⟨g, k * 8 + 5, none⟩ = some (.int .u8 (e5 : Nat)) := fun o => (World.cell?_alloc_past _ _ _ hg).trans c5
    have p6 : ∀ o, (w.alloc o).cell? ⟨g, k * 8 + 6, none⟩ = some (.int .u8 (e6 : Nat)) := fun o => (World.cell?_alloc_past _ _ _ hg).trans c6
    have p7 : ∀ o, (w.alloc o).cell? ⟨g, k * 8 + 7, none⟩ = some (.int .u8 (e7 : Nat)) := fun o => (World.cell?_alloc_past _ _ _ hg).trans c7
    clear h hv c0 c1 c2 c3 c4 c5 c6 c7 h0 h1 h2 h3 h4 h5 h6 h7
    go_enter Tryz.func146, Tryz.ntmps146
    go_wp2
    exact bodyPost_ret (v := .agg #[.int .u8 (e0 : Nat), .int .u8 (e1 : Nat), .int .u8 (e2 : Nat), .int .u8 (e3 : Nat), .int .u8 (e4 : Nat), .int .u8 (e5 : Nat), .int .u8 (e6 : Nat), .int .u8 (e7 : Nat)]) (by simp [results, Tryz.results146, go_sem]) rfl ⟨by rw [unhide HV], below_alloc1 w _⟩
  · have HV : Hid (blkVal (runAt n v k) = .agg #[.int .u8 0, .int .u8 0, .int .u8 0, .int .u8 0, .int .u8 0, .int .u8 0, .int .u8 0, .int .u8 0]) := by
      unfold blkVal runAt; simp only [if_neg hlt]; exact rfl
    clear h
    go_enter Tryz.func146, Tryz.ntmps146
    go_wp2
    exact bodyPost_ret (v := .agg #[.int .u8 0, .int .u8 0, .int .u8 0, .int .u8 0, .int .u8 0, .int .u8 0, .int .u8 0, .int .u8 0]) (by simp [results, Tryz.results146, go_sem]) rfl ⟨by rw [unhide HV], below_alloc2 w _ _⟩

end Go.Proofs.YtdcmmmggiokbhaaGreatDoor

/- The program's bytesOf; an image of a chain by its name. -/
namespace Go.Proofs.YtdcmmmggiokbhaaGreatDoor
open Go.RowKit Go.Joins

theorem blk_src {w : World} {b : Nat} {e : Eight} {t : TypeId} (hb : w.heap[b]? = some (.cells (blkCells e).toArray t (0, 0))) : ∀ (j : Nat) (u : Value), (blkCells e)[j]? = some u → w.cell? ((⟨b, 0, none⟩ : Addr).add j) = some u := by
  intro j u hj
  have e : (⟨b, 0, none⟩ : Addr).add j = ⟨b, j, none⟩ := by
    cases j with
    | zero => rfl
    | succ j => simp [Addr.add]
  rw [e]
  exact blk_cell hb (by simpa using hj)
theorem blk_one (e : Eight) : ∀ u ∈ blkCells e, u.oneCell' = true := by
  intro u hu
  simp only [blkCells, List.mem_cons, List.not_mem_nil, or_false] at hu
  rcases hu with rfl | rfl | rfl | rfl | rfl | rfl | rfl | rfl <;> rfl

set_option maxRecDepth 100000 in
set_option maxHeartbeats 2000000 in
theorem obytesOf_calls (n base : Nat) (v : Nat → Nat) (s : Value) (w : World) (h : OwnsRun w base s n v) (hn : n ≤ 30) :
    Calls Tryz.prog 80 #[s] w fun e w' => ∃ a c, e = .returned (.slice a (n * 8) c) ∧ Below w.heap.size w w' ∧ w'.ownsRow w.heap.size 5 1 (.slice a (n * 8) c) (n * 8) (runTo v n) := by
  obtain ⟨a, c, rfl⟩ := owns_slice h
  obtain ⟨i0, hi, hz0, hz1, hz2⟩ := info_parts Tryz.bdByte
  have HO := hide h
  clear h
  go_enter Tryz.func80, Tryz.ntmps80
  go_wp2
  go_loopw [3, 8] (fun va i wr => ∃ (k : Nat) (aa : Option Addr) (ca : Nat), k ≤ n ∧ i = .int .i64 k ∧ va = .slice aa (k * 8) ca ∧ wr.ownsRow w.heap.size 5 1 (.slice aa (k * 8) ca) (k * 8) (runTo v k) ∧ Below w.heap.size w wr) (fun _ i _ => n - (intOf i).toNat)
  case atStart => exact ⟨0, none, 0, Nat.zero_le _, rfl, rfl, World.ownsRow_nil _ _ _ _, Below.refl _ _⟩
  case round =>
    obtain ⟨k, aa, ca, hk, rfl, rfl, hw, hb⟩ := hrel
    have HW := hide hw
    have HB := hide hb
    have hsz := hb.size
    by_cases hlt : k < n
    · obtain ⟨g, cc, hv⟩ := ownsRow_form (unhide HO) (by omega)
      obtain ⟨rfl, rfl⟩ : a = some ⟨g, 0, none⟩ ∧ c = cc := by simpa using hv
      obtain ⟨c0, c1, c2, c3, c4, c5, c6, c7⟩ := run_eight (owns_all (unhide HO) hb) hlt
      have HSC : Hid (runTo v (k + 1) = runTo v k ++ blkCells (fun j => v (8 * k + j))) := by rw [runTo]; exact rfl
      clear hv hw hb
      have HSR : Hid (∀ (j : Nat) (u : Value), (blkCells (fun j => v (8 * k + j)))[j]? = some u → (wr.alloc (.cells #[.int .u8 (v (8 * k) : Nat), .int .u8 (v (8 * k + 1) : Nat), .int .u8 (v (8 * k + 2) : Nat), .int .u8 (v (8 * k + 3) : Nat), .int .u8 (v (8 * k + 4) : Nat), .int .u8 (v (8 * k + 5) : Nat), .int .u8 (v (8 * k + 6) : Nat), .int .u8 (v (8 * k + 7) : Nat)] 140)).cell? ((⟨wr.heap.size, 0, none⟩ : Addr).add j) = some u) := blk_src (e := fun j => v (8 * k + j)) (t := 140) (blk_new wr _)
      go_wp2_with (at_builtin; refine wpList_append_own_at _ rfl (.tmp 12) (.tmp 13) 88 rfl w.heap.size 5 i0 (.int .u8 0) 1 1 Tryz.underlying88 hi hz0 hz1 hz2 rfl (by decide) (.slice aa (k * 8) ca) (k * 8) _ rfl ((unhide HW).alloc _) ⟨wr.heap.size, 0, none⟩ 8 8 (blkCells (fun j => v (8 * k + j))) rfl rfl (unhide HSR) (blk_one _) (by unfold maxLen; omega) (by omega) (by simp; omega) ?_; intro v2 w2 ho2 hg2 _ hw2; obtain ⟨a2, c2', rfl⟩ := owns_slice ho2)
      go_roundw
      case rel => exact ⟨k + 1, a2, c2', by omega, by go_num, by rw [Nat.add_mul], by rw [unhide HSC, Nat.add_mul]; exact ho2, ((unhide HB).alloc hsz _).grown hg2 (by simp; omega) (fun q hq => ((unhide HW).lt q hq).1)⟩
      case measure => simp [intOf]; omega
    · obtain rfl : k = n := by omega
      clear hw hb
      go_wp2
      go_ret
      exact ⟨aa, ca, rfl, unhide HB, unhide HW⟩

end Go.Proofs.YtdcmmmggiokbhaaGreatDoor

/- The program's iterator over two runs: its contract. -/
namespace Go.Proofs.YtdcmmmggiokbhaaGreatDoor
open Go.RowKit Go.Joins Go.Shelf

attribute [local go_sem] Oper.semAt_some

/-- A cluster as a value: its kind, its bytes. -/
def clVal (q : Int) (d : Eight) : Value := .agg #[.int .i64 q, .int .u8 (d 0 : Nat), .int .u8 (d 1 : Nat), .int .u8 (d 2 : Nat), .int .u8 (d 3 : Nat), .int .u8 (d 4 : Nat), .int .u8 (d 5 : Nat), .int .u8 (d 6 : Nat), .int .u8 (d 7 : Nat)]
/-- Clusters in memory: kinds by the program's numbers, and bytes. -/
structure Cl (w : World) (g m : Nat) (q : Nat → Int) (d : Nat → Eight) : Prop where
  kind : ∀ k, k < m → w.cell? ⟨g, k * 9, none⟩ = some (.int .i64 (q k))
  byte : ∀ k, k < m → ∀ j, j < 8 → w.cell? ⟨g, k * 9 + (j + 1), none⟩ = some (.int .u8 (d k j : Nat))
  lt : g < w.heap.size
theorem Cl.same {w w' : World} {g m : Nat} {q : Nat → Int} {d : Nat → Eight} (h : Cl w g m q d) (hg : w'.heap[g]? = w.heap[g]?) (hs : w.heap.size ≤ w'.heap.size) : Cl w' g m q d :=
  ⟨fun k hk => (World.cell?_of_block (a := ⟨g, k * 9, none⟩) hg).trans (h.kind k hk), fun k hk j hj => (World.cell?_of_block (a := ⟨g, k * 9 + (j + 1), none⟩) hg).trans (h.byte k hk j hj), Nat.lt_of_lt_of_le h.lt hs⟩
theorem Cl.nine {w : World} {g m : Nat} {q : Nat → Int} {d : Nat → Eight} (h : Cl w g m q d) {k : Nat} (hk : k < m) :
    w.cell? ⟨g, k * 9, none⟩ = some (.int .i64 (q k)) ∧ w.cell? ⟨g, k * 9 + 1, none⟩ = some (.int .u8 (d k 0 : Nat)) ∧ w.cell? ⟨g, k * 9 + 2, none⟩ = some (.int .u8 (d k 1 : Nat)) ∧ w.cell? ⟨g, k * 9 + 3, none⟩ = some (.int .u8 (d k 2 : Nat)) ∧ w.cell? ⟨g, k * 9 + 4, none⟩ = some (.int .u8 (d k 3 : Nat)) ∧
    w.cell? ⟨g, k * 9 + 5, none⟩ = some (.int .u8 (d k 4 : Nat)) ∧ w.cell? ⟨g, k * 9 + 6, none⟩ = some (.int .u8 (d k 5 : Nat)) ∧ w.cell? ⟨g, k * 9 + 7, none⟩ = some (.int .u8 (d k 6 : Nat)) ∧ w.cell? ⟨g, k * 9 + 8, none⟩ = some (.int .u8 (d k 7 : Nat)) :=
  ⟨h.kind k hk, h.byte k hk 0 (by omega), h.byte k hk 1 (by omega), h.byte k hk 2 (by omega), h.byte k hk 3 (by omega), h.byte k hk 4 (by omega), h.byte k hk 5 (by omega), h.byte k hk 6 (by omega), h.byte k hk 7 (by omega)⟩
/-- What the iterator hands over at a place. -/
def pairArgs (q : Nat → Int) (d : Nat → Eight) (nl : Nat) (v : Nat → Nat) (k : Nat) : Array Value := #[clVal (q k) (d k), blkVal (runAt nl v k)]
theorem LetsW.owns {R : Nat → Prop} {B : Nat} {w w' : World} (h : LetsW R B w w') {base e size n : Nat} {v : Value} {xs : List Value} (ho : w.ownsRow base e size v n xs) (hr : ∀ k, v.ownBlock = some k → R k) : w'.ownsRow base e size v n xs := by
  refine ⟨ho.1, ?_⟩
  rcases ho.2 with k | ⟨g, cap, cur, hv, hg, hh, r⟩
  · exact Or.inl k
  · refine Or.inr ⟨g, cap, cur, hv, hg, ?_, r⟩
    rw [h.same g (blk_lt hh) (hr g (by rw [hv]; rfl))]; exact hh
theorem below_grown {w w' : World} (h : Below w.heap.size w w') : w.grownBy w' none := grown_of_below h none
theorem cl_under {W w2 : World} {cs : Array Value} {t : TypeId} (h : Below (W.alloc (.cells cs t)).drew.heap.size (W.alloc (.cells cs t)).drew w2) : w2.heap[W.heap.size]? = some (.cells cs t (0, 0)) :=
  (h.block W.heap.size (by simp [World.drew])).trans (blk_new W _)

set_option maxRecDepth 100000 in
set_option maxHeartbeats 4000000 in
theorem oalong1_gives (n : Nat) (hn : 1 ≤ n) (B1 B2 g m nl base : Nat) (q : Nat → Int) (d : Nat → Eight) (v : Nat → Nat) (s : Value) (w : World) (hm1 : 1 ≤ m) (hm : m ≤ 30) (hnl : nl ≤ 30) (R : Nat → Prop) (r1 : R B1) (r2 : R B2) (rg : R g) (rs : ∀ k, s.ownBlock = some k → R k)
    (h1 : w.cell? ⟨B1, 0, none⟩ = some (.slice (some ⟨g, 0, none⟩) m m)) (h2 : w.cell? ⟨B2, 0, none⟩ = some s) (hc : Cl w g m q d) (ho : OwnsRun w base s nl v) :
    GivesW Fence.wide n Tryz.prog 145 #[.pointer (some ⟨B1, 0, none⟩), .pointer (some ⟨B2, 0, none⟩)] (pairArgs q d nl v) (List.range m) R w := by
  intro l J W hW hJ hY h0
  obtain ⟨sa, sc, rfl⟩ := owns_slice ho
  have c1 := (hW.cell (p := ⟨B1, 0, none⟩) (cell_lt h1)).trans h1
  have c2 := (hW.cell (p := ⟨B2, 0, none⟩) (cell_lt h2)).trans h2
  have HC := hide (hc.same (hW.block g hc.lt) hW.size)
  have HO := hide (owns_all ho hW)
  have HY := hide hY
  have HJ := hide hJ
  have HR := hide (And.intro r1 (And.intro r2 (And.intro rg rs)))
  have HC2 := hide c2
  clear hc ho hW h1 h2 hY hJ r1 r2 rg rs c2
  have hro : Fence.wide.round = none := rfl
  have hfA : Fence.wide.fn 146 := trivial
  have hF8 : Fence.wide.fn 145 := trivial
  refine callsIn_of_wp Tryz.func145 rfl hF8 ?_ hro
  simp only [Tryz.ntmps145, List.size_toArray, List.length_cons, List.length_nil, Nat.reduceAdd, Nat.reduceSub, Array.replicate_succ, Array.replicate_zero, List.push_toArray, List.append_toArray, List.nil_append, List.cons_append]
  gi_wp2
  gi_loopw [8, 4, 5] (fun i _ _ wr => ∃ k : Nat, k ≤ m ∧ i = .int .i64 k ∧ J k wr ∧ LetsW R W.heap.size W wr) (fun i _ _ _ => m - (intOf i).toNat)
  case atStart => exact ⟨0, Nat.zero_le _, rfl, h0, LetsW.refl _ _ _⟩
  case round =>
    obtain ⟨k, hk, rfl, hJs, hL⟩ := hrel
    have HL := hide hL
    have HJS := hide hJs
    have hwz := hL.size
    by_cases hlt : k < m
    · have hcl := (unhide HC).same (hL.same g (unhide HC).lt (unhide HR).2.2.1) hL.size
      obtain ⟨y0, y1, y2, y3, y4, y5, y6, y7, y8⟩ := hcl.nine hlt
      have c2r := hL.cell (unhide HC2) (unhide HR).2.1
      have HOr := hide (hL.owns (unhide HO) (unhide HR).2.2.2)
      have hB2 := cell_lt c2r
      have c2a : ∀ o, (wr.alloc o).cell? ⟨B2, 0, none⟩ = some (.slice sa nl sc) := fun o => (World.cell?_alloc_past _ _ _ hB2).trans c2r
      clear hcl hL hJs
      have hstep : ∀ (o : Obj) (w2 : World), Below (wr.alloc o).drew.heap.size (wr.alloc o).drew w2 → J k w2 ∧ LetsW R W.heap.size W w2 ∧ w.heap.size ≤ w2.heap.size + w.heap.size := fun o w2 hb => by
        have hb2 : Below wr.heap.size wr w2 := ((below_alloc1 wr o).drew).trans (hb.mono (by show wr.heap.size ≤ (wr.alloc o).heap.size; simp))
        exact ⟨unhide HJ k wr w2 none (unhide HJS) (below_grown hb2) (fun r e => by cases e), (unhide HL).trans (LetsW.of_below hb2), by omega⟩
      have HST := hide hstep
      clear hstep
      obtain ⟨qk, hqk⟩ : ∃ qk, q k = qk := ⟨_, rfl⟩
      obtain ⟨d0, e0⟩ : ∃ x, d k 0 = x := ⟨_, rfl⟩
      obtain ⟨d1, e1⟩ : ∃ x, d k 1 = x := ⟨_, rfl⟩
      obtain ⟨d2, e2⟩ : ∃ x, d k 2 = x := ⟨_, rfl⟩
      obtain ⟨d3, e3⟩ : ∃ x, d k 3 = x := ⟨_, rfl⟩
      obtain ⟨d4, e4⟩ : ∃ x, d k 4 = x := ⟨_, rfl⟩
      obtain ⟨d5, e5⟩ : ∃ x, d k 5 = x := ⟨_, rfl⟩
      obtain ⟨d6, e6⟩ : ∃ x, d k 6 = x := ⟨_, rfl⟩
      obtain ⟨d7, e7⟩ : ∃ x, d k 7 = x := ⟨_, rfl⟩
      rw [hqk] at y0; rw [e0] at y1; rw [e1] at y2; rw [e2] at y3; rw [e3] at y4; rw [e4] at y5; rw [e5] at y6; rw [e6] at y7; rw [e7] at y8
      obtain ⟨bv, hbv⟩ : ∃ bv, blkVal (runAt nl v k) = bv := ⟨_, rfl⟩
      have HAR : Hid (pairArgs q d nl v k = #[.agg #[.int .i64 qk, .int .u8 (d0 : Nat), .int .u8 (d1 : Nat), .int .u8 (d2 : Nat), .int .u8 (d3 : Nat), .int .u8 (d4 : Nat), .int .u8 (d5 : Nat), .int .u8 (d6 : Nat), .int .u8 (d7 : Nat)], bv]) := by
        unfold pairArgs clVal
        rw [hqk, e0, e1, e2, e3, e4, e5, e6, e7, hbv]
        exact rfl
      have HBV := hide hbv
      clear hqk e0 e1 e2 e3 e4 e5 e6 e7 hbv
      gi_wp2_with fail
      gi_region_with (first
        | (gi_at_call 146; refine ((callsIn_wide (n := _)).2 (oat_calls nl k base v (.slice sa nl sc) _ (by exact (unhide HOr).alloc _) hnl (by omega))).mono ?_; rintro e w2 ⟨he, hb2⟩; rw [unhide HBV] at he; subst he; have bx := cl_under hb2; have z0 := blk_cell (i := 0) bx rfl; have z1 := blk_cell (i := 1) bx rfl; have z2 := blk_cell (i := 2) bx rfl; have z3 := blk_cell (i := 3) bx rfl; have z4 := blk_cell (i := 4) bx rfl; have z5 := blk_cell (i := 5) bx rfl; have z6 := blk_cell (i := 6) bx rfl; have z7 := blk_cell (i := 7) bx rfl; have z8 := blk_cell (i := 8) bx rfl; obtain ⟨hj2, hl2, _⟩ := unhide HST _ _ hb2; obtain ⟨fn, tmps, assign, body, hy, hR⟩ := unhide HY k k w2 (by simp [hlt]) hj2; rw [unhide HAR] at hy; have HRD := hide hR; have HL2 := hide hl2; clear hb2 bx hj2 hl2 hR)
        | (refine (unhide HRD).mono ?_; rintro e w3 ⟨rfl, hj3, hl3⟩))
      all_goals
        gi_wp2_with fail
        go_roundw
        case rel => exact ⟨k + 1, by omega, by simp, hj3, (unhide HL2).trans hl3⟩
        case measure => simp [intOf]; omega
    · obtain rfl : k = m := by omega
      clear hL hJs
      gi_wp2
      go_end0
      exact ⟨⟨_, rfl⟩, by rw [List.length_range]; exact unhide HJS⟩

/-- along: the two runs are boxed; the function value captures the boxes. -/
theorem oalong_in (n : Nat) (ua sa : Option Addr) (un uc sn sc : Nat) (w : World) :
    CallsIn Fence.wide n Tryz.prog 139 #[.slice ua un uc, .slice sa sn sc] w fun e w' => e = .returned (.func (.func 145) #[] #[.pointer (some ⟨w.heap.size, 0, none⟩), .pointer (some ⟨w.heap.size + 1, 0, none⟩)]) ∧ w' = (w.alloc (.cells #[.slice ua un uc] 85)).alloc (.cells #[.slice sa sn sc] 136) := by
  refine callsIn_of_wp Tryz.func139 rfl trivial ?_ rfl
  simp only [Tryz.ntmps139, List.size_toArray, List.length_cons, List.length_nil, Nat.reduceAdd, Nat.reduceSub, Array.replicate_succ, Array.replicate_zero, List.push_toArray, List.append_toArray, List.nil_append, List.cons_append]
  gi_wp2
  go_ret
  exact ⟨rfl, rfl⟩

end Go.Proofs.YtdcmmmggiokbhaaGreatDoor
