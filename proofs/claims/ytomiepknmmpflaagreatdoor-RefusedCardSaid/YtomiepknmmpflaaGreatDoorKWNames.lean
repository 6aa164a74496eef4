/- The program's iterator over a chain's images: its contract. -/
import Derived.Test.YtomiepknmmpflaaGreatDoorKWOKeep
import Derived.Test.YtomiepknmmpflaaGreatDoorKWBuild
import Derived.Test.YtomiepknmmpflaaGreatDoorKIter2
import Derived.Test.YtomiepknmmpflaaGreatDoorKWBytesOf
import Derived.Stop.RegionWithIn
import Derived.Sort.QuietIn
namespace Go.Proofs.YtomiepknmmpflaaGreatDoor
open Go.RowKit Go.Joins Go.Shelf

attribute [local go_sem] Oper.semAt_some

abbrev Nm := { x : ByteArray × Im // x.1.size ≤ 1000 }
abbrev Nm.ims (L : List Nm) : Ims := L.map Subtype.val
theorem Nm.at_name {L : List Nm} {k : Nat} (h : k < L.length) : Ov.nameAt (fl (Nm.ims L)) k = L[k].val.1 := by simp [Ov.nameAt, fl, Nm.ims, h]
theorem Nm.at_im {L : List Nm} {k : Nat} (h : k < L.length) : imAt (Nm.ims L) k = L[k].val.2 := by simp [imAt, Nm.ims, h]
theorem Nm.exists {L : Ims} (h : ∀ x ∈ L, x.1.size ≤ 1000) : ∃ M : List Nm, Nm.ims M = L := by
  induction L with
  | nil => exact ⟨[], rfl⟩
  | cons x L ih =>
    obtain ⟨M, hM⟩ := ih fun y hy => h y (List.mem_cons_of_mem _ hy)
    exact ⟨⟨x, h x List.mem_cons_self⟩ :: M, by simp only [Nm.ims, List.map_cons] at hM ⊢; rw [hM]⟩
def imArgs (x : Nm) : Array Value := #[.string x.val.1, .agg #[.string x.val.2.bk, .slice (some ⟨x.val.2.g, 0, none⟩) x.val.2.n x.val.2.n, .int .i64 x.val.2.t]]

set_option maxRecDepth 100000 in
set_option maxHeartbeats 2000000 in
theorem oIall1_in (F : Fence) (n : Nat) (h8 : F.fn 139) (hro : F.round = none) (hn : 1 ≤ n) (y Bs n₀ b off g c : Nat) (L : List Nm) (hl : L.length ≤ 8) (hg : g < n₀) (J Jx : List Nm → World → Prop)
    (hA : ∀ pre W1 o, J pre W1 → J pre (World.alloc W1 o))
    (hY : ∀ pre x W, J pre W → pre.length < L.length → YieldAt F (n - 1) Tryz.prog y (imArgs x) W fun e W' =>
      (e = .returned (.bool true) ∧ J (pre ++ [x]) W' ∧ Below n₀ W W') ∨ (e = .returned (.bool false) ∧ Jx (pre ++ [x]) W'))
    (W : World) (hn0 : n₀ ≤ W.heap.size) (hcB : W.cell? ⟨Bs, 0, none⟩ = some (.pointer (some ⟨b, off, none⟩))) (hcv : W.cell? ⟨b, off, none⟩ = some (.slice (some ⟨g, 0, none⟩) L.length c)) (ho : OwnsIms W 0 (.slice (some ⟨g, 0, none⟩) L.length c) (Nm.ims L)) (h0 : J [] W) :
    CallsIn F n Tryz.prog 139 #[.func (.yield y) #[] #[], .pointer (some ⟨Bs, 0, none⟩)] W fun e W' => (∃ v, e = .returned v) ∧
      ((∃ ys, ys = L ∧ J ys W') ∨ (∃ pre, (∃ k, k ≤ L.length ∧ pre = L.take k) ∧ Jx pre W')) := by
  have HO := hide ho
  clear ho
  refine callsIn_of_wp Tryz.func139 rfl h8 ?_ hro
  simp only [Tryz.ntmps139, List.size_toArray, List.length_cons, List.length_nil, Nat.reduceAdd, Nat.reduceSub, Array.replicate_succ, Array.replicate_zero, List.push_toArray, List.append_toArray, List.nil_append, List.cons_append]
  gi_wp2
  gi_loopw [10, 4] (fun i _ wr => ∃ k : Nat, k ≤ L.length ∧ i = .int .i64 k ∧ J (L.take k) wr ∧ Below n₀ W wr) (fun i _ _ => L.length - (intOf i).toNat)
  case atStart => exact ⟨0, Nat.zero_le _, rfl, h0, Below.refl _ _⟩
  case round =>
    obtain ⟨k, hk, rfl, hJs, hnx⟩ := hrel
    have HNX := hide hnx
    have hwr : n₀ ≤ wr.heap.size := Nat.le_trans hn0 hnx.size
    by_cases hlt : k < L.length
    · obtain ⟨r0, r1, r2, r3⟩ := ims_row (L := Nm.ims L) (c := c) (g := g) (by have := unhide HO; rw [show (Nm.ims L).length = L.length from by simp]; exact this) (k := k) (by simpa using hlt)
      rw [Nm.at_name hlt] at r0
      rw [Nm.at_im hlt] at r1 r2 r3
      have cn := (hnx.cell (p := ⟨g, k * 4, none⟩) hg).trans r0
      have cb := (hnx.cell (p := ⟨g, k * 4 + 1, none⟩) hg).trans r1
      have cs := (hnx.cell (p := ⟨g, k * 4 + 2, none⟩) hg).trans r2
      have ct := (hnx.cell (p := ⟨g, k * 4 + 3, none⟩) hg).trans r3
      have Hsn := hide (List.take_succ_eq_append_getElem hlt)
      obtain ⟨x, hx⟩ : ∃ x, L[k] = x := ⟨_, rfl⟩
      rw [hx] at cn cb cs ct Hsn
      obtain ⟨fn, tmps, assign, body, hy, hR⟩ := hY _ x (wr.alloc (.cells #[.string x.val.1, .string x.val.2.bk, .slice (some ⟨x.val.2.g, 0, none⟩) x.val.2.n x.val.2.n, .int .i64 x.val.2.t] 151)) (hA _ wr _ hJs) (by rw [List.length_take]; omega)
      unfold imArgs at hy
      clear hx
      clear hJs hnx r0 r1 r2 r3
      gi_wp2
      refine hR.mono ?_
      rintro e W3 (⟨rfl, hJ3, hk3⟩ | ⟨rfl, hJx3⟩)
      · gi_wp2
        go_roundw
        case rel => exact ⟨k + 1, by omega, by simp, by rw [unhide Hsn]; exact hJ3, ((unhide HNX).alloc hwr _).trans hk3⟩
        case measure => simp [intOf]; omega
      · gi_wp2
        refine bodyPost_ret (results_none rfl _ _ _) rfl ?_
        exact ⟨⟨_, rfl⟩, .inr ⟨_, ⟨k + 1, by omega, (unhide Hsn).symm⟩, hJx3⟩⟩
    · obtain rfl : k = L.length := by omega
      rw [List.take_length] at hJs
      gi_wp2
      go_end0
      exact ⟨⟨_, rfl⟩, .inl ⟨_, rfl, hJs⟩⟩

set_option maxRecDepth 100000 in
set_option maxHeartbeats 1000000 in
theorem oIall1_nil_in (F : Fence) (n : Nat) (h8 : F.fn 139) (hro : F.round = none) (y Bs b off : Nat) (J : List Nm → World → Prop)
    (W : World) (hcB : W.cell? ⟨Bs, 0, none⟩ = some (.pointer (some ⟨b, off, none⟩))) (hcv : W.cell? ⟨b, off, none⟩ = some (.slice none 0 0)) (h0 : J [] W) :
    CallsIn F n Tryz.prog 139 #[.func (.yield y) #[] #[], .pointer (some ⟨Bs, 0, none⟩)] W fun e W' => (∃ v, e = .returned v) ∧ J [] W' := by
  refine callsIn_of_wp Tryz.func139 rfl h8 ?_ hro
  simp only [Tryz.ntmps139, List.size_toArray, List.length_cons, List.length_nil, Nat.reduceAdd, Nat.reduceSub, Array.replicate_succ, Array.replicate_zero, List.push_toArray, List.append_toArray, List.nil_append, List.cons_append]
  gi_wp2
  gi_loopw [10, 4] (fun i _ wr => i = .int .i64 0 ∧ J [] wr) (fun _ _ _ => 0)
  case atStart => exact ⟨rfl, h0⟩
  case round =>
    obtain ⟨rfl, hJs⟩ := hrel
    gi_wp2
    go_end0
    exact ⟨⟨_, rfl⟩, hJs⟩

theorem oIall_in (F : Fence) (n : Nat) (h6 : F.fn 84) (hro : F.round = none) (p : Option Addr) (w : World) :
    CallsIn F n Tryz.prog 84 #[.pointer p] w fun e w' => e = .returned (.func (.func 139) #[] #[.pointer (some ⟨w.heap.size, 0, none⟩)]) ∧ w' = w.alloc (.cells #[.pointer p] 78) := by
  refine callsIn_of_wp Tryz.func84 rfl h6 ?_ hro
  simp only [Tryz.ntmps84, List.size_toArray, List.length_cons, List.length_nil, Nat.reduceAdd, Nat.reduceSub, Array.replicate_succ, Array.replicate_zero, List.push_toArray, List.append_toArray, List.nil_append, List.cons_append]
  gi_wp2
  go_ret
  exact ⟨rfl, rfl⟩

theorem oIall_stops (F : Fence) (n : Nat) (h8 : F.fn 139) (hro : F.round = none) (hn : 1 ≤ n) (Bs n₀ b off : Nat) (v : Value) (L : List Nm) (hl : L.length ≤ 8) (w : World) (hBs : Bs < w.heap.size) (hn₀ : n₀ ≤ w.heap.size) (hb : b < n₀)
    (hcB : w.cell? ⟨Bs, 0, none⟩ = some (.pointer (some ⟨b, off, none⟩))) (hcv : w.cell? ⟨b, off, none⟩ = some v) (ho : OwnsIms w 0 v (Nm.ims L)) (hg : ∀ k, v.ownBlock = some k → k < n₀) :
    SeqStopsK F n Tryz.prog 139 #[.pointer (some ⟨Bs, 0, none⟩)] imArgs (Below n₀) (fun ys => ys = L) (fun pre => ∃ k, k ≤ L.length ∧ pre = L.take k) L.length w := fun y J Jx W hW hJ _ hY h0 => by
  have hcB' := (hW.cell (p := ⟨Bs, 0, none⟩) hBs).trans hcB
  have hcv' := (hW.cell (p := ⟨b, off, none⟩) (by exact Nat.lt_of_lt_of_le hb hn₀)).trans hcv
  have ho' := owns_all ho hW
  rw [show (Nm.ims L).length = L.length from by simp] at ho'
  rcases ownsRow_forms ho' with ⟨rfl, e0⟩ | ⟨g, c, rfl⟩
  · obtain rfl : L = [] := List.length_eq_zero_iff.1 (by simpa using e0)
    exact (oIall1_nil_in F n h8 hro y Bs b off J W hcB' hcv' h0).mono fun e W' ⟨he, hj⟩ => ⟨he, .inl ⟨_, rfl, hj⟩⟩
  · exact oIall1_in F n h8 hro hn y Bs n₀ b off g c L hl (hg g rfl) J Jx (fun pre W1 o hj => hJ pre W1 _ none hj (World.grownBy_alloc W1 o none) (fun r e => by cases e)) hY W (Nat.le_trans hn₀ hW.size) hcB' hcv' (by unfold OwnsIms; rw [show (Nm.ims L).length = L.length from by simp]; exact ho') h0

end Go.Proofs.YtomiepknmmpflaaGreatDoor

namespace Go.Proofs.YtomiepknmmpflaaGreatDoor
open Go.RowKit Go.Joins Go.Shelf

attribute [local go_sem] Oper.semAt_some

def joinB (pre : List Nm) : List UInt8 := pre.foldl (fun l x => (if 0 < l.length then l ++ [(44 : Nat).toUInt8] else l) ++ x.val.1.data.toList) []
theorem joinB_snoc (pre : List Nm) (x : Nm) : joinB (pre ++ [x]) = (if 0 < (joinB pre).length then joinB pre ++ [(44 : Nat).toUInt8] else joinB pre) ++ x.val.1.data.toList := by simp [joinB]
theorem joinB_length (pre : List Nm) : (joinB pre).length ≤ pre.length * 1001 := by
  have h : ∀ (q : List Nm) (l : List UInt8), (q.foldl (fun l x => (if 0 < l.length then l ++ [(44 : Nat).toUInt8] else l) ++ x.val.1.data.toList) l).length ≤ l.length + q.length * 1001 := by
    intro q
    induction q with
    | nil => intro l; simp
    | cons x q ih =>
      intro l
      have h1 := x.2
      have h2 : x.val.1.data.toList.length = x.val.1.size := rfl
      have h3 := ih ((if 0 < l.length then l ++ [(44 : Nat).toUInt8] else l) ++ x.val.1.data.toList)
      have h4 : ((if 0 < l.length then l ++ [(44 : Nat).toUInt8] else l) ++ x.val.1.data.toList).length ≤ l.length + 1001 := by
        split <;> simp only [List.length_append, List.length_cons, List.length_nil, h2] <;> omega
      simp only [List.foldl_cons, List.length_cons]
      omega
  have := h pre []
  simpa [joinB] using this
theorem Bd.kept {B b : Nat} {l : List UInt8} {W W' : World} {row : Option Nat} (h : Bd W B b l) (hg : W.grownBy W' row) (hr : ∀ r, row = some r → ∃ o : Obj, W.heap[r]? = some o ∧ o.isCells = false) : Bd W' B b l := by
  have hone : ∀ {p : Value}, Lib.BuilderAt 142 5 B b p (Lib.byteCells l) W → Lib.BuilderAt 142 5 B b p (Lib.byteCells l) W' := by
    rintro p ⟨h1, v, h2, h3, h4⟩
    refine ⟨h1, v, ?_, owns_grown h3 hg ?_, h4⟩
    · rw [hg.block b (blk_lt h2) ?_]
      · exact h2
      · intro e
        obtain ⟨o, ho, hc⟩ := hr b e.symm
        rw [h2] at ho; cases ho; cases hc
    · by_cases hv : v.ownBlock = none
      · exact Or.inl hv
      · refine Or.inr fun e => ?_
        obtain ⟨k, hk⟩ := Option.ne_none_iff_exists'.1 hv
        obtain ⟨c, hc⟩ := own_blk h3 hk
        obtain ⟨o, ho, hcc⟩ := hr k (by rw [← e]; exact hk)
        rw [hc] at ho; cases ho; cases hcc
  exact h.elim (fun x => .inl (hone x)) (fun x => .inr (hone x))
theorem BdLeft.keeps {w w' : World} {B b : Nat} {l : List UInt8} (h : BdLeft w B b l w') (hb : ∃ cs t, w.heap[b]? = some (.cells cs t (0, 0))) (n : Nat) : KeepsFrom n w w' :=
  ⟨h.below.size, fun k o _ hk ho => h.others k o hk (fun e => by
    cases e
    obtain ⟨cs, t, hb⟩ := hb
    rw [hb] at hk; cases hk; cases ho) (fun c fz e => by rw [e] at ho; cases ho)⟩
theorem Bd.blk {w : World} {B b : Nat} {l : List UInt8} (h : Bd w B b l) : ∃ cs t, w.heap[b]? = some (.cells cs t (0, 0)) := by
  rcases h with ⟨_, v, h, _⟩ | ⟨_, v, h, _⟩ <;> exact ⟨_, _, h⟩

theorem oLen_calls {w : World} {B b : Nat} {l : List UInt8} (h : Bd w B b l) : Calls Tryz.prog 85 #[.pointer (some ⟨b, 0, none⟩)] w fun e w' => e = .returned (.int .i64 l.length) ∧ w = w' :=
  (Tryz.Builder_Len B b (Lib.byteCells l) w h).mono fun e w' k => ⟨by rw [k.1, Lib.byteCells_length], k.2.symm⟩

set_option maxRecDepth 100000 in
set_option maxHeartbeats 2000000 in
theorem ochainNames_in (L : List Nm) (v : Value) (cb : Nat) (w : World) (hl : L.length ≤ 8) (hblk : w.heap[cb]? = some (.cells #[v] 132 (0, 0))) (hown : OwnsIms w 0 v (Nm.ims L)) :
    Calls Tryz.prog 48 #[.pointer (some ⟨cb, 0, none⟩)] w fun e w' => e = .returned (.string ⟨(joinB L).toArray⟩) ∧ Below w.heap.size w w' := by
  have HB := hide hblk
  have HO := hide hown
  have hbl := blk_lt hblk
  have hc3 : w.cell? ⟨cb, 0, none⟩ = some v := blk_cell hblk rfl
  clear hblk hown
  refine (callsIn_wide (n := 6)).1 ?_
  have hro : Fence.wide.round = none := rfl
  refine callsIn_of_wp_marks Tryz.func48 rfl trivial ?_ hro
  simp only [Tryz.ntmps48, List.size_toArray, List.length_cons, List.length_nil, Nat.reduceAdd, Nat.reduceSub, Array.replicate_succ, Array.replicate_zero, List.push_toArray, List.append_toArray, List.nil_append, List.cons_append]
  have hfA : Fence.wide.fn 84 := trivial
  have hfB : Fence.wide.fn 139 := trivial
  have hfC : Fence.wide.fn 85 := trivial
  have hfD : Fence.wide.fn 86 := trivial
  have hfE : Fence.wide.fn 87 := trivial
  have hfF : Fence.wide.fn 88 := trivial
  gi_wp2_with (gi_at_call 84; refine (oIall_in Fence.wide _ hfA hro _ _).mono ?_; rintro e w' ⟨rfl, rfl⟩)
  have bP := Boxed.new (w.alloc (.cells #[.pointer none, .slice none 0 0] 142)) 78 (.pointer (some ⟨cb, 0, none⟩))
  simp only [World.size_alloc] at bP
  have hB0 := below_alloc2 w (.cells #[.pointer none, .slice none 0 0] 142) (.cells #[.pointer (some ⟨cb, 0, none⟩)] 78)
  have hcv := (hB0.cell (p := ⟨cb, 0, none⟩) hbl).trans hc3
  have HOw := owns_all (unhide HO) hB0
  have hbd : Bd ((w.alloc (.cells #[.pointer none, .slice none 0 0] 142)).alloc (.cells #[.pointer (some ⟨cb, 0, none⟩)] 78)) w.heap.size w.heap.size [] := Bd.kept (Lib.fresh_isBuilder 142 5 w) (World.grownBy_alloc _ _ none) (fun r e => by cases e)
  refine wpIn_rangeFunc_ownG hro (by decide) (gf := 139) (lb := #[.pointer (some ⟨w.heap.size + 1, 0, none⟩)]) rfl hfB (enters_of Tryz.func139 (by kernel_rfl) rfl)
    (oIall_stops Fence.wide _ hfB hro (by decide) (w.heap.size + 1) w.heap.size cb 0 v L hl _ (by simp) (by simp; omega) hbl bP.cell hcv HOw (fun k hk => ((unhide HO).lt k hk).2)) belowK_t (belowK_b (by simp; omega)) (Below.refl _ _) (fun _ => rfl)
    (fun pre W => Bd W w.heap.size w.heap.size (joinB pre) ∧ Below w.heap.size w W)
    (fun _ _ _ => False)
    (OwnFrom.and (Own.from (I := fun (pre : List Nm) W => Bd W w.heap.size w.heap.size (joinB pre)) (fun s A B row hs hg hr => Bd.kept hs hg hr) _) (ownFrom_below (Nat.le_refl _) (by simp; omega)))
    (fun _ _ _ _ _ hs _ _ => hs)
    ⟨hbd, hB0⟩
    (fun o => { tmps := #[.pointer (some ⟨cb, 0, none⟩), undef, .string ⟨#[]⟩, .pointer (some ⟨w.heap.size, 0, none⟩), .string o.val.1, .pointer (some ⟨cb, 0, none⟩), .func (.func 139) #[] #[.pointer (some ⟨w.heap.size + 1, 0, none⟩)], .string o.val.1, .agg #[.string o.val.2.bk, .slice (some ⟨o.val.2.g, 0, none⟩) o.val.2.n o.val.2.n, .int .i64 o.val.2.t], undef, undef, undef, undef, undef, undef], defers := [] }) ?assign ?body ?done ?stop
  case assign =>
    intro y o W K hK
    unfold imArgs
    gi_wp2
    exact hK
  case body =>
    rintro y pre o W ⟨hb, hB⟩ hlen
    have HBd := hide hb
    have HBl := hide hB
    have hsz := hB.size
    have hjl := joinB_length pre
    have hol := o.2
    obtain ⟨x, hx⟩ : ∃ x, o.val.1 = x := ⟨_, rfl⟩
    rw [hx] at hol
    obtain ⟨l, hjb⟩ : ∃ l, joinB pre = l := ⟨_, rfl⟩
    rw [hjb] at hb hjl
    have HB2 := hide hb
    clear hb hB
    by_cases h0 : 0 < l.length
    · have Hsn : Hid (joinB (pre ++ [o]) = l ++ [(44 : Nat).toUInt8] ++ x.data.toList) := by rw [joinB_snoc, hjb, if_pos h0, hx]; exact rfl
      clear hjb HBd
      rw [hx]
      gi_wp2_with (first
        | (gi_at_call 87; refine (CallsIn.inRound y ((callsIn_wide (n := _)).2 (oWriteString_calls w.heap.size w.heap.size (l ++ [(44 : Nat).toUInt8]) x _ (.inr (unhide H1).bd) (by omega) (by rw [List.length_append]; simp; omega) (Nat.le_trans hsz (unhide H1).below.size)))).mono ?_; rintro e W2 ⟨rfl, h2⟩; have H2 := hide h2; clear h2)
        | (gi_at_call 86; refine (CallsIn.inRound y ((callsIn_wide (n := _)).2 (oWriteByte_calls w.heap.size w.heap.size l 44 _ (unhide HB2) (by omega) (by omega) hsz))).mono ?_; rintro e W1 ⟨rfl, h1⟩; have H1 := hide h1; clear h1)
        | (gi_at_call 85; refine (CallsIn.inRound y ((callsIn_wide (n := _)).2 (oLen_calls (unhide HB2)))).mono ?_; rintro e w' ⟨rfl, rfl⟩))
      exact ⟨((unhide H1).keeps (unhide HB2).blk _).trans ((unhide H2).keeps (Bd.blk (.inr (unhide H1).bd)) _), (unhide H1).below.trans (unhide H2).below, by rw [unhide Hsn]; exact .inr (unhide H2).bd, ((unhide HBl).trans (unhide H1).below).trans (unhide H2).below⟩
    · have Hsn : Hid (joinB (pre ++ [o]) = l ++ x.data.toList) := by rw [joinB_snoc, hjb, if_neg h0, hx]; exact rfl
      obtain rfl : l = [] := List.length_eq_zero_iff.1 (by omega)
      clear hjb HBd
      rw [hx]
      gi_wp2_with (first
        | (gi_at_call 87; refine (CallsIn.inRound y ((callsIn_wide (n := _)).2 (oWriteString_calls w.heap.size w.heap.size [] x _ (unhide HB2) (by omega) (by simp) hsz))).mono ?_; rintro e W2 ⟨rfl, h2⟩; have H2 := hide h2; clear h2)
        | (gi_at_call 85; refine (CallsIn.inRound y ((callsIn_wide (n := _)).2 (oLen_calls (unhide HB2)))).mono ?_; rintro e w' ⟨rfl, rfl⟩))
      exact ⟨(unhide H2).keeps (unhide HB2).blk _, (unhide H2).below, by rw [unhide Hsn]; exact .inr (unhide H2).bd, (unhide HBl).trans (unhide H2).below⟩
  case done =>
    rintro D ys W hD rfl ⟨hb, hB⟩ hK
    have HBd := hide (Lib.IsBuilderF.of hb)
    have hsz := hB.size
    have hDs : w.heap.size ≤ D := by simp at hD; omega
    gi_wp2_with (gi_at_call 88; refine ((callsIn_wide (n := _)).2 (Tryz.Builder_String_any_k w.heap.size w.heap.size (joinB ys) _ (unhide HBd) hsz)).mono ?_; rintro e W2 ⟨rfl, _, hb2, ho2⟩; have hK2 := ho2 D _ hK (by intro e; cases e; obtain ⟨cs, t, hx⟩ := hb.blk; rw [hx] at hK; cases hK) (by intro c fz e; cases e))
    refine ⟨by simp, .inl ⟨_, _, rfl, run_takeDeferred hK2, ?_⟩⟩
    exact ⟨_, results_tmp rfl _ _ _, rfl, (hB.trans hb2).trans (belowK_b (w := w) (Nat.le_refl _) W2 D _ _ hDs hK2 rfl rfl)⟩
  case stop =>
    rintro D c pre W _ _ h _
    exact h.elim

theorem joinB_names (M : List Nm) (ns : List ByteArray) (h : (Nm.ims M).map Prod.fst = ns) (h1 : ∀ y ∈ ns, 1 ≤ y.size) : (⟨(joinB M).toArray⟩ : ByteArray) = Ov.joinTo ns ns.length := by
  have hl : M.length = ns.length := by rw [← h]; simp
  have hk : ∀ k, k ≤ M.length → joinB (M.take k) = (Ov.joinTo ns k).data.toList ∧ (0 < k → 0 < (joinB (M.take k)).length) := by
    intro k
    induction k with
    | zero => intro _; exact ⟨rfl, fun h => by omega⟩
    | succ k ih =>
      intro hk
      obtain ⟨i1, i2⟩ := ih (by omega)
      have hx : ns.getD k ⟨#[]⟩ = M[k].val.1 := by
        rw [← h]
        simp [Nm.ims, show k < M.length from by omega]
      have hx1 : 1 ≤ (M[k].val.1).size := by
        rw [← hx]
        apply h1
        rw [List.getD_eq_getElem?_getD, List.getElem?_eq_getElem (by omega)]
        exact List.getElem_mem _
      rw [List.take_succ_eq_append_getElem (by omega), joinB_snoc]
      constructor
      · rw [Ov.joinTo, hx]
        by_cases h0 : 0 < k
        · rw [if_pos (i2 h0), if_pos h0, i1]
          simp
        · rw [if_neg h0, i1]
          have : k = 0 := by omega
          subst this
          simp [Ov.joinTo]
      · intro _
        rw [List.length_append]
        have : (M[k].val.1).data.toList.length = (M[k].val.1).size := rfl
        omega
  have := (hk M.length (Nat.le_refl _)).1
  rw [List.take_length, hl] at this
  rw [this]
theorem ochainNames_calls (l : Ov.Files) (L : Ims) (cb : Nat) (r : Option Nat) (w : World) (h : Ch w cb r l L) (hl : L.length ≤ 8) (h8 : ∀ x ∈ L.map Prod.fst, 1 ≤ x.size ∧ x.size ≤ 8) :
    Calls Tryz.prog 48 #[.pointer (some ⟨cb, 0, none⟩)] w fun e w' => e = .returned (.string (Ov.joinTo (L.map Prod.fst) (L.map Prod.fst).length)) ∧ Below w.heap.size w w' := by
  obtain ⟨M, rfl⟩ := Nm.exists (L := L) (fun x hx => Nat.le_trans (h8 x.1 (List.mem_map_of_mem hx)).2 (by omega))
  obtain ⟨⟨v, h1, h2, _⟩, _⟩ := h
  have := ochainNames_in M v cb w (by simpa using hl) h1 h2
  rw [joinB_names M _ rfl (fun y hy => (h8 y hy).1)] at this
  exact this

end Go.Proofs.YtomiepknmmpflaaGreatDoor

namespace Go.Proofs.YtomiepknmmpflaaGreatDoor
open Go.RowKit Go.Joins Go.Shelf

attribute [local go_sem] Oper.semAt_some

def clVal (q : Int) (d : Eight) : Value := .agg #[.int .i64 q, .int .u8 (d 0 : Nat), .int .u8 (d 1 : Nat), .int .u8 (d 2 : Nat), .int .u8 (d 3 : Nat), .int .u8 (d 4 : Nat), .int .u8 (d 5 : Nat), .int .u8 (d 6 : Nat), .int .u8 (d 7 : Nat)]
structure Cl (w : World) (g m : Nat) (q : Nat → Int) (d : Nat → Eight) : Prop where
  kind : ∀ k, k < m → w.cell? ⟨g, k * 9, none⟩ = some (.int .i64 (q k))
  byte : ∀ k, k < m → ∀ j, j < 8 → w.cell? ⟨g, k * 9 + (j + 1), none⟩ = some (.int .u8 (d k j : Nat))
  lt : g < w.heap.size
theorem Cl.same {w w' : World} {g m : Nat} {q : Nat → Int} {d : Nat → Eight} (h : Cl w g m q d) (hg : w'.heap[g]? = w.heap[g]?) (hs : w.heap.size ≤ w'.heap.size) : Cl w' g m q d :=
  ⟨fun k hk => (World.cell?_of_block (a := ⟨g, k * 9, none⟩) hg).trans (h.kind k hk), fun k hk j hj => (World.cell?_of_block (a := ⟨g, k * 9 + (j + 1), none⟩) hg).trans (h.byte k hk j hj), Nat.lt_of_lt_of_le h.lt hs⟩
theorem Cl.nine {w : World} {g m : Nat} {q : Nat → Int} {d : Nat → Eight} (h : Cl w g m q d) {k : Nat} (hk : k < m) :
    w.cell? ⟨g, k * 9, none⟩ = some (.int .i64 (q k)) ∧ w.cell? ⟨g, k * 9 + 1, none⟩ = some (.int .u8 (d k 0 : Nat)) ∧ w.cell? ⟨g, k * 9 + 2, none⟩ = some (.int .u8 (d k 1 : Nat)) ∧ w.cell? ⟨g, k * 9 + 3, none⟩ = some (.int .u8 (d k 2 : Nat)) ∧ w.cell? ⟨g, k * 9 + 4, none⟩ = some (.int .u8 (d k 3 : Nat)) ∧
    w.cell? ⟨g, k * 9 + 5, none⟩ = some (.int .u8 (d k 4 : Nat)) ∧ w.cell? ⟨g, k * 9 + 6, none⟩ = some (.int .u8 (d k 5 : Nat)) ∧ w.cell? ⟨g, k * 9 + 7, none⟩ = some (.int .u8 (d k 6 : Nat)) ∧ w.cell? ⟨g, k * 9 + 8, none⟩ = some (.int .u8 (d k 7 : Nat)) :=
  ⟨h.kind k hk, h.byte k hk 0 (by omega), h.byte k hk 1 (by omega), h.byte k hk 2 (by omega), h.byte k hk 3 (by omega), h.byte k hk 4 (by omega), h.byte k hk 5 (by omega), h.byte k hk 6 (by omega), h.byte k hk 7 (by omega)⟩
def pairArgs (q : Nat → Int) (d : Nat → Eight) (nl : Nat) (v : Nat → Nat) (k : Nat) : Array Value := #[clVal (q k) (d k), blkVal (runAt nl v k)]
theorem LetsW.owns {R : Nat → Prop} {B : Nat} {w w' : World} (h : LetsW R B w w') {base e size n : Nat} {v : Value} {xs : List Value} (ho : w.ownsRow base e size v n xs) (hr : ∀ k, v.ownBlock = some k → R k) : w'.ownsRow base e size v n xs := by
  refine ⟨ho.1, ?_⟩
  rcases ho.2 with k | ⟨g, cap, cur, hv, hg, hh, r⟩
  · exact Or.inl k
  · refine Or.inr ⟨g, cap, cur, hv, hg, ?_, r⟩
    rw [h.same g (blk_lt hh) (hr g (by rw [hv]; rfl))]; exact hh
theorem below_grown {w w' : World} (h : Below w.heap.size w w') : w.grownBy w' none := grown_of_below h none
theorem cl_under {W w2 : World} {cs : Array Value} {t : TypeId} (h : Below (W.alloc (.cells cs t)).drew.heap.size (W.alloc (.cells cs t)).drew w2) : w2.heap[W.heap.size]? = some (.cells cs t (0, 0)) :=
  (h.block W.heap.size (by simp [World.drew])).trans (blk_new W _)

set_option maxRecDepth 100000 in
set_option maxHeartbeats 4000000 in
theorem oalong1_gives (n : Nat) (hn : 1 ≤ n) (B1 B2 g m nl base : Nat) (q : Nat → Int) (d : Nat → Eight) (v : Nat → Nat) (s : Value) (w : World) (hm1 : 1 ≤ m) (hm : m ≤ 30) (hnl : nl ≤ 30) (R : Nat → Prop) (r1 : R B1) (r2 : R B2) (rg : R g) (rs : ∀ k, s.ownBlock = some k → R k)
    (h1 : w.cell? ⟨B1, 0, none⟩ = some (.slice (some ⟨g, 0, none⟩) m m)) (h2 : w.cell? ⟨B2, 0, none⟩ = some s) (hc : Cl w g m q d) (ho : OwnsRun w base s nl v) :
    GivesW Fence.wide n Tryz.prog 185 #[.pointer (some ⟨B1, 0, none⟩), .pointer (some ⟨B2, 0, none⟩)] (pairArgs q d nl v) (List.range m) R w := by
  intro l J W hW hJ hY h0
  obtain ⟨sa, sc, rfl⟩ := owns_slice ho
  have c1 := (hW.cell (p := ⟨B1, 0, none⟩) (cell_lt h1)).trans h1
  have c2 := (hW.cell (p := ⟨B2, 0, none⟩) (cell_lt h2)).trans h2
  have HC := hide (hc.same (hW.block g hc.lt) hW.size)
  have HO := hide (owns_all ho hW)
  have HY := hide hY
  have HJ := hide hJ
  have HR := hide (And.intro r1 (And.intro r2 (And.intro rg rs)))
  have HC2 := hide c2
  clear hc ho hW h1 h2 hY hJ r1 r2 rg rs c2
  have hro : Fence.wide.round = none := rfl
  have hfA : Fence.wide.fn 182 := trivial
  have hF8 : Fence.wide.fn 185 := trivial
  refine callsIn_of_wp Tryz.func185 rfl hF8 ?_ hro
  simp only [Tryz.ntmps185, List.size_toArray, List.length_cons, List.length_nil, Nat.reduceAdd, Nat.reduceSub, Array.replicate_succ, Array.replicate_zero, List.push_toArray, List.append_toArray, List.nil_append, List.cons_append]
  gi_wp2
  gi_loopw [8, 4, 5] (fun i _ _ wr => ∃ k : Nat, k ≤ m ∧ i = .int .i64 k ∧ J k wr ∧ LetsW R W.heap.size W wr) (fun i _ _ _ => m - (intOf i).toNat)
  case atStart => exact ⟨0, Nat.zero_le _, rfl, h0, LetsW.refl _ _ _⟩
  case round =>
    obtain ⟨k, hk, rfl, hJs, hL⟩ := hrel
    have HL := hide hL
    have HJS := hide hJs
    have hwz := hL.size
    by_cases hlt : k < m
    · have hcl := (unhide HC).same (hL.same g (unhide HC).lt (unhide HR).2.2.1) hL.size
      obtain ⟨y0, y1, y2, y3, y4, y5, y6, y7, y8⟩ := hcl.nine hlt
      have c2r := hL.cell (unhide HC2) (unhide HR).2.1
      have HOr := hide (hL.owns (unhide HO) (unhide HR).2.2.2)
      have hB2 := cell_lt c2r
      have c2a : ∀ o, (wr.alloc o).cell? ⟨B2, 0, none⟩ = some (.slice sa nl sc) := fun o => (World.cell?_alloc_past _ _ _ hB2).trans c2r
      clear hcl hL hJs
      have hstep : ∀ (o : Obj) (w2 : World), Below (wr.alloc o).drew.heap.size (wr.alloc o).drew w2 → J k w2 ∧ LetsW R W.heap.size W w2 ∧ w.heap.size ≤ w2.heap.size + w.heap.size := fun o w2 hb => by
        have hb2 : Below wr.heap.size wr w2 := ((below_alloc1 wr o).drew).trans (hb.mono (by show wr.heap.size ≤ (wr.alloc o).heap.size; simp))
        exact ⟨unhide HJ k wr w2 none (unhide HJS) (below_grown hb2) (fun r e => by cases e), (unhide HL).trans (LetsW.of_below hb2), by omega⟩
      have HST := hide hstep
      clear hstep
      obtain ⟨qk, hqk⟩ : ∃ qk, q k = qk := ⟨_, rfl⟩
      obtain ⟨d0, e0⟩ : ∃ x, d k 0 = x := ⟨_, rfl⟩
      obtain ⟨d1, e1⟩ : ∃ x, d k 1 = x := ⟨_, rfl⟩
      obtain ⟨d2, e2⟩ : ∃ x, d k 2 = x := ⟨_, rfl⟩
      obtain ⟨d3, e3⟩ : ∃ x, d k 3 = x := ⟨_, rfl⟩
      obtain ⟨d4, e4⟩ : ∃ x, d k 4 = x := ⟨_, rfl⟩
      obtain ⟨d5, e5⟩ : ∃ x, d k 5 = x := ⟨_, rfl⟩
      obtain ⟨d6, e6⟩ : ∃ x, d k 6 = x := ⟨_, rfl⟩
      obtain ⟨d7, e7⟩ : ∃ x, d k 7 = x := ⟨_, rfl⟩
      rw [hqk] at y0; rw [e0] at y1; rw [e1] at y2; rw [e2] at y3; rw [e3] at y4; rw [e4] at y5; rw [e5] at y6; rw [e6] at y7; rw [e7] at y8
      obtain ⟨bv, hbv⟩ : ∃ bv, blkVal (runAt nl v k) = bv := ⟨_, rfl⟩
      have HAR : Hid (pairArgs q d nl v k = #[.agg #[.int .i64 qk, .int .u8 (d0 : Nat), .int .u8 (d1 : Nat), .int .u8 (d2 : Nat), .int .u8 (d3 : Nat), .int .u8 (d4 : Nat), .int .u8 (d5 : Nat), .int .u8 (d6 : Nat), .int .u8 (d7 : Nat)], bv]) := by
        unfold pairArgs clVal
        rw [hqk, e0, e1, e2, e3, e4, e5, e6, e7, hbv]
        exact rfl
      have HBV := hide hbv
      clear hqk e0 e1 e2 e3 e4 e5 e6 e7 hbv
      gi_wp2_with fail
      gi_region_with (first
        | (gi_at_call 182; refine ((callsIn_wide (n := _)).2 (oat_calls nl k base v (.slice sa nl sc) _ (by exact (unhide HOr).alloc _) hnl (by omega))).mono ?_; rintro e w2 ⟨he, hb2⟩; rw [unhide HBV] at he; subst he; have bx := cl_under hb2; have z0 := blk_cell (i := 0) bx rfl; have z1 := blk_cell (i := 1) bx rfl; have z2 := blk_cell (i := 2) bx rfl; have z3 := blk_cell (i := 3) bx rfl; have z4 := blk_cell (i := 4) bx rfl; have z5 := blk_cell (i := 5) bx rfl; have z6 := blk_cell (i := 6) bx rfl; have z7 := blk_cell (i := 7) bx rfl; have z8 := blk_cell (i := 8) bx rfl; obtain ⟨hj2, hl2, _⟩ := unhide HST _ _ hb2; obtain ⟨fn, tmps, assign, body, hy, hR⟩ := unhide HY k k w2 (by simp [hlt]) hj2; rw [unhide HAR] at hy; have HRD := hide hR; have HL2 := hide hl2; clear hb2 bx hj2 hl2 hR)
        | (refine (unhide HRD).mono ?_; rintro e w3 ⟨rfl, hj3, hl3⟩))
      all_goals
        gi_wp2_with fail
        go_roundw
        case rel => exact ⟨k + 1, by omega, by simp, hj3, (unhide HL2).trans hl3⟩
        case measure => simp [intOf]; omega
    · obtain rfl : k = m := by omega
      clear hL hJs
      gi_wp2
      go_end0
      exact ⟨⟨_, rfl⟩, by rw [List.length_range]; exact unhide HJS⟩

theorem oalong_in (n : Nat) (ua sa : Option Addr) (un uc sn sc : Nat) (w : World) :
    CallsIn Fence.wide n Tryz.prog 156 #[.slice ua un uc, .slice sa sn sc] w fun e w' => e = .returned (.func (.func 185) #[] #[.pointer (some ⟨w.heap.size, 0, none⟩), .pointer (some ⟨w.heap.size + 1, 0, none⟩)]) ∧ w' = (w.alloc (.cells #[.slice ua un uc] 88)).alloc (.cells #[.slice sa sn sc] 117) := by
  refine callsIn_of_wp Tryz.func156 rfl trivial ?_ rfl
  simp only [Tryz.ntmps156, List.size_toArray, List.length_cons, List.length_nil, Nat.reduceAdd, Nat.reduceSub, Array.replicate_succ, Array.replicate_zero, List.push_toArray, List.append_toArray, List.nil_append, List.cons_append]
  gi_wp2
  go_ret
  exact ⟨rfl, rfl⟩

end Go.Proofs.YtomiepknmmpflaaGreatDoor

