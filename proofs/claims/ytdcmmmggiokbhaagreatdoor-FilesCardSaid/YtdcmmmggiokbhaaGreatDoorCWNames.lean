/- The program's iterator over a chain's images: its contract. -/
import Derived.Test.YtdcmmmggiokbhaaGreatDoorCWOAll
import Derived.Test.YtdcmmmggiokbhaaGreatDoorCPDownO
import Derived.Test.YtdcmmmggiokbhaaGreatDoorCWBuild
import Derived.Test.YtdcmmmggiokbhaaGreatDoorCWOKeep
namespace Go.Proofs.YtdcmmmggiokbhaaGreatDoor
open Go.RowKit Go.Joins Go.Shelf

attribute [local go_sem] Oper.semAt_some

/-- A row whose name is no long text. -/
abbrev Nm := { x : ByteArray × Im // x.1.size ≤ 1000 }
abbrev Nm.ims (L : List Nm) : Ims := L.map Subtype.val
theorem Nm.at_name {L : List Nm} {k : Nat} (h : k < L.length) : Ov.nameAt (fl (Nm.ims L)) k = L[k].val.1 := by simp [Ov.nameAt, fl, Nm.ims, h]
theorem Nm.at_im {L : List Nm} {k : Nat} (h : k < L.length) : imAt (Nm.ims L) k = L[k].val.2 := by simp [imAt, Nm.ims, h]
theorem Nm.exists {L : Ims} (h : ∀ x ∈ L, x.1.size ≤ 1000) : ∃ M : List Nm, Nm.ims M = L := by
  induction L with
  | nil => exact ⟨[], rfl⟩
  | cons x L ih =>
    obtain ⟨M, hM⟩ := ih fun y hy => h y (List.mem_cons_of_mem _ hy)
    exact ⟨⟨x, h x List.mem_cons_self⟩ :: M, by simp only [Nm.ims, List.map_cons] at hM ⊢; rw [hM]⟩
/-- What the iterator hands over. -/
def imArgs (x : Nm) : Array Value := #[.string x.val.1, .agg #[.string x.val.2.bk, .slice (some ⟨x.val.2.g, 0, none⟩) x.val.2.n x.val.2.n, .int .i64 x.val.2.t]]

set_option maxRecDepth 100000 in
set_option maxHeartbeats 2000000 in
theorem oIall1_in (F : Fence) (n : Nat) (h8 : F.fn 126) (hro : F.round = none) (hn : 1 ≤ n) (y Bs n₀ b off g c : Nat) (L : List Nm) (hl : L.length ≤ 8) (hg : g < n₀) (J Jx : List Nm → World → Prop)
    (hA : ∀ pre W1 o, J pre W1 → J pre (World.alloc W1 o))
    (hY : ∀ pre x W, J pre W → pre.length < L.length → YieldAt F (n - 1) Tryz.prog y (imArgs x) W fun e W' =>
      (e = .returned (.bool true) ∧ J (pre ++ [x]) W' ∧ Below n₀ W W') ∨ (e = .returned (.bool false) ∧ Jx (pre ++ [x]) W'))
    (W : World) (hn0 : n₀ ≤ W.heap.size) (hcB : W.cell? ⟨Bs, 0, none⟩ = some (.pointer (some ⟨b, off, none⟩))) (hcv : W.cell? ⟨b, off, none⟩ = some (.slice (some ⟨g, 0, none⟩) L.length c)) (ho : OwnsIms W 0 (.slice (some ⟨g, 0, none⟩) L.length c) (Nm.ims L)) (h0 : J [] W) :
    CallsIn F n Tryz.prog 126 #[.func (.yield y) #[] #[], .pointer (some ⟨Bs, 0, none⟩)] W fun e W' => (∃ v, e = .returned v) ∧
      ((∃ ys, ys = L ∧ J ys W') ∨ (∃ pre, (∃ k, k ≤ L.length ∧ pre = L.take k) ∧ Jx pre W')) := by
  have HO := hide ho
  clear ho
  refine callsIn_of_wp Tryz.func126 rfl h8 ?_ hro
  simp only [Tryz.ntmps126, List.size_toArray, List.length_cons, List.length_nil, Nat.reduceAdd, Nat.reduceSub, Array.replicate_succ, Array.replicate_zero, List.push_toArray, List.append_toArray, List.nil_append, List.cons_append]
  gi_wp2
  gi_loopw [10, 4] (fun i _ wr => ∃ k : Nat, k ≤ L.length ∧ i = .int .i64 k ∧ J (L.take k) wr ∧ Below n₀ W wr) (fun i _ _ => L.length - (intOf i).toNat)
  case atStart => exact ⟨0, Nat.zero_le _, rfl, h0, Below.refl _ _⟩
  case round =>
    obtain ⟨k, hk, rfl, hJs, hnx⟩ := hrel
    have HNX := hide hnx
    have hwr : n₀ ≤ wr.heap.size := Nat.le_trans hn0 hnx.size
    by_cases hlt : k < L.length
    · obtain ⟨r0, r1, r2, r3⟩ := ims_row (L := Nm.ims L) (c := c) (g := g) (by have := unhide HO; rw [show (Nm.ims L).length = L.length from by simp]; exact this) (k := k) (by simpa using hlt)
      rw [Nm.at_name hlt] at r0
      rw [Nm.at_im hlt] at r1 r2 r3
      have cn := (hnx.cell (p := ⟨g, k * 4, none⟩) hg).trans r0
      have cb := (hnx.cell (p := ⟨g, k * 4 + 1, none⟩) hg).trans r1
      have cs := (hnx.cell (p := ⟨g, k * 4 + 2, none⟩) hg).trans r2
      have ct := (hnx.cell (p := ⟨g, k * 4 + 3, none⟩) hg).trans r3
      have Hsn := hide (List.take_succ_eq_append_getElem hlt)
      obtain ⟨x, hx⟩ : ∃ x, L[k] = x := ⟨_, rfl⟩
      rw [hx] at cn cb cs ct Hsn
      obtain ⟨fn, tmps, assign, body, hy, hR⟩ := hY _ x (wr.alloc (.cells #[.string x.val.1, .string x.val.2.bk, .slice (some ⟨x.val.2.g, 0, none⟩) x.val.2.n x.val.2.n, .int .i64 x.val.2.t] 183)) (hA _ wr _ hJs) (by rw [List.length_take]; omega)
      unfold imArgs at hy
      clear hx
      clear hJs hnx r0 r1 r2 r3
      gi_wp2
      refine hR.mono ?_
      rintro e W3 (⟨rfl, hJ3, hk3⟩ | ⟨rfl, hJx3⟩)
      · gi_wp2
        go_roundw
        case rel => exact ⟨k + 1, by omega, by simp, by rw [unhide Hsn]; exact hJ3, ((unhide HNX).alloc hwr _).trans hk3⟩
        case measure => simp [intOf]; omega
      · gi_wp2
        refine bodyPost_ret (results_none rfl _ _ _) rfl ?_
        exact ⟨⟨_, rfl⟩, .inr ⟨_, ⟨k + 1, by omega, (unhide Hsn).symm⟩, hJx3⟩⟩
    · obtain rfl : k = L.length := by omega
      rw [List.take_length] at hJs
      gi_wp2
      go_end0
      exact ⟨⟨_, rfl⟩, .inl ⟨_, rfl, hJs⟩⟩

set_option maxRecDepth 100000 in
set_option maxHeartbeats 1000000 in
theorem oIall1_nil_in (F : Fence) (n : Nat) (h8 : F.fn 126) (hro : F.round = none) (y Bs b off : Nat) (J : List Nm → World → Prop)
    (W : World) (hcB : W.cell? ⟨Bs, 0, none⟩ = some (.pointer (some ⟨b, off, none⟩))) (hcv : W.cell? ⟨b, off, none⟩ = some (.slice none 0 0)) (h0 : J [] W) :
    CallsIn F n Tryz.prog 126 #[.func (.yield y) #[] #[], .pointer (some ⟨Bs, 0, none⟩)] W fun e W' => (∃ v, e = .returned v) ∧ J [] W' := by
  refine callsIn_of_wp Tryz.func126 rfl h8 ?_ hro
  simp only [Tryz.ntmps126, List.size_toArray, List.length_cons, List.length_nil, Nat.reduceAdd, Nat.reduceSub, Array.replicate_succ, Array.replicate_zero, List.push_toArray, List.append_toArray, List.nil_append, List.cons_append]
  gi_wp2
  gi_loopw [10, 4] (fun i _ wr => i = .int .i64 0 ∧ J [] wr) (fun _ _ _ => 0)
  case atStart => exact ⟨rfl, h0⟩
  case round =>
    obtain ⟨rfl, hJs⟩ := hrel
    gi_wp2
    go_end0
    exact ⟨⟨_, rfl⟩, hJs⟩

/-- all: the chain's address is boxed; the function value captures the box. -/
theorem oIall_in (F : Fence) (n : Nat) (h6 : F.fn 97) (hro : F.round = none) (p : Option Addr) (w : World) :
    CallsIn F n Tryz.prog 97 #[.pointer p] w fun e w' => e = .returned (.func (.func 126) #[] #[.pointer (some ⟨w.heap.size, 0, none⟩)]) ∧ w' = w.alloc (.cells #[.pointer p] 118) := by
  refine callsIn_of_wp Tryz.func97 rfl h6 ?_ hro
  simp only [Tryz.ntmps97, List.size_toArray, List.length_cons, List.length_nil, Nat.reduceAdd, Nat.reduceSub, Array.replicate_succ, Array.replicate_zero, List.push_toArray, List.append_toArray, List.nil_append, List.cons_append]
  gi_wp2
  go_ret
  exact ⟨rfl, rfl⟩

/-- THE ITERATOR's CONTRACT: all images, in their order; or the first of them. -/
theorem oIall_stops (F : Fence) (n : Nat) (h8 : F.fn 126) (hro : F.round = none) (hn : 1 ≤ n) (Bs n₀ b off : Nat) (v : Value) (L : List Nm) (hl : L.length ≤ 8) (w : World) (hBs : Bs < w.heap.size) (hn₀ : n₀ ≤ w.heap.size) (hb : b < n₀)
    (hcB : w.cell? ⟨Bs, 0, none⟩ = some (.pointer (some ⟨b, off, none⟩))) (hcv : w.cell? ⟨b, off, none⟩ = some v) (ho : OwnsIms w 0 v (Nm.ims L)) (hg : ∀ k, v.ownBlock = some k → k < n₀) :
    SeqStopsK F n Tryz.prog 126 #[.pointer (some ⟨Bs, 0, none⟩)] imArgs (Below n₀) (fun ys => ys = L) (fun pre => ∃ k, k ≤ L.length ∧ pre = L.take k) L.length w := fun y J Jx W hW hJ _ hY h0 => by
  have hcB' := (hW.cell (p := ⟨Bs, 0, none⟩) hBs).trans hcB
  have hcv' := (hW.cell (p := ⟨b, off, none⟩) (by exact Nat.lt_of_lt_of_le hb hn₀)).trans hcv
  have ho' := owns_all ho hW
  rw [show (Nm.ims L).length = L.length from by simp] at ho'
  rcases ownsRow_forms ho' with ⟨rfl, e0⟩ | ⟨g, c, rfl⟩
  · obtain rfl : L = [] := List.length_eq_zero_iff.1 (by simpa using e0)
    exact (oIall1_nil_in F n h8 hro y Bs b off J W hcB' hcv' h0).mono fun e W' ⟨he, hj⟩ => ⟨he, .inl ⟨_, rfl, hj⟩⟩
  · exact oIall1_in F n h8 hro hn y Bs n₀ b off g c L hl (hg g rfl) J Jx (fun pre W1 o hj => hJ pre W1 _ none hj (World.grownBy_alloc W1 o none) (fun r e => by cases e)) hY W (Nat.le_trans hn₀ hW.size) hcB' hcv' (by unfold OwnsIms; rw [show (Nm.ims L).length = L.length from by simp]; exact ho') h0

end Go.Proofs.YtdcmmmggiokbhaaGreatDoor

/- The program's chainNames. -/
namespace Go.Proofs.YtdcmmmggiokbhaaGreatDoor
open Go.RowKit Go.Joins Go.Shelf

attribute [local go_sem] Oper.semAt_some

/-- The names of a chain, commas between, as bytes. -/
def joinB (pre : List Nm) : List UInt8 := pre.foldl (fun l x => (if 0 < l.length then l ++ [(44 : Nat).toUInt8] else l) ++ x.val.1.data.toList) []
theorem joinB_snoc (pre : List Nm) (x : Nm) : joinB (pre ++ [x]) = (if 0 < (joinB pre).length then joinB pre ++ [(44 : Nat).toUInt8] else joinB pre) ++ x.val.1.data.toList := by simp [joinB]
theorem joinB_length (pre : List Nm) : (joinB pre).length ≤ pre.length * 1001 := by
  have h : ∀ (q : List Nm) (l : List UInt8), (q.foldl (fun l x => (if 0 < l.length then l ++ [(44 : Nat).toUInt8] else l) ++ x.val.1.data.toList) l).length ≤ l.length + q.length * 1001 := by
    intro q
    induction q with
    | nil => intro l; simp
    | cons x q ih =>
      intro l
      have h1 := x.2
      have h2 : x.val.1.data.toList.length = x.val.1.size := rfl
      have h3 := ih ((if 0 < l.length then l ++ [(44 : Nat).toUInt8] else l) ++ x.val.1.data.toList)
      have h4 : ((if 0 < l.length then l ++ [(44 : Nat).toUInt8] else l) ++ x.val.1.data.toList).length ≤ l.length + 1001 := by
        split <;> simp only [List.length_append, List.length_cons, List.length_nil, h2] <;> omega
      simp only [List.foldl_cons, List.length_cons]
      omega
  have := h pre []
  simpa [joinB] using this
theorem Bd.kept {B b : Nat} {l : List UInt8} {W W' : World} {row : Option Nat} (h : Bd W B b l) (hg : W.grownBy W' row) (hr : ∀ r, row = some r → ∃ o : Obj, W.heap[r]? = some o ∧ o.isCells = false) : Bd W' B b l := by
  have hone : ∀ {p : Value}, Lib.BuilderAt 149 5 B b p (Lib.byteCells l) W → Lib.BuilderAt 149 5 B b p (Lib.byteCells l) W' := by
    rintro p ⟨h1, v, h2, h3, h4⟩
    refine ⟨h1, v, ?_, owns_grown h3 hg ?_, h4⟩
    · rw [hg.block b (blk_lt h2) ?_]
      · exact h2
      · intro e
        obtain ⟨o, ho, hc⟩ := hr b e.symm
        rw [h2] at ho; cases ho; cases hc
    · by_cases hv : v.ownBlock = none
      · exact Or.inl hv
      · refine Or.inr fun e => ?_
        obtain ⟨k, hk⟩ := Option.ne_none_iff_exists'.1 hv
        obtain ⟨c, hc⟩ := own_blk h3 hk
        obtain ⟨o, ho, hcc⟩ := hr k (by rw [← e]; exact hk)
        rw [hc] at ho; cases ho; cases hcc
  exact h.elim (fun x => .inl (hone x)) (fun x => .inr (hone x))
theorem BdLeft.keeps {w w' : World} {B b : Nat} {l : List UInt8} (h : BdLeft w B b l w') (hb : ∃ cs t, w.heap[b]? = some (.cells cs t (0, 0))) (n : Nat) : KeepsFrom n w w' :=
  ⟨h.below.size, fun k o _ hk ho => h.others k o hk (fun e => by
    cases e
    obtain ⟨cs, t, hb⟩ := hb
    rw [hb] at hk; cases hk; cases ho) (fun c fz e => by rw [e] at ho; cases ho)⟩
theorem Bd.blk {w : World} {B b : Nat} {l : List UInt8} (h : Bd w B b l) : ∃ cs t, w.heap[b]? = some (.cells cs t (0, 0)) := by
  rcases h with ⟨_, v, h, _⟩ | ⟨_, v, h, _⟩ <;> exact ⟨_, _, h⟩

theorem oLen_calls {w : World} {B b : Nat} {l : List UInt8} (h : Bd w B b l) : Calls Tryz.prog 98 #[.pointer (some ⟨b, 0, none⟩)] w fun e w' => e = .returned (.int .i64 l.length) ∧ w = w' :=
  (Tryz.Builder_Len B b (Lib.byteCells l) w h).mono fun e w' k => ⟨by rw [k.1, Lib.byteCells_length], k.2.symm⟩

set_option maxRecDepth 100000 in
set_option maxHeartbeats 2000000 in
theorem ochainNames_in (L : List Nm) (v : Value) (cb : Nat) (w : World) (hl : L.length ≤ 8) (hblk : w.heap[cb]? = some (.cells #[v] 160 (0, 0))) (hown : OwnsIms w 0 v (Nm.ims L)) :
    Calls Tryz.prog 72 #[.pointer (some ⟨cb, 0, none⟩)] w fun e w' => e = .returned (.string ⟨(joinB L).toArray⟩) ∧ Below w.heap.size w w' := by
  have HB := hide hblk
  have HO := hide hown
  have hbl := blk_lt hblk
  have hc3 : w.cell? ⟨cb, 0, none⟩ = some v := blk_cell hblk rfl
  clear hblk hown
  refine (callsIn_wide (n := 6)).1 ?_
  have hro : Fence.wide.round = none := rfl
  refine callsIn_of_wp_marks Tryz.func72 rfl trivial ?_ hro
  simp only [Tryz.ntmps72, List.size_toArray, List.length_cons, List.length_nil, Nat.reduceAdd, Nat.reduceSub, Array.replicate_succ, Array.replicate_zero, List.push_toArray, List.append_toArray, List.nil_append, List.cons_append]
  have hfA : Fence.wide.fn 97 := trivial
  have hfB : Fence.wide.fn 126 := trivial
  have hfC : Fence.wide.fn 98 := trivial
  have hfD : Fence.wide.fn 87 := trivial
  have hfE : Fence.wide.fn 86 := trivial
  have hfF : Fence.wide.fn 89 := trivial
  gi_wp2_with (gi_at_call 97; refine (oIall_in Fence.wide _ hfA hro _ _).mono ?_; rintro e w' ⟨rfl, rfl⟩)
  have bP := Boxed.new (w.alloc (.cells #[.pointer none, .slice none 0 0] 149)) 118 (.pointer (some ⟨cb, 0, none⟩))
  simp only [World.size_alloc] at bP
  have hB0 := below_alloc2 w (.cells #[.pointer none, .slice none 0 0] 149) (.cells #[.pointer (some ⟨cb, 0, none⟩)] 118)
  have hcv := (hB0.cell (p := ⟨cb, 0, none⟩) hbl).trans hc3
  have HOw := owns_all (unhide HO) hB0
  have hbd : Bd ((w.alloc (.cells #[.pointer none, .slice none 0 0] 149)).alloc (.cells #[.pointer (some ⟨cb, 0, none⟩)] 118)) w.heap.size w.heap.size [] := Bd.kept (Lib.fresh_isBuilder 149 5 w) (World.grownBy_alloc _ _ none) (fun r e => by cases e)
  refine wpIn_rangeFunc_ownG hro (by decide) (gf := 126) (lb := #[.pointer (some ⟨w.heap.size + 1, 0, none⟩)]) rfl hfB (enters_of Tryz.func126 (by kernel_rfl) rfl)
    (oIall_stops Fence.wide _ hfB hro (by decide) (w.heap.size + 1) w.heap.size cb 0 v L hl _ (by simp) (by simp; omega) hbl bP.cell hcv HOw (fun k hk => ((unhide HO).lt k hk).2)) belowK_t (belowK_b (by simp; omega)) (Below.refl _ _) (fun _ => rfl)
    (fun pre W => Bd W w.heap.size w.heap.size (joinB pre) ∧ Below w.heap.size w W)
    (fun _ _ _ => False)
    (OwnFrom.and (Own.from (I := fun (pre : List Nm) W => Bd W w.heap.size w.heap.size (joinB pre)) (fun s A B row hs hg hr => Bd.kept hs hg hr) _) (ownFrom_below (Nat.le_refl _) (by simp; omega)))
    (fun _ _ _ _ _ hs _ _ => hs)
    ⟨hbd, hB0⟩
    (fun o => { tmps := #[.pointer (some ⟨cb, 0, none⟩), undef, .string ⟨#[]⟩, .pointer (some ⟨w.heap.size, 0, none⟩), .string o.val.1, .pointer (some ⟨cb, 0, none⟩), .func (.func 126) #[] #[.pointer (some ⟨w.heap.size + 1, 0, none⟩)], .string o.val.1, .agg #[.string o.val.2.bk, .slice (some ⟨o.val.2.g, 0, none⟩) o.val.2.n o.val.2.n, .int .i64 o.val.2.t], undef, undef, undef, undef, undef, undef], defers := [] }) ?assign ?body ?done ?stop
  case assign =>
    intro y o W K hK
    unfold imArgs
    gi_wp2
    exact hK
  case body =>
    rintro y pre o W ⟨hb, hB⟩ hlen
    have HBd := hide hb
    have HBl := hide hB
    have hsz := hB.size
    have hjl := joinB_length pre
    have hol := o.2
    obtain ⟨x, hx⟩ : ∃ x, o.val.1 = x := ⟨_, rfl⟩
    rw [hx] at hol
    obtain ⟨l, hjb⟩ : ∃ l, joinB pre = l := ⟨_, rfl⟩
    rw [hjb] at hb hjl
    have HB2 := hide hb
    clear hb hB
    by_cases h0 : 0 < l.length
    · have Hsn : Hid (joinB (pre ++ [o]) = l ++ [(44 : Nat).toUInt8] ++ x.data.toList) := by rw [joinB_snoc, hjb, if_pos h0, hx]; exact rfl
      clear hjb HBd
      rw [hx]
      gi_wp2_with (first
        | (gi_at_call 86; refine (CallsIn.inRound y ((callsIn_wide (n := _)).2 (oWriteString_calls w.heap.size w.heap.size (l ++ [(44 : Nat).toUInt8]) x _ (.inr (unhide H1).bd) (by omega) (by rw [List.length_append]; simp; omega) (Nat.le_trans hsz (unhide H1).below.size)))).mono ?_; rintro e W2 ⟨rfl, h2⟩; have H2 := hide h2; clear h2)
        | (gi_at_call 87; refine (CallsIn.inRound y ((callsIn_wide (n := _)).2 (oWriteByte_calls w.heap.size w.heap.size l 44 _ (unhide HB2) (by omega) (by omega) hsz))).mono ?_; rintro e W1 ⟨rfl, h1⟩; have H1 := hide h1; clear h1)
        | (gi_at_call 98; refine (CallsIn.inRound y ((callsIn_wide (n := _)).2 (oLen_calls (unhide HB2)))).mono ?_; rintro e w' ⟨rfl, rfl⟩))
      exact ⟨((unhide H1).keeps (unhide HB2).blk _).trans ((unhide H2).keeps (Bd.blk (.inr (unhide H1).bd)) _), (unhide H1).below.trans (unhide H2).below, by rw [unhide Hsn]; exact .inr (unhide H2).bd, ((unhide HBl).trans (unhide H1).below).trans (unhide H2).below⟩
    · have Hsn : Hid (joinB (pre ++ [o]) = l ++ x.data.toList) := by rw [joinB_snoc, hjb, if_neg h0, hx]; exact rfl
      obtain rfl : l = [] := List.length_eq_zero_iff.1 (by omega)
      clear hjb HBd
      rw [hx]
      gi_wp2_with (first
        | (gi_at_call 86; refine (CallsIn.inRound y ((callsIn_wide (n := _)).2 (oWriteString_calls w.heap.size w.heap.size [] x _ (unhide HB2) (by omega) (by simp) hsz))).mono ?_; rintro e W2 ⟨rfl, h2⟩; have H2 := hide h2; clear h2)
        | (gi_at_call 98; refine (CallsIn.inRound y ((callsIn_wide (n := _)).2 (oLen_calls (unhide HB2)))).mono ?_; rintro e w' ⟨rfl, rfl⟩))
      exact ⟨(unhide H2).keeps (unhide HB2).blk _, (unhide H2).below, by rw [unhide Hsn]; exact .inr (unhide H2).bd, (unhide HBl).trans (unhide H2).below⟩
  case done =>
    rintro D ys W hD rfl ⟨hb, hB⟩ hK
    have HBd := hide (Lib.IsBuilderF.of hb)
    have hsz := hB.size
    have hDs : w.heap.size ≤ D := by simp at hD; omega
    gi_wp2_with (gi_at_call 89; refine ((callsIn_wide (n := _)).2 (Tryz.Builder_String_any_k w.heap.size w.heap.size (joinB ys) _ (unhide HBd) hsz)).mono ?_; rintro e W2 ⟨rfl, _, hb2, ho2⟩; have hK2 := ho2 D _ hK (by intro e; cases e; obtain ⟨cs, t, hx⟩ := hb.blk; rw [hx] at hK; cases hK) (by intro c fz e; cases e))
    refine ⟨by simp, .inl ⟨_, _, rfl, run_takeDeferred hK2, ?_⟩⟩
    exact ⟨_, results_tmp rfl _ _ _, rfl, (hB.trans hb2).trans (belowK_b (w := w) (Nat.le_refl _) W2 D _ _ hDs hK2 rfl rfl)⟩
  case stop =>
    rintro D c pre W _ _ h _
    exact h.elim

theorem joinB_names (M : List Nm) (ns : List ByteArray) (h : (Nm.ims M).map Prod.fst = ns) (h1 : ∀ y ∈ ns, 1 ≤ y.size) : (⟨(joinB M).toArray⟩ : ByteArray) = Ov.joinTo ns ns.length := by
  have hl : M.length = ns.length := by rw [← h]; simp
  have hk : ∀ k, k ≤ M.length → joinB (M.take k) = (Ov.joinTo ns k).data.toList ∧ (0 < k → 0 < (joinB (M.take k)).length) := by
    intro k
    induction k with
    | zero => intro _; exact ⟨rfl, fun h => by omega⟩
    | succ k ih =>
      intro hk
      obtain ⟨i1, i2⟩ := ih (by omega)
      have hx : ns.getD k ⟨#[]⟩ = M[k].val.1 := by
        rw [← h]
        simp [Nm.ims, show k < M.length from by omega]
      have hx1 : 1 ≤ (M[k].val.1).size := by
        rw [← hx]
        apply h1
        rw [List.getD_eq_getElem?_getD, List.getElem?_eq_getElem (by omega)]
        exact List.getElem_mem _
      rw [List.take_succ_eq_append_getElem (by omega), joinB_snoc]
      constructor
      · rw [Ov.joinTo, hx]
        by_cases h0 : 0 < k
        · rw [if_pos (i2 h0), if_pos h0, i1]
          simp
        · rw [if_neg h0, i1]
          have : k = 0 := by omega
          subst this
          simp [Ov.joinTo]
      · intro _
        rw [List.length_append]
        have : (M[k].val.1).data.toList.length = (M[k].val.1).size := rfl
        omega
  have := (hk M.length (Nat.le_refl _)).1
  rw [List.take_length, hl] at this
  rw [this]
/-- chainNames, of a chain. -/
theorem ochainNames_calls (l : Ov.Files) (L : Ims) (cb : Nat) (r : Option Nat) (w : World) (h : Ch w cb r l L) (hl : L.length ≤ 8) (h8 : ∀ x ∈ L.map Prod.fst, 1 ≤ x.size ∧ x.size ≤ 8) :
    Calls Tryz.prog 72 #[.pointer (some ⟨cb, 0, none⟩)] w fun e w' => e = .returned (.string (Ov.joinTo (L.map Prod.fst) (L.map Prod.fst).length)) ∧ Below w.heap.size w w' := by
  obtain ⟨M, rfl⟩ := Nm.exists (L := L) (fun x hx => Nat.le_trans (h8 x.1 (List.mem_map_of_mem hx)).2 (by omega))
  obtain ⟨⟨v, h1, h2, _⟩, _⟩ := h
  have := ochainNames_in M v cb w (by simpa using hl) h1 h2
  rw [joinB_names M _ rfl (fun y hy => (h8 y hy).1)] at this
  exact this

end Go.Proofs.YtdcmmmggiokbhaaGreatDoor
