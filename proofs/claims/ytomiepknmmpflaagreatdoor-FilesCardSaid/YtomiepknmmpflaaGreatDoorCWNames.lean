/- The program's chainNames. -/
import Derived.Test.YtomiepknmmpflaaGreatDoorCWIAll
import Derived.Test.YtomiepknmmpflaaGreatDoorCWBuild
import Derived.Test.YtomiepknmmpflaaGreatDoorCWOKeep
namespace Go.Proofs.YtomiepknmmpflaaGreatDoor
open Go.RowKit Go.Joins Go.Shelf

attribute [local go_sem] Oper.semAt_some

/-- The names of a chain, commas between, as bytes. -/
def joinB (pre : List Nm) : List UInt8 := pre.foldl (fun l x => (if 0 < l.length then l ++ [(44 : Nat).toUInt8] else l) ++ x.val.1.data.toList) []
theorem joinB_snoc (pre : List Nm) (x : Nm) : joinB (pre ++ [x]) = (if 0 < (joinB pre).length then joinB pre ++ [(44 : Nat).toUInt8] else joinB pre) ++ x.val.1.data.toList := by simp [joinB]
theorem joinB_length (pre : List Nm) : (joinB pre).length ≤ pre.length * 1001 := by
  have h : ∀ (q : List Nm) (l : List UInt8), (q.foldl (fun l x => (if 0 < l.length then l ++ [(44 : Nat).toUInt8] else l) ++ x.val.1.data.toList) l).length ≤ l.length + q.length * 1001 := by
    intro q
    induction q with
    | nil => intro l; simp
    | cons x q ih =>
      intro l
      have h1 := x.2
      have h2 : x.val.1.data.toList.length = x.val.1.size := rfl
      have h3 := ih ((if 0 < l.length then l ++ [(44 : Nat).toUInt8] else l) ++ x.val.1.data.toList)
      have h4 : ((if 0 < l.length then l ++ [(44 : Nat).toUInt8] else l) ++ x.val.1.data.toList).length ≤ l.length + 1001 := by
        split <;> simp only [List.length_append, List.length_cons, List.length_nil, h2] <;> omega
      simp only [List.foldl_cons, List.length_cons]
      omega
  have := h pre []
  simpa [joinB] using this
theorem Bd.kept {B b : Nat} {l : List UInt8} {W W' : World} {row : Option Nat} (h : Bd W B b l) (hg : W.grownBy W' row) (hr : ∀ r, row = some r → ∃ o : Obj, W.heap[r]? = some o ∧ o.isCells = false) : Bd W' B b l := by
  have hone : ∀ {p : Value}, Lib.BuilderAt 142 5 B b p (Lib.byteCells l) W → Lib.BuilderAt 142 5 B b p (Lib.byteCells l) W' := by
    rintro p ⟨h1, v, h2, h3, h4⟩
    refine ⟨h1, v, ?_, owns_grown h3 hg ?_, h4⟩
    · rw [hg.block b (blk_lt h2) ?_]
      · exact h2
      · intro e
        obtain ⟨o, ho, hc⟩ := hr b e.symm
        rw [h2] at ho; cases ho; cases hc
    · by_cases hv : v.ownBlock = none
      · exact Or.inl hv
      · refine Or.inr fun e => ?_
        obtain ⟨k, hk⟩ := Option.ne_none_iff_exists'.1 hv
        obtain ⟨c, hc⟩ := own_blk h3 hk
        obtain ⟨o, ho, hcc⟩ := hr k (by rw [← e]; exact hk)
        rw [hc] at ho; cases ho; cases hcc
  exact h.elim (fun x => .inl (hone x)) (fun x => .inr (hone x))
theorem BdLeft.keeps {w w' : World} {B b : Nat} {l : List UInt8} (h : BdLeft w B b l w') (hb : ∃ cs t, w.heap[b]? = some (.cells cs t (0, 0))) (n : Nat) : KeepsFrom n w w' :=
  ⟨h.below.size, fun k o _ hk ho => h.others k o hk (fun e => by
    cases e
    obtain ⟨cs, t, hb⟩ := hb
    rw [hb] at hk; cases hk; cases ho) (fun c fz e => by rw [e] at ho; cases ho)⟩
theorem Bd.blk {w : World} {B b : Nat} {l : List UInt8} (h : Bd w B b l) : ∃ cs t, w.heap[b]? = some (.cells cs t (0, 0)) := by
  rcases h with ⟨_, v, h, _⟩ | ⟨_, v, h, _⟩ <;> exact ⟨_, _, h⟩

theorem oLen_calls {w : World} {B b : Nat} {l : List UInt8} (h : Bd w B b l) : Calls Tryz.prog 85 #[.pointer (some ⟨b, 0, none⟩)] w fun e w' => e = .returned (.int .i64 l.length) ∧ w = w' :=
  (Tryz.Builder_Len B b (Lib.byteCells l) w h).mono fun e w' k => ⟨by rw [k.1, Lib.byteCells_length], k.2.symm⟩

set_option maxRecDepth 100000 in
set_option maxHeartbeats 2000000 in
theorem ochainNames_in (L : List Nm) (v : Value) (cb : Nat) (w : World) (hl : L.length ≤ 8) (hblk : w.heap[cb]? = some (.cells #[v] 132 (0, 0))) (hown : OwnsIms w 0 v (Nm.ims L)) :
    Calls Tryz.prog 48 #[.pointer (some ⟨cb, 0, none⟩)] w fun e w' => e = .returned (.string ⟨(joinB L).toArray⟩) ∧ Below w.heap.size w w' := by
  have HB := hide hblk
  have HO := hide hown
  have hbl := blk_lt hblk
  have hc3 : w.cell? ⟨cb, 0, none⟩ = some v := blk_cell hblk rfl
  clear hblk hown
  refine (callsIn_wide (n := 6)).1 ?_
  have hro : Fence.wide.round = none := rfl
  refine callsIn_of_wp_marks Tryz.func48 rfl trivial ?_ hro
  simp only [Tryz.ntmps48, List.size_toArray, List.length_cons, List.length_nil, Nat.reduceAdd, Nat.reduceSub, Array.replicate_succ, Array.replicate_zero, List.push_toArray, List.append_toArray, List.nil_append, List.cons_append]
  have hfA : Fence.wide.fn 84 := trivial
  have hfB : Fence.wide.fn 139 := trivial
  have hfC : Fence.wide.fn 85 := trivial
  have hfD : Fence.wide.fn 86 := trivial
  have hfE : Fence.wide.fn 87 := trivial
  have hfF : Fence.wide.fn 88 := trivial
  gi_wp2_with (gi_at_call 84; refine (oIall_in Fence.wide _ hfA hro _ _).mono ?_; rintro e w' ⟨rfl, rfl⟩)
  have bP := Boxed.new (w.alloc (.cells #[.pointer none, .slice none 0 0] 142)) 78 (.pointer (some ⟨cb, 0, none⟩))
  simp only [World.size_alloc] at bP
  have hB0 := below_alloc2 w (.cells #[.pointer none, .slice none 0 0] 142) (.cells #[.pointer (some ⟨cb, 0, none⟩)] 78)
  have hcv := (hB0.cell (p := ⟨cb, 0, none⟩) hbl).trans hc3
  have HOw := owns_all (unhide HO) hB0
  have hbd : Bd ((w.alloc (.cells #[.pointer none, .slice none 0 0] 142)).alloc (.cells #[.pointer (some ⟨cb, 0, none⟩)] 78)) w.heap.size w.heap.size [] := Bd.kept (Lib.fresh_isBuilder 142 5 w) (World.grownBy_alloc _ _ none) (fun r e => by cases e)
  refine wpIn_rangeFunc_ownG hro (by decide) (gf := 139) (lb := #[.pointer (some ⟨w.heap.size + 1, 0, none⟩)]) rfl hfB (enters_of Tryz.func139 (by kernel_rfl) rfl)
    (oIall_stops Fence.wide _ hfB hro (by decide) (w.heap.size + 1) w.heap.size cb 0 v L hl _ (by simp) (by simp; omega) hbl bP.cell hcv HOw (fun k hk => ((unhide HO).lt k hk).2)) belowK_t (belowK_b (by simp; omega)) (Below.refl _ _) (fun _ => rfl)
    (fun pre W => Bd W w.heap.size w.heap.size (joinB pre) ∧ Below w.heap.size w W)
    (fun _ _ _ => False)
    (OwnFrom.and (Own.from (I := fun (pre : List Nm) W => Bd W w.heap.size w.heap.size (joinB pre)) (fun s A B row hs hg hr => Bd.kept hs hg hr) _) (ownFrom_below (Nat.le_refl _) (by simp; omega)))
    (fun _ _ _ _ _ hs _ _ => hs)
    ⟨hbd, hB0⟩
    (fun o => { tmps := #[.pointer (some ⟨cb, 0, none⟩), undef, .string ⟨#[]⟩, .pointer (some ⟨w.heap.size, 0, none⟩), .string o.val.1, .pointer (some ⟨cb, 0, none⟩), .func (.func 139) #[] #[.pointer (some ⟨w.heap.size + 1, 0, none⟩)], .string o.val.1, .agg #[.string o.val.2.bk, .slice (some ⟨o.val.2.g, 0, none⟩) o.val.2.n o.val.2.n, .int .i64 o.val.2.t], undef, undef, undef, undef, undef, undef], defers := [] }) ?assign ?body ?done ?stop
  case assign =>
    intro y o W K hK
    unfold imArgs
    gi_wp2
    exact hK
  case body =>
    rintro y pre o W ⟨hb, hB⟩ hlen
    have HBd := hide hb
    have HBl := hide hB
    have hsz := hB.size
    have hjl := joinB_length pre
    have hol := o.2
    obtain ⟨x, hx⟩ : ∃ x, o.val.1 = x := ⟨_, rfl⟩
    rw [hx] at hol
    obtain ⟨l, hjb⟩ : ∃ l, joinB pre = l := ⟨_, rfl⟩
    rw [hjb] at hb hjl
    have HB2 := hide hb
    clear hb hB
    by_cases h0 : 0 < l.length
    · have Hsn : Hid (joinB (pre ++ [o]) = l ++ [(44 : Nat).toUInt8] ++ x.data.toList) := by rw [joinB_snoc, hjb, if_pos h0, hx]; exact rfl
      clear hjb HBd
      rw [hx]
      gi_wp2_with (first
        | (gi_at_call 87; refine (CallsIn.inRound y ((callsIn_wide (n := _)).2 (oWriteString_calls w.heap.size w.heap.size (l ++ [(44 : Nat).toUInt8]) x _ (.inr (unhide H1).bd) (by omega) (by rw [List.length_append]; simp; omega) (Nat.le_trans hsz (unhide H1).below.size)))).mono ?_; rintro e W2 ⟨rfl, h2⟩; have H2 := hide h2; clear h2)
        | (gi_at_call 86; refine (CallsIn.inRound y ((callsIn_wide (n := _)).2 (oWriteByte_calls w.heap.size w.heap.size l 44 _ (unhide HB2) (by omega) (by omega) hsz))).mono ?_; rintro e W1 ⟨rfl, h1⟩; have H1 := hide h1; clear h1)
        | (gi_at_call 85; refine (CallsIn.inRound y ((callsIn_wide (n := _)).2 (oLen_calls (unhide HB2)))).mono ?_; rintro e w' ⟨rfl, rfl⟩))
      exact ⟨((unhide H1).keeps (unhide HB2).blk _).trans ((unhide H2).keeps (Bd.blk (.inr (unhide H1).bd)) _), (unhide H1).below.trans (unhide H2).below, by rw [unhide Hsn]; exact .inr (unhide H2).bd, ((unhide HBl).trans (unhide H1).below).trans (unhide H2).below⟩
    · have Hsn : Hid (joinB (pre ++ [o]) = l ++ x.data.toList) := by rw [joinB_snoc, hjb, if_neg h0, hx]; exact rfl
      obtain rfl : l = [] := List.length_eq_zero_iff.1 (by omega)
      clear hjb HBd
      rw [hx]
      gi_wp2_with (first
        | (gi_at_call 87; refine (CallsIn.inRound y ((callsIn_wide (n := _)).2 (oWriteString_calls w.heap.size w.heap.size [] x _ (unhide HB2) (by omega) (by simp) hsz))).mono ?_; rintro e W2 ⟨rfl, h2⟩; have H2 := hide h2; clear h2)
        | (gi_at_call 85; refine (CallsIn.inRound y ((callsIn_wide (n := _)).2 (oLen_calls (unhide HB2)))).mono ?_; rintro e w' ⟨rfl, rfl⟩))
      exact ⟨(unhide H2).keeps (unhide HB2).blk _, (unhide H2).below, by rw [unhide Hsn]; exact .inr (unhide H2).bd, (unhide HBl).trans (unhide H2).below⟩
  case done =>
    rintro D ys W hD rfl ⟨hb, hB⟩ hK
    have HBd := hide (Lib.IsBuilderF.of hb)
    have hsz := hB.size
    have hDs : w.heap.size ≤ D := by simp at hD; omega
    gi_wp2_with (gi_at_call 88; refine ((callsIn_wide (n := _)).2 (Tryz.Builder_String_any_k w.heap.size w.heap.size (joinB ys) _ (unhide HBd) hsz)).mono ?_; rintro e W2 ⟨rfl, _, hb2, ho2⟩; have hK2 := ho2 D _ hK (by intro e; cases e; obtain ⟨cs, t, hx⟩ := hb.blk; rw [hx] at hK; cases hK) (by intro c fz e; cases e))
    refine ⟨by simp, .inl ⟨_, _, rfl, run_takeDeferred hK2, ?_⟩⟩
    exact ⟨_, results_tmp rfl _ _ _, rfl, (hB.trans hb2).trans (belowK_b (w := w) (Nat.le_refl _) W2 D _ _ hDs hK2 rfl rfl)⟩
  case stop =>
    rintro D c pre W _ _ h _
    exact h.elim

theorem joinB_names (M : List Nm) (ns : List ByteArray) (h : (Nm.ims M).map Prod.fst = ns) (h1 : ∀ y ∈ ns, 1 ≤ y.size) : (⟨(joinB M).toArray⟩ : ByteArray) = Ov.joinTo ns ns.length := by
  have hl : M.length = ns.length := by rw [← h]; simp
  have hk : ∀ k, k ≤ M.length → joinB (M.take k) = (Ov.joinTo ns k).data.toList ∧ (0 < k → 0 < (joinB (M.take k)).length) := by
    intro k
    induction k with
    | zero => intro _; exact ⟨rfl, fun h => by omega⟩
    | succ k ih =>
      intro hk
      obtain ⟨i1, i2⟩ := ih (by omega)
      have hx : ns.getD k ⟨#[]⟩ = M[k].val.1 := by
        rw [← h]
        simp [Nm.ims, show k < M.length from by omega]
      have hx1 : 1 ≤ (M[k].val.1).size := by
        rw [← hx]
        apply h1
        rw [List.getD_eq_getElem?_getD, List.getElem?_eq_getElem (by omega)]
        exact List.getElem_mem _
      rw [List.take_succ_eq_append_getElem (by omega), joinB_snoc]
      constructor
      · rw [Ov.joinTo, hx]
        by_cases h0 : 0 < k
        · rw [if_pos (i2 h0), if_pos h0, i1]
          simp
        · rw [if_neg h0, i1]
          have : k = 0 := by omega
          subst this
          simp [Ov.joinTo]
      · intro _
        rw [List.length_append]
        have : (M[k].val.1).data.toList.length = (M[k].val.1).size := rfl
        omega
  have := (hk M.length (Nat.le_refl _)).1
  rw [List.take_length, hl] at this
  rw [this]
/-- chainNames, of a chain. -/
theorem ochainNames_calls (l : Ov.Files) (L : Ims) (cb : Nat) (r : Option Nat) (w : World) (h : Ch w cb r l L) (hl : L.length ≤ 8) (h8 : ∀ x ∈ L.map Prod.fst, 1 ≤ x.size ∧ x.size ≤ 8) :
    Calls Tryz.prog 48 #[.pointer (some ⟨cb, 0, none⟩)] w fun e w' => e = .returned (.string (Ov.joinTo (L.map Prod.fst) (L.map Prod.fst).length)) ∧ Below w.heap.size w w' := by
  obtain ⟨M, rfl⟩ := Nm.exists (L := L) (fun x hx => Nat.le_trans (h8 x.1 (List.mem_map_of_mem hx)).2 (by omega))
  obtain ⟨⟨v, h1, h2, _⟩, _⟩ := h
  have := ochainNames_in M v cb w (by simpa using hl) h1 h2
  rw [joinB_names M _ rfl (fun y hy => (h8 y hy).1)] at this
  exact this

end Go.Proofs.YtomiepknmmpflaaGreatDoor
