/- The program's chainNames. -/
import Derived.Test.YtdcmmmggiokbhaaGreatDoorCWAlong
import Derived.Test.YtdcmmmggiokbhaaGreatDoorCWBuild
import Derived.Test.YtdcmmmggiokbhaaGreatDoorCWOLoad
import Derived.Test.YtdcmmmggiokbhaaGreatDoorCWDownO
namespace Go.Proofs.YtdcmmmggiokbhaaGreatDoor
open Go.RowKit Go.Joins Go.Shelf

attribute [local go_sem] Oper.semAt_some

/-- The names of a chain, commas between, as bytes. -/
def joinB (pre : List Nm) : List UInt8 := pre.foldl (fun l x => (if 0 < l.length then l ++ [(44 : Nat).toUInt8] else l) ++ x.val.1.data.toList) []
theorem joinB_snoc (pre : List Nm) (x : Nm) : joinB (pre ++ [x]) = (if 0 < (joinB pre).length then joinB pre ++ [(44 : Nat).toUInt8] else joinB pre) ++ x.val.1.data.toList := by simp [joinB]
theorem joinB_length (pre : List Nm) : (joinB pre).length ≤ pre.length * 1001 := by
  have h : ∀ (q : List Nm) (l : List UInt8), (q.foldl (fun l x => (if 0 < l.length then l ++ [(44 : Nat).toUInt8] else l) ++ x.val.1.data.toList) l).length ≤ l.length + q.length * 1001 := by
    intro q
    induction q with
    | nil => intro l; simp
    | cons x q ih =>
      intro l
      have h1 := x.2
      have h2 : x.val.1.data.toList.length = x.val.1.size := rfl
      have h3 := ih ((if 0 < l.length then l ++ [(44 : Nat).toUInt8] else l) ++ x.val.1.data.toList)
      have h4 : ((if 0 < l.length then l ++ [(44 : Nat).toUInt8] else l) ++ x.val.1.data.toList).length ≤ l.length + 1001 := by
        split <;> simp only [List.length_append, List.length_cons, List.length_nil, h2] <;> omega
      simp only [List.foldl_cons, List.length_cons]
      omega
  have := h pre []
  simpa [joinB] using this
theorem Bd.kept {B b : Nat} {l : List UInt8} {W W' : World} {row : Option Nat} (h : Bd W B b l) (hg : W.grownBy W' row) (hr : ∀ r, row = some r → ∃ o : Obj, W.heap[r]? = some o ∧ o.isCells = false) : Bd W' B b l := by
  have hone : ∀ {p : Value}, Lib.BuilderAt 149 5 B b p (Lib.byteCells l) W → Lib.BuilderAt 149 5 B b p (Lib.byteCells l) W' := by
    rintro p ⟨h1, v, h2, h3, h4⟩
    refine ⟨h1, v, ?_, owns_grown h3 hg ?_, h4⟩
    · rw [hg.block b (blk_lt h2) ?_]
      · exact h2
      · intro e
        obtain ⟨o, ho, hc⟩ := hr b e.symm
        rw [h2] at ho; cases ho; cases hc
    · by_cases hv : v.ownBlock = none
      · exact Or.inl hv
      · refine Or.inr fun e => ?_
        obtain ⟨k, hk⟩ := Option.ne_none_iff_exists'.1 hv
        obtain ⟨c, hc⟩ := own_blk h3 hk
        obtain ⟨o, ho, hcc⟩ := hr k (by rw [← e]; exact hk)
        rw [hc] at ho; cases ho; cases hcc
  exact h.elim (fun x => .inl (hone x)) (fun x => .inr (hone x))
theorem BdLeft.keeps {w w' : World} {B b : Nat} {l : List UInt8} (h : BdLeft w B b l w') (hb : ∃ cs t, w.heap[b]? = some (.cells cs t (0, 0))) (n : Nat) : KeepsFrom n w w' :=
  ⟨h.below.size, fun k o _ hk ho => h.others k o hk (fun e => by
    cases e
    obtain ⟨cs, t, hb⟩ := hb
    rw [hb] at hk; cases hk; cases ho) (fun c fz e => by rw [e] at ho; cases ho)⟩
theorem Bd.blk {w : World} {B b : Nat} {l : List UInt8} (h : Bd w B b l) : ∃ cs t, w.heap[b]? = some (.cells cs t (0, 0)) := by
  rcases h with ⟨_, v, h, _⟩ | ⟨_, v, h, _⟩ <;> exact ⟨_, _, h⟩

theorem oLen_calls {w : World} {B b : Nat} {l : List UInt8} (h : Bd w B b l) : Calls Tryz.prog 98 #[.pointer (some ⟨b, 0, none⟩)] w fun e w' => e = .returned (.int .i64 l.length) ∧ w = w' :=
  (Tryz.Builder_Len B b (Lib.byteCells l) w h).mono fun e w' k => ⟨by rw [k.1, Lib.byteCells_length], k.2.symm⟩

set_option maxRecDepth 100000 in
set_option maxHeartbeats 2000000 in
theorem ochainNames_in (L : List Nm) (v : Value) (cb : Nat) (w : World) (hl : L.length ≤ 8) (hblk : w.heap[cb]? = some (.cells #[v] 160 (0, 0))) (hown : OwnsIms w 0 v (Nm.ims L)) :
    Calls Tryz.prog 72 #[.pointer (some ⟨cb, 0, none⟩)] w fun e w' => e = .returned (.string ⟨(joinB L).toArray⟩) ∧ Below w.heap.size w w' := by
  have HB := hide hblk
  have HO := hide hown
  have hbl := blk_lt hblk
  have hc3 : w.cell? ⟨cb, 0, none⟩ = some v := blk_cell hblk rfl
  clear hblk hown
  refine (callsIn_wide (n := 6)).1 ?_
  have hro : Fence.wide.round = none := rfl
  refine callsIn_of_wp_marks Tryz.func72 rfl trivial ?_ hro
  simp only [Tryz.ntmps72, List.size_toArray, List.length_cons, List.length_nil, Nat.reduceAdd, Nat.reduceSub, Array.replicate_succ, Array.replicate_zero, List.push_toArray, List.append_toArray, List.nil_append, List.cons_append]
  have hfA : Fence.wide.fn 97 := trivial
  have hfB : Fence.wide.fn 126 := trivial
  have hfC : Fence.wide.fn 98 := trivial
  have hfD : Fence.wide.fn 87 := trivial
  have hfE : Fence.wide.fn 86 := trivial
  have hfF : Fence.wide.fn 89 := trivial
  gi_wp2_with (gi_at_call 97; refine (oIall_in Fence.wide _ hfA hro _ _).mono ?_; rintro e w' ⟨rfl, rfl⟩)
  have bP := Boxed.new (w.alloc (.cells #[.pointer none, .slice none 0 0] 149)) 118 (.pointer (some ⟨cb, 0, none⟩))
  simp only [World.size_alloc] at bP
  have hB0 := below_alloc2 w (.cells #[.pointer none, .slice none 0 0] 149) (.cells #[.pointer (some ⟨cb, 0, none⟩)] 118)
  have hcv := (hB0.cell (p := ⟨cb, 0, none⟩) hbl).trans hc3
  have HOw := owns_all (unhide HO) hB0
  have hbd : Bd ((w.alloc (.cells #[.pointer none, .slice none 0 0] 149)).alloc (.cells #[.pointer (some ⟨cb, 0, none⟩)] 118)) w.heap.size w.heap.size [] := Bd.kept (Lib.fresh_isBuilder 149 5 w) (World.grownBy_alloc _ _ none) (fun r e => by cases e)
  refine wpIn_rangeFunc_ownG hro (by decide) (gf := 126) (lb := #[.pointer (some ⟨w.heap.size + 1, 0, none⟩)]) rfl hfB (enters_of Tryz.func126 (by kernel_rfl) rfl)
    (oIall_stops Fence.wide _ hfB hro (by decide) (w.heap.size + 1) w.heap.size cb 0 v L hl _ (by simp) (by simp; omega) hbl bP.cell hcv HOw (fun k hk => ((unhide HO).lt k hk).2)) belowK_t (belowK_b (by simp; omega)) (Below.refl _ _) (fun _ => rfl)
    (fun pre W => Bd W w.heap.size w.heap.size (joinB pre) ∧ Below w.heap.size w W)
    (fun _ _ _ => False)
    (OwnFrom.and (Own.from (I := fun (pre : List Nm) W => Bd W w.heap.size w.heap.size (joinB pre)) (fun s A B row hs hg hr => Bd.kept hs hg hr) _) (ownFrom_below (Nat.le_refl _) (by simp; omega)))
    (fun _ _ _ _ _ hs _ _ => hs)
    ⟨hbd, hB0⟩
    (fun o => { tmps := #[.pointer (some ⟨cb, 0, none⟩), undef, .string ⟨#[]⟩, .pointer (some ⟨w.heap.size, 0, none⟩), .string o.val.1, .pointer (some ⟨cb, 0, none⟩), .func (.func 126) #[] #[.pointer (some ⟨w.heap.size + 1, 0, none⟩)], .string o.val.1, .agg #[.string o.val.2.bk, .slice (some ⟨o.val.2.g, 0, none⟩) o.val.2.n o.val.2.n, .int .i64 o.val.2.t], undef, undef, undef, undef, undef, undef], defers := [] }) ?assign ?body ?done ?stop
  case assign =>
    intro y o W K hK
    unfold imArgs
    gi_wp2
    exact hK
  case body =>
    rintro y pre o W ⟨hb, hB⟩ hlen
    have HBd := hide hb
    have HBl := hide hB
    have hsz := hB.size
    have hjl := joinB_length pre
    have hol := o.2
    obtain ⟨x, hx⟩ : ∃ x, o.val.1 = x := ⟨_, rfl⟩
    rw [hx] at hol
    obtain ⟨l, hjb⟩ : ∃ l, joinB pre = l := ⟨_, rfl⟩
    rw [hjb] at hb hjl
    have HB2 := hide hb
    clear hb hB
    by_cases h0 : 0 < l.length
    · have Hsn : Hid (joinB (pre ++ [o]) = l ++ [(44 : Nat).toUInt8] ++ x.data.toList) := by rw [joinB_snoc, hjb, if_pos h0, hx]; exact rfl
      clear hjb HBd
      rw [hx]
      gi_wp2_with (first
        | (gi_at_call 86; refine (CallsIn.inRound y ((callsIn_wide (n := _)).2 (oWriteString_calls w.heap.size w.heap.size (l ++ [(44 : Nat).toUInt8]) x _ (.inr (unhide H1).bd) (by omega) (by rw [List.length_append]; simp; omega) (Nat.le_trans hsz (unhide H1).below.size)))).mono ?_; rintro e W2 ⟨rfl, h2⟩; have H2 := hide h2; clear h2)
        | (gi_at_call 87; refine (CallsIn.inRound y ((callsIn_wide (n := _)).2 (oWriteByte_calls w.heap.size w.heap.size l 44 _ (unhide HB2) (by omega) (by omega) hsz))).mono ?_; rintro e W1 ⟨rfl, h1⟩; have H1 := hide h1; clear h1)
        | (gi_at_call 98; refine (CallsIn.inRound y ((callsIn_wide (n := _)).2 (oLen_calls (unhide HB2)))).mono ?_; rintro e w' ⟨rfl, rfl⟩))
      exact ⟨((unhide H1).keeps (unhide HB2).blk _).trans ((unhide H2).keeps (Bd.blk (.inr (unhide H1).bd)) _), (unhide H1).below.trans (unhide H2).below, by rw [unhide Hsn]; exact .inr (unhide H2).bd, ((unhide HBl).trans (unhide H1).below).trans (unhide H2).below⟩
    · have Hsn : Hid (joinB (pre ++ [o]) = l ++ x.data.toList) := by rw [joinB_snoc, hjb, if_neg h0, hx]; exact rfl
      obtain rfl : l = [] := List.length_eq_zero_iff.1 (by omega)
      clear hjb HBd
      rw [hx]
      gi_wp2_with (first
        | (gi_at_call 86; refine (CallsIn.inRound y ((callsIn_wide (n := _)).2 (oWriteString_calls w.heap.size w.heap.size [] x _ (unhide HB2) (by omega) (by simp) hsz))).mono ?_; rintro e W2 ⟨rfl, h2⟩; have H2 := hide h2; clear h2)
        | (gi_at_call 98; refine (CallsIn.inRound y ((callsIn_wide (n := _)).2 (oLen_calls (unhide HB2)))).mono ?_; rintro e w' ⟨rfl, rfl⟩))
      exact ⟨(unhide H2).keeps (unhide HB2).blk _, (unhide H2).below, by rw [unhide Hsn]; exact .inr (unhide H2).bd, (unhide HBl).trans (unhide H2).below⟩
  case done =>
    rintro D ys W hD rfl ⟨hb, hB⟩ hK
    have HBd := hide (Lib.IsBuilderF.of hb)
    have hsz := hB.size
    have hDs : w.heap.size ≤ D := by simp at hD; omega
    gi_wp2_with (gi_at_call 89; refine ((callsIn_wide (n := _)).2 (Tryz.Builder_String_any_k w.heap.size w.heap.size (joinB ys) _ (unhide HBd) hsz)).mono ?_; rintro e W2 ⟨rfl, _, hb2, ho2⟩; have hK2 := ho2 D _ hK (by intro e; cases e; obtain ⟨cs, t, hx⟩ := hb.blk; rw [hx] at hK; cases hK) (by intro c fz e; cases e))
    refine ⟨by simp, .inl ⟨_, _, rfl, run_takeDeferred hK2, ?_⟩⟩
    exact ⟨_, results_tmp rfl _ _ _, rfl, (hB.trans hb2).trans (belowK_b (w := w) (Nat.le_refl _) W2 D _ _ hDs hK2 rfl rfl)⟩
  case stop =>
    rintro D c pre W _ _ h _
    exact h.elim

theorem joinB_names (M : List Nm) (ns : List ByteArray) (h : (Nm.ims M).map Prod.fst = ns) (h1 : ∀ y ∈ ns, 1 ≤ y.size) : (⟨(joinB M).toArray⟩ : ByteArray) = Ov.joinTo ns ns.length := by
  have hl : M.length = ns.length := by rw [← h]; simp
  have hk : ∀ k, k ≤ M.length → joinB (M.take k) = (Ov.joinTo ns k).data.toList ∧ (0 < k → 0 < (joinB (M.take k)).length) := by
    intro k
    induction k with
    | zero => intro _; exact ⟨rfl, fun h => by omega⟩
    | succ k ih =>
      intro hk
      obtain ⟨i1, i2⟩ := ih (by omega)
      have hx : ns.getD k ⟨#[]⟩ = M[k].val.1 := by
        rw [← h]
        simp [Nm.ims, show k < M.length from by omega]
      have hx1 : 1 ≤ (M[k].val.1).size := by
        rw [← hx]
        apply h1
        rw [List.getD_eq_getElem?_getD, List.getElem?_eq_getElem (by omega)]
        exact List.getElem_mem _
      rw [List.take_succ_eq_append_getElem (by omega), joinB_snoc]
      constructor
      · rw [Ov.joinTo, hx]
        by_cases h0 : 0 < k
        · rw [if_pos (i2 h0), if_pos h0, i1]
          simp
        · rw [if_neg h0, i1]
          have : k = 0 := by omega
          subst this
          simp [Ov.joinTo]
      · intro _
        rw [List.length_append]
        have : (M[k].val.1).data.toList.length = (M[k].val.1).size := rfl
        omega
  have := (hk M.length (Nat.le_refl _)).1
  rw [List.take_length, hl] at this
  rw [this]
/-- chainNames, of a chain. -/
theorem ochainNames_calls (l : Ov.Files) (L : Ims) (cb : Nat) (r : Option Nat) (w : World) (h : Ch w cb r l L) (hl : L.length ≤ 8) (h8 : ∀ x ∈ L.map Prod.fst, 1 ≤ x.size ∧ x.size ≤ 8) :
    Calls Tryz.prog 72 #[.pointer (some ⟨cb, 0, none⟩)] w fun e w' => e = .returned (.string (Ov.joinTo (L.map Prod.fst) (L.map Prod.fst).length)) ∧ Below w.heap.size w w' := by
  obtain ⟨M, rfl⟩ := Nm.exists (L := L) (fun x hx => Nat.le_trans (h8 x.1 (List.mem_map_of_mem hx)).2 (by omega))
  obtain ⟨⟨v, h1, h2, _⟩, _⟩ := h
  have := ochainNames_in M v cb w (by simpa using hl) h1 h2
  rw [joinB_names M _ rfl (fun y hy => (h8 y hy).1)] at this
  exact this

end Go.Proofs.YtdcmmmggiokbhaaGreatDoor

/- The program's openDown, whole; openChain. -/
namespace Go.Proofs.YtdcmmmggiokbhaaGreatDoor
open Go.RowKit Go.Joins

theorem oopenDown_calls (b B cb : Nat) (r0 : Option Nat) (room : Nat) (l : Ov.Files) (s0 s1 s2 s3 : Addr) (f : Nat) : ∀ (x : ByteArray) (w : World) (r : Option Nat) (L : Ims), DownAt w b B cb r0 r room l L s0 s1 s2 s3 → Ov.place l x < l.length → x ∉ L.map Prod.fst → l.length ≤ L.length + f →
    ((Ov.down l f (L.map Prod.fst) x).2.1 = 0 → Calls Tryz.prog 94 #[.pointer (some ⟨b, 0, none⟩), .string x, .pointer (some ⟨cb, 0, none⟩)] w (DownYes l (Ov.down l f (L.map Prod.fst) x).1 cb r w)) ∧
    ((Ov.down l f (L.map Prod.fst) x).2.1 ≠ 0 → Calls Tryz.prog 94 #[.pointer (some ⟨b, 0, none⟩), .string x, .pointer (some ⟨cb, 0, none⟩)] w (DownNo s0 s1 s2 s3 (Ov.down l f (L.map Prod.fst) x).2.1 (Ov.down l f (L.map Prod.fst) x).2.2 cb r w)) := by
  induction f with
  | zero =>
    intro x w r L h hp hx hf
    have := (h.met.snoc hx hp).length
    simp at this
    omega
  | succ f ih =>
    intro x w r L h hp hx hf
    unfold Ov.down
    by_cases hi : Ov.isImage (Ov.fileAt l (Ov.place l x))
    · have hib := (Ov.imageB_iff _).2 hi
      rw [if_neg (by rw [hib]; decide)]
      by_cases hk : (Ov.backing (Ov.fileAt l (Ov.place l x))).size = 0
      · rw [if_pos hk]
        exact ⟨fun _ => odown_last x w b B cb r0 r room l L s0 s1 s2 s3 h hp hi hx hk, fun k => absurd rfl k⟩
      · rw [if_neg hk]
        by_cases hm : Ov.metB (L.map Prod.fst ++ [x]) (Ov.backing (Ov.fileAt l (Ov.place l x))) = true
        · rw [if_pos hm]
          exact ⟨fun k => absurd k (by simp), fun _ => odown_cycle x w b B cb r0 r room l L s0 s1 s2 s3 h hp hi hx hk hm⟩
        · rw [if_neg hm]
          have hm' : Ov.metB (L.map Prod.fst ++ [x]) (Ov.backing (Ov.fileAt l (Ov.place l x))) = false := by simpa using hm
          by_cases hq : Ov.place l (Ov.backing (Ov.fileAt l (Ov.place l x))) < l.length
          · rw [if_neg (by simpa using hq)]
            have hh : Ov.has l (Ov.backing (Ov.fileAt l (Ov.place l x))) = true := by unfold Ov.has; exact decide_eq_true hq
            have hnot : Ov.backing (Ov.fileAt l (Ov.place l x)) ∉ L.map Prod.fst ++ [x] := fun k => hm (Ov.metB_iff.2 k)
            have hlen : ∀ L' : Ims, L'.map Prod.fst = L.map Prod.fst ++ [x] → L'.length = L.length + 1 := fun L' e => by
              have := congrArg List.length e
              simpa using this
            refine ⟨fun k => odown_on x w b B cb r0 r room l L s0 s1 s2 s3 h hp hi hx hk hm' hh _ fun r' w' L' h' e => ?_, fun k => odown_up x w b B cb r0 r room l L s0 s1 s2 s3 h hp hi hx hk hm' hh _ _ fun r' w' L' h' e => ?_⟩
            · have := (ih (Ov.backing (Ov.fileAt l (Ov.place l x))) w' r' L' h' hq (by rw [e]; exact hnot) (by rw [hlen L' e]; omega)).1
              rw [e] at this
              exact this k
            · have := (ih (Ov.backing (Ov.fileAt l (Ov.place l x))) w' r' L' h' hq (by rw [e]; exact hnot) (by rw [hlen L' e]; omega)).2
              rw [e] at this
              exact this k
          · rw [if_pos (by simpa using hq)]
            have hh : Ov.has l (Ov.backing (Ov.fileAt l (Ov.place l x))) = false := by unfold Ov.has; exact decide_eq_false hq
            exact ⟨fun k => absurd k (by simp), fun _ => odown_missing x w b B cb r0 r room l L s0 s1 s2 s3 h hp hi hx hk hm' hh⟩
    · have hib : Ov.imageB (Ov.fileAt l (Ov.place l x)) = false := by
        rw [← Bool.not_eq_true]
        exact fun k => hi ((Ov.imageB_iff _).1 k)
      rw [if_pos hib]
      exact ⟨fun k => absurd k (by simp), fun _ => odown_bad x w b B cb r0 r room l L s0 s1 s2 s3 h hp hi⟩

/-- What openChain answers, and leaves. -/
structure ChainYes (l : Ov.Files) (ns : List ByteArray) (w : World) (e : Ending) (w' : World) : Prop where
  below : Below w.heap.size w w'
  ret : ∃ cb r L, e = .returned (.tuple #[.pointer (some ⟨cb, 0, none⟩), .nilIface]) ∧ w.heap.size ≤ cb ∧ Ch w' cb r l L ∧ L.map Prod.fst = ns ∧ L.length ≤ 8 ∧ (∀ k, r = some k → w.heap.size ≤ k)
structure ChainNo (s0 s1 s2 s3 : Addr) (n : Int) (wh : Option ByteArray) (w : World) (e : Ending) (w' : World) : Prop where
  below : Below w.heap.size w w'
  ret : ∃ b d t a, e = .returned (.tuple #[.pointer none, .iface t (.pointer (some a))]) ∧ Er w' b d wh t a ∧ Code s0 s1 s2 s3 b n

theorem ch_new (w : World) (l : Ov.Files) : Ch (w.alloc (.cells #[.slice none 0 0] 160)) w.heap.size none l [] :=
  ⟨⟨.slice none 0 0, blk_new _ _, World.ownsRow_nil _ _ _ _, rfl⟩, fun q hq => by cases hq⟩
/-- What stands when openChain is called. -/
structure ChainAt (w : World) (b B : Nat) (r0 : Option Nat) (room : Nat) (l : Ov.Files) (s0 s1 s2 s3 : Addr) : Prop where
  ov : OvAt 1 w b r0 room l
  li : Ov.LI room l
  se : Sents w B s0 s1 s2 s3
theorem ChainAt.kept {w w' : World} {b B : Nat} {r0 : Option Nat} {room : Nat} {l : Ov.Files} {s0 s1 s2 s3 : Addr} (h : ChainAt w b B r0 room l s0 s1 s2 s3) (hb : Below w.heap.size w w') : ChainAt w' b B r0 room l s0 s1 s2 s3 := ⟨h.ov.kept hb, h.li, h.se.keptAll hb⟩
theorem ChainAt.down {w : World} {b B : Nat} {r0 : Option Nat} {room : Nat} {l : Ov.Files} {s0 s1 s2 s3 : Addr} (h : ChainAt w b B r0 room l s0 s1 s2 s3) :
    DownAt (w.alloc (.cells #[.slice none 0 0] 160)) b B w.heap.size r0 none room l [] s0 s1 s2 s3 := by
  obtain ⟨v, o1, o2, o3, o4⟩ := h.ov
  exact ⟨h.ov.kept (below_alloc1 w _), h.li, h.se.keptAll (below_alloc1 w _), ch_new w l, ⟨List.nodup_nil, fun x hx => by cases hx⟩, h.se.size, blk_lt o1, fun k hk => by
    obtain ⟨c, hc⟩ := own_blk o2 (o4.trans hk)
    exact blk_lt hc, fun k hk => by cases hk⟩

set_option maxRecDepth 100000 in
set_option maxHeartbeats 1000000 in
theorem oopenChain_yes (x : ByteArray) (w : World) (b B : Nat) (r0 : Option Nat) (room : Nat) (l : Ov.Files) (s0 s1 s2 s3 : Addr) (h : ChainAt w b B r0 room l s0 s1 s2 s3) (hp : Ov.place l x < l.length) (hok : (Ov.downOf l x).2.1 = 0) :
    Calls Tryz.prog 69 #[.pointer (some ⟨b, 0, none⟩), .string x] w (ChainYes l (Ov.downOf l x).1 w) := by
  obtain ⟨v, o1, o2, _, _⟩ := id h.ov
  have c3 : w.cell? ⟨b, 3, none⟩ = some v := blk_cell o1 rfl
  have hbl := blk_lt o1
  have hl8 := h.li.len
  have hh : Ov.has l x = true := by unfold Ov.has; exact decide_eq_true hp
  have HO := hide o2
  have HH := hide h
  have HP := hide hp
  have HK := hide hok
  clear h o1 o2 hp hok
  go_enter Tryz.func69, Tryz.ntmps69
  go_wp2_with (first
    | (go_at_call 94; refine ((oopenDown_calls b B w1.heap.size r0 room l s0 s1 s2 s3 l.length x _ none [] (unhide HH1).down (unhide HP) (by simp) (by simp)).1 (unhide HK)).mono ?_; rintro e w2 hd2; obtain ⟨rfl, f2, L2, r2, h2, n2, q2⟩ := hd2)
    | (go_at_call 64; refine (oShas_calls l v x b 3 0 _ hl8 (unhide HO) c3 hbl).mono ?_; rintro e w1 ⟨rfl, hb1⟩; have HH1 := hide ((unhide HH).kept hb1)))
  go_ret2
  have hf2 : Below w1.heap.size w1 w2 := (below_alloc1 w1 _).trans (f2.below (fun k hk => by cases hk) (by simp))
  refine ⟨hb1.trans (hf2.mono hb1.size), _, r2, L2, rfl, hb1.size, h2, n2, ?_, fun k hk => ?_⟩
  · have := Ov.down_length (l := l) l.length (seen := []) (x := x)
    have e := congrArg List.length n2
    rw [List.length_map] at e
    rw [e]
    exact Nat.le_trans this (by simpa using hl8)
  · have z1 := hb1.size
    rcases q2 with q | q
    · rw [q] at hk; cases hk
    · have := q k hk
      simp at this; omega

set_option maxRecDepth 100000 in
set_option maxHeartbeats 1000000 in
theorem oopenChain_down (x : ByteArray) (w : World) (b B : Nat) (r0 : Option Nat) (room : Nat) (l : Ov.Files) (s0 s1 s2 s3 : Addr) (h : ChainAt w b B r0 room l s0 s1 s2 s3) (hp : Ov.place l x < l.length) (hok : (Ov.downOf l x).2.1 ≠ 0) :
    Calls Tryz.prog 69 #[.pointer (some ⟨b, 0, none⟩), .string x] w (ChainNo s0 s1 s2 s3 (Ov.downOf l x).2.1 (some (Ov.downOf l x).2.2) w) := by
  obtain ⟨v, o1, o2, _, _⟩ := id h.ov
  have c3 : w.cell? ⟨b, 3, none⟩ = some v := blk_cell o1 rfl
  have hbl := blk_lt o1
  have hl8 := h.li.len
  have hh : Ov.has l x = true := by unfold Ov.has; exact decide_eq_true hp
  have HO := hide o2
  have HH := hide h
  have HP := hide hp
  have HK := hide hok
  clear h o1 o2 hp hok
  go_enter Tryz.func69, Tryz.ntmps69
  go_wp2_with (first
    | (go_at_call 94; refine ((oopenDown_calls b B w1.heap.size r0 room l s0 s1 s2 s3 l.length x _ none [] (unhide HH1).down (unhide HP) (by simp) (by simp)).2 (unhide HK)).mono ?_; rintro e w2 hd2; obtain ⟨⟨eb, ed, et, ea, rfl, he2, hc2⟩, f2⟩ := hd2; have HE2 := hide he2; clear he2)
    | (go_at_call 64; refine (oShas_calls l v x b 3 0 _ hl8 (unhide HO) c3 hbl).mono ?_; rintro e w1 ⟨rfl, hb1⟩; have HH1 := hide ((unhide HH).kept hb1)))
  go_ret2
  have hf2 : Below w1.heap.size w1 w2 := (below_alloc1 w1 _).trans (f2.below (fun k hk => by cases hk) (by simp))
  exact ⟨hb1.trans (hf2.mono hb1.size), _, _, _, _, rfl, unhide HE2, hc2⟩

set_option maxRecDepth 100000 in
set_option maxHeartbeats 1000000 in
theorem oopenChain_none (x : ByteArray) (w : World) (b B : Nat) (r0 : Option Nat) (room : Nat) (l : Ov.Files) (s0 s1 s2 s3 : Addr) (h : ChainAt w b B r0 room l s0 s1 s2 s3) (hp : ¬ Ov.place l x < l.length) :
    Calls Tryz.prog 69 #[.pointer (some ⟨b, 0, none⟩), .string x] w (ChainNo s0 s1 s2 s3 4 none w) := by
  obtain ⟨v, o1, o2, _, _⟩ := id h.ov
  have c3 : w.cell? ⟨b, 3, none⟩ = some v := blk_cell o1 rfl
  have hbl := blk_lt o1
  have hl8 := h.li.len
  have hh : Ov.has l x = false := by unfold Ov.has; exact decide_eq_false hp
  have HO := hide o2
  have HH := hide h
  clear h o1 o2 hp
  go_enter Tryz.func69, Tryz.ntmps69
  go_wp2_with (go_at_call 64; refine (oShas_calls l v x b 3 0 _ hl8 (unhide HO) c3 hbl).mono ?_; rintro e w1 ⟨rfl, hb1⟩; have g0 := ((unhide HH).kept hb1).se.g0)
  go_region
  all_goals (go_wp2; go_ret2; exact ⟨hb1.drew, s0, 0, _, _, rfl, .bare, .none⟩)

end Go.Proofs.YtdcmmmggiokbhaaGreatDoor

/- The program's Chain. -/
namespace Go.Proofs.YtdcmmmggiokbhaaGreatDoor
open Go.RowKit Go.Joins

namespace Ov
theorem down_ends {l : Files} (f : Nat) : ∀ {seen : List ByteArray} {x : ByteArray}, Met l seen → x ∉ seen → place l x < l.length → l.length ≤ seen.length + f →
    ((down l f seen x).2.1 = 0 → (down l f seen x).2.2 = ⟨#[]⟩) ∧ ((down l f seen x).2.1 ≠ 0 → (down l f seen x).1 = [] ∧ place l (down l f seen x).2.2 < l.length) := by
  induction f with
  | zero =>
    intro seen x h hx hp hf
    have := (h.snoc hx hp).length
    simp at this
    omega
  | succ f ih =>
    intro seen x h hx hp hf
    unfold down
    split
    · exact ⟨fun k => absurd k (by simp), fun _ => ⟨rfl, hp⟩⟩
    · split
      · exact ⟨fun _ => rfl, fun k => absurd rfl k⟩
      · split
        · exact ⟨fun k => absurd k (by simp), fun _ => ⟨rfl, hp⟩⟩
        · split
          · exact ⟨fun k => absurd k (by simp), fun _ => ⟨rfl, hp⟩⟩
          · rename_i _ _ hm hq
            exact ih (h.snoc hx hp) (fun k => hm (metB_iff.2 k)) (by simpa using hq) (by simp; omega)
theorem downOf_ends {l : Files} {x : ByteArray} (hp : place l x < l.length) : ((downOf l x).2.1 = 0 → (downOf l x).2.2 = ⟨#[]⟩) ∧ ((downOf l x).2.1 ≠ 0 → (downOf l x).1 = [] ∧ place l (downOf l x).2.2 < l.length) :=
  down_ends l.length (seen := []) ⟨List.nodup_nil, fun y hy => by cases hy⟩ (by simp) hp (by simp)
theorem nameB_pos {x : ByteArray} (h : nameB x = true) : 1 ≤ x.size := by
  unfold nameB isName at h
  simp only [Bool.and_eq_true, decide_eq_true_eq] at h
  simpa using h.1
theorem LI.name_pos {room : Nat} {l : Files} (h : LI room l) {x : ByteArray} (hx : place l x < l.length) : 1 ≤ x.size := by
  have := h.names _ hx
  rw [place_name hx] at this
  exact nameB_pos this
end Ov

open Go.MuLone in
set_option maxRecDepth 100000 in
set_option maxHeartbeats 1000000 in
theorem oChain_calls (l : Ov.Files) (x : ByteArray) (b B : Nat) (r : Option Nat) (room : Nat) (s0 s1 s2 s3 : Addr) (w : World) (hi : Ov.LI room l) (h : OvRep w b r room l) (hs : Sents w B s0 s1 s2 s3) (hB : B ≤ b) (hg4 : w.cell? ⟨4, 0, none⟩ = some (.iface 224 (.agg #[.pointer (some ⟨8, 120, none⟩)]))) :
    Calls Tryz.prog 38 #[.pointer (some ⟨b, 0, none⟩), .string x] w fun e w' => e = .returned (.tuple #[.string (Ov.chainF l x).1, .string (Ov.chainF l x).2.1, .int .i64 (Ov.chainF l x).2.2]) ∧ OvLeft w b r room l w' := by
  obtain ⟨v, h1, h2, h3, h4⟩ := id h
  have HR := hide h
  have c0 : w.cell? ⟨b, 0, none⟩ = some (.int .i32 0) := blk_cell h1 rfl
  have f0 := blk_frozen h1 0
  have hbl := blk_lt h1
  have HB := hide (blk_set_same (i := 0) h1 (.int .i32 1))
  have HC : Hid (ChainAt (w.setCell ⟨b, 0, none⟩ (.int .i32 1)) b B r room l s0 s1 s2 s3) := ⟨h.lock, hi, hs.kept ((Below.refl B w).setCell (p := ⟨b, 0, none⟩) hB (.int .i32 1))⟩
  have HG : Hid ((w.setCell ⟨b, 0, none⟩ (.int .i32 1)).cell? ⟨4, 0, none⟩ = some (.iface 224 (.agg #[.pointer (some ⟨8, 120, none⟩)]))) := (((Below.refl B w).setCell (p := ⟨b, 0, none⟩) hB (.int .i32 1)).cell (p := ⟨4, 0, none⟩) hs.l).trans hg4
  have hl4 := hs.l
  have hsz := hs.size
  clear h h1 h2 h3 h4 hs hg4
  by_cases hp : Ov.place l x < l.length
  · obtain ⟨e0, e1⟩ := Ov.downOf_ends hp
    have HP := hide hp
    by_cases hk : (Ov.downOf l x).2.1 = 0
    · have HD : Hid (Ov.chainF l x = (Ov.joinTo (Ov.downOf l x).1 (Ov.downOf l x).1.length, ⟨#[]⟩, 0)) := by unfold Ov.chainF; rw [if_pos hp, hk, e0 hk]; exact rfl
      have HK := hide hk
      have H8 : Hid (∀ y ∈ (Ov.downOf l x).1, 1 ≤ y.size ∧ y.size ≤ 8) := fun y hy => by
        have := Ov.down_here l.length (seen := []) (by simp) hp y hy
        exact ⟨hi.name_pos this, hi.name_size this⟩
      clear hp hk e0 e1 hi
      go_enter_defers Tryz.func38, Tryz.ntmps38
      go_wp2_with (first
        | (go_at_call 72; refine (ochainNames_calls l L cb r2 _ hch hL8 (by rw [hns]; exact unhide H8)).mono ?_; rw [hns]; rintro e w3 ⟨rfl, hb3⟩)
        | (go_at_call 69; refine (oopenChain_yes x _ b B r room l s0 s1 s2 s3 (unhide HC) (unhide HP) (unhide HK)).mono ?_; rintro e w2 ⟨hb2, cb, r2, L, rfl, hcb, hch, hns, hL8, hr2⟩)
        | (go_at_call 42; refine (lock_free muLib ⟨b, 0, none⟩ _ c0 f0).mono ?_; rintro e w1 ⟨rfl, rfl⟩))
      have hb5 := hb2.trans (hb3.mono hb2.size)
      refine leaves_cons (f := 43) (args := #[.pointer (some ⟨b, 0, none⟩)]) (by simp) (by simp [go_sem]) ?_
      refine (unlock_deferred muLib ⟨b, 0, none⟩ .returning _ ?_ ?_).mono ?_
      · exact (hb5.cell (p := ⟨b, 0, none⟩) (by simpa using hbl)).trans (blk_cell (unhide HB) rfl)
      · exact (hb5.frozen (p := ⟨b, 0, none⟩) (by simpa using hbl)).trans (blk_frozen (unhide HB) 0)
      rintro e u' w'' ⟨rfl, rfl, rfl⟩
      refine ⟨_, results_tmp3 rfl _ _ _, ?_, OvLeft.quiet (unhide HR) hb5⟩
      rw [unhide HD]; rfl
    · have HD : Hid (Ov.chainF l x = (⟨#[]⟩, (Ov.downOf l x).2.2, (Ov.downOf l x).2.1)) := by unfold Ov.chainF; rw [if_pos hp, (e1 hk).1]; exact rfl
      have HK := hide hk
      have H8 : Hid ((whOf (some (Ov.downOf l x).2.2)).size ≤ 1000) := Nat.le_trans (hi.name_size (e1 hk).2) (by omega)
      clear hp hk e0 e1 hi
      go_enter_defers Tryz.func38, Tryz.ntmps38
      go_wp2_with (first
        | (go_at_call 70; refine (oerrnoOf_calls s0 s1 s2 s3 eb (Ov.downOf l x).2.1 B ed (some (Ov.downOf l x).2.2) et ea _ hc2 (unhide HE3) (unhide HS3)).mono ?_; rintro e w4 ⟨rfl, rfl⟩)
        | (go_at_call 71; refine (owhereOf_calls eb ed (some (Ov.downOf l x).2.2) et ea _ (unhide HE2) (unhide H8) ((hb2.cell (p := ⟨4, 0, none⟩) (by show 4 < (w.setCell ⟨b, 0, none⟩ (.int .i32 1)).heap.size; simp; omega)).trans (unhide HG))).mono ?_; rintro e w3 ⟨rfl, hb3⟩; have HE3 := hide ((unhide HE2).kept hb3); have HS3 := hide (((unhide HC).se.keptAll hb2).keptAll hb3))
        | (go_at_call 69; refine (oopenChain_down x _ b B r room l s0 s1 s2 s3 (unhide HC) (unhide HP) (unhide HK)).mono ?_; rintro e w2 ⟨hb2, eb, ed, et, ea, rfl, he2, hc2⟩; have HE2 := hide he2; clear he2)
        | (go_at_call 42; refine (lock_free muLib ⟨b, 0, none⟩ _ c0 f0).mono ?_; rintro e w1 ⟨rfl, rfl⟩))
      have hb5 := hb2.trans (hb3.mono hb2.size)
      refine leaves_cons (f := 43) (args := #[.pointer (some ⟨b, 0, none⟩)]) (by simp) (by simp [go_sem]) ?_
      refine (unlock_deferred muLib ⟨b, 0, none⟩ .returning _ ?_ ?_).mono ?_
      · exact (hb5.cell (p := ⟨b, 0, none⟩) (by simpa using hbl)).trans (blk_cell (unhide HB) rfl)
      · exact (hb5.frozen (p := ⟨b, 0, none⟩) (by simpa using hbl)).trans (blk_frozen (unhide HB) 0)
      rintro e u' w'' ⟨rfl, rfl, rfl⟩
      refine ⟨_, results_tmp3 rfl _ _ _, ?_, OvLeft.quiet (unhide HR) hb5⟩
      rw [unhide HD]; rfl
  · have HP := hide hp
    have HD : Hid (Ov.chainF l x = (⟨#[]⟩, ⟨#[]⟩, 4)) := by unfold Ov.chainF; rw [if_neg hp]; exact rfl
    have H8 : Hid ((whOf none).size ≤ 1000) := Nat.zero_le _
    clear hp hi
    go_enter_defers Tryz.func38, Tryz.ntmps38
    go_wp2_with (first
      | (go_at_call 70; refine (oerrnoOf_calls s0 s1 s2 s3 eb 4 B ed none et ea _ hc2 (unhide HE3) (unhide HS3)).mono ?_; rintro e w4 ⟨rfl, rfl⟩)
      | (go_at_call 71; refine (owhereOf_calls eb ed none et ea _ (unhide HE2) (unhide H8) ((hb2.cell (p := ⟨4, 0, none⟩) (by show 4 < (w.setCell ⟨b, 0, none⟩ (.int .i32 1)).heap.size; simp; omega)).trans (unhide HG))).mono ?_; rintro e w3 ⟨rfl, hb3⟩; have HE3 := hide ((unhide HE2).kept hb3); have HS3 := hide (((unhide HC).se.keptAll hb2).keptAll hb3))
      | (go_at_call 69; refine (oopenChain_none x _ b B r room l s0 s1 s2 s3 (unhide HC) (unhide HP)).mono ?_; rintro e w2 ⟨hb2, eb, ed, et, ea, rfl, he2, hc2⟩; have HE2 := hide he2; clear he2)
      | (go_at_call 42; refine (lock_free muLib ⟨b, 0, none⟩ _ c0 f0).mono ?_; rintro e w1 ⟨rfl, rfl⟩))
    have hb5 := hb2.trans (hb3.mono hb2.size)
    refine leaves_cons (f := 43) (args := #[.pointer (some ⟨b, 0, none⟩)]) (by simp) (by simp [go_sem]) ?_
    refine (unlock_deferred muLib ⟨b, 0, none⟩ .returning _ ?_ ?_).mono ?_
    · exact (hb5.cell (p := ⟨b, 0, none⟩) (by simpa using hbl)).trans (blk_cell (unhide HB) rfl)
    · exact (hb5.frozen (p := ⟨b, 0, none⟩) (by simpa using hbl)).trans (blk_frozen (unhide HB) 0)
    rintro e u' w'' ⟨rfl, rfl, rfl⟩
    refine ⟨_, results_tmp3 rfl _ _ _, ?_, OvLeft.quiet (unhide HR) hb5⟩
    rw [unhide HD]; rfl

end Go.Proofs.YtdcmmmggiokbhaaGreatDoor
