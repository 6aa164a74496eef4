/- THE LAW Files, PROVED: for every script and every room it returns true, and what came in reads as it did. -/
import Derived.Test.YtdcmmmggiokbhaaGreatDoorRows
import Derived.Test.YtdcmmmggiokbhaaGreatDoorCWLaw2
import Derived.ChangeSame
import Derived.ChangeVars
import Derived.JoinedOf
import Derived.RowKit
import Derived.RowKitTokens
import Derived.ProofKit
import Derived.LaidLaws
import Derived.LaidMore
import Derived.LaidHandle
import Derived.OpenShut
import Derived.SizedLaws
import Derived.Deep.Slices
import Derived.Stop.LaidErr
import Derived.Stop.Joined
import Derived.WideKeyArgs
namespace Go.Proofs.YtdcmmmggiokbhaaGreatDoor
open Go.ChangeShapes Go.WideShapes Go.ChangeAt Go.RowKit

theorem Tryz.own : ownKnob Tryz.prog.godebug = none := by kernel_rfl
theorem Tryz.g0 : Tryz.prog.globalNamed "overlay/overlay.errNone" = some 0 := by kernel_rfl
theorem Tryz.g1 : Tryz.prog.globalNamed "overlay/overlay.errMissing" = some 1 := by kernel_rfl
theorem Tryz.g2 : Tryz.prog.globalNamed "overlay/overlay.errCycle" = some 2 := by kernel_rfl
theorem Tryz.g3 : Tryz.prog.globalNamed "overlay/overlay.errCorrupt" = some 3 := by kernel_rfl
theorem Tryz.g4 : Tryz.prog.globalNamed "errors.errorType" = some 4 := by kernel_rfl
theorem Tryz.gt0 : (Tryz.prog.globals[0]?).map (·.type) = some 120 := by kernel_rfl
theorem Tryz.gt1 : (Tryz.prog.globals[1]?).map (·.type) = some 120 := by kernel_rfl
theorem Tryz.gt2 : (Tryz.prog.globals[2]?).map (·.type) = some 120 := by kernel_rfl
theorem Tryz.gt3 : (Tryz.prog.globals[3]?).map (·.type) = some 120 := by kernel_rfl
theorem Tryz.cellsES : Tryz.prog.cellsOf 276 = 1 := by kernel_rfl
theorem Tryz.cellsS : Tryz.prog.cellsOf 9 = 1 := by kernel_rfl
theorem Tryz.rt : (Tryz.prog.cutTypes.find? (·.1 == "internal/reflectlite.rtype")).map (·.2) = some 224 := by kernel_rfl
theorem Tryz.tsize : Tryz.prog.types.size = 288 := by kernel_rfl
theorem Tryz.oneRow : ((List.range 288).filter fun t => Tryz.prog.rowNamed t [101, 114, 114, 111, 114]) = [120] := by kernel_rfl
theorem Tryz.star : "*" ++ "errors.errorString" = "*errors.errorString" := by decide
theorem Tryz.rowES (u : TypeId) (h : Tryz.prog.typeName? 3 u = some "*errors.errorString") : u = 257 :=
  typeName_ptr_named (nm := "errors.errorString") (by rw [Tryz.star]; kernel_rfl) (by kernel_rfl) (by decide) u (by rw [Tryz.star]; exact h)
/-- The door's own heap meets the condition. -/
theorem door_met (os : Os) (args : Array Value) : laidMetH Tryz.prog Rows.filesRow.laid ((World.doorLaid Tryz.prog 4000 os).forCall (fun _ _ => 0) ⟨#[], args, []⟩).memory :=
  laidMetH_of_parts3 (fuel := 8) (laidMet_of_run' 8 (by kernel_rfl) (by kernel_rfl)) (by kernel_rfl) (by kernel_rfl)

/-- Four listed errors of one make: what they hold, where they lie, and that they are four. -/
theorem laid_four {P : Program} {n0 n1 n2 n3 nm : String} {x0 x1 x2 x3 : List UInt8} {W : World} {g0 g1 g2 g3 : Nat} {ti tp te ts : TypeId} {ms : Array (String × TypeId)} {f : Field}
    (h : laidMet P [(n0, .iface nm (.ptr (.agg [.lit (.string x0)]))), (n3, .iface nm (.ptr (.agg [.lit (.string x3)]))), (n1, .iface nm (.ptr (.agg [.lit (.string x1)]))), (n2, .iface nm (.ptr (.agg [.lit (.string x2)])))] W)
    (k0 : P.globalNamed n0 = some g0) (k1 : P.globalNamed n1 = some g1) (k2 : P.globalNamed n2 = some g2) (k3 : P.globalNamed n3 = some g3)
    (j0 : (P.globals[g0]?).map (·.type) = some ti) (j1 : (P.globals[g1]?).map (·.type) = some ti) (j2 : (P.globals[g2]?).map (·.type) = some ti) (j3 : (P.globals[g3]?).map (·.type) = some ti)
    (hi : P.underlying ti = some (.interface ms)) (hrow : ∀ u, P.typeName? 3 u = some nm → u = tp) (hp : P.underlying tp = some (.pointer te)) (he : P.underlying te = some (.struct #[f])) (hft : f.type = ts) (hfo : f.offset = 0) (hs : P.underlying ts = some .string) (hc : P.cellsOf te = 1) (hcs : P.cellsOf ts = 1) :
    ∃ a0 a1 a2 a3 : Addr, (W.cell? ⟨g0, 0, none⟩ = some (.iface tp (.pointer (some a0))) ∧ W.cell? ⟨g1, 0, none⟩ = some (.iface tp (.pointer (some a1))) ∧ W.cell? ⟨g2, 0, none⟩ = some (.iface tp (.pointer (some a2))) ∧ W.cell? ⟨g3, 0, none⟩ = some (.iface tp (.pointer (some a3)))) ∧
      ((∃ c t, W.heap[a0.block]? = some (.cells c t (0, 0))) ∧ (∃ c t, W.heap[a1.block]? = some (.cells c t (0, 0))) ∧ (∃ c t, W.heap[a2.block]? = some (.cells c t (0, 0))) ∧ (∃ c t, W.heap[a3.block]? = some (.cells c t (0, 0)))) ∧
      a0 ≠ a1 ∧ a0 ≠ a2 ∧ a0 ≠ a3 ∧ a1 ≠ a2 ∧ a1 ≠ a3 ∧ a2 ≠ a3 := by
  obtain ⟨ps, ⟨g0', t0', cs0, f0, p0, q0, hg0, ht0, hv0, hd0, ⟨g3', t3', cs3, f3, p3, q3, hg3, ht3, hv3, hd3, ⟨g1', t1', cs1, f1, p1, q1, hg1, ht1, hv1, hd1, ⟨g2', t2', cs2, f2, p2, q2, hg2, ht2, hv2, hd2, _, e2⟩, e1⟩, e3⟩, e0⟩, hnd, hrows⟩ := h
  obtain rfl := Option.some.inj (k0.symm.trans hg0)
  obtain rfl := Option.some.inj (k1.symm.trans hg1)
  obtain rfl := Option.some.inj (k2.symm.trans hg2)
  obtain rfl := Option.some.inj (k3.symm.trans hg3)
  obtain rfl := Option.some.inj (j0.symm.trans ht0)
  obtain rfl := Option.some.inj (j1.symm.trans ht1)
  obtain rfl := Option.some.inj (j2.symm.trans ht2)
  obtain rfl := Option.some.inj (j3.symm.trans ht3)
  subst e2; subst e1; subst e3; subst e0
  obtain ⟨l0⟩ := cs0
  obtain ⟨l1⟩ := cs1
  obtain ⟨l2⟩ := cs2
  obtain ⟨l3⟩ := cs3
  have ok0 : ∀ u v, l0 = [.iface u v] → Value.okWide P W .any 0 u v := fun u v e => by
    subst e
    exact (hrows g0 0 (by simp [MemPlace.row])).2 u v (by simpa using World.var?_cell hg0 hv0 0)
  have ok1 : ∀ u v, l1 = [.iface u v] → Value.okWide P W .any 0 u v := fun u v e => by
    subst e
    exact (hrows g1 0 (by simp [MemPlace.row])).2 u v (by simpa using World.var?_cell hg1 hv1 0)
  have ok2 : ∀ u v, l2 = [.iface u v] → Value.okWide P W .any 0 u v := fun u v e => by
    subst e
    exact (hrows g2 0 (by simp [MemPlace.row])).2 u v (by simpa using World.var?_cell hg2 hv2 0)
  have ok3 : ∀ u v, l3 = [.iface u v] → Value.okWide P W .any 0 u v := fun u v e => by
    subst e
    exact (hrows g3 0 (by simp [MemPlace.row])).2 u v (by simpa using World.var?_cell hg3 hv3 0)
  obtain ⟨a0, y0, rfl, _, _, _, rfl⟩ := errorString_of_trod hi hrow hp he hft hfo hs hc hcs hd0 ok0
  obtain ⟨a1, y1, rfl, _, _, _, rfl⟩ := errorString_of_trod hi hrow hp he hft hfo hs hc hcs hd1 ok1
  obtain ⟨a2, y2, rfl, _, _, _, rfl⟩ := errorString_of_trod hi hrow hp he hft hfo hs hc hcs hd2 ok2
  obtain ⟨a3, y3, rfl, _, _, _, rfl⟩ := errorString_of_trod hi hrow hp he hft hfo hs hc hcs hd3 ok3
  have b0 := (hrows a0.block a0.off (by simp [MemPlace.row])).1
  have b1 := (hrows a1.block a1.off (by simp [MemPlace.row])).1
  have b2 := (hrows a2.block a2.off (by simp [MemPlace.row])).1
  have b3 := (hrows a3.block a3.off (by simp [MemPlace.row])).1
  refine ⟨a0, a1, a2, a3, ⟨by simpa using World.var?_cell hg0 hv0 0, by simpa using World.var?_cell hg1 hv1 0, by simpa using World.var?_cell hg2 hv2 0, by simpa using World.var?_cell hg3 hv3 0⟩, ⟨b0, b1, b2, b3⟩, ?_, ?_, ?_, ?_, ?_, ?_⟩
  all_goals (rintro rfl; simp [MemPlace.row] at hnd)

/-- What is listed of the four errors gives them as they lie. -/
theorem sents_of_laid {W : World} (h : laidMet Tryz.prog [("overlay/overlay.errNone", Rows.laid_overlay_overlay_errNone), ("overlay/overlay.errCorrupt", Rows.laid_overlay_overlay_errCorrupt), ("overlay/overlay.errMissing", Rows.laid_overlay_overlay_errMissing), ("overlay/overlay.errCycle", Rows.laid_overlay_overlay_errCycle)] W) (h4 : 4 < W.heap.size) :
    ∃ s0 s1 s2 s3, Sents W W.heap.size s0 s1 s2 s3 := by
  obtain ⟨a0, a1, a2, a3, ⟨c0, c1, c2, c3⟩, ⟨b0, b1, b2, b3⟩, n01, n02, n03, n12, n13, n23⟩ := laid_four h Tryz.g0 Tryz.g1 Tryz.g2 Tryz.g3 Tryz.gt0 Tryz.gt1 Tryz.gt2 Tryz.gt3 Tryz.underlying120 Tryz.rowES Tryz.underlying257 Tryz.underlying276 rfl rfl Tryz.underlying9 Tryz.cellsES Tryz.cellsS
  exact ⟨a0, a1, a2, a3, { g0 := c0, g1 := c1, g2 := c2, g3 := c3, b0 := b0, b1 := b1, b2 := b2, b3 := b3, n01 := n01, n02 := n02, n03 := n03, n12 := n12, n13 := n13, n23 := n23, l := h4, l0 := by obtain ⟨c, t, e⟩ := b0; exact blk_lt e, l1 := by obtain ⟨c, t, e⟩ := b1; exact blk_lt e, l2 := by obtain ⟨c, t, e⟩ := b2; exact blk_lt e, l3 := by obtain ⟨c, t, e⟩ := b3; exact blk_lt e, size := Nat.le_refl _ }⟩

/-- .. and all that the walks stand on. -/
theorem under_of_laid {W : World} (h : laidMetH Tryz.prog Rows.filesRow.laid W) : ∃ s0 s1 s2 s3, Under W W.heap.size s0 s1 s2 s3 := by
  have h' : laidMet Tryz.prog [("math/bits.deBruijn32tab", Rows.laid_math_bits_deBruijn32tab), ("math/bits.deBruijn64tab", Rows.laid_math_bits_deBruijn64tab), ("internal/strconv.uint64pow10", Rows.laid_internal_strconv_uint64pow10), ("overlay/overlay.errNone", Rows.laid_overlay_overlay_errNone), ("overlay/overlay.errCorrupt", Rows.laid_overlay_overlay_errCorrupt), ("overlay/overlay.errMissing", Rows.laid_overlay_overlay_errMissing), ("overlay/overlay.errCycle", Rows.laid_overlay_overlay_errCycle)] W ∧ handlesMet Tryz.prog [("errors.errorType", Rows.laid_errors_errorType)] W := h
  obtain ⟨name, u, ty, e1, e2, e3, e4, e5⟩ := h'.2 _ (List.mem_singleton.2 rfl)
  have en : name = [101, 114, 114, 111, 114] := (Option.some.inj e1).symm
  subst en
  obtain rfl := Option.some.inj (Tryz.rt.symm.trans e2)
  have hm : ty ∈ (List.range 288).filter fun t => Tryz.prog.rowNamed t [101, 114, 114, 111, 114] := List.mem_filter.2 ⟨List.mem_range.2 (by rw [← Tryz.tsize]; exact e3), e4⟩
  rw [Tryz.oneRow] at hm
  obtain rfl := List.mem_singleton.1 hm
  have hh : typeHandle Tryz.prog 120 = .pointer (some ⟨8, 120, none⟩) := by kernel_rfl
  rw [hh] at e5
  have g4 : W.cell? ⟨4, 0, none⟩ = some (.iface 224 (.agg #[.pointer (some ⟨8, 120, none⟩)])) := by simpa using World.var?_cell Tryz.g4 e5 0
  obtain ⟨s0, s1, s2, s3, hs⟩ := sents_of_laid h'.1.tail.tail.tail (cell_lt g4)
  exact ⟨s0, s1, s2, s3, hs, g4⟩

end Go.Proofs.YtdcmmmggiokbhaaGreatDoor

/- THE LAW Files, PROVED: for every script and every room it returns true, and what came in reads as it did. -/
namespace Go.Proofs.YtdcmmmggiokbhaaGreatDoor
open Go.ChangeShapes Go.WideShapes Go.ChangeAt Go.RowKit

theorem Tryz.cellsOp : Tryz.prog.cellsOf 32 = 7 := by kernel_rfl
theorem Tryz.cellsI : Tryz.prog.cellsOf 3 = 1 := by kernel_rfl
theorem Tryz.bytesOp : Tryz.prog.bytesOf 32 = 80 := by kernel_rfl
theorem drop_one {v : List Value} {o : Nat} {x : Value} (h : (v.drop o).take 1 = [x]) : v[o]? = some x := by
  have := congrArg (fun l => l[0]?) h
  simp only [List.getElem?_take, List.getElem?_drop] at this
  simpa using this
theorem addr_add_add (a : Addr) (i j : Nat) : (a.add i).add j = a.add (i + j) := by
  unfold Addr.add
  by_cases hi : i = 0
  · subst hi; simp
  · by_cases hj : j = 0
    · subst hj; simp
    · simp [hi, hj]; omega

/-- The script, opened: each step's seven cells. -/
theorem script_of {H : Type} {enc : TypeId × Value → H} {W : World} {sp : Nat → Bool} {fuel : Nat} {x : DataW H × List MemPlace} {a : Option Addr} {len cap : Nat} (h : DataW.trod enc Tryz.prog W 0 sp true fuel 22 [.slice a len cap] = some x) :
    (a = none → len = 0) ∧ (∀ b, a = some b → (1 ≤ len → b.block < W.heap.size) ∧ Script W b len) ∧ (a = none ∨ ∃ e s, x.1 = .slice e s ∧ e.length = len) := by
  rcases Go.Deep.open_slice Tryz.underlying22 h with ⟨hcs, hx⟩ | ⟨b, l, c, m, n, D, Pl, hcs, _, hl, hm, hmm, hx, hel⟩
  · simp only [List.cons.injEq, Value.slice.injEq, and_true] at hcs
    obtain ⟨rfl, rfl, rfl⟩ := hcs
    exact ⟨fun _ => rfl, (fun b e => by simp at e), Or.inl rfl⟩
  · simp only [List.cons.injEq, Value.slice.injEq, and_true] at hcs
    obtain ⟨rfl, rfl, rfl⟩ := hcs
    have hlm : len ≤ m := by rw [hmm]; split <;> omega
    have sc : Script W b len := by
      intro i hi
      obtain ⟨cs, h1, h2⟩ := hel i (by omega)
      rw [Tryz.cellsOp] at h1
      obtain ⟨_, hlen, hcell⟩ := World.cells?_some h1
      obtain ⟨xs, q, _, _, _, hxl, hf⟩ := DataW.trod_struct Tryz.underlying32 h2
      have hc : ∀ t, t < 7 → W.cell? (b.add (i * 7 + t)) = cs[t]? := fun t ht => by rw [← addr_add_add]; exact hcell t ht
      have int_at : ∀ t (f : Field), t < 7 → f.type = 3 → f.offset = t → (∃ y, DataW.trod enc Tryz.prog W 0 sp true q f.type ((cs.drop f.offset).take (Tryz.prog.cellsOf f.type)) = some y) → ∃ z, cs[t]? = some (.int .i64 z) ∧ (Lit.int .i64 z).wf = true := fun t f ht hty hof ⟨y, hy⟩ => by
        rw [hty, hof, Tryz.cellsI] at hy
        obtain ⟨z, hz, _, hw⟩ := DataW.trod_int Tryz.underlying3 hy
        exact ⟨z, drop_one hz, hw⟩
      have str_at : ∀ t (f : Field), t < 7 → f.type = 9 → f.offset = t → (∃ y, DataW.trod enc Tryz.prog W 0 sp true q f.type ((cs.drop f.offset).take (Tryz.prog.cellsOf f.type)) = some y) → ∃ z, cs[t]? = some (.string z) := fun t f ht hty hof ⟨y, hy⟩ => by
        rw [hty, hof, Tryz.cellsS] at hy
        obtain ⟨z, hz, _, _⟩ := DataW.trod_string Tryz.underlying9 hy
        exact ⟨z, drop_one hz⟩
      have some_at : ∀ t, t < 7 → ∃ y, xs[t]? = some y := fun t ht => ⟨_, List.getElem?_eq_getElem (by rw [hxl]; exact ht)⟩
      obtain ⟨y0, e0⟩ := some_at 0 (by omega)
      obtain ⟨y1, e1⟩ := some_at 1 (by omega)
      obtain ⟨y2, e2⟩ := some_at 2 (by omega)
      obtain ⟨y3, e3⟩ := some_at 3 (by omega)
      obtain ⟨y4, e4⟩ := some_at 4 (by omega)
      obtain ⟨y5, e5⟩ := some_at 5 (by omega)
      obtain ⟨y6, e6⟩ := some_at 6 (by omega)
      obtain ⟨z0, f0, _⟩ := int_at 0 _ (by omega) rfl rfl ⟨y0, (hf 0 _ rfl).trans e0⟩
      obtain ⟨z1, f1, w1⟩ := int_at 1 _ (by omega) rfl rfl ⟨y1, (hf 1 _ rfl).trans e1⟩
      obtain ⟨z2, f2, _⟩ := int_at 2 _ (by omega) rfl rfl ⟨y2, (hf 2 _ rfl).trans e2⟩
      obtain ⟨z3, f3, _⟩ := int_at 3 _ (by omega) rfl rfl ⟨y3, (hf 3 _ rfl).trans e3⟩
      obtain ⟨z4, f4⟩ := str_at 4 _ (by omega) rfl rfl ⟨y4, (hf 4 _ rfl).trans e4⟩
      obtain ⟨z5, f5⟩ := str_at 5 _ (by omega) rfl rfl ⟨y5, (hf 5 _ rfl).trans e5⟩
      obtain ⟨z6, f6⟩ := str_at 6 _ (by omega) rfl rfl ⟨y6, (hf 6 _ rfl).trans e6⟩
      have hr := bounds_i64 w1
      exact ⟨z0, z1, z2, z3, z4, z5, z6, hr.1, hr.2, (hc 0 (by omega)).trans f0, (hc 1 (by omega)).trans f1, (hc 2 (by omega)).trans f2, (hc 3 (by omega)).trans f3, (hc 4 (by omega)).trans f4, (hc 5 (by omega)).trans f5, (hc 6 (by omega)).trans f6⟩
    exact ⟨(fun e => by simp at e), (fun b' e => by
      obtain rfl := Option.some.inj e
      refine ⟨fun h1 => ?_, sc⟩
      obtain ⟨k, W', x', y', nm, ot, tx, _, _, d0, _⟩ := sc 0 (by omega)
      have := cell_lt d0
      rw [add_block] at this
      exact this), Or.inr ⟨_, _, by rw [hx], by simp⟩⟩

/-- What the walks of a step say. -/
def StepsTrue : Prop := ∀ (s0 s1 s2 s3 : Addr) (B wb : Nat) (v : Value) (S : List St) (k W x y : Int) (nm ot tx : ByteArray) (w1 : World), LW w1 B wb s0 s1 s2 s3 v S → k ≤ 7 → S.length ≤ 5000000000000 → -9223372036854775808 ≤ W → W ≤ 9223372036854775807 → Calls Tryz.prog 8 #[.pointer (some ⟨wb, 0, none⟩), .agg #[.int .i64 k, .int .i64 W, .int .i64 x, .int .i64 y, .string nm, .string ot, .string tx]] w1 (StepPost B wb s0 s1 s2 s3 S.length w1)

set_option maxRecDepth 100000 in
theorem lifted (step : StepsTrue) (os : Os) (started : os.Started) (H : Type) (enc : TypeId × Value → H) :
    ReturnsInHanded {} Tryz.checked os 3 .any (fun w args => (Rows.filesSpec.pre enc Tryz.prog Tryz.f3 [] false w args ∧ laidMetH Tryz.prog Rows.filesRow.laid w) ∧ sizedMet enc Tryz.prog Tryz.f3 (OpenSpec.ofChange Rows.filesSpec) false w args)
      (Rows.filesSpec.post enc Tryz.prog Tryz.f3 false true false false) := by
  refine returnsInHanded_of_change_and (C := Tryz.checked) (X := fun w _ => laidMetH Tryz.prog Rows.filesRow.laid w) (fun _ _ _ hh h => h.of_heap hh) Tryz.own started (by kernel_rfl) Tryz.func3
    (ChangeSpec.witness_shaped (enc := enc) (C := Tryz.checked) (os := os) (X := fun w _ => laidMetH Tryz.prog Rows.filesRow.laid w) false (World.doorLaid Tryz.prog 4000 os) #[.slice none 0 0, .int .i64 0] 8 rfl (World.shaped_of_RefB (by kernel_rfl) (by kernel_rfl)) (by kernel_rfl) (by kernel_rfl) (by kernel_rfl) (door_met os _)) ?_
  intro W base args ds gs before hval0 hW _ hsz0 hL _
  have hval : ∀ (j : Nat) t v, Tryz.f3.params[j]? = some t → args[j]? = some v → Value.okWide Tryz.prog W .any base t v := hval0
  have hW' := hW
  obtain ⟨p, q, hA0, hV, rfl, hfz, hnd⟩ := hW
  have hA : DataW.TrodAll enc Tryz.prog W 0 (fun _ => true) true Tryz.f3.params.toList args.toList ds p := hA0
  have hsz : (DataW.weightsEach Tryz.prog (Tryz.f3.params.toList ++ Rows.filesSpec.plain.varTypes Tryz.prog) (ds ++ gs)).all (· ≤ reachBytes) = true := hsz0
  rw [Tryz.params3] at hA hval hsz
  obtain ⟨v0, v1, d0, d1, p0, p1, rfl, rfl, rfl, h0, h1⟩ := trodAll_two hA
  obtain ⟨rfl, rfl⟩ := trodVars_none hV
  obtain ⟨a, len, cap, rfl⟩ := okWide_slice Tryz.underlying22 (hval 0 22 v0 rfl rfl)
  obtain ⟨room, rfl, rfl, rfl, hwn⟩ := open_int Tryz.underlying3 (hval 1 3 v1 rfl rfl) h1
  obtain ⟨fuel, hf⟩ := id h0
  obtain ⟨hnone, hsc, hd⟩ := script_of (show DataW.trod enc Tryz.prog W 0 (fun _ => true) true fuel 22 [.slice a len cap] = some (d0, p0) from hf)
  have hlen : len ≤ 2000000000000 := by
    rcases hd with rfl | ⟨e, sp, rfl, he⟩
    · rw [hnone rfl]; omega
    · have := sized_slice hsz (j := 0) (t := 22) (e := 32) rfl rfl Tryz.underlying22
      rw [Tryz.bytesOp, he] at this
      simp only [reachBytes] at this
      omega
  obtain ⟨s0, s1, s2, s3, hu⟩ := under_of_laid hL
  have hr := bounds_i64 hwn
  have e1 : Rows.filesSpec.fn H ([d0, .lit (.int .i64 room)] ++ []) = { results := [.lit (.bool true)], args := [d0, .lit (.int .i64 room)] } := by simp [Rows.filesSpec]
  have hlt : ∀ x ∈ p0, x.block < W.heap.size := fun x hx => hW'.lt x (by simp [hx])
  refine (lFiles_of W a len cap room (lplays_calls W a len cap room s0 s1 s2 s3 hu hr.1 hr.2 hlen hsc hnone (fun B wb v S k X x y nm ot tx w1 h k7 n x1 x2 => step s0 s1 s2 s3 B wb v S k X x y nm ot tx w1 h k7 n x1 x2))).mono fun e W' ⟨he, hb⟩ => ?_
  subst he
  refine ⟨_, rfl, _, _, _, [], p0 ++ [], [], hW', ?_, ?_, ?_, hb.frame _, fun h => by cases h⟩
  · rw [e1]; exact trodAll_mk1 (shut_bool Tryz.underlying4 true)
  · rw [e1]; exact trodAll_mk2 (Go.WideElems.Trod_stays (by kernel_rfl) (by kernel_rfl) (of_decide_eq_true (by kernel_rfl)) h0 (fun x hx => hb.same (hlt x hx)) (fun x hx => by simpa using hlt x hx)) (shut_int Tryz.underlying3 hwn)
  · rw [e1]; rfl

theorem files_holds_of (step : StepsTrue) : Rows.FilesSaid :=
  OpenClaim.holds_of_wide 3 Tryz.f3 rfl rfl rfl rfl rfl rfl rfl ⟨rfl, rfl, rfl, rfl, rfl⟩ rfl rfl rfl rfl rfl (by kernel_rfl) Tryz.func3 (by kernel_rfl)
    (of_decide_eq_true (by kernel_rfl)) (by unfold Func.isWrapper; first | (rw [if_pos (by decide +kernel)]; kernel_rfl) | (rw [if_neg (by decide +kernel)]; exact ⟨rfl, rfl⟩))
    (fun os started H enc _ => lifted step os started H enc)

end Go.Proofs.YtdcmmmggiokbhaaGreatDoor
