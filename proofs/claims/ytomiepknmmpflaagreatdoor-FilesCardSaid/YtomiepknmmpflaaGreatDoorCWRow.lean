/- THE LAW Files, PROVED: for every script and every room it returns true, and what came in reads as it did. -/
import Derived.Test.YtomiepknmmpflaaGreatDoorRows
import Derived.Test.YtomiepknmmpflaaGreatDoorCWLaw4
import Derived.ChangeSame
import Derived.ChangeVars
import Derived.JoinedOf
import Derived.RowKit
import Derived.RowKitTokens
import Derived.ProofKit
import Derived.LaidLaws
import Derived.LaidMore
import Derived.LaidHandle
import Derived.OpenShut
import Derived.SizedLaws
import Derived.Deep.Slices
import Derived.Stop.LaidErr
import Derived.Stop.Joined
namespace Go.Proofs.YtomiepknmmpflaaGreatDoor
open Go.ChangeShapes Go.WideShapes Go.ChangeAt Go.RowKit

theorem Tryz.own : ownKnob Tryz.prog.godebug = none := by kernel_rfl
theorem Tryz.g0 : Tryz.prog.globalNamed "overlay/overlay.errNone" = some 0 := by kernel_rfl
theorem Tryz.g1 : Tryz.prog.globalNamed "overlay/overlay.errMissing" = some 1 := by kernel_rfl
theorem Tryz.g2 : Tryz.prog.globalNamed "overlay/overlay.errCycle" = some 2 := by kernel_rfl
theorem Tryz.g3 : Tryz.prog.globalNamed "overlay/overlay.errCorrupt" = some 3 := by kernel_rfl
theorem Tryz.g4 : Tryz.prog.globalNamed "errors.errorType" = some 4 := by kernel_rfl
theorem Tryz.gt0 : (Tryz.prog.globals[0]?).map (·.type) = some 80 := by kernel_rfl
theorem Tryz.gt1 : (Tryz.prog.globals[1]?).map (·.type) = some 80 := by kernel_rfl
theorem Tryz.gt2 : (Tryz.prog.globals[2]?).map (·.type) = some 80 := by kernel_rfl
theorem Tryz.gt3 : (Tryz.prog.globals[3]?).map (·.type) = some 80 := by kernel_rfl
theorem Tryz.cellsES : Tryz.prog.cellsOf 312 = 1 := by kernel_rfl
theorem Tryz.cellsS : Tryz.prog.cellsOf 9 = 1 := by kernel_rfl
theorem Tryz.rt : (Tryz.prog.cutTypes.find? (·.1 == "internal/reflectlite.rtype")).map (·.2) = some 259 := by kernel_rfl
theorem Tryz.tsize : Tryz.prog.types.size = 324 := by kernel_rfl
theorem Tryz.oneRow : ((List.range 324).filter fun t => Tryz.prog.rowNamed t [101, 114, 114, 111, 114]) = [80] := by kernel_rfl
theorem Tryz.star : "*" ++ "errors.errorString" = "*errors.errorString" := by decide
theorem Tryz.rowES (u : TypeId) (h : Tryz.prog.typeName? 3 u = some "*errors.errorString") : u = 293 :=
  typeName_ptr_named (nm := "errors.errorString") (by rw [Tryz.star]; kernel_rfl) (by kernel_rfl) (by decide) u (by rw [Tryz.star]; exact h)
/-- The door's own heap meets the condition. -/
theorem door_met (os : Os) (args : Array Value) : laidMetH Tryz.prog Rows.filesRow.laid ((World.doorLaid Tryz.prog 4000 os).forCall (fun _ _ => 0) ⟨#[], args, []⟩).memory :=
  laidMetH_of_parts3 (fuel := 8) (laidMet_of_run' 8 (by kernel_rfl) (by kernel_rfl)) (by kernel_rfl) (by kernel_rfl)

/-- Four listed errors of one make: what they hold, where they lie, and that they are four. -/
theorem laid_four {P : Program} {n0 n1 n2 n3 nm : String} {x0 x1 x2 x3 : List UInt8} {W : World} {g0 g1 g2 g3 : Nat} {ti tp te ts : TypeId} {ms : Array (String × TypeId)} {f : Field}
    (h : laidMet P [(n0, .iface nm (.ptr (.agg [.lit (.string x0)]))), (n3, .iface nm (.ptr (.agg [.lit (.string x3)]))), (n1, .iface nm (.ptr (.agg [.lit (.string x1)]))), (n2, .iface nm (.ptr (.agg [.lit (.string x2)])))] W)
    (k0 : P.globalNamed n0 = some g0) (k1 : P.globalNamed n1 = some g1) (k2 : P.globalNamed n2 = some g2) (k3 : P.globalNamed n3 = some g3)
    (j0 : (P.globals[g0]?).map (·.type) = some ti) (j1 : (P.globals[g1]?).map (·.type) = some ti) (j2 : (P.globals[g2]?).map (·.type) = some ti) (j3 : (P.globals[g3]?).map (·.type) = some ti)
    (hi : P.underlying ti = some (.interface ms)) (hrow : ∀ u, P.typeName? 3 u = some nm → u = tp) (hp : P.underlying tp = some (.pointer te)) (he : P.underlying te = some (.struct #[f])) (hft : f.type = ts) (hfo : f.offset = 0) (hs : P.underlying ts = some .string) (hc : P.cellsOf te = 1) (hcs : P.cellsOf ts = 1) :
    ∃ a0 a1 a2 a3 : Addr, (W.cell? ⟨g0, 0, none⟩ = some (.iface tp (.pointer (some a0))) ∧ W.cell? ⟨g1, 0, none⟩ = some (.iface tp (.pointer (some a1))) ∧ W.cell? ⟨g2, 0, none⟩ = some (.iface tp (.pointer (some a2))) ∧ W.cell? ⟨g3, 0, none⟩ = some (.iface tp (.pointer (some a3)))) ∧
      ((∃ c t, W.heap[a0.block]? = some (.cells c t (0, 0))) ∧ (∃ c t, W.heap[a1.block]? = some (.cells c t (0, 0))) ∧ (∃ c t, W.heap[a2.block]? = some (.cells c t (0, 0))) ∧ (∃ c t, W.heap[a3.block]? = some (.cells c t (0, 0)))) ∧
      a0 ≠ a1 ∧ a0 ≠ a2 ∧ a0 ≠ a3 ∧ a1 ≠ a2 ∧ a1 ≠ a3 ∧ a2 ≠ a3 := by
  obtain ⟨ps, ⟨g0', t0', cs0, f0, p0, q0, hg0, ht0, hv0, hd0, ⟨g3', t3', cs3, f3, p3, q3, hg3, ht3, hv3, hd3, ⟨g1', t1', cs1, f1, p1, q1, hg1, ht1, hv1, hd1, ⟨g2', t2', cs2, f2, p2, q2, hg2, ht2, hv2, hd2, _, e2⟩, e1⟩, e3⟩, e0⟩, hnd, hrows⟩ := h
  obtain rfl := Option.some.inj (k0.symm.trans hg0)
  obtain rfl := Option.some.inj (k1.symm.trans hg1)
  obtain rfl := Option.some.inj (k2.symm.trans hg2)
  obtain rfl := Option.some.inj (k3.symm.trans hg3)
  obtain rfl := Option.some.inj (j0.symm.trans ht0)
  obtain rfl := Option.some.inj (j1.symm.trans ht1)
  obtain rfl := Option.some.inj (j2.symm.trans ht2)
  obtain rfl := Option.some.inj (j3.symm.trans ht3)
  subst e2; subst e1; subst e3; subst e0
  obtain ⟨l0⟩ := cs0
  obtain ⟨l1⟩ := cs1
  obtain ⟨l2⟩ := cs2
  obtain ⟨l3⟩ := cs3
  have ok0 : ∀ u v, l0 = [.iface u v] → Value.okWide P W .any 0 u v := fun u v e => by
    subst e
    exact (hrows g0 0 (by simp [MemPlace.row])).2 u v (by simpa using World.var?_cell hg0 hv0 0)
  have ok1 : ∀ u v, l1 = [.iface u v] → Value.okWide P W .any 0 u v := fun u v e => by
    subst e
    exact (hrows g1 0 (by simp [MemPlace.row])).2 u v (by simpa using World.var?_cell hg1 hv1 0)
  have ok2 : ∀ u v, l2 = [.iface u v] → Value.okWide P W .any 0 u v := fun u v e => by
    subst e
    exact (hrows g2 0 (by simp [MemPlace.row])).2 u v (by simpa using World.var?_cell hg2 hv2 0)
  have ok3 : ∀ u v, l3 = [.iface u v] → Value.okWide P W .any 0 u v := fun u v e => by
    subst e
    exact (hrows g3 0 (by simp [MemPlace.row])).2 u v (by simpa using World.var?_cell hg3 hv3 0)
  obtain ⟨a0, y0, rfl, _, _, _, rfl⟩ := errorString_of_trod hi hrow hp he hft hfo hs hc hcs hd0 ok0
  obtain ⟨a1, y1, rfl, _, _, _, rfl⟩ := errorString_of_trod hi hrow hp he hft hfo hs hc hcs hd1 ok1
  obtain ⟨a2, y2, rfl, _, _, _, rfl⟩ := errorString_of_trod hi hrow hp he hft hfo hs hc hcs hd2 ok2
  obtain ⟨a3, y3, rfl, _, _, _, rfl⟩ := errorString_of_trod hi hrow hp he hft hfo hs hc hcs hd3 ok3
  have b0 := (hrows a0.block a0.off (by simp [MemPlace.row])).1
  have b1 := (hrows a1.block a1.off (by simp [MemPlace.row])).1
  have b2 := (hrows a2.block a2.off (by simp [MemPlace.row])).1
  have b3 := (hrows a3.block a3.off (by simp [MemPlace.row])).1
  refine ⟨a0, a1, a2, a3, ⟨by simpa using World.var?_cell hg0 hv0 0, by simpa using World.var?_cell hg1 hv1 0, by simpa using World.var?_cell hg2 hv2 0, by simpa using World.var?_cell hg3 hv3 0⟩, ⟨b0, b1, b2, b3⟩, ?_, ?_, ?_, ?_, ?_, ?_⟩
  all_goals (rintro rfl; simp [MemPlace.row] at hnd)

/-- What is listed of the four errors gives them as they lie. -/
theorem sents_of_laid {W : World} (h : laidMet Tryz.prog [("overlay/overlay.errNone", Rows.laid_overlay_overlay_errNone), ("overlay/overlay.errCorrupt", Rows.laid_overlay_overlay_errCorrupt), ("overlay/overlay.errMissing", Rows.laid_overlay_overlay_errMissing), ("overlay/overlay.errCycle", Rows.laid_overlay_overlay_errCycle)] W) (h4 : 4 < W.heap.size) :
    ∃ s0 s1 s2 s3, Sents W W.heap.size s0 s1 s2 s3 := by
  obtain ⟨a0, a1, a2, a3, ⟨c0, c1, c2, c3⟩, ⟨b0, b1, b2, b3⟩, n01, n02, n03, n12, n13, n23⟩ := laid_four h Tryz.g0 Tryz.g1 Tryz.g2 Tryz.g3 Tryz.gt0 Tryz.gt1 Tryz.gt2 Tryz.gt3 Tryz.underlying80 Tryz.rowES Tryz.underlying293 Tryz.underlying312 rfl rfl Tryz.underlying9 Tryz.cellsES Tryz.cellsS
  exact ⟨a0, a1, a2, a3, { g0 := c0, g1 := c1, g2 := c2, g3 := c3, b0 := b0, b1 := b1, b2 := b2, b3 := b3, n01 := n01, n02 := n02, n03 := n03, n12 := n12, n13 := n13, n23 := n23, l := h4, l0 := by obtain ⟨c, t, e⟩ := b0; exact blk_lt e, l1 := by obtain ⟨c, t, e⟩ := b1; exact blk_lt e, l2 := by obtain ⟨c, t, e⟩ := b2; exact blk_lt e, l3 := by obtain ⟨c, t, e⟩ := b3; exact blk_lt e, size := Nat.le_refl _ }⟩

/-- .. and all that the walks stand on. -/
theorem under_of_laid {W : World} (h : laidMetH Tryz.prog Rows.filesRow.laid W) : ∃ s0 s1 s2 s3, Under W W.heap.size s0 s1 s2 s3 := by
  have h' : laidMet Tryz.prog [("math/bits.deBruijn32tab", Rows.laid_math_bits_deBruijn32tab), ("math/bits.deBruijn64tab", Rows.laid_math_bits_deBruijn64tab), ("internal/strconv.uint64pow10", Rows.laid_internal_strconv_uint64pow10), ("overlay/overlay.errNone", Rows.laid_overlay_overlay_errNone), ("overlay/overlay.errCorrupt", Rows.laid_overlay_overlay_errCorrupt), ("overlay/overlay.errMissing", Rows.laid_overlay_overlay_errMissing), ("overlay/overlay.errCycle", Rows.laid_overlay_overlay_errCycle)] W ∧ handlesMet Tryz.prog [("errors.errorType", Rows.laid_errors_errorType)] W := h
  obtain ⟨name, u, ty, e1, e2, e3, e4, e5⟩ := h'.2 _ (List.mem_singleton.2 rfl)
  have en : name = [101, 114, 114, 111, 114] := (Option.some.inj e1).symm
  subst en
  obtain rfl := Option.some.inj (Tryz.rt.symm.trans e2)
  have hm : ty ∈ (List.range 324).filter fun t => Tryz.prog.rowNamed t [101, 114, 114, 111, 114] := List.mem_filter.2 ⟨List.mem_range.2 (by rw [← Tryz.tsize]; exact e3), e4⟩
  rw [Tryz.oneRow] at hm
  obtain rfl := List.mem_singleton.1 hm
  have hh : typeHandle Tryz.prog 80 = .pointer (some ⟨8, 80, none⟩) := by kernel_rfl
  rw [hh] at e5
  have g4 : W.cell? ⟨4, 0, none⟩ = some (.iface 259 (.agg #[.pointer (some ⟨8, 80, none⟩)])) := by simpa using World.var?_cell Tryz.g4 e5 0
  obtain ⟨s0, s1, s2, s3, hs⟩ := sents_of_laid h'.1.tail.tail.tail (cell_lt g4)
  exact ⟨s0, s1, s2, s3, hs, g4⟩

end Go.Proofs.YtomiepknmmpflaaGreatDoor
