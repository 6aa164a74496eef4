/- The law's steps: files. -/
import Derived.Test.YtomiepknmmpflaaGreatDoorKPLaw
import Derived.Test.YtomiepknmmpflaaGreatDoorKPParse
import Derived.Test.YtomiepknmmpflaaGreatDoorKWAt
import Derived.Test.YtomiepknmmpflaaGreatDoorKWDown
import Derived.Test.YtomiepknmmpflaaGreatDoorKWONew
import Derived.Test.YtomiepknmmpflaaGreatDoorRows
import Derived.ChangeSame
import Derived.ChangeVars
import Derived.JoinedOf
import Derived.RowKit
import Derived.RowKitTokens
import Derived.ProofKit
import Derived.LaidLaws
import Derived.LaidMore
import Derived.LaidHandle
import Derived.OpenShut
import Derived.SizedLaws
import Derived.Deep.Slices
import Derived.Stop.LaidErr
import Derived.Stop.Joined
namespace Go.Proofs.YtomiepknmmpflaaGreatDoor
open Go.RowKit Go.Joins

theorem LI.make {room : Nat} {l : Ov.Files} (h : Ov.LI room l) (x bk : ByteArray) (n : Int) : Ov.LI room (makeF room l x n bk).2 := by
  unfold makeF
  split
  · exact h
  · split
    · exact h
    · split
      · exact h
      · split
        · exact h
        · rename_i h1 h2 h3 h4
          have hl := h.len
          have hb8 : bk.size ≤ 8 := by
            by_cases hb : bk.size = 0
            · omega
            · by_cases hso : Ov.soundF l bk = 0
              · by_cases hpb : Ov.place l bk < l.length
                · exact h.name_size hpb
                · unfold Ov.soundF at hso; rw [if_neg hpb] at hso; omega
              · exact absurd ⟨hb, hso⟩ h4
          have hsz := blank_size (bk := bk) (n := n.toNat) hb8 (by omega)
          refine h.put ?_ (Ov.withF_size h.size hsz) (Ov.withF_names h.names (by simpa using h1)) (Ov.withF_nodup h.nodup)
          rw [Ov.withF_length]; split <;> omega
end Go.Proofs.YtomiepknmmpflaaGreatDoor

namespace Go.Proofs.YtomiepknmmpflaaGreatDoor
open Go.RowKit Go.Joins

theorem StOk.same {w w' : World} {B : Nat} {s : St} (h : StOk w B s) (hk : ∀ (k : Nat) (cs : Array Value) (t : TypeId), w.heap[k]? = some (Obj.cells cs t (0, 0)) → t ≠ 127 → t ≠ 60 → w'.heap[k]? = w.heap[k]?) : StOk w' B s := by
  obtain ⟨c, hc⟩ := h.ov.blk
  obtain ⟨d, hd⟩ := h.ref.blk
  exact ⟨h.ov.of_blocks (hk _ _ _ hc (by decide) (by decide)) (fun k e => by
    obtain ⟨f, hf⟩ := h.ov.row e
    exact hk _ _ _ hf (by decide) (by decide)), h.ref.of_blocks (hk _ _ _ hd (by decide) (by decide)) (fun k cs e => hk _ _ _ e (by decide) (by decide)), h.li, h.bx, h.ry, h.rx⟩
theorem st_new (w : World) (B n : Nat) (hB : B ≤ w.heap.size) (hn : n ≤ 4000) : StOk ((w.alloc (.cells #[.int .i32 0, .int .u32 0, .int .i64 n, .slice none 0 0] 77)).alloc (.cells #[.int .i64 n, .slice none 0 0] 180)) B ⟨w.heap.size, none, w.heap.size + 1, n, []⟩ := by
  refine ⟨⟨.slice none 0 0, blk_alloc (blk_new w _) _, World.ownsRow_nil _ _ _ _, by simp [Value.ownBlock], rfl⟩, ⟨.slice none 0 0, blk_new1 w _ _, World.ownsRow_nil _ _ _ _, by simp [Value.ownBlock]⟩, ⟨by simp, fun j hj => by simp at hj, hn, fun j hj => by simp at hj, List.nodup_nil⟩, hB, by show B ≤ w.heap.size + 1; omega, fun k hk => by cases hk⟩
theorem LW.add {w w3 : World} {B wb n : Nat} {s0 s1 s2 s3 : Addr} {v v' : Value} {S : List St} {o : Obj} (h : LW w B wb s0 s1 s2 s3 v S) (hn : n ≤ 4000)
    (hg : (((w.alloc (.cells #[.int .i32 0, .int .u32 0, .int .i64 n, .slice none 0 0] 77)).alloc (.cells #[.int .i64 n, .slice none 0 0] 180)).alloc o).grownBy w3 v.ownBlock)
    (ho : w3.ownsRow B 127 2 v' (S.length + 1) (prCells S ++ [.pointer (some ⟨w.heap.size, 0, none⟩), .pointer (some ⟨w.heap.size + 1, 0, none⟩)])) :
    LW (w3.setCell ⟨wb, 0, none⟩ v') B wb s0 s1 s2 s3 v' (S ++ [⟨w.heap.size, none, w.heap.size + 1, n, []⟩]) ∧ w3.heap[wb]? = some (.cells #[v] 60 (0, 0)) ∧ Below B w (w3.setCell ⟨wb, 0, none⟩ v') := by
  have hBs := h.un.se.size
  have hb3 : Below w.heap.size w (((w.alloc (.cells #[.int .i32 0, .int .u32 0, .int .i64 n, .slice none 0 0] 77)).alloc (.cells #[.int .i64 n, .slice none 0 0] 180)).alloc o) := below_alloc3 w _ _ _
  have h3 := h.kept hb3
  have hwb : w3.heap[wb]? = some (.cells #[v] 60 (0, 0)) := by
    rw [hg.block wb (blk_lt h3.blk) (own_ne h3.own h3.blk (by decide))]; exact h3.blk
  have bB : Below B (((w.alloc (.cells #[.int .i32 0, .int .u32 0, .int .i64 n, .slice none 0 0] 77)).alloc (.cells #[.int .i64 n, .slice none 0 0] 180)).alloc o) (w3.setCell ⟨wb, 0, none⟩ v') :=
    ((Below.refl B _).grown hg h3.un.se.size (fun k hk => (h3.own.lt k hk).1)).setCell (p := ⟨wb, 0, none⟩) h.wb _
  have same : ∀ (k : Nat) (cs : Array Value) (t : TypeId), (((w.alloc (.cells #[.int .i32 0, .int .u32 0, .int .i64 n, .slice none 0 0] 77)).alloc (.cells #[.int .i64 n, .slice none 0 0] 180)).alloc o).heap[k]? = some (Obj.cells cs t (0, 0)) → t ≠ 127 → t ≠ 60 → (w3.setCell ⟨wb, 0, none⟩ v').heap[k]? = (((w.alloc (.cells #[.int .i32 0, .int .u32 0, .int .i64 n, .slice none 0 0] 77)).alloc (.cells #[.int .i64 n, .slice none 0 0] 180)).alloc o).heap[k]? := fun k cs t hk t1 t2 => by
    have e1 := hg.block k (blk_lt hk) (own_ne h3.own hk t1)
    rw [Below.heap_setCell _ _ _ _ (fun e => blk_two (e1.trans hk) hwb t2 e)]
    exact e1
  refine ⟨⟨h3.un.kept bB, blk_set_same (i := 0) hwb v', ?_, ?_, ?_, h.wb⟩, hwb, (hb3.mono hBs).trans bB⟩
  · rw [prCells_append, List.length_append]
    exact owns_set ho (own_ne ho hwb (by decide)) v'
  · intro s hs
    rw [List.mem_append] at hs
    rcases hs with hs | hs
    · exact (h3.each s hs).same same
    · simp only [List.mem_singleton] at hs
      subst hs
      exact ((st_new w B n hBs hn).kept (below_alloc1 _ _)).same same
  · rw [List.pairwise_append]
    refine ⟨h.apart, List.pairwise_singleton _ _, fun s hs t ht => ?_⟩
    simp only [List.mem_singleton] at ht
    subst ht
    obtain ⟨c, hc⟩ := (h.each s hs).ov.blk
    obtain ⟨d, hd⟩ := (h.each s hs).ref.blk
    have l1 := blk_lt hc
    have l2 := blk_lt hd
    refine ⟨fun e => by simp only at e; omega, fun e => by simp only at e; omega, ?_⟩
    by_cases hr : s.rx = none
    · exact Or.inl hr
    · exact Or.inr hr

def pickN (c : Int) (n : Nat) : Nat := if c < 0 then (-(c + 1)).toNat % n else c.toNat % n
theorem pickN_lt (c : Int) {n : Nat} (h : 1 ≤ n) : pickN c n < n := by unfold pickN; split <;> exact Nat.mod_lt _ h
end Go.Proofs.YtomiepknmmpflaaGreatDoor

namespace Go.Proofs.YtomiepknmmpflaaGreatDoor
open Go.RowKit Go.Joins

theorem add_next (b : Addr) (m t : Nat) (h : 1 ≤ t) : (⟨(b.add m).block, (b.add m).off + t, none⟩ : Addr) = b.add (m + t) := by
  unfold Addr.add
  by_cases hm : m = 0
  · subst hm
    simp
    omega
  · rw [if_neg hm, if_neg (by omega)]
    simp; omega
end Go.Proofs.YtomiepknmmpflaaGreatDoor

namespace Go.Proofs.YtomiepknmmpflaaGreatDoor
open Go.ChangeShapes Go.WideShapes Go.ChangeAt Go.RowKit

theorem Tryz.own : ownKnob Tryz.prog.godebug = none := by kernel_rfl
theorem Tryz.g0 : Tryz.prog.globalNamed "overlay/overlay.errNone" = some 0 := by kernel_rfl
theorem Tryz.g1 : Tryz.prog.globalNamed "overlay/overlay.errMissing" = some 1 := by kernel_rfl
theorem Tryz.g2 : Tryz.prog.globalNamed "overlay/overlay.errCycle" = some 2 := by kernel_rfl
theorem Tryz.g3 : Tryz.prog.globalNamed "overlay/overlay.errCorrupt" = some 3 := by kernel_rfl
theorem Tryz.g4 : Tryz.prog.globalNamed "errors.errorType" = some 4 := by kernel_rfl
theorem Tryz.gt0 : (Tryz.prog.globals[0]?).map (·.type) = some 80 := by kernel_rfl
theorem Tryz.gt1 : (Tryz.prog.globals[1]?).map (·.type) = some 80 := by kernel_rfl
theorem Tryz.gt2 : (Tryz.prog.globals[2]?).map (·.type) = some 80 := by kernel_rfl
theorem Tryz.gt3 : (Tryz.prog.globals[3]?).map (·.type) = some 80 := by kernel_rfl
theorem Tryz.cellsES : Tryz.prog.cellsOf 312 = 1 := by kernel_rfl
theorem Tryz.cellsS : Tryz.prog.cellsOf 9 = 1 := by kernel_rfl
theorem Tryz.rt : (Tryz.prog.cutTypes.find? (·.1 == "internal/reflectlite.rtype")).map (·.2) = some 259 := by kernel_rfl
theorem Tryz.tsize : Tryz.prog.types.size = 324 := by kernel_rfl
theorem Tryz.oneRow : ((List.range 324).filter fun t => Tryz.prog.rowNamed t [101, 114, 114, 111, 114]) = [80] := by kernel_rfl
theorem Tryz.star : "*" ++ "errors.errorString" = "*errors.errorString" := by decide
theorem Tryz.rowES (u : TypeId) (h : Tryz.prog.typeName? 3 u = some "*errors.errorString") : u = 293 :=
  typeName_ptr_named (nm := "errors.errorString") (by rw [Tryz.star]; kernel_rfl) (by kernel_rfl) (by decide) u (by rw [Tryz.star]; exact h)
theorem door_met (os : Os) (args : Array Value) : laidMetH Tryz.prog Rows.filesRow.laid ((World.doorLaid Tryz.prog 4000 os).forCall (fun _ _ => 0) ⟨#[], args, []⟩).memory :=
  laidMetH_of_parts3 (fuel := 8) (laidMet_of_run' 8 (by kernel_rfl) (by kernel_rfl)) (by kernel_rfl) (by kernel_rfl)

theorem laid_four {P : Program} {n0 n1 n2 n3 nm : String} {x0 x1 x2 x3 : List UInt8} {W : World} {g0 g1 g2 g3 : Nat} {ti tp te ts : TypeId} {ms : Array (String × TypeId)} {f : Field}
    (h : laidMet P [(n0, .iface nm (.ptr (.agg [.lit (.string x0)]))), (n3, .iface nm (.ptr (.agg [.lit (.string x3)]))), (n1, .iface nm (.ptr (.agg [.lit (.string x1)]))), (n2, .iface nm (.ptr (.agg [.lit (.string x2)])))] W)
    (k0 : P.globalNamed n0 = some g0) (k1 : P.globalNamed n1 = some g1) (k2 : P.globalNamed n2 = some g2) (k3 : P.globalNamed n3 = some g3)
    (j0 : (P.globals[g0]?).map (·.type) = some ti) (j1 : (P.globals[g1]?).map (·.type) = some ti) (j2 : (P.globals[g2]?).map (·.type) = some ti) (j3 : (P.globals[g3]?).map (·.type) = some ti)
    (hi : P.underlying ti = some (.interface ms)) (hrow : ∀ u, P.typeName? 3 u = some nm → u = tp) (hp : P.underlying tp = some (.pointer te)) (he : P.underlying te = some (.struct #[f])) (hft : f.type = ts) (hfo : f.offset = 0) (hs : P.underlying ts = some .string) (hc : P.cellsOf te = 1) (hcs : P.cellsOf ts = 1) :
    ∃ a0 a1 a2 a3 : Addr, (W.cell? ⟨g0, 0, none⟩ = some (.iface tp (.pointer (some a0))) ∧ W.cell? ⟨g1, 0, none⟩ = some (.iface tp (.pointer (some a1))) ∧ W.cell? ⟨g2, 0, none⟩ = some (.iface tp (.pointer (some a2))) ∧ W.cell? ⟨g3, 0, none⟩ = some (.iface tp (.pointer (some a3)))) ∧
      ((∃ c t, W.heap[a0.block]? = some (.cells c t (0, 0))) ∧ (∃ c t, W.heap[a1.block]? = some (.cells c t (0, 0))) ∧ (∃ c t, W.heap[a2.block]? = some (.cells c t (0, 0))) ∧ (∃ c t, W.heap[a3.block]? = some (.cells c t (0, 0)))) ∧
      a0 ≠ a1 ∧ a0 ≠ a2 ∧ a0 ≠ a3 ∧ a1 ≠ a2 ∧ a1 ≠ a3 ∧ a2 ≠ a3 := by
  obtain ⟨ps, ⟨g0', t0', cs0, f0, p0, q0, hg0, ht0, hv0, hd0, ⟨g3', t3', cs3, f3, p3, q3, hg3, ht3, hv3, hd3, ⟨g1', t1', cs1, f1, p1, q1, hg1, ht1, hv1, hd1, ⟨g2', t2', cs2, f2, p2, q2, hg2, ht2, hv2, hd2, _, e2⟩, e1⟩, e3⟩, e0⟩, hnd, hrows⟩ := h
  obtain rfl := Option.some.inj (k0.symm.trans hg0)
  obtain rfl := Option.some.inj (k1.symm.trans hg1)
  obtain rfl := Option.some.inj (k2.symm.trans hg2)
  obtain rfl := Option.some.inj (k3.symm.trans hg3)
  obtain rfl := Option.some.inj (j0.symm.trans ht0)
  obtain rfl := Option.some.inj (j1.symm.trans ht1)
  obtain rfl := Option.some.inj (j2.symm.trans ht2)
  obtain rfl := Option.some.inj (j3.symm.trans ht3)
  subst e2; subst e1; subst e3; subst e0
  obtain ⟨l0⟩ := cs0
  obtain ⟨l1⟩ := cs1
  obtain ⟨l2⟩ := cs2
  obtain ⟨l3⟩ := cs3
  have ok0 : ∀ u v, l0 = [.iface u v] → Value.okWide P W .any 0 u v := fun u v e => by
    subst e
    exact (hrows g0 0 (by simp [MemPlace.row])).2 u v (by simpa using World.var?_cell hg0 hv0 0)
  have ok1 : ∀ u v, l1 = [.iface u v] → Value.okWide P W .any 0 u v := fun u v e => by
    subst e
    exact (hrows g1 0 (by simp [MemPlace.row])).2 u v (by simpa using World.var?_cell hg1 hv1 0)
  have ok2 : ∀ u v, l2 = [.iface u v] → Value.okWide P W .any 0 u v := fun u v e => by
    subst e
    exact (hrows g2 0 (by simp [MemPlace.row])).2 u v (by simpa using World.var?_cell hg2 hv2 0)
  have ok3 : ∀ u v, l3 = [.iface u v] → Value.okWide P W .any 0 u v := fun u v e => by
    subst e
    exact (hrows g3 0 (by simp [MemPlace.row])).2 u v (by simpa using World.var?_cell hg3 hv3 0)
  obtain ⟨a0, y0, rfl, _, _, _, rfl⟩ := errorString_of_trod hi hrow hp he hft hfo hs hc hcs hd0 ok0
  obtain ⟨a1, y1, rfl, _, _, _, rfl⟩ := errorString_of_trod hi hrow hp he hft hfo hs hc hcs hd1 ok1
  obtain ⟨a2, y2, rfl, _, _, _, rfl⟩ := errorString_of_trod hi hrow hp he hft hfo hs hc hcs hd2 ok2
  obtain ⟨a3, y3, rfl, _, _, _, rfl⟩ := errorString_of_trod hi hrow hp he hft hfo hs hc hcs hd3 ok3
  have b0 := (hrows a0.block a0.off (by simp [MemPlace.row])).1
  have b1 := (hrows a1.block a1.off (by simp [MemPlace.row])).1
  have b2 := (hrows a2.block a2.off (by simp [MemPlace.row])).1
  have b3 := (hrows a3.block a3.off (by simp [MemPlace.row])).1
  refine ⟨a0, a1, a2, a3, ⟨by simpa using World.var?_cell hg0 hv0 0, by simpa using World.var?_cell hg1 hv1 0, by simpa using World.var?_cell hg2 hv2 0, by simpa using World.var?_cell hg3 hv3 0⟩, ⟨b0, b1, b2, b3⟩, ?_, ?_, ?_, ?_, ?_, ?_⟩
  all_goals (rintro rfl; simp [MemPlace.row] at hnd)

theorem sents_of_laid {W : World} (h : laidMet Tryz.prog [("overlay/overlay.errNone", Rows.laid_overlay_overlay_errNone), ("overlay/overlay.errCorrupt", Rows.laid_overlay_overlay_errCorrupt), ("overlay/overlay.errMissing", Rows.laid_overlay_overlay_errMissing), ("overlay/overlay.errCycle", Rows.laid_overlay_overlay_errCycle)] W) (h4 : 4 < W.heap.size) :
    ∃ s0 s1 s2 s3, Sents W W.heap.size s0 s1 s2 s3 := by
  obtain ⟨a0, a1, a2, a3, ⟨c0, c1, c2, c3⟩, ⟨b0, b1, b2, b3⟩, n01, n02, n03, n12, n13, n23⟩ := laid_four h Tryz.g0 Tryz.g1 Tryz.g2 Tryz.g3 Tryz.gt0 Tryz.gt1 Tryz.gt2 Tryz.gt3 Tryz.underlying80 Tryz.rowES Tryz.underlying293 Tryz.underlying312 rfl rfl Tryz.underlying9 Tryz.cellsES Tryz.cellsS
  exact ⟨a0, a1, a2, a3, { g0 := c0, g1 := c1, g2 := c2, g3 := c3, b0 := b0, b1 := b1, b2 := b2, b3 := b3, n01 := n01, n02 := n02, n03 := n03, n12 := n12, n13 := n13, n23 := n23, l := h4, l0 := by obtain ⟨c, t, e⟩ := b0; exact blk_lt e, l1 := by obtain ⟨c, t, e⟩ := b1; exact blk_lt e, l2 := by obtain ⟨c, t, e⟩ := b2; exact blk_lt e, l3 := by obtain ⟨c, t, e⟩ := b3; exact blk_lt e, size := Nat.le_refl _ }⟩

theorem under_of_laid {W : World} (h : laidMetH Tryz.prog Rows.filesRow.laid W) : ∃ s0 s1 s2 s3, Under W W.heap.size s0 s1 s2 s3 := by
  have h' : laidMet Tryz.prog [("math/bits.deBruijn32tab", Rows.laid_math_bits_deBruijn32tab), ("math/bits.deBruijn64tab", Rows.laid_math_bits_deBruijn64tab), ("internal/strconv.uint64pow10", Rows.laid_internal_strconv_uint64pow10), ("overlay/overlay.errNone", Rows.laid_overlay_overlay_errNone), ("overlay/overlay.errCorrupt", Rows.laid_overlay_overlay_errCorrupt), ("overlay/overlay.errMissing", Rows.laid_overlay_overlay_errMissing), ("overlay/overlay.errCycle", Rows.laid_overlay_overlay_errCycle)] W ∧ handlesMet Tryz.prog [("errors.errorType", Rows.laid_errors_errorType)] W := h
  obtain ⟨name, u, ty, e1, e2, e3, e4, e5⟩ := h'.2 _ (List.mem_singleton.2 rfl)
  have en : name = [101, 114, 114, 111, 114] := (Option.some.inj e1).symm
  subst en
  obtain rfl := Option.some.inj (Tryz.rt.symm.trans e2)
  have hm : ty ∈ (List.range 324).filter fun t => Tryz.prog.rowNamed t [101, 114, 114, 111, 114] := List.mem_filter.2 ⟨List.mem_range.2 (by rw [← Tryz.tsize]; exact e3), e4⟩
  rw [Tryz.oneRow] at hm
  obtain rfl := List.mem_singleton.1 hm
  have hh : typeHandle Tryz.prog 80 = .pointer (some ⟨8, 80, none⟩) := by kernel_rfl
  rw [hh] at e5
  have g4 : W.cell? ⟨4, 0, none⟩ = some (.iface 259 (.agg #[.pointer (some ⟨8, 80, none⟩)])) := by simpa using World.var?_cell Tryz.g4 e5 0
  obtain ⟨s0, s1, s2, s3, hs⟩ := sents_of_laid h'.1.tail.tail.tail (cell_lt g4)
  exact ⟨s0, s1, s2, s3, hs, g4⟩

end Go.Proofs.YtomiepknmmpflaaGreatDoor

