/- THE LAW Files, PROVED: for every script and every room it returns true, and what came in reads as it did. -/
import Derived.Test.YtomiepknmmpflaaGreatDoorCWRow
import Derived.WideKeyArgs
namespace Go.Proofs.YtomiepknmmpflaaGreatDoor
open Go.ChangeShapes Go.WideShapes Go.ChangeAt Go.RowKit

theorem Tryz.cellsOp : Tryz.prog.cellsOf 63 = 7 := by kernel_rfl
theorem Tryz.cellsI : Tryz.prog.cellsOf 3 = 1 := by kernel_rfl
theorem Tryz.bytesOp : Tryz.prog.bytesOf 63 = 80 := by kernel_rfl
theorem drop_one {v : List Value} {o : Nat} {x : Value} (h : (v.drop o).take 1 = [x]) : v[o]? = some x := by
  have := congrArg (fun l => l[0]?) h
  simp only [List.getElem?_take, List.getElem?_drop] at this
  simpa using this
theorem addr_add_add (a : Addr) (i j : Nat) : (a.add i).add j = a.add (i + j) := by
  unfold Addr.add
  by_cases hi : i = 0
  · subst hi; simp
  · by_cases hj : j = 0
    · subst hj; simp
    · simp [hi, hj]; omega

theorem script_of {H : Type} {enc : TypeId × Value → H} {W : World} {sp : Nat → Bool} {fuel : Nat} {x : DataW H × List MemPlace} {a : Option Addr} {len cap : Nat} (h : DataW.trod enc Tryz.prog W 0 sp true fuel 22 [.slice a len cap] = some x) :
    (a = none → len = 0) ∧ (∀ b, a = some b → (1 ≤ len → b.block < W.heap.size) ∧ Script W b len) ∧ (a = none ∨ ∃ e s, x.1 = .slice e s ∧ e.length = len) := by
  rcases Go.Deep.open_slice Tryz.underlying22 h with ⟨hcs, hx⟩ | ⟨b, l, c, m, n, D, Pl, hcs, _, hl, hm, hmm, hx, hel⟩
  · simp only [List.cons.injEq, Value.slice.injEq, and_true] at hcs
    obtain ⟨rfl, rfl, rfl⟩ := hcs
    exact ⟨fun _ => rfl, (fun b e => by simp at e), Or.inl rfl⟩
  · simp only [List.cons.injEq, Value.slice.injEq, and_true] at hcs
    obtain ⟨rfl, rfl, rfl⟩ := hcs
    have hlm : len ≤ m := by rw [hmm]; split <;> omega
    have sc : Script W b len := by
      intro i hi
      obtain ⟨cs, h1, h2⟩ := hel i (by omega)
      rw [Tryz.cellsOp] at h1
      obtain ⟨_, hlen, hcell⟩ := World.cells?_some h1
      obtain ⟨xs, q, _, _, _, hxl, hf⟩ := DataW.trod_struct Tryz.underlying63 h2
      have hc : ∀ t, t < 7 → W.cell? (b.add (i * 7 + t)) = cs[t]? := fun t ht => by rw [← addr_add_add]; exact hcell t ht
      have int_at : ∀ t (f : Field), t < 7 → f.type = 3 → f.offset = t → (∃ y, DataW.trod enc Tryz.prog W 0 sp true q f.type ((cs.drop f.offset).take (Tryz.prog.cellsOf f.type)) = some y) → ∃ z, cs[t]? = some (.int .i64 z) ∧ (Lit.int .i64 z).wf = true := fun t f ht hty hof ⟨y, hy⟩ => by
        rw [hty, hof, Tryz.cellsI] at hy
        obtain ⟨z, hz, _, hw⟩ := DataW.trod_int Tryz.underlying3 hy
        exact ⟨z, drop_one hz, hw⟩
      have str_at : ∀ t (f : Field), t < 7 → f.type = 9 → f.offset = t → (∃ y, DataW.trod enc Tryz.prog W 0 sp true q f.type ((cs.drop f.offset).take (Tryz.prog.cellsOf f.type)) = some y) → ∃ z, cs[t]? = some (.string z) ∧ z.size ≤ maxLen := fun t f ht hty hof ⟨y, hy⟩ => by
        rw [hty, hof, Tryz.cellsS] at hy
        obtain ⟨z, hz, _, hw⟩ := DataW.trod_string Tryz.underlying9 hy
        exact ⟨z, drop_one hz, hw⟩
      have some_at : ∀ t, t < 7 → ∃ y, xs[t]? = some y := fun t ht => ⟨_, List.getElem?_eq_getElem (by rw [hxl]; exact ht)⟩
      obtain ⟨y0, e0⟩ := some_at 0 (by omega)
      obtain ⟨y1, e1⟩ := some_at 1 (by omega)
      obtain ⟨y2, e2⟩ := some_at 2 (by omega)
      obtain ⟨y3, e3⟩ := some_at 3 (by omega)
      obtain ⟨y4, e4⟩ := some_at 4 (by omega)
      obtain ⟨y5, e5⟩ := some_at 5 (by omega)
      obtain ⟨y6, e6⟩ := some_at 6 (by omega)
      obtain ⟨z0, f0, _⟩ := int_at 0 _ (by omega) rfl rfl ⟨y0, (hf 0 _ rfl).trans e0⟩
      obtain ⟨z1, f1, w1⟩ := int_at 1 _ (by omega) rfl rfl ⟨y1, (hf 1 _ rfl).trans e1⟩
      obtain ⟨z2, f2, w2⟩ := int_at 2 _ (by omega) rfl rfl ⟨y2, (hf 2 _ rfl).trans e2⟩
      obtain ⟨z3, f3, w3⟩ := int_at 3 _ (by omega) rfl rfl ⟨y3, (hf 3 _ rfl).trans e3⟩
      obtain ⟨z4, f4, _⟩ := str_at 4 _ (by omega) rfl rfl ⟨y4, (hf 4 _ rfl).trans e4⟩
      obtain ⟨z5, f5, _⟩ := str_at 5 _ (by omega) rfl rfl ⟨y5, (hf 5 _ rfl).trans e5⟩
      obtain ⟨z6, f6, w6⟩ := str_at 6 _ (by omega) rfl rfl ⟨y6, (hf 6 _ rfl).trans e6⟩
      have hr := bounds_i64 w1
      exact ⟨z0, z1, z2, z3, z4, z5, z6, ⟨hr.1, hr.2, (bounds_i64 w2).1, (bounds_i64 w2).2, (bounds_i64 w3).1, (bounds_i64 w3).2, by unfold maxLen at w6; omega⟩, (hc 0 (by omega)).trans f0, (hc 1 (by omega)).trans f1, (hc 2 (by omega)).trans f2, (hc 3 (by omega)).trans f3, (hc 4 (by omega)).trans f4, (hc 5 (by omega)).trans f5, (hc 6 (by omega)).trans f6⟩
    exact ⟨(fun e => by simp at e), (fun b' e => by
      obtain rfl := Option.some.inj e
      refine ⟨fun h1 => ?_, sc⟩
      obtain ⟨k, W', x', y', nm, ot, tx, _, d0, _⟩ := sc 0 (by omega)
      have := cell_lt d0
      rw [add_block] at this
      exact this), Or.inr ⟨_, _, by rw [hx], by simp⟩⟩

def StepsTrue (top : Int) : Prop := ∀ (s0 s1 s2 s3 : Addr) (B wb : Nat) (v : Value) (S : List St) (k W x y : Int) (nm ot tx : ByteArray) (w1 : World), LW w1 B wb s0 s1 s2 s3 v S → k ≤ top → S.length ≤ 5000000000000 → OpOk W x y tx → Calls Tryz.prog 41 #[.pointer (some ⟨wb, 0, none⟩), .agg #[.int .i64 k, .int .i64 W, .int .i64 x, .int .i64 y, .string nm, .string ot, .string tx]] w1 (StepPost B wb s0 s1 s2 s3 S.length w1)

end Go.Proofs.YtomiepknmmpflaaGreatDoor

