/- THE LAW Files, PROVED: for every script and every room it returns true, and what came in reads as it did. -/
import Derived.Test.YtomiepknmmpflaaGreatDoorCWRow
import Derived.WideKeyArgs
namespace Go.Proofs.YtomiepknmmpflaaGreatDoor
open Go.ChangeShapes Go.WideShapes Go.ChangeAt Go.RowKit

theorem Tryz.cellsOp : Tryz.prog.cellsOf 63 = 7 := by kernel_rfl
theorem Tryz.cellsI : Tryz.prog.cellsOf 3 = 1 := by kernel_rfl
theorem Tryz.bytesOp : Tryz.prog.bytesOf 63 = 80 := by kernel_rfl
theorem drop_one {v : List Value} {o : Nat} {x : Value} (h : (v.drop o).take 1 = [x]) : v[o]? = some x := by
  have := congrArg (fun l => l[0]?) h
  simp only [List.getElem?_take, List.getElem?_drop] at this
  simpa using this
theorem addr_add_add (a : Addr) (i j : Nat) : (a.add i).add j = a.add (i + j) := by
  unfold Addr.add
  by_cases hi : i = 0
  · subst hi; simp
  · by_cases hj : j = 0
    · subst hj; simp
    · simp [hi, hj]; omega

/-- The script, opened: each step's seven cells. -/
theorem script_of {H : Type} {enc : TypeId × Value → H} {W : World} {sp : Nat → Bool} {fuel : Nat} {x : DataW H × List MemPlace} {a : Option Addr} {len cap : Nat} (h : DataW.trod enc Tryz.prog W 0 sp true fuel 22 [.slice a len cap] = some x) :
    (a = none → len = 0) ∧ (∀ b, a = some b → (1 ≤ len → b.block < W.heap.size) ∧ Script W b len) ∧ (a = none ∨ ∃ e s, x.1 = .slice e s ∧ e.length = len) := by
  rcases Go.Deep.open_slice Tryz.underlying22 h with ⟨hcs, hx⟩ | ⟨b, l, c, m, n, D, Pl, hcs, _, hl, hm, hmm, hx, hel⟩
  · simp only [List.cons.injEq, Value.slice.injEq, and_true] at hcs
    obtain ⟨rfl, rfl, rfl⟩ := hcs
    exact ⟨fun _ => rfl, (fun b e => by simp at e), Or.inl rfl⟩
  · simp only [List.cons.injEq, Value.slice.injEq, and_true] at hcs
    obtain ⟨rfl, rfl, rfl⟩ := hcs
    have hlm : len ≤ m := by rw [hmm]; split <;> omega
    have sc : Script W b len := by
      intro i hi
      obtain ⟨cs, h1, h2⟩ := hel i (by omega)
      rw [Tryz.cellsOp] at h1
      obtain ⟨_, hlen, hcell⟩ := World.cells?_some h1
      obtain ⟨xs, q, _, _, _, hxl, hf⟩ := DataW.trod_struct Tryz.underlying63 h2
      have hc : ∀ t, t < 7 → W.cell? (b.add (i * 7 + t)) = cs[t]? := fun t ht => by rw [← addr_add_add]; exact hcell t ht
      have int_at : ∀ t (f : Field), t < 7 → f.type = 3 → f.offset = t → (∃ y, DataW.trod enc Tryz.prog W 0 sp true q f.type ((cs.drop f.offset).take (Tryz.prog.cellsOf f.type)) = some y) → ∃ z, cs[t]? = some (.int .i64 z) ∧ (Lit.int .i64 z).wf = true := fun t f ht hty hof ⟨y, hy⟩ => by
        rw [hty, hof, Tryz.cellsI] at hy
        obtain ⟨z, hz, _, hw⟩ := DataW.trod_int Tryz.underlying3 hy
        exact ⟨z, drop_one hz, hw⟩
      have str_at : ∀ t (f : Field), t < 7 → f.type = 9 → f.offset = t → (∃ y, DataW.trod enc Tryz.prog W 0 sp true q f.type ((cs.drop f.offset).take (Tryz.prog.cellsOf f.type)) = some y) → ∃ z, cs[t]? = some (.string z) ∧ z.size ≤ maxLen := fun t f ht hty hof ⟨y, hy⟩ => by
        rw [hty, hof, Tryz.cellsS] at hy
        obtain ⟨z, hz, _, hw⟩ := DataW.trod_string Tryz.underlying9 hy
        exact ⟨z, drop_one hz, hw⟩
      have some_at : ∀ t, t < 7 → ∃ y, xs[t]? = some y := fun t ht => ⟨_, List.getElem?_eq_getElem (by rw [hxl]; exact ht)⟩
      obtain ⟨y0, e0⟩ := some_at 0 (by omega)
      obtain ⟨y1, e1⟩ := some_at 1 (by omega)
      obtain ⟨y2, e2⟩ := some_at 2 (by omega)
      obtain ⟨y3, e3⟩ := some_at 3 (by omega)
      obtain ⟨y4, e4⟩ := some_at 4 (by omega)
      obtain ⟨y5, e5⟩ := some_at 5 (by omega)
      obtain ⟨y6, e6⟩ := some_at 6 (by omega)
      obtain ⟨z0, f0, _⟩ := int_at 0 _ (by omega) rfl rfl ⟨y0, (hf 0 _ rfl).trans e0⟩
      obtain ⟨z1, f1, w1⟩ := int_at 1 _ (by omega) rfl rfl ⟨y1, (hf 1 _ rfl).trans e1⟩
      obtain ⟨z2, f2, w2⟩ := int_at 2 _ (by omega) rfl rfl ⟨y2, (hf 2 _ rfl).trans e2⟩
      obtain ⟨z3, f3, w3⟩ := int_at 3 _ (by omega) rfl rfl ⟨y3, (hf 3 _ rfl).trans e3⟩
      obtain ⟨z4, f4, _⟩ := str_at 4 _ (by omega) rfl rfl ⟨y4, (hf 4 _ rfl).trans e4⟩
      obtain ⟨z5, f5, _⟩ := str_at 5 _ (by omega) rfl rfl ⟨y5, (hf 5 _ rfl).trans e5⟩
      obtain ⟨z6, f6, w6⟩ := str_at 6 _ (by omega) rfl rfl ⟨y6, (hf 6 _ rfl).trans e6⟩
      have hr := bounds_i64 w1
      exact ⟨z0, z1, z2, z3, z4, z5, z6, ⟨hr.1, hr.2, (bounds_i64 w2).1, (bounds_i64 w2).2, (bounds_i64 w3).1, (bounds_i64 w3).2, by unfold maxLen at w6; omega⟩, (hc 0 (by omega)).trans f0, (hc 1 (by omega)).trans f1, (hc 2 (by omega)).trans f2, (hc 3 (by omega)).trans f3, (hc 4 (by omega)).trans f4, (hc 5 (by omega)).trans f5, (hc 6 (by omega)).trans f6⟩
    exact ⟨(fun e => by simp at e), (fun b' e => by
      obtain rfl := Option.some.inj e
      refine ⟨fun h1 => ?_, sc⟩
      obtain ⟨k, W', x', y', nm, ot, tx, _, d0, _⟩ := sc 0 (by omega)
      have := cell_lt d0
      rw [add_block] at this
      exact this), Or.inr ⟨_, _, by rw [hx], by simp⟩⟩

/-- What the walks of a step say. -/
def StepsTrue (top : Int) : Prop := ∀ (s0 s1 s2 s3 : Addr) (B wb : Nat) (v : Value) (S : List St) (k W x y : Int) (nm ot tx : ByteArray) (w1 : World), LW w1 B wb s0 s1 s2 s3 v S → k ≤ top → S.length ≤ 5000000000000 → OpOk W x y tx → Calls Tryz.prog 41 #[.pointer (some ⟨wb, 0, none⟩), .agg #[.int .i64 k, .int .i64 W, .int .i64 x, .int .i64 y, .string nm, .string ot, .string tx]] w1 (StepPost B wb s0 s1 s2 s3 S.length w1)

set_option maxRecDepth 100000 in
theorem lifted (step : StepsTrue 7) (os : Os) (started : os.Started) (H : Type) (enc : TypeId × Value → H) :
    ReturnsInHanded {} Tryz.checked os 3 .any (fun w args => (Rows.filesSpec.pre enc Tryz.prog Tryz.f3 [] false w args ∧ laidMetH Tryz.prog Rows.filesRow.laid w) ∧ sizedMet enc Tryz.prog Tryz.f3 (OpenSpec.ofChange Rows.filesSpec) false w args)
      (Rows.filesSpec.post enc Tryz.prog Tryz.f3 false true false false) := by
  refine returnsInHanded_of_change_and (C := Tryz.checked) (X := fun w _ => laidMetH Tryz.prog Rows.filesRow.laid w) (fun _ _ _ hh h => h.of_heap hh) Tryz.own started (by kernel_rfl) Tryz.func3
    (ChangeSpec.witness_shaped (enc := enc) (C := Tryz.checked) (os := os) (X := fun w _ => laidMetH Tryz.prog Rows.filesRow.laid w) false (World.doorLaid Tryz.prog 4000 os) #[.slice none 0 0, .int .i64 0] 8 rfl (World.shaped_of_RefB (by kernel_rfl) (by kernel_rfl)) (by kernel_rfl) (by kernel_rfl) (by kernel_rfl) (door_met os _)) ?_
  intro W base args ds gs before hval0 hW _ hsz0 hL _
  have hval : ∀ (j : Nat) t v, Tryz.f3.params[j]? = some t → args[j]? = some v → Value.okWide Tryz.prog W .any base t v := hval0
  have hW' := hW
  obtain ⟨p, q, hA0, hV, rfl, hfz, hnd⟩ := hW
  have hA : DataW.TrodAll enc Tryz.prog W 0 (fun _ => true) true Tryz.f3.params.toList args.toList ds p := hA0
  have hsz : (DataW.weightsEach Tryz.prog (Tryz.f3.params.toList ++ Rows.filesSpec.plain.varTypes Tryz.prog) (ds ++ gs)).all (· ≤ reachBytes) = true := hsz0
  rw [Tryz.params3] at hA hval hsz
  obtain ⟨v0, v1, d0, d1, p0, p1, rfl, rfl, rfl, h0, h1⟩ := trodAll_two hA
  obtain ⟨rfl, rfl⟩ := trodVars_none hV
  obtain ⟨a, len, cap, rfl⟩ := okWide_slice Tryz.underlying22 (hval 0 22 v0 rfl rfl)
  obtain ⟨room, rfl, rfl, rfl, hwn⟩ := open_int Tryz.underlying3 (hval 1 3 v1 rfl rfl) h1
  obtain ⟨fuel, hf⟩ := id h0
  obtain ⟨hnone, hsc, hd⟩ := script_of (show DataW.trod enc Tryz.prog W 0 (fun _ => true) true fuel 22 [.slice a len cap] = some (d0, p0) from hf)
  have hlen : len ≤ 2000000000000 := by
    rcases hd with rfl | ⟨e, sp, rfl, he⟩
    · rw [hnone rfl]; omega
    · have := sized_slice hsz (j := 0) (t := 22) (e := 63) rfl rfl Tryz.underlying22
      rw [Tryz.bytesOp, he] at this
      simp only [reachBytes] at this
      omega
  obtain ⟨s0, s1, s2, s3, hu⟩ := under_of_laid hL
  have hr := bounds_i64 hwn
  have e1 : Rows.filesSpec.fn H ([d0, .lit (.int .i64 room)] ++ []) = { results := [.lit (.bool true)], args := [d0, .lit (.int .i64 room)] } := by simp [Rows.filesSpec]
  have hlt : ∀ x ∈ p0, x.block < W.heap.size := fun x hx => hW'.lt x (by simp [hx])
  refine (lFiles_of W a len cap room (lplays_calls 7 W a len cap room s0 s1 s2 s3 hu hr.1 hr.2 hlen hsc hnone (step s0 s1 s2 s3))).mono fun e W' ⟨he, hb⟩ => ?_
  subst he
  refine ⟨_, rfl, _, _, _, [], p0 ++ [], [], hW', ?_, ?_, ?_, hb.frame _, fun h => by cases h⟩
  · rw [e1]; exact trodAll_mk1 (shut_bool Tryz.underlying4 true)
  · rw [e1]; exact trodAll_mk2 (Go.WideElems.Trod_stays (by kernel_rfl) (by kernel_rfl) (of_decide_eq_true (by kernel_rfl)) h0 (fun x hx => hb.same (hlt x hx)) (fun x hx => by simpa using hlt x hx)) (shut_int Tryz.underlying3 hwn)
  · rw [e1]; rfl

theorem files_holds_of (step : StepsTrue 7) : Rows.FilesSaid :=
  OpenClaim.holds_of_wide 3 Tryz.f3 rfl rfl rfl rfl rfl rfl rfl ⟨rfl, rfl, rfl, rfl, rfl⟩ rfl rfl rfl rfl rfl (by kernel_rfl) Tryz.func3 (by kernel_rfl)
    (of_decide_eq_true (by kernel_rfl)) (by unfold Func.isWrapper; first | (rw [if_pos (by decide +kernel)]; kernel_rfl) | (rw [if_neg (by decide +kernel)]; exact ⟨rfl, rfl⟩))
    (fun os started H enc _ => lifted step os started H enc)

end Go.Proofs.YtomiepknmmpflaaGreatDoor
