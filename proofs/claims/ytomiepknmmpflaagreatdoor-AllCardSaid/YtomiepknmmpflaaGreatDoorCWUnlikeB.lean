/- The program's saying; blocks compared. -/
import Derived.Stop.BytesEq
import Derived.Test.YtomiepknmmpflaaGreatDoorCWLawB
import Derived.OrdersHeld
import Derived.OrdersIn
import Derived.RangeFuncCalls
import Derived.TacticsIn
namespace Go.Proofs.YtomiepknmmpflaaGreatDoor
open Go.RowKit Go.Joins

theorem blkVal_cells {e : Eight} (he : ∀ j, j < 8 → e j < 256) : blkVal e = .agg ((eightOf e).map Extern.Stop.cell).toArray := by
  have h : ∀ j, j < 8 → Extern.Stop.cell (e j).toUInt8 = .int .u8 (e j : Nat) := fun j hj => by
    unfold Extern.Stop.cell
    rw [UInt8.toNat_ofNat', Nat.mod_eq_of_lt (he j hj)]
    rfl
  unfold blkVal eightOf
  show _ = Value.agg #[Extern.Stop.cell (e 0).toUInt8, Extern.Stop.cell (e 1).toUInt8, Extern.Stop.cell (e 2).toUInt8, Extern.Stop.cell (e 3).toUInt8, Extern.Stop.cell (e 4).toUInt8, Extern.Stop.cell (e 5).toUInt8, Extern.Stop.cell (e 6).toUInt8, Extern.Stop.cell (e 7).toUInt8]
  rw [h 0 (by omega), h 1 (by omega), h 2 (by omega), h 3 (by omega), h 4 (by omega), h 5 (by omega), h 6 (by omega), h 7 (by omega)]
theorem eightOf_inj {e f : Eight} (he : ∀ j, j < 8 → e j < 256) (hf : ∀ j, j < 8 → f j < 256) : eightOf e = eightOf f ↔ ∀ j, j < 8 → e j = f j := by
  constructor
  · intro h j hj
    rw [← eightOf_at hj (he j hj), ← eightOf_at hj (hf j hj), h]
  · intro h
    unfold eightOf
    exact List.map_congr_left fun j hj => by rw [h j (by simpa using hj)]
def sameB (e f : Eight) : Bool := eightOf e == eightOf f
theorem sameB_iff {e f : Eight} (he : ∀ j, j < 8 → e j < 256) (hf : ∀ j, j < 8 → f j < 256) : sameB e f = true ↔ ∀ j, j < 8 → e j = f j := by
  unfold sameB
  rw [beq_iff_eq, eightOf_inj he hf]
theorem size_u8 (W : World) : (sizeOf 5).run Tryz.prog W = .ok 1 W := by
  obtain ⟨i0, hi, hz0, hz1, hz2⟩ := info_parts (show (Tryz.prog.info? 5).map (fun i => (i.zero, i.size, i.bytes)) = some (some (.int .u8 0), 1, 1) by kernel_rfl)
  rw [← hz1]
  simp [sizeOf, typeInfo, hi]
theorem eq_block {e f : Eight} (he : ∀ j, j < 8 → e j < 256) (hf : ∀ j, j < 8 → f j < 256) (W : World) : (Op.equalIn 10000 158 (blkVal e) (blkVal f)).run Tryz.prog W = .ok (sameB e f) W := by
  rw [blkVal_cells he, blkVal_cells hf]
  exact run_equalIn_bytes W 9998 158 5 8 (by kernel_rfl) (by kernel_rfl) size_u8 _ _ (eightOf_length e) (eightOf_length f)
def sayQ (e : Eight) : Int := if sameB e (fun _ => 0) = true then 1 else 2
def sayD (e : Eight) : Eight := if sameB e (fun _ => 0) = true then fun _ => 0 else e

set_option maxRecDepth 100000 in
set_option maxHeartbeats 1000000 in
theorem osaying_calls (e : Eight) (he : ∀ j, j < 8 → e j < 256) (w : World) :
    Calls Tryz.prog 148 #[blkVal e] w fun r w' => r = .returned (clVal (sayQ e) (sayD e)) ∧ Below w.heap.size w w' := by
  have hq : ∀ W, (Op.equalIn 10000 158 (blkVal e) (.agg #[.int .u8 0, .int .u8 0, .int .u8 0, .int .u8 0, .int .u8 0, .int .u8 0, .int .u8 0, .int .u8 0])).run Tryz.prog W = .ok (sameB e (fun _ => 0)) W := fun W => eq_block (f := fun _ => 0) he (fun j _ => Nat.zero_lt_succ _) W
  have hc : sameB e (fun _ => 0) = true ∨ sameB e (fun _ => 0) = false := by cases sameB e (fun _ => 0) <;> simp
  have HV1 : Hid (sameB e (fun _ => 0) = true → clVal (sayQ e) (sayD e) = .agg #[.int .i64 1, .int .u8 0, .int .u8 0, .int .u8 0, .int .u8 0, .int .u8 0, .int .u8 0, .int .u8 0, .int .u8 0]) := fun h => by unfold sayQ sayD; rw [if_pos h, if_pos h]; rfl
  have HV2 : Hid (sameB e (fun _ => 0) = false → clVal (sayQ e) (sayD e) = .agg #[.int .i64 2, .int .u8 (e 0 : Nat), .int .u8 (e 1 : Nat), .int .u8 (e 2 : Nat), .int .u8 (e 3 : Nat), .int .u8 (e 4 : Nat), .int .u8 (e 5 : Nat), .int .u8 (e 6 : Nat), .int .u8 (e 7 : Nat)]) := fun h => by unfold sayQ sayD; rw [h]; rfl
  obtain ⟨B, hB⟩ : ∃ B, sameB e (fun _ => 0) = B := ⟨_, rfl⟩
  rw [hB] at hq hc HV1 HV2
  clear hB he
  unfold blkVal at hq ⊢
  obtain ⟨x0, h0⟩ : ∃ q, e 0 = q := ⟨_, rfl⟩
  obtain ⟨x1, h1⟩ : ∃ q, e 1 = q := ⟨_, rfl⟩
  obtain ⟨x2, h2⟩ : ∃ q, e 2 = q := ⟨_, rfl⟩
  obtain ⟨x3, h3⟩ : ∃ q, e 3 = q := ⟨_, rfl⟩
  obtain ⟨x4, h4⟩ : ∃ q, e 4 = q := ⟨_, rfl⟩
  obtain ⟨x5, h5⟩ : ∃ q, e 5 = q := ⟨_, rfl⟩
  obtain ⟨x6, h6⟩ : ∃ q, e 6 = q := ⟨_, rfl⟩
  obtain ⟨x7, h7⟩ : ∃ q, e 7 = q := ⟨_, rfl⟩
  rw [h0, h1, h2, h3, h4, h5, h6, h7] at hq HV2 ⊢
  clear h0 h1 h2 h3 h4 h5 h6 h7
  rcases hc with rfl | rfl
  · have HV := hide (unhide HV1 rfl)
    go_enter Tryz.func148, Tryz.ntmps148
    go_wp2
    exact bodyPost_ret (v := .agg #[.int .i64 1, .int .u8 0, .int .u8 0, .int .u8 0, .int .u8 0, .int .u8 0, .int .u8 0, .int .u8 0, .int .u8 0]) (by simp [results, Tryz.results148, go_sem]) rfl ⟨by rw [unhide HV], below_alloc2 w _ _⟩
  · have HV := hide (unhide HV2 rfl)
    go_enter Tryz.func148, Tryz.ntmps148
    go_wp2
    exact bodyPost_ret (v := .agg #[.int .i64 2, .int .u8 (x0 : Nat), .int .u8 (x1 : Nat), .int .u8 (x2 : Nat), .int .u8 (x3 : Nat), .int .u8 (x4 : Nat), .int .u8 (x5 : Nat), .int .u8 (x6 : Nat), .int .u8 (x7 : Nat)]) (by simp [results, Tryz.results148, go_sem]) rfl ⟨by rw [unhide HV], below_alloc2 w _ _⟩

end Go.Proofs.YtomiepknmmpflaaGreatDoor

namespace Go.Proofs.YtomiepknmmpflaaGreatDoor
open Go.RowKit Go.Joins Go.Shelf

attribute [local go_sem] Oper.semAt_some

def sel (p : Nat → Bool) (n : Nat) : List Nat := (List.range n).filter p
theorem sel_succ (p : Nat → Bool) (n : Nat) : sel p (n + 1) = if p n = true then sel p n ++ [n] else sel p n := by
  unfold sel
  rw [List.range_succ, List.filter_append]
  by_cases h : p n = true
  · rw [if_pos h]; simp [h]
  · rw [if_neg h]; simp [h]
theorem sel_prefix (p : Nat → Bool) {n m : Nat} (h : n ≤ m) : ∃ q, sel p m = sel p n ++ q := by
  induction m with
  | zero => obtain rfl : n = 0 := by omega
            exact ⟨[], by simp⟩
  | succ m ih =>
    by_cases e : n = m + 1
    · subst e; exact ⟨[], by simp⟩
    · obtain ⟨q, hq⟩ := ih (by omega)
      rw [sel_succ, hq]
      split
      · exact ⟨q ++ [m], by simp⟩
      · exact ⟨q, rfl⟩
theorem sel_at {p : Nat → Bool} {n m : Nat} (h : p n = true) (hn : n < m) : (sel p m)[(sel p n).length]? = some n := by
  obtain ⟨q, hq⟩ := sel_prefix p (show n + 1 ≤ m from hn)
  rw [hq, sel_succ, if_pos h]
  simp
theorem sel_lt {p : Nat → Bool} {n i : Nat} (h : i ∈ sel p n) : i < n ∧ p i = true := by
  unfold sel at h
  rw [List.mem_filter] at h
  exact ⟨by simpa using h.1, h.2⟩
def unl (u : Nat → Nat) (nl : Nat) (v : Nat → Nat) (k : Nat) : Bool := !sameB (fun j => u (8 * k + j)) (runAt nl v k)
theorem runAt_lt {nl : Nat} {v : Nat → Nat} (h : ∀ i, v i < 256) (k j : Nat) : runAt nl v k j < 256 := by
  unfold runAt
  split
  · exact h _
  · exact Nat.zero_lt_succ _
set_option maxRecDepth 100000 in
set_option maxHeartbeats 4000000 in
theorem ounlike1_gives (n : Nat) (hn : 1 ≤ n) (B1 B2 g m c nl base2 base : Nat) (u v : Nat → Nat) (s : Value) (w : World) (hm : m ≤ 30) (hnl : nl ≤ 30) (hu : ∀ i, u i < 256) (hv : ∀ i, v i < 256) (R : Nat → Prop) (r1 : R B1) (r2 : R B2) (rg : R g) (rs : ∀ k, s.ownBlock = some k → R k)
    (h1 : w.cell? ⟨B1, 0, none⟩ = some (.slice (some ⟨g, 0, none⟩) m c)) (h2 : w.cell? ⟨B2, 0, none⟩ = some s) (hc : OwnsRun w base2 (.slice (some ⟨g, 0, none⟩) m c) m u) (ho : OwnsRun w base s nl v) :
    GivesW Fence.wide n Tryz.prog 181 #[.pointer (some ⟨B1, 0, none⟩), .pointer (some ⟨B2, 0, none⟩)] (fun i : Nat => #[.int .i64 (i : Nat)]) (sel (unl u nl v) m) R w := by
  intro l J W hW hJ hY h0
  obtain ⟨sa, sc, rfl⟩ := owns_slice ho
  have c1 := (hW.cell (p := ⟨B1, 0, none⟩) (cell_lt h1)).trans h1
  have c2 := (hW.cell (p := ⟨B2, 0, none⟩) (cell_lt h2)).trans h2
  have HC := hide (owns_all hc hW)
  have HO := hide (owns_all ho hW)
  have HY := hide hY
  have HJ := hide hJ
  have HR := hide (And.intro r1 (And.intro r2 (And.intro rg rs)))
  have HC2 := hide c2
  clear hc ho hW h1 h2 hY hJ r1 r2 rg rs c2
  have hro : Fence.wide.round = none := rfl
  have hfA : Fence.wide.fn 182 := trivial
  have hF8 : Fence.wide.fn 181 := trivial
  refine callsIn_of_wp Tryz.func181 rfl hF8 ?_ hro
  simp only [Tryz.ntmps181, List.size_toArray, List.length_cons, List.length_nil, Nat.reduceAdd, Nat.reduceSub, Array.replicate_succ, Array.replicate_zero, List.push_toArray, List.append_toArray, List.nil_append, List.cons_append]
  gi_wp2
  gi_loopw [8, 4, 5] (fun i _ _ wr => ∃ k : Nat, k ≤ m ∧ i = .int .i64 k ∧ J (sel (unl u nl v) k).length wr ∧ LetsW R W.heap.size W wr) (fun i _ _ _ => m - (intOf i).toNat)
  case atStart => exact ⟨0, Nat.zero_le _, rfl, h0, LetsW.refl _ _ _⟩
  case round =>
    obtain ⟨k, hk, rfl, hJs, hL⟩ := hrel
    have HL := hide hL
    have HJS := hide hJs
    have hwz := hL.size
    by_cases hlt : k < m
    · have hru := hL.owns (unhide HC) (fun i hi => by simp only [Value.ownBlock, Option.some.injEq] at hi; subst hi; exact (unhide HR).2.2.1)
      obtain ⟨y0, y1, y2, y3, y4, y5, y6, y7⟩ := run_eight hru hlt
      have c2r := hL.cell (unhide HC2) (unhide HR).2.1
      have HOr := hide (hL.owns (unhide HO) (unhide HR).2.2.2)
      have hB2 := cell_lt c2r
      have c2a : ∀ o, (wr.alloc o).cell? ⟨B2, 0, none⟩ = some (.slice sa nl sc) := fun o => (World.cell?_alloc_past _ _ _ hB2).trans c2r
      clear hru hL hJs
      have hstep : ∀ (o : Obj) (w2 : World), Below (wr.alloc o).drew.heap.size (wr.alloc o).drew w2 → J (sel (unl u nl v) k).length w2 ∧ LetsW R W.heap.size W w2 ∧ w.heap.size ≤ w2.heap.size + w.heap.size := fun o w2 hb => by
        have hb2 : Below wr.heap.size wr w2 := ((below_alloc1 wr o).drew).trans (hb.mono (by show wr.heap.size ≤ (wr.alloc o).heap.size; simp))
        exact ⟨unhide HJ _ wr w2 none (unhide HJS) (below_grown hb2) (fun r e => by cases e), (unhide HL).trans (LetsW.of_below hb2), by omega⟩
      have HST := hide hstep
      clear hstep
      have hnb : ∀ (X : World), (Op.equalIn 10000 158 (blkVal fun j => u (8 * k + j)) (blkVal (runAt nl v k))).run Tryz.prog X = .ok (sameB (fun j => u (8 * k + j)) (runAt nl v k)) X := fun X => eq_block (fun j _ => hu _) (fun j _ => runAt_lt hv _ _) X
      have HSK := hide (sel_succ (unl u nl v) k)
      have HSG : Hid (unl u nl v k = true → (sel (unl u nl v) m)[(sel (unl u nl v) k).length]? = some k) := fun h => sel_at h hlt
      have hun : unl u nl v k = !sameB (fun j => u (8 * k + j)) (runAt nl v k) := rfl
      obtain ⟨P, hP⟩ : ∃ P, sameB (fun j => u (8 * k + j)) (runAt nl v k) = P := ⟨_, rfl⟩
      rw [hun, hP] at HSK HSG
      rw [hP] at hnb
      clear hun
      have hcase : P = false ∨ P = true := by cases P <;> simp
      have HBV : Hid (blkVal (runAt nl v k) = .agg #[.int .u8 (runAt nl v k 0 : Nat), .int .u8 (runAt nl v k 1 : Nat), .int .u8 (runAt nl v k 2 : Nat), .int .u8 (runAt nl v k 3 : Nat), .int .u8 (runAt nl v k 4 : Nat), .int .u8 (runAt nl v k 5 : Nat), .int .u8 (runAt nl v k 6 : Nat), .int .u8 (runAt nl v k 7 : Nat)]) := by show _ = _; rfl
      unfold blkVal at hnb
      simp only [Nat.add_zero] at hnb
      obtain ⟨d0, e0⟩ : ∃ x, u (8 * k) = x := ⟨_, rfl⟩
      obtain ⟨d1, e1⟩ : ∃ x, u (8 * k + 1) = x := ⟨_, rfl⟩
      obtain ⟨d2, e2⟩ : ∃ x, u (8 * k + 2) = x := ⟨_, rfl⟩
      obtain ⟨d3, e3⟩ : ∃ x, u (8 * k + 3) = x := ⟨_, rfl⟩
      obtain ⟨d4, e4⟩ : ∃ x, u (8 * k + 4) = x := ⟨_, rfl⟩
      obtain ⟨d5, e5⟩ : ∃ x, u (8 * k + 5) = x := ⟨_, rfl⟩
      obtain ⟨d6, e6⟩ : ∃ x, u (8 * k + 6) = x := ⟨_, rfl⟩
      obtain ⟨d7, e7⟩ : ∃ x, u (8 * k + 7) = x := ⟨_, rfl⟩
      obtain ⟨b0, f0⟩ : ∃ x, runAt nl v k 0 = x := ⟨_, rfl⟩
      obtain ⟨b1, f1⟩ : ∃ x, runAt nl v k 1 = x := ⟨_, rfl⟩
      obtain ⟨b2, f2⟩ : ∃ x, runAt nl v k 2 = x := ⟨_, rfl⟩
      obtain ⟨b3, f3⟩ : ∃ x, runAt nl v k 3 = x := ⟨_, rfl⟩
      obtain ⟨b4, f4⟩ : ∃ x, runAt nl v k 4 = x := ⟨_, rfl⟩
      obtain ⟨b5, f5⟩ : ∃ x, runAt nl v k 5 = x := ⟨_, rfl⟩
      obtain ⟨b6, f6⟩ : ∃ x, runAt nl v k 6 = x := ⟨_, rfl⟩
      obtain ⟨b7, f7⟩ : ∃ x, runAt nl v k 7 = x := ⟨_, rfl⟩
      rw [e0, e1, e2, e3, e4, e5, e6, e7, f0, f1, f2, f3, f4, f5, f6, f7] at hnb
      rw [f0, f1, f2, f3, f4, f5, f6, f7] at HBV
      rw [e0] at y0; rw [e1] at y1; rw [e2] at y2; rw [e3] at y3; rw [e4] at y4; rw [e5] at y5; rw [e6] at y6; rw [e7] at y7
      clear e0 e1 e2 e3 e4 e5 e6 e7 f0 f1 f2 f3 f4 f5 f6 f7 hP
      rcases hcase with rfl | rfl
      · have HXS := hide (unhide HSG rfl)
        gi_wp2_with fail
        gi_region_with (first
          | (gi_at_call 182; refine ((callsIn_wide (n := _)).2 (oat_calls nl k base v (.slice sa nl sc) _ (by exact (unhide HOr).alloc _) hnl (by omega))).mono ?_; rintro e w2 ⟨he, hb2⟩; rw [unhide HBV] at he; subst he; have bx := cl_under hb2; have z0 := blk_cell (i := 0) bx rfl; have z1 := blk_cell (i := 1) bx rfl; have z2 := blk_cell (i := 2) bx rfl; have z3 := blk_cell (i := 3) bx rfl; have z4 := blk_cell (i := 4) bx rfl; have z5 := blk_cell (i := 5) bx rfl; have z6 := blk_cell (i := 6) bx rfl; have z7 := blk_cell (i := 7) bx rfl; obtain ⟨hj2, hl2, _⟩ := unhide HST _ _ hb2; obtain ⟨fn, tmps, assign, body, hy, hR⟩ := unhide HY _ k w2 (unhide HXS) hj2; (try dsimp only at hy); have HRD := hide hR; have HL2 := hide hl2; clear hb2 bx hj2 hl2 hR)
          | (refine (unhide HRD).mono ?_; rintro e w3 ⟨rfl, hj3, hl3⟩))
        all_goals
          gi_wp2_with fail
          go_roundw
          case rel => exact ⟨k + 1, by omega, by simp, by rw [unhide HSK]; simpa using hj3, (unhide HL2).trans hl3⟩
          case measure => simp [intOf]; omega
      · gi_wp2_with fail
        refine wpIn_wide.2 (wp_calm ?_)
        first | go_region_with (go_at_call 182; refine (oat_calls nl k base v (.slice sa nl sc) _ (by exact (unhide HOr).alloc _) hnl (by omega)).mono ?_; rintro e w2 ⟨he, hb2⟩; rw [unhide HBV] at he; subst he; have bx := cl_under hb2; have z0 := blk_cell (i := 0) bx rfl; have z1 := blk_cell (i := 1) bx rfl; have z2 := blk_cell (i := 2) bx rfl; have z3 := blk_cell (i := 3) bx rfl; have z4 := blk_cell (i := 4) bx rfl; have z5 := blk_cell (i := 5) bx rfl; have z6 := blk_cell (i := 6) bx rfl; have z7 := blk_cell (i := 7) bx rfl; obtain ⟨hj2, hl2, _⟩ := unhide HST _ _ hb2; have HJ2 := hide hj2; have HL2 := hide hl2; clear hb2 bx hj2 hl2) | fail
        all_goals simp only [NQ]
        all_goals
          gi_wp2_with fail
          go_roundw
          case rel => exact ⟨k + 1, by omega, by simp, by rw [unhide HSK]; simpa using unhide HJ2, unhide HL2⟩
          case measure => simp [intOf]; omega
    · obtain rfl : k = m := by omega
      clear hL hJs
      gi_wp2
      go_end0
      exact ⟨⟨_, rfl⟩, unhide HJS⟩

theorem ounlike_in (n : Nat) (ua sa : Option Addr) (un uc sn sc : Nat) (w : World) :
    CallsIn Fence.wide n Tryz.prog 147 #[.slice ua un uc, .slice sa sn sc] w fun e w' => e = .returned (.func (.func 181) #[] #[.pointer (some ⟨w.heap.size, 0, none⟩), .pointer (some ⟨w.heap.size + 1, 0, none⟩)]) ∧ w' = (w.alloc (.cells #[.slice ua un uc] 117)).alloc (.cells #[.slice sa sn sc] 117) := by
  refine callsIn_of_wp Tryz.func147 rfl trivial ?_ rfl
  simp only [Tryz.ntmps147, List.size_toArray, List.length_cons, List.length_nil, Nat.reduceAdd, Nat.reduceSub, Array.replicate_succ, Array.replicate_zero, List.push_toArray, List.append_toArray, List.nil_append, List.cons_append]
  gi_wp2
  go_ret
  exact ⟨rfl, rfl⟩

end Go.Proofs.YtomiepknmmpflaaGreatDoor

namespace Go.Proofs.YtomiepknmmpflaaGreatDoor
open Go.RowKit Go.Joins Go.Shelf

attribute [local go_sem] Oper.semAt_some

def pinQ (L : List Nat) (u : Nat → Nat) (q : Nat → Int) (i : Nat) : Int := if i ∈ L ∧ q i = 0 then sayQ (fun j => u (8 * i + j)) else q i
def pinD (L : List Nat) (u : Nat → Nat) (q : Nat → Int) (d : Nat → Eight) (i : Nat) : Eight := if i ∈ L ∧ q i = 0 then sayD (fun j => u (8 * i + j)) else d i
theorem pin_skip {L : List Nat} {u : Nat → Nat} {q : Nat → Int} {d : Nat → Eight} {x m : Nat} (h : q x ≠ 0) : clRow (pinQ (L ++ [x]) u q) (pinD (L ++ [x]) u q d) m = clRow (pinQ L u q) (pinD L u q d) m := by
  have e : ∀ i, (i ∈ L ++ [x] ∧ q i = 0) ↔ (i ∈ L ∧ q i = 0) := fun i => by
    constructor
    · rintro ⟨a, b⟩
      rcases List.mem_append.1 a with a | a
      · exact ⟨a, b⟩
      · simp at a; subst a; exact absurd b h
    · rintro ⟨a, b⟩; exact ⟨List.mem_append_left _ a, b⟩
  exact clRow_congr (fun i _ => by unfold pinQ; simp only [e i]) (fun i _ j _ => by unfold pinD; simp only [e i])
theorem pin_more {L : List Nat} {u : Nat → Nat} {q : Nat → Int} {d : Nat → Eight} {x m : Nat} (h : q x = 0) : clRow (pinQ (L ++ [x]) u q) (pinD (L ++ [x]) u q d) m = clRow (upQ (pinQ L u q) x (sayQ (fun j => u (8 * x + j)))) (upD (pinD L u q d) x (sayD (fun j => u (8 * x + j)))) m := by
  have e : ∀ i, i ≠ x → ((i ∈ L ++ [x] ∧ q i = 0) ↔ (i ∈ L ∧ q i = 0)) := fun i hi => by simp [hi]
  refine clRow_congr (fun i _ => ?_) (fun i _ j _ => ?_)
  · unfold upQ pinQ
    by_cases hi : i = x
    · subst hi; rw [if_pos ⟨by simp, h⟩, if_pos rfl]
    · rw [if_neg hi]; simp only [e i hi]
  · unfold upD pinD
    by_cases hi : i = x
    · subst hi; rw [if_pos ⟨by simp, h⟩, if_pos rfl]
    · rw [if_neg hi]; simp only [e i hi]
theorem clRow_put {q : Nat → Int} {d : Nat → Eight} {m n : Nat} {x : Int} {e : Eight} : ((((((((((clRow q d m).set (n * 9) (.int .i64 x)).set (n * 9 + 1) (.int .u8 (e 0 : Nat))).set (n * 9 + 2) (.int .u8 (e 1 : Nat))).set (n * 9 + 3) (.int .u8 (e 2 : Nat))).set (n * 9 + 4) (.int .u8 (e 3 : Nat))).set (n * 9 + 5) (.int .u8 (e 4 : Nat))).set (n * 9 + 6) (.int .u8 (e 5 : Nat))).set (n * 9 + 7) (.int .u8 (e 6 : Nat))).set (n * 9 + 8) (.int .u8 (e 7 : Nat))) = clRow (upQ q n x) (upD d n e) m := by
  refine List.ext_getElem? fun i => ?_
  by_cases hi : i < m * 9
  · rw [clRow_get hi]
    simp only [List.getElem?_set, List.length_set, clRow_length]
    by_cases hin : i / 9 = n
    · obtain ⟨j, hj, rfl⟩ : ∃ j, j < 9 ∧ i = n * 9 + j := ⟨i - n * 9, by omega, by omega⟩
      have hup : ∀ j, j < 8 → clCell (upQ q n x) (upD d n e) (n * 9 + (j + 1)) = .int .u8 (e j : Nat) := fun j hj => by rw [clCell_byte _ _ _ hj]; unfold upD; rw [if_pos rfl]
      match j, hj with
      | 0, _ => simp [show n * 9 < m * 9 by omega, clCell_kind, upQ]
      | 1, _ => rw [hup 0 (by omega)]; simp [show n * 9 + 1 < m * 9 by omega]
      | 2, _ => rw [hup 1 (by omega)]; simp [show n * 9 + 2 < m * 9 by omega]
      | 3, _ => rw [hup 2 (by omega)]; simp [show n * 9 + 3 < m * 9 by omega]
      | 4, _ => rw [hup 3 (by omega)]; simp [show n * 9 + 4 < m * 9 by omega]
      | 5, _ => rw [hup 4 (by omega)]; simp [show n * 9 + 5 < m * 9 by omega]
      | 6, _ => rw [hup 5 (by omega)]; simp [show n * 9 + 6 < m * 9 by omega]
      | 7, _ => rw [hup 6 (by omega)]; simp [show n * 9 + 7 < m * 9 by omega]
      | 8, _ => rw [hup 7 (by omega)]; simp [show n * 9 + 8 < m * 9 by omega]
    · rw [up_other hin]
      rw [if_neg (show ¬ n * 9 + 8 = i by omega)]
      rw [if_neg (show ¬ n * 9 + 7 = i by omega)]
      rw [if_neg (show ¬ n * 9 + 6 = i by omega)]
      rw [if_neg (show ¬ n * 9 + 5 = i by omega)]
      rw [if_neg (show ¬ n * 9 + 4 = i by omega)]
      rw [if_neg (show ¬ n * 9 + 3 = i by omega)]
      rw [if_neg (show ¬ n * 9 + 2 = i by omega)]
      rw [if_neg (show ¬ n * 9 + 1 = i by omega)]
      rw [if_neg (show ¬ n * 9 = i by omega)]
      exact clRow_get hi
  · rw [List.getElem?_eq_none (by simp [clRow_length]; omega), List.getElem?_eq_none (by rw [clRow_length]; omega)]

theorem SD.put {w wr : World} {g m n : Nat} {q : Nat → Int} {d : Nat → Eight} {x : Int} {e : Eight} (h : SD w g m q d wr) :
    SD w g m (upQ q n x) (upD d n e) (((((((((wr.setCell ⟨g, n * 9, none⟩ (.int .i64 x)).setCell ⟨g, n * 9 + 1, none⟩ (.int .u8 (e 0 : Nat))).setCell ⟨g, n * 9 + 2, none⟩ (.int .u8 (e 1 : Nat))).setCell ⟨g, n * 9 + 3, none⟩ (.int .u8 (e 2 : Nat))).setCell ⟨g, n * 9 + 4, none⟩ (.int .u8 (e 3 : Nat))).setCell ⟨g, n * 9 + 5, none⟩ (.int .u8 (e 4 : Nat))).setCell ⟨g, n * 9 + 6, none⟩ (.int .u8 (e 5 : Nat))).setCell ⟨g, n * 9 + 7, none⟩ (.int .u8 (e 6 : Nat))).setCell ⟨g, n * 9 + 8, none⟩ (.int .u8 (e 7 : Nat))) := by
  refine ⟨?_, grown_trans h.grown (grown_trans (grown_trans (grown_trans (grown_trans (grown_trans (grown_trans (grown_trans (grown_trans (grown_set _ g _ _) (grown_set _ g _ _)) (grown_set _ g _ _)) (grown_set _ g _ _)) (grown_set _ g _ _)) (grown_set _ g _ _)) (grown_set _ g _ _)) (grown_set _ g _ _)) (grown_set _ g _ _))⟩
  rw [blk_set_same (i := n * 9 + 8) (blk_set_same (i := n * 9 + 7) (blk_set_same (i := n * 9 + 6) (blk_set_same (i := n * 9 + 5) (blk_set_same (i := n * 9 + 4) (blk_set_same (i := n * 9 + 3) (blk_set_same (i := n * 9 + 2) (blk_set_same (i := n * 9 + 1) (blk_set_same (i := n * 9) h.row _) _) _) _) _) _) _) _) _, ← clRow_put]
  simp
theorem nine_grown (W : World) (g n : Nat) (x0 x1 x2 x3 x4 x5 x6 x7 x8 : Value) : W.grownBy (((((((((W.setCell ⟨g, n * 9, none⟩ (x0)).setCell ⟨g, n * 9 + 1, none⟩ (x1)).setCell ⟨g, n * 9 + 2, none⟩ (x2)).setCell ⟨g, n * 9 + 3, none⟩ (x3)).setCell ⟨g, n * 9 + 4, none⟩ (x4)).setCell ⟨g, n * 9 + 5, none⟩ (x5)).setCell ⟨g, n * 9 + 6, none⟩ (x6)).setCell ⟨g, n * 9 + 7, none⟩ (x7)).setCell ⟨g, n * 9 + 8, none⟩ (x8)) (some g) :=
  grown_trans (grown_trans (grown_trans (grown_trans (grown_trans (grown_trans (grown_trans (grown_trans (grown_set _ g _ _) (grown_set _ g _ _)) (grown_set _ g _ _)) (grown_set _ g _ _)) (grown_set _ g _ _)) (grown_set _ g _ _)) (grown_set _ g _ _)) (grown_set _ g _ _)) (grown_set _ g _ _)
theorem SD.own (w : World) (g m : Nat) (Q : Nat → Nat → Int) (D : Nat → Nat → Eight) : OwnFrom w.heap.size (fun k W => SD w g m (Q k) (D k) W) := by
  intro k W W' row h hg hr
  have hne : some g ≠ row := fun e => by
    obtain ⟨_, o, ho, hc⟩ := hr g e.symm
    rw [h.row] at ho; cases ho; cases hc
  refine ⟨(hg.block g (blk_lt h.row) hne).trans h.row, ⟨hg.os.trans h.grown.os, hg.tape.trans h.grown.tape, hg.output.trans h.grown.output, Nat.le_trans h.grown.size hg.size, fun i hi hn => ?_⟩⟩
  exact (hg.block i (Nat.lt_of_lt_of_le hi h.grown.size) (fun e => by have := (hr i e.symm).1; omega)).trans (h.grown.block i hi hn)
theorem sel_is {p : Nat → Bool} {k x : Nat} : ∀ {m : Nat}, (sel p m)[k]? = some x → x < m ∧ (sel p m).take k = sel p x
  | 0, h => by simp [sel] at h
  | m + 1, h => by
    rw [sel_succ] at h ⊢
    by_cases hp : p m = true
    · rw [if_pos hp] at h ⊢
      by_cases hk : k < (sel p m).length
      · rw [List.getElem?_append_left hk] at h
        obtain ⟨h1, h2⟩ := sel_is h
        exact ⟨by omega, by rw [List.take_append_of_le_length (by omega)]; exact h2⟩
      · rw [List.getElem?_append_right (by omega)] at h
        have hk0 : k - (sel p m).length = 0 := by
          by_cases e : k - (sel p m).length = 0
          · exact e
          · rw [List.getElem?_eq_none (by simp; omega)] at h; cases h
        rw [hk0] at h
        simp at h
        subst h
        exact ⟨by omega, by rw [List.take_append_of_le_length (by omega), List.take_of_length_le (by omega)]⟩
    · rw [if_neg hp] at h ⊢
      obtain ⟨h1, h2⟩ := sel_is h
      exact ⟨by omega, h2⟩
theorem sel_new {p : Nat → Bool} {m k x : Nat} (h : (sel p m)[k]? = some x) : x < m ∧ x ∉ (sel p m).take k ∧ (sel p m).take (k + 1) = (sel p m).take k ++ [x] := by
  obtain ⟨hk, he⟩ := List.getElem?_eq_some_iff.1 h
  obtain ⟨h1, h2⟩ := sel_is h
  refine ⟨h1, fun hx => ?_, by rw [List.take_succ_eq_append_getElem hk, he]⟩
  rw [h2] at hx
  have := (sel_lt hx).1
  omega
theorem pin_nil (u : Nat → Nat) (q : Nat → Int) (d : Nat → Eight) (m : Nat) : clRow (pinQ [] u q) (pinD [] u q d) m = clRow q d m := clRow_congr (fun i _ => by unfold pinQ; simp) (fun i _ j _ => by unfold pinD; simp)

end Go.Proofs.YtomiepknmmpflaaGreatDoor

namespace Go.Proofs.YtomiepknmmpflaaGreatDoor
open Go.RowKit Go.Joins Go.Shelf

attribute [local go_sem] Oper.semAt_some

abbrev OwnsBy (w : World) (base : Nat) (s : Value) (n : Nat) (v : Nat → Nat) : Prop := w.ownsRow base 5 1 s (n * 8) (runTo v n)
theorem by_cell {w : World} {base g c n : Nat} {v : Nat → Nat} (h : OwnsBy w base (.slice (some ⟨g, 0, none⟩) (n * 8) c) n v) {i : Nat} (hi : i < n * 8) : w.cell? ⟨g, i, none⟩ = some (.int .u8 (v i : Nat)) := by
  rw [h.cellAt _ (by omega)]
  have := runTo_at v (n := n) (k := i / 8) (j := i % 8) (by omega) (by omega)
  rw [show i / 8 * 8 + i % 8 = i from by omega, show 8 * (i / 8) + i % 8 = i from by omega] at this
  exact this
def byAt (n : Nat) (v : Nat → Nat) (i : Nat) : Nat := if i < n * 8 then v i else 0
def unb (u : Nat → Nat) (nl : Nat) (v : Nat → Nat) (i : Nat) : Bool := decide (u i ≠ byAt nl v i)

set_option maxRecDepth 100000 in
set_option maxHeartbeats 1000000 in
theorem oatB_calls (n k base : Nat) (v : Nat → Nat) (s : Value) (w : World) (h : OwnsBy w base s n v) :
    Calls Tryz.prog 153 #[s, .int .i64 (k : Nat)] w fun e w' => e = .returned (.int .u8 (byAt n v k : Nat)) ∧ w = w' := by
  obtain ⟨a, c, rfl⟩ := owns_slice h
  by_cases hlt : k < n * 8
  · obtain ⟨g, cc, hv⟩ := ownsRow_form h (by omega)
    obtain ⟨rfl, rfl⟩ : a = some ⟨g, 0, none⟩ ∧ c = cc := by simpa using hv
    have c0 := by_cell h hlt
    have HV : Hid (byAt n v k = v k) := if_pos hlt
    clear h hv
    go_enter Tryz.func153, Tryz.ntmps153
    go_wp2
    go_ret
    exact ⟨by rw [unhide HV]; rfl, rfl⟩
  · have HV : Hid (byAt n v k = 0) := if_neg hlt
    clear h
    go_enter Tryz.func153, Tryz.ntmps153
    go_wp2
    go_ret
    exact ⟨by rw [unhide HV]; rfl, rfl⟩

set_option maxRecDepth 100000 in
set_option maxHeartbeats 2000000 in
theorem ounlikeB1_in (n : Nat) (hn : 1 ≤ n) (y B1 B2 n₀ g c m nl base2 base : Nat) (u v : Nat → Nat) (s : Value) (J Jx : List Nat → World → Prop)
    (hY : ∀ pre x W, J pre W → pre.length < m * 8 → YieldAt Fence.wide (n - 1) Tryz.prog y #[.int .i64 (x : Nat)] W fun e W' => (e = .returned (.bool true) ∧ J (pre ++ [x]) W' ∧ Below n₀ W W') ∨ (e = .returned (.bool false) ∧ Jx (pre ++ [x]) W'))
    (W : World) (hB2 : B2 < n₀) (hg : g < n₀) (hs : ∀ k, s.ownBlock = some k → k < n₀) (h1 : W.cell? ⟨B1, 0, none⟩ = some (.slice (some ⟨g, 0, none⟩) (m * 8) c)) (h2 : W.cell? ⟨B2, 0, none⟩ = some s) (hu : OwnsBy W base2 (.slice (some ⟨g, 0, none⟩) (m * 8) c) m u) (ho : OwnsBy W base s nl v) (hm : m ≤ 30) (h0 : J [] W) :
    CallsIn Fence.wide n Tryz.prog 152 #[.func (.yield y) #[] #[], .pointer (some ⟨B1, 0, none⟩), .pointer (some ⟨B2, 0, none⟩)] W fun e W' => (∃ v, e = .returned v) ∧
      ((∃ ys, ys = sel (unb u nl v) (m * 8) ∧ J ys W') ∨ (∃ pre, (∃ k, (sel (unb u nl v) (m * 8))[k]? = pre.getLast? ∧ pre = (sel (unb u nl v) (m * 8)).take (k + 1)) ∧ Jx pre W')) := by
  obtain ⟨sa, sc, rfl⟩ := owns_slice ho
  have HU := hide hu
  have HO := hide ho
  have HS := hide hs
  have HC2 := hide h2
  clear hu ho hs h2
  have hro : Fence.wide.round = none := rfl
  have hfA : Fence.wide.fn 153 := trivial
  have hF8 : Fence.wide.fn 152 := trivial
  refine callsIn_of_wp Tryz.func152 rfl hF8 ?_ hro
  simp only [Tryz.ntmps152, List.size_toArray, List.length_cons, List.length_nil, Nat.reduceAdd, Nat.reduceSub, Array.replicate_succ, Array.replicate_zero, List.push_toArray, List.append_toArray, List.nil_append, List.cons_append]
  gi_wp2
  gi_loopw [8, 4, 5] (fun i _ _ wr => ∃ k : Nat, k ≤ m * 8 ∧ i = .int .i64 k ∧ J (sel (unb u nl v) k) wr ∧ Below n₀ W wr) (fun i _ _ _ => m * 8 - (intOf i).toNat)
  case atStart => exact ⟨0, Nat.zero_le _, rfl, h0, Below.refl _ _⟩
  case round =>
    obtain ⟨k, hk, rfl, hJs, hb⟩ := hrel
    have HB := hide hb
    by_cases hlt : k < m * 8
    · have c0 : wr.cell? ⟨g, k, none⟩ = some (.int .u8 (u k : Nat)) := (hb.cell (p := ⟨g, k, none⟩) hg).trans (by_cell (unhide HU) hlt)
      have c2 : wr.cell? ⟨B2, 0, none⟩ = some (.slice sa (nl * 8) sc) := (hb.cell (p := ⟨B2, 0, none⟩) hB2).trans (unhide HC2)
      have hor : OwnsBy wr base (.slice sa (nl * 8) sc) nl v := owns_below (unhide HO) (unhide HS) hb
      have HOR := hide hor
      have HSK := hide (sel_succ (unb u nl v) k)
      have HJ := hide hJs
      have hpl : (sel (unb u nl v) k).length < m * 8 := by
        have : (sel (unb u nl v) k).length ≤ k := by unfold sel; exact Nat.le_trans (List.length_filter_le _ _) (by simp)
        omega
      by_cases hd : u k = byAt nl v k
      · have hnb : ((u k : Int) != (byAt nl v k : Int)) = false := by rw [hd]; simp
        have HP : Hid (unb u nl v k = false) := by unfold unb; rw [decide_eq_false (fun q => q hd)]; exact rfl
        obtain ⟨z, hz⟩ : ∃ z, byAt nl v k = z := ⟨_, rfl⟩
        obtain ⟨uk, huk⟩ : ∃ z, u k = z := ⟨_, rfl⟩
        rw [hz, huk] at hnb
        rw [huk] at c0
        have HZ := hide hz
        clear hz huk hd hor hb hJs
        gi_wp2_with (gi_at_call 153; refine ((callsIn_wide (n := _)).2 (oatB_calls nl k base v _ _ (unhide HOR))).mono ?_; rintro e w2 ⟨he, rfl⟩; rw [unhide HZ] at he; subst he)
        refine ⟨fun f hf => (by cases hf), ?_⟩
        gi_wp2_with fail
        go_roundw
        case rel => exact ⟨k + 1, by omega, by simp, by rw [unhide HSK, unhide HP]; exact unhide HJ, unhide HB⟩
        case measure => simp [intOf]; omega
      · have hnb : ((u k : Int) != (byAt nl v k : Int)) = true := by rw [bne_iff_ne]; omega
        have HP : Hid (unb u nl v k = true) := by unfold unb; exact decide_eq_true hd
        have HAT := hide (sel_at (p := unb u nl v) (unhide HP) hlt)
        obtain ⟨fn, tmps, assign, body, hy, hR⟩ := hY _ k wr hJs hpl
        obtain ⟨z, hz⟩ : ∃ z, byAt nl v k = z := ⟨_, rfl⟩
        obtain ⟨uk, huk⟩ : ∃ z, u k = z := ⟨_, rfl⟩
        rw [hz, huk] at hnb
        rw [huk] at c0
        have HZ := hide hz
        have HRD := hide hR
        clear hz huk hd hor hb hJs hR
        gi_wp2_with (gi_at_call 153; refine ((callsIn_wide (n := _)).2 (oatB_calls nl k base v _ _ (unhide HOR))).mono ?_; rintro e w2 ⟨he, rfl⟩; rw [unhide HZ] at he; subst he)
        refine (unhide HRD).mono ?_
        rintro e W3 (⟨rfl, hJ3, hk3⟩ | ⟨rfl, hJx3⟩)
        · gi_wp2
          go_roundw
          case rel => exact ⟨k + 1, by omega, by simp, by rw [unhide HSK, if_pos (unhide HP)]; exact hJ3, (unhide HB).trans hk3⟩
          case measure => simp [intOf]; omega
        · gi_wp2
          refine bodyPost_ret (results_none rfl _ _ _) rfl ?_
          refine ⟨⟨_, rfl⟩, .inr ⟨_, ⟨(sel (unb u nl v) k).length, ?_, ?_⟩, hJx3⟩⟩
          · rw [unhide HAT]; simp
          · obtain ⟨q, hq⟩ := sel_prefix (unb u nl v) (show k + 1 ≤ m * 8 from hlt)
            rw [hq, unhide HSK, if_pos (unhide HP)]
            rw [List.take_append_of_le_length (by simp)]
            rw [List.take_of_length_le (by simp)]
    · obtain rfl : k = m * 8 := by omega
      gi_wp2
      go_end0
      exact ⟨⟨_, rfl⟩, .inl ⟨_, rfl, hJs⟩⟩

end Go.Proofs.YtomiepknmmpflaaGreatDoor

namespace Go.Proofs.YtomiepknmmpflaaGreatDoor
open Go.RowKit Go.Joins

def plainOp (o : Oper) : Bool :=
  match o.op with
  | .defer _ => false
  | _ => true
theorem plain_ops {ops : Array Oper} (h : ops.all plainOp = true) : ∀ (i : Nat) (o : Oper) c, ops[i]? = some o → o.op ≠ .defer c := fun i o c ho e => by
  have := Array.all_eq_true_iff_forall_mem.1 h o (Array.mem_of_getElem? ho)
  unfold plainOp at this
  rw [e] at this
  cases this
section
variable {l n : Nat} {P : Program} {md : Region.Mode} {ops : Array Oper} {Q : Exit → Act → World → Prop}
theorem op_in {o : Oper} {K : Act → World → Prop} {a : Act} {w : World} (hd : ∀ c, o.op ≠ .defer c) (h : o.wp P a w K Q) : o.wpIn (Fence.wide.inRound l) n P a w K Q := by
  refine ⟨fun _ _ => trivial, ?_⟩
  rw [show (Fence.wide.inRound l).round = some l from rfl, Oper.semAt_some l a.eval o hd]
  unfold Oper.wp at h
  generalize (execOp a.eval o).run P w = r at h ⊢
  cases r with
  | ok x w' =>
    cases x <;> simp only [Oper.upon, Oper.uponIn] at h ⊢
    case value => exact h
    case skip => exact h
    case defer => exact h
    case enter f args => exact ⟨fun q => (by cases q), CallsIn.inRound l (callsIn_wide.2 h)⟩
    case row row args =>
      refine ⟨fun q => (by cases q), fun c cs _ => ?_⟩
      obtain ⟨v, w', r, s⟩ := h c cs
      exact ⟨v, w', r, stepsIn_wide.2 s⟩
  | halt x w' => cases x <;> simp only [Oper.upon, Oper.uponIn] at h ⊢ <;> exact h
theorem any_in (hd : ∀ (i : Nat) (o : Oper) c, ops[i]? = some o → o.op ≠ .defer c) (hno : ¬ LetsOut Q) : ∀ (fuel : Nat) (listed : Array Bool) (a : Act) (w : World), wpAny P md ops Q fuel listed a w → wpAnyIn (Fence.wide.inRound l) n P md ops Q fuel listed a w
  | 0, _, _, _, h => h
  | fuel + 1, listed, a, w, h => by
    refine ⟨h.1, fun i hi => ?_⟩
    have h1 := h.2 i hi
    unfold wpOp at h1
    unfold wpOpIn
    cases ho : ops[i]? with
    | none => rw [ho] at h1; exact any_in hd hno fuel _ a w h1
    | some o =>
      rw [ho] at h1
      dsimp only at h1 ⊢
      split
      · rename_i hw
        rw [if_pos hw] at h1
        rcases h1 with h1 | h1
        · exact op_in (hd i o · ho) (Oper.wp_mono (fun a' w' q => any_in hd hno fuel _ a' w' q) h1)
        · exact absurd h1.2 hno
      · rename_i hw
        rw [if_neg hw] at h1
        exact ⟨fun _ _ => trivial, any_in hd hno fuel _ _ w h1⟩
theorem region_held {S : World → Prop} {id N : Nat} {a : Act} {w : World} (hm : P.follows .mixedOrders = true) (hd : ∀ (i : Nat) (o : Oper) c, ops[i]? = some o → o.op ≠ .defer c) (hno : ¬ LetsOut Q) (hN : ops.size = N)
    (h : wpAnyH P .any ops Q S N (Array.replicate N false) a w.drew) : (Code.region id ops true).wpIn (Fence.wide.inRound l) n P Q a w := by
  subst hN
  exact wpIn_region_any hm (any_in hd hno _ _ _ _ (wpAny_of_held _ _ _ _ h))
theorem held_call {S : World → Prop} {fuel i : Nat} {listed : Array Bool} {a : Act} {w : World} {o : Oper} {f : FuncId} {args : Array Value} {R : Ending → World → Prop} (hr : Region.ready md ops listed = [i]) (hi : ops[i]? = some o) (hw : Region.wanted o (yielded ops a.tmps) = true) (hrun : (execOp a.eval o).run P w = .ok (.enter f args) w) (hc : Calls P f args w R)
    (h : ∀ e w', R e w' → ∃ v, e = .returned v ∧ S w' ∧ wpAnyH P md ops Q S fuel (listed.setIfInBounds i true) (a.put o.dst v) w') : wpAnyH P md ops Q S (fuel + 1) listed a w := by
  refine wpAnyH_all hr (by simp) fun j hj => ?_
  obtain rfl : j = i := by simpa using hj
  unfold wpOp
  rw [hi]
  dsimp only
  rw [if_pos hw]
  refine Or.inl ?_
  unfold Oper.wp
  rw [hrun]
  refine Calls.mono hc fun e w' he => ?_
  obtain ⟨v, rfl, h1, h2⟩ := h e w' he
  exact ⟨h1, h2⟩
theorem held_store {S : World → Prop} {fuel i : Nat} {listed : Array Bool} {a : Act} {w w' : World} {o : Oper} (hr : Region.ready md ops listed = [i]) (hi : ops[i]? = some o) (hw : Region.wanted o (yielded ops a.tmps) = true) {t : TypeId} {p x : Operand} {v1 v2 : Value} (hop : o.op = .store t p x) (e1 : a.eval p = v1) (e2 : a.eval x = v2) (hst : (Instr.storeAt t v1 v2).run P w = .ok () w')
    (hS : S w') (h : wpAnyH P md ops Q S fuel (listed.setIfInBounds i true) (a.put o.dst undef) w') : wpAnyH P md ops Q S (fuel + 1) listed a w := by
  refine wpAnyH_all hr (by simp) fun j hj => ?_
  obtain rfl : j = i := by simpa using hj
  unfold wpOp
  rw [hi]
  dsimp only
  rw [if_pos hw]
  refine Or.inl ?_
  have hrun : (execOp a.eval o).run P w = .ok .skip w' := by
    unfold execOp
    rw [hop]
    simp only [e1, e2, Sem.run_bind, hst, Result.andThen_ok, Sem.run_pure]
  unfold Oper.wp
  rw [hrun]
  exact ⟨hS, h⟩
end

end Go.Proofs.YtomiepknmmpflaaGreatDoor

