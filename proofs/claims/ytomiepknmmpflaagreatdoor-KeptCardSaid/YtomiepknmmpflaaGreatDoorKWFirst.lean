/- What pin makes of clusters: plain facts. -/
import Derived.Test.YtomiepknmmpflaaGreatDoorKWUnlike
import Derived.Test.YtomiepknmmpflaaGreatDoorKWOpenAt
import Derived.OrdersHeld
import Derived.OrdersIn
import Derived.RangeFuncCalls
import Derived.TacticsIn
namespace Go.Proofs.YtomiepknmmpflaaGreatDoor
open Go.RowKit Go.Joins Go.Shelf

attribute [local go_sem] Oper.semAt_some

def pinQ (L : List Nat) (u : Nat → Nat) (q : Nat → Int) (i : Nat) : Int := if i ∈ L ∧ q i = 0 then sayQ (fun j => u (8 * i + j)) else q i
def pinD (L : List Nat) (u : Nat → Nat) (q : Nat → Int) (d : Nat → Eight) (i : Nat) : Eight := if i ∈ L ∧ q i = 0 then sayD (fun j => u (8 * i + j)) else d i
theorem pin_skip {L : List Nat} {u : Nat → Nat} {q : Nat → Int} {d : Nat → Eight} {x m : Nat} (h : q x ≠ 0) : clRow (pinQ (L ++ [x]) u q) (pinD (L ++ [x]) u q d) m = clRow (pinQ L u q) (pinD L u q d) m := by
  have e : ∀ i, (i ∈ L ++ [x] ∧ q i = 0) ↔ (i ∈ L ∧ q i = 0) := fun i => by
    constructor
    · rintro ⟨a, b⟩
      rcases List.mem_append.1 a with a | a
      · exact ⟨a, b⟩
      · simp at a; subst a; exact absurd b h
    · rintro ⟨a, b⟩; exact ⟨List.mem_append_left _ a, b⟩
  exact clRow_congr (fun i _ => by unfold pinQ; simp only [e i]) (fun i _ j _ => by unfold pinD; simp only [e i])
theorem pin_more {L : List Nat} {u : Nat → Nat} {q : Nat → Int} {d : Nat → Eight} {x m : Nat} (h : q x = 0) : clRow (pinQ (L ++ [x]) u q) (pinD (L ++ [x]) u q d) m = clRow (upQ (pinQ L u q) x (sayQ (fun j => u (8 * x + j)))) (upD (pinD L u q d) x (sayD (fun j => u (8 * x + j)))) m := by
  have e : ∀ i, i ≠ x → ((i ∈ L ++ [x] ∧ q i = 0) ↔ (i ∈ L ∧ q i = 0)) := fun i hi => by simp [hi]
  refine clRow_congr (fun i _ => ?_) (fun i _ j _ => ?_)
  · unfold upQ pinQ
    by_cases hi : i = x
    · subst hi; rw [if_pos ⟨by simp, h⟩, if_pos rfl]
    · rw [if_neg hi]; simp only [e i hi]
  · unfold upD pinD
    by_cases hi : i = x
    · subst hi; rw [if_pos ⟨by simp, h⟩, if_pos rfl]
    · rw [if_neg hi]; simp only [e i hi]
theorem clRow_put {q : Nat → Int} {d : Nat → Eight} {m n : Nat} {x : Int} {e : Eight} : ((((((((((clRow q d m).set (n * 9) (.int .i64 x)).set (n * 9 + 1) (.int .u8 (e 0 : Nat))).set (n * 9 + 2) (.int .u8 (e 1 : Nat))).set (n * 9 + 3) (.int .u8 (e 2 : Nat))).set (n * 9 + 4) (.int .u8 (e 3 : Nat))).set (n * 9 + 5) (.int .u8 (e 4 : Nat))).set (n * 9 + 6) (.int .u8 (e 5 : Nat))).set (n * 9 + 7) (.int .u8 (e 6 : Nat))).set (n * 9 + 8) (.int .u8 (e 7 : Nat))) = clRow (upQ q n x) (upD d n e) m := by
  refine List.ext_getElem? fun i => ?_
  by_cases hi : i < m * 9
  · rw [clRow_get hi]
    simp only [List.getElem?_set, List.length_set, clRow_length]
    by_cases hin : i / 9 = n
    · obtain ⟨j, hj, rfl⟩ : ∃ j, j < 9 ∧ i = n * 9 + j := ⟨i - n * 9, by omega, by omega⟩
      have hup : ∀ j, j < 8 → clCell (upQ q n x) (upD d n e) (n * 9 + (j + 1)) = .int .u8 (e j : Nat) := fun j hj => by rw [clCell_byte _ _ _ hj]; unfold upD; rw [if_pos rfl]
      match j, hj with
      | 0, _ => simp [show n * 9 < m * 9 by omega, clCell_kind, upQ]
      | 1, _ => rw [hup 0 (by omega)]; simp [show n * 9 + 1 < m * 9 by omega]
      | 2, _ => rw [hup 1 (by omega)]; simp [show n * 9 + 2 < m * 9 by omega]
      | 3, _ => rw [hup 2 (by omega)]; simp [show n * 9 + 3 < m * 9 by omega]
      | 4, _ => rw [hup 3 (by omega)]; simp [show n * 9 + 4 < m * 9 by omega]
      | 5, _ => rw [hup 4 (by omega)]; simp [show n * 9 + 5 < m * 9 by omega]
      | 6, _ => rw [hup 5 (by omega)]; simp [show n * 9 + 6 < m * 9 by omega]
      | 7, _ => rw [hup 6 (by omega)]; simp [show n * 9 + 7 < m * 9 by omega]
      | 8, _ => rw [hup 7 (by omega)]; simp [show n * 9 + 8 < m * 9 by omega]
    · rw [up_other hin]
      rw [if_neg (show ¬ n * 9 + 8 = i by omega)]
      rw [if_neg (show ¬ n * 9 + 7 = i by omega)]
      rw [if_neg (show ¬ n * 9 + 6 = i by omega)]
      rw [if_neg (show ¬ n * 9 + 5 = i by omega)]
      rw [if_neg (show ¬ n * 9 + 4 = i by omega)]
      rw [if_neg (show ¬ n * 9 + 3 = i by omega)]
      rw [if_neg (show ¬ n * 9 + 2 = i by omega)]
      rw [if_neg (show ¬ n * 9 + 1 = i by omega)]
      rw [if_neg (show ¬ n * 9 = i by omega)]
      exact clRow_get hi
  · rw [List.getElem?_eq_none (by simp [clRow_length]; omega), List.getElem?_eq_none (by rw [clRow_length]; omega)]

theorem SD.put {w wr : World} {g m n : Nat} {q : Nat → Int} {d : Nat → Eight} {x : Int} {e : Eight} (h : SD w g m q d wr) :
    SD w g m (upQ q n x) (upD d n e) (((((((((wr.setCell ⟨g, n * 9, none⟩ (.int .i64 x)).setCell ⟨g, n * 9 + 1, none⟩ (.int .u8 (e 0 : Nat))).setCell ⟨g, n * 9 + 2, none⟩ (.int .u8 (e 1 : Nat))).setCell ⟨g, n * 9 + 3, none⟩ (.int .u8 (e 2 : Nat))).setCell ⟨g, n * 9 + 4, none⟩ (.int .u8 (e 3 : Nat))).setCell ⟨g, n * 9 + 5, none⟩ (.int .u8 (e 4 : Nat))).setCell ⟨g, n * 9 + 6, none⟩ (.int .u8 (e 5 : Nat))).setCell ⟨g, n * 9 + 7, none⟩ (.int .u8 (e 6 : Nat))).setCell ⟨g, n * 9 + 8, none⟩ (.int .u8 (e 7 : Nat))) := by
  refine ⟨?_, grown_trans h.grown (grown_trans (grown_trans (grown_trans (grown_trans (grown_trans (grown_trans (grown_trans (grown_trans (grown_set _ g _ _) (grown_set _ g _ _)) (grown_set _ g _ _)) (grown_set _ g _ _)) (grown_set _ g _ _)) (grown_set _ g _ _)) (grown_set _ g _ _)) (grown_set _ g _ _)) (grown_set _ g _ _))⟩
  rw [blk_set_same (i := n * 9 + 8) (blk_set_same (i := n * 9 + 7) (blk_set_same (i := n * 9 + 6) (blk_set_same (i := n * 9 + 5) (blk_set_same (i := n * 9 + 4) (blk_set_same (i := n * 9 + 3) (blk_set_same (i := n * 9 + 2) (blk_set_same (i := n * 9 + 1) (blk_set_same (i := n * 9) h.row _) _) _) _) _) _) _) _) _, ← clRow_put]
  simp
theorem nine_grown (W : World) (g n : Nat) (x0 x1 x2 x3 x4 x5 x6 x7 x8 : Value) : W.grownBy (((((((((W.setCell ⟨g, n * 9, none⟩ (x0)).setCell ⟨g, n * 9 + 1, none⟩ (x1)).setCell ⟨g, n * 9 + 2, none⟩ (x2)).setCell ⟨g, n * 9 + 3, none⟩ (x3)).setCell ⟨g, n * 9 + 4, none⟩ (x4)).setCell ⟨g, n * 9 + 5, none⟩ (x5)).setCell ⟨g, n * 9 + 6, none⟩ (x6)).setCell ⟨g, n * 9 + 7, none⟩ (x7)).setCell ⟨g, n * 9 + 8, none⟩ (x8)) (some g) :=
  grown_trans (grown_trans (grown_trans (grown_trans (grown_trans (grown_trans (grown_trans (grown_trans (grown_set _ g _ _) (grown_set _ g _ _)) (grown_set _ g _ _)) (grown_set _ g _ _)) (grown_set _ g _ _)) (grown_set _ g _ _)) (grown_set _ g _ _)) (grown_set _ g _ _)) (grown_set _ g _ _)
theorem SD.own (w : World) (g m : Nat) (Q : Nat → Nat → Int) (D : Nat → Nat → Eight) : OwnFrom w.heap.size (fun k W => SD w g m (Q k) (D k) W) := by
  intro k W W' row h hg hr
  have hne : some g ≠ row := fun e => by
    obtain ⟨_, o, ho, hc⟩ := hr g e.symm
    rw [h.row] at ho; cases ho; cases hc
  refine ⟨(hg.block g (blk_lt h.row) hne).trans h.row, ⟨hg.os.trans h.grown.os, hg.tape.trans h.grown.tape, hg.output.trans h.grown.output, Nat.le_trans h.grown.size hg.size, fun i hi hn => ?_⟩⟩
  exact (hg.block i (Nat.lt_of_lt_of_le hi h.grown.size) (fun e => by have := (hr i e.symm).1; omega)).trans (h.grown.block i hi hn)
theorem sel_is {p : Nat → Bool} {k x : Nat} : ∀ {m : Nat}, (sel p m)[k]? = some x → x < m ∧ (sel p m).take k = sel p x
  | 0, h => by simp [sel] at h
  | m + 1, h => by
    rw [sel_succ] at h ⊢
    by_cases hp : p m = true
    · rw [if_pos hp] at h ⊢
      by_cases hk : k < (sel p m).length
      · rw [List.getElem?_append_left hk] at h
        obtain ⟨h1, h2⟩ := sel_is h
        exact ⟨by omega, by rw [List.take_append_of_le_length (by omega)]; exact h2⟩
      · rw [List.getElem?_append_right (by omega)] at h
        have hk0 : k - (sel p m).length = 0 := by
          by_cases e : k - (sel p m).length = 0
          · exact e
          · rw [List.getElem?_eq_none (by simp; omega)] at h; cases h
        rw [hk0] at h
        simp at h
        subst h
        exact ⟨by omega, by rw [List.take_append_of_le_length (by omega), List.take_of_length_le (by omega)]⟩
    · rw [if_neg hp] at h ⊢
      obtain ⟨h1, h2⟩ := sel_is h
      exact ⟨by omega, h2⟩
theorem sel_new {p : Nat → Bool} {m k x : Nat} (h : (sel p m)[k]? = some x) : x < m ∧ x ∉ (sel p m).take k ∧ (sel p m).take (k + 1) = (sel p m).take k ++ [x] := by
  obtain ⟨hk, he⟩ := List.getElem?_eq_some_iff.1 h
  obtain ⟨h1, h2⟩ := sel_is h
  refine ⟨h1, fun hx => ?_, by rw [List.take_succ_eq_append_getElem hk, he]⟩
  rw [h2] at hx
  have := (sel_lt hx).1
  omega
theorem pin_nil (u : Nat → Nat) (q : Nat → Int) (d : Nat → Eight) (m : Nat) : clRow (pinQ [] u q) (pinD [] u q d) m = clRow q d m := clRow_congr (fun i _ => by unfold pinQ; simp) (fun i _ j _ => by unfold pinD; simp)

end Go.Proofs.YtomiepknmmpflaaGreatDoor

namespace Go.Proofs.YtomiepknmmpflaaGreatDoor
open Go.RowKit Go.Joins Go.Shelf

attribute [local go_sem] Oper.semAt_some

abbrev OwnsBy (w : World) (base : Nat) (s : Value) (n : Nat) (v : Nat → Nat) : Prop := w.ownsRow base 5 1 s (n * 8) (runTo v n)
theorem by_cell {w : World} {base g c n : Nat} {v : Nat → Nat} (h : OwnsBy w base (.slice (some ⟨g, 0, none⟩) (n * 8) c) n v) {i : Nat} (hi : i < n * 8) : w.cell? ⟨g, i, none⟩ = some (.int .u8 (v i : Nat)) := by
  rw [h.cellAt _ (by omega)]
  have := runTo_at v (n := n) (k := i / 8) (j := i % 8) (by omega) (by omega)
  rw [show i / 8 * 8 + i % 8 = i from by omega, show 8 * (i / 8) + i % 8 = i from by omega] at this
  exact this
def byAt (n : Nat) (v : Nat → Nat) (i : Nat) : Nat := if i < n * 8 then v i else 0
def unb (u : Nat → Nat) (nl : Nat) (v : Nat → Nat) (i : Nat) : Bool := decide (u i ≠ byAt nl v i)

set_option maxRecDepth 100000 in
set_option maxHeartbeats 1000000 in
theorem oatB_calls (n k base : Nat) (v : Nat → Nat) (s : Value) (w : World) (h : OwnsBy w base s n v) :
    Calls Tryz.prog 153 #[s, .int .i64 (k : Nat)] w fun e w' => e = .returned (.int .u8 (byAt n v k : Nat)) ∧ w = w' := by
  obtain ⟨a, c, rfl⟩ := owns_slice h
  by_cases hlt : k < n * 8
  · obtain ⟨g, cc, hv⟩ := ownsRow_form h (by omega)
    obtain ⟨rfl, rfl⟩ : a = some ⟨g, 0, none⟩ ∧ c = cc := by simpa using hv
    have c0 := by_cell h hlt
    have HV : Hid (byAt n v k = v k) := if_pos hlt
    clear h hv
    go_enter Tryz.func153, Tryz.ntmps153
    go_wp2
    go_ret
    exact ⟨by rw [unhide HV]; rfl, rfl⟩
  · have HV : Hid (byAt n v k = 0) := if_neg hlt
    clear h
    go_enter Tryz.func153, Tryz.ntmps153
    go_wp2
    go_ret
    exact ⟨by rw [unhide HV]; rfl, rfl⟩

set_option maxRecDepth 100000 in
set_option maxHeartbeats 2000000 in
theorem ounlikeB1_in (n : Nat) (hn : 1 ≤ n) (y B1 B2 n₀ g c m nl base2 base : Nat) (u v : Nat → Nat) (s : Value) (J Jx : List Nat → World → Prop)
    (hY : ∀ pre x W, J pre W → pre.length < m * 8 → YieldAt Fence.wide (n - 1) Tryz.prog y #[.int .i64 (x : Nat)] W fun e W' => (e = .returned (.bool true) ∧ J (pre ++ [x]) W' ∧ Below n₀ W W') ∨ (e = .returned (.bool false) ∧ Jx (pre ++ [x]) W'))
    (W : World) (hB2 : B2 < n₀) (hg : g < n₀) (hs : ∀ k, s.ownBlock = some k → k < n₀) (h1 : W.cell? ⟨B1, 0, none⟩ = some (.slice (some ⟨g, 0, none⟩) (m * 8) c)) (h2 : W.cell? ⟨B2, 0, none⟩ = some s) (hu : OwnsBy W base2 (.slice (some ⟨g, 0, none⟩) (m * 8) c) m u) (ho : OwnsBy W base s nl v) (hm : m ≤ 30) (h0 : J [] W) :
    CallsIn Fence.wide n Tryz.prog 152 #[.func (.yield y) #[] #[], .pointer (some ⟨B1, 0, none⟩), .pointer (some ⟨B2, 0, none⟩)] W fun e W' => (∃ v, e = .returned v) ∧
      ((∃ ys, ys = sel (unb u nl v) (m * 8) ∧ J ys W') ∨ (∃ pre, (∃ k, (sel (unb u nl v) (m * 8))[k]? = pre.getLast? ∧ pre = (sel (unb u nl v) (m * 8)).take (k + 1)) ∧ Jx pre W')) := by
  obtain ⟨sa, sc, rfl⟩ := owns_slice ho
  have HU := hide hu
  have HO := hide ho
  have HS := hide hs
  have HC2 := hide h2
  clear hu ho hs h2
  have hro : Fence.wide.round = none := rfl
  have hfA : Fence.wide.fn 153 := trivial
  have hF8 : Fence.wide.fn 152 := trivial
  refine callsIn_of_wp Tryz.func152 rfl hF8 ?_ hro
  simp only [Tryz.ntmps152, List.size_toArray, List.length_cons, List.length_nil, Nat.reduceAdd, Nat.reduceSub, Array.replicate_succ, Array.replicate_zero, List.push_toArray, List.append_toArray, List.nil_append, List.cons_append]
  gi_wp2
  gi_loopw [8, 4, 5] (fun i _ _ wr => ∃ k : Nat, k ≤ m * 8 ∧ i = .int .i64 k ∧ J (sel (unb u nl v) k) wr ∧ Below n₀ W wr) (fun i _ _ _ => m * 8 - (intOf i).toNat)
  case atStart => exact ⟨0, Nat.zero_le _, rfl, h0, Below.refl _ _⟩
  case round =>
    obtain ⟨k, hk, rfl, hJs, hb⟩ := hrel
    have HB := hide hb
    by_cases hlt : k < m * 8
    · have c0 : wr.cell? ⟨g, k, none⟩ = some (.int .u8 (u k : Nat)) := (hb.cell (p := ⟨g, k, none⟩) hg).trans (by_cell (unhide HU) hlt)
      have c2 : wr.cell? ⟨B2, 0, none⟩ = some (.slice sa (nl * 8) sc) := (hb.cell (p := ⟨B2, 0, none⟩) hB2).trans (unhide HC2)
      have hor : OwnsBy wr base (.slice sa (nl * 8) sc) nl v := owns_below (unhide HO) (unhide HS) hb
      have HOR := hide hor
      have HSK := hide (sel_succ (unb u nl v) k)
      have HJ := hide hJs
      have hpl : (sel (unb u nl v) k).length < m * 8 := by
        have : (sel (unb u nl v) k).length ≤ k := by unfold sel; exact Nat.le_trans (List.length_filter_le _ _) (by simp)
        omega
      by_cases hd : u k = byAt nl v k
      · have hnb : ((u k : Int) != (byAt nl v k : Int)) = false := by rw [hd]; simp
        have HP : Hid (unb u nl v k = false) := by unfold unb; rw [decide_eq_false (fun q => q hd)]; exact rfl
        obtain ⟨z, hz⟩ : ∃ z, byAt nl v k = z := ⟨_, rfl⟩
        obtain ⟨uk, huk⟩ : ∃ z, u k = z := ⟨_, rfl⟩
        rw [hz, huk] at hnb
        rw [huk] at c0
        have HZ := hide hz
        clear hz huk hd hor hb hJs
        gi_wp2_with (gi_at_call 153; refine ((callsIn_wide (n := _)).2 (oatB_calls nl k base v _ _ (unhide HOR))).mono ?_; rintro e w2 ⟨he, rfl⟩; rw [unhide HZ] at he; subst he)
        refine ⟨fun f hf => (by cases hf), ?_⟩
        gi_wp2_with fail
        go_roundw
        case rel => exact ⟨k + 1, by omega, by simp, by rw [unhide HSK, unhide HP]; exact unhide HJ, unhide HB⟩
        case measure => simp [intOf]; omega
      · have hnb : ((u k : Int) != (byAt nl v k : Int)) = true := by rw [bne_iff_ne]; omega
        have HP : Hid (unb u nl v k = true) := by unfold unb; exact decide_eq_true hd
        have HAT := hide (sel_at (p := unb u nl v) (unhide HP) hlt)
        obtain ⟨fn, tmps, assign, body, hy, hR⟩ := hY _ k wr hJs hpl
        obtain ⟨z, hz⟩ : ∃ z, byAt nl v k = z := ⟨_, rfl⟩
        obtain ⟨uk, huk⟩ : ∃ z, u k = z := ⟨_, rfl⟩
        rw [hz, huk] at hnb
        rw [huk] at c0
        have HZ := hide hz
        have HRD := hide hR
        clear hz huk hd hor hb hJs hR
        gi_wp2_with (gi_at_call 153; refine ((callsIn_wide (n := _)).2 (oatB_calls nl k base v _ _ (unhide HOR))).mono ?_; rintro e w2 ⟨he, rfl⟩; rw [unhide HZ] at he; subst he)
        refine (unhide HRD).mono ?_
        rintro e W3 (⟨rfl, hJ3, hk3⟩ | ⟨rfl, hJx3⟩)
        · gi_wp2
          go_roundw
          case rel => exact ⟨k + 1, by omega, by simp, by rw [unhide HSK, if_pos (unhide HP)]; exact hJ3, (unhide HB).trans hk3⟩
          case measure => simp [intOf]; omega
        · gi_wp2
          refine bodyPost_ret (results_none rfl _ _ _) rfl ?_
          refine ⟨⟨_, rfl⟩, .inr ⟨_, ⟨(sel (unb u nl v) k).length, ?_, ?_⟩, hJx3⟩⟩
          · rw [unhide HAT]; simp
          · obtain ⟨q, hq⟩ := sel_prefix (unb u nl v) (show k + 1 ≤ m * 8 from hlt)
            rw [hq, unhide HSK, if_pos (unhide HP)]
            rw [List.take_append_of_le_length (by simp)]
            rw [List.take_of_length_le (by simp)]
    · obtain rfl : k = m * 8 := by omega
      gi_wp2
      go_end0
      exact ⟨⟨_, rfl⟩, .inl ⟨_, rfl, hJs⟩⟩

end Go.Proofs.YtomiepknmmpflaaGreatDoor

namespace Go.Proofs.YtomiepknmmpflaaGreatDoor
open Go.RowKit Go.Joins Go.Shelf

attribute [local go_sem] Oper.semAt_some

def headOr : List Nat → Int
  | [] => -1
  | x :: _ => (x : Nat)
theorem sel_first {L : List Nat} {k x : Nat} (h : L.take (k + 1) = [x]) : headOr L = (x : Nat) := by
  cases L with
  | nil => simp at h
  | cons y L => simp at h; rw [headOr, h.1]
theorem ounlikeB_in (n : Nat) (ua sa : Option Addr) (un uc sn sc : Nat) (w : World) :
    CallsIn Fence.wide n Tryz.prog 107 #[.slice ua un uc, .slice sa sn sc] w fun e w' => e = .returned (.func (.func 152) #[] #[.pointer (some ⟨w.heap.size, 0, none⟩), .pointer (some ⟨w.heap.size + 1, 0, none⟩)]) ∧ w' = (w.alloc (.cells #[.slice ua un uc] 114)).alloc (.cells #[.slice sa sn sc] 114) := by
  refine callsIn_of_wp Tryz.func107 rfl trivial ?_ rfl
  simp only [Tryz.ntmps107, List.size_toArray, List.length_cons, List.length_nil, Nat.reduceAdd, Nat.reduceSub, Array.replicate_succ, Array.replicate_zero, List.push_toArray, List.append_toArray, List.nil_append, List.cons_append]
  gi_wp2
  go_ret
  exact ⟨rfl, rfl⟩
theorem ounlikeB_stops (n : Nat) (hn : 1 ≤ n) (B1 B2 n₀ g c m nl base2 base : Nat) (u v : Nat → Nat) (s : Value) (w : World) (hB2 : B2 < n₀) (hg : g < n₀) (hs : ∀ k, s.ownBlock = some k → k < n₀) (h1 : w.cell? ⟨B1, 0, none⟩ = some (.slice (some ⟨g, 0, none⟩) (m * 8) c)) (h2 : w.cell? ⟨B2, 0, none⟩ = some s) (hu : OwnsBy w base2 (.slice (some ⟨g, 0, none⟩) (m * 8) c) m u) (ho : OwnsBy w base s nl v) (hm : m ≤ 30) :
    SeqStopsK Fence.wide n Tryz.prog 152 #[.pointer (some ⟨B1, 0, none⟩), .pointer (some ⟨B2, 0, none⟩)] (fun x : Nat => #[.int .i64 (x : Nat)]) (Below n₀) (fun ys => ys = sel (unb u nl v) (m * 8)) (fun pre => ∃ k, (sel (unb u nl v) (m * 8))[k]? = pre.getLast? ∧ pre = (sel (unb u nl v) (m * 8)).take (k + 1)) (m * 8) w := fun y J Jx W hW _ _ hY h0 =>
  ounlikeB1_in n hn y B1 B2 n₀ g c m nl base2 base u v s J Jx hY W hB2 hg hs ((hW.cell (p := ⟨B1, 0, none⟩) (cell_lt h1)).trans h1) ((hW.cell (p := ⟨B2, 0, none⟩) (cell_lt h2)).trans h2) (owns_all hu hW) (owns_all ho hW) hm h0
theorem boxed_set {W : World} {b : Nat} {t : TypeId} {x : Value} (h : Boxed W b t x) (y : Value) : Boxed (W.setCell ⟨b, 0, none⟩ y) b t y := blk_set_same (i := 0) (show W.heap[b]? = _ from h) y

set_option maxRecDepth 100000 in
set_option maxHeartbeats 4000000 in
theorem ofirst_up (m nl g c base base2 : Nat) (u v : Nat → Nat) (s : Value) (w : World) (hu : OwnsBy w base2 (.slice (some ⟨g, 0, none⟩) (m * 8) c) m u) (ho : OwnsBy w base s nl v) (hm : m ≤ 30) (hnl : nl ≤ m) :
    Calls Tryz.prog 68 #[.slice (some ⟨g, 0, none⟩) (m * 8) c, s] w fun e w' => e = .returned (.int .i64 (headOr (sel (unb u nl v) (m * 8)))) ∧ Below w.heap.size w w' := by
  obtain ⟨sa, sc, rfl⟩ := owns_slice ho
  have HU := hide hu
  have HO := hide ho
  have hgl := (hu.lt g rfl).2
  clear hu ho
  refine (callsIn_wide (n := 6)).1 ?_
  have hro : Fence.wide.round = none := rfl
  refine callsIn_of_wp_marks Tryz.func68 rfl trivial ?_ hro
  simp only [Tryz.ntmps68, List.size_toArray, List.length_cons, List.length_nil, Nat.reduceAdd, Nat.reduceSub, Array.replicate_succ, Array.replicate_zero, List.push_toArray, List.append_toArray, List.nil_append, List.cons_append]
  have hfA : Fence.wide.fn 107 := trivial
  have hfB : Fence.wide.fn 152 := trivial
  gi_wp2_with (gi_at_call 107; refine (ounlikeB_in _ _ _ _ _ _ _ _).mono ?_; rintro e w' ⟨rfl, rfl⟩)
  have hB0 : Below w.heap.size w (((w.alloc (.cells #[.int .i64 0] 3)).alloc (.cells #[.slice (some ⟨g, 0, none⟩) (m * 8) c] 114)).alloc (.cells #[.slice sa (nl * 8) sc] 114)) := (below_alloc1 w _).trans ((below_alloc2 _ _ _).mono (by simp))
  have b0 : Boxed (((w.alloc (.cells #[.int .i64 0] 3)).alloc (.cells #[.slice (some ⟨g, 0, none⟩) (m * 8) c] 114)).alloc (.cells #[.slice sa (nl * 8) sc] 114)) w.heap.size 3 (.int .i64 0) := ((Boxed.new w 3 (.int .i64 0)).alloc _).alloc _
  have b1 : Boxed (((w.alloc (.cells #[.int .i64 0] 3)).alloc (.cells #[.slice (some ⟨g, 0, none⟩) (m * 8) c] 114)).alloc (.cells #[.slice sa (nl * 8) sc] 114)) (w.heap.size + 1) 114 (.slice (some ⟨g, 0, none⟩) (m * 8) c) := by
    have := Boxed.new (w.alloc (.cells #[.int .i64 0] 3)) 114 (.slice (some ⟨g, 0, none⟩) (m * 8) c)
    rw [World.size_alloc] at this
    exact this.alloc _
  have b2 : Boxed (((w.alloc (.cells #[.int .i64 0] 3)).alloc (.cells #[.slice (some ⟨g, 0, none⟩) (m * 8) c] 114)).alloc (.cells #[.slice sa (nl * 8) sc] 114)) (w.heap.size + 1 + 1) 114 (.slice sa (nl * 8) sc) := by
    have := Boxed.new ((w.alloc (.cells #[.int .i64 0] 3)).alloc (.cells #[.slice (some ⟨g, 0, none⟩) (m * 8) c] 114)) 114 (.slice sa (nl * 8) sc)
    rw [World.size_alloc, World.size_alloc] at this
    exact this
  obtain ⟨w4, hw4⟩ : ∃ w4, w4 = (((w.alloc (.cells #[.int .i64 0] 3)).alloc (.cells #[.slice (some ⟨g, 0, none⟩) (m * 8) c] 114)).alloc (.cells #[.slice sa (nl * 8) sc] 114)) := ⟨_, rfl⟩
  have hsz4 : w4.heap.size = w.heap.size + 1 + 1 + 1 := by rw [hw4]; simp
  rw [← hw4] at hB0 b0 b1 b2
  rw [← hw4]
  clear hw4
  refine wpIn_rangeFunc_ownG hro (by decide) (gf := 152) (lb := #[.pointer (some ⟨w.heap.size + 1, 0, none⟩), .pointer (some ⟨w.heap.size + 1 + 1, 0, none⟩)]) rfl hfB (enters_of Tryz.func152 (by kernel_rfl) rfl)
    (ounlikeB_stops 5 (by decide) (w.heap.size + 1) (w.heap.size + 1 + 1) w4.heap.size g c m nl base2 base u v (.slice sa (nl * 8) sc) w4 (by omega) (by omega) (fun k hk => by have := ((unhide HO).lt k hk).2; omega) b1.cell b2.cell (owns_all (unhide HU) hB0) (owns_all (unhide HO) hB0) hm) belowK_t (belowK_b (Nat.le_refl _)) (Below.refl _ _) (fun _ => rfl)
    (fun pre W => pre = [] ∧ Boxed W w.heap.size 3 (.int .i64 0) ∧ Below w.heap.size w W)
    (fun cd pre W => cd = .ret ∧ ∃ x : Nat, pre = [x] ∧ Boxed W w.heap.size 3 (.int .i64 (x : Nat)) ∧ Below w.heap.size w W)
    (fun k X Y row hs hg hr => ⟨hs.1, hs.2.1.kept hg (fun e => by have := (hr _ e.symm).1; omega), hs.2.2.grown hg hs.2.2.size (fun r e => by have := (hr r e).1; omega)⟩)
    (fun cd k X Y row hs hg hr => ⟨hs.1, hs.2.imp fun x q => ⟨q.1, q.2.1.kept hg (fun e => by have := (hr _ e.symm).1; omega), q.2.2.grown hg q.2.2.size (fun r e => by have := (hr r e).1; omega)⟩⟩)
    ⟨rfl, b0, hB0⟩
    (fun x => { tmps := #[.slice (some ⟨g, 0, none⟩) (m * 8) c, .slice sa (nl * 8) sc, undef, undef, .pointer (some ⟨w.heap.size, 0, none⟩), .int .i64 (x : Nat), .slice (some ⟨g, 0, none⟩) (m * 8) c, .int .i64 ((m : Int) * 8), .slice sa (nl * 8) sc, .int .i64 ((nl : Int) * 8), .bool false, undef, undef, .slice (some ⟨g, 0, none⟩) (m * 8) c, .slice sa (nl * 8) sc, .func (.func 152) #[] #[.pointer (some ⟨w.heap.size + 1, 0, none⟩), .pointer (some ⟨w.heap.size + 1 + 1, 0, none⟩)], .int .i64 (x : Nat), undef], defers := [] }) ?assign ?body ?done ?stop
  case assign =>
    intro y x W K hK
    gi_wp2
    exact hK
  case body =>
    rintro y pre x W ⟨rfl, hbx, hB⟩ _
    have hc := hbx.cell
    have hf := hbx.frozen
    gi_wp2
    exact ⟨KeepsFrom.of_grownBy (grown_set W w.heap.size 0 _) (fun j e => by cases e; omega), rfl, x, rfl, boxed_set hbx _, hB.setCell (p := ⟨w.heap.size, 0, none⟩) (Nat.le_refl _) _⟩
  case done =>
    rintro D ys W hD hS ⟨hys, hbx, hB⟩ hK
    have HH : Hid (headOr (sel (unb u nl v) (m * 8)) = -1) := by rw [← hS, hys]; exact rfl
    have hc := hbx.cell
    have hf := hbx.frozen
    have HBW := hide hB
    have HBX := hide hbx
    clear hS hys hB hbx
    gi_wp2
    have hK3 : (W.setCell ⟨w.heap.size, 0, none⟩ (.int .i64 (-1))).heap[D]? = some _ := (Below.heap_setCell _ _ _ _ (show D ≠ w.heap.size by omega)).trans hK
    have hbf : Boxed ((W.setCell ⟨w.heap.size, 0, none⟩ (.int .i64 (-1))).putObj D (.deferred none)) w.heap.size 3 (.int .i64 (-1)) := (World.putObj_heap_other (show w.heap.size ≠ D by omega)).trans (boxed_set (unhide HBX) _)
    have hcf := hbf.cell
    refine ⟨by simp, .inl ⟨_, _, rfl, run_takeDeferred hK3, ?_⟩⟩
    exact ⟨.int .i64 (-1), by simp [results, Tryz.results68, go_sem, hcf], by rw [unhide HH], ((unhide HBW).setCell (p := ⟨w.heap.size, 0, none⟩) (Nat.le_refl _) _).trans (belowK_b (w := w) (Nat.le_refl _) _ D _ _ (by omega) hK3 rfl rfl)⟩
  case stop =>
    rintro D cd pre W hD ⟨k, hk, hp⟩ ⟨rfl, x, hpx, hbx, hB⟩ hK
    have HH : Hid (headOr (sel (unb u nl v) (m * 8)) = (x : Nat)) := sel_first (by rw [← hp]; exact hpx)
    have hc := hbx.cell
    have HBW := hide hB
    have HBX := hide hbx
    clear hB hbx hk hp hpx
    gi_wp2
    have hbf : Boxed (W.putObj D (.deferred none)) w.heap.size 3 (.int .i64 (x : Nat)) := (World.putObj_heap_other (show w.heap.size ≠ D by omega)).trans (unhide HBX)
    have hcf := hbf.cell
    refine ⟨by simp, .inl ⟨_, _, rfl, run_takeDeferred hK, ?_⟩⟩
    exact ⟨.int .i64 (x : Nat), by simp [results, Tryz.results68, go_sem, hcf], by rw [unhide HH], (unhide HBW).trans (belowK_b (w := w) (Nat.le_refl _) W D _ _ (by omega) hK rfl rfl)⟩

set_option maxRecDepth 100000 in
set_option maxHeartbeats 4000000 in
theorem ofirst_down (m nl g c base base2 : Nat) (u v : Nat → Nat) (s : Value) (w : World) (hu : OwnsBy w base2 (.slice (some ⟨g, 0, none⟩) (m * 8) c) m u) (ho : OwnsBy w base s nl v) (hm : m ≤ 30) (hnl : nl < m) :
    Calls Tryz.prog 68 #[s, .slice (some ⟨g, 0, none⟩) (m * 8) c] w fun e w' => e = .returned (.int .i64 (headOr (sel (unb u nl v) (m * 8)))) ∧ Below w.heap.size w w' := by
  obtain ⟨sa, sc, rfl⟩ := owns_slice ho
  have HU := hide hu
  have HO := hide ho
  have hgl := (hu.lt g rfl).2
  clear hu ho
  refine (callsIn_wide (n := 6)).1 ?_
  have hro : Fence.wide.round = none := rfl
  refine callsIn_of_wp_marks Tryz.func68 rfl trivial ?_ hro
  simp only [Tryz.ntmps68, List.size_toArray, List.length_cons, List.length_nil, Nat.reduceAdd, Nat.reduceSub, Array.replicate_succ, Array.replicate_zero, List.push_toArray, List.append_toArray, List.nil_append, List.cons_append]
  have hfA : Fence.wide.fn 107 := trivial
  have hfB : Fence.wide.fn 152 := trivial
  gi_wp2_with (gi_at_call 107; refine (ounlikeB_in _ _ _ _ _ _ _ _).mono ?_; rintro e w' ⟨rfl, rfl⟩)
  have hB0 : Below w.heap.size w (((w.alloc (.cells #[.int .i64 0] 3)).alloc (.cells #[.slice (some ⟨g, 0, none⟩) (m * 8) c] 114)).alloc (.cells #[.slice sa (nl * 8) sc] 114)) := (below_alloc1 w _).trans ((below_alloc2 _ _ _).mono (by simp))
  have b0 : Boxed (((w.alloc (.cells #[.int .i64 0] 3)).alloc (.cells #[.slice (some ⟨g, 0, none⟩) (m * 8) c] 114)).alloc (.cells #[.slice sa (nl * 8) sc] 114)) w.heap.size 3 (.int .i64 0) := ((Boxed.new w 3 (.int .i64 0)).alloc _).alloc _
  have b1 : Boxed (((w.alloc (.cells #[.int .i64 0] 3)).alloc (.cells #[.slice (some ⟨g, 0, none⟩) (m * 8) c] 114)).alloc (.cells #[.slice sa (nl * 8) sc] 114)) (w.heap.size + 1) 114 (.slice (some ⟨g, 0, none⟩) (m * 8) c) := by
    have := Boxed.new (w.alloc (.cells #[.int .i64 0] 3)) 114 (.slice (some ⟨g, 0, none⟩) (m * 8) c)
    rw [World.size_alloc] at this
    exact this.alloc _
  have b2 : Boxed (((w.alloc (.cells #[.int .i64 0] 3)).alloc (.cells #[.slice (some ⟨g, 0, none⟩) (m * 8) c] 114)).alloc (.cells #[.slice sa (nl * 8) sc] 114)) (w.heap.size + 1 + 1) 114 (.slice sa (nl * 8) sc) := by
    have := Boxed.new ((w.alloc (.cells #[.int .i64 0] 3)).alloc (.cells #[.slice (some ⟨g, 0, none⟩) (m * 8) c] 114)) 114 (.slice sa (nl * 8) sc)
    rw [World.size_alloc, World.size_alloc] at this
    exact this
  obtain ⟨w4, hw4⟩ : ∃ w4, w4 = (((w.alloc (.cells #[.int .i64 0] 3)).alloc (.cells #[.slice (some ⟨g, 0, none⟩) (m * 8) c] 114)).alloc (.cells #[.slice sa (nl * 8) sc] 114)) := ⟨_, rfl⟩
  have hsz4 : w4.heap.size = w.heap.size + 1 + 1 + 1 := by rw [hw4]; simp
  rw [← hw4] at hB0 b0 b1 b2
  rw [← hw4]
  clear hw4
  refine wpIn_rangeFunc_ownG hro (by decide) (gf := 152) (lb := #[.pointer (some ⟨w.heap.size + 1, 0, none⟩), .pointer (some ⟨w.heap.size + 1 + 1, 0, none⟩)]) rfl hfB (enters_of Tryz.func152 (by kernel_rfl) rfl)
    (ounlikeB_stops 5 (by decide) (w.heap.size + 1) (w.heap.size + 1 + 1) w4.heap.size g c m nl base2 base u v (.slice sa (nl * 8) sc) w4 (by omega) (by omega) (fun k hk => by have := ((unhide HO).lt k hk).2; omega) b1.cell b2.cell (owns_all (unhide HU) hB0) (owns_all (unhide HO) hB0) hm) belowK_t (belowK_b (Nat.le_refl _)) (Below.refl _ _) (fun _ => rfl)
    (fun pre W => pre = [] ∧ Boxed W w.heap.size 3 (.int .i64 0) ∧ Below w.heap.size w W)
    (fun cd pre W => cd = .ret ∧ ∃ x : Nat, pre = [x] ∧ Boxed W w.heap.size 3 (.int .i64 (x : Nat)) ∧ Below w.heap.size w W)
    (fun k X Y row hs hg hr => ⟨hs.1, hs.2.1.kept hg (fun e => by have := (hr _ e.symm).1; omega), hs.2.2.grown hg hs.2.2.size (fun r e => by have := (hr r e).1; omega)⟩)
    (fun cd k X Y row hs hg hr => ⟨hs.1, hs.2.imp fun x q => ⟨q.1, q.2.1.kept hg (fun e => by have := (hr _ e.symm).1; omega), q.2.2.grown hg q.2.2.size (fun r e => by have := (hr r e).1; omega)⟩⟩)
    ⟨rfl, b0, hB0⟩
    (fun x => { tmps := #[.slice (some ⟨g, 0, none⟩) (m * 8) c, .slice sa (nl * 8) sc, undef, undef, .pointer (some ⟨w.heap.size, 0, none⟩), .int .i64 (x : Nat), .slice sa (nl * 8) sc, .int .i64 ((nl : Int) * 8), .slice (some ⟨g, 0, none⟩) (m * 8) c, .int .i64 ((m : Int) * 8), .bool true, .slice (some ⟨g, 0, none⟩) (m * 8) c, .slice sa (nl * 8) sc, .slice (some ⟨g, 0, none⟩) (m * 8) c, .slice sa (nl * 8) sc, .func (.func 152) #[] #[.pointer (some ⟨w.heap.size + 1, 0, none⟩), .pointer (some ⟨w.heap.size + 1 + 1, 0, none⟩)], .int .i64 (x : Nat), undef], defers := [] }) ?assign ?body ?done ?stop
  case assign =>
    intro y x W K hK
    gi_wp2
    exact hK
  case body =>
    rintro y pre x W ⟨rfl, hbx, hB⟩ _
    have hc := hbx.cell
    have hf := hbx.frozen
    gi_wp2
    exact ⟨KeepsFrom.of_grownBy (grown_set W w.heap.size 0 _) (fun j e => by cases e; omega), rfl, x, rfl, boxed_set hbx _, hB.setCell (p := ⟨w.heap.size, 0, none⟩) (Nat.le_refl _) _⟩
  case done =>
    rintro D ys W hD hS ⟨hys, hbx, hB⟩ hK
    have HH : Hid (headOr (sel (unb u nl v) (m * 8)) = -1) := by rw [← hS, hys]; exact rfl
    have hc := hbx.cell
    have hf := hbx.frozen
    have HBW := hide hB
    have HBX := hide hbx
    clear hS hys hB hbx
    gi_wp2
    have hK3 : (W.setCell ⟨w.heap.size, 0, none⟩ (.int .i64 (-1))).heap[D]? = some _ := (Below.heap_setCell _ _ _ _ (show D ≠ w.heap.size by omega)).trans hK
    have hbf : Boxed ((W.setCell ⟨w.heap.size, 0, none⟩ (.int .i64 (-1))).putObj D (.deferred none)) w.heap.size 3 (.int .i64 (-1)) := (World.putObj_heap_other (show w.heap.size ≠ D by omega)).trans (boxed_set (unhide HBX) _)
    have hcf := hbf.cell
    refine ⟨by simp, .inl ⟨_, _, rfl, run_takeDeferred hK3, ?_⟩⟩
    exact ⟨.int .i64 (-1), by simp [results, Tryz.results68, go_sem, hcf], by rw [unhide HH], ((unhide HBW).setCell (p := ⟨w.heap.size, 0, none⟩) (Nat.le_refl _) _).trans (belowK_b (w := w) (Nat.le_refl _) _ D _ _ (by omega) hK3 rfl rfl)⟩
  case stop =>
    rintro D cd pre W hD ⟨k, hk, hp⟩ ⟨rfl, x, hpx, hbx, hB⟩ hK
    have HH : Hid (headOr (sel (unb u nl v) (m * 8)) = (x : Nat)) := sel_first (by rw [← hp]; exact hpx)
    have hc := hbx.cell
    have HBW := hide hB
    have HBX := hide hbx
    clear hB hbx hk hp hpx
    gi_wp2
    have hbf : Boxed (W.putObj D (.deferred none)) w.heap.size 3 (.int .i64 (x : Nat)) := (World.putObj_heap_other (show w.heap.size ≠ D by omega)).trans (unhide HBX)
    have hcf := hbf.cell
    refine ⟨by simp, .inl ⟨_, _, rfl, run_takeDeferred hK, ?_⟩⟩
    exact ⟨.int .i64 (x : Nat), by simp [results, Tryz.results68, go_sem, hcf], by rw [unhide HH], (unhide HBW).trans (belowK_b (w := w) (Nat.le_refl _) W D _ _ (by omega) hK rfl rfl)⟩

end Go.Proofs.YtomiepknmmpflaaGreatDoor

namespace Go.Proofs.YtomiepknmmpflaaGreatDoor
open Go.RowKit Go.Joins

def plainOp (o : Oper) : Bool :=
  match o.op with
  | .defer _ => false
  | _ => true
theorem plain_ops {ops : Array Oper} (h : ops.all plainOp = true) : ∀ (i : Nat) (o : Oper) c, ops[i]? = some o → o.op ≠ .defer c := fun i o c ho e => by
  have := Array.all_eq_true_iff_forall_mem.1 h o (Array.mem_of_getElem? ho)
  unfold plainOp at this
  rw [e] at this
  cases this
section
variable {l n : Nat} {P : Program} {md : Region.Mode} {ops : Array Oper} {Q : Exit → Act → World → Prop}
theorem op_in {o : Oper} {K : Act → World → Prop} {a : Act} {w : World} (hd : ∀ c, o.op ≠ .defer c) (h : o.wp P a w K Q) : o.wpIn (Fence.wide.inRound l) n P a w K Q := by
  refine ⟨fun _ _ => trivial, ?_⟩
  rw [show (Fence.wide.inRound l).round = some l from rfl, Oper.semAt_some l a.eval o hd]
  unfold Oper.wp at h
  generalize (execOp a.eval o).run P w = r at h ⊢
  cases r with
  | ok x w' =>
    cases x <;> simp only [Oper.upon, Oper.uponIn] at h ⊢
    case value => exact h
    case skip => exact h
    case defer => exact h
    case enter f args => exact ⟨fun q => (by cases q), CallsIn.inRound l (callsIn_wide.2 h)⟩
    case row row args =>
      refine ⟨fun q => (by cases q), fun c cs _ => ?_⟩
      obtain ⟨v, w', r, s⟩ := h c cs
      exact ⟨v, w', r, stepsIn_wide.2 s⟩
  | halt x w' => cases x <;> simp only [Oper.upon, Oper.uponIn] at h ⊢ <;> exact h
theorem any_in (hd : ∀ (i : Nat) (o : Oper) c, ops[i]? = some o → o.op ≠ .defer c) (hno : ¬ LetsOut Q) : ∀ (fuel : Nat) (listed : Array Bool) (a : Act) (w : World), wpAny P md ops Q fuel listed a w → wpAnyIn (Fence.wide.inRound l) n P md ops Q fuel listed a w
  | 0, _, _, _, h => h
  | fuel + 1, listed, a, w, h => by
    refine ⟨h.1, fun i hi => ?_⟩
    have h1 := h.2 i hi
    unfold wpOp at h1
    unfold wpOpIn
    cases ho : ops[i]? with
    | none => rw [ho] at h1; exact any_in hd hno fuel _ a w h1
    | some o =>
      rw [ho] at h1
      dsimp only at h1 ⊢
      split
      · rename_i hw
        rw [if_pos hw] at h1
        rcases h1 with h1 | h1
        · exact op_in (hd i o · ho) (Oper.wp_mono (fun a' w' q => any_in hd hno fuel _ a' w' q) h1)
        · exact absurd h1.2 hno
      · rename_i hw
        rw [if_neg hw] at h1
        exact ⟨fun _ _ => trivial, any_in hd hno fuel _ _ w h1⟩
theorem region_held {S : World → Prop} {id N : Nat} {a : Act} {w : World} (hm : P.follows .mixedOrders = true) (hd : ∀ (i : Nat) (o : Oper) c, ops[i]? = some o → o.op ≠ .defer c) (hno : ¬ LetsOut Q) (hN : ops.size = N)
    (h : wpAnyH P .any ops Q S N (Array.replicate N false) a w.drew) : (Code.region id ops true).wpIn (Fence.wide.inRound l) n P Q a w := by
  subst hN
  exact wpIn_region_any hm (any_in hd hno _ _ _ _ (wpAny_of_held _ _ _ _ h))
theorem held_call {S : World → Prop} {fuel i : Nat} {listed : Array Bool} {a : Act} {w : World} {o : Oper} {f : FuncId} {args : Array Value} {R : Ending → World → Prop} (hr : Region.ready md ops listed = [i]) (hi : ops[i]? = some o) (hw : Region.wanted o (yielded ops a.tmps) = true) (hrun : (execOp a.eval o).run P w = .ok (.enter f args) w) (hc : Calls P f args w R)
    (h : ∀ e w', R e w' → ∃ v, e = .returned v ∧ S w' ∧ wpAnyH P md ops Q S fuel (listed.setIfInBounds i true) (a.put o.dst v) w') : wpAnyH P md ops Q S (fuel + 1) listed a w := by
  refine wpAnyH_all hr (by simp) fun j hj => ?_
  obtain rfl : j = i := by simpa using hj
  unfold wpOp
  rw [hi]
  dsimp only
  rw [if_pos hw]
  refine Or.inl ?_
  unfold Oper.wp
  rw [hrun]
  refine Calls.mono hc fun e w' he => ?_
  obtain ⟨v, rfl, h1, h2⟩ := h e w' he
  exact ⟨h1, h2⟩
theorem held_store {S : World → Prop} {fuel i : Nat} {listed : Array Bool} {a : Act} {w w' : World} {o : Oper} (hr : Region.ready md ops listed = [i]) (hi : ops[i]? = some o) (hw : Region.wanted o (yielded ops a.tmps) = true) {t : TypeId} {p x : Operand} {v1 v2 : Value} (hop : o.op = .store t p x) (e1 : a.eval p = v1) (e2 : a.eval x = v2) (hst : (Instr.storeAt t v1 v2).run P w = .ok () w')
    (hS : S w') (h : wpAnyH P md ops Q S fuel (listed.setIfInBounds i true) (a.put o.dst undef) w') : wpAnyH P md ops Q S (fuel + 1) listed a w := by
  refine wpAnyH_all hr (by simp) fun j hj => ?_
  obtain rfl : j = i := by simpa using hj
  unfold wpOp
  rw [hi]
  dsimp only
  rw [if_pos hw]
  refine Or.inl ?_
  have hrun : (execOp a.eval o).run P w = .ok .skip w' := by
    unfold execOp
    rw [hop]
    simp only [e1, e2, Sem.run_bind, hst, Result.andThen_ok, Sem.run_pure]
  unfold Oper.wp
  rw [hrun]
  exact ⟨hS, h⟩
end

end Go.Proofs.YtomiepknmmpflaaGreatDoor

