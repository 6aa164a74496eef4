/- The program's Read. -/
import Derived.Test.YtomiepknmmpflaaGreatDoorKWOpenAt
import Derived.Test.YtomiepknmmpflaaGreatDoorKPClRow
import Derived.Test.YtomiepknmmpflaaGreatDoorKPIm
import Derived.Test.YtomiepknmmpflaaGreatDoorKWDiscard
namespace Go.Proofs.YtomiepknmmpflaaGreatDoor
open Go.RowKit Go.Joins

theorem row_cap {w : World} {base e size n g cap : Nat} {xs : List Value} (h : w.ownsRow base e size (.slice (some ⟨g, 0, none⟩) n cap) n xs) : n ≤ cap ∧ cap ≤ maxLen := by
  rcases h.2 with ⟨e, _⟩ | ⟨g', cap', cur, e, _, _, h1, h2, _⟩
  · simp at e
  · simp only [Value.slice.injEq, Option.some.injEq, Addr.mk.injEq, and_true, true_and] at e
    obtain ⟨rfl, rfl⟩ := e
    exact ⟨h1, h2⟩
theorem runTo_byte (v : Nat → Nat) {n i : Nat} (h : i < 8 * n) : (runTo v n)[i]? = some (.int .u8 (v i : Nat)) := by
  have := runTo_at v (n := n) (k := i / 8) (j := i % 8) (by omega) (by omega)
  rw [show i / 8 * 8 + i % 8 = i from by omega, show 8 * (i / 8) + i % 8 = i from by omega] at this
  exact this
theorem view_byte {w : World} {base g c n : Nat} {v : Nat → Nat} (h : w.ownsRow base 5 1 (.slice (some ⟨g, 0, none⟩) (n * 8) c) (n * 8) (runTo v n)) {i : Nat} (hi : i < 8 * n) : w.cell? ⟨g, i, none⟩ = some (.int .u8 (v i : Nat)) := by
  rw [h.cellAt i (by omega)]; exact runTo_byte v hi
theorem viewTo_at (l : Ov.Files) (ns : List ByteArray) (f : Nat) {k i : Nat} (h : i < k) : (viewTo l ns f k).getD i 0 = ((Ov.atTo l ns (f + i) : Nat) : Int) := by
  induction k with
  | zero => omega
  | succ k ih =>
    rw [viewTo]
    by_cases e : i < k
    · rw [List.getD_eq_getElem?_getD, List.getElem?_append_left (by rw [viewTo_length]; exact e), ← List.getD_eq_getElem?_getD]; exact ih e
    · obtain rfl : i = k := by omega
      rw [List.getD_eq_getElem?_getD, List.getElem?_append_right (by rw [viewTo_length]; omega), viewTo_length, Nat.sub_self]; rfl
theorem conv_view {w : World} {base g c n : Nat} {l : Ov.Files} {ns : List ByteArray} (h : w.ownsRow base 5 1 (.slice (some ⟨g, 0, none⟩) (n * 8) c) (n * 8) (runTo (Ov.atTo l ns) n)) {f k cap : Nat} (hf : f + k ≤ n * 8) : (convert 103 9 (.slice (some ⟨g, f, none⟩) k cap)).run Tryz.prog w = .ok (.string (viewF l ns f k)) w :=
  run_convert_bytes_arg w 103 5 Tryz.underlying103 Tryz.underlying5 g f k cap (viewTo l ns f k) (viewTo_length l ns f k) (fun i hi => by rw [viewTo_at l ns f hi]; exact view_byte h (by omega)) 9 Tryz.underlying9

theorem oopenAt_no (x : ByteArray) (f k : Int) (w : World) (b B : Nat) (r0 : Option Nat) (room : Nat) (l : Ov.Files) (s0 s1 s2 s3 : Addr) (h : ChainAt w b B r0 room l s0 s1 s2 s3) (hq : rangedF l x f k ≠ 0) (hf1 : -9223372036854775808 ≤ f) (hf2 : f ≤ 9223372036854775807) (hk1 : -9223372036854775808 ≤ k) (hk2 : k ≤ 9223372036854775807) :
    Calls Tryz.prog 59 #[.pointer (some ⟨b, 0, none⟩), .string x, .agg #[.int .i64 f, .int .i64 k]] w (AtNo (rangedF l x f k) w) := by
  by_cases hso : Ov.soundF l x = 0
  · have hw := ranged_within (f := f) (k := k) hso
    by_cases e : withinB f k ((8 * Ov.many (fOf l x) : Nat) : Int) = true
    · rw [if_pos e] at hw; exact absurd hw hq
    · rw [if_neg e] at hw
      rw [hw]
      exact (oopenAt_sound x f k w b B r0 room l s0 s1 s2 s3 h hso hf1 hf2 hk1 hk2).mono fun _ _ hh => hh.2 (by simpa using e)
  · rw [ranged_sound hso]
    exact oopenAt_bad x f k w b B r0 room l s0 s1 s2 s3 h hso
theorem oopenAt_yes (x : ByteArray) (f k : Int) (w : World) (b B : Nat) (r0 : Option Nat) (room : Nat) (l : Ov.Files) (s0 s1 s2 s3 : Addr) (h : ChainAt w b B r0 room l s0 s1 s2 s3) (hq : rangedF l x f k = 0) (hf1 : -9223372036854775808 ≤ f) (hf2 : f ≤ 9223372036854775807) (hk1 : -9223372036854775808 ≤ k) (hk2 : k ≤ 9223372036854775807) :
    Calls Tryz.prog 59 #[.pointer (some ⟨b, 0, none⟩), .string x, .agg #[.int .i64 f, .int .i64 k]] w (AtYes l x w) := by
  have hso := (ranged_ok hq).1
  have hw := ranged_within (f := f) (k := k) hso
  refine (oopenAt_sound x f k w b B r0 room l s0 s1 s2 s3 h hso hf1 hf2 hk1 hk2).mono fun _ _ hh => hh.1 ?_
  by_cases e : withinB f k ((8 * Ov.many (fOf l x) : Nat) : Int) = true
  · exact e
  · rw [hq, if_neg e] at hw; omega

open Go.MuLone in
set_option maxRecDepth 100000 in
set_option maxHeartbeats 2000000 in
theorem oRead_calls (l : Ov.Files) (x : ByteArray) (f k : Int) (b B : Nat) (r : Option Nat) (room : Nat) (s0 s1 s2 s3 : Addr) (w : World) (hi : Ov.LI room l) (h : OvRep w b r room l) (hs : Sents w B s0 s1 s2 s3) (hB : B ≤ b) (hf1 : -9223372036854775808 ≤ f) (hf2 : f ≤ 9223372036854775807) (hk1 : -9223372036854775808 ≤ k) (hk2 : k ≤ 9223372036854775807) :
    Calls Tryz.prog 33 #[.pointer (some ⟨b, 0, none⟩), .string x, .int .i64 f, .int .i64 k] w fun e w' => e = .returned (.tuple #[.string (readF l x f k).1, .int .i64 (readF l x f k).2]) ∧ OvLeft w b r room l w' := by
  obtain ⟨v, h1, h2, h3, h4⟩ := id h
  have HR := hide h
  have c0 : w.cell? ⟨b, 0, none⟩ = some (.int .i32 0) := blk_cell h1 rfl
  have f0 := blk_frozen h1 0
  have hbl := blk_lt h1
  have HB := hide (blk_set_same (i := 0) h1 (.int .i32 1))
  have HC : Hid (ChainAt (w.setCell ⟨b, 0, none⟩ (.int .i32 1)) b B r room l s0 s1 s2 s3) := ⟨h.lock, hi, hs.kept ((Below.refl B w).setCell (p := ⟨b, 0, none⟩) hB (.int .i32 1))⟩
  clear h h1 h2 h3 h4 hs hi
  by_cases hq : rangedF l x f k = 0
  · obtain ⟨hso, hp, hc, hf0, hk0, hfk⟩ := ranged_ok hq
    obtain ⟨f, rfl⟩ := Int.eq_ofNat_of_zero_le hf0
    obtain ⟨k, rfl⟩ := Int.eq_ofNat_of_zero_le hk0
    have hm := hc.many_le
    have hwb : withinB f k ((8 * Ov.many (fOf l x) : Nat) : Int) = true := by
      have := ranged_within (f := f) (k := k) hso
      rw [hq] at this
      by_cases e : withinB (f : Int) (k : Int) ((8 * Ov.many (fOf l x) : Nat) : Int) = true
      · exact e
      · rw [if_neg e] at this; omega
    have HF : Hid (readF l x f k = (viewF l (Ov.downOf l x).1 f k, 0)) := by unfold readF; rw [hq, if_neg (by omega)]; exact rfl
    have HSO := hide hso
    have HWB := hide hwb
    obtain ⟨m, hme⟩ : ∃ m, Ov.many (fOf l x) = m := ⟨_, rfl⟩
    rw [show Ov.many (fileOf l x) = m from hme] at hm hfk
    obtain ⟨hm1, hm30⟩ := hm
    have HME := hide hme
    clear hq hso hp hc hwb hme
    go_enter_defers Tryz.func33, Tryz.ntmps33
    go_wp2_with (first
      | (go_at_call 59; refine (oopenAt_sound x f k _ b B r room l s0 s1 s2 s3 ((unhide HC).kept (below_alloc1 _ _)) (unhide HSO) hf1 hf2 hk1 hk2).mono ?_; rintro e w2 ⟨hy, _⟩; obtain ⟨hb2, g, a, c, he, hgw, hgb, hov⟩ := hy (unhide HWB); rw [unhide HME] at he hgb hov; subst he; obtain ⟨ga, ca, hva⟩ := ownsRow_form hov (by omega); obtain ⟨rfl, rfl⟩ : a = some ⟨ga, 0, none⟩ ∧ c = ca := (by simpa using hva); have hcap := (row_cap hov).1; have bp := (hb2.block (w.setCell ⟨b, 0, none⟩ (.int .i32 1)).heap.size (by simp)).trans (blk_new _ _); simp only [World.size_setCell] at bp; have q0 : ∀ o, (w2.alloc o).cell? ⟨w.heap.size, 0, none⟩ = some (.int .i64 (f : Nat)) := (fun o => blk_cell (blk_alloc bp o) rfl); have q1 : ∀ o, (w2.alloc o).cell? ⟨w.heap.size, 1, none⟩ = some (.int .i64 (k : Nat)) := (fun o => blk_cell (blk_alloc bp o) rfl); have HB2 := hide hb2; have HOV := hide hov; clear hb2 hov hgb hva bp hy)
      | (go_at_call 43; refine (lock_free muLib ⟨b, 0, none⟩ _ c0 f0).mono ?_; rintro e w1 ⟨rfl, rfl⟩))
    have hfc : (f : Int) + (k : Int) ≤ (c : Int) := by omega
    have HB9 : Hid (∀ {w1 w2 w3 : World} {o p : Obj} (u : Unit), Hid (Below (w1.alloc o).heap.size (w1.alloc o) w2) → Hid (Below (w2.alloc p).drew.heap.size (w2.alloc p).drew w3) → Below w1.heap.size w1 w3) := fun _ h1 h2 => ((below_alloc1 _ _).trans ((unhide h1).mono (by simp))).trans ((((below_alloc1 _ _).drew).trans ((unhide h2).mono (le_alloc _ _))).mono (by have := (unhide h1).size; simp at this; omega))
    by_cases hcf : c = f
    · have hk9 : k ≤ 0 := by omega
      have HV0 : Hid (viewF l (Ov.downOf l x).1 0 0 = viewF l (Ov.downOf l x).1 f k) := by obtain rfl : k = 0 := by omega
                                                                                           exact rfl
      refine wp_calm ?_
      go_region_with (go_at_call 61; refine (oend_calls f k _ (by omega) (by omega)).mono ?_; rintro e w3 ⟨rfl, hb3⟩; have HB3 := hide hb3; have z0 := (hb3.cell (p := ⟨w.heap.size, 0, none⟩) (by have := (unhide HB2).size; simp at this; show w.heap.size < (w2.alloc _).heap.size; simp; omega)).trans (q0 _); have z1 := (hb3.cell (p := ⟨w.heap.size, 1, none⟩) (by have := (unhide HB2).size; simp at this; show w.heap.size < (w2.alloc _).heap.size; simp; omega)).trans (q1 _); have hcv := fun (cap : Nat) => conv_view (cap := cap) (f := 0) (k := 0) (owns_all ((unhide HOV).alloc _) (((Below.refl _ _).drew).trans hb3)) (by omega); clear hb3)
      all_goals
        simp only [NQ]
        go_wp2_with fail
        refine leaves_cons (f := 44) (args := #[.pointer (some ⟨b, 0, none⟩)]) (by simp) (by simp [go_sem]) ?_
        refine (unlock_deferred muLib ⟨b, 0, none⟩ .returning _ ?_ ?_).mono ?_
        · exact ((unhide HB9 () HB2 HB3).cell (p := ⟨b, 0, none⟩) (by simpa using hbl)).trans (blk_cell (unhide HB) rfl)
        · exact ((unhide HB9 () HB2 HB3).frozen (p := ⟨b, 0, none⟩) (by simpa using hbl)).trans (blk_frozen (unhide HB) 0)
        rintro e u' w'' ⟨rfl, rfl, rfl⟩
        refine ⟨_, results_tmp2 rfl _ _ _, ?_, OvLeft.quiet (unhide HR) (unhide HB9 () HB2 HB3)⟩
        rw [unhide HF]
        exact congrArg (fun q => Ending.returned (.tuple #[.string q, .int .i64 0])) (unhide HV0)
    · refine wp_calm ?_
      go_region_with (go_at_call 61; refine (oend_calls f k _ (by omega) (by omega)).mono ?_; rintro e w3 ⟨rfl, hb3⟩; have HB3 := hide hb3; have z0 := (hb3.cell (p := ⟨w.heap.size, 0, none⟩) (by have := (unhide HB2).size; simp at this; show w.heap.size < (w2.alloc _).heap.size; simp; omega)).trans (q0 _); have z1 := (hb3.cell (p := ⟨w.heap.size, 1, none⟩) (by have := (unhide HB2).size; simp at this; show w.heap.size < (w2.alloc _).heap.size; simp; omega)).trans (q1 _); have hcv := fun (cap : Nat) => conv_view (cap := cap) (f := f) (k := k) (owns_all ((unhide HOV).alloc _) (((Below.refl _ _).drew).trans hb3)) (by omega); clear hb3)
      all_goals
        simp only [NQ]
        go_wp2_with fail
        refine leaves_cons (f := 44) (args := #[.pointer (some ⟨b, 0, none⟩)]) (by simp) (by simp [go_sem]) ?_
        refine (unlock_deferred muLib ⟨b, 0, none⟩ .returning _ ?_ ?_).mono ?_
        · exact ((unhide HB9 () HB2 HB3).cell (p := ⟨b, 0, none⟩) (by simpa using hbl)).trans (blk_cell (unhide HB) rfl)
        · exact ((unhide HB9 () HB2 HB3).frozen (p := ⟨b, 0, none⟩) (by simpa using hbl)).trans (blk_frozen (unhide HB) 0)
        rintro e u' w'' ⟨rfl, rfl, rfl⟩
        refine ⟨_, results_tmp2 rfl _ _ _, ?_, OvLeft.quiet (unhide HR) (unhide HB9 () HB2 HB3)⟩
        rw [unhide HF]
        exact rfl
  · have hno : ∀ W, Below (w.setCell ⟨b, 0, none⟩ (.int .i32 1)).heap.size (w.setCell ⟨b, 0, none⟩ (.int .i32 1)) W → Calls Tryz.prog 59 #[.pointer (some ⟨b, 0, none⟩), .string x, .agg #[.int .i64 f, .int .i64 k]] W (AtNo (rangedF l x f k) W) := fun W hW => oopenAt_no x f k W b B r room l s0 s1 s2 s3 ((unhide HC).kept hW) hq hf1 hf2 hk1 hk2
    have HNO := hide hno
    have HF : Hid (readF l x f k = (⟨#[]⟩, rangedF l x f k)) := by unfold readF; rw [if_pos hq]; exact rfl
    obtain ⟨q, hqe⟩ : ∃ q, rangedF l x f k = q := ⟨_, rfl⟩
    rw [hqe] at HNO HF hq
    have hqn : (q != 0) = true := by rw [bne_iff_ne]; exact hq
    clear hno hqe hq
    go_enter_defers Tryz.func33, Tryz.ntmps33
    go_wp2_with (first
      | (go_at_call 59; refine (unhide HNO _ (below_alloc1 _ _)).mono ?_; rintro e w2 ⟨hb2, rfl⟩; have HB2 := hide hb2; clear hb2)
      | (go_at_call 43; refine (lock_free muLib ⟨b, 0, none⟩ _ c0 f0).mono ?_; rintro e w1 ⟨rfl, rfl⟩))
    have hb5 : Below (w.setCell ⟨b, 0, none⟩ (.int .i32 1)).heap.size (w.setCell ⟨b, 0, none⟩ (.int .i32 1)) (w2.alloc (.cells #[.string ⟨#[]⟩, .slice none 0 0, .int .i64 0] 90)) := ((below_alloc1 _ _).trans ((unhide HB2).mono (le_alloc _ _))).alloc (by have := (unhide HB2).size; simp at this; simp; omega) _
    refine leaves_cons (f := 44) (args := #[.pointer (some ⟨b, 0, none⟩)]) (by simp) (by simp [go_sem]) ?_
    refine (unlock_deferred muLib ⟨b, 0, none⟩ .returning _ ?_ ?_).mono ?_
    · exact (hb5.cell (p := ⟨b, 0, none⟩) (by simpa using hbl)).trans (blk_cell (unhide HB) rfl)
    · exact (hb5.frozen (p := ⟨b, 0, none⟩) (by simpa using hbl)).trans (blk_frozen (unhide HB) 0)
    rintro e u' w'' ⟨rfl, rfl, rfl⟩
    refine ⟨_, results_tmp2 rfl _ _ _, ?_, OvLeft.quiet (unhide HR) hb5⟩
    rw [unhide HF]; rfl

end Go.Proofs.YtomiepknmmpflaaGreatDoor

namespace Go.Proofs.YtomiepknmmpflaaGreatDoor
open Go.RowKit Go.Joins

def partF {α : Type} (old new : Nat → α) (c : Nat → Prop) [DecidablePred c] (n : Nat) : Nat → α := fun i => if i < n ∧ c i then new i else old i
def allF {α : Type} (old new : Nat → α) (c : Nat → Prop) [DecidablePred c] : Nat → α := fun i => if c i then new i else old i
theorem partF_zero {α : Type} (old new : Nat → α) (c : Nat → Prop) [DecidablePred c] : partF old new c 0 = old := by
  funext i; unfold partF; rw [if_neg (by omega)]
theorem partF_skip {α : Type} {old new : Nat → α} {c : Nat → Prop} [DecidablePred c] {n : Nat} (h : ¬ c n) : partF old new c (n + 1) = partF old new c n := by
  funext i
  unfold partF
  by_cases e : i = n
  · subst e; rw [if_neg (fun q => h q.2), if_neg (fun q => h q.2)]
  · by_cases h1 : i < n ∧ c i
    · rw [if_pos h1, if_pos ⟨by omega, h1.2⟩]
    · rw [if_neg h1, if_neg (fun q => h1 ⟨by omega, q.2⟩)]
theorem partF_set {α : Type} {old new : Nat → α} {c : Nat → Prop} [DecidablePred c] {n : Nat} (h : c n) : partF old new c (n + 1) = fun i => if i = n then new n else partF old new c n i := by
  funext i
  unfold partF
  by_cases e : i = n
  · subst e; rw [if_pos ⟨by omega, h⟩, if_pos rfl]
  · rw [if_neg e]
    by_cases h1 : i < n ∧ c i
    · rw [if_pos h1, if_pos ⟨by omega, h1.2⟩]
    · rw [if_neg h1, if_neg (fun q => h1 ⟨by omega, q.2⟩)]
theorem partF_full {α : Type} {old new : Nat → α} {c : Nat → Prop} [DecidablePred c] {m i : Nat} (hi : i < m) : partF old new c m i = allF old new c i := by
  unfold partF allF
  by_cases h : c i
  · rw [if_pos ⟨hi, h⟩, if_pos h]
  · rw [if_neg (fun q => h q.2), if_neg h]
abbrev dQ (q : Nat → Int) (f k : Nat) : Nat → Int := allF q (fun _ => 2) (touched f k)
abbrev dD (d : Nat → Eight) (v : Nat → Nat) (f k : Nat) : Nat → Eight := allF d (fun i j => v (8 * i + j)) (touched f k)
abbrev wQ (q : Nat → Int) (x : Int) (f k : Nat) : Nat → Int := allF q (fun _ => x) (covered f k)
abbrev wD (d : Nat → Eight) (f k : Nat) : Nat → Eight := allF d (fun _ _ => 0) (covered f k)

structure SD (w : World) (g m : Nat) (q : Nat → Int) (d : Nat → Eight) (wr : World) : Prop where
  row : wr.heap[g]? = some (.cells (clRow q d m).toArray 160 (0, 0))
  grown : w.grownBy wr (some g)
theorem SD.kept {w wr w2 : World} {g m : Nat} {q : Nat → Int} {d : Nat → Eight} (h : SD w g m q d wr) (hb : Below wr.heap.size wr w2) : SD w g m q d w2 :=
  ⟨(hb.block g (blk_lt h.row)).trans h.row, grown_trans h.grown (grown_of_below hb _)⟩

theorem SD.kind {w wr : World} {g m : Nat} {q : Nat → Int} {d : Nat → Eight} (h : SD w g m q d wr) (n : Nat) (x : Int) : (wr.setCell ⟨g, n * 9, none⟩ (.int .i64 x)).heap[g]? = some (.cells ((clRow q d m).set (n * 9) (.int .i64 x)).toArray 160 (0, 0)) := by
  rw [blk_set_same (i := n * 9) h.row]; simp
theorem view_src {w : World} {base g c n : Nat} {v : Nat → Nat} (h : w.ownsRow base 5 1 (.slice (some ⟨g, 0, none⟩) (n * 8) c) (n * 8) (runTo v n)) {k : Nat} (hk : k < n) : ∀ (j : Nat) (u : Value), (blkCells (fun j => v (8 * k + j)))[j]? = some u → w.cell? ((⟨g, k * 8, none⟩ : Addr).add j) = some u := by
  intro j u hj
  have hj8 : j < 8 := by
    have := (List.getElem?_eq_some_iff.1 hj).1
    rwa [blkCells_length] at this
  have e : (⟨g, k * 8, none⟩ : Addr).add j = ⟨g, k * 8 + j, none⟩ := by
    cases j with
    | zero => rfl
    | succ j => simp [Addr.add]
  rw [e, view_byte h (by omega), ← hj, show k * 8 + j = 8 * k + j from by omega]
  match j, hj8 with
  | 0, _ => rfl
  | 1, _ => rfl
  | 2, _ => rfl
  | 3, _ => rfl
  | 4, _ => rfl
  | 5, _ => rfl
  | 6, _ => rfl
  | 7, _ => rfl

set_option maxRecDepth 100000 in
set_option maxHeartbeats 4000000 in
theorem osetData_calls (X g m f k ga ca base : Nat) (bk : ByteArray) (t : Int) (q : Nat → Int) (d : Nat → Eight) (v : Nat → Nat) (w : World) (hX : w.heap[X]? = some (.cells #[.string bk, .slice (some ⟨g, 0, none⟩) m m, .int .i64 t] 90 (0, 0))) (hg : w.heap[g]? = some (.cells (clRow q d m).toArray 160 (0, 0)))
    (hv : w.ownsRow base 5 1 (.slice (some ⟨ga, 0, none⟩) (m * 8) ca) (m * 8) (runTo v m)) (hm : m ≤ 30) (hk : 1 ≤ k) (hfk : f + k ≤ m * 8) :
    Calls Tryz.prog 60 #[.pointer (some ⟨X, 0, none⟩), .agg #[.int .i64 (f : Nat), .int .i64 (k : Nat)], .slice (some ⟨ga, 0, none⟩) (m * 8) ca] w fun e w' => (∃ u, e = .returned u) ∧ SD w g m (dQ q f k) (dD d v f k) w' := by
  have hXl := blk_lt hX
  have hgl := blk_lt hg
  have hXg : X ≠ g := blk_two hX hg (by decide)
  have hgag : some g ≠ (Value.slice (some ⟨ga, 0, none⟩) (m * 8) ca).ownBlock := own_ne hv hg (by decide)
  have hcap := (row_cap hv).1
  have x1 : w.cell? ⟨X, 1, none⟩ = some (.slice (some ⟨g, 0, none⟩) m m) := blk_cell hX rfl
  have HX1 := hide x1
  have HV := hide hv
  have HG := hide hg
  clear hX hg hv
  have x1a : ∀ o, (w.alloc o).cell? ⟨X, 1, none⟩ = some (.slice (some ⟨g, 0, none⟩) m m) := fun o => (World.cell?_alloc_past _ _ _ hXl).trans x1
  clear x1
  go_enter Tryz.func60, Tryz.ntmps60
  go_wp2
  go_loopw [12, 6] (fun i _ wr => ∃ n : Nat, n ≤ m ∧ i = .int .i64 (n : Nat) ∧ SD w g m (partF q (fun _ => 2) (touched f k) n) (partF d (fun i j => v (8 * i + j)) (touched f k) n) wr ∧ wr.heap[w.heap.size]? = some (.cells #[.int .i64 (f : Nat), .int .i64 (k : Nat)] 102 (0, 0))) (fun i _ _ => m - (intOf i).toNat)
  case atStart => exact ⟨0, Nat.zero_le _, rfl, by rw [partF_zero, partF_zero]; exact ⟨blk_alloc (unhide HG) _, grown_of_below (below_alloc1 w _) _⟩, blk_new _ _⟩
  case round =>
    obtain ⟨n, hn, rfl, hsd, hsp⟩ := hrel
    have hsz := hsd.grown.size
    have p0 := blk_cell (i := 0) hsp rfl
    have p1 := blk_cell (i := 1) hsp rfl
    by_cases hlt : n < m
    · have HSD := hide hsd
      have HSP := hide hsp
      by_cases ht : touched f k n
      · have hdt : decide (touched f k n) = true := decide_eq_true ht
        have HSQ : Hid (partF q (fun _ => (2 : Int)) (touched f k) (n + 1) = upQ (partF q (fun _ => 2) (touched f k) n) n 2) := partF_set ht
        have HSB : Hid (partF d (fun i j => v (8 * i + j)) (touched f k) (n + 1) = upD (partF d (fun i j => v (8 * i + j)) (touched f k) n) n (fun j => v (8 * n + j))) := partF_set ht
        have HDT := hide hdt
        clear hsd hsp ht hdt
        go_wp2_with (go_at_call 104; refine (otouches_calls f k n _ (by omega) (by omega) hk).mono ?_; rintro e w1 ⟨he, hb1⟩; rw [unhide HDT] at he; subst he; have hs1 := (unhide HSD).kept hb1; have r1 := blk_cell (w := w1) (i := n * 9) hs1.row (by rw [List.getElem?_toArray, clRow_get (by omega)]); have rf1 := blk_frozen hs1.row; have y1 : w1.cell? ⟨X, 1, none⟩ = some (.slice (some ⟨g, 0, none⟩) m m) := (World.cell?_of_block (a := ⟨X, 1, none⟩) (hs1.grown.block X hXl (by simp; exact hXg))).trans (unhide HX1); have HB1 := hide hb1; have HS1 := hide hs1; clear hb1 hs1)
        have hnX : X ≠ g := hXg
        have hkd := (unhide HS1).kind n 2
        have hgr : w.grownBy (w1.setCell ⟨g, n * 9, none⟩ (.int .i64 2)) (some g) := grown_trans (unhide HS1).grown (grown_set w1 g (n * 9) _)
        have y2 : (w1.setCell ⟨g, n * 9, none⟩ (.int .i64 2)).cell? ⟨X, 1, none⟩ = some (.slice (some ⟨g, 0, none⟩) m m) := (World.cell?_of_block (a := ⟨X, 1, none⟩) (hgr.block X hXl (by simp; exact hXg))).trans (unhide HX1)
        have hvw : (w1.setCell ⟨g, n * 9, none⟩ (.int .i64 2)).ownsRow base 5 1 (.slice (some ⟨ga, 0, none⟩) (m * 8) ca) (m * 8) (runTo v m) := owns_grown (unhide HV) hgr (Or.inr hgag.symm)
        have HKD := hide hkd
        have HVW := hide hvw
        have HGR := hide hgr
        have hw8 : IntKind.i64.wrap ((n : Int) * 8) = (n : Int) * 8 := by simp [IntKind.wrap_i64]; omega
        have hne : ¬ ca = n * 8 := by omega
        have hp8 : 0 ≤ (n : Int) * 8 := by omega
        have htn : ((n : Int) * 8).toNat = n * 8 := by omega
        have hle8 : (n : Int) * 8 ≤ (m : Int) * 8 := by omega
        have hle9 : n * 8 ≤ m * 8 := by omega
        have Hfit : Hid (n * 9 + 1 + (blkCells (fun j => v (8 * n + j))).length ≤ ((clRow (partF q (fun _ => (2 : Int)) (touched f k) n) (partF d (fun i j => v (8 * i + j)) (touched f k) n) m).set (n * 9) (.int .i64 2)).length) := by show _ ≤ _; rw [blkCells_length, List.length_set, clRow_length]; omega
        have Hmin : Hid ((blkCells (fun j => v (8 * n + j))).length = Nat.min (m * 8 - n * 8) 8) := by show _ = _; rw [blkCells_length]; exact (Nat.min_eq_right (by omega)).symm
        clear hkd hvw hgr r1 rf1 y1
        go_region_law (refine step_copy_slice rfl (.tmp 32) (.tmp 36) 103 103 rfl 5 Tryz.underlying103 (by kernel_rfl) g (n * 9 + 1) 8 8 ⟨ga, n * 8, none⟩ (m * 8 - n * 8) (ca - n * 8) (by simp [Act.eval, Act.put]) (by simp [Act.eval, Act.put]) _ 160 (by exact unhide HKD) (blkCells (fun j => v (8 * n + j))) (unhide Hmin) (by exact view_src (unhide HVW) hlt) (unhide Hfit) (blk_one _) ?_; intro w3 hr3 hg3 hs3)
        all_goals
          go_wp2_with fail
          go_roundw
          case rel =>
            have hsw : w3.heap[w.heap.size]? = some (.cells #[.int .i64 (f : Nat), .int .i64 (k : Nat)] 102 (0, 0)) := by
              have h1 := ((unhide HB1).block w.heap.size (blk_lt (unhide HSP))).trans (unhide HSP)
              have h2 := blk_set_other h1 (a := ⟨g, n * 9, none⟩) (by show w.heap.size ≠ g; omega) (.int .i64 2)
              exact (hg3.block w.heap.size (blk_lt h2) (by simp; omega)).trans h2
            refine ⟨n + 1, by omega, by go_num, ⟨?_, ?_⟩, hsw⟩
            · rw [unhide HSQ, unhide HSB, ← clRow_copy hlt]
              rw [blkCells_length] at hr3
              exact hr3
            · exact grown_trans (unhide HGR) (grown_trans (grown_of_below ((Below.refl _ _).drew) _) hg3)
          case measure => simp [intOf]; omega
      · have hdt : decide (touched f k n) = false := decide_eq_false ht
        have HSQ : Hid (partF q (fun _ => (2 : Int)) (touched f k) (n + 1) = partF q (fun _ => 2) (touched f k) n) := partF_skip ht
        have HSB : Hid (partF d (fun i j => v (8 * i + j)) (touched f k) (n + 1) = partF d (fun i j => v (8 * i + j)) (touched f k) n) := partF_skip ht
        have HDT := hide hdt
        clear hsd hsp ht hdt
        go_wp2_with (go_at_call 104; refine (otouches_calls f k n _ (by omega) (by omega) hk).mono ?_; rintro e w1 ⟨he, hb1⟩; rw [unhide HDT] at he; subst he; have HB1 := hide hb1; clear hb1)
        go_roundw
        case rel => exact ⟨n + 1, by omega, by go_num, by rw [unhide HSQ, unhide HSB]; exact (unhide HSD).kept (unhide HB1), ((unhide HB1).block _ (blk_lt (unhide HSP))).trans (unhide HSP)⟩
        case measure => simp [intOf]; omega
    · obtain rfl : n = m := by omega
      have HFIN : Hid (SD w g n (dQ q f k) (dD d v f k) wr) := ⟨by rw [hsd.row, clRow_congr (fun i hi => partF_full hi) (fun i hi j _ => by rw [partF_full hi])], hsd.grown⟩
      clear hsd hsp
      go_wp2_with fail
      go_end0
      exact ⟨⟨_, rfl⟩, unhide HFIN⟩

theorem SD.nine {w wr : World} {g m n : Nat} {q : Nat → Int} {d : Nat → Eight} {x : Int} (h : SD w g m q d wr) :
    SD w g m (upQ q n x) (upD d n fun _ => 0) (((((((((wr.setCell ⟨g, n * 9, none⟩ (.int .i64 x)).setCell ⟨g, n * 9 + 1, none⟩ (.int .u8 0)).setCell ⟨g, n * 9 + 2, none⟩ (.int .u8 0)).setCell ⟨g, n * 9 + 3, none⟩ (.int .u8 0)).setCell ⟨g, n * 9 + 4, none⟩ (.int .u8 0)).setCell ⟨g, n * 9 + 5, none⟩ (.int .u8 0)).setCell ⟨g, n * 9 + 6, none⟩ (.int .u8 0)).setCell ⟨g, n * 9 + 7, none⟩ (.int .u8 0)).setCell ⟨g, n * 9 + 8, none⟩ (.int .u8 0)) := by
  refine ⟨?_, grown_trans h.grown (grown_trans (grown_trans (grown_trans (grown_trans (grown_trans (grown_trans (grown_trans (grown_trans (grown_set _ g _ _) (grown_set _ g _ _)) (grown_set _ g _ _)) (grown_set _ g _ _)) (grown_set _ g _ _)) (grown_set _ g _ _)) (grown_set _ g _ _)) (grown_set _ g _ _)) (grown_set _ g _ _))⟩
  rw [blk_set_same (i := n * 9 + 8) (blk_set_same (i := n * 9 + 7) (blk_set_same (i := n * 9 + 6) (blk_set_same (i := n * 9 + 5) (blk_set_same (i := n * 9 + 4) (blk_set_same (i := n * 9 + 3) (blk_set_same (i := n * 9 + 2) (blk_set_same (i := n * 9 + 1) (blk_set_same (i := n * 9) h.row _) _) _) _) _) _) _) _) _, ← clRow_nine]
  simp

set_option maxRecDepth 100000 in
set_option maxHeartbeats 4000000 in
theorem osetWhole_calls (X g m f k : Nat) (x : Int) (bk : ByteArray) (t : Int) (q : Nat → Int) (d : Nat → Eight) (w : World) (hX : w.heap[X]? = some (.cells #[.string bk, .slice (some ⟨g, 0, none⟩) m m, .int .i64 t] 90 (0, 0))) (hg : w.heap[g]? = some (.cells (clRow q d m).toArray 160 (0, 0)))
    (hm : m ≤ 30) (hfk : f + k ≤ m * 8) :
    Calls Tryz.prog 62 #[.pointer (some ⟨X, 0, none⟩), .agg #[.int .i64 (f : Nat), .int .i64 (k : Nat)], .int .i64 x] w fun e w' => e = .returned (.bool (someTo f k m)) ∧ SD w g m (wQ q x f k) (wD d f k) w' := by
  have hXl := blk_lt hX
  have hgl := blk_lt hg
  have hXg : X ≠ g := blk_two hX hg (by decide)
  have x1 : w.cell? ⟨X, 1, none⟩ = some (.slice (some ⟨g, 0, none⟩) m m) := blk_cell hX rfl
  have HX1 := hide x1
  have HG := hide hg
  clear hX hg
  have x1a : ∀ o, (w.alloc o).cell? ⟨X, 1, none⟩ = some (.slice (some ⟨g, 0, none⟩) m m) := fun o => (World.cell?_alloc_past _ _ _ hXl).trans x1
  clear x1
  go_enter Tryz.func62, Tryz.ntmps62
  go_wp2
  go_loopw [14, 7, 8] (fun i b _ wr => ∃ n : Nat, n ≤ m ∧ i = .int .i64 (n : Nat) ∧ b = .bool (someTo f k n) ∧ SD w g m (partF q (fun _ => x) (covered f k) n) (partF d (fun _ _ => 0) (covered f k) n) wr ∧ wr.heap[w.heap.size]? = some (.cells #[.int .i64 (f : Nat), .int .i64 (k : Nat)] 102 (0, 0))) (fun i _ _ _ => m - (intOf i).toNat)
  case atStart => exact ⟨0, Nat.zero_le _, rfl, rfl, by rw [partF_zero, partF_zero]; exact ⟨blk_alloc (unhide HG) _, grown_of_below (below_alloc1 w _) _⟩, blk_new _ _⟩
  case round =>
    obtain ⟨n, hn, rfl, rfl, hsd, hsp⟩ := hrel
    have hsz := hsd.grown.size
    have p0 := blk_cell (i := 0) hsp rfl
    have p1 := blk_cell (i := 1) hsp rfl
    by_cases hlt : n < m
    · have HSD := hide hsd
      have HSP := hide hsp
      by_cases ht : covered f k n
      · have hdt : decide (covered f k n) = true := decide_eq_true ht
        have HSQ : Hid (partF q (fun _ => x) (covered f k) (n + 1) = upQ (partF q (fun _ => x) (covered f k) n) n x) := partF_set ht
        have HSB : Hid (partF d (fun _ _ => 0) (covered f k) (n + 1) = upD (partF d (fun _ _ => 0) (covered f k) n) n (fun _ => 0)) := partF_set ht
        have HST := hide (someTo_yes ht)
        have HDT := hide hdt
        clear hsd hsp ht hdt
        go_wp2_with (go_at_call 105; refine (ocovers_calls f k n _ (by omega) (by omega)).mono ?_; rintro e w1 ⟨he, hb1⟩; rw [unhide HDT] at he; subst he; have hs1 := (unhide HSD).kept hb1; have rf1 := blk_frozen hs1.row; have rc1 : ∀ j, j < 9 → w1.cell? ⟨g, n * 9 + j, none⟩ = some (clCell (partF q (fun _ => x) (covered f k) n) (partF d (fun _ _ => 0) (covered f k) n) (n * 9 + j)) := (fun j hj => blk_cell hs1.row (by rw [List.getElem?_toArray, clRow_get (by omega)])); have c0 := rc1 0 (by omega); have c1 := rc1 1 (by omega); have c2 := rc1 2 (by omega); have c3 := rc1 3 (by omega); have c4 := rc1 4 (by omega); have c5 := rc1 5 (by omega); have c6 := rc1 6 (by omega); have c7 := rc1 7 (by omega); have c8 := rc1 8 (by omega); rw [Nat.add_zero] at c0; clear rc1; have y1 : w1.cell? ⟨X, 1, none⟩ = some (.slice (some ⟨g, 0, none⟩) m m) := (World.cell?_of_block (a := ⟨X, 1, none⟩) (hs1.grown.block X hXl (by simp; exact hXg))).trans (unhide HX1); have HB1 := hide hb1; have HS1 := hide hs1; clear hb1 hs1)
        go_roundw
        case rel =>
          have hsw : w1.heap[w.heap.size]? = some (.cells #[.int .i64 (f : Nat), .int .i64 (k : Nat)] 102 (0, 0)) := ((unhide HB1).block w.heap.size (blk_lt (unhide HSP))).trans (unhide HSP)
          have hne : w.heap.size ≠ g := by omega
          exact ⟨n + 1, by omega, by go_num, by rw [unhide HST], by rw [unhide HSQ, unhide HSB]; exact (unhide HS1).nine, blk_set_other (blk_set_other (blk_set_other (blk_set_other (blk_set_other (blk_set_other (blk_set_other (blk_set_other (blk_set_other hsw hne _) hne _) hne _) hne _) hne _) hne _) hne _) hne _) hne _⟩
        case measure => simp [intOf]; omega
      · have hdt : decide (covered f k n) = false := decide_eq_false ht
        have HSQ : Hid (partF q (fun _ => x) (covered f k) (n + 1) = partF q (fun _ => x) (covered f k) n) := partF_skip ht
        have HSB : Hid (partF d (fun _ _ => 0) (covered f k) (n + 1) = partF d (fun _ _ => 0) (covered f k) n) := partF_skip ht
        have HST := hide (someTo_no ht)
        have HDT := hide hdt
        clear hsd hsp ht hdt
        go_wp2_with (go_at_call 105; refine (ocovers_calls f k n _ (by omega) (by omega)).mono ?_; rintro e w1 ⟨he, hb1⟩; rw [unhide HDT] at he; subst he; have HB1 := hide hb1; clear hb1)
        go_roundw
        case rel => exact ⟨n + 1, by omega, by go_num, by rw [unhide HST], by rw [unhide HSQ, unhide HSB]; exact (unhide HSD).kept (unhide HB1), ((unhide HB1).block _ (blk_lt (unhide HSP))).trans (unhide HSP)⟩
        case measure => simp [intOf]; omega
    · obtain rfl : n = m := by omega
      have HFIN : Hid (SD w g n (wQ q x f k) (wD d f k) wr) := ⟨by rw [hsd.row, clRow_congr (fun i hi => partF_full hi) (fun i hi j _ => by rw [partF_full hi])], hsd.grown⟩
      clear hsd hsp
      go_wp2_with fail
      go_ret
      exact ⟨rfl, unhide HFIN⟩

def discKind (bk : ByteArray) : Int := if bk.size = 0 then 0 else 1
set_option maxRecDepth 100000 in
theorem oblank_calls (bk : ByteArray) (a : Option Addr) (n c : Nat) (t : Int) (w : World) : Calls Tryz.prog 63 #[.agg #[.string bk, .slice a n c, .int .i64 t]] w fun e w' => e = .returned (.int .i64 (discKind bk)) ∧ Below w.heap.size w w' := by
  by_cases hz : bk.size = 0
  · have hbe := empty_of hz
    have HZ : Hid (discKind bk = 0) := if_pos hz
    clear hz
    go_enter Tryz.func63, Tryz.ntmps63
    go_wp2
    go_ret
    exact ⟨by rw [unhide HZ]; rfl, below_alloc1 w _⟩
  · have hbe : bk.toList.isEmpty = false := by rw [ByteArray.toList_eq, ← Bool.not_eq_true, List.isEmpty_iff_length_eq_zero]; simpa using hz
    have HZ : Hid (discKind bk = 1) := if_neg hz
    clear hz
    go_enter Tryz.func63, Tryz.ntmps63
    go_wp2
    go_ret
    exact ⟨by rw [unhide HZ]; rfl, below_alloc1 w _⟩

end Go.Proofs.YtomiepknmmpflaaGreatDoor

