/- The program's Read. -/
import Derived.Test.YtdcmmmggiokbhaaGreatDoorCWOpenAt
namespace Go.Proofs.YtdcmmmggiokbhaaGreatDoor
open Go.RowKit Go.Joins

theorem row_cap {w : World} {base e size n g cap : Nat} {xs : List Value} (h : w.ownsRow base e size (.slice (some ⟨g, 0, none⟩) n cap) n xs) : n ≤ cap ∧ cap ≤ maxLen := by
  rcases h.2 with ⟨e, _⟩ | ⟨g', cap', cur, e, _, _, h1, h2, _⟩
  · simp at e
  · simp only [Value.slice.injEq, Option.some.injEq, Addr.mk.injEq, and_true, true_and] at e
    obtain ⟨rfl, rfl⟩ := e
    exact ⟨h1, h2⟩
theorem runTo_byte (v : Nat → Nat) {n i : Nat} (h : i < 8 * n) : (runTo v n)[i]? = some (.int .u8 (v i : Nat)) := by
  have := runTo_at v (n := n) (k := i / 8) (j := i % 8) (by omega) (by omega)
  rw [show i / 8 * 8 + i % 8 = i from by omega, show 8 * (i / 8) + i % 8 = i from by omega] at this
  exact this
/-- A byte of a view that lies in memory as bytes. -/
theorem view_byte {w : World} {base g c n : Nat} {v : Nat → Nat} (h : w.ownsRow base 5 1 (.slice (some ⟨g, 0, none⟩) (n * 8) c) (n * 8) (runTo v n)) {i : Nat} (hi : i < 8 * n) : w.cell? ⟨g, i, none⟩ = some (.int .u8 (v i : Nat)) := by
  rw [h.cellAt i (by omega)]; exact runTo_byte v hi
theorem viewTo_at (l : Ov.Files) (ns : List ByteArray) (f : Nat) {k i : Nat} (h : i < k) : (viewTo l ns f k).getD i 0 = ((Ov.atTo l ns (f + i) : Nat) : Int) := by
  induction k with
  | zero => omega
  | succ k ih =>
    rw [viewTo]
    by_cases e : i < k
    · rw [List.getD_eq_getElem?_getD, List.getElem?_append_left (by rw [viewTo_length]; exact e), ← List.getD_eq_getElem?_getD]; exact ih e
    · obtain rfl : i = k := by omega
      rw [List.getD_eq_getElem?_getD, List.getElem?_append_right (by rw [viewTo_length]; omega), viewTo_length, Nat.sub_self]; rfl
theorem conv_view {w : World} {base g c n : Nat} {l : Ov.Files} {ns : List ByteArray} (h : w.ownsRow base 5 1 (.slice (some ⟨g, 0, none⟩) (n * 8) c) (n * 8) (runTo (Ov.atTo l ns) n)) {f k cap : Nat} (hf : f + k ≤ n * 8) : (convert 88 9 (.slice (some ⟨g, f, none⟩) k cap)).run Tryz.prog w = .ok (.string (viewF l ns f k)) w :=
  run_convert_bytes_arg w 88 5 Tryz.underlying88 Tryz.underlying5 g f k cap (viewTo l ns f k) (viewTo_length l ns f k) (fun i hi => by rw [viewTo_at l ns f hi]; exact view_byte h (by omega)) 9 Tryz.underlying9

/-- openAt where it is refused. -/
theorem oopenAt_no (x : ByteArray) (f k : Int) (w : World) (b B : Nat) (r0 : Option Nat) (room : Nat) (l : Ov.Files) (s0 s1 s2 s3 : Addr) (h : ChainAt w b B r0 room l s0 s1 s2 s3) (hq : rangedF l x f k ≠ 0) (hf1 : -9223372036854775808 ≤ f) (hf2 : f ≤ 9223372036854775807) (hk1 : -9223372036854775808 ≤ k) (hk2 : k ≤ 9223372036854775807) :
    Calls Tryz.prog 44 #[.pointer (some ⟨b, 0, none⟩), .string x, .agg #[.int .i64 f, .int .i64 k]] w (AtNo (rangedF l x f k) w) := by
  by_cases hso : Ov.soundF l x = 0
  · have hw := ranged_within (f := f) (k := k) hso
    by_cases e : withinB f k ((8 * Ov.many (fOf l x) : Nat) : Int) = true
    · rw [if_pos e] at hw; exact absurd hw hq
    · rw [if_neg e] at hw
      rw [hw]
      exact (oopenAt_sound x f k w b B r0 room l s0 s1 s2 s3 h hso hf1 hf2 hk1 hk2).mono fun _ _ hh => hh.2 (by simpa using e)
  · rw [ranged_sound hso]
    exact oopenAt_bad x f k w b B r0 room l s0 s1 s2 s3 h hso
/-- .. and where all is well. -/
theorem oopenAt_yes (x : ByteArray) (f k : Int) (w : World) (b B : Nat) (r0 : Option Nat) (room : Nat) (l : Ov.Files) (s0 s1 s2 s3 : Addr) (h : ChainAt w b B r0 room l s0 s1 s2 s3) (hq : rangedF l x f k = 0) (hf1 : -9223372036854775808 ≤ f) (hf2 : f ≤ 9223372036854775807) (hk1 : -9223372036854775808 ≤ k) (hk2 : k ≤ 9223372036854775807) :
    Calls Tryz.prog 44 #[.pointer (some ⟨b, 0, none⟩), .string x, .agg #[.int .i64 f, .int .i64 k]] w (AtYes l x w) := by
  have hso := (ranged_ok hq).1
  have hw := ranged_within (f := f) (k := k) hso
  refine (oopenAt_sound x f k w b B r0 room l s0 s1 s2 s3 h hso hf1 hf2 hk1 hk2).mono fun _ _ hh => hh.1 ?_
  by_cases e : withinB f k ((8 * Ov.many (fOf l x) : Nat) : Int) = true
  · exact e
  · rw [hq, if_neg e] at hw; omega

open Go.MuLone in
set_option maxRecDepth 100000 in
set_option maxHeartbeats 2000000 in
theorem oRead_calls (l : Ov.Files) (x : ByteArray) (f k : Int) (b B : Nat) (r : Option Nat) (room : Nat) (s0 s1 s2 s3 : Addr) (w : World) (hi : Ov.LI room l) (h : OvRep w b r room l) (hs : Sents w B s0 s1 s2 s3) (hB : B ≤ b) (hf1 : -9223372036854775808 ≤ f) (hf2 : f ≤ 9223372036854775807) (hk1 : -9223372036854775808 ≤ k) (hk2 : k ≤ 9223372036854775807) :
    Calls Tryz.prog 15 #[.pointer (some ⟨b, 0, none⟩), .string x, .int .i64 f, .int .i64 k] w fun e w' => e = .returned (.tuple #[.string (readF l x f k).1, .int .i64 (readF l x f k).2]) ∧ OvLeft w b r room l w' := by
  obtain ⟨v, h1, h2, h3, h4⟩ := id h
  have HR := hide h
  have c0 : w.cell? ⟨b, 0, none⟩ = some (.int .i32 0) := blk_cell h1 rfl
  have f0 := blk_frozen h1 0
  have hbl := blk_lt h1
  have HB := hide (blk_set_same (i := 0) h1 (.int .i32 1))
  have HC : Hid (ChainAt (w.setCell ⟨b, 0, none⟩ (.int .i32 1)) b B r room l s0 s1 s2 s3) := ⟨h.lock, hi, hs.kept ((Below.refl B w).setCell (p := ⟨b, 0, none⟩) hB (.int .i32 1))⟩
  clear h h1 h2 h3 h4 hs hi
  by_cases hq : rangedF l x f k = 0
  · obtain ⟨hso, hp, hc, hf0, hk0, hfk⟩ := ranged_ok hq
    obtain ⟨f, rfl⟩ := Int.eq_ofNat_of_zero_le hf0
    obtain ⟨k, rfl⟩ := Int.eq_ofNat_of_zero_le hk0
    have hm := hc.many_le
    have hwb : withinB f k ((8 * Ov.many (fOf l x) : Nat) : Int) = true := by
      have := ranged_within (f := f) (k := k) hso
      rw [hq] at this
      by_cases e : withinB (f : Int) (k : Int) ((8 * Ov.many (fOf l x) : Nat) : Int) = true
      · exact e
      · rw [if_neg e] at this; omega
    have HF : Hid (readF l x f k = (viewF l (Ov.downOf l x).1 f k, 0)) := by unfold readF; rw [hq, if_neg (by omega)]; exact rfl
    have HSO := hide hso
    have HWB := hide hwb
    obtain ⟨m, hme⟩ : ∃ m, Ov.many (fOf l x) = m := ⟨_, rfl⟩
    rw [show Ov.many (fileOf l x) = m from hme] at hm hfk
    obtain ⟨hm1, hm30⟩ := hm
    have HME := hide hme
    clear hq hso hp hc hwb hme
    go_enter_defers Tryz.func15, Tryz.ntmps15
    go_wp2_with (first
      | (go_at_call 44; refine (oopenAt_sound x f k _ b B r room l s0 s1 s2 s3 ((unhide HC).kept (below_alloc1 _ _)) (unhide HSO) hf1 hf2 hk1 hk2).mono ?_; rintro e w2 ⟨hy, _⟩; obtain ⟨hb2, g, a, c, he, hgw, hgb, hov⟩ := hy (unhide HWB); rw [unhide HME] at he hgb hov; subst he; obtain ⟨ga, ca, hva⟩ := ownsRow_form hov (by omega); obtain ⟨rfl, rfl⟩ : a = some ⟨ga, 0, none⟩ ∧ c = ca := (by simpa using hva); have hcap := (row_cap hov).1; have bp := (hb2.block (w.setCell ⟨b, 0, none⟩ (.int .i32 1)).heap.size (by simp)).trans (blk_new _ _); simp only [World.size_setCell] at bp; have q0 : ∀ o, (w2.alloc o).cell? ⟨w.heap.size, 0, none⟩ = some (.int .i64 (f : Nat)) := (fun o => blk_cell (blk_alloc bp o) rfl); have q1 : ∀ o, (w2.alloc o).cell? ⟨w.heap.size, 1, none⟩ = some (.int .i64 (k : Nat)) := (fun o => blk_cell (blk_alloc bp o) rfl); have HB2 := hide hb2; have HOV := hide hov; clear hb2 hov hgb hva bp hy)
      | (go_at_call 42; refine (lock_free muLib ⟨b, 0, none⟩ _ c0 f0).mono ?_; rintro e w1 ⟨rfl, rfl⟩))
    have hfc : (f : Int) + (k : Int) ≤ (c : Int) := by omega
    have HB9 : Hid (∀ {w1 w2 w3 : World} {o p : Obj} (u : Unit), Hid (Below (w1.alloc o).heap.size (w1.alloc o) w2) → Hid (Below (w2.alloc p).drew.heap.size (w2.alloc p).drew w3) → Below w1.heap.size w1 w3) := fun _ h1 h2 => ((below_alloc1 _ _).trans ((unhide h1).mono (by simp))).trans ((((below_alloc1 _ _).drew).trans ((unhide h2).mono (le_alloc _ _))).mono (by have := (unhide h1).size; simp at this; omega))
    by_cases hcf : c = f
    · have hk9 : k ≤ 0 := by omega
      have HV0 : Hid (viewF l (Ov.downOf l x).1 0 0 = viewF l (Ov.downOf l x).1 f k) := by obtain rfl : k = 0 := by omega
                                                                                           exact rfl
      refine wp_calm ?_
      go_region_with (go_at_call 45; refine (oend_calls f k _ (by omega) (by omega)).mono ?_; rintro e w3 ⟨rfl, hb3⟩; have HB3 := hide hb3; have z0 := (hb3.cell (p := ⟨w.heap.size, 0, none⟩) (by have := (unhide HB2).size; simp at this; show w.heap.size < (w2.alloc _).heap.size; simp; omega)).trans (q0 _); have z1 := (hb3.cell (p := ⟨w.heap.size, 1, none⟩) (by have := (unhide HB2).size; simp at this; show w.heap.size < (w2.alloc _).heap.size; simp; omega)).trans (q1 _); have hcv := fun (cap : Nat) => conv_view (cap := cap) (f := 0) (k := 0) (owns_all ((unhide HOV).alloc _) (((Below.refl _ _).drew).trans hb3)) (by omega); clear hb3)
      all_goals
        simp only [NQ]
        go_wp2_with fail
        refine leaves_cons (f := 43) (args := #[.pointer (some ⟨b, 0, none⟩)]) (by simp) (by simp [go_sem]) ?_
        refine (unlock_deferred muLib ⟨b, 0, none⟩ .returning _ ?_ ?_).mono ?_
        · exact ((unhide HB9 () HB2 HB3).cell (p := ⟨b, 0, none⟩) (by simpa using hbl)).trans (blk_cell (unhide HB) rfl)
        · exact ((unhide HB9 () HB2 HB3).frozen (p := ⟨b, 0, none⟩) (by simpa using hbl)).trans (blk_frozen (unhide HB) 0)
        rintro e u' w'' ⟨rfl, rfl, rfl⟩
        refine ⟨_, results_tmp2 rfl _ _ _, ?_, OvLeft.quiet (unhide HR) (unhide HB9 () HB2 HB3)⟩
        rw [unhide HF]
        exact congrArg (fun q => Ending.returned (.tuple #[.string q, .int .i64 0])) (unhide HV0)
    · refine wp_calm ?_
      go_region_with (go_at_call 45; refine (oend_calls f k _ (by omega) (by omega)).mono ?_; rintro e w3 ⟨rfl, hb3⟩; have HB3 := hide hb3; have z0 := (hb3.cell (p := ⟨w.heap.size, 0, none⟩) (by have := (unhide HB2).size; simp at this; show w.heap.size < (w2.alloc _).heap.size; simp; omega)).trans (q0 _); have z1 := (hb3.cell (p := ⟨w.heap.size, 1, none⟩) (by have := (unhide HB2).size; simp at this; show w.heap.size < (w2.alloc _).heap.size; simp; omega)).trans (q1 _); have hcv := fun (cap : Nat) => conv_view (cap := cap) (f := f) (k := k) (owns_all ((unhide HOV).alloc _) (((Below.refl _ _).drew).trans hb3)) (by omega); clear hb3)
      all_goals
        simp only [NQ]
        go_wp2_with fail
        refine leaves_cons (f := 43) (args := #[.pointer (some ⟨b, 0, none⟩)]) (by simp) (by simp [go_sem]) ?_
        refine (unlock_deferred muLib ⟨b, 0, none⟩ .returning _ ?_ ?_).mono ?_
        · exact ((unhide HB9 () HB2 HB3).cell (p := ⟨b, 0, none⟩) (by simpa using hbl)).trans (blk_cell (unhide HB) rfl)
        · exact ((unhide HB9 () HB2 HB3).frozen (p := ⟨b, 0, none⟩) (by simpa using hbl)).trans (blk_frozen (unhide HB) 0)
        rintro e u' w'' ⟨rfl, rfl, rfl⟩
        refine ⟨_, results_tmp2 rfl _ _ _, ?_, OvLeft.quiet (unhide HR) (unhide HB9 () HB2 HB3)⟩
        rw [unhide HF]
        exact rfl
  · have hno : ∀ W, Below (w.setCell ⟨b, 0, none⟩ (.int .i32 1)).heap.size (w.setCell ⟨b, 0, none⟩ (.int .i32 1)) W → Calls Tryz.prog 44 #[.pointer (some ⟨b, 0, none⟩), .string x, .agg #[.int .i64 f, .int .i64 k]] W (AtNo (rangedF l x f k) W) := fun W hW => oopenAt_no x f k W b B r room l s0 s1 s2 s3 ((unhide HC).kept hW) hq hf1 hf2 hk1 hk2
    have HNO := hide hno
    have HF : Hid (readF l x f k = (⟨#[]⟩, rangedF l x f k)) := by unfold readF; rw [if_pos hq]; exact rfl
    obtain ⟨q, hqe⟩ : ∃ q, rangedF l x f k = q := ⟨_, rfl⟩
    rw [hqe] at HNO HF hq
    have hqn : (q != 0) = true := by rw [bne_iff_ne]; exact hq
    clear hno hqe hq
    go_enter_defers Tryz.func15, Tryz.ntmps15
    go_wp2_with (first
      | (go_at_call 44; refine (unhide HNO _ (below_alloc1 _ _)).mono ?_; rintro e w2 ⟨hb2, rfl⟩; have HB2 := hide hb2; clear hb2)
      | (go_at_call 42; refine (lock_free muLib ⟨b, 0, none⟩ _ c0 f0).mono ?_; rintro e w1 ⟨rfl, rfl⟩))
    have hb5 : Below (w.setCell ⟨b, 0, none⟩ (.int .i32 1)).heap.size (w.setCell ⟨b, 0, none⟩ (.int .i32 1)) (w2.alloc (.cells #[.string ⟨#[]⟩, .slice none 0 0, .int .i64 0] 87)) := ((below_alloc1 _ _).trans ((unhide HB2).mono (le_alloc _ _))).alloc (by have := (unhide HB2).size; simp at this; simp; omega) _
    refine leaves_cons (f := 43) (args := #[.pointer (some ⟨b, 0, none⟩)]) (by simp) (by simp [go_sem]) ?_
    refine (unlock_deferred muLib ⟨b, 0, none⟩ .returning _ ?_ ?_).mono ?_
    · exact (hb5.cell (p := ⟨b, 0, none⟩) (by simpa using hbl)).trans (blk_cell (unhide HB) rfl)
    · exact (hb5.frozen (p := ⟨b, 0, none⟩) (by simpa using hbl)).trans (blk_frozen (unhide HB) 0)
    rintro e u' w'' ⟨rfl, rfl, rfl⟩
    refine ⟨_, results_tmp2 rfl _ _ _, ?_, OvLeft.quiet (unhide HR) hb5⟩
    rw [unhide HF]; rfl

end Go.Proofs.YtdcmmmggiokbhaaGreatDoor
