/- The law Ranged. -/
import Derived.Test.YtomiepknmmpflaaGreatDoorKPRowK
import Derived.Test.YtomiepknmmpflaaGreatDoorKPSem3
namespace Go.Proofs.YtomiepknmmpflaaGreatDoor
open Go.RowKit Go.Joins

theorem ranged_none {l : Ov.Files} {x : ByteArray} (f k : Int) (h : Ov.soundF l x ≠ 0) : rangedF l x f k = Ov.soundF l x := by unfold rangedF; rw [if_pos h]
theorem ranged_out {l : Ov.Files} {x : ByteArray} {f k : Int} (h : Ov.soundF l x = 0) (ho : f < 0 ∨ k < 0 ∨ 8 * (Ov.many (fileOf l x) : Int) < f ∨ 8 * (Ov.many (fileOf l x) : Int) - f < k) : rangedF l x f k = 1 := by
  unfold rangedF; rw [if_neg (fun q => q h), if_pos ho]
theorem readF_no {l : Ov.Files} {x : ByteArray} {f k q : Int} (h : rangedF l x f k = q) (hq : q ≠ 0) : readF l x f k = (⟨#[]⟩, q) := by
  unfold readF; rw [h, if_pos hq]
theorem readF_yes {l : Ov.Files} {x : ByteArray} {ns : List ByteArray} (hc : Ov.Chn l ns x) {f k : Nat} (h : f + k ≤ 8 * Ov.many (fileOf l x)) : readF l x f k = (viewF l ns f k, 0) := by
  unfold readF
  rw [ranged_in hc (by omega) (by omega) (by omega), if_neg (fun q => q rfl), chn_downOf hc, Int.toNat_natCast, Int.toNat_natCast]

set_option maxRecDepth 100000 in
set_option maxHeartbeats 4000000 in
theorem kRanged_calls (B : Nat) (w : World) (s0 s1 s2 s3 : Addr) (a0 : Option Addr) (n0 c0 : Nat) (a f n : Int) (h : Under w B s0 s1 s2 s3) (hs : Scr w B a0 n0) (ha : In64 a) (hf : In64 f) (hn : In64 n) :
    Calls Tryz.prog 9 #[.slice a0 n0 c0, .int .i64 a, .int .i64 f, .int .i64 n] w fun e w' => e = .returned (.bool true) ∧ Below B w w' := by
  have HPL := hide (kplayed_calls B [] s0 s1 s2 s3 w a0 n0 c0 h (fun k hk => by cases hk) hs)
  have HNM : Hid (∀ w, Calls Tryz.prog 18 #[.int .i64 a] w fun e w' => e = .returned (.string (nameC a)) ∧ w = w') := fun w => kname_calls _ w ha.1 ha.2
  obtain ⟨x, hx⟩ : ∃ x, nameC a = x := ⟨_, rfl⟩
  rw [hx] at HNM
  have HFN := hide (And.intro hf hn)
  clear h hs hx ha hf hn
  go_enter Tryz.func9, Tryz.ntmps9
  go_wp2_with (first
    | (go_at_call 18; refine (unhide HNM _).mono ?_; rintro e w2 ⟨rfl, rfl⟩)
    | (go_at_call 15; refine (unhide HPL).mono ?_; rintro e w1 ⟨b, l, rfl, hk1, hf1, _⟩; have HK1 := hide hk1; have HF1 := hide hf1; clear hk1 hf1))
  have HRD := hide (kread_calls x B b [] s0 s1 s2 s3 4000 l w1 (unhide HK1))
  by_cases hok : (readK l x).2 = true
  · obtain ⟨ns, hc, hso, _⟩ := readK_ok hok
    have hmm := hc.many_le
    rw [readK_yes hc] at HRD
    have r1 : readF l x ((8 * Ov.many (fileOf l x) : Nat) : Int) 1 = (⟨#[]⟩, 1) := readF_no (ranged_out hso (by omega)) (by decide)
    have r2 : readF l x (-1) 0 = (⟨#[]⟩, 1) := readF_no (ranged_out hso (by omega)) (by decide)
    have r3 : writeF 4000 l x ((8 * Ov.many (fileOf l x) : Nat) : Int) ⟨#[120]⟩ = (1, l) := by
      unfold writeF
      rw [ranged_out hso (by right; right; right; show _ < ((1 : Nat) : Int); omega), if_pos (by decide)]
    have r4 : zeroF 4000 l x 4611686018427387904 4611686018427387904 = (1, l) := by unfold zeroF; rw [ranged_out hso (by omega), if_pos (by decide)]
    have r5 : discardF 4000 l x (((8 * Ov.many (fileOf l x) : Nat) : Int) + 1) 0 = (1, l) := by unfold discardF; rw [ranged_out hso (by omega), if_pos (by decide)]
    have hr0 : (f < 0 ∨ n < 0 ∨ 8 * (Ov.many (fileOf l x) : Int) < f ∨ 8 * (Ov.many (fileOf l x) : Int) - f < n) → readF l x f n = (⟨#[]⟩, 1) := fun q => readF_no (ranged_out hso q) (by decide)
    have hr1 : ∀ F K : Nat, F + K ≤ 8 * Ov.many (fileOf l x) → readF l x F K = (viewF l ns F K, 0) ∧ (viewF l ns 0 (8 * Ov.many (fileOf l x))).extract F (F + K) = viewF l ns F K := fun F K q => ⟨readF_yes hc q, viewF_slice l ns q⟩
    obtain ⟨N, hN⟩ : ∃ N, 8 * Ov.many (fileOf l x) = N := ⟨_, rfl⟩
    have hN2 : 8 * (Ov.many (fileOf l x) : Int) = (N : Int) := by omega
    have hn240 : N ≤ 240 := by have := hmm.2; omega
    rw [hN] at HRD r1 r3 r5 hr1
    rw [hN2] at hr0
    obtain ⟨t, ht⟩ : ∃ t, viewF l ns 0 N = t := ⟨_, rfl⟩
    obtain rfl : N = t.size := by rw [← ht, viewF_size]
    rw [ht] at HRD
    have HR1 : Hid (∀ w1, KW w1 B b [] s0 s1 s2 s3 4000 l → Calls Tryz.prog 33 #[.pointer (some ⟨b, 0, none⟩), .string x, .int .i64 (t.size : Nat), .int .i64 1] w1 (KPost (.tuple #[.string ⟨#[]⟩, .int .i64 1]) B b [] s0 s1 s2 s3 4000 l w1)) := fun w1 hk => by
      have := kRead hk x (t.size : Nat) 1 ⟨by omega, by omega⟩ ⟨by omega, by omega⟩
      rwa [r1] at this
    have HR2 : Hid (∀ w1, KW w1 B b [] s0 s1 s2 s3 4000 l → Calls Tryz.prog 33 #[.pointer (some ⟨b, 0, none⟩), .string x, .int .i64 (-1), .int .i64 0] w1 (KPost (.tuple #[.string ⟨#[]⟩, .int .i64 1]) B b [] s0 s1 s2 s3 4000 l w1)) := fun w1 hk => by
      have := kRead hk x (-1) 0 ⟨by omega, by omega⟩ ⟨by omega, by omega⟩
      rwa [r2] at this
    have HR3 : Hid (∀ w1, KW w1 B b [] s0 s1 s2 s3 4000 l → Calls Tryz.prog 29 #[.pointer (some ⟨b, 0, none⟩), .string x, .int .i64 (t.size : Nat), .string ⟨#[120]⟩] w1 (KPost (.int .i64 1) B b [] s0 s1 s2 s3 4000 l w1)) := fun w1 hk => by
      have := kWrite hk x ⟨#[120]⟩ (t.size : Nat) ⟨by omega, by omega⟩ (by decide)
      rwa [r3] at this
    have HR4 : Hid (∀ w1, KW w1 B b [] s0 s1 s2 s3 4000 l → Calls Tryz.prog 30 #[.pointer (some ⟨b, 0, none⟩), .string x, .int .i64 4611686018427387904, .int .i64 4611686018427387904] w1 (KPost (.int .i64 1) B b [] s0 s1 s2 s3 4000 l w1)) := fun w1 hk => by
      have := kZero hk x 4611686018427387904 4611686018427387904 ⟨by omega, by omega⟩ ⟨by omega, by omega⟩
      rwa [r4] at this
    have HR5 : Hid (∀ w1, KW w1 B b [] s0 s1 s2 s3 4000 l → Calls Tryz.prog 32 #[.pointer (some ⟨b, 0, none⟩), .string x, .int .i64 ((t.size : Nat) + 1), .int .i64 0] w1 (KPost (.int .i64 1) B b [] s0 s1 s2 s3 4000 l w1)) := fun w1 hk => by
      have := kDiscard hk x ((t.size : Nat) + 1) 0 ⟨by omega, by omega⟩ ⟨by omega, by omega⟩
      rwa [r5] at this
    have HR0 : Hid (∀ w1, KW w1 B b [] s0 s1 s2 s3 4000 l → Calls Tryz.prog 33 #[.pointer (some ⟨b, 0, none⟩), .string x, .int .i64 f, .int .i64 n] w1 (KPost (.tuple #[.string (readF l x f n).1, .int .i64 (readF l x f n).2]) B b [] s0 s1 s2 s3 4000 l w1)) := fun w1 hk => kRead hk x f n (unhide HFN).1 (unhide HFN).2
    rw [ht] at hr1
    clear hok hc hso hmm r1 r2 r3 r4 r5 hN hN2 ht
    by_cases hin : f < 0 ∨ n < 0 ∨ (t.size : Int) < f ∨ (t.size : Int) - f < n
    · rw [hr0 hin] at HR0
      clear hr0 hr1
      go_wp2_with (first
        | (go_at_call 32; refine (unhide HR5 _ (unhide HK7).1).mono ?_; rintro e w8 ⟨rfl, hk⟩; have HK8 := hide hk; clear hk)
        | (go_at_call 30; refine (unhide HR4 _ (unhide HK6).1).mono ?_; rintro e w7 ⟨rfl, hk⟩; have HK7 := hide hk; clear hk)
        | (go_at_call 29; refine (unhide HR3 _ (unhide HK5).1).mono ?_; rintro e w6 ⟨rfl, hk⟩; have HK6 := hide hk; clear hk)
        | (go_at_call 33; refine (unhide HR2 _ (unhide HK4).1).mono ?_; rintro e w5 ⟨rfl, hk⟩; have HK5 := hide hk; clear hk)
        | (go_at_call 33; refine (unhide HR1 _ (unhide HK3).1).mono ?_; rintro e w4 ⟨rfl, hk⟩; have HK4 := hide hk; clear hk)
        | (go_at_call 33; refine (unhide HR0 _ (unhide HK2).1).mono ?_; rintro e w3 ⟨rfl, hk⟩; have HK3 := hide hk; clear hk)
        | (go_at_call 26; refine (unhide HRD).mono ?_; rintro e w2 ⟨rfl, hk⟩; have HK2 := hide hk; clear hk))
      all_goals (go_ret; exact ⟨rfl, ((unhide HF1).trans ((unhide HK2).2.trans ((unhide HK3).2.trans ((unhide HK4).2.trans ((unhide HK5).2.trans ((unhide HK6).2.trans ((unhide HK7).2.trans (unhide HK8).2))))))).below⟩)
    · obtain ⟨F, rfl⟩ : ∃ F : Nat, f = (F : Int) := ⟨f.toNat, by omega⟩
      obtain ⟨K, rfl⟩ : ∃ K : Nat, n = (K : Int) := ⟨n.toNat, by omega⟩
      obtain ⟨e1, e2⟩ := hr1 F K (by omega)
      rw [e1] at HR0
      rw [← e2] at HR0
      clear hr0 hr1 e1 e2
      go_wp2_with (first
        | (go_at_call 32; refine (unhide HR5 _ (unhide HK7).1).mono ?_; rintro e w8 ⟨rfl, hk⟩; have HK8 := hide hk; clear hk)
        | (go_at_call 30; refine (unhide HR4 _ (unhide HK6).1).mono ?_; rintro e w7 ⟨rfl, hk⟩; have HK7 := hide hk; clear hk)
        | (go_at_call 29; refine (unhide HR3 _ (unhide HK5).1).mono ?_; rintro e w6 ⟨rfl, hk⟩; have HK6 := hide hk; clear hk)
        | (go_at_call 33; refine (unhide HR2 _ (unhide HK4).1).mono ?_; rintro e w5 ⟨rfl, hk⟩; have HK5 := hide hk; clear hk)
        | (go_at_call 33; refine (unhide HR1 _ (unhide HK3).1).mono ?_; rintro e w4 ⟨rfl, hk⟩; have HK4 := hide hk; clear hk)
        | (go_at_call 33; refine (unhide HR0 _ (unhide HK2).1).mono ?_; rintro e w3 ⟨rfl, hk⟩; have HK3 := hide hk; clear hk)
        | (go_at_call 26; refine (unhide HRD).mono ?_; rintro e w2 ⟨rfl, hk⟩; have HK2 := hide hk; clear hk))
      go_ret
      exact ⟨rfl, ((unhide HF1).trans ((unhide HK2).2.trans ((unhide HK3).2.trans ((unhide HK4).2.trans ((unhide HK5).2.trans ((unhide HK6).2.trans ((unhide HK7).2.trans (unhide HK8).2))))))).below⟩
  · obtain ⟨hno, hrk⟩ := readK_no (show (readK l x).2 = false by simpa using hok)
    rw [hrk] at HRD
    have HR0 : Hid (∀ w1, KW w1 B b [] s0 s1 s2 s3 4000 l → Calls Tryz.prog 33 #[.pointer (some ⟨b, 0, none⟩), .string x, .int .i64 f, .int .i64 n] w1 (KPost (.tuple #[.string ⟨#[]⟩, .int .i64 (Ov.soundF l x)]) B b [] s0 s1 s2 s3 4000 l w1)) := fun w1 hk => by
      have := kRead hk x f n (unhide HFN).1 (unhide HFN).2
      rwa [readF_no (ranged_none f n hno) hno] at this
    obtain ⟨q, hq⟩ : ∃ q, Ov.soundF l x = q := ⟨_, rfl⟩
    rw [hq] at HR0 hno
    have hqn : (q != 0) = true := by rw [bne_iff_ne]; exact hno
    clear hok hrk hq
    go_wp2_with (first
      | (go_at_call 33; refine (unhide HR0 _ (unhide HK2).1).mono ?_; rintro e w3 ⟨rfl, hk⟩; have HK3 := hide hk; clear hk)
      | (go_at_call 26; refine (unhide HRD).mono ?_; rintro e w2 ⟨rfl, hk⟩; have HK2 := hide hk; clear hk))
    go_ret
    exact ⟨rfl, ((unhide HF1).trans ((unhide HK2).2.trans (unhide HK3).2)).below⟩

end Go.Proofs.YtomiepknmmpflaaGreatDoor

