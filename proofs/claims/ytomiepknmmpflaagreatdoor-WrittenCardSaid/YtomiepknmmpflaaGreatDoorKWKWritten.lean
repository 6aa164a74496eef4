/- The law Written. -/
import Derived.Test.YtomiepknmmpflaaGreatDoorKPRowK
import Derived.Test.YtomiepknmmpflaaGreatDoorKPSem5
import Derived.Test.YtomiepknmmpflaaGreatDoorKWBytesOf
namespace Go.Proofs.YtomiepknmmpflaaGreatDoor
open Go.RowKit Go.Joins

theorem cutF_nat (s : ByteArray) (n : Nat) : (cutF s n).size ≤ n := by
  unfold cutF
  split
  · exact Nat.zero_le _
  · split
    · rw [ByteArray.size_extract]; omega
    · omega

theorem wrap_sum {a b : Nat} (h : a + b ≤ 1000000) : IntKind.i64.wrap ((a : Int) + (b : Int)) = ((a + b : Nat) : Int) := by
  rw [IntKind.wrap_i64]; omega
theorem below_drews (w : World) (N : Nat) : Below w.heap.size w (w.drewN N) := by
  induction N with
  | zero => exact Below.refl _ _
  | succ N ih => exact ih.drew
theorem KFr.drews {B : Nat} {P : List Nat} {w w' : World} (h : KFr B P w w') (N : Nat) : KFr B P w (w'.drewN N) := by
  induction N with
  | zero => exact h
  | succ N ih => exact ⟨ih.below.drew, ih.own⟩

set_option maxRecDepth 100000 in
set_option maxHeartbeats 40000000 in
theorem kWritten_calls (B : Nat) (w : World) (s0 s1 s2 s3 : Addr) (a0 : Option Addr) (n0 c0 : Nat) (a f n : Int) (data : ByteArray) (kd : Int) (h : Under w B s0 s1 s2 s3) (hs : Scr w B a0 n0) (ha : In64 a) (hf : In64 f) (hn : In64 n) (hd : data.size ≤ 9223372036854775807) (hkd : In64 kd) :
    Calls Tryz.prog 8 #[.slice a0 n0 c0, .int .i64 a, .int .i64 f, .int .i64 n, .string data, .int .i64 kd] w fun e w' => e = .returned (.bool true) ∧ Below B w w' := by
  have HPL := hide (kplayed_calls B [] s0 s1 s2 s3 w a0 n0 c0 h (fun k hk => by cases hk) hs)
  have HNM : Hid (∀ w, Calls Tryz.prog 18 #[.int .i64 a] w fun e w' => e = .returned (.string (nameC a)) ∧ w = w') := fun w => kname_calls _ w ha.1 ha.2
  have HPF : Hid (∀ (m : Nat) w, m ≤ 240 → Calls Tryz.prog 21 #[.int .i64 f, .int .i64 ((m : Int) + 1)] w fun e w' => e = .returned (.int .i64 (pickN f (m + 1) : Nat)) ∧ w = w') := fun m w hm => by
    have := kpick_calls f (m + 1) w hf.1 hf.2 (by omega) (by omega)
    rwa [show ((m + 1 : Nat) : Int) = (m : Int) + 1 by omega] at this
  have HPN : Hid (∀ (m p : Nat) w, m ≤ 240 → p ≤ m → Calls Tryz.prog 21 #[.int .i64 n, .int .i64 ((m : Int) - (p : Int) + 1)] w fun e w' => e = .returned (.int .i64 (pickN n (m - p + 1) : Nat)) ∧ w = w') := fun m p w hm hp => by
    have := kpick_calls n (m - p + 1) w hn.1 hn.2 (by omega) (by omega)
    rwa [show ((m - p + 1 : Nat) : Int) = (m : Int) - (p : Int) + 1 by omega] at this
  have HPK : Hid (∀ w, Calls Tryz.prog 21 #[.int .i64 kd, .int .i64 3] w fun e w' => e = .returned (.int .i64 (pickN kd 3 : Nat)) ∧ w = w') := fun w => kpick_calls _ 3 w hkd.1 hkd.2 (by omega) (by omega)
  have hk3 := pickN_lt kd (n := 3) (by omega)
  have HCT : Hid (∀ (m : Nat) w, Calls Tryz.prog 28 #[.string data, .int .i64 m] w fun e w' => e = .returned (.string (cutF data m)) ∧ w = w') := fun m w => kcut_calls data m w hd
  obtain ⟨x, hx⟩ : ∃ x, nameC a = x := ⟨_, rfl⟩
  obtain ⟨kk, hkk⟩ : ∃ k, pickN kd 3 = k := ⟨_, rfl⟩
  rw [hx] at HNM
  rw [hkk] at HPK hk3
  clear h hs hx ha hf hn hd hkd hkk
  go_enter Tryz.func8, Tryz.ntmps8
  go_wp2_with (first
    | (go_at_call 18; refine (unhide HNM _).mono ?_; rintro e w2 ⟨rfl, rfl⟩)
    | (go_at_call 15; refine (unhide HPL).mono ?_; rintro e w1 ⟨b, l, rfl, hk1, hf1, _⟩; have HK1 := hide hk1; have HF1 := hide hf1; clear hk1 hf1))
  have HRD := hide (kread_calls x B b [] s0 s1 s2 s3 4000 l w1 (unhide HK1))
  by_cases hok : (readK l x).2 = true
  case neg =>
    obtain ⟨hno, hrk⟩ := readK_no (show (readK l x).2 = false by simpa using hok)
    rw [hrk] at HRD
    clear hok hrk hno
    go_wp2_with (go_at_call 26; refine (unhide HRD).mono ?_; rintro e w2 ⟨rfl, hk⟩; have HK2 := hide hk; clear hk)
    go_ret
    exact ⟨rfl, ((unhide HF1).trans (unhide HK2).2).below⟩
  obtain ⟨ns, hc, hso, _⟩ := readK_ok hok
  have hmm := hc.many_le
  have hrl := readK_yes hc
  rw [hrl] at HRD
  obtain ⟨t, ht⟩ : ∃ t, viewF l ns 0 (8 * Ov.many (fileOf l x)) = t := ⟨_, rfl⟩
  have hts : t.size = 8 * Ov.many (fileOf l x) := by rw [← ht, viewF_size]
  have ht240 : t.size ≤ 240 := by have := hmm.2; omega
  rw [ht] at HRD hrl
  have h1 := pickN_lt f (n := t.size + 1) (by omega)
  have HPF1 : Hid (∀ w, _) := fun w => unhide HPF t.size w ht240
  obtain ⟨p1, hp1⟩ : ∃ p, pickN f (t.size + 1) = p := ⟨_, rfl⟩
  rw [hp1] at h1 HPF1
  have h2 := pickN_lt n (n := t.size - p1 + 1) (by omega)
  have HPN1 : Hid (∀ w, _) := fun w => unhide HPN t.size p1 w ht240 (by omega)
  obtain ⟨p2, hp2⟩ : ∃ p, pickN n (t.size - p1 + 1) = p := ⟨_, rfl⟩
  rw [hp2] at h2 HPN1
  have HCT1 : Hid (∀ w, _) := fun w => unhide HCT p2 w
  have hd2 : (cutF data p2).size ≤ p2 := cutF_nat data p2
  obtain ⟨d, hdd⟩ : ∃ d, cutF data p2 = d := ⟨_, rfl⟩
  rw [hdd] at HCT1 hd2
  have HC := hide hc
  have HTS := hide hts
  have HHT := hide ht
  have HRL := hide hrl
  clear hok hso hmm hp1 hp2 hdd HPF HPN HCT ht hts hc hrl
  go_wp2_with (first
    | (go_at_call_of 21 (Value.int IntKind.i64 f); refine (unhide HPF1 _).mono ?_; rintro e w9 ⟨rfl, rfl⟩)
    | (go_at_call_of 21 (Value.int IntKind.i64 n); refine (unhide HPN1 _).mono ?_; rintro e w9 ⟨rfl, rfl⟩)
    | (go_at_call 28; refine (unhide HCT1 _).mono ?_; rintro e w9 ⟨rfl, rfl⟩)
    | (go_at_call 16; refine (kfiles_calls B b [] s0 s1 s2 s3 4000 l _ (unhide HK2).1).mono ?_; rintro e w3 ⟨g1, c1, rfl, hk3', hf3, ho3, _⟩; have HK3 := hide hk3'; have HF3 := hide hf3; have HO3 := hide ho3; clear hk3' hf3 ho3)
    | (go_at_call 26; refine (unhide HRD).mono ?_; rintro e w2 ⟨rfl, hk⟩; have HK2 := hide hk; clear hk))
  have HFA : Hid (KFr B [] w w3) := (unhide HF1).trans ((unhide HK2).2.trans (unhide HF3))
  clear HK1 HK2 HF1 HF3 HRD HPL HNM HPF1 HPN1 HCT1
  have HX8 : Hid (x.size ≤ 1000) := Nat.le_trans ((unhide HK3).li.name_size (unhide HC).here) (by omega)
  obtain rfl | rfl | rfl : kk = 0 ∨ kk = 1 ∨ kk = 2 := by omega
  · have HCL : Hid (∀ w1, KW w1 B b [g1] s0 s1 s2 s3 4000 l → Calls Tryz.prog 29 #[.pointer (some ⟨b, 0, none⟩), .string x, .int .i64 (p1 : Nat), .string d] w1 (KPost (.int .i64 (writeF 4000 l x p1 d).1) B b [g1] s0 s1 s2 s3 4000 (writeF 4000 l x p1 d).2 w1)) := fun w1 hk => kWrite hk x d (p1 : Nat) ⟨by omega, by omega⟩ (by omega)
    rcases write_out 4000 (d := d) (f := p1) (unhide HC) (by have := unhide HTS; omega) with e1 | ⟨e1, ht⟩
    · rw [e1] at HCL
      dsimp only at HCL
      clear e1
      have HRN : Hid (∀ w1, KW w1 B b [g1] s0 s1 s2 s3 4000 l → Calls Tryz.prog 26 #[.pointer (some ⟨b, 0, none⟩), .string x] w1 (KPost (.tuple #[.string t, .bool true]) B b [g1] s0 s1 s2 s3 4000 l w1)) := fun w1 hk => by
        have := kread_calls x B b [g1] s0 s1 s2 s3 4000 l w1 hk
        rwa [unhide HRL] at this
      go_upto_region 23 with (first
        | (go_at_call_of 21 (Value.int IntKind.i64 kd); refine (unhide HPK _).mono ?_; rintro e w9 ⟨rfl, rfl⟩)
        | (go_at_call 29; refine (unhide HCL _ (unhide HK3)).mono ?_; rintro e w4 ⟨rfl, hk⟩; have HK4 := hide hk; clear hk))
      have hwp := wrap_sum (a := p1) (b := d.size) (by omega)
      go_region
      all_goals
        have HKD : Hid (∀ N, KW (w4.drewN N) B b [g1] s0 s1 s2 s3 4000 l ∧ KFr B [g1] w3 (w4.drewN N)) := fun N => ⟨(unhide HK4).1.kept (below_drews _ _), (unhide HK4).2.drews N⟩
        go_wp2_with (first
          | (go_at_call 16; refine (kfiles_calls B b [g1] s0 s1 s2 s3 4000 l _ (unhide HK5).1).mono ?_; rintro e w6 ⟨g2, c2, rfl, hk6, hf6, ho6, _⟩; have HG : Hid (w6.heap[g1]? = w3.heap[g1]?) := (hf6.own g1 (by simp)).trans (((unhide HK5).2.own g1 (by simp)).trans ((unhide HK4).2.own g1 (by simp))); have HF6 := hide (((unhide HKD _).2.trans ((unhide HK5).2.trans hf6)).less (Q := []) (fun k hk => by cases hk)); have HO6 := hide ho6; have hz6 := hk6.un.se.size; clear hk6 hf6 ho6)
          | (go_at_call 26; refine (unhide HRN _ (unhide HKD _).1).mono ?_; rintro e w5 ⟨rfl, hk⟩; have HK5 := hide hk; clear hk))
        go_ret
        exact ⟨rfl, ((unhide HFA).trans (unhide HF6)).below⟩
    · have hrd := turned_splice ht (unhide HHT) (by omega)
      have HSB := hide (sameBut_one ht.other)
      rw [e1] at HCL
      obtain ⟨m, hm⟩ : ∃ m, (writeF 4000 l x p1 d).2 = m := ⟨_, rfl⟩
      rw [hm] at HCL hrd HSB
      have HRN : Hid (∀ w1, KW w1 B b [g1] s0 s1 s2 s3 4000 m → Calls Tryz.prog 26 #[.pointer (some ⟨b, 0, none⟩), .string x] w1 (KPost (.tuple #[.string (t.extract 0 p1 ++ d ++ t.extract (p1 + d.size) t.size), .bool true]) B b [g1] s0 s1 s2 s3 4000 m w1)) := fun w1 hk => by
        have := kread_calls x B b [g1] s0 s1 s2 s3 4000 m w1 hk
        rwa [hrd] at this
      clear e1 ht hm hrd
      go_upto_region 23 with (first
        | (go_at_call_of 21 (Value.int IntKind.i64 kd); refine (unhide HPK _).mono ?_; rintro e w9 ⟨rfl, rfl⟩)
        | (go_at_call 29; refine (unhide HCL _ (unhide HK3)).mono ?_; rintro e w4 ⟨rfl, hk⟩; have HK4 := hide hk; clear hk))
      have hwp := wrap_sum (a := p1) (b := d.size) (by omega)
      go_region
      all_goals
        have HKD : Hid (∀ N, KW (w4.drewN N) B b [g1] s0 s1 s2 s3 4000 m ∧ KFr B [g1] w3 (w4.drewN N)) := fun N => ⟨(unhide HK4).1.kept (below_drews _ _), (unhide HK4).2.drews N⟩
        go_wp2_with (first
          | (go_at_call 20; refine (ksame_calls (markF l) (markF m) x g1 g2 c1 c2 B B _ (owns_of_blocks (unhide HO3) (fun k hk => by obtain rfl := Option.some.inj hk; exact (unhide HG) )) (unhide HO6) (unhide HX8) (unhide HSB)).mono ?_; rintro e w7 ⟨rfl, hb7⟩; have HB7 := hide hb7; clear hb7)
          | (go_at_call 16; refine (kfiles_calls B b [g1] s0 s1 s2 s3 4000 m _ (unhide HK5).1).mono ?_; rintro e w6 ⟨g2, c2, rfl, hk6, hf6, ho6, _⟩; have HG : Hid (w6.heap[g1]? = w3.heap[g1]?) := (hf6.own g1 (by simp)).trans (((unhide HK5).2.own g1 (by simp)).trans ((unhide HK4).2.own g1 (by simp))); have HF6 := hide (((unhide HKD _).2.trans ((unhide HK5).2.trans hf6)).less (Q := []) (fun k hk => by cases hk)); have HO6 := hide ho6; have hz6 := hk6.un.se.size; clear hk6 hf6 ho6)
          | (go_at_call 26; refine (unhide HRN _ (unhide HKD _).1).mono ?_; rintro e w5 ⟨rfl, hk⟩; have HK5 := hide hk; clear hk))
        go_ret
        exact ⟨rfl, ((unhide HFA).trans (unhide HF6)).below.trans ((unhide HB7).mono hz6)⟩
  · have HCL : Hid (∀ w1, KW w1 B b [g1] s0 s1 s2 s3 4000 l → Calls Tryz.prog 30 #[.pointer (some ⟨b, 0, none⟩), .string x, .int .i64 (p1 : Nat), .int .i64 (p2 : Nat)] w1 (KPost (.int .i64 (zeroF 4000 l x p1 p2).1) B b [g1] s0 s1 s2 s3 4000 (zeroF 4000 l x p1 p2).2 w1)) := fun w1 hk => kZero hk x (p1 : Nat) (p2 : Nat) ⟨by omega, by omega⟩ ⟨by omega, by omega⟩
    have hns : (noughtsF p2).size = p2 := noughtsF_size p2
    have HNT : Hid (∀ w, Calls Tryz.prog 31 #[.int .i64 (p2 : Nat)] w fun e w' => e = .returned (.string (noughtsF p2)) ∧ w = w') := fun w => knoughts_calls p2 w (by omega)
    obtain ⟨nt, hnt⟩ : ∃ nt, noughtsF p2 = nt := ⟨_, rfl⟩
    rw [hnt] at HNT hns
    rcases zero_out 4000 (f := p1) (k := p2) (unhide HC) (by have := unhide HTS; omega) with e1 | ⟨e1, ht⟩
    · rw [e1] at HCL
      dsimp only at HCL
      clear e1 hnt
      have HRN : Hid (∀ w1, KW w1 B b [g1] s0 s1 s2 s3 4000 l → Calls Tryz.prog 26 #[.pointer (some ⟨b, 0, none⟩), .string x] w1 (KPost (.tuple #[.string t, .bool true]) B b [g1] s0 s1 s2 s3 4000 l w1)) := fun w1 hk => by
        have := kread_calls x B b [g1] s0 s1 s2 s3 4000 l w1 hk
        rwa [unhide HRL] at this
      go_upto_region 26 with (first
        | (go_at_call_of 21 (Value.int IntKind.i64 kd); refine (unhide HPK _).mono ?_; rintro e w9 ⟨rfl, rfl⟩)
        | (go_at_call 30; refine (unhide HCL _ (unhide HK3)).mono ?_; rintro e w4 ⟨rfl, hk⟩; have HK4 := hide hk; clear hk))
      have hwp := wrap_sum (a := p1) (b := p2) (by omega)
      go_region_with (first | (go_at_call 31; refine (unhide HNT _).mono ?_; rintro e w9 ⟨rfl, rfl⟩) | fail)
      all_goals
        have HKD : Hid (∀ N, KW (w4.drewN N) B b [g1] s0 s1 s2 s3 4000 l ∧ KFr B [g1] w3 (w4.drewN N)) := fun N => ⟨(unhide HK4).1.kept (below_drews _ _), (unhide HK4).2.drews N⟩
        go_wp2_with (first
          | (go_at_call 16; refine (kfiles_calls B b [g1] s0 s1 s2 s3 4000 l _ (unhide HK5).1).mono ?_; rintro e w6 ⟨g2, c2, rfl, hk6, hf6, ho6, _⟩; have HG : Hid (w6.heap[g1]? = w3.heap[g1]?) := (hf6.own g1 (by simp)).trans (((unhide HK5).2.own g1 (by simp)).trans ((unhide HK4).2.own g1 (by simp))); have HF6 := hide (((unhide HKD _).2.trans ((unhide HK5).2.trans hf6)).less (Q := []) (fun k hk => by cases hk)); have HO6 := hide ho6; have hz6 := hk6.un.se.size; clear hk6 hf6 ho6)
          | (go_at_call 26; refine (unhide HRN _ (unhide HKD _).1).mono ?_; rintro e w5 ⟨rfl, hk⟩; have HK5 := hide hk; clear hk))
        go_ret
        exact ⟨rfl, ((unhide HFA).trans (unhide HF6)).below⟩
    · rw [hnt] at ht
      have hrd := turned_splice ht (unhide HHT) (by omega)
      rw [hns] at hrd
      have HSB := hide (sameBut_one ht.other)
      rw [e1] at HCL
      obtain ⟨m, hm⟩ : ∃ m, (zeroF 4000 l x p1 p2).2 = m := ⟨_, rfl⟩
      rw [hm] at HCL hrd HSB
      have HRN : Hid (∀ w1, KW w1 B b [g1] s0 s1 s2 s3 4000 m → Calls Tryz.prog 26 #[.pointer (some ⟨b, 0, none⟩), .string x] w1 (KPost (.tuple #[.string (t.extract 0 p1 ++ nt ++ t.extract (p1 + p2) t.size), .bool true]) B b [g1] s0 s1 s2 s3 4000 m w1)) := fun w1 hk => by
        have := kread_calls x B b [g1] s0 s1 s2 s3 4000 m w1 hk
        rwa [hrd] at this
      clear e1 ht hm hrd hnt
      go_upto_region 26 with (first
        | (go_at_call_of 21 (Value.int IntKind.i64 kd); refine (unhide HPK _).mono ?_; rintro e w9 ⟨rfl, rfl⟩)
        | (go_at_call 30; refine (unhide HCL _ (unhide HK3)).mono ?_; rintro e w4 ⟨rfl, hk⟩; have HK4 := hide hk; clear hk))
      have hwp := wrap_sum (a := p1) (b := p2) (by omega)
      go_region_with (first | (go_at_call 31; refine (unhide HNT _).mono ?_; rintro e w9 ⟨rfl, rfl⟩) | fail)
      all_goals
        have HKD : Hid (∀ N, KW (w4.drewN N) B b [g1] s0 s1 s2 s3 4000 m ∧ KFr B [g1] w3 (w4.drewN N)) := fun N => ⟨(unhide HK4).1.kept (below_drews _ _), (unhide HK4).2.drews N⟩
        go_wp2_with (first
          | (go_at_call 20; refine (ksame_calls (markF l) (markF m) x g1 g2 c1 c2 B B _ (owns_of_blocks (unhide HO3) (fun k hk => by obtain rfl := Option.some.inj hk; exact (unhide HG) )) (unhide HO6) (unhide HX8) (unhide HSB)).mono ?_; rintro e w7 ⟨rfl, hb7⟩; have HB7 := hide hb7; clear hb7)
          | (go_at_call 16; refine (kfiles_calls B b [g1] s0 s1 s2 s3 4000 m _ (unhide HK5).1).mono ?_; rintro e w6 ⟨g2, c2, rfl, hk6, hf6, ho6, _⟩; have HG : Hid (w6.heap[g1]? = w3.heap[g1]?) := (hf6.own g1 (by simp)).trans (((unhide HK5).2.own g1 (by simp)).trans ((unhide HK4).2.own g1 (by simp))); have HF6 := hide (((unhide HKD _).2.trans ((unhide HK5).2.trans hf6)).less (Q := []) (fun k hk => by cases hk)); have HO6 := hide ho6; have hz6 := hk6.un.se.size; clear hk6 hf6 ho6)
          | (go_at_call 26; refine (unhide HRN _ (unhide HKD _).1).mono ?_; rintro e w5 ⟨rfl, hk⟩; have HK5 := hide hk; clear hk))
        go_ret
        exact ⟨rfl, ((unhide HFA).trans (unhide HF6)).below.trans ((unhide HB7).mono hz6)⟩
  · have HCL : Hid (∀ w1, KW w1 B b [g1] s0 s1 s2 s3 4000 l → Calls Tryz.prog 32 #[.pointer (some ⟨b, 0, none⟩), .string x, .int .i64 (p1 : Nat), .int .i64 (p2 : Nat)] w1 (KPost (.int .i64 (discardF 4000 l x p1 p2).1) B b [g1] s0 s1 s2 s3 4000 (discardF 4000 l x p1 p2).2 w1)) := fun w1 hk => kDiscard hk x (p1 : Nat) (p2 : Nat) ⟨by omega, by omega⟩ ⟨by omega, by omega⟩
    have HNT : Hid (∀ w, Calls Tryz.prog 31 #[.int .i64 8] w fun e w' => e = .returned (.string (noughtsF 8)) ∧ w = w') := fun w => knoughts_calls 8 w (by omega)
    have HDO := hide (discard_out 4000 (f := p1) (k := p2) (unhide HC) (by have := unhide HTS; omega))
    obtain ⟨dr, hdr⟩ : ∃ dr, discardF 4000 l x p1 p2 = dr := ⟨_, rfl⟩
    rw [hdr] at HCL HDO
    obtain ⟨de, m⟩ := dr
    dsimp only at HCL HDO
    have hns : (noughtsF 8).size = 8 := noughtsF_size 8
    obtain ⟨nt, hnt⟩ : ∃ nt, noughtsF 8 = nt := ⟨_, rfl⟩
    have HNN := hide hnt
    rw [hnt] at HNT hns
    clear hdr hnt
    go_wp2_with (first
      | (go_at_call_of 21 (Value.int IntKind.i64 kd); refine (unhide HPK _).mono ?_; rintro e w9 ⟨rfl, rfl⟩)
      | (go_at_call 32; refine (unhide HCL _ (unhide HK3)).mono ?_; rintro e w4 ⟨rfl, hk⟩; have HK4 := hide hk; clear hk))
    go_loopw [21, 23] (fun wv kv wr => Hid (∃ N, wr = w4.drewN N) ∧ ∃ (j k : Nat) (z : ByteArray), Hid (8 * j = k) ∧ k ≤ t.size ∧ kv = .int .i64 (k : Nat) ∧ wv = .string z ∧ Hid (z.size = t.size) ∧ Hid (Disc l ns p1 p2 j z)) (fun _ kv _ => t.size + 8 - (intOf kv).toNat)
    case atStart => exact ⟨⟨0, rfl⟩, 0, 0, t, rfl, by omega, rfl, rfl, rfl, disc_zero (by rw [unhide HTS]; exact unhide HHT)⟩
    case round =>
      obtain ⟨HWN, j, k, z, HJK, hj, rfl, rfl, HZS, HZD⟩ := hrel
      have hz0 : t.size ≤ z.size := by rw [unhide HZS]; exact Nat.le_refl _
      have hz1 : z.size ≤ 240 := by rw [unhide HZS]; exact ht240
      by_cases hlt : k + 8 ≤ t.size
      · by_cases hc1 : p1 ≤ k
        · by_cases hc2 : k + 8 ≤ p1 + p2
          · have hz8 : k + 8 ≤ z.size := by omega
            have HST := hide (disc_set (unhide HZD) (by have := unhide HJK; exact ⟨by omega, by omega⟩) (by have := unhide HJK; omega))
            rw [unhide HNN, unhide HJK] at HST
            go_upto_region 20 with fail
            have hwp : IntKind.i64.wrap ((k : Int) + 8) = ((k + 8 : Nat) : Int) := wrap_sum (a := k) (b := 8) (by omega)
            go_region_with (first | (go_at_call 31; refine (unhide HNT _).mono ?_; rintro e w9 ⟨rfl, rfl⟩) | fail)
            all_goals
              go_wp2_with fail
              go_roundw
              case rel => exact ⟨by obtain ⟨N, hN⟩ := unhide HWN; exact ⟨N + 1, by rw [hN]; rfl⟩, j + 1, k + 8, _, by have := unhide HJK; show 8 * (j + 1) = k + 8; omega, by omega, by go_num, rfl, by rw [(unhide HST).2, unhide HZS]; exact rfl, (unhide HST).1⟩
              case measure => simp [intOf]; omega
          · have HSK := hide (disc_skip (unhide HZD) (fun q => hc2 (by have := unhide HJK; have := q.2; omega)))
            go_wp2_with fail
            go_roundw
            case rel => exact ⟨HWN, j + 1, k + 8, z, by have := unhide HJK; show 8 * (j + 1) = k + 8; omega, by omega, by go_num, rfl, HZS, HSK⟩
            case measure => simp [intOf]; omega
        · have HSK := hide (disc_skip (unhide HZD) (fun q => hc1 (by have := unhide HJK; have := q.1; omega)))
          go_wp2_with fail
          go_roundw
          case rel => exact ⟨HWN, j + 1, k + 8, z, by have := unhide HJK; show 8 * (j + 1) = k + 8; omega, by omega, by go_num, rfl, HZS, HSK⟩
          case measure => simp [intOf]; omega
      · have HKD : Hid (KW wr B b [g1] s0 s1 s2 s3 4000 m ∧ KFr B [g1] w3 wr) := by
          obtain ⟨N, hN⟩ := unhide HWN
          rw [hN]
          exact ⟨(unhide HK4).1.kept (below_drews _ _), (unhide HK4).2.drews N⟩
        rcases unhide HDO with e1 | ⟨e1, ht⟩
        · obtain ⟨rfl, rfl⟩ : de = 9 ∧ m = l := by simpa using e1
          clear e1
          have HRN : Hid (∀ w1, KW w1 B b [g1] s0 s1 s2 s3 4000 m → Calls Tryz.prog 26 #[.pointer (some ⟨b, 0, none⟩), .string x] w1 (KPost (.tuple #[.string t, .bool true]) B b [g1] s0 s1 s2 s3 4000 m w1)) := fun w1 hk => by
            have := kread_calls x B b [g1] s0 s1 s2 s3 4000 m w1 hk
            rwa [unhide HRL] at this
          go_wp2_with (first
            | (go_at_call 16; refine (kfiles_calls B b [g1] s0 s1 s2 s3 4000 m _ (unhide HK5).1).mono ?_; rintro e w6 ⟨g2, c2, rfl, hk6, hf6, ho6, _⟩; have HF6 := hide (((unhide HKD).2.trans ((unhide HK5).2.trans hf6)).less (Q := []) (fun k hk => by cases hk)); clear hk6 hf6 ho6)
            | (go_at_call 26; refine (unhide HRN _ (unhide HKD).1).mono ?_; rintro e w5 ⟨rfl, hk⟩; have HK5 := hide hk; clear hk))
          go_ret
          exact ⟨rfl, ((unhide HFA).trans (unhide HF6)).below⟩
        · subst e1
          have hrd := disc_read ht (unhide HZD) (by have := unhide HTS; have := unhide HZS; omega) (by have := unhide HTS; have := unhide HZS; have := unhide HJK; omega)
          have HSB := hide (sameBut_one ht.other)
          have HRN : Hid (∀ w1, KW w1 B b [g1] s0 s1 s2 s3 4000 m → Calls Tryz.prog 26 #[.pointer (some ⟨b, 0, none⟩), .string x] w1 (KPost (.tuple #[.string z, .bool true]) B b [g1] s0 s1 s2 s3 4000 m w1)) := fun w1 hk => by
            have := kread_calls x B b [g1] s0 s1 s2 s3 4000 m w1 hk
            rwa [hrd] at this
          clear ht hrd
          go_wp2_with (first
            | (go_at_call 20; refine (ksame_calls (markF l) (markF m) x g1 g2 c1 c2 B B _ (owns_of_blocks (unhide HO3) (fun k hk => by obtain rfl := Option.some.inj hk; exact (unhide HG) )) (unhide HO6) (unhide HX8) (unhide HSB)).mono ?_; rintro e w7 ⟨rfl, hb7⟩; have HB7 := hide hb7; clear hb7)
            | (go_at_call 16; refine (kfiles_calls B b [g1] s0 s1 s2 s3 4000 m _ (unhide HK5).1).mono ?_; rintro e w6 ⟨g2, c2, rfl, hk6, hf6, ho6, _⟩; have HG : Hid (w6.heap[g1]? = w3.heap[g1]?) := (hf6.own g1 (by simp)).trans (((unhide HK5).2.own g1 (by simp)).trans ((unhide HKD).2.own g1 (by simp))); have HF6 := hide (((unhide HKD).2.trans ((unhide HK5).2.trans hf6)).less (Q := []) (fun k hk => by cases hk)); have HO6 := hide ho6; have hz6 := hk6.un.se.size; clear hk6 hf6 ho6)
            | (go_at_call 26; refine (unhide HRN _ (unhide HKD).1).mono ?_; rintro e w5 ⟨rfl, hk⟩; have HK5 := hide hk; clear hk))
          go_ret
          exact ⟨rfl, ((unhide HFA).trans (unhide HF6)).below.trans ((unhide HB7).mono hz6)⟩

end Go.Proofs.YtomiepknmmpflaaGreatDoor

