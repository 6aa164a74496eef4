/- The law Moved. -/
import Derived.Test.YtomiepknmmpflaaGreatDoorKPRowK
import Derived.Test.YtomiepknmmpflaaGreatDoorKPSem5
namespace Go.Proofs.YtomiepknmmpflaaGreatDoor
open Go.RowKit Go.Joins

def movedN : ByteArray := ⟨#[109, 111, 118, 101, 100]⟩
theorem movedN_name : Ov.nameB movedN = true := by rfl
theorem chain_alias {l : Ov.Files} {x y f : ByteArray} {ns : List ByteArray} (hx : getF l x = some f) (hy : getF l y = some f) (h : Ov.Chn l ns x) (h1 : x.size = 1) : ∃ u : ByteArray, 1 ≤ u.size ∧ Ov.chainF l x = (u, ⟨#[]⟩, 0) ∧ Ov.chainF l y = (y ++ u.extract 1 u.size, ⟨#[]⟩, 0) := by
  obtain ⟨ms, rfl, _⟩ := chn_tail h
  refine ⟨_, ?_, chn_chain h, ?_⟩
  · show 1 ≤ (Ov.joinTo (x :: ms) (ms.length + 1)).size
    rw [join_cons, ByteArray.size_append]; omega
  · rw [chn_chain (chn_alias hx hy h)]
    show (Ov.joinTo (y :: ms) (ms.length + 1), _, _) = (y ++ (Ov.joinTo (x :: ms) (ms.length + 1)).extract 1 (Ov.joinTo (x :: ms) (ms.length + 1)).size, _, _)
    rw [join_cons, join_cons]
    have : (x ++ tailTo ms ms.length).extract 1 (x ++ tailTo ms ms.length).size = tailTo ms ms.length := by
      refine bytes_ext ?_
      have hl : x.data.toList.length = x.size := rfl
      have hl2 : (tailTo ms ms.length).data.toList.length = (tailTo ms ms.length).size := rfl
      rw [Lib.extract_data, app_data, ByteArray.size_append, List.drop_append, List.drop_of_length_le (by omega), hl, h1, Nat.sub_self, List.nil_append, List.drop_zero, List.take_of_length_le (by omega)]
    rw [this]

set_option maxRecDepth 100000 in
set_option maxHeartbeats 4000000 in
theorem kMoved_calls (B : Nat) (w : World) (s0 s1 s2 s3 : Addr) (a0 : Option Addr) (n0 c0 : Nat) (a : Int) (h : Under w B s0 s1 s2 s3) (hs : Scr w B a0 n0) (ha : In64 a) :
    Calls Tryz.prog 10 #[.slice a0 n0 c0, .int .i64 a] w fun e w' => e = .returned (.bool true) ∧ Below B w w' := by
  have HPL := hide (kplayed_calls B [] s0 s1 s2 s3 w a0 n0 c0 h (fun k hk => by cases hk) hs)
  have HNM : Hid (∀ w, Calls Tryz.prog 18 #[.int .i64 a] w fun e w' => e = .returned (.string (nameC a)) ∧ w = w') := fun w => kname_calls _ w ha.1 ha.2
  have hx1 := nameC_size a
  obtain ⟨x, hx⟩ : ∃ x, nameC a = x := ⟨_, rfl⟩
  rw [hx] at HNM hx1
  have HX1 := hide hx1
  clear h hs hx ha hx1
  go_enter Tryz.func10, Tryz.ntmps10
  go_wp2_with (first
    | (go_at_call 18; refine (unhide HNM _).mono ?_; rintro e w2 ⟨rfl, rfl⟩)
    | (go_at_call 15; refine (unhide HPL).mono ?_; rintro e w1 ⟨b, l, rfl, hk1, hf1, _⟩; have HK1 := hide hk1; have HF1 := hide hf1; clear hk1 hf1))
  have HDM := hide (kDump (unhide HK1) x)
  by_cases hp : Ov.place l x < l.length
  case neg =>
    have e1 : Ov.dumpF l x = (⟨#[]⟩, 4) := by unfold Ov.dumpF; rw [if_neg hp]
    rw [e1] at HDM
    clear hp e1
    go_wp2_with (go_at_call 34; refine (unhide HDM).mono ?_; rintro e w2 ⟨rfl, hk⟩; have HK2 := hide hk; clear hk)
    go_ret
    exact ⟨rfl, ((unhide HF1).trans (unhide HK2).2).below⟩
  have hgx := getF_here hp
  have hF8 : (fileOf l x).size ≤ 1000 := (unhide HK1).li.size _ hp
  have e1 : Ov.dumpF l x = (fileOf l x, 0) := by unfold Ov.dumpF; rw [if_pos hp]
  rw [e1] at HDM
  obtain ⟨F, hF⟩ : ∃ F, fileOf l x = F := ⟨_, rfl⟩
  rw [hF] at HDM hgx hF8
  clear hF e1 hp
  have HLD : Hid (∀ w1, KW w1 B b [] s0 s1 s2 s3 4000 l → Calls Tryz.prog 35 #[.pointer (some ⟨b, 0, none⟩), .string ⟨#[109, 111, 118, 101, 100]⟩, .string F] w1 (KPost (.int .i64 (Ov.loadF 4000 l movedN F).1) B b [] s0 s1 s2 s3 4000 (Ov.loadF 4000 l movedN F).2 w1)) := fun w1 hk => kLoad hk movedN F
  have hcase : (∃ g : Int, (g = 1 ∨ g = 9) ∧ Ov.loadF 4000 l movedN F = (g, l)) ∨ Ov.loadF 4000 l movedN F = (0, Ov.withF l movedN F) := by
    rcases load_out 4000 l F movedN_name with e2 | e2 | e2
    · exact Or.inl ⟨1, Or.inl rfl, e2⟩
    · exact Or.inl ⟨9, Or.inr rfl, e2⟩
    · exact Or.inr e2
  rcases hcase with ⟨g, hg, e2⟩ | e2
  · rw [e2] at HLD
    have HRX : Hid (∀ w1, KW w1 B b [] s0 s1 s2 s3 4000 l → Calls Tryz.prog 26 #[.pointer (some ⟨b, 0, none⟩), .string x] w1 (KPost (.tuple #[.string (readK l x).1, .bool (readK l x).2]) B b [] s0 s1 s2 s3 4000 l w1)) := fun w1 hk => kread_calls x B b [] s0 s1 s2 s3 4000 l w1 hk
    have HRM : Hid (∀ w1, KW w1 B b [] s0 s1 s2 s3 4000 l → Calls Tryz.prog 26 #[.pointer (some ⟨b, 0, none⟩), .string ⟨#[109, 111, 118, 101, 100]⟩] w1 (KPost (.tuple #[.string (readK l movedN).1, .bool (readK l movedN).2]) B b [] s0 s1 s2 s3 4000 l w1)) := fun w1 hk => kread_calls movedN B b [] s0 s1 s2 s3 4000 l w1 hk
    obtain ⟨t1, h1⟩ : ∃ t, (readK l x).1 = t := ⟨_, rfl⟩
    obtain ⟨t2, h2⟩ : ∃ t, (readK l movedN).1 = t := ⟨_, rfl⟩
    obtain ⟨b1, h3⟩ : ∃ t, (readK l x).2 = t := ⟨_, rfl⟩
    obtain ⟨b2, h4⟩ : ∃ t, (readK l movedN).2 = t := ⟨_, rfl⟩
    rw [h1, h3] at HRX
    rw [h2, h4] at HRM
    clear h1 h2 h3 h4 e2 hgx
    rcases hg with rfl | rfl
    all_goals
      go_wp2_with (first
        | (go_at_call 26; refine (unhide HRM _ (unhide HK4).1).mono ?_; rintro e w5 ⟨rfl, hk⟩; have HK5 := hide hk; clear hk)
        | (go_at_call 26; refine (unhide HRX _ (unhide HK3).1).mono ?_; rintro e w4 ⟨rfl, hk⟩; have HK4 := hide hk; clear hk)
        | (go_at_call 35; refine (unhide HLD _ (unhide HK2).1).mono ?_; rintro e w3 ⟨rfl, hk⟩; have HK3 := hide hk; clear hk)
        | (go_at_call 34; refine (unhide HDM).mono ?_; rintro e w2 ⟨rfl, hk⟩; have HK2 := hide hk; clear hk))
      go_ret
      exact ⟨rfl, ((unhide HF1).trans ((unhide HK2).2.trans ((unhide HK3).2.trans ((unhide HK4).2.trans (unhide HK5).2)))).below⟩
  · rw [e2] at HLD
    have hne : movedN ≠ x := fun q => by
      have := unhide HX1
      rw [← q] at this
      exact absurd this (by decide)
    have gx : getF (Ov.withF l movedN F) x = some F := by rw [getF_withF, if_neg hne, hgx]
    have gm : getF (Ov.withF l movedN F) movedN = some F := by rw [getF_withF, if_pos rfl]
    clear e2 hgx hne
    obtain ⟨m, hm⟩ : ∃ m, Ov.withF l movedN F = m := ⟨_, rfl⟩
    rw [hm] at HLD gx gm
    have hal := readK_alias gx gm
    have HRX : Hid (∀ w1, KW w1 B b [] s0 s1 s2 s3 4000 m → Calls Tryz.prog 26 #[.pointer (some ⟨b, 0, none⟩), .string x] w1 (KPost (.tuple #[.string (readK m x).1, .bool (readK m x).2]) B b [] s0 s1 s2 s3 4000 m w1)) := fun w1 hk => kread_calls x B b [] s0 s1 s2 s3 4000 m w1 hk
    have HRM : Hid (∀ w1, KW w1 B b [] s0 s1 s2 s3 4000 m → Calls Tryz.prog 26 #[.pointer (some ⟨b, 0, none⟩), .string ⟨#[109, 111, 118, 101, 100]⟩] w1 (KPost (.tuple #[.string (readK m movedN).1, .bool (readK m movedN).2]) B b [] s0 s1 s2 s3 4000 m w1)) := fun w1 hk => kread_calls movedN B b [] s0 s1 s2 s3 4000 m w1 hk
    rw [hal] at HRM
    by_cases hok : (readK m x).2 = true
    · obtain ⟨ns, hc, _⟩ := readK_ok hok
      obtain ⟨u, hu1, hu2, hu3⟩ := chain_alias gx gm hc (unhide HX1)
      have hcm : ∃ ms, Ov.Chn m ms movedN := by
        obtain ⟨ms, rfl, _⟩ := chn_tail hc
        exact ⟨_, chn_alias gx gm hc⟩
      obtain ⟨ms, hcm⟩ := hcm
      have HZC := hide (zero_check 4000 hcm)
      have HU8 : Hid (∀ w1, KW w1 B b [] s0 s1 s2 s3 4000 m → u.size ≤ 80) := fun w1 hk => by have := LI.join_size80 hk.li x; rw [hu2] at this; exact this
      have HCX : Hid (∀ w1, KW w1 B b [] s0 s1 s2 s3 4000 m → Calls Tryz.prog 17 #[.pointer (some ⟨b, 0, none⟩), .string x] w1 (KPost (.tuple #[.string u, .string ⟨#[]⟩, .int .i64 0]) B b [] s0 s1 s2 s3 4000 m w1)) := fun w1 hk => by
        have := kChain hk x
        rwa [hu2] at this
      have HCM : Hid (∀ w1, KW w1 B b [] s0 s1 s2 s3 4000 m → Calls Tryz.prog 17 #[.pointer (some ⟨b, 0, none⟩), .string ⟨#[109, 111, 118, 101, 100]⟩] w1 (KPost (.tuple #[.string ((⟨#[109, 111, 118, 101, 100]⟩ : ByteArray) ++ u.extract 1 u.size), .string ⟨#[]⟩, .int .i64 0]) B b [] s0 s1 s2 s3 4000 m w1)) := fun w1 hk => by
        have := kChain hk movedN
        rwa [hu3] at this
      have HZR : Hid (∀ w1, KW w1 B b [] s0 s1 s2 s3 4000 m → Calls Tryz.prog 30 #[.pointer (some ⟨b, 0, none⟩), .string ⟨#[109, 111, 118, 101, 100]⟩, .int .i64 0, .int .i64 1] w1 (KPost (.int .i64 (zeroF 4000 m movedN 0 1).1) B b [] s0 s1 s2 s3 4000 (zeroF 4000 m movedN 0 1).2 w1)) := fun w1 hk => kZero hk movedN 0 1 ⟨by omega, by omega⟩ ⟨by omega, by omega⟩
      obtain ⟨zr, hzr⟩ : ∃ zr, zeroF 4000 m movedN 0 1 = zr := ⟨_, rfl⟩
      rw [hzr] at HZC HZR
      obtain ⟨ze, zl⟩ := zr
      dsimp only at HZC HZR
      have HCK : Hid (∀ w1, KW w1 B b [] s0 s1 s2 s3 4000 zl → Calls Tryz.prog 27 #[.pointer (some ⟨b, 0, none⟩), .string ⟨#[109, 111, 118, 101, 100]⟩] w1 (KPost (.tuple #[.string (checkF zl movedN).1, .int .i64 (checkF zl movedN).2]) B b [] s0 s1 s2 s3 4000 zl w1)) := fun w1 hk => kCheck hk movedN
      rw [hok] at HRX HRM
      obtain ⟨t, ht⟩ : ∃ t, (readK m x).1 = t := ⟨_, rfl⟩
      rw [ht] at HRX HRM
      clear hal hok hc hu2 hu3 hcm hzr ht gx gm hm
      rcases unhide HZC with e | ⟨rfl, T, hT1, hT2, hT3⟩
      · obtain ⟨rfl, rfl⟩ : ze = 9 ∧ zl = m := by simpa using e
        obtain ⟨ck, hck⟩ : ∃ ck, checkF zl movedN = ck := ⟨_, rfl⟩
        rw [hck] at HCK
        obtain ⟨ct, ce⟩ := ck
        dsimp only at HCK
        clear e hck HZC
        go_wp2_with (first
          | (go_at_call 27; refine (unhide HCK _ (unhide HK8).1).mono ?_; rintro e w9 ⟨rfl, hk⟩; have HK9 := hide hk; clear hk)
          | (go_at_call 30; refine (unhide HZR _ (unhide HK7).1).mono ?_; rintro e w8 ⟨rfl, hk⟩; have HK8 := hide hk; clear hk)
          | (go_at_call 17; refine (unhide HCM _ (unhide HK6).1).mono ?_; rintro e w7 ⟨rfl, hk⟩; have HK7 := hide hk; clear hk)
          | (go_at_call 17; refine (unhide HCX _ (unhide HK5).1).mono ?_; rintro e w6 ⟨rfl, hk⟩; have hu80 := unhide HU8 _ hk.1; have HK6 := hide hk; clear hk)
          | (go_at_call 26; refine (unhide HRM _ (unhide HK4).1).mono ?_; rintro e w5 ⟨rfl, hk⟩; have HK5 := hide hk; clear hk)
          | (go_at_call 26; refine (unhide HRX _ (unhide HK3).1).mono ?_; rintro e w4 ⟨rfl, hk⟩; have HK4 := hide hk; clear hk)
          | (go_at_call 35; refine (unhide HLD _ (unhide HK2).1).mono ?_; rintro e w3 ⟨rfl, hk⟩; have HK3 := hide hk; clear hk)
          | (go_at_call 34; refine (unhide HDM).mono ?_; rintro e w2 ⟨rfl, hk⟩; have HK2 := hide hk; clear hk))
        go_ret
        exact ⟨rfl, ((unhide HF1).trans ((unhide HK2).2.trans ((unhide HK3).2.trans ((unhide HK4).2.trans ((unhide HK5).2.trans ((unhide HK6).2.trans ((unhide HK7).2.trans ((unhide HK8).2.trans (unhide HK9).2)))))))).below⟩
      · rw [hT1] at HCK
        obtain ⟨tt, htt⟩ : ∃ tt, T ++ (⟨#[44, 48]⟩ : ByteArray) = tt := ⟨_, rfl⟩
        obtain ⟨hz1, hz2⟩ := end_two htt.symm
        rw [htt] at HCK
        have hz3 : 2 < tt.size := by omega
        have hz4 : tt.size ≤ 22 := by omega
        clear hT1 hT2 hT3 htt HZC hz1
        go_wp2_with (first
          | (go_at_call 27; refine (unhide HCK _ (unhide HK8).1).mono ?_; rintro e w9 ⟨rfl, hk⟩; have HK9 := hide hk; clear hk)
          | (go_at_call 30; refine (unhide HZR _ (unhide HK7).1).mono ?_; rintro e w8 ⟨rfl, hk⟩; have HK8 := hide hk; clear hk)
          | (go_at_call 17; refine (unhide HCM _ (unhide HK6).1).mono ?_; rintro e w7 ⟨rfl, hk⟩; have HK7 := hide hk; clear hk)
          | (go_at_call 17; refine (unhide HCX _ (unhide HK5).1).mono ?_; rintro e w6 ⟨rfl, hk⟩; have hu80 := unhide HU8 _ hk.1; have HK6 := hide hk; clear hk)
          | (go_at_call 26; refine (unhide HRM _ (unhide HK4).1).mono ?_; rintro e w5 ⟨rfl, hk⟩; have HK5 := hide hk; clear hk)
          | (go_at_call 26; refine (unhide HRX _ (unhide HK3).1).mono ?_; rintro e w4 ⟨rfl, hk⟩; have HK4 := hide hk; clear hk)
          | (go_at_call 35; refine (unhide HLD _ (unhide HK2).1).mono ?_; rintro e w3 ⟨rfl, hk⟩; have HK3 := hide hk; clear hk)
          | (go_at_call 34; refine (unhide HDM).mono ?_; rintro e w2 ⟨rfl, hk⟩; have HK2 := hide hk; clear hk))
        go_ret
        exact ⟨rfl, ((unhide HF1).trans ((unhide HK2).2.trans ((unhide HK3).2.trans ((unhide HK4).2.trans ((unhide HK5).2.trans ((unhide HK6).2.trans ((unhide HK7).2.trans ((unhide HK8).2.trans (unhide HK9).2)))))))).below⟩
    · have hrk := (readK_no (show (readK m x).2 = false by simpa using hok)).2
      rw [hrk] at HRX HRM
      clear hok hrk hal hm gx gm
      go_wp2_with (first
        | (go_at_call 26; refine (unhide HRM _ (unhide HK4).1).mono ?_; rintro e w5 ⟨rfl, hk⟩; have HK5 := hide hk; clear hk)
        | (go_at_call 26; refine (unhide HRX _ (unhide HK3).1).mono ?_; rintro e w4 ⟨rfl, hk⟩; have HK4 := hide hk; clear hk)
        | (go_at_call 35; refine (unhide HLD _ (unhide HK2).1).mono ?_; rintro e w3 ⟨rfl, hk⟩; have HK3 := hide hk; clear hk)
        | (go_at_call 34; refine (unhide HDM).mono ?_; rintro e w2 ⟨rfl, hk⟩; have HK2 := hide hk; clear hk))
      go_ret
      exact ⟨rfl, ((unhide HF1).trans ((unhide HK2).2.trans ((unhide HK3).2.trans ((unhide HK4).2.trans (unhide HK5).2)))).below⟩

end Go.Proofs.YtomiepknmmpflaaGreatDoor

