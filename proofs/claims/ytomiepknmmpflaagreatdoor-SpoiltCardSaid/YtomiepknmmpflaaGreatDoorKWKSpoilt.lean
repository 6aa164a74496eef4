/- The law Spoilt. -/
import Derived.Test.YtomiepknmmpflaaGreatDoorKPRowK
import Derived.Test.YtomiepknmmpflaaGreatDoorKPSem5
namespace Go.Proofs.YtomiepknmmpflaaGreatDoor
open Go.RowKit Go.Joins

def aN : ByteArray := ⟨#[97]⟩
def bN : ByteArray := ⟨#[98]⟩
theorem aN_name : Ov.nameB aN = true := by rfl
theorem bN_name : Ov.nameB bN = true := by rfl
theorem ab_ne : aN ≠ bN := fun q => absurd (congrArg (fun s : ByteArray => Ov.byteAt s 0) q) (by decide)
theorem drop_get (l : Ov.Files) (x y : ByteArray) : getF (Ov.dropF l x).2 y = if x = y then none else getF l y := by
  unfold Ov.dropF
  split
  · exact getF_drop l x y
  · rename_i hp
    by_cases h : x = y
    · rw [if_pos h, ← h, getF_place, if_neg hp]
    · rw [if_neg h]
theorem spoilt_two {l : Ov.Files} {n : Nat} (h1 : 1 ≤ n) (h30 : n ≤ 30) (ha : getF l aN = some (blank ⟨#[]⟩ 2)) (hb : getF l bN = some (blank aN n)) : Ov.Chn l [aN] aN ∧ Ov.Chn l [bN, aN] bN ∧ Ov.many (fileOf l aN) = 2 := by
  have e1 := enc_new (bk := ⟨#[]⟩) (n := 2) (by omega) (by omega) (by decide) (fun q => absurd q (by decide))
  have e2 := enc_new (bk := aN) h1 h30 (by decide) (fun _ => aN_name)
  have c1 : Ov.Chn l [aN] aN := chn_mk ha e1.image (Or.inl ⟨by show (Ov.backing (encode _ _ _)).size = 0; rw [e1.backing]; rfl, rfl⟩)
  refine ⟨c1, chn_mk hb e2.image (Or.inr ?_), ?_⟩
  · show (Ov.backing (encode _ _ _)).size ≠ 0 ∧ Ov.Chn l [aN] (Ov.backing (encode _ _ _))
    rw [e2.backing]; exact ⟨by decide, c1⟩
  · rw [(getF_some ha).2]
    show Ov.many (encode _ _ _) = 2
    rw [e1.many]; rfl
theorem spoilt_write {l : Ov.Files} {d : ByteArray} {f n : Nat} (h1 : 1 ≤ n) (h30 : n ≤ 30) (ha : getF l aN = some (blank ⟨#[]⟩ 2)) (hb : getF l bN = some (blank aN n)) (hf : f + d.size ≤ 16) : Ov.Chn (writeF 4000 l aN f d).2 [bN, aN] bN ∧ Ov.place (writeF 4000 l aN f d).2 aN < (writeF 4000 l aN f d).2.length := by
  obtain ⟨c1, c2, c3⟩ := spoilt_two h1 h30 ha hb
  rcases write_out 4000 (d := d) (f := f) c1 (by omega) with e | ⟨_, t⟩
  · rw [e]; exact ⟨c2, c1.here⟩
  · have e2 := enc_new (bk := aN) h1 h30 (by decide) (fun _ => aN_name)
    have hb2 := t.other bN ab_ne
    rw [hb] at hb2
    refine ⟨chn_mk hb2 e2.image (Or.inr ?_), t.chn.here⟩
    show (Ov.backing (encode _ _ _)).size ≠ 0 ∧ Ov.Chn _ [aN] (Ov.backing (encode _ _ _))
    rw [e2.backing]; exact ⟨by decide, t.chn⟩
theorem spoilt_back {l : Ov.Files} (junk : ByteArray) (hp : Ov.place l aN < l.length) (y : ByteArray) : getF (Ov.withF (Ov.withF l aN junk) aN (fileOf l aN)) y = getF l y := by
  rw [getF_withF]
  by_cases h : aN = y
  · rw [if_pos h, ← h, getF_here hp]
  · rw [if_neg h, getF_withF, if_neg h]
theorem cutF_le (s : ByteArray) (n : Nat) : (cutF s n).size ≤ n := by
  unfold cutF
  split
  · exact Nat.zero_le _
  · split
    · rw [ByteArray.size_extract]; omega
    · omega

set_option maxRecDepth 100000 in
set_option maxHeartbeats 4000000 in
theorem kSpoilt_calls (B : Nat) (w : World) (s0 s1 s2 s3 : Addr) (a0 : Option Addr) (n0 c0 : Nat) (cl f : Int) (data junk : ByteArray) (h : Under w B s0 s1 s2 s3) (hs : Scr w B a0 n0) (hcl : In64 cl) (hf : In64 f) (hd : data.size ≤ 9223372036854775807) (hj : junk.size ≤ 9223372036854775807) :
    Calls Tryz.prog 12 #[.slice a0 n0 c0, .int .i64 cl, .int .i64 f, .string data, .string junk] w fun e w' => e = .returned (.bool true) ∧ Below B w w' := by
  have HPL := hide (kplayed_calls B [] s0 s1 s2 s3 w a0 n0 c0 h (fun k hk => by cases hk) hs)
  have HP6 : Hid (∀ w, Calls Tryz.prog 21 #[.int .i64 cl, .int .i64 6] w fun e w' => e = .returned (.int .i64 (pickN cl 6 : Nat)) ∧ w = w') := fun w => kpick_calls _ 6 w hcl.1 hcl.2 (by omega) (by omega)
  have HP9 : Hid (∀ w, Calls Tryz.prog 21 #[.int .i64 f, .int .i64 9] w fun e w' => e = .returned (.int .i64 (pickN f 9 : Nat)) ∧ w = w') := fun w => kpick_calls _ 9 w hf.1 hf.2 (by omega) (by omega)
  have HCD : Hid (∀ w, Calls Tryz.prog 28 #[.string data, .int .i64 8] w fun e w' => e = .returned (.string (cutF data 8)) ∧ w = w') := fun w => kcut_calls data 8 w hd
  have HCJ : Hid (∀ w, Calls Tryz.prog 28 #[.string junk, .int .i64 1000] w fun e w' => e = .returned (.string (cutF junk 1000)) ∧ w = w') := fun w => kcut_calls junk 1000 w hj
  have h6 := pickN_lt cl (n := 6) (by omega)
  have h9 := pickN_lt f (n := 9) (by omega)
  have hd8 : (cutF data 8).size ≤ 8 := cutF_le data 8
  have hj8 : (cutF junk 1000).size ≤ 1000 := cutF_le junk 1000
  obtain ⟨p6, hp6⟩ : ∃ p, pickN cl 6 = p := ⟨_, rfl⟩
  obtain ⟨p9, hp9⟩ : ∃ p, pickN f 9 = p := ⟨_, rfl⟩
  obtain ⟨d8, hdd⟩ : ∃ p, cutF data 8 = p := ⟨_, rfl⟩
  obtain ⟨jk, hjk⟩ : ∃ p, cutF junk 1000 = p := ⟨_, rfl⟩
  rw [hp6] at HP6 h6
  rw [hp9] at HP9 h9
  rw [hdd] at HCD hd8
  rw [hjk] at HCJ hj8
  clear h hs hcl hf hd hj hp6 hp9 hdd hjk
  go_enter Tryz.func12, Tryz.ntmps12
  go_wp2_with (first
    | (go_at_call 37; refine (kDrop (unhide HK2).1 bN).mono ?_; rintro e w3 ⟨rfl, hk⟩; have HK3 := hide hk; clear hk)
    | (go_at_call 37; refine (kDrop (unhide HK1) aN).mono ?_; rintro e w2 ⟨rfl, hk⟩; have HK2 := hide hk; clear hk)
    | (go_at_call 15; refine (unhide HPL).mono ?_; rintro e w1 ⟨b, l, rfl, hk1, hf1, _⟩; have HK1 := hide hk1; have HF1 := hide hf1; clear hk1 hf1))
  have HF3 : Hid (KFr B [] w w3) := (unhide HF1).trans ((unhide HK2).2.trans (unhide HK3).2)
  have ga : getF (Ov.dropF (Ov.dropF l aN).2 bN).2 aN = none := by rw [drop_get, if_neg (fun q => ab_ne q.symm), drop_get, if_pos rfl]
  have gb : getF (Ov.dropF (Ov.dropF l aN).2 bN).2 bN = none := by rw [drop_get, if_pos rfl]
  have HW3 := hide (unhide HK3).1
  obtain ⟨l2, hl2⟩ : ∃ l2, (Ov.dropF (Ov.dropF l aN).2 bN).2 = l2 := ⟨_, rfl⟩
  rw [hl2] at ga gb HW3
  clear hl2 HK1 HK2 HK3 HF1 HPL
  have HMA : Hid (Calls Tryz.prog 38 #[.pointer (some ⟨b, 0, none⟩), .string ⟨#[97]⟩, .int .i64 2, .string ⟨#[]⟩] w3 (KPost (.int .i64 (makeF 4000 l2 aN 2 ⟨#[]⟩).1) B b [] s0 s1 s2 s3 4000 (makeF 4000 l2 aN 2 ⟨#[]⟩).2 w3)) := kMake (unhide HW3) aN ⟨#[]⟩ 2
  have HMB : Hid (∀ (w1 : World) (m : Ov.Files), KW w1 B b [] s0 s1 s2 s3 4000 m → Calls Tryz.prog 38 #[.pointer (some ⟨b, 0, none⟩), .string ⟨#[98]⟩, .int .i64 (1 + (p6 : Int)), .string ⟨#[97]⟩] w1 (KPost (.int .i64 (makeF 4000 m bN (1 + p6 : Nat) aN).1) B b [] s0 s1 s2 s3 4000 (makeF 4000 m bN (1 + p6 : Nat) aN).2 w1)) := fun w1 m hk => by
    have := kMake hk bN aN ((1 + p6 : Nat) : Int)
    rwa [show (((1 + p6 : Nat)) : Int) = 1 + (p6 : Int) by omega] at this ⊢
  have hea := make_out 4000 (l := l2) (bk := ⟨#[]⟩) (n := 2) aN_name ga (Or.inl rfl)
  have hcase : (∃ g : Int, (g = 1 ∨ g = 9) ∧ makeF 4000 l2 aN 2 ⟨#[]⟩ = (g, l2)) ∨ makeF 4000 l2 aN 2 ⟨#[]⟩ = (0, Ov.withF l2 aN (blank ⟨#[]⟩ 2)) := by
    rcases hea with e2 | e2 | e2
    · exact Or.inl ⟨1, Or.inl rfl, e2⟩
    · exact Or.inl ⟨9, Or.inr rfl, e2⟩
    · exact Or.inr e2
  clear hea
  rcases hcase with ⟨g, hg, e2⟩ | e2
  · rw [e2] at HMA
    have HMB2 : Hid (∀ w1, KW w1 B b [] s0 s1 s2 s3 4000 l2 → _) := fun w1 hk => unhide HMB w1 l2 hk
    obtain ⟨fr, hfr⟩ : ∃ fr, makeF 4000 l2 bN (1 + p6 : Nat) aN = fr := ⟨_, rfl⟩
    rw [hfr] at HMB2
    obtain ⟨fe, fl⟩ := fr
    dsimp only at HMB2
    clear hfr e2 ga gb HMB
    by_cases hfe : fe = 9
    · subst hfe
      rcases hg with rfl | rfl
      all_goals
        go_wp2_with (first
          | (go_at_call 21; refine (unhide HP6 _).mono ?_; rintro e w8 ⟨rfl, rfl⟩)
          | (go_at_call 38; refine (unhide HMB2 _ (unhide HK4).1).mono ?_; rintro e w5 ⟨rfl, hk⟩; have HK5 := hide hk; clear hk)
          | (go_at_call 38; refine (unhide HMA).mono ?_; rintro e w4 ⟨rfl, hk⟩; have HK4 := hide hk; clear hk))
        go_ret
        exact ⟨rfl, ((unhide HF3).trans ((unhide HK4).2.trans (unhide HK5).2)).below⟩
    · have hfn : (fe == 9) = false := beq_eq_false_iff_ne.2 hfe
      rcases hg with rfl | rfl
      all_goals
        go_wp2_with (first
          | (go_at_call 21; refine (unhide HP6 _).mono ?_; rintro e w8 ⟨rfl, rfl⟩)
          | (go_at_call 38; refine (unhide HMB2 _ (unhide HK4).1).mono ?_; rintro e w5 ⟨rfl, hk⟩; have HK5 := hide hk; clear hk)
          | (go_at_call 38; refine (unhide HMA).mono ?_; rintro e w4 ⟨rfl, hk⟩; have HK4 := hide hk; clear hk))
        go_ret
        exact ⟨rfl, ((unhide HF3).trans ((unhide HK4).2.trans (unhide HK5).2)).below⟩
  rw [e2] at HMA
  clear e2
  have ga3 : getF (Ov.withF l2 aN (blank ⟨#[]⟩ 2)) aN = some (blank ⟨#[]⟩ 2) := by rw [getF_withF, if_pos rfl]
  have gb3 : getF (Ov.withF l2 aN (blank ⟨#[]⟩ 2)) bN = none := by rw [getF_withF, if_neg ab_ne, gb]
  obtain ⟨l3, hl3⟩ : ∃ l3, Ov.withF l2 aN (blank ⟨#[]⟩ 2) = l3 := ⟨_, rfl⟩
  rw [hl3] at ga3 gb3 HMA
  clear hl3 ga gb
  have hso : Ov.soundF l3 aN = 0 := by
    have e1 := enc_new (bk := ⟨#[]⟩) (n := 2) (by omega) (by omega) (by decide) (fun q => absurd q (by decide))
    exact chn_sound (chn_mk (ms := []) ga3 e1.image (Or.inl ⟨by show (Ov.backing (encode _ _ _)).size = 0; rw [e1.backing]; rfl, rfl⟩))
  have hcase : (∃ g : Int, (g = 1 ∨ g = 9) ∧ makeF 4000 l3 bN (1 + p6 : Nat) aN = (g, l3)) ∨ makeF 4000 l3 bN (1 + p6 : Nat) aN = (0, Ov.withF l3 bN (blank aN (1 + p6))) := by
    rcases make_out 4000 (l := l3) (bk := aN) (n := 1 + p6) bN_name gb3 (Or.inr hso) with e2 | e2 | e2
    · exact Or.inl ⟨1, Or.inl rfl, e2⟩
    · exact Or.inl ⟨9, Or.inr rfl, e2⟩
    · exact Or.inr e2
  have HMB2 : Hid (∀ w1, KW w1 B b [] s0 s1 s2 s3 4000 l3 → _) := fun w1 hk => unhide HMB w1 l3 hk
  clear HMB hso
  rcases hcase with ⟨g, hg, e2⟩ | e2
  · rw [e2] at HMB2
    clear e2 ga3 gb3
    rcases hg with rfl | rfl
    all_goals
      go_wp2_with (first
        | (go_at_call 21; refine (unhide HP6 _).mono ?_; rintro e w8 ⟨rfl, rfl⟩)
        | (go_at_call 38; refine (unhide HMB2 _ (unhide HK4).1).mono ?_; rintro e w5 ⟨rfl, hk⟩; have HK5 := hide hk; clear hk)
        | (go_at_call 38; refine (unhide HMA).mono ?_; rintro e w4 ⟨rfl, hk⟩; have HK4 := hide hk; clear hk))
      go_ret
      exact ⟨rfl, ((unhide HF3).trans ((unhide HK4).2.trans (unhide HK5).2)).below⟩
  rw [e2] at HMB2
  clear e2
  have ga4 : getF (Ov.withF l3 bN (blank aN (1 + p6))) aN = some (blank ⟨#[]⟩ 2) := by rw [getF_withF, if_neg (fun q => ab_ne q.symm), ga3]
  have gb4 : getF (Ov.withF l3 bN (blank aN (1 + p6))) bN = some (blank aN (1 + p6)) := by rw [getF_withF, if_pos rfl]
  obtain ⟨l4, hl4⟩ : ∃ l4, Ov.withF l3 bN (blank aN (1 + p6)) = l4 := ⟨_, rfl⟩
  rw [hl4] at ga4 gb4 HMB2
  obtain ⟨hcb, hpa⟩ := spoilt_write (d := d8) (f := p9) (n := 1 + p6) (by omega) (by omega) ga4 gb4 (by omega)
  have HWR : Hid (∀ w1, KW w1 B b [] s0 s1 s2 s3 4000 l4 → Calls Tryz.prog 29 #[.pointer (some ⟨b, 0, none⟩), .string ⟨#[97]⟩, .int .i64 (p9 : Nat), .string d8] w1 (KPost (.int .i64 (writeF 4000 l4 aN p9 d8).1) B b [] s0 s1 s2 s3 4000 (writeF 4000 l4 aN p9 d8).2 w1)) := fun w1 hk => kWrite hk aN d8 (p9 : Nat) ⟨by omega, by omega⟩ (by omega)
  obtain ⟨wr5, hw5⟩ : ∃ r, writeF 4000 l4 aN p9 d8 = r := ⟨_, rfl⟩
  rw [hw5] at HWR hcb hpa
  obtain ⟨we, l5⟩ := wr5
  dsimp only at HWR hcb hpa
  clear hw5 ga4 gb4 hl4 ga3 gb3
  have HRB : Hid (∀ w1, KW w1 B b [] s0 s1 s2 s3 4000 l5 → Calls Tryz.prog 26 #[.pointer (some ⟨b, 0, none⟩), .string ⟨#[98]⟩] w1 (KPost (.tuple #[.string (readK l5 bN).1, .bool (readK l5 bN).2]) B b [] s0 s1 s2 s3 4000 l5 w1)) := fun w1 hk => kread_calls bN B b [] s0 s1 s2 s3 4000 l5 w1 hk
  have hrk := readK_yes hcb
  obtain ⟨t, ht⟩ : ∃ t, viewF l5 [bN, aN] 0 (8 * Ov.many (fileOf l5 bN)) = t := ⟨_, rfl⟩
  rw [ht] at hrk
  rw [hrk] at HRB
  have HDA : Hid (∀ w1, KW w1 B b [] s0 s1 s2 s3 4000 l5 → Calls Tryz.prog 34 #[.pointer (some ⟨b, 0, none⟩), .string ⟨#[97]⟩] w1 (KPost (.tuple #[.string (fileOf l5 aN), .int .i64 0]) B b [] s0 s1 s2 s3 4000 l5 w1)) := fun w1 hk => by
    have := kDump hk aN
    rwa [show Ov.dumpF l5 aN = (fileOf l5 aN, 0) by unfold Ov.dumpF; rw [if_pos hpa]] at this
  have HLJ : Hid (∀ w1, KW w1 B b [] s0 s1 s2 s3 4000 l5 → Calls Tryz.prog 35 #[.pointer (some ⟨b, 0, none⟩), .string ⟨#[97]⟩, .string jk] w1 (KPost (.int .i64 (Ov.loadF 4000 l5 aN jk).1) B b [] s0 s1 s2 s3 4000 (Ov.loadF 4000 l5 aN jk).2 w1)) := fun w1 hk => kLoad hk aN jk
  have hback := spoilt_back jk hpa
  have HLB : Hid (∀ w1, KW w1 B b [] s0 s1 s2 s3 4000 (Ov.withF l5 aN jk) → Calls Tryz.prog 35 #[.pointer (some ⟨b, 0, none⟩), .string ⟨#[97]⟩, .string (fileOf l5 aN)] w1 (KPost (.int .i64 (Ov.loadF 4000 (Ov.withF l5 aN jk) aN (fileOf l5 aN)).1) B b [] s0 s1 s2 s3 4000 (Ov.loadF 4000 (Ov.withF l5 aN jk) aN (fileOf l5 aN)).2 w1)) := fun w1 hk => kLoad hk aN _
  have HLI : Hid (∀ w1, KW w1 B b [] s0 s1 s2 s3 4000 l5 → (fileOf l5 aN).size ≤ 1000) := fun w1 hk => hk.li.size _ hpa
  clear ht
  go_wp2_with (first
    | (go_at_call_of 21 (Value.int IntKind.i64 cl); refine (unhide HP6 _).mono ?_; rintro e w8 ⟨rfl, rfl⟩)
    | (go_at_call_of 21 (Value.int IntKind.i64 f); refine (unhide HP9 _).mono ?_; rintro e w8 ⟨rfl, rfl⟩)
    | (go_at_call_of 28 (Value.string data); refine (unhide HCD _).mono ?_; rintro e w8 ⟨rfl, rfl⟩)
    | (go_at_call_of 28 (Value.string junk); refine (unhide HCJ _).mono ?_; rintro e w8 ⟨rfl, rfl⟩)
    | (go_at_call 34; refine (unhide HDA _ (unhide HK7).1).mono ?_; rintro e w8 ⟨rfl, hk⟩; have hfs := unhide HLI _ hk.1; have HK8 := hide hk; clear hk)
    | (go_at_call 26; refine (unhide HRB _ (unhide HK6).1).mono ?_; rintro e w7 ⟨rfl, hk⟩; have HK7 := hide hk; clear hk)
    | (go_at_call 29; refine (unhide HWR _ (unhide HK5).1).mono ?_; rintro e w6 ⟨rfl, hk⟩; have HK6 := hide hk; clear hk)
    | (go_at_call 38; refine (unhide HMB2 _ (unhide HK4).1).mono ?_; rintro e w5 ⟨rfl, hk⟩; have HK5 := hide hk; clear hk)
    | (go_at_call 38; refine (unhide HMA).mono ?_; rintro e w4 ⟨rfl, hk⟩; have HK4 := hide hk; clear hk))
  have HF8 : Hid (KFr B [] w w8) := (unhide HF3).trans ((unhide HK4).2.trans ((unhide HK5).2.trans ((unhide HK6).2.trans ((unhide HK7).2.trans (unhide HK8).2))))
  have HW8 := hide (unhide HK8).1
  clear HK4 HK5 HK6 HK7 HK8 HF3 HMA HMB2 HWR HRB HDA HW3 HP6 HP9 HCD
  rcases load_here 4000 l5 aN_name hj8 hpa with e2 | e2
  · rw [e2] at HLJ
    clear e2 hback hrk hcb hpa
    go_wp2_with (first
      | (go_at_call 28; refine (unhide HCJ _).mono ?_; rintro e w9 ⟨rfl, rfl⟩)
      | (go_at_call 35; refine (unhide HLJ _ (unhide HW8)).mono ?_; rintro e w9 ⟨rfl, hk⟩; have HK9 := hide hk; clear hk))
    go_ret
    exact ⟨rfl, ((unhide HF8).trans (unhide HK9).2).below⟩
  rw [e2] at HLJ
  clear e2
  have hpb6 : Ov.place (Ov.withF l5 aN jk) bN < (Ov.withF l5 aN jk).length := place_with hcb.here
  have hpa6 : Ov.place (Ov.withF l5 aN jk) aN < (Ov.withF l5 aN jk).length := place_with hpa
  have hld := load_here 4000 (Ov.withF l5 aN jk) aN_name hfs hpa6
  obtain ⟨fa, hfa⟩ : ∃ fa, fileOf l5 aN = fa := ⟨_, rfl⟩
  rw [hfa] at HLB hback hld hfs ⊢
  obtain ⟨l6, hl6⟩ : ∃ l6, Ov.withF l5 aN jk = l6 := ⟨_, rfl⟩
  rw [hl6] at HLJ HLB hback hpb6 hpa6 hld
  clear hl6 hfa hcb hpa
  have HCH : Hid (∀ w1, KW w1 B b [] s0 s1 s2 s3 4000 l6 → Calls Tryz.prog 17 #[.pointer (some ⟨b, 0, none⟩), .string ⟨#[98]⟩] w1 (KPost (.tuple #[.string (Ov.chainF l6 bN).1, .string (Ov.chainF l6 bN).2.1, .int .i64 (Ov.soundF l6 bN)]) B b [] s0 s1 s2 s3 4000 l6 w1)) := fun w1 hk => by
    have := kChain hk bN
    rwa [show (Ov.chainF l6 bN).2.2 = Ov.soundF l6 bN by unfold Ov.chainF Ov.soundF; rw [if_pos hpb6, if_pos hpb6]] at this
  have HWH : Hid (∀ w1, KW w1 B b [] s0 s1 s2 s3 4000 l6 → Ov.soundF l6 bN ≠ 0 → 1 ≤ (Ov.chainF l6 bN).2.1.size) := fun w1 hk h0 => (chain_where hk.li hpb6 h0).2
  have HALL : Hid (Ov.soundF l6 bN ≠ 0 → readF l6 bN 0 0 = (⟨#[]⟩, Ov.soundF l6 bN) ∧ writeF 4000 l6 bN 0 ⟨#[]⟩ = (Ov.soundF l6 bN, l6) ∧ zeroF 4000 l6 bN 0 0 = (Ov.soundF l6 bN, l6) ∧ discardF 4000 l6 bN 0 0 = (Ov.soundF l6 bN, l6) ∧ commitF 4000 l6 bN = (Ov.soundF l6 bN, l6) ∧ rebaseF 4000 l6 bN ⟨#[]⟩ = (Ov.soundF l6 bN, l6) ∧ compareF l6 bN bN = (0, Ov.soundF l6 bN)) := fun h0 => all_refuse (room := 4000) hpb6 rfl h0
  have hq : ∃ (q : Int) (l7 : Ov.Files) (t2 : ByteArray) (b2 : Bool), Ov.loadF 4000 l6 aN fa = (q, l7) ∧ readK l7 bN = (t2, b2) ∧ (q = 9 ∨ (q = 0 ∧ t2 = t ∧ b2 = true)) := by
    rcases hld with e | e
    · exact ⟨9, l6, _, _, e, rfl, Or.inl rfl⟩
    · exact ⟨0, _, t, true, e, (readK_congr hback bN).trans hrk, Or.inr ⟨rfl, rfl, rfl⟩⟩
  obtain ⟨q, l7, t2, b2, e1, e2, hqc⟩ := hq
  rw [e1] at HLB
  have HRN : Hid (∀ w1, KW w1 B b [] s0 s1 s2 s3 4000 l7 → Calls Tryz.prog 26 #[.pointer (some ⟨b, 0, none⟩), .string ⟨#[98]⟩] w1 (KPost (.tuple #[.string t2, .bool b2]) B b [] s0 s1 s2 s3 4000 l7 w1)) := fun w1 hk => by
    have := kread_calls bN B b [] s0 s1 s2 s3 4000 l7 w1 hk
    rwa [e2] at this
  dsimp only at HLB HLJ
  obtain ⟨c1, hc1⟩ : ∃ c, (Ov.chainF l6 bN).1 = c := ⟨_, rfl⟩
  obtain ⟨c2, hc2⟩ : ∃ c, (Ov.chainF l6 bN).2.1 = c := ⟨_, rfl⟩
  rw [hc1, hc2] at HCH
  rw [hc2] at HWH
  clear e1 e2 hld hback hrk hpa6 hc1 hc2 HLI hfs
  by_cases hso : Ov.soundF l6 bN = 0
  · rw [hso] at HCH
    clear HWH HALL hso hpb6
    rcases hqc with rfl | ⟨rfl, rfl, rfl⟩
    all_goals
      go_wp2_with (first
        | (go_at_call 28; refine (unhide HCJ _).mono ?_; rintro e w9 ⟨rfl, rfl⟩)
        | (go_at_call 26; refine (unhide HRN _ (unhide HKQ).1).mono ?_; rintro e wz ⟨rfl, hk⟩; have HKZ := hide hk; clear hk)
        | (go_at_call 35; refine (unhide HLB _ (unhide HKC).1).mono ?_; rintro e wq ⟨rfl, hk⟩; have HKQ := hide hk; clear hk)
        | (go_at_call 17; refine (unhide HCH _ (unhide HK9).1).mono ?_; rintro e wc ⟨rfl, hk⟩; have HKC := hide hk; clear hk)
        | (go_at_call 35; refine (unhide HLJ _ (unhide HW8)).mono ?_; rintro e w9 ⟨rfl, hk⟩; have HK9 := hide hk; clear hk))
      go_ret
      exact ⟨rfl, ((unhide HF8).trans ((unhide HK9).2.trans ((unhide HKC).2.trans ((unhide HKQ).2.trans (unhide HKZ).2)))).below⟩
  · obtain ⟨r1, r2, r3, r4, r5, r6, r7⟩ := unhide HALL hso
    have HR1 : Hid (∀ w1, KW w1 B b [] s0 s1 s2 s3 4000 l6 → Calls Tryz.prog 33 #[.pointer (some ⟨b, 0, none⟩), .string ⟨#[98]⟩, .int .i64 0, .int .i64 0] w1 (KPost (.tuple #[.string ⟨#[]⟩, .int .i64 (Ov.soundF l6 bN)]) B b [] s0 s1 s2 s3 4000 l6 w1)) := fun w1 hk => by
      have := kRead hk bN 0 0 ⟨by omega, by omega⟩ ⟨by omega, by omega⟩
      rwa [r1] at this
    have HR2 : Hid (∀ w1, KW w1 B b [] s0 s1 s2 s3 4000 l6 → Calls Tryz.prog 29 #[.pointer (some ⟨b, 0, none⟩), .string ⟨#[98]⟩, .int .i64 0, .string ⟨#[]⟩] w1 (KPost (.int .i64 (Ov.soundF l6 bN)) B b [] s0 s1 s2 s3 4000 l6 w1)) := fun w1 hk => by
      have := kWrite hk bN ⟨#[]⟩ 0 ⟨by omega, by omega⟩ (by decide)
      rwa [r2] at this
    have HR3 : Hid (∀ w1, KW w1 B b [] s0 s1 s2 s3 4000 l6 → Calls Tryz.prog 30 #[.pointer (some ⟨b, 0, none⟩), .string ⟨#[98]⟩, .int .i64 0, .int .i64 0] w1 (KPost (.int .i64 (Ov.soundF l6 bN)) B b [] s0 s1 s2 s3 4000 l6 w1)) := fun w1 hk => by
      have := kZero hk bN 0 0 ⟨by omega, by omega⟩ ⟨by omega, by omega⟩
      rwa [r3] at this
    have HR4 : Hid (∀ w1, KW w1 B b [] s0 s1 s2 s3 4000 l6 → Calls Tryz.prog 32 #[.pointer (some ⟨b, 0, none⟩), .string ⟨#[98]⟩, .int .i64 0, .int .i64 0] w1 (KPost (.int .i64 (Ov.soundF l6 bN)) B b [] s0 s1 s2 s3 4000 l6 w1)) := fun w1 hk => by
      have := kDiscard hk bN 0 0 ⟨by omega, by omega⟩ ⟨by omega, by omega⟩
      rwa [r4] at this
    have HR5 : Hid (∀ w1, KW w1 B b [] s0 s1 s2 s3 4000 l6 → Calls Tryz.prog 23 #[.pointer (some ⟨b, 0, none⟩), .string ⟨#[98]⟩] w1 (KPost (.int .i64 (Ov.soundF l6 bN)) B b [] s0 s1 s2 s3 4000 l6 w1)) := fun w1 hk => by
      have := kCommit hk bN
      rwa [r5] at this
    have HR6 : Hid (∀ w1, KW w1 B b [] s0 s1 s2 s3 4000 l6 → Calls Tryz.prog 25 #[.pointer (some ⟨b, 0, none⟩), .string ⟨#[98]⟩] w1 (KPost (.int .i64 (Ov.soundF l6 bN)) B b [] s0 s1 s2 s3 4000 l6 w1)) := fun w1 hk => by
      have := kFlatten hk bN
      rwa [r6] at this
    have HR7 : Hid (∀ w1, KW w1 B b [] s0 s1 s2 s3 4000 l6 → Calls Tryz.prog 36 #[.pointer (some ⟨b, 0, none⟩), .string ⟨#[98]⟩, .string ⟨#[98]⟩] w1 (KPost (.tuple #[.int .i64 0, .int .i64 (Ov.soundF l6 bN)]) B b [] s0 s1 s2 s3 4000 l6 w1)) := fun w1 hk => by
      have := kCompare hk bN bN
      rwa [r7] at this
    have HWH2 : Hid (∀ w1, KW w1 B b [] s0 s1 s2 s3 4000 l6 → c2.toList.isEmpty = false) := fun w1 hk => by
      have := unhide HWH w1 hk hso
      rw [ByteArray.toList_eq, ← Bool.not_eq_true, List.isEmpty_iff_length_eq_zero]
      have h2 : c2.data.toList.length = c2.size := rfl
      omega
    obtain ⟨i, hi⟩ : ∃ i, Ov.soundF l6 bN = i := ⟨_, rfl⟩
    rw [hi] at HCH HR1 HR2 HR3 HR4 HR5 HR6 HR7 hso
    have hin : (i != 0) = true := by rw [bne_iff_ne]; exact hso
    clear HWH HALL hpb6 r1 r2 r3 r4 r5 r6 r7 hi
    rcases hqc with rfl | ⟨rfl, rfl, rfl⟩
    all_goals
      go_wp2_with (first
        | (go_at_call 28; refine (unhide HCJ _).mono ?_; rintro e w9 ⟨rfl, rfl⟩)
        | (go_at_call 26; refine (unhide HRN _ (unhide HKQ).1).mono ?_; rintro e wz ⟨rfl, hk⟩; have HKZ := hide hk; clear hk)
        | (go_at_call 35; refine (unhide HLB _ (unhide HK17).1).mono ?_; rintro e wq ⟨rfl, hk⟩; have HKQ := hide hk; clear hk)
        | (go_at_call 36; refine (unhide HR7 _ (unhide HK16).1).mono ?_; rintro e w17 ⟨rfl, hk⟩; have HK17 := hide hk; clear hk)
        | (go_at_call 25; refine (unhide HR6 _ (unhide HK15).1).mono ?_; rintro e w16 ⟨rfl, hk⟩; have HK16 := hide hk; clear hk)
        | (go_at_call 23; refine (unhide HR5 _ (unhide HK14).1).mono ?_; rintro e w15 ⟨rfl, hk⟩; have HK15 := hide hk; clear hk)
        | (go_at_call 32; refine (unhide HR4 _ (unhide HK13).1).mono ?_; rintro e w14 ⟨rfl, hk⟩; have HK14 := hide hk; clear hk)
        | (go_at_call 30; refine (unhide HR3 _ (unhide HK12).1).mono ?_; rintro e w13 ⟨rfl, hk⟩; have HK13 := hide hk; clear hk)
        | (go_at_call 29; refine (unhide HR2 _ (unhide HK11).1).mono ?_; rintro e w12 ⟨rfl, hk⟩; have HK12 := hide hk; clear hk)
        | (go_at_call 33; refine (unhide HR1 _ (unhide HKC).1).mono ?_; rintro e w11 ⟨rfl, hk⟩; have HK11 := hide hk; clear hk)
        | (go_at_call 17; refine (unhide HCH _ (unhide HK9).1).mono ?_; rintro e wc ⟨rfl, hk⟩; have hwh := unhide HWH2 _ hk.1; have HKC := hide hk; clear hk)
        | (go_at_call 35; refine (unhide HLJ _ (unhide HW8)).mono ?_; rintro e w9 ⟨rfl, hk⟩; have HK9 := hide hk; clear hk))
      go_ret
      exact ⟨rfl, ((unhide HF8).trans ((unhide HK9).2.trans ((unhide HKC).2.trans ((unhide HK11).2.trans ((unhide HK12).2.trans ((unhide HK13).2.trans ((unhide HK14).2.trans ((unhide HK15).2.trans ((unhide HK16).2.trans ((unhide HK17).2.trans ((unhide HKQ).2.trans (unhide HKZ).2))))))))))).below⟩

end Go.Proofs.YtomiepknmmpflaaGreatDoor

