/- The law Committed. -/
import Derived.Test.YtomiepknmmpflaaGreatDoorKPRowK
namespace Go.Proofs.YtomiepknmmpflaaGreatDoor
open Go.RowKit Go.Joins

theorem cntTo_zero {ks : List Int} {v : Int} : ∀ (n : Nat), (∀ k, k < n → ks.getD k 0 ≠ v) → cntTo ks v n = 0
  | 0, _ => rfl
  | n + 1, h => by rw [cntTo, cntTo_zero n (fun k hk => h k (by omega)), if_neg (h n (by omega))]
theorem blank_tally {s bk : ByteArray} {m : Nat} (h : s = encode bk (noKinds m) (noBlocks m)) (he : Enc bk (noKinds m) (noBlocks m)) : tally s = (⟨#[48, 44, 48, 44]⟩ : ByteArray) ++ (dec m ++ ⟨#[44, 48]⟩) := by
  have hl : (noKinds m).length = m := by simp [noKinds]
  have hm : Ov.many s = m := by rw [h, he.many, hl]
  have hk : ∀ v : Int, v ≠ 0 → cntTo (Ov.kindsTo s (Ov.many s)) v (Ov.many s) = 0 := fun v hv => cntTo_zero _ (fun k hk => by
    have e : (Ov.kindsTo s (Ov.many s)).getD k 0 = Ov.kindOf (Ov.ent s k) := by
      unfold Ov.kindsTo
      rw [List.getD_eq_getElem?_getD, List.getElem?_map, List.getElem?_range hk]; rfl
    rw [e, h, he.kind (by rw [hl, ← hm]; exact hk), noKinds_getD]
    exact fun q => hv q.symm)
  unfold tally
  rw [hk 1 (by decide), hk 255 (by decide), hm, Nat.sub_zero, Nat.sub_zero]
  have hlo : Ov.lost s = 0 := by rw [h]; exact he.lost
  rw [hlo]
  unfold tallyOf
  simp only [bytes_assoc]
  show dec 0 ++ (comma ++ (dec 0 ++ (comma ++ (dec m ++ (comma ++ dec 0))))) = _
  rw [← bytes_assoc (dec 0) comma, ← bytes_assoc (dec 0 ++ comma), ← bytes_assoc (dec 0 ++ comma ++ dec 0)]
  rfl
theorem blank_check {m : Nat} {t : ByteArray} (h : t = (⟨#[48, 44, 48, 44]⟩ : ByteArray) ++ (dec m ++ ⟨#[44, 48]⟩)) : 5 ≤ t.size ∧ t.size ≤ 8 ∧ t.extract 0 4 = ⟨#[48, 44, 48, 44]⟩ ∧ t.extract (t.size - 2) t.size = ⟨#[44, 48]⟩ := by
  have h1 := dec_size m
  have hz : t.size = 4 + ((dec m).size + 2) := by rw [h, ByteArray.size_append, ByteArray.size_append]; rfl
  have e2 := (end_two (T := (⟨#[48, 44, 48, 44]⟩ : ByteArray) ++ dec m) (t := t) (by rw [h, bytes_assoc])).2
  refine ⟨by omega, by omega, ?_, e2⟩
  rw [h]
  refine bytes_ext ?_
  rw [Lib.extract_data, app_data]
  rfl
theorem done_names {l l' : Ov.Files} {x bk : ByteArray} {rest : List ByteArray} (h : Done l l' x bk rest) : SameBut (markF l) (markF l') (x ++ bk) := sameBut_two h.other
theorem done_reads {l l' : Ov.Files} {x bk : ByteArray} {rest : List ByteArray} (h : Done l l' x bk rest) : ∃ t t1 : ByteArray, readK l x = (t, true) ∧ readK l' bk = (t1, true) ∧ t.size ≤ t1.size ∧ t1.size ≤ 240 ∧ t1.extract 0 t.size = t := by
  have hm := h.chnB.many_le
  refine ⟨_, _, readK_yes h.old, readK_yes h.chnB, ?_, ?_, ?_⟩
  · rw [viewF_size, viewF_size]; have := h.manyB; omega
  · rw [viewF_size]; have := hm.2; omega
  · rw [viewF_size]
    have e := viewF_slice l' (bk :: rest) (f := 0) (k := 8 * Ov.many (fileOf l x)) (N := 8 * Ov.many (fileOf l' bk)) (by have := h.manyB; omega)
    rw [Nat.zero_add] at e
    rw [e]
    exact viewF_ext (fun i hi => h.atB i hi)
theorem done_check {l l' : Ov.Files} {x bk : ByteArray} {rest : List ByteArray} (h : Done l l' x bk rest) : ∃ t : ByteArray, checkF l' x = (t, 0) ∧ 5 ≤ t.size ∧ t.size ≤ 8 ∧ t.extract 0 4 = ⟨#[48, 44, 48, 44]⟩ ∧ t.extract (t.size - 2) t.size = ⟨#[44, 48]⟩ := by
  have e := blank_tally h.file h.enc
  refine ⟨_, ?_, blank_check e⟩
  unfold checkF
  rw [if_pos h.chn.here, if_pos ((Ov.imageB_iff _).2 h.chn.image)]

set_option maxRecDepth 100000 in
set_option maxHeartbeats 8000000 in
theorem kCommitted_calls (B : Nat) (w : World) (s0 s1 s2 s3 : Addr) (a0 : Option Addr) (n0 c0 : Nat) (a : Int) (h : Under w B s0 s1 s2 s3) (hs : Scr w B a0 n0) (ha : In64 a) :
    Calls Tryz.prog 7 #[.slice a0 n0 c0, .int .i64 a] w fun e w' => e = .returned (.bool true) ∧ Below B w w' := by
  have HPL := hide (kplayed_calls B [] s0 s1 s2 s3 w a0 n0 c0 h (fun k hk => by cases hk) hs)
  have HNM : Hid (∀ w, Calls Tryz.prog 18 #[.int .i64 a] w fun e w' => e = .returned (.string (nameC a)) ∧ w = w') := fun w => kname_calls _ w ha.1 ha.2
  have hx1 := nameC_size a
  obtain ⟨x, hx⟩ : ∃ x, nameC a = x := ⟨_, rfl⟩
  rw [hx] at HNM hx1
  clear h hs hx ha
  go_enter Tryz.func7, Tryz.ntmps7
  go_wp2_with (first
    | (go_at_call 18; refine (unhide HNM _).mono ?_; rintro e w2 ⟨rfl, rfl⟩)
    | (go_at_call 15; refine (unhide HPL).mono ?_; rintro e w1 ⟨b, l, rfl, hk1, hf1, hsx⟩; have HK1 := hide hk1; have HF1 := hide hf1; have HSX := hide hsx; clear hk1 hf1 hsx))
  have HRD := hide (kread_calls x B b [] s0 s1 s2 s3 4000 l w1 (unhide HK1))
  have HCH : Hid (∀ w1, KW w1 B b [] s0 s1 s2 s3 4000 l → Calls Tryz.prog 17 #[.pointer (some ⟨b, 0, none⟩), .string x] w1 (KPost (.tuple #[.string (Ov.chainF l x).1, .string (Ov.chainF l x).2.1, .int .i64 (Ov.chainF l x).2.2]) B b [] s0 s1 s2 s3 4000 l w1)) := fun w1 hk => kChain hk x
  have HCM : Hid (∀ (w1 : World) (g : Nat), KW w1 B b [g] s0 s1 s2 s3 4000 l → Calls Tryz.prog 23 #[.pointer (some ⟨b, 0, none⟩), .string x] w1 (KPost (.int .i64 (commitF 4000 l x).1) B b [g] s0 s1 s2 s3 4000 (commitF 4000 l x).2 w1)) := fun w1 g hk => kCommit hk x
  have ht80 := LI.join_size80 (unhide HK1).li x
  obtain ⟨t1, ht1⟩ : ∃ t, (Ov.chainF l x).2.1 = t := ⟨_, rfl⟩
  obtain ⟨t2, ht2⟩ : ∃ t, (Ov.chainF l x).2.2 = t := ⟨_, rfl⟩
  rw [ht1, ht2] at HCH
  clear ht1 ht2
  rcases commit_out 4000 l x with ⟨q1, q2, q3⟩ | ⟨q1, rest, hdn⟩
  · obtain ⟨c, hc⟩ : ∃ t, (Ov.chainF l x).1 = t := ⟨_, rfl⟩
    rw [hc] at HCH ht80
    obtain ⟨r, hr⟩ : ∃ r, commitF 4000 l x = r := ⟨_, rfl⟩
    rw [hr] at HCM q1 q2 q3
    obtain ⟨e, m⟩ := r
    dsimp only at HCM q1 q2 q3
    subst q2
    have hen : (e != 0) = true := by rw [bne_iff_ne]; exact q1
    by_cases hok : (readK m x).2 = true
    · obtain ⟨ns, hcn, hso, _⟩ := readK_ok hok
      rw [hok] at HRD
      obtain ⟨t, ht⟩ : ∃ t, (readK m x).1 = t := ⟨_, rfl⟩
      rw [ht] at HRD
      have q4 := q3 hso
      clear ht hcn hso hok q3 hr hc
      rcases q4 with rfl | rfl
      all_goals
        go_wp2_with (first
          | (go_at_call 23; refine (unhide HCM _ _ (unhide HK4)).mono ?_; rintro e w5 ⟨rfl, hk⟩; have HK5 := hide hk; clear hk)
          | (go_at_call 16; refine (kfiles_calls B b [] s0 s1 s2 s3 4000 m _ (unhide HK3).1).mono ?_; rintro e w4 ⟨g1, c1, rfl, hk4, hf4, ho4, _⟩; have HK4 := hide hk4; have HF4 := hide hf4; clear hk4 hf4 ho4)
          | (go_at_call 17; refine (unhide HCH _ (unhide HK2).1).mono ?_; rintro e w3 ⟨rfl, hk⟩; have HK3 := hide hk; clear hk)
          | (go_at_call 26; refine (unhide HRD).mono ?_; rintro e w2 ⟨rfl, hk⟩; have HK2 := hide hk; clear hk))
        go_ret
        exact ⟨rfl, ((unhide HF1).below.trans ((unhide HK2).2.below.trans ((unhide HK3).2.below.trans ((unhide HF4).below.trans (unhide HK5).2.below))))⟩
    · have hrk := (readK_no (show (readK m x).2 = false by simpa using hok)).2
      rw [hrk] at HRD
      clear hok hrk q3 hr hc
      go_wp2_with (first
        | (go_at_call 23; refine (unhide HCM _ _ (unhide HK4)).mono ?_; rintro e w5 ⟨rfl, hk⟩; have HK5 := hide hk; clear hk)
        | (go_at_call 16; refine (kfiles_calls B b [] s0 s1 s2 s3 4000 m _ (unhide HK3).1).mono ?_; rintro e w4 ⟨g1, c1, rfl, hk4, hf4, ho4, _⟩; have HK4 := hide hk4; have HF4 := hide hf4; clear hk4 hf4 ho4)
        | (go_at_call 17; refine (unhide HCH _ (unhide HK2).1).mono ?_; rintro e w3 ⟨rfl, hk⟩; have HK3 := hide hk; clear hk)
        | (go_at_call 26; refine (unhide HRD).mono ?_; rintro e w2 ⟨rfl, hk⟩; have HK2 := hide hk; clear hk))
      go_ret
      exact ⟨rfl, ((unhide HF1).below.trans ((unhide HK2).2.below.trans ((unhide HK3).2.below.trans ((unhide HF4).below.trans (unhide HK5).2.below))))⟩
  · have hb1 : (Ov.backing (fileOf l x)).size = 1 := (unhide HSX).at (chn_here hdn.old (List.mem_cons_of_mem _ List.mem_cons_self))
    obtain ⟨bk, hbk⟩ : ∃ bk, Ov.backing (fileOf l x) = bk := ⟨_, rfl⟩
    rw [hbk] at hdn hb1
    obtain ⟨hc3, hc2⟩ := second_name (rest := rest) hx1 hdn.size
    have hch := chn_chain hdn.old
    have hc0 : (Ov.chainF l x).1 = Ov.joinTo (x :: bk :: rest) (x :: bk :: rest).length := by rw [hch]
    rw [← hc0] at hc3 hc2
    have hyb := hc2 hb1
    have hsb := done_names hdn
    obtain ⟨t, u, hr1, hr2, hr3, hr4, hr5⟩ := done_reads hdn
    obtain ⟨ct, hk1, hk2, hk3, hk4, hk5⟩ := done_check hdn
    rw [hr1] at HRD
    rw [← hyb] at hsb hr2
    obtain ⟨c, hc⟩ : ∃ t, (Ov.chainF l x).1 = t := ⟨_, rfl⟩
    rw [hc] at HCH ht80 hc3 hsb hr2
    obtain ⟨r, hr⟩ : ∃ r, commitF 4000 l x = r := ⟨_, rfl⟩
    rw [hr] at HCM q1 hsb hr2 hk1
    obtain ⟨e, m⟩ := r
    dsimp only at HCM q1 hsb hr2 hk1
    subst q1
    have HRB : Hid (∀ (w1 : World) (g : Nat), KW w1 B b [g] s0 s1 s2 s3 4000 m → Calls Tryz.prog 26 #[.pointer (some ⟨b, 0, none⟩), .string (c.extract 2 3)] w1 (KPost (.tuple #[.string u, .bool true]) B b [g] s0 s1 s2 s3 4000 m w1)) := fun w1 g hk => by
      have := kread_calls (c.extract 2 3) B b [g] s0 s1 s2 s3 4000 m w1 hk
      rwa [hr2] at this
    have HCK : Hid (∀ (w1 : World) (P : List Nat), KW w1 B b P s0 s1 s2 s3 4000 m → Calls Tryz.prog 27 #[.pointer (some ⟨b, 0, none⟩), .string x] w1 (KPost (.tuple #[.string ct, .int .i64 0]) B b P s0 s1 s2 s3 4000 m w1)) := fun w1 P hk => by
      have := kCheck hk x
      rwa [hk1] at this
    have HSB := hide hsb
    have hy3 : (c.extract 2 3).size ≤ 1 := by rw [ByteArray.size_extract]; omega
    clear hr hc hch hc0 hc2 hyb hdn hbk hb1 hr1 hr2 hk1 hsb HSX
    go_wp2_with (first
      | (go_at_call 20; refine (ksame_calls (markF l) (markF m) (x ++ c.extract 2 3) g1 g2 c1 c2 B B _ (owns_of_blocks (unhide HO4) (fun k hk => by obtain rfl := Option.some.inj hk; exact (unhide HG1))) (owns_of_blocks (unhide HO7) (fun k hk => by obtain rfl := Option.some.inj hk; exact (unhide HG2))) (by rw [ByteArray.size_append]; omega) (unhide HSB)).mono ?_; rintro e w9 ⟨rfl, hb9⟩; have HB9 := hide hb9; clear hb9)
      | (go_at_call 27; refine (unhide HCK _ _ (unhide HK7)).mono ?_; rintro e w8 ⟨rfl, hk⟩
         have HG2 : Hid (w8.heap[g2]? = w7.heap[g2]?) := hk.2.own g2 (by simp)
         have HG1 : Hid (w8.heap[g1]? = w4.heap[g1]?) := (hk.2.own g1 (by simp)).trans (((unhide HF7).own g1 (by simp)).trans (((unhide HK6).2.own g1 (by simp)).trans ((unhide HK5).2.own g1 (by simp))))
         have hz8 := hk.1.un.se.size; have HK8 := hide hk; clear hk)
      | (go_at_call 16; refine (kfiles_calls B b [g1] s0 s1 s2 s3 4000 m _ (unhide HK6).1).mono ?_; rintro e w7 ⟨g2, c2, rfl, hk7, hf7, ho7, _⟩; have HK7 := hide hk7; have HF7 := hide hf7; have HO7 := hide ho7; clear hk7 hf7 ho7)
      | (go_at_call 26; refine (unhide HRB _ _ (unhide HK5).1).mono ?_; rintro e w6 ⟨rfl, hk⟩; have HK6 := hide hk; clear hk)
      | (go_at_call 23; refine (unhide HCM _ _ (unhide HK4)).mono ?_; rintro e w5 ⟨rfl, hk⟩; have HK5 := hide hk; clear hk)
      | (go_at_call 16; refine (kfiles_calls B b [] s0 s1 s2 s3 4000 l _ (unhide HK3).1).mono ?_; rintro e w4 ⟨g1, c1, rfl, hk4', hf4, ho4, _⟩; have HK4 := hide hk4'; have HF4 := hide hf4; have HO4 := hide ho4; clear hk4' hf4 ho4)
      | (go_at_call 17; refine (unhide HCH _ (unhide HK2).1).mono ?_; rintro e w3 ⟨rfl, hk⟩; have HK3 := hide hk; clear hk)
      | (go_at_call 26; refine (unhide HRD).mono ?_; rintro e w2 ⟨rfl, hk⟩; have HK2 := hide hk; clear hk))
    go_ret
    exact ⟨rfl, ((unhide HF1).below.trans ((unhide HK2).2.below.trans ((unhide HK3).2.below.trans ((unhide HF4).below.trans ((unhide HK5).2.below.trans ((unhide HK6).2.below.trans ((unhide HF7).below.trans (unhide HK8).2.below))))))).trans ((unhide HB9).mono hz8)⟩

end Go.Proofs.YtomiepknmmpflaaGreatDoor

