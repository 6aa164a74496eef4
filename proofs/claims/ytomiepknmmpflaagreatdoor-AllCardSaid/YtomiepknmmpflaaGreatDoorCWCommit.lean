/- The walk of the reference's Rebase, whole. -/
import Derived.Test.YtomiepknmmpflaaGreatDoorCWRebase
import Derived.Maps.AppendAt
namespace Go.Proofs.YtomiepknmmpflaaGreatDoor
open Go.RowKit Go.Joins

set_option maxRecDepth 100000 in
set_option maxHeartbeats 8000000 in
theorem rRebase_over (l : Ov.Files) (x bk : ByteArray) (b room : Nat) (w : World) (hi : Ov.LI room l) (h : RefRep w b room l) (hso : Ov.soundF l x = 0) (hbkn : bk.size ≠ 0) (hsb : Ov.soundF l bk = 0) (hmet : Ov.metB (overN l bk) x = false) :
    Calls Tryz.prog 116 #[.pointer (some ⟨b, 0, none⟩), .string x, .string bk] w fun e w' => e = .returned (.int .i64 (rebaseF room l x bk).1) ∧ RefLeft w b room (rebaseF room l x bk).2 w' := by
  have hbe := nonempty_of hbkn
  have hbs0 : ¬ (bk.size ≠ 0 ∧ Ov.soundF l bk ≠ 0) := fun h => h.2 hsb
  have hov : overN l bk = (Ov.downOf l bk).1 := by unfold overN; rw [if_neg hbkn]
  have hnm := hmet
  have hchb : ∀ nb, overN l bk = nb → (nb = [] ∧ bk.size = 0 ∨ Ov.Chn l nb bk) := fun nb e => Or.inr (by rw [← e, hov]; exact (sound_here hsb).2)
  have hbk8 : bk.size ≤ 8 := hi.name_size (sound_here hsb).1
  have HQB := hide hsb
  have HPB := hide (sound_here hsb).1
  obtain ⟨L, hL⟩ : ∃ L, (Ov.downOf l bk).1 = L := ⟨_, rfl⟩
  have HNL := hide hL
  have hL1 : 1 ≤ L.length := by
    have := (sound_here hsb).2
    rw [hL] at this
    cases L with
    | nil => exact this.elim
    | cons y L => simp
  have HLX : Hid (∀ j, j < L.length → L.getD j ⟨#[]⟩ ≠ x) := fun j hj e => by
    rw [hov, hL, Ov.metB_at hj e] at hmet
    cases hmet
  have hL8 : L.length ≤ 8 := by have := Ov.down_length (l := l) l.length (seen := []) (x := bk); have h8 := hi.len; rw [show Ov.down l l.length [] bk = Ov.downOf l bk from rfl, hL] at this; simp at this; omega
  clear hmet hbkn hsb hov hL
  have hx0 : Ov.soundF l x = 0 := hso
  obtain ⟨hp, hc⟩ := sound_here hx0
  have hm := hc.many_le
  have him := hc.image
  obtain ⟨nx, hnx⟩ : ∃ nx, (Ov.downOf l x).1 = nx := ⟨_, rfl⟩
  obtain ⟨s, hs⟩ : ∃ s, fileOf l x = s := ⟨_, rfl⟩
  rw [show Ov.fileAt l (Ov.place l x) = s from hs] at him
  rw [hs] at hm
  rw [hnx] at hc
  obtain ⟨m, hme⟩ : ∃ m, Ov.many s = m := ⟨_, rfl⟩
  rw [hme] at hm
  obtain ⟨hm1, hm30⟩ := hm
  obtain ⟨nb, hnb⟩ : ∃ nb, overN l bk = nb := ⟨_, rfl⟩
  have HF : Hid (rebaseF room l x bk = Ov.putF room l (Ov.withF l x (encode bk (allTo m (kOld s) (rebK l nx) (rebC l s nx nb)) (allTo m (bOld s) (fun i => viewF l nx (8 * i) 8) (rebD l s nx nb))))) := by
    unfold rebaseF
    rw [if_neg (by omega), if_neg hbs0, if_neg (by rw [hnm]; exact Bool.false_ne_true), hs, hme, hnx, hnb]
    exact rfl
  obtain ⟨bN, hbN⟩ : ∃ bN : Nat → ByteArray, bN = fun i => viewF l nx (8 * i) 8 := ⟨_, rfl⟩
  obtain ⟨kN, hkN⟩ : ∃ kN : Nat → Int, kN = rebK l nx := ⟨_, rfl⟩
  rw [← hbN, ← hkN] at HF
  obtain ⟨K, hK⟩ : ∃ K, allTo m (kOld s) kN (rebC l s nx nb) = K := ⟨_, rfl⟩
  obtain ⟨B, hB⟩ : ∃ B, allTo m (bOld s) bN (rebD l s nx nb) = B := ⟨_, rfl⟩
  have hKb : ∀ i, i < m → 0 ≤ K.getD i 0 ∧ K.getD i 0 ≤ 255 := fun i hi => by
    rw [← hK, allTo_getD hi, hkN]
    have := kOld_bd s i
    split
    · unfold rebK; split <;> omega
    · omega
  have hBb : ∀ i, i < m → (B.getD i ⟨#[]⟩).size ≤ 8 := fun i hi => by
    rw [← hB, allTo_getD hi, hbN]
    split
    · dsimp only; rw [viewF_size]; omega
    · exact bOld_size i
  have hKl : K.length = m := by rw [← hK, allTo_length]
  have HN255 : Hid (∀ i, bN i = noughtsF 8 → kN i = 255) := fun i h => by rw [hkN]; unfold rebK; rw [hbN] at h; exact if_pos h
  have HN1 : Hid (∀ i, bN i ≠ noughtsF 8 → kN i = 1) := fun i h => by rw [hkN]; unfold rebK; rw [hbN] at h; exact if_neg h
  have HCi : Hid (∀ i, rebC l s nx nb i ↔ (kOld s i = 0 ∧ bN i ≠ viewF l nb (8 * i) 8)) := fun i => by rw [hbN]
  have HDi : Hid (∀ i, rebD l s nx nb i ↔ (rebC l s nx nb i ∧ bN i ≠ noughtsF 8)) := fun i => by rw [hbN]
  have HBN : Hid (∀ i, viewF l nx (8 * i) 8 = bN i) := fun i => by rw [hbN]
  obtain ⟨C, hC⟩ : ∃ C, C = rebC l s nx nb := ⟨_, rfl⟩
  obtain ⟨v, g1, g2, g3⟩ := id h
  obtain ⟨g, c, rfl⟩ := ownsRow_form g2 (by omega)
  have HR := hide h
  have HI := hide hi
  have HQ := hide hx0
  have HC := hide hc
  have HS := hide hs
  have HIM := hide him
  have HME := hide hme
  have HK := hide hK
  have HB := hide hB
  have HKB := hide hKb
  have HBB := hide hBb
  have HG1 := hide g1
  have HG2 := hide g2
  have HNB : Hid (nb = [] ∧ bk.size = 0 ∨ Ov.Chn l nb bk) := hchb nb hnb
  have hl8 := hi.len
  have hwl : (Ov.withF l x (encode bk K B)).length ≤ 9 := by rw [Ov.withF_length, if_pos hp]; omega
  have hes : (encode bk K B).size ≤ 1000 := by
    have := encode_size bk K B (fun j hj => hBb j (by omega))
    omega
  have HWS := hide (Ov.withF_size (x := x) (b := encode bk K B) hi.size hes)
  have hroom := hi.room
  obtain ⟨bk0, hbk0⟩ : ∃ bk0, Ov.backing s = bk0 := ⟨_, rfl⟩
  obtain ⟨lo, hlo⟩ : ∃ lo, Ov.lost s = lo := ⟨_, rfl⟩
  have HBK := hide hbk0
  have HLO := hide hlo
  rw [hK, hB] at HF
  have hbl0 := blk_lt g1
  clear hC C
  clear h hi hc hs him hme hK hB hKb hBb g1 g2 g3 hp hso hnx hes hbk0 hlo hKl hx0 hnb hbN hkN hchb hbs0 hnm
  go_enter Tryz.func116, Tryz.ntmps116
  go_wp2_with (first
    | (go_at_call 165; refine (rDown_calls l _ bk 0 _ hl8 (owns_all (unhide HG2) (unhide HB9)) (unhide HI).size (unhide HPB)).mono ?_; rintro e w1 ⟨nv, he, hb3, ho3⟩; rw [unhide HNL] at ho3; obtain ⟨gn, cn, rfl⟩ := ownsRow_form ho3 (by omega); subst he; have HBS := hide ((unhide HB9).trans (hb3.mono (unhide HB9).size)); have HON := hide ho3; clear hb3 ho3)
    | (go_at_call_of 164 x; refine (rsound_calls l x b room _ (unhide HI) (unhide HR)).mono ?_; rintro e w8 ⟨he, hb8⟩; rw [unhide HQ] at he; subst he; have HB8 := hide hb8; clear hb8)
    | (go_at_call_of 164 bk; refine (rsound_calls l bk b room _ (unhide HI) ((unhide HR).kept (unhide HB8))).mono ?_; rintro e w9 ⟨he, hb9⟩; rw [unhide HQB] at he; subst he; have HB9 := hide ((unhide HB8).trans (hb9.mono (unhide HB8).size)); have cb9 : w9.cell? ⟨b, 1, none⟩ = some (.slice (some ⟨g, 0, none⟩) l.length c) := blk_cell (((unhide HB9).block b hbl0).trans (unhide HG1)) rfl; clear hb9))
  go_loopw [11] (fun i wr => ∃ j : Nat, j ≤ L.length ∧ i = .int .i64 (j : Nat) ∧ w1 = wr) (fun i _ => L.length - (intOf i).toNat)
  case atStart => exact ⟨0, Nat.zero_le _, rfl, rfl⟩
  case round =>
    obtain ⟨j, hj, rfl, rfl⟩ := hrel
    by_cases hlt : j < L.length
    · have cn1 := texts_cell (unhide HON) hlt
      have hne := unhide HLX j hlt
      obtain ⟨y, hy⟩ : ∃ y, L.getD j ⟨#[]⟩ = y := ⟨_, rfl⟩
      rw [hy] at cn1 hne
      have yx : (y.toList == x.toList) = false := by rw [beq_eq_false_iff_ne]; exact fun e => hne (by rw [ByteArray.toList_eq, ByteArray.toList_eq] at e; exact bytes_same e)
      clear hne hy
      go_wp2_with fail
      go_roundw
      case rel => exact ⟨j + 1, by omega, by go_num, by first | trivial | rfl⟩
      case measure => simp [intOf]; omega
    · go_wp2_with (go_at_call 159; refine (rimage_calls l x s b room _ (unhide HI) ((unhide HR).kept (unhide HBS)) (by exact (unhide HC).here) (by exact unhide HS) (unhide HIM)).mono ?_; rintro e w2 ⟨ea, ec, ba, bc, he, hb2, h2, h3⟩; rw [unhide HME] at he h2 h3; rw [unhide HBK, unhide HLO] at he; subst he; have HB2 := hide hb2; have H2 := hide h2; have H3 := hide h3; clear hb2 h2 h3)
      obtain ⟨ge, ec', hve⟩ := ownsRow_form (unhide H2) (by omega)
      obtain ⟨rfl, rfl⟩ : ea = some ⟨ge, 0, none⟩ ∧ ec = ec' := (by simpa using hve)
      clear hve
      obtain ⟨gb, bc', hvb⟩ := ownsRow_form (unhide H3) (by omega)
      obtain ⟨rfl, rfl⟩ : ba = some ⟨gb, 0, none⟩ ∧ bc = bc' := (by simpa using hvb)
      clear hvb
      have him0 : RIm w1 bk0 lo m (partTo m (kOld s) kN (rebC l s nx nb) 0) (partTo m (bOld s) bN (rebD l s nx nb) 0) w2.heap.size (some ⟨ge, 0, none⟩) (some ⟨gb, 0, none⟩) ec bc (w2.alloc (.cells #[.string bk0, .slice (some ⟨ge, 0, none⟩) m ec, .slice (some ⟨gb, 0, none⟩) m bc, .int .i64 lo] 240)) := by
        rw [partTo_zero, partTo_zero]
        exact RIm.late (unhide HB2) (by rw [← kinds_old]; exact unhide H2) (by rw [← blocks_old]; exact unhide H3)
      have HIM0 := hide him0
      clear him0 H2 H3
      go_loopw [13] (fun i wr => ∃ n : Nat, n ≤ m ∧ i = .int .i64 (n : Nat) ∧ RIm w1 bk0 lo m (partTo m (kOld s) kN (rebC l s nx nb) n) (partTo m (bOld s) bN (rebD l s nx nb) n) w2.heap.size (some ⟨ge, 0, none⟩) (some ⟨gb, 0, none⟩) ec bc wr) (fun i _ => m - (intOf i).toNat)
      case atStart => exact ⟨0, Nat.zero_le _, rfl, unhide HIM0⟩
      case round =>
        obtain ⟨n, hn2, rfl, hI⟩ := hrel
        have hbw := (unhide HBS).trans (hI.below.mono (unhide HBS).size)
        have cb : wr.cell? ⟨b, 1, none⟩ = some (.slice (some ⟨g, 0, none⟩) l.length c) := blk_cell ((hbw.block b hbl0).trans (unhide HG1)) rfl
        have hblr : b < wr.heap.size := Nat.lt_of_lt_of_le hbl0 hbw.size
        have HBW := hide hbw
        by_cases hnm : n < m
        · have x1 := hI.read.2.1
          have hkn : (partTo m (kOld s) kN (rebC l s nx nb) n).getD n 0 = kOld s n := by rw [partTo_getD hnm, if_neg (by omega)]
          have HI1 := hide hI
          obtain ⟨T, hT⟩ : ∃ T, bN n = T := ⟨_, rfl⟩
          have HT := hide hT
          obtain ⟨kn, hkne⟩ : ∃ kn, kOld s n = kn := ⟨_, rfl⟩
          have HKN := hide hkne
          have HKP := hide hkn
          have h8n : 8 * n + 8 ≤ 240 := by omega
          clear hI hbw hT hkn hkne
          by_cases hk0 : kn = 0
          · subst hk0
            obtain ⟨U, hU⟩ : ∃ U, viewF l nb (8 * n) 8 = U := ⟨_, rfl⟩
            have HU := hide hU
            clear hU
            by_cases hTU : T = U
            · subst hTU
              have HSC : Hid (¬ rebC l s nx nb n) := fun h => ((unhide HCi n).1 h).2 ((unhide HT).trans (unhide HU).symm)
              have tt : (T.toList == T.toList) = true := beq_self_eq_true _
              go_wp2_with (first
                | (go_at_call_of 158 bk; refine (rViewO_calls l _ bk nb (8 * n) 8 0 _ hl8 (unhide HI).size (owns_all (owns_all (unhide HG2) (unhide HBW)) (unhide HB3)) (unhide HNB) (LI_names (unhide HI)) h8n).mono ?_; rintro e w4 ⟨he, hb4⟩; rw [unhide HU] at he; subst he; have HI3 := hide ((unhide HI2).kept hb4); clear hb4)
                | (go_at_call_of 158 x; refine (rView_calls l _ x nx (8 * n) 8 0 _ hl8 (unhide HI).size (owns_all (unhide HG2) (unhide HBW)) (unhide HC) (LI_names (unhide HI)) h8n).mono ?_; rintro e w3 ⟨he, hb3⟩; rw [unhide HBN, unhide HT] at he; subst he; have HB3 := hide hb3; have hI2 := (unhide HI1).kept hb3; have y1 := hI2.read.2.1; have ce := ints_cell hI2.ks hnm; rw [unhide HKP, unhide HKN] at ce; have cb3 : w3.cell? ⟨b, 1, none⟩ = some (.slice (some ⟨g, 0, none⟩) l.length c) := (hb3.cell (p := ⟨b, 1, none⟩) hblr).trans cb; have HI2 := hide hI2; clear hI2 hb3))
              go_roundw
              case rel => exact ⟨n + 1, by omega, by go_num, by rw [partTo_skip (unhide HSC), partTo_skip (fun h => unhide HSC h.1)]; exact unhide HI3⟩
              case measure => simp [intOf]; omega
            · have tu : (T.toList == U.toList) = false := by rw [beq_eq_false_iff_ne]; exact fun e => hTU (by rw [ByteArray.toList_eq, ByteArray.toList_eq] at e; exact bytes_same e)
              have HSC : Hid (rebC l s nx nb n) := (unhide HCi n).2 ⟨unhide HKN, by rw [unhide HT, unhide HU]; exact hTU⟩
              by_cases hz : T = noughtsF 8
              · have tz : (T.toList == [0, 0, 0, 0, 0, 0, 0, 0]) = true := by rw [hz, ByteArray.toList_eq, show (noughtsF 8).data.toList = [0, 0, 0, 0, 0, 0, 0, 0] from rfl]; exact beq_self_eq_true _
                have HSD : Hid (¬ rebD l s nx nb n) := fun h => ((unhide HDi n).1 h).2 (by rw [unhide HT]; exact hz)
                have HKV : Hid (kN n = 255) := unhide HN255 n (by rw [unhide HT]; exact hz)
                clear hz hTU
                go_wp2_with (first
                  | (go_at_call_of 158 bk; refine (rViewO_calls l _ bk nb (8 * n) 8 0 _ hl8 (unhide HI).size (owns_all (owns_all (unhide HG2) (unhide HBW)) (unhide HB3)) (unhide HNB) (LI_names (unhide HI)) h8n).mono ?_; rintro e w4 ⟨he, hb4⟩; rw [unhide HU] at he; subst he; have hI3 := (unhide HI2).kept hb4; have z1 := hI3.read.2.1; have fz1 := hI3.ks.frozenAt n; have ce3 := ints_cell hI3.ks hnm; have HI4 := hide (hI3.setK n 255); clear hb4 hI3)
                  | (go_at_call_of 158 x; refine (rView_calls l _ x nx (8 * n) 8 0 _ hl8 (unhide HI).size (owns_all (unhide HG2) (unhide HBW)) (unhide HC) (LI_names (unhide HI)) h8n).mono ?_; rintro e w3 ⟨he, hb3⟩; rw [unhide HBN, unhide HT] at he; subst he; have HB3 := hide hb3; have hI2 := (unhide HI1).kept hb3; have y1 := hI2.read.2.1; have ce := ints_cell hI2.ks hnm; rw [unhide HKP, unhide HKN] at ce; have cb3 : w3.cell? ⟨b, 1, none⟩ = some (.slice (some ⟨g, 0, none⟩) l.length c) := (hb3.cell (p := ⟨b, 1, none⟩) hblr).trans cb; have HI2 := hide hI2; clear hI2 hb3))
                go_roundw
                case rel => exact ⟨n + 1, by omega, by go_num, by rw [partTo_set (unhide HSC), partTo_skip (unhide HSD), unhide HKV]; exact unhide HI4⟩
                case measure => simp [intOf]; omega
              · have tz : (T.toList == [0, 0, 0, 0, 0, 0, 0, 0]) = false := by rw [beq_eq_false_iff_ne]; exact fun e => hz (by rw [ByteArray.toList_eq] at e; exact bytes_same e)
                have HSD : Hid (rebD l s nx nb n) := (unhide HDi n).2 ⟨unhide HSC, by rw [unhide HT]; exact hz⟩
                have HKV : Hid (kN n = 1) := unhide HN1 n (by rw [unhide HT]; exact hz)
                clear hz hTU
                go_wp2_with (first
                  | (go_at_call_of 158 bk; refine (rViewO_calls l _ bk nb (8 * n) 8 0 _ hl8 (unhide HI).size (owns_all (owns_all (unhide HG2) (unhide HBW)) (unhide HB3)) (unhide HNB) (LI_names (unhide HI)) h8n).mono ?_; rintro e w4 ⟨he, hb4⟩; rw [unhide HU] at he; subst he; have hI3 := (unhide HI2).kept hb4; have z1 := hI3.read.2.1; have fz1 := hI3.ks.frozenAt n; have ce3 := ints_cell hI3.ks hnm; have hI4 := hI3.setK n 255; have z2 := hI4.read.2.1; have fz2 := hI4.ks.frozenAt n; have ce4 := ints_cell hI4.ks hnm; have hI5 := hI4.setK n 1; rw [List.set_set] at hI5; have z3 := hI5.read.2.2.1; have fz3 := hI5.bs.frozenAt n; have ce5 := texts_cell hI5.bs hnm; have HI6 := hide (hI5.setB n T); clear hb4 hI3 hI4 hI5)
                  | (go_at_call_of 158 x; refine (rView_calls l _ x nx (8 * n) 8 0 _ hl8 (unhide HI).size (owns_all (unhide HG2) (unhide HBW)) (unhide HC) (LI_names (unhide HI)) h8n).mono ?_; rintro e w3 ⟨he, hb3⟩; rw [unhide HBN, unhide HT] at he; subst he; have HB3 := hide hb3; have hI2 := (unhide HI1).kept hb3; have y1 := hI2.read.2.1; have ce := ints_cell hI2.ks hnm; rw [unhide HKP, unhide HKN] at ce; have cb3 : w3.cell? ⟨b, 1, none⟩ = some (.slice (some ⟨g, 0, none⟩) l.length c) := (hb3.cell (p := ⟨b, 1, none⟩) hblr).trans cb; have HI2 := hide hI2; clear hI2 hb3))
                go_roundw
                case rel => exact ⟨n + 1, by omega, by go_num, by rw [partTo_set (unhide HSC), partTo_set (unhide HSD), unhide HKV, unhide HT]; exact unhide HI6⟩
                case measure => simp [intOf]; omega
          · have kz : (kn == 0) = false := beq_eq_false_iff_ne.2 hk0
            have HSC : Hid (¬ rebC l s nx nb n) := fun h => hk0 ((unhide HKN).symm.trans ((unhide HCi n).1 h).1)
            go_wp2_with (go_at_call_of 158 x; refine (rView_calls l _ x nx (8 * n) 8 0 _ hl8 (unhide HI).size (owns_all (unhide HG2) (unhide HBW)) (unhide HC) (LI_names (unhide HI)) h8n).mono ?_; rintro e w3 ⟨he, hb3⟩; rw [unhide HBN, unhide HT] at he; subst he; have hI2 := (unhide HI1).kept hb3; have y1 := hI2.read.2.1; have ce := ints_cell hI2.ks hnm; rw [unhide HKP, unhide HKN] at ce; have HI2 := hide hI2; clear hI2 hb3)
            go_roundw
            case rel => exact ⟨n + 1, by omega, by go_num, by rw [partTo_skip (unhide HSC), partTo_skip (fun h => unhide HSC h.1)]; exact unhide HI2⟩
            case measure => simp [intOf]; omega
        · obtain rfl : n = m := by omega
          have hI2 : RIm w1 bk0 lo n K B w2.heap.size (some ⟨ge, 0, none⟩) (some ⟨gb, 0, none⟩) ec bc wr := by
            rw [partTo_full, partTo_full, unhide HK, unhide HB] at hI
            exact hI
          clear hI
          have x1 := hI2.read.2.1
          have x0 := hI2.read.1
          have fz0 := blk_frozen hI2.x 0
          have hI3 := hI2.setBk bk
          obtain ⟨y0, y1, y2, y3⟩ := hI3.read
          have hbb := (unhide HBS).trans (hI3.below.mono (unhide HBS).size)
          have hbl : b < (wr.setCell ⟨w2.heap.size, 0, none⟩ (.string bk)).heap.size := Nat.lt_of_lt_of_le hbl0 hbb.size
          have cb' : (wr.setCell ⟨w2.heap.size, 0, none⟩ (.string bk)).cell? ⟨b, 1, none⟩ = some (.slice (some ⟨g, 0, none⟩) l.length c) := blk_cell ((hbb.block b hbl0).trans (unhide HG1)) rfl
          have HI2 := hide hI3
          have HBB2 := hide hbb
          clear hI2 hI3 hbb hbw
          go_wp2_with fail
          go_region_with (first | (go_at_call 163; refine (rEncode_calls bk K B (some ⟨ge, 0, none⟩) (some ⟨gb, 0, none⟩) ec bc lo n w1.heap.size _ hbk8 hm30 (by exact (unhide HI2).ks) (by exact (unhide HI2).bs) (unhide HKB) (unhide HBB)).mono ?_; rintro e w4 ⟨rfl, hb4a⟩; have hb4 : Below (wr.setCell ⟨w2.heap.size, 0, none⟩ (.string bk)).heap.size (wr.setCell ⟨w2.heap.size, 0, none⟩ (.string bk)) w4 := ((Below.refl _ _).drew).trans hb4a; have cb4 : w4.cell? ⟨b, 1, none⟩ = some (.slice (some ⟨g, 0, none⟩) l.length c) := (hb4.cell (p := ⟨b, 1, none⟩) hbl).trans cb') | (go_at_call 162; refine (rwith_calls l _ x (encode bk K B) 0 _ hl8 (by exact owns_all (owns_all (unhide HG2) (unhide HBB2)) hb4)).mono ?_; rintro e w5 ⟨v5, rfl, hb5, ho5⟩) | (go_at_call 161; refine (rput_calls (Ov.withF l x (encode bk K B)) v5 (.slice (some ⟨g, 0, none⟩) l.length c) b room w4.heap.size _ hwl hroom (by exact make_blk (unhide HG1) (unhide HBB2) hb4 hb5) ho5 (unhide HWS)).mono ?_; intro e w6 hp6; obtain ⟨rfl, hleft⟩ := (unhide HR).put (make_below (unhide HBB2) hb4 hb5) (make_own ho5 (unhide HBB2) hb4) hp6))
          all_goals (go_wp2_with fail; go_ret; exact ⟨by rw [unhide HF]; rfl, by rw [unhide HF]; exact hleft⟩)

end Go.Proofs.YtomiepknmmpflaaGreatDoor

namespace Go.Proofs.YtomiepknmmpflaaGreatDoor
open Go.RowKit Go.Joins

set_option maxRecDepth 100000 in
set_option maxHeartbeats 1000000 in
theorem rRebase_bad1 (l : Ov.Files) (x bk : ByteArray) (b room : Nat) (w : World) (hi : Ov.LI room l) (h : RefRep w b room l) (hso : Ov.soundF l x ≠ 0) :
    Calls Tryz.prog 116 #[.pointer (some ⟨b, 0, none⟩), .string x, .string bk] w fun e w' => e = .returned (.int .i64 (rebaseF room l x bk).1) ∧ RefLeft w b room (rebaseF room l x bk).2 w' := by
  have HF : Hid (rebaseF room l x bk = (Ov.soundF l x, l)) := by unfold rebaseF; rw [if_pos hso]; exact rfl
  obtain ⟨q, hq⟩ : ∃ q, Ov.soundF l x = q := ⟨_, rfl⟩
  rw [hq] at HF hso
  have hqn : (q != 0) = true := by rw [bne_iff_ne]; exact hso
  have HQ := hide hq
  have HR := hide h
  have HI := hide hi
  clear h hi hq
  go_enter Tryz.func116, Tryz.ntmps116
  go_wp2_with (go_at_call 164; refine (rsound_calls l x b room _ (unhide HI) (unhide HR)).mono ?_; rintro e w1 ⟨he, hbs⟩; rw [unhide HQ] at he; subst he)
  go_ret
  exact ⟨by rw [unhide HF]; rfl, by rw [unhide HF]; exact (unhide HR).same hbs⟩

set_option maxRecDepth 100000 in
set_option maxHeartbeats 1000000 in
theorem rRebase_bad2 (l : Ov.Files) (x bk : ByteArray) (b room : Nat) (w : World) (hi : Ov.LI room l) (h : RefRep w b room l) (hso : Ov.soundF l x = 0) (hbkn : bk.size ≠ 0) (hsb : Ov.soundF l bk ≠ 0) :
    Calls Tryz.prog 116 #[.pointer (some ⟨b, 0, none⟩), .string x, .string bk] w fun e w' => e = .returned (.int .i64 (rebaseF room l x bk).1) ∧ RefLeft w b room (rebaseF room l x bk).2 w' := by
  have hbe := nonempty_of hbkn
  have HF : Hid (rebaseF room l x bk = (Ov.soundF l bk, l)) := by unfold rebaseF; rw [if_neg (by omega), if_pos ⟨hbkn, hsb⟩]; exact rfl
  obtain ⟨q, hq⟩ : ∃ q, Ov.soundF l bk = q := ⟨_, rfl⟩
  rw [hq] at HF hsb
  have hqn : (q != 0) = true := by rw [bne_iff_ne]; exact hsb
  have HQ := hide hso
  have HQB := hide hq
  have HR := hide h
  have HI := hide hi
  clear h hi hq hso hbkn
  go_enter Tryz.func116, Tryz.ntmps116
  go_wp2_with (first
    | (go_at_call_of 164 x; refine (rsound_calls l x b room _ (unhide HI) (unhide HR)).mono ?_; rintro e w8 ⟨he, hb8⟩; rw [unhide HQ] at he; subst he; have HB8 := hide hb8; clear hb8)
    | (go_at_call_of 164 bk; refine (rsound_calls l bk b room _ (unhide HI) ((unhide HR).kept (unhide HB8))).mono ?_; rintro e w9 ⟨he, hb9⟩; rw [unhide HQB] at he; subst he; have HB9 := hide ((unhide HB8).trans (hb9.mono (unhide HB8).size)); clear hb9))
  go_ret
  exact ⟨by rw [unhide HF]; rfl, by rw [unhide HF]; exact (unhide HR).same (unhide HB9)⟩

set_option maxRecDepth 100000 in
set_option maxHeartbeats 2000000 in
theorem rRebase_met (l : Ov.Files) (x bk : ByteArray) (b room : Nat) (w : World) (hi : Ov.LI room l) (h : RefRep w b room l) (hso : Ov.soundF l x = 0) (hbkn : bk.size ≠ 0) (hsb : Ov.soundF l bk = 0) (hmet : Ov.metB (overN l bk) x = true) :
    Calls Tryz.prog 116 #[.pointer (some ⟨b, 0, none⟩), .string x, .string bk] w fun e w' => e = .returned (.int .i64 (rebaseF room l x bk).1) ∧ RefLeft w b room (rebaseF room l x bk).2 w' := by
  have hbe := nonempty_of hbkn
  have hov : overN l bk = (Ov.downOf l bk).1 := by unfold overN; rw [if_neg hbkn]
  have HF : Hid (rebaseF room l x bk = (8, l)) := by unfold rebaseF; rw [if_neg (by omega), if_neg (fun h => h.2 hsb), if_pos hmet]; exact rfl
  have HQ := hide hso
  have HQB := hide hsb
  have HPB := hide (sound_here hsb).1
  obtain ⟨L, hL⟩ : ∃ L, (Ov.downOf l bk).1 = L := ⟨_, rfl⟩
  have HNL := hide hL
  have hL1 : 1 ≤ L.length := by
    have := (sound_here hsb).2
    rw [hL] at this
    cases L with
    | nil => exact this.elim
    | cons y L => simp
  have HLX : Hid (Ov.metB L x = true) := by rw [← hL, ← hov]; exact hmet
  have hL8 : L.length ≤ 8 := by have := Ov.down_length (l := l) l.length (seen := []) (x := bk); have h8 := hi.len; rw [show Ov.down l l.length [] bk = Ov.downOf l bk from rfl, hL] at this; simp at this; omega
  obtain ⟨v, g1, g2, g3⟩ := id h
  obtain ⟨g, c, rfl⟩ := ownsRow_form g2 (by have := (unhide HPB); omega)
  have hbl0 := blk_lt g1
  have HG1 := hide g1
  have HG2 := hide g2
  have HR := hide h
  have HI := hide hi
  have hl8 := hi.len
  clear hmet hbkn hsb hov hL h hi hso g1 g2 g3
  go_enter Tryz.func116, Tryz.ntmps116
  go_wp2_with (first
    | (go_at_call 165; refine (rDown_calls l _ bk 0 _ hl8 (owns_all (unhide HG2) (unhide HB9)) (unhide HI).size (unhide HPB)).mono ?_; rintro e w1 ⟨nv, he, hb3, ho3⟩; rw [unhide HNL] at ho3; obtain ⟨gn, cn, rfl⟩ := ownsRow_form ho3 (by omega); subst he; have HBS := hide ((unhide HB9).trans (hb3.mono (unhide HB9).size)); have HON := hide ho3; clear hb3 ho3)
    | (go_at_call_of 164 x; refine (rsound_calls l x b room _ (unhide HI) (unhide HR)).mono ?_; rintro e w8 ⟨he, hb8⟩; rw [unhide HQ] at he; subst he; have HB8 := hide hb8; clear hb8)
    | (go_at_call_of 164 bk; refine (rsound_calls l bk b room _ (unhide HI) ((unhide HR).kept (unhide HB8))).mono ?_; rintro e w9 ⟨he, hb9⟩; rw [unhide HQB] at he; subst he; have HB9 := hide ((unhide HB8).trans (hb9.mono (unhide HB8).size)); have cb9 : w9.cell? ⟨b, 1, none⟩ = some (.slice (some ⟨g, 0, none⟩) l.length c) := blk_cell (((unhide HB9).block b hbl0).trans (unhide HG1)) rfl; clear hb9))
  go_loopw [11] (fun i wr => ∃ j : Nat, j ≤ L.length ∧ i = .int .i64 (j : Nat) ∧ w1 = wr ∧ Hid (∀ k, k < j → L.getD k ⟨#[]⟩ ≠ x)) (fun i _ => L.length - (intOf i).toNat)
  case atStart => exact ⟨0, Nat.zero_le _, rfl, rfl, fun k hk => absurd hk (Nat.not_lt_zero k)⟩
  case round =>
    obtain ⟨j, hj, rfl, rfl, HN⟩ := hrel
    by_cases hlt : j < L.length
    · have cn1 := texts_cell (unhide HON) hlt
      obtain ⟨y, hy⟩ : ∃ y, L.getD j ⟨#[]⟩ = y := ⟨_, rfl⟩
      rw [hy] at cn1
      have HY := hide hy
      clear hy
      by_cases hne : y = x
      · subst hne
        have yx : (y.toList == y.toList) = true := beq_self_eq_true _
        go_wp2_with fail
        go_ret
        exact ⟨by rw [unhide HF]; rfl, by rw [unhide HF]; exact (unhide HR).same (unhide HBS)⟩
      · have yx : (y.toList == x.toList) = false := by rw [beq_eq_false_iff_ne]; exact fun e => hne (by rw [ByteArray.toList_eq, ByteArray.toList_eq] at e; exact bytes_same e)
        have HNE := hide hne
        clear hne
        go_wp2_with fail
        go_roundw
        case rel => exact ⟨j + 1, by omega, by go_num, by first | trivial | rfl, fun k hk => by
          by_cases e : k = j
          · subst e; rw [unhide HY]; exact unhide HNE
          · exact unhide HN k (by omega)⟩
        case measure => simp [intOf]; omega
    · exfalso
      have := unhide HLX
      rw [Ov.metB_no (fun k hk => unhide HN k (by omega))] at this
      cases this

theorem rRebase_calls (l : Ov.Files) (x bk : ByteArray) (b room : Nat) (w : World) (hi : Ov.LI room l) (h : RefRep w b room l) :
    Calls Tryz.prog 116 #[.pointer (some ⟨b, 0, none⟩), .string x, .string bk] w fun e w' => e = .returned (.int .i64 (rebaseF room l x bk).1) ∧ RefLeft w b room (rebaseF room l x bk).2 w' := by
  by_cases h1 : Ov.soundF l x = 0
  · by_cases h2 : bk.size = 0
    · exact rRebase_none l x bk b room w hi h h1 h2
    · by_cases h3 : Ov.soundF l bk = 0
      · cases h4 : Ov.metB (overN l bk) x with
        | true => exact rRebase_met l x bk b room w hi h h1 h2 h3 h4
        | false => exact rRebase_over l x bk b room w hi h h1 h2 h3 h4
      · exact rRebase_bad2 l x bk b room w hi h h1 h2 h3
  · exact rRebase_bad1 l x bk b room w hi h h1

end Go.Proofs.YtomiepknmmpflaaGreatDoor

namespace Go.Proofs.YtomiepknmmpflaaGreatDoor
open Go.RowKit Go.Joins

set_option maxRecDepth 100000 in
set_option maxHeartbeats 1000000 in
theorem rCommit_bad (l : Ov.Files) (x : ByteArray) (b room : Nat) (w : World) (hi : Ov.LI room l) (h : RefRep w b room l) (hso : Ov.soundF l x ≠ 0) :
    Calls Tryz.prog 115 #[.pointer (some ⟨b, 0, none⟩), .string x] w fun e w' => e = .returned (.int .i64 (commitF room l x).1) ∧ RefLeft w b room (commitF room l x).2 w' := by
  have HF : Hid (commitF room l x = (Ov.soundF l x, l)) := by unfold commitF; rw [if_pos hso]; exact rfl
  obtain ⟨q, hq⟩ : ∃ q, Ov.soundF l x = q := ⟨_, rfl⟩
  rw [hq] at HF hso
  have hqn : (q != 0) = true := by rw [bne_iff_ne]; exact hso
  have HQ := hide hq
  have HR := hide h
  have HI := hide hi
  clear h hi hq
  go_enter Tryz.func115, Tryz.ntmps115
  go_wp2_with (go_at_call 164; refine (rsound_calls l x b room _ (unhide HI) (unhide HR)).mono ?_; rintro e w1 ⟨he, hbs⟩; rw [unhide HQ] at he; subst he)
  go_ret
  exact ⟨by rw [unhide HF]; rfl, by rw [unhide HF]; exact (unhide HR).same hbs⟩

set_option maxRecDepth 100000 in
set_option maxHeartbeats 1000000 in
theorem rCommit_none (l : Ov.Files) (x : ByteArray) (b room : Nat) (w : World) (hi : Ov.LI room l) (h : RefRep w b room l) (hso : Ov.soundF l x = 0) (hb : (Ov.backing (fileOf l x)).size = 0) :
    Calls Tryz.prog 115 #[.pointer (some ⟨b, 0, none⟩), .string x] w fun e w' => e = .returned (.int .i64 (commitF room l x).1) ∧ RefLeft w b room (commitF room l x).2 w' := by
  have HF : Hid (commitF room l x = (8, l)) := by unfold commitF; rw [if_neg (by omega), if_pos hb]; exact rfl
  obtain ⟨hp, hc⟩ := sound_here hso
  have him := hc.image
  obtain ⟨s, hs⟩ : ∃ s, fileOf l x = s := ⟨_, rfl⟩
  rw [show Ov.fileAt l (Ov.place l x) = s from hs] at him
  obtain ⟨bk, hbk⟩ : ∃ bk, Ov.backing s = bk := ⟨_, rfl⟩
  rw [hs, hbk] at hb
  have hbe := isE_of hb
  have HP := hide hp
  have HS := hide hs
  have HIM := hide him
  have HBK := hide hbk
  have HQ := hide hso
  have HR := hide h
  have HI := hide hi
  clear h hi hso hp hc him hs hbk hb
  go_enter Tryz.func115, Tryz.ntmps115
  go_wp2_with (first
    | (go_at_call 159; refine (rimage_calls l x s b room _ (unhide HI) ((unhide HR).kept (unhide HBS)) (unhide HP) (by exact unhide HS) (unhide HIM)).mono ?_; rintro e w2 ⟨ea, ec, ba, bc, he, hb2, h2, h3⟩; rw [unhide HBK] at he; subst he; have HB2 := hide ((unhide HBS).trans (hb2.mono (unhide HBS).size)); clear hb2 h2 h3)
    | (go_at_call 164; refine (rsound_calls l x b room _ (unhide HI) (unhide HR)).mono ?_; rintro e w1 ⟨he, hbs⟩; rw [unhide HQ] at he; subst he; have HBS := hide hbs; clear hbs))
  go_ret
  exact ⟨by rw [unhide HF]; rfl, by rw [unhide HF]; exact (unhide HR).same ((unhide HB2).alloc (unhide HB2).size _)⟩

theorem chn_below {l : Ov.Files} {x s bk : ByteArray} {ns : List ByteArray} (h : Ov.Chn l ns x) (hs : Ov.fileAt l (Ov.place l x) = s) (hb : Ov.backing s = bk) (hk : bk.size ≠ 0) : ∃ ms, ns = x :: ms ∧ Ov.Chn l ms bk := by
  cases ns with
  | nil => exact h.elim
  | cons y ns =>
    obtain ⟨rfl, _, _, q⟩ := h
    rw [hs, hb] at q
    rcases q with ⟨q, _⟩ | ⟨_, q⟩
    · exact absurd q hk
    · exact ⟨ns, rfl, q⟩
section
variable {w W W' : World} {bx bz : ByteArray} {lx ly : Int} {m mk mb : Nat} {kx ky : List Int} {tx ty : List ByteArray} {X Y gx hx gy hy cx dx cy dy : Nat}
theorem Com.read (h : Com w bx bz lx ly m mk mb kx ky tx ty X Y gx hx gy hy cx dx cy dy W) : W.cell? ⟨X, 0, none⟩ = some (.string bx) ∧ W.cell? ⟨X, 1, none⟩ = some (.slice (some ⟨gx, 0, none⟩) m cx) ∧ W.cell? ⟨X, 2, none⟩ = some (.slice (some ⟨hx, 0, none⟩) m dx) ∧ W.cell? ⟨Y, 0, none⟩ = some (.string bz) ∧ W.cell? ⟨Y, 1, none⟩ = some (.slice (some ⟨gy, 0, none⟩) mk cy) ∧ W.cell? ⟨Y, 2, none⟩ = some (.slice (some ⟨hy, 0, none⟩) mb dy) :=
  ⟨h.x.read.1, h.x.read.2.1, h.x.read.2.2.1, blk_cell h.y.x rfl, blk_cell h.y.x rfl, blk_cell h.y.x rfl⟩
theorem Com.stillK (h : Com w bx bz lx ly m mk mb kx ky tx ty X Y gx hx gy hy cx dx cy dy W) (hg : W.grownBy W' (Value.slice (some ⟨gy, 0, none⟩) mk cy).ownBlock) : W'.cell? ⟨Y, 1, none⟩ = some (.slice (some ⟨gy, 0, none⟩) mk cy) ∧ W'.frozen? ⟨Y, 1, none⟩ = false := by
  have h3 : W'.heap[Y]? = _ := (hg.block Y (blk_lt h.y.x) (by simp [Value.ownBlock]; exact h.y.apart.1)).trans h.y.x
  exact ⟨blk_cell h3 rfl, blk_frozen h3 1⟩
theorem Com.stillB (h : Com w bx bz lx ly m mk mb kx ky tx ty X Y gx hx gy hy cx dx cy dy W) (hg : W.grownBy W' (Value.slice (some ⟨hy, 0, none⟩) mb dy).ownBlock) : W'.cell? ⟨Y, 2, none⟩ = some (.slice (some ⟨hy, 0, none⟩) mb dy) ∧ W'.frozen? ⟨Y, 2, none⟩ = false := by
  have h3 : W'.heap[Y]? = _ := (hg.block Y (blk_lt h.y.x) (by simp [Value.ownBlock]; exact h.y.apart.2.1)).trans h.y.x
  exact ⟨blk_cell h3 rfl, blk_frozen h3 2⟩
theorem row_where {g3 n3 c3 g n c : Nat} {W : World} (h : (Value.slice (some ⟨g3, 0, none⟩) n3 c3).ownBlock = (Value.slice (some ⟨g, 0, none⟩) n c).ownBlock ∨ (Value.slice (some ⟨g3, 0, none⟩) n3 c3).ownBlock = some W.heap.size) : g3 = g ∨ W.heap.size ≤ g3 := by
  simp only [Value.ownBlock, Option.some.injEq] at h
  rcases h with h | h
  · exact Or.inl h
  · exact Or.inr (by omega)
theorem Com.drew (h : Com w bx bz lx ly m mk mb kx ky tx ty X Y gx hx gy hy cx dx cy dy W) : Com w bx bz lx ly m mk mb kx ky tx ty X Y gx hx gy hy cx dx cy dy W.drew := h.kept ((Below.refl _ _).drew)
theorem Com.alloc (h : Com w bx bz lx ly m mk mb kx ky tx ty X Y gx hx gy hy cx dx cy dy W) (o : Obj) : Com w bx bz lx ly m mk mb kx ky tx ty X Y gx hx gy hy cx dx cy dy (W.alloc o) := h.kept (below_alloc1 W o)
end
theorem comKs_getD {s t : ByteArray} {n i : Nat} {d : Int} (h : i < max (Ov.many t) n) : (comKs s t n).getD i d = comK s t n i := by
  unfold comKs
  simp [List.getD_eq_getElem?_getD, List.getElem?_map, List.getElem?_range h]
theorem comBs_getD {s t : ByteArray} {n i : Nat} {d : ByteArray} (h : i < max (Ov.many t) n) : (comBs s t n).getD i d = comB s t n i := by
  unfold comBs
  simp [List.getD_eq_getElem?_getD, List.getElem?_map, List.getElem?_range h]
theorem comKs_bd {s t : ByteArray} {n i : Nat} (h : i < max (Ov.many t) n) : 0 ≤ (comKs s t n).getD i 0 ∧ (comKs s t n).getD i 0 ≤ 255 := by
  rw [comKs_getD h]
  have h1 := kOld_bd s i
  have h2 := kOld_bd t i
  unfold comK comEx
  split
  · exact h1
  · split
    · exact h2
    · split <;> omega
theorem comBs_bd {s t : ByteArray} {n i : Nat} (h : i < max (Ov.many t) n) : ((comBs s t n).getD i ⟨#[]⟩).size ≤ 8 := by
  rw [comBs_getD h]
  unfold comB
  split
  · exact bOld_size i
  · split
    · exact bOld_size i
    · exact Nat.zero_le _
theorem place_with {l : Ov.Files} {x y f : ByteArray} (h : Ov.place l y < l.length) : Ov.place (Ov.withF l x f) y < (Ov.withF l x f).length := by
  rw [Ov.place_mem] at h ⊢
  rw [Ov.withF_fst]
  split
  · exact h
  · exact List.mem_append_left _ h
theorem none_kinds (m : Nat) (old : Nat → Int) : partTo m old (fun _ => (0 : Int)) (fun _ => True) m = noKinds m := by
  unfold partTo noKinds
  refine List.ext_getElem (by simp) fun i h1 h2 => ?_
  simp at h1
  simp [h1]
theorem none_blocks (m : Nat) (old : Nat → ByteArray) : partTo m old (fun _ => (⟨#[]⟩ : ByteArray)) (fun _ => True) m = noBlocks m := by
  unfold partTo noBlocks
  refine List.ext_getElem (by simp) fun i h1 h2 => ?_
  simp at h1
  simp [h1]

end Go.Proofs.YtomiepknmmpflaaGreatDoor

