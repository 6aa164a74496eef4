/- The walk of the reference's Commit. -/
import Derived.Test.YtomiepknmmpflaaGreatDoorCWCommit
namespace Go.Proofs.YtomiepknmmpflaaGreatDoor
open Go.RowKit Go.Joins

set_option maxRecDepth 100000 in
set_option maxHeartbeats 8000000 in
theorem rCommit_go (l : Ov.Files) (x : ByteArray) (b room : Nat) (w : World) (hi : Ov.LI room l) (h : RefRep w b room l) (hso : Ov.soundF l x = 0) (hbn : (Ov.backing (fileOf l x)).size ≠ 0) :
    Calls Tryz.prog 115 #[.pointer (some ⟨b, 0, none⟩), .string x] w fun e w' => e = .returned (.int .i64 (commitF room l x).1) ∧ RefLeft w b room (commitF room l x).2 w' := by
  obtain ⟨hp, hc⟩ := sound_here hso
  have hm := hc.many_le
  have hbk8 := backing_size hc
  have him := hc.image
  obtain ⟨s, hs⟩ : ∃ s, fileOf l x = s := ⟨_, rfl⟩
  rw [show Ov.fileAt l (Ov.place l x) = s from hs] at him
  rw [hs] at hm hbk8 hbn
  obtain ⟨bk, hbk⟩ : ∃ bk, Ov.backing s = bk := ⟨_, rfl⟩
  rw [hbk] at hbk8 hbn
  obtain ⟨ms, _, hcb⟩ := chn_below hc hs hbk hbn
  have hpb := hcb.here
  have hmb := hcb.many_le
  have hbz8 := backing_size hcb
  have himb := hcb.image
  obtain ⟨t, ht⟩ : ∃ t, fileOf l bk = t := ⟨_, rfl⟩
  rw [show Ov.fileAt l (Ov.place l bk) = t from ht] at himb
  rw [ht] at hmb hbz8
  obtain ⟨bz, hbz⟩ : ∃ bz, Ov.backing t = bz := ⟨_, rfl⟩
  rw [hbz] at hbz8
  obtain ⟨m, hme⟩ : ∃ m, Ov.many s = m := ⟨_, rfl⟩
  obtain ⟨k, hke⟩ : ∃ k, Ov.many t = k := ⟨_, rfl⟩
  rw [hme] at hm
  rw [hke] at hmb
  obtain ⟨hm1, hm30⟩ := hm
  obtain ⟨hk1, hk30⟩ := hmb
  have HF : Hid (commitF room l x = Ov.putF room l (Ov.withF (Ov.withF l x (encode bk (noKinds m) (noBlocks m))) bk (encode bz (comKs s t m) (comBs s t m)))) := by
    unfold commitF
    rw [if_neg (by omega), hs, hbk, if_neg hbn, ht, hme, hbz]
    exact rfl
  have hbe := nonempty_of hbn
  have hKN : ∀ i, i < m → 0 ≤ (noKinds m).getD i 0 ∧ (noKinds m).getD i 0 ≤ 255 := fun i _ => by rw [noKinds_getD]; omega
  have hBN : ∀ i, i < m → ((noBlocks m).getD i ⟨#[]⟩).size ≤ 8 := fun i _ => by rw [noBlocks_getD]; exact Nat.zero_le _
  have hn30 : max k m ≤ 30 := by omega
  have hKC : ∀ i, i < max k m → 0 ≤ (comKs s t m).getD i 0 ∧ (comKs s t m).getD i 0 ≤ 255 := fun i hi => comKs_bd (by rw [hke]; exact hi)
  have hBC : ∀ i, i < max k m → ((comBs s t m).getD i ⟨#[]⟩).size ≤ 8 := fun i hi => comBs_bd (by rw [hke]; exact hi)
  obtain ⟨v, g1, g2, g3⟩ := id h
  obtain ⟨g, c, rfl⟩ := ownsRow_form g2 (by omega)
  have hl8 := hi.len
  have hex : (encode bk (noKinds m) (noBlocks m)).size ≤ 1000 := by
    have hln : (noKinds m).length = m := by simp [noKinds]
    have := encode_size bk (noKinds m) (noBlocks m) (fun j hj => hBN j (by omega))
    omega
  have hey : (encode bz (comKs s t m) (comBs s t m)).size ≤ 1000 := by
    have := encode_size bz (comKs s t m) (comBs s t m) (fun j hj => hBC j (by rw [comKs_length, hke] at hj; exact hj))
    rw [comKs_length, hke] at this; omega
  have hw1 : (Ov.withF l x (encode bk (noKinds m) (noBlocks m))).length = l.length := by rw [Ov.withF_length, if_pos hp]
  have hpb2 : Ov.place (Ov.withF l x (encode bk (noKinds m) (noBlocks m))) bk < (Ov.withF l x (encode bk (noKinds m) (noBlocks m))).length := place_with hpb
  have hw2 : (Ov.withF (Ov.withF l x (encode bk (noKinds m) (noBlocks m))) bk (encode bz (comKs s t m) (comBs s t m))).length ≤ 9 := by rw [Ov.withF_length, if_pos hpb2]; omega
  have HWS := hide (Ov.withF_size (x := bk) (b := encode bz (comKs s t m) (comBs s t m)) (Ov.withF_size (x := x) (b := encode bk (noKinds m) (noBlocks m)) hi.size hex) hey)
  have hroom := hi.room
  obtain ⟨lx, hlx⟩ : ∃ lx, Ov.lost s = lx := ⟨_, rfl⟩
  obtain ⟨ly, hly⟩ : ∃ ly, Ov.lost t = ly := ⟨_, rfl⟩
  have HR := hide h
  have HI := hide hi
  have HQ := hide hso
  have HP := hide hp
  have HPB := hide hpb
  have HS := hide hs
  have HT := hide ht
  have HIM := hide him
  have HIMB := hide himb
  have HBK := hide hbk
  have HBZ := hide hbz
  have HME := hide hme
  have HKE := hide hke
  have HLX := hide hlx
  have HLY := hide hly
  have HKN := hide hKN
  have HBN := hide hBN
  have HKC := hide hKC
  have HBC := hide hBC
  have HG1 := hide g1
  have HG2 := hide g2
  clear h hi hso hp hc hpb hcb him himb hs ht hbk hbz hme hke hlx hly hKN hBN hKC hBC g1 g2 g3 hex hey hbn hpb2
  obtain ⟨iI, hiI, hz0, hz1, hz2⟩ := info_parts (show (Tryz.prog.info? 3).map (fun i => (i.zero, i.size, i.bytes)) = some (some (.int .i64 0), 1, 8) by kernel_rfl)
  obtain ⟨iS, hiS, hs0, hs1, hs2⟩ := info_parts (show (Tryz.prog.info? 9).map (fun i => (i.zero, i.size, i.bytes)) = some (some (.string ⟨#[]⟩), 1, 16) by kernel_rfl)
  go_enter Tryz.func115, Tryz.ntmps115
  go_wp2_with (first
    | (go_at_call_of 159 bk; refine (rimage_calls l bk t b room _ (unhide HI) ((unhide HR).kept (unhide HB2)) (unhide HPB) (by exact unhide HT) (unhide HIMB)).mono ?_; rintro e w3 ⟨ea3, ec3, ba3, bc3, he, hb3, h2, h3⟩; rw [unhide HKE] at he h2 h3; rw [unhide HBZ, unhide HLY] at he; subst he; have HB3 := hide hb3; have H2y := hide h2; have H3y := hide h3; clear hb3 h2 h3)
    | (go_at_call_of 159 x; refine (rimage_calls l x s b room _ (unhide HI) ((unhide HR).kept (unhide HBS)) (unhide HP) (by exact unhide HS) (unhide HIM)).mono ?_; rintro e w2 ⟨ea2, ec2, ba2, bc2, he, hb2, h2, h3⟩; rw [unhide HME] at he h2 h3; rw [unhide HBK, unhide HLX] at he; subst he; have HB2 : Hid (Below w.heap.size w (w2.alloc (.cells #[.string bk, .slice ea2 m ec2, .slice ba2 m bc2, .int .i64 lx] 240))) := ((unhide HBS).trans (hb2.mono (unhide HBS).size)).alloc (Nat.le_trans (unhide HBS).size hb2.size) _; have HB2a := hide hb2; have H2 := hide h2; have H3 := hide h3; clear hb2 h2 h3)
    | (go_at_call 164; refine (rsound_calls l x b room _ (unhide HI) (unhide HR)).mono ?_; rintro e w1 ⟨he, hbs⟩; rw [unhide HQ] at he; subst he; have HBS := hide hbs; clear hbs))
  obtain ⟨gx, cx', hvx⟩ := ownsRow_form (unhide H2) (by omega)
  obtain ⟨rfl, rfl⟩ : ea2 = some ⟨gx, 0, none⟩ ∧ ec2 = cx' := (by simpa using hvx)
  clear hvx
  obtain ⟨hx, dx', hvx⟩ := ownsRow_form (unhide H3) (by omega)
  obtain ⟨rfl, rfl⟩ : ba2 = some ⟨hx, 0, none⟩ ∧ bc2 = dx' := (by simpa using hvx)
  clear hvx
  obtain ⟨gy0, cy', hvx⟩ := ownsRow_form (unhide H2y) (by omega)
  obtain ⟨rfl, rfl⟩ : ea3 = some ⟨gy0, 0, none⟩ ∧ ec3 = cy' := (by simpa using hvx)
  clear hvx
  obtain ⟨hy0, dy', hvx⟩ := ownsRow_form (unhide H3y) (by omega)
  obtain ⟨rfl, rfl⟩ : ba3 = some ⟨hy0, 0, none⟩ ∧ bc3 = dy' := (by simpa using hvx)
  clear hvx
  have him0 : Com w1 bk bz lx ly m k k ((List.range m).map (kOld s)) ((List.range k).map (kOld t)) ((List.range m).map (bOld s)) ((List.range k).map (bOld t)) w2.heap.size w3.heap.size gx hx gy0 hy0 ec2 bc2 ec3 bc3 (w3.alloc (.cells #[.string bz, .slice (some ⟨gy0, 0, none⟩) k ec3, .slice (some ⟨hy0, 0, none⟩) k bc3, .int .i64 ly] 240)) := by
    have z1 := (unhide HB3).size
    have z2 := ((unhide H2).lt gx rfl).2
    have z3 := ((unhide H2y).lt gy0 rfl).1
    have z4 := ((unhide H3).lt hx rfl).2
    have z5 := ((unhide H3y).lt hy0 rfl).1
    simp only [World.size_alloc] at z1 z3 z5
    exact ⟨((RIm.late (unhide HB2a) (by rw [← kinds_old]; exact unhide H2) (by rw [← blocks_old]; exact unhide H3)).kept (unhide HB3)).kept (below_alloc1 _ _),
      (RIm.since ((unhide HB2a).alloc (unhide HB2a).size _) (RIm.late (unhide HB3) (by rw [← kinds_old]; exact unhide H2y) (by rw [← blocks_old]; exact unhide H3y))).lower, by omega, by omega, by omega⟩
  have HIM0 := hide him0
  have hB3 : Below w.heap.size w w3 := (unhide HB2).trans ((unhide HB3).mono (unhide HB2).size)
  have HBW := hide hB3
  clear him0 H2 H3 H2y H3y hB3
  go_loopw [8] (fun i wr => ∃ n gy hy cy dy : Nat, n ≤ m ∧ i = .int .i64 (n : Nat) ∧ Com w1 bk bz lx ly m (max k n) (max k n) (partTo m (kOld s) (fun _ => (0 : Int)) (fun _ => True) n) (comKs s t n) (partTo m (bOld s) (fun _ => (⟨#[]⟩ : ByteArray)) (fun _ => True) n) (comBs s t n) w2.heap.size w3.heap.size gx hx gy hy ec2 bc2 cy dy wr) (fun i _ => m - (intOf i).toNat)
  case atStart => exact ⟨0, gy0, hy0, ec3, bc3, Nat.zero_le _, rfl, by rw [Nat.max_eq_left (Nat.zero_le _), partTo_zero, partTo_zero, comKs_zero, comBs_zero, unhide HKE]; exact unhide HIM0⟩
  case round =>
    obtain ⟨n, gy, hy, cy, dy, hn, rfl, hI⟩ := hrel
    by_cases hlt : n < m
    · have HSK : Hid (partTo m (kOld s) (fun _ => (0 : Int)) (fun _ => True) (n + 1) = (partTo m (kOld s) (fun _ => (0 : Int)) (fun _ => True) n).set n 0) := partTo_set trivial
      have HSB : Hid (partTo m (bOld s) (fun _ => (⟨#[]⟩ : ByteArray)) (fun _ => True) (n + 1) = (partTo m (bOld s) (fun _ => (⟨#[]⟩ : ByteArray)) (fun _ => True) n).set n ⟨#[]⟩) := partTo_set trivial
      have hKv : (partTo m (kOld s) (fun _ => (0 : Int)) (fun _ => True) n).getD n 0 = kOld s n := by rw [partTo_getD hlt, if_neg (fun q => Nat.lt_irrefl _ q.1)]
      have hBv : (partTo m (bOld s) (fun _ => (⟨#[]⟩ : ByteArray)) (fun _ => True) n).getD n ⟨#[]⟩ = bOld s n := by rw [partTo_getD hlt, if_neg (fun q => Nat.lt_irrefl _ q.1)]
      obtain ⟨kxs, hkxs⟩ : ∃ q, partTo m (kOld s) (fun _ => (0 : Int)) (fun _ => True) n = q := ⟨_, rfl⟩
      obtain ⟨txs, htxs⟩ : ∃ q, partTo m (bOld s) (fun _ => (⟨#[]⟩ : ByteArray)) (fun _ => True) n = q := ⟨_, rfl⟩
      rw [hkxs] at hKv HSK hI
      rw [htxs] at hBv HSB hI
      clear hkxs htxs
      obtain ⟨K, hK⟩ : ∃ K, kOld s n = K := ⟨_, rfl⟩
      obtain ⟨T, hT⟩ : ∃ T, bOld s n = T := ⟨_, rfl⟩
      rw [hK] at hKv
      rw [hT] at hBv
      by_cases hnk : n < k
      · have hne : ((n : Int) == (k : Int)) = false := beq_eq_false_iff_ne.2 (by omega)
        have HMX : Hid (max k (n + 1) = k) := by show _ = _; omega
        rw [show max k n = k by omega] at hI
        by_cases h0 : K = 0
        · subst h0
          have HCK := hide (comKs_keep (t := t) (by rw [unhide HKE]; exact hnk) hK)
          have HCB := hide (comBs_keep (t := t) (by rw [unhide HKE]; exact hnk) hK)
          have hI1 := hI.setKx n 0
          have hI2 := hI1.setBx n ⟨#[]⟩
          obtain ⟨x0, x1, x2, y0, y1, y2⟩ := hI.read
          obtain ⟨_, u1, u2, _⟩ := hI1.read
          have fz1 := hI.x.ks.frozenAt n
          have fz2 := hI1.x.bs.frozenAt n
          have ce := ints_cell hI.x.ks hlt
          have cb := texts_cell hI1.x.bs hlt
          rw [hKv] at ce
          have HI2 := hide hI2
          clear hI hI1 hI2 hKv hBv hK hT
          go_wp2_with fail
          go_roundw
          case rel => exact ⟨n + 1, gy, hy, cy, dy, by omega, by go_num, by rw [unhide HMX, unhide HCK, unhide HCB, unhide HSK, unhide HSB]; exact unhide HI2⟩
          case measure => simp [intOf]; omega
        · have hKn : (K != 0) = true := by rw [bne_iff_ne]; exact h0
          have HCK := hide (comKs_set (t := t) (by rw [unhide HKE]; exact hnk) (by rw [hK]; exact h0))
          have HCB := hide (comBs_set (t := t) (by rw [unhide HKE]; exact hnk) (by rw [hK]; exact h0))
          rw [hK] at HCK
          rw [hT] at HCB
          have hI1 := hI.setKy n K
          have hI3 := hI1.setBy n T
          have hI4 := hI3.setKx n 0
          have hI5 := hI4.setBx n ⟨#[]⟩
          obtain ⟨x0, x1, x2, y0, y1, y2⟩ := hI.read
          obtain ⟨_, c1, c2, _, d1, d2⟩ := hI1.read
          obtain ⟨_, e1, e2, _⟩ := hI3.read
          obtain ⟨_, f1, f2, _⟩ := hI4.read
          have ce := ints_cell hI.x.ks hlt
          have cf := ints_cell hI.y.ks hnk
          have ct2 := texts_cell hI1.x.bs hlt
          have cu2 := texts_cell hI1.y.bs hnk
          have ce3 := ints_cell hI3.x.ks hlt
          have ct4 := texts_cell hI4.x.bs hlt
          have z1 := hI.y.ks.frozenAt n
          have z2 := hI1.y.bs.frozenAt n
          have z3 := hI3.x.ks.frozenAt n
          have z4 := hI4.x.bs.frozenAt n
          rw [hKv] at ce ce3
          rw [hBv] at ct2
          have HI5 := hide hI5
          clear hI hI1 hI3 hI4 hI5 hKv hBv hK hT h0
          go_wp2_with fail
          go_region
          all_goals
            go_wp2_with fail
            go_region
          all_goals
            go_wp2_with fail
            go_roundw
            case rel => exact ⟨n + 1, gy, hy, cy, dy, by omega, by go_num, by rw [unhide HMX, unhide HCK, unhide HCB, unhide HSK, unhide HSB]; exact (unhide HI5).drew.drew⟩
            case measure => simp [intOf]; omega
      · have HMX : Hid (max k (n + 1) = n + 1) := by show _ = _; omega
        rw [show max k n = n by omega] at hI
        by_cases hbzz : bz.size = 0
        · have hze := isE_of hbzz
          have HEX : Hid (comEx t = 0) := by unfold comEx; rw [unhide HBZ, if_pos hbzz]; exact rfl
          clear hbzz
          by_cases h0 : K = 0
          · subst h0
            have HCK := hide (comKs_more (t := t) (by rw [unhide HKE]; omega) hK)
            have HCB := hide (comBs_more (t := t) (by rw [unhide HKE]; omega) hK)
            rw [unhide HEX] at HCK
            have ce := ints_cell hI.x.ks hlt
            rw [hKv] at ce
            obtain ⟨x0, x1, x2, y0, y1, y2⟩ := hI.read
            have HCM := hide hI
            have HKV := hide hKv
            clear hI hKv hBv hK hT
            go_wp2_with (first
              | (at_builtin; refine wpList_append_own_at _ rfl (.tmp 49) (.tmp 50) 30 rfl w1.heap.size 9 iS (.string ⟨#[]⟩) 1 16 Tryz.underlying30 hiS hs0 hs1 hs2 rfl (by decide) (.slice (some ⟨hy, 0, none⟩) n dy) n ((comBs s t n).map Value.string) rfl ((unhide HCA).alloc _).y.bs ⟨w4.heap.size, 0, none⟩ 1 1 [.string ⟨#[]⟩] rfl rfl (one_new (by simp)) (by intro u hu; simp at hu; subst hu; rfl) (by unfold maxLen; omega) (by omega) (by have := (unhide HCA).x.below.size; simp at this; simp; omega) ?_; intro v5 w5 ho5 hg5 _ hw5; obtain ⟨g5, c5, rfl⟩ := ownsRow_form ho5 (by omega); have hIb := ((unhide HCA).alloc (.cells #[.string ⟨#[]⟩] 9)).pushB hg5 ho5 (row_where hw5); obtain ⟨m2, n2⟩ := ((unhide HCA).alloc (.cells #[.string ⟨#[]⟩] 9)).stillB hg5; have hI1 := hIb.setKx n 0; have hI2 := hI1.setBx n ⟨#[]⟩; obtain ⟨_, s1, s2, _⟩ := hIb.read; obtain ⟨_, u1, u2, _⟩ := hI1.read; have fz1 := hIb.x.ks.frozenAt n; have fz2 := hI1.x.bs.frozenAt n; have ce2 := ints_cell hIb.x.ks hlt; rw [unhide HKV] at ce2; have cb := texts_cell hI1.x.bs hlt; have HI2 := hide hI2; clear hI1 hI2; have HCB2 := hide hIb; clear hIb ho5 hg5 hw5)
              | (at_builtin; refine wpList_append_own_at _ rfl (.tmp 43) (.tmp 45) 238 rfl w1.heap.size 3 iI (.int .i64 0) 1 8 Tryz.underlying238 hiI hz0 hz1 hz2 rfl (by decide) (.slice (some ⟨gy, 0, none⟩) n cy) n ((comKs s t n).map (Value.int .i64)) rfl ((unhide HCM).alloc _).y.ks ⟨wr.heap.size, 0, none⟩ 1 1 [.int .i64 0] rfl rfl (one_new (by simp)) (by intro u hu; simp at hu; subst hu; rfl) (by unfold maxLen; omega) (by omega) (by have := (unhide HCM).x.below.size; simp; omega) ?_; intro v4 w4 ho4 hg4 _ hw4; obtain ⟨g4, c4, rfl⟩ := ownsRow_form ho4 (by omega); have hIa := ((unhide HCM).alloc (.cells #[.int .i64 0] 3)).pushK hg4 ho4 (row_where hw4); obtain ⟨m1, n1⟩ := ((unhide HCM).alloc (.cells #[.int .i64 0] 3)).stillK hg4; obtain ⟨_, _, _, _, _, r2⟩ := hIa.read; have HCA := hide hIa; clear hIa ho4 hg4 hw4))
            go_roundw
            case rel => exact ⟨n + 1, g4, g5, c4, c5, by omega, by go_num, by rw [unhide HMX, unhide HCK, unhide HCB, unhide HSK, unhide HSB]; exact unhide HI2⟩
            case measure => simp [intOf]; omega
          · have hKn : (K != 0) = true := by rw [bne_iff_ne]; exact h0
            have HCK := hide (comKs_moreset (s := s) (n := n) (t := t) (by rw [unhide HKE]; omega) (by rw [hK]; exact h0))
            have HCB := hide (comBs_moreset (s := s) (n := n) (t := t) (by rw [unhide HKE]; omega) (by rw [hK]; exact h0))
            rw [hK, unhide HEX] at HCK
            rw [hT] at HCB
            obtain ⟨x0, x1, x2, y0, y1, y2⟩ := hI.read
            have HCM := hide hI
            have HKV := hide hKv
            have HBV := hide hBv
            clear hI hKv hBv hK hT h0
            go_wp2_with (first
              | (at_builtin; refine wpList_append_own_at _ rfl (.tmp 49) (.tmp 50) 30 rfl w1.heap.size 9 iS (.string ⟨#[]⟩) 1 16 Tryz.underlying30 hiS hs0 hs1 hs2 rfl (by decide) (.slice (some ⟨hy, 0, none⟩) n dy) n ((comBs s t n).map Value.string) rfl ((unhide HCA).alloc _).y.bs ⟨w4.heap.size, 0, none⟩ 1 1 [.string ⟨#[]⟩] rfl rfl (one_new (by simp)) (by intro u hu; simp at hu; subst hu; rfl) (by unfold maxLen; omega) (by omega) (by have := (unhide HCA).x.below.size; simp at this; simp; omega) ?_; intro v5 w5 ho5 hg5 _ hw5; obtain ⟨g5, c5, rfl⟩ := ownsRow_form ho5 (by omega); have hIb := ((unhide HCA).alloc (.cells #[.string ⟨#[]⟩] 9)).pushB hg5 ho5 (row_where hw5); obtain ⟨m2, n2⟩ := ((unhide HCA).alloc (.cells #[.string ⟨#[]⟩] 9)).stillB hg5; have hI1 := hIb.setKy n K; have hI3 := hI1.setBy n T; have hI4 := hI3.setKx n 0; have hI5 := hI4.setBx n ⟨#[]⟩; obtain ⟨_, s1, s2, _, t1, t2⟩ := hIb.read; obtain ⟨_, p1, p2, _, d1, d2⟩ := hI1.read; obtain ⟨_, e1, e2, _⟩ := hI3.read; obtain ⟨_, f1, f2, _⟩ := hI4.read; have ce := ints_cell hIb.x.ks hlt; have cf := ints_cell hIb.y.ks (Nat.lt_succ_self n); have ct2 := texts_cell hI1.x.bs hlt; have cu2 := texts_cell hI1.y.bs (Nat.lt_succ_self n); have ce3 := ints_cell hI3.x.ks hlt; have ct4 := texts_cell hI4.x.bs hlt; have z1 := hIb.y.ks.frozenAt n; have z2 := hI1.y.bs.frozenAt n; have z3 := hI3.x.ks.frozenAt n; have z4 := hI4.x.bs.frozenAt n; rw [unhide HKV] at ce ce3; rw [unhide HBV] at ct2; have HI5 := hide hI5; clear hI1 hI3 hI4 hI5; have HCB2 := hide hIb; clear hIb ho5 hg5 hw5)
              | (at_builtin; refine wpList_append_own_at _ rfl (.tmp 43) (.tmp 45) 238 rfl w1.heap.size 3 iI (.int .i64 0) 1 8 Tryz.underlying238 hiI hz0 hz1 hz2 rfl (by decide) (.slice (some ⟨gy, 0, none⟩) n cy) n ((comKs s t n).map (Value.int .i64)) rfl ((unhide HCM).alloc _).y.ks ⟨wr.heap.size, 0, none⟩ 1 1 [.int .i64 0] rfl rfl (one_new (by simp)) (by intro u hu; simp at hu; subst hu; rfl) (by unfold maxLen; omega) (by omega) (by have := (unhide HCM).x.below.size; simp; omega) ?_; intro v4 w4 ho4 hg4 _ hw4; obtain ⟨g4, c4, rfl⟩ := ownsRow_form ho4 (by omega); have hIa := ((unhide HCM).alloc (.cells #[.int .i64 0] 3)).pushK hg4 ho4 (row_where hw4); obtain ⟨m1, n1⟩ := ((unhide HCM).alloc (.cells #[.int .i64 0] 3)).stillK hg4; obtain ⟨_, _, _, _, _, r2⟩ := hIa.read; have HCA := hide hIa; clear hIa ho4 hg4 hw4))
            go_region
            all_goals
              go_wp2_with fail
              go_region
            all_goals
              go_wp2_with fail
              go_roundw
              case rel => exact ⟨n + 1, g4, g5, c4, c5, by omega, by go_num, by rw [unhide HMX, unhide HCK, unhide HCB, unhide HSK, unhide HSB]; exact (unhide HI5).drew.drew⟩
              case measure => simp [intOf]; omega
        · have hze := nonempty_of hbzz
          have HEX : Hid (comEx t = 255) := by unfold comEx; rw [unhide HBZ, if_neg hbzz]; exact rfl
          clear hbzz
          by_cases h0 : K = 0
          · subst h0
            have HCK := hide (comKs_more (t := t) (by rw [unhide HKE]; omega) hK)
            have HCB := hide (comBs_more (t := t) (by rw [unhide HKE]; omega) hK)
            rw [unhide HEX] at HCK
            have ce := ints_cell hI.x.ks hlt
            rw [hKv] at ce
            obtain ⟨x0, x1, x2, y0, y1, y2⟩ := hI.read
            have HCM := hide hI
            have HKV := hide hKv
            clear hI hKv hBv hK hT
            go_wp2_with (first
              | (at_builtin; refine wpList_append_own_at _ rfl (.tmp 49) (.tmp 50) 30 rfl w1.heap.size 9 iS (.string ⟨#[]⟩) 1 16 Tryz.underlying30 hiS hs0 hs1 hs2 rfl (by decide) (.slice (some ⟨hy, 0, none⟩) n dy) n ((comBs s t n).map Value.string) rfl ((unhide HCA).alloc _).y.bs ⟨w4.heap.size, 0, none⟩ 1 1 [.string ⟨#[]⟩] rfl rfl (one_new (by simp)) (by intro u hu; simp at hu; subst hu; rfl) (by unfold maxLen; omega) (by omega) (by have := (unhide HCA).x.below.size; simp at this; simp; omega) ?_; intro v5 w5 ho5 hg5 _ hw5; obtain ⟨g5, c5, rfl⟩ := ownsRow_form ho5 (by omega); have hIb := ((unhide HCA).alloc (.cells #[.string ⟨#[]⟩] 9)).pushB hg5 ho5 (row_where hw5); obtain ⟨m2, n2⟩ := ((unhide HCA).alloc (.cells #[.string ⟨#[]⟩] 9)).stillB hg5; have hI1 := hIb.setKx n 0; have hI2 := hI1.setBx n ⟨#[]⟩; obtain ⟨_, s1, s2, _⟩ := hIb.read; obtain ⟨_, u1, u2, _⟩ := hI1.read; have fz1 := hIb.x.ks.frozenAt n; have fz2 := hI1.x.bs.frozenAt n; have ce2 := ints_cell hIb.x.ks hlt; rw [unhide HKV] at ce2; have cb := texts_cell hI1.x.bs hlt; have HI2 := hide hI2; clear hI1 hI2; have HCB2 := hide hIb; clear hIb ho5 hg5 hw5)
              | (at_builtin; refine wpList_append_own_at _ rfl (.tmp 43) (.tmp 45) 238 rfl w1.heap.size 3 iI (.int .i64 0) 1 8 Tryz.underlying238 hiI hz0 hz1 hz2 rfl (by decide) (.slice (some ⟨gy, 0, none⟩) n cy) n ((comKs s t n).map (Value.int .i64)) rfl ((unhide HCM).alloc _).y.ks ⟨wr.heap.size, 0, none⟩ 1 1 [.int .i64 255] rfl rfl (one_new (by simp)) (by intro u hu; simp at hu; subst hu; rfl) (by unfold maxLen; omega) (by omega) (by have := (unhide HCM).x.below.size; simp; omega) ?_; intro v4 w4 ho4 hg4 _ hw4; obtain ⟨g4, c4, rfl⟩ := ownsRow_form ho4 (by omega); have hIa := ((unhide HCM).alloc (.cells #[.int .i64 255] 3)).pushK hg4 ho4 (row_where hw4); obtain ⟨m1, n1⟩ := ((unhide HCM).alloc (.cells #[.int .i64 255] 3)).stillK hg4; obtain ⟨_, _, _, _, _, r2⟩ := hIa.read; have HCA := hide hIa; clear hIa ho4 hg4 hw4))
            go_roundw
            case rel => exact ⟨n + 1, g4, g5, c4, c5, by omega, by go_num, by rw [unhide HMX, unhide HCK, unhide HCB, unhide HSK, unhide HSB]; exact unhide HI2⟩
            case measure => simp [intOf]; omega
          · have hKn : (K != 0) = true := by rw [bne_iff_ne]; exact h0
            have HCK := hide (comKs_moreset (s := s) (n := n) (t := t) (by rw [unhide HKE]; omega) (by rw [hK]; exact h0))
            have HCB := hide (comBs_moreset (s := s) (n := n) (t := t) (by rw [unhide HKE]; omega) (by rw [hK]; exact h0))
            rw [hK, unhide HEX] at HCK
            rw [hT] at HCB
            obtain ⟨x0, x1, x2, y0, y1, y2⟩ := hI.read
            have HCM := hide hI
            have HKV := hide hKv
            have HBV := hide hBv
            clear hI hKv hBv hK hT h0
            go_wp2_with (first
              | (at_builtin; refine wpList_append_own_at _ rfl (.tmp 49) (.tmp 50) 30 rfl w1.heap.size 9 iS (.string ⟨#[]⟩) 1 16 Tryz.underlying30 hiS hs0 hs1 hs2 rfl (by decide) (.slice (some ⟨hy, 0, none⟩) n dy) n ((comBs s t n).map Value.string) rfl ((unhide HCA).alloc _).y.bs ⟨w4.heap.size, 0, none⟩ 1 1 [.string ⟨#[]⟩] rfl rfl (one_new (by simp)) (by intro u hu; simp at hu; subst hu; rfl) (by unfold maxLen; omega) (by omega) (by have := (unhide HCA).x.below.size; simp at this; simp; omega) ?_; intro v5 w5 ho5 hg5 _ hw5; obtain ⟨g5, c5, rfl⟩ := ownsRow_form ho5 (by omega); have hIb := ((unhide HCA).alloc (.cells #[.string ⟨#[]⟩] 9)).pushB hg5 ho5 (row_where hw5); obtain ⟨m2, n2⟩ := ((unhide HCA).alloc (.cells #[.string ⟨#[]⟩] 9)).stillB hg5; have hI1 := hIb.setKy n K; have hI3 := hI1.setBy n T; have hI4 := hI3.setKx n 0; have hI5 := hI4.setBx n ⟨#[]⟩; obtain ⟨_, s1, s2, _, t1, t2⟩ := hIb.read; obtain ⟨_, p1, p2, _, d1, d2⟩ := hI1.read; obtain ⟨_, e1, e2, _⟩ := hI3.read; obtain ⟨_, f1, f2, _⟩ := hI4.read; have ce := ints_cell hIb.x.ks hlt; have cf := ints_cell hIb.y.ks (Nat.lt_succ_self n); have ct2 := texts_cell hI1.x.bs hlt; have cu2 := texts_cell hI1.y.bs (Nat.lt_succ_self n); have ce3 := ints_cell hI3.x.ks hlt; have ct4 := texts_cell hI4.x.bs hlt; have z1 := hIb.y.ks.frozenAt n; have z2 := hI1.y.bs.frozenAt n; have z3 := hI3.x.ks.frozenAt n; have z4 := hI4.x.bs.frozenAt n; rw [unhide HKV] at ce ce3; rw [unhide HBV] at ct2; have HI5 := hide hI5; clear hI1 hI3 hI4 hI5; have HCB2 := hide hIb; clear hIb ho5 hg5 hw5)
              | (at_builtin; refine wpList_append_own_at _ rfl (.tmp 43) (.tmp 45) 238 rfl w1.heap.size 3 iI (.int .i64 0) 1 8 Tryz.underlying238 hiI hz0 hz1 hz2 rfl (by decide) (.slice (some ⟨gy, 0, none⟩) n cy) n ((comKs s t n).map (Value.int .i64)) rfl ((unhide HCM).alloc _).y.ks ⟨wr.heap.size, 0, none⟩ 1 1 [.int .i64 255] rfl rfl (one_new (by simp)) (by intro u hu; simp at hu; subst hu; rfl) (by unfold maxLen; omega) (by omega) (by have := (unhide HCM).x.below.size; simp; omega) ?_; intro v4 w4 ho4 hg4 _ hw4; obtain ⟨g4, c4, rfl⟩ := ownsRow_form ho4 (by omega); have hIa := ((unhide HCM).alloc (.cells #[.int .i64 255] 3)).pushK hg4 ho4 (row_where hw4); obtain ⟨m1, n1⟩ := ((unhide HCM).alloc (.cells #[.int .i64 255] 3)).stillK hg4; obtain ⟨_, _, _, _, _, r2⟩ := hIa.read; have HCA := hide hIa; clear hIa ho4 hg4 hw4))
            go_region
            all_goals
              go_wp2_with fail
              go_region
            all_goals
              go_wp2_with fail
              go_roundw
              case rel => exact ⟨n + 1, g4, g5, c4, c5, by omega, by go_num, by rw [unhide HMX, unhide HCK, unhide HCB, unhide HSK, unhide HSB]; exact (unhide HI5).drew.drew⟩
              case measure => simp [intOf]; omega
    · obtain rfl : n = m := by omega
      rw [none_kinds, none_blocks] at hI
      obtain ⟨x0, x1, x2, y0, y1, y2⟩ := hI.read
      have x3 := hI.x.read.2.2.2
      have y3 : wr.cell? ⟨w3.heap.size, 3, none⟩ = some (.int .i64 ly) := blk_cell hI.y.x rfl
      have hbb := (unhide HBS).trans (hI.x.below.mono (unhide HBS).size)
      have hbl : b < wr.heap.size := Nat.lt_of_lt_of_le (blk_lt (unhide HG1)) hbb.size
      have cb : wr.cell? ⟨b, 1, none⟩ = some (.slice (some ⟨g, 0, none⟩) l.length c) := blk_cell ((hbb.block b (blk_lt (unhide HG1))).trans (unhide HG1)) rfl
      have HI2 := hide hI
      have HBB2 := hide hbb
      clear hI hbb
      obtain ⟨ex, hex⟩ : ∃ ex, encode bk (noKinds n) (noBlocks n) = ex := ⟨_, rfl⟩
      obtain ⟨ey, hey⟩ : ∃ ey, encode bz (comKs s t n) (comBs s t n) = ey := ⟨_, rfl⟩
      rw [hex] at hw1 HF HWS hw2
      rw [hey] at HF HWS hw2
      have hw8 : (Ov.withF l x ex).length ≤ 8 := by omega
      have HEX := hide hex
      have HEY := hide hey
      clear hex hey hw1
      go_wp2_with fail
      go_region_with (first
        | (go_at_call 162; refine (rwith_calls l _ x ex 0 _ hl8 (by exact owns_all (owns_all (unhide HG2) (unhide HBB2)) hb4)).mono ?_; rintro e w5 ⟨v5, rfl, hb5, ho5⟩; have hI5 := ((unhide HI2).kept hb4).kept hb5; obtain ⟨p0, _, _, q0, q1, q2⟩ := hI5.read; have q3 : w5.cell? ⟨w3.heap.size, 3, none⟩ = some (.int .i64 ly) := blk_cell hI5.y.x rfl; have HI5 := hide hI5; have HB4 : Hid (Below wr.heap.size wr w4) := hb4; have HB5 : Hid (Below w.heap.size w w5) := make_below (unhide HBB2) hb4 hb5; have HO5 := hide ho5; obtain ⟨a5, c5, rfl⟩ := owns_slice ho5; clear hI5 hb5 ho5 hb4)
        | (go_at_call 163; refine (rEncode_calls bk (noKinds n) (noBlocks n) (some ⟨gx, 0, none⟩) (some ⟨hx, 0, none⟩) ec2 bc2 lx n w1.heap.size _ hbk8 hm30 (by exact (unhide HI2).x.ks) (by exact (unhide HI2).x.bs) (unhide HKN) (unhide HBN)).mono ?_; rintro e w4 ⟨he, hb4a⟩; rw [unhide HEX] at he; subst he; have hb4 : Below wr.heap.size wr w4 := ((Below.refl wr.heap.size wr).drew).trans hb4a; have cb4 : w4.cell? ⟨b, 1, none⟩ = some (.slice (some ⟨g, 0, none⟩) l.length c) := (hb4.cell (p := ⟨b, 1, none⟩) hbl).trans cb; clear hb4a))
      all_goals
        go_wp2_with fail
        go_region_with (first
          | (go_at_call 162; refine (rwith_calls (Ov.withF l x ex) _ bk ey w.heap.size _ hw8 (by exact unhide HO6)).mono ?_; rintro e w7 ⟨v7, rfl, hb7, ho7⟩; have HB7 : Hid (Below w.heap.size w w7) := (unhide HB6).trans (hb7.mono (unhide HB6).size); have HO7 : Hid (OwnsFiles w7 w.heap.size v7 (Ov.withF (Ov.withF l x ex) bk ey)) := ownsRow_le ho7 (unhide HB6).size; obtain ⟨a7, c7, rfl⟩ := owns_slice ho7; clear hb7 ho7)
          | (go_at_call 163; refine (rEncode_calls bz (comKs s t n) (comBs s t n) (some ⟨gy, 0, none⟩) (some ⟨hy, 0, none⟩) cy dy ly (max k n) w1.heap.size _ hbz8 hn30 (by exact (unhide HI5).y.ks) (by exact (unhide HI5).y.bs) (unhide HKC) (unhide HBC)).mono ?_; rintro e w6 ⟨he, hb6a⟩; rw [unhide HEY] at he; subst he; have hb6 : Below w5.heap.size w5 w6 := ((Below.refl w5.heap.size w5).drew).trans hb6a; have HB6 : Hid (Below w.heap.size w w6) := (unhide HB5).trans (hb6.mono (unhide HB5).size); have HO6 : Hid (OwnsFiles w6 w.heap.size (.slice a5 (Ov.withF l x ex).length c5) (Ov.withF l x ex)) := ownsRow_le (owns_all (unhide HO5) hb6) (by have := (unhide HBB2).size; have := (unhide HB4).size; omega); have p0b : w6.cell? ⟨w2.heap.size, 0, none⟩ = some (.string bk) := ((unhide HI5).kept hb6).read.1; clear hb6a hb6))
      all_goals
        go_wp2_with (go_at_call 161; refine (rput_calls (Ov.withF (Ov.withF l x ex) bk ey) _ (.slice (some ⟨g, 0, none⟩) l.length c) b room w.heap.size _ hw2 hroom (by exact ((unhide HB7).block b (blk_lt (unhide HG1))).trans (unhide HG1)) (unhide HO7) (unhide HWS)).mono ?_; intro e w8 hp8; obtain ⟨rfl, hleft⟩ := (unhide HR).put (unhide HB7) (unhide HO7) hp8)
        go_ret
        exact ⟨by rw [unhide HF]; rfl, by rw [unhide HF]; exact hleft⟩

theorem rCommit_calls (l : Ov.Files) (x : ByteArray) (b room : Nat) (w : World) (hi : Ov.LI room l) (h : RefRep w b room l) :
    Calls Tryz.prog 115 #[.pointer (some ⟨b, 0, none⟩), .string x] w fun e w' => e = .returned (.int .i64 (commitF room l x).1) ∧ RefLeft w b room (commitF room l x).2 w' := by
  by_cases h1 : Ov.soundF l x = 0
  · by_cases h2 : (Ov.backing (fileOf l x)).size = 0
    · exact rCommit_none l x b room w hi h h1 h2
    · exact rCommit_go l x b room w hi h h1 h2
  · exact rCommit_bad l x b room w hi h h1

end Go.Proofs.YtomiepknmmpflaaGreatDoor

