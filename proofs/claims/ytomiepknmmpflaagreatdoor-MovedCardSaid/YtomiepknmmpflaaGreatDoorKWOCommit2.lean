/- The program's Commit: two files are written. -/
import Derived.Test.YtomiepknmmpflaaGreatDoorKWORebase
namespace Go.Proofs.YtomiepknmmpflaaGreatDoor
open Go.RowKit Go.Joins

open Go.MuLone in
set_option maxRecDepth 100000 in
set_option maxHeartbeats 4000000 in
theorem oCommit_go (l : Ov.Files) (x : ByteArray) (b B : Nat) (r : Option Nat) (room : Nat) (s0 s1 s2 s3 : Addr) (w : World) (hi : Ov.LI room l) (h : OvRep w b r room l) (hs : Sents w B s0 s1 s2 s3) (hB : B ≤ b) (hso : Ov.soundF l x = 0) (hbn : (Ov.backing (fileOf l x)).size ≠ 0) :
    Calls Tryz.prog 23 #[.pointer (some ⟨b, 0, none⟩), .string x] w fun e w' => e = .returned (.int .i64 (commitF room l x).1) ∧ OvLeft w b r room (commitF room l x).2 w' := by
  obtain ⟨v, h1, h2, h3, h4⟩ := id h
  have HR := hide h
  have c0 : w.cell? ⟨b, 0, none⟩ = some (.int .i32 0) := blk_cell h1 rfl
  have f0 := blk_frozen h1 0
  have hbl := blk_lt h1
  have HB0 := hide h1
  have HB := hide (blk_set_same (i := 0) h1 (.int .i32 1))
  have HO := hide (owns_set h2 h3 (a := ⟨b, 0, none⟩) (.int .i32 1))
  have H4 := hide h4
  have HI := hide hi
  have HC : Hid (ChainAt (w.setCell ⟨b, 0, none⟩ (.int .i32 1)) b B r room l s0 s1 s2 s3) := ⟨h.lock, hi, hs.kept ((Below.refl B w).setCell (p := ⟨b, 0, none⟩) hB (.int .i32 1))⟩
  obtain ⟨hp, hc⟩ := sound_here hso
  have hd0 : (Ov.downOf l x).2.1 = 0 := by unfold Ov.soundF at hso; rwa [if_pos hp] at hso
  have HCA := hide (oopenChain_yes x _ b B r room l s0 s1 s2 s3 (unhide HC) hp hd0)
  have hm := hc.many_le
  have hbk8 := backing_size hc
  have him := hc.image
  obtain ⟨s, hse⟩ : ∃ s, fOf l x = s := ⟨_, rfl⟩
  rw [show Ov.fileAt l (Ov.place l x) = s from hse] at him
  rw [show fileOf l x = s from hse] at hm hbk8 hbn
  obtain ⟨m, hme⟩ : ∃ m, Ov.many s = m := ⟨_, rfl⟩
  obtain ⟨bk, hbk⟩ : ∃ bk, Ov.backing s = bk := ⟨_, rfl⟩
  obtain ⟨t, ht⟩ : ∃ t, Ov.lost s = t := ⟨_, rfl⟩
  rw [hme] at hm
  obtain ⟨hm1, hm30⟩ := hm
  rw [hbk] at hbk8 hbn
  obtain ⟨ms, hms, hcb⟩ := chn_below hc hse hbk hbn
  have hpb := hcb.here
  have hxb : x ≠ bk := by rw [hms] at hc; exact chn_ne hc hcb
  have hmb := hcb.many_le
  have hbz8 := backing_size hcb
  have himb := hcb.image
  obtain ⟨u, hue⟩ : ∃ u, fOf l bk = u := ⟨_, rfl⟩
  rw [show Ov.fileAt l (Ov.place l bk) = u from hue] at himb
  rw [show fileOf l bk = u from hue] at hmb hbz8
  obtain ⟨k, hke⟩ : ∃ k, Ov.many u = k := ⟨_, rfl⟩
  obtain ⟨bz, hbz⟩ : ∃ bz, Ov.backing u = bz := ⟨_, rfl⟩
  obtain ⟨t2, ht2⟩ : ∃ t2, Ov.lost u = t2 := ⟨_, rfl⟩
  rw [hke] at hmb
  obtain ⟨hk1, hk30⟩ := hmb
  rw [hbz] at hbz8
  have HF : Hid (commitF room l x = Ov.putF room l (Ov.withF (Ov.withF l bk (encode bz (comKs s u m) (comBs s u m))) x (encode bk (noKinds m) (noBlocks m)))) := by
    unfold commitF
    rw [if_neg (by omega), show fileOf l x = s from hse, hbk, if_neg hbn, show fileOf l bk = u from hue, hme, hbz, withF_comm hp hpb hxb]
    exact rfl
  have HSY : Hid (Says (max k m) (takQ m (qOf s) (growQ bz k (qOf u))) (takD m (qOf s) (dOf s) (growD k (dOf u))) (comKs s u m) (comBs s u m)) := by
    have := says_commit him himb hme hke
    rw [hbz] at this; exact this
  have hex : (encode bk (noKinds m) (noBlocks m)).size ≤ 1000 := by
    have hln : (noKinds m).length = m := by simp [noKinds]
    have := encode_size bk (noKinds m) (noBlocks m) (fun j hj => by rw [noBlocks_getD]; exact Nat.zero_le _)
    omega
  have hey : (encode bz (comKs s u m) (comBs s u m)).size ≤ 1000 := by
    have := encode_size bz (comKs s u m) (comBs s u m) (fun j hj => comBs_bd (by rw [comKs_length] at hj; exact hj))
    rw [comKs_length, hke] at this; omega
  have HNB : Hid (∀ i, i < m → (noKinds m).getD i 0 = 1 → (noBlocks m).getD i ⟨#[]⟩ = ⟨(List.replicate 8 (0 : UInt8)).toArray⟩) := fun i _ e => by rw [noKinds_getD] at e; cases e
  have HOPE := hide (fun (L : Ims) (cb : Nat) (r : Option Nat) (W : World) => opened (L := L) (cb := cb) (r := r) (w := W) hso)
  have HOPB := hide (fun (L : Ims) (cb : Nat) (r : Option Nat) (W : World) (hch : Ch W cb r l L) (hns : L.map Prod.fst = (Ov.downOf l x).1) => opened_below (bk := bk) hso hch hns (by rw [hse]; exact hbk) hbn)
  have hbe := nonempty_of hbn
  have HP := hide hp
  have HPB := hide hpb
  have HSE := hide hse
  have HME := hide hme
  have HBK := hide hbk
  have HLT := hide ht
  have HUE := hide hue
  have HKE := hide hke
  have HBZ := hide hbz
  have HL2 := hide ht2
  have HRS : Hid (rowTo s m = clRow (qOf s) (dOf s) m) := by have := rowTo_row him; rw [hme] at this; exact this
  have HRU : Hid (rowTo u k = clRow (qOf u) (dOf u) k) := by have := rowTo_row himb; rw [hke] at this; exact this
  obtain ⟨ex, hexe⟩ : ∃ ex, encode bk (noKinds m) (noBlocks m) = ex := ⟨_, rfl⟩
  obtain ⟨ey, heye⟩ : ∃ ey, encode bz (comKs s u m) (comBs s u m) = ey := ⟨_, rfl⟩
  rw [hexe] at HF hex
  rw [heye] at HF hey
  have HEX := hide hexe
  have HEY := hide heye
  clear h h1 h2 h3 h4 hi hs hso hp hpb hc hcb hd0 hse hme hbk ht hue hke hbz ht2 hbn him himb hms hxb hexe heye
  go_enter_defers Tryz.func23, Tryz.ntmps23
  go_wp2_with (first
    | (go_at_call 52; go_must (refine (oopenAll_calls bk t w4.heap.size m m _ _ (unhide HM6) hm30).mono ?_; rintro e w7 ⟨⟨u7, rfl⟩, hw7⟩; have HM7 : Hid (w7.heap[w4.heap.size]? = some (.cells #[.string bk, .slice (some ⟨w6.heap.size, 0, none⟩) m m, .int .i64 t] 90 (0, 0))) := (by rw [← hw7]; exact blk_set_same (i := 1) (blk_alloc (unhide HM6) (.cells (zClus m) 160)) (.slice (some ⟨w6.heap.size, 0, none⟩) m m)); have HY7 : Hid (w7.heap[w5.heap.size]? = some (.cells #[.string bz, .slice (some ⟨g6, 0, none⟩) (max k m) c6, .int .i64 t2] 90 (0, 0))) := (by rw [← hw7]; exact blk_set_other (blk_alloc (unhide HY6) _) (Nat.ne_of_gt h45) _); have HZ7 : Hid (w7.heap[w6.heap.size]? = some (.cells (zClus m) 160 (0, 0))) := (by rw [← hw7]; exact blk_set_other (blk_new w6 _) (Nat.ne_of_gt (Nat.lt_trans h45 h56)) _); have HO7 : Hid (Cl w7 g6 (max k m) (takQ m (qOf s) (growQ bz k (qOf u))) (takD m (qOf s) (dOf s) (growD k (dOf u)))) := (by rw [← hw7]; exact cl_owned (owns_set ((unhide HO6).alloc _) (a := ⟨w4.heap.size, 1, none⟩) (own_ne (unhide HO6) (unhide HM6) (by decide)) _)); have HB7 : Hid (Below (w.setCell ⟨b, 0, none⟩ (.int .i32 1)).heap.size (w.setCell ⟨b, 0, none⟩ (.int .i32 1)) w7) := (by rw [← hw7]; exact ((unhide HB6).alloc (unhide HB6).size _).setCell (p := ⟨w4.heap.size, 1, none⟩) h4s _); have n0 := blk_cell (i := 0) (unhide HM7) rfl; have n1 := blk_cell (i := 1) (unhide HM7) rfl; have n2 := blk_cell (i := 2) (unhide HM7) rfl; have y0 := blk_cell (i := 0) (unhide HY7) rfl; have y1 := blk_cell (i := 1) (unhide HY7) rfl; have y2 := blk_cell (i := 2) (unhide HY7) rfl; clear hw7))
    | (go_at_call 51; refine (otake_calls bz t2 w5.heap.size gq k gp m m (qOf u) (dOf u) (qOf s) (dOf s) _ (by exact blk_new w5 _) (by exact unhide HGQ5) (by exact unhide HGP5) (by omega) hk30 hm30 hk1).mono ?_; rintro e w6 ⟨⟨u6, rfl⟩, a6, c6, hY6, ho6, hf6, _⟩; obtain ⟨g6, cc, hva⟩ := ownsRow_form ho6 (by omega); obtain ⟨rfl, rfl⟩ : a6 = some ⟨g6, 0, none⟩ ∧ c6 = cc := (by simpa using hva); have h45 : w4.heap.size < w5.heap.size := blk_lt (unhide HM5); have h56 : w5.heap.size < w6.heap.size := blk_lt hY6; have h4s : (w.setCell ⟨b, 0, none⟩ (.int .i32 1)).heap.size ≤ w4.heap.size := (unhide HB4s); have HM6 : Hid (w6.heap[w4.heap.size]? = some (.cells #[.string bk, .slice (some ⟨gp, 0, none⟩) m m, .int .i64 t] 90 (0, 0))) := (hf6.block _ (by simp; omega) (by omega) (by simp)).trans (blk_alloc (unhide HM5) _); have HY6 := hide hY6; have HO6 := hide ho6; have HB6 : Hid (Below (w.setCell ⟨b, 0, none⟩ (.int .i32 1)).heap.size (w.setCell ⟨b, 0, none⟩ (.int .i32 1)) w6) := below_ofr ((unhide HB5).alloc (unhide HB5).size _) hf6 (unhide HB5).size (Nat.le_trans (unhide HB5).size (by simp)); clear hY6 ho6 hf6 hva)
    | (go_at_call_of 50 bk; refine (oIget_calls L vv bk cb 0 1 _ hL8 (unhide HOW4) (unhide HCV4) (unhide HPLB) (by omega)).mono ?_; rintro e w5 ⟨he, hb5⟩; rw [unhide HIMB] at he; subst he; have HB5 : Hid (Below (w.setCell ⟨b, 0, none⟩ (.int .i32 1)).heap.size (w.setCell ⟨b, 0, none⟩ (.int .i32 1)) w5) := (unhide HB4).trans (hb5.mono (unhide HB4).size); have HM5 : Hid (w5.heap[w4.heap.size]? = some (.cells #[.string bk, .slice (some ⟨gp, 0, none⟩) m m, .int .i64 t] 90 (0, 0))) := (hb5.block _ (by simp)).trans (blk_new w4 _); have HGQ5 : Hid ((w5.alloc (.cells #[.string bz, .slice (some ⟨gq, 0, none⟩) k k, .int .i64 t2] 90)).heap[gq]? = some (.cells (clRow (qOf u) (dOf u) k).toArray 160 (0, 0))) := blk_alloc ((hb5.block gq (blk_lt (unhide HGQ4))).trans (unhide HGQ4)) _; have HGP5 : Hid (Cl (w5.alloc (.cells #[.string bz, .slice (some ⟨gq, 0, none⟩) k k, .int .i64 t2] 90)) gp m (qOf s) (dOf s)) := cl_row (blk_alloc ((hb5.block gp (blk_lt (unhide HGP4))).trans (unhide HGP4)) _); have hgp5 : gp < w5.heap.size := Nat.lt_of_lt_of_le (blk_lt (unhide HGP4)) hb5.size; have im1 : ∀ o, (w5.alloc o).cell? ⟨w4.heap.size, 1, none⟩ = some (.slice (some ⟨gp, 0, none⟩) m m) := (fun o => blk_cell (blk_alloc (unhide HM5) o) rfl); clear hb5)
    | (go_at_call_of 50 x; refine (oIget_calls L vv x cb 0 0 _ hL8 (unhide HOW) (unhide HCV) (unhide HPL) (by omega)).mono ?_; rintro e w4 ⟨he, hb4⟩; rw [unhide HIM] at he; subst he; have HB4 : Hid (Below (w.setCell ⟨b, 0, none⟩ (.int .i32 1)).heap.size (w.setCell ⟨b, 0, none⟩ (.int .i32 1)) (w4.alloc (.cells #[.string bk, .slice (some ⟨gp, 0, none⟩) m m, .int .i64 t] 90))) := ((unhide HB3).trans (hb4.mono (unhide HB3).size)).alloc (Nat.le_trans (unhide HB3).size hb4.size) _; have HB4s : Hid ((w.setCell ⟨b, 0, none⟩ (.int .i32 1)).heap.size ≤ w4.heap.size) := Nat.le_trans (unhide HB3).size hb4.size; have HOW4 := hide ((owns_all (unhide HOW) hb4).alloc (.cells #[.string bk, .slice (some ⟨gp, 0, none⟩) m m, .int .i64 t] 90)); have HCV4 : Hid ((w4.alloc (.cells #[.string bk, .slice (some ⟨gp, 0, none⟩) m m, .int .i64 t] 90)).cell? ⟨cb, 0, none⟩ = some vv) := (World.cell?_alloc_past _ _ _ (Nat.lt_of_lt_of_le (cell_lt (unhide HCV)) hb4.size)).trans ((hb4.cell (p := ⟨cb, 0, none⟩) (cell_lt (unhide HCV))).trans (unhide HCV)); have HGP4 : Hid ((w4.alloc (.cells #[.string bk, .slice (some ⟨gp, 0, none⟩) m m, .int .i64 t] 90)).heap[gp]? = some (.cells (clRow (qOf s) (dOf s) m).toArray 160 (0, 0))) := blk_alloc ((hb4.block gp (blk_lt (unhide HGP))).trans (unhide HGP)) _; have HGQ4 : Hid ((w4.alloc (.cells #[.string bk, .slice (some ⟨gp, 0, none⟩) m m, .int .i64 t] 90)).heap[gq]? = some (.cells (clRow (qOf u) (dOf u) k).toArray 160 (0, 0))) := blk_alloc ((hb4.block gq (blk_lt (unhide HGQ))).trans (unhide HGQ)) _; clear hb4)
    | (go_at_call 45; refine (unhide HCA).mono ?_; rintro e w3 ⟨hb3, cb, r2, L, rfl, hcb, hch, hnL, hL8, _⟩; obtain ⟨hL1, hpl, _, _, gp, hcg, himp, hgp⟩ := unhide HOPE L cb r2 w3 hch hnL; obtain ⟨hL2, hplb, _, _, gq, hcq, _, himq, hgq⟩ := unhide HOPB L cb r2 w3 hch hnL; rw [unhide HSE] at himp hgp; rw [unhide HME, unhide HRS] at hgp; rw [unhide HUE] at himq hgq; rw [unhide HKE, unhide HRU] at hgq; obtain ⟨⟨vv, hv1, hv2, _⟩, _⟩ := id hch; have HB3 := hide hb3; have HOW := hide hv2; have HCV : Hid (w3.cell? ⟨cb, 0, none⟩ = some vv) := blk_cell hv1 rfl; have HPL := hide hpl; have HPLB := hide hplb; have HIM : Hid (imVal (imAt L 0) = .agg #[.string bk, .slice (some ⟨gp, 0, none⟩) m m, .int .i64 t]) := (by rw [himp]; unfold imVal imOf; dsimp only; rw [unhide HME, unhide HBK, unhide HLT]; exact rfl); have HIMB : Hid (imVal (imAt L 1) = .agg #[.string bz, .slice (some ⟨gq, 0, none⟩) k k, .int .i64 t2]) := (by rw [himq]; unfold imVal imOf; dsimp only; rw [unhide HKE, unhide HBZ, unhide HL2]; exact rfl); have HGP := hide hgp; have HGQ := hide hgq; clear hb3 hch hnL hpl hplb himp himq hgp hgq hv1 hv2)
    | (go_at_call 43; refine (lock_free muLib ⟨b, 0, none⟩ _ c0 f0).mono ?_; rintro e w1 ⟨rfl, rfl⟩))
  refine wp_calm ?_
  go_region_with (first
    | (go_at_call 53; refine (okeep_two l v bk ey x ex b room _ (unhide HI) (unhide HPB) (unhide HP) hey hex (((unhide HB9).block b (by simpa using hbl)).trans (unhide HB)) (owns_all (unhide HO) (unhide HB9))).mono ?_; rintro e w10 ⟨he, hk10⟩; rw [← unhide HF] at he hk10; subst he; have HK10 := hide hk10; clear hk10)
    | (go_at_call 54; refine (ofile_calls bk w6.heap.size m t (noKinds m) (noBlocks m) (fun _ => List.replicate 8 0) _ (cls_new (unhide HZ8)) (unhide HNB) hm1 hm30 hbk8).mono ?_; rintro e w9 ⟨he, hb9⟩; rw [unhide HEX] at he; subst he; have q0 := (hb9.cell (p := ⟨w4.heap.size, 0, none⟩) (blk_lt (unhide HM8))).trans o0; have HB9 := hide ((unhide HB8).trans (hb9.mono (unhide HB8).size)); clear hb9)
    | (go_at_call 54; go_must (refine (ofile_saysC (unhide HSY) ((unhide HO7).same (by rfl) (by exact Nat.le_refl _)) bz t2 c6 (by omega) (by omega) hbz8).mono ?_; rintro e w8 ⟨he, hb8⟩; rw [unhide HEY] at he; subst he; have hb8' : Below w7.heap.size w7 w8 := ((Below.refl _ _).drew).trans hb8; have HB8 := hide ((unhide HB7).trans (hb8'.mono (unhide HB7).size)); have HZ8 : Hid (w8.heap[w6.heap.size]? = some (.cells (zClus m) 160 (0, 0))) := (hb8'.block _ (blk_lt (unhide HZ7))).trans (unhide HZ7); have HM8 := hide ((hb8'.block _ (blk_lt (unhide HM7))).trans (unhide HM7)); have o0 := blk_cell (i := 0) (unhide HM8) rfl; have o1 := blk_cell (i := 1) (unhide HM8) rfl; have o2 := blk_cell (i := 2) (unhide HM8) rfl; clear hb8 hb8')))
  all_goals
    simp only [NQ]
    go_wp2_with fail
    obtain ⟨z1, z2, z3⟩ := OvLeft.kept (unhide HR) (unhide HB0) (unhide H4) (unhide HB9) (unhide HK10)
    refine leaves_cons (f := 44) (args := #[.pointer (some ⟨b, 0, none⟩)]) (by simp) (by simp [go_sem]) ?_
    refine (unlock_deferred muLib ⟨b, 0, none⟩ .returning _ z1 z2).mono ?_
    rintro e u' w'' ⟨rfl, rfl, rfl⟩
    exact ⟨_, results_tmp rfl _ _ _, rfl, z3⟩

theorem ovCommit_calls (l : Ov.Files) (x : ByteArray) (b B : Nat) (r : Option Nat) (room : Nat) (s0 s1 s2 s3 : Addr) (w : World) (hi : Ov.LI room l) (h : OvRep w b r room l) (hs : Sents w B s0 s1 s2 s3) (hB : B ≤ b) :
    Calls Tryz.prog 23 #[.pointer (some ⟨b, 0, none⟩), .string x] w fun e w' => e = .returned (.int .i64 (commitF room l x).1) ∧ OvLeft w b r room (commitF room l x).2 w' := by
  by_cases h1 : Ov.soundF l x = 0
  · by_cases h2 : (Ov.backing (fileOf l x)).size = 0
    · exact oCommit_none l x b B r room s0 s1 s2 s3 w hi h hs hB h1 h2
    · exact oCommit_go l x b B r room s0 s1 s2 s3 w hi h hs hB h1 h2
  · exact oCommit_bad l x b B r room s0 s1 s2 s3 w hi h hs hB h1

end Go.Proofs.YtomiepknmmpflaaGreatDoor

