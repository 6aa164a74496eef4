/- The program's Discard. -/
import Derived.Test.YtomiepknmmpflaaGreatDoorKWOZero2
import Derived.Test.YtomiepknmmpflaaGreatDoorKWRow
import Derived.Test.YtomiepknmmpflaaGreatDoorKWDiscard
namespace Go.Proofs.YtomiepknmmpflaaGreatDoor
open Go.RowKit Go.Joins

theorem Opened.kept {wl w2 w3 w4 : World} {S g m ga c : Nat} {bk : ByteArray} {t f k : Int} {q : Nat → Int} {d : Nat → Eight} {v : Nat → Nat} (h : Opened wl w2 w3 S g m ga c bk t f k q d v) (hb : Below w3.heap.size w3 w4) : Opened wl w2 w4 S g m ga c bk t f k q d v :=
  ⟨(hb.block _ (blk_lt h.span)).trans h.span, (hb.block _ (blk_lt h.img)).trans h.img, (hb.block _ (blk_lt h.row)).trans h.row, owns_all h.view hb, h.below.trans (hb.mono h.below.size), h.hg⟩

open Go.MuLone in
set_option maxRecDepth 100000 in
set_option maxHeartbeats 4000000 in
theorem oDiscard_go (l : Ov.Files) (x : ByteArray) (f k b B : Nat) (r : Option Nat) (room : Nat) (s0 s1 s2 s3 : Addr) (w : World) (hi : Ov.LI room l) (h : OvRep w b r room l) (hs : Sents w B s0 s1 s2 s3) (hB : B ≤ b) (hq : rangedF l x f k = 0) :
    Calls Tryz.prog 32 #[.pointer (some ⟨b, 0, none⟩), .string x, .int .i64 (f : Nat), .int .i64 (k : Nat)] w fun e w' => e = .returned (.int .i64 (discardF room l x f k).1) ∧ OvLeft w b r room (discardF room l x f k).2 w' := by
  obtain ⟨v, h1, h2, h3, h4⟩ := id h
  have HR := hide h
  have c0 : w.cell? ⟨b, 0, none⟩ = some (.int .i32 0) := blk_cell h1 rfl
  have f0 := blk_frozen h1 0
  have hbl := blk_lt h1
  have HB0 := hide h1
  have HB := hide (blk_set_same (i := 0) h1 (.int .i32 1))
  have HO := hide (owns_set h2 h3 (a := ⟨b, 0, none⟩) (.int .i32 1))
  have H3 := hide h3
  have H4 := hide h4
  have HI := hide hi
  have HC : Hid (ChainAt (w.setCell ⟨b, 0, none⟩ (.int .i32 1)) b B r room l s0 s1 s2 s3) := ⟨h.lock, hi, hs.kept ((Below.refl B w).setCell (p := ⟨b, 0, none⟩) hB (.int .i32 1))⟩
  obtain ⟨hso, hp, hc, _, _, hfk⟩ := ranged_ok hq
  have hm := hc.many_le
  have hbk8 := backing_size hc
  have him := hc.image
  have hx1000 : x.size ≤ 1000 := Nat.le_trans (hi.name_size hp) (by omega)
  have HPL := hide hp
  obtain ⟨s, hse⟩ : ∃ s, fOf l x = s := ⟨_, rfl⟩
  rw [show Ov.fileAt l (Ov.place l x) = s from hse] at him
  rw [show fileOf l x = s from hse] at hm hfk hbk8
  obtain ⟨m, hme⟩ : ∃ m, Ov.many s = m := ⟨_, rfl⟩
  rw [hme] at hm hfk
  obtain ⟨hm1, hm30⟩ := hm
  obtain ⟨ns, hns⟩ : ∃ ns, (Ov.downOf l x).1 = ns := ⟨_, rfl⟩
  have HSY := hide (says_discard (s := s) (f := f) (k := k) him hme)
  have hKB := (unhide HSY)
  have HF0 : Hid (someTo f k m = false → discardF room l x f k = (0, l)) := by
    intro h0
    unfold discardF
    rw [hq, if_neg (by omega), show fileOf l x = s from hse, hme, Int.toNat_natCast, Int.toNat_natCast, if_pos ((someTo_all f k m).2 h0)]
  have HF : Hid (someTo f k m = true → discardF room l x f k = Ov.putF room l (Ov.withF l x (encode (Ov.backing s) (allTo m (kOld s) (fun _ => if (Ov.backing s).size = 0 then (0 : Int) else 255) (covered f k)) (allTo m (bOld s) (fun _ => (⟨#[]⟩ : ByteArray)) (covered f k))))) := by
    intro h0
    unfold discardF newF
    rw [hq, if_neg (by omega), show fileOf l x = s from hse, hme, Int.toNat_natCast, Int.toNat_natCast, if_neg (fun e => by have h1 := (someTo_all f k m).1 e; rw [h0] at h1; cases h1)]
  have hBb : ∀ i, i < m → ((allTo m (bOld s) (fun _ => (⟨#[]⟩ : ByteArray)) (covered f k)).getD i ⟨#[]⟩).size ≤ 8 := fun i hi => by
    rw [allTo_getD hi]
    split
    · exact Nat.zero_le _
    · exact bOld_size i
  obtain ⟨K, hK⟩ : ∃ K, allTo m (kOld s) (fun _ => if (Ov.backing s).size = 0 then (0 : Int) else 255) (covered f k) = K := ⟨_, rfl⟩
  obtain ⟨Bs, hBs⟩ : ∃ Bs, allTo m (bOld s) (fun _ => (⟨#[]⟩ : ByteArray)) (covered f k) = Bs := ⟨_, rfl⟩
  rw [hK, hBs] at HF HSY
  rw [hBs] at hBb
  have hKl : K.length = m := by rw [← hK, allTo_length]
  have hes : (encode (Ov.backing s) K Bs).size ≤ 1000 := by
    have := encode_size (Ov.backing s) K Bs (fun j hj => hBb j (by omega))
    omega
  obtain ⟨bk, hbk⟩ : ∃ bk, Ov.backing s = bk := ⟨_, rfl⟩
  rw [hbk] at HF hes hbk8 HSY
  obtain ⟨t, ht⟩ : ∃ t, Ov.lost s = t := ⟨_, rfl⟩
  have HSE := hide hse
  have HME := hide hme
  have HNS := hide hns
  have HBK := hide hbk
  have HLT := hide ht
  have HQ := hide hq
  have HRW : Hid (rowTo s m = clRow (qOf s) (dOf s) m) := by have := rowTo_row him; rw [hme] at this; exact this
  have hfkN : f + k ≤ m * 8 := by omega
  clear h h1 h2 h3 h4 hs hi hso hp hc him hse hme hns hKB hBb hK hBs hKl hbk ht hq hfk
  obtain ⟨D, hD⟩ : ∃ D, discKind bk = D := ⟨_, rfl⟩
  rw [hD] at HSY
  have HDK := hide hD
  clear hD
  have hcase : someTo f k m = true ∨ someTo f k m = false := by cases someTo f k m <;> simp
  rcases hcase with hst | hst
  · have HST := hide hst
    have HF1 := hide (unhide HF hst)
    clear hst HF HF0
    go_enter_defers Tryz.func32, Tryz.ntmps32
    go_wp2_with (first
      | (go_at_call 59; refine (oopenAt_yes x f k _ b B r room l s0 s1 s2 s3 ((unhide HC).kept (below_alloc1 _ _)) (unhide HQ) (by omega) (by omega) (by omega) (by omega)).mono ?_; rintro e w2 ⟨hb2, g, a, c, he, hgw, hgb, hov⟩; rw [unhide HSE] at he hgb hov; rw [unhide HME] at he hgb hov; rw [unhide HBK, unhide HLT] at he; rw [unhide HNS] at hov; rw [unhide HRW] at hgb; subst he; obtain ⟨ga, ca, hva⟩ := ownsRow_form hov (by omega); obtain ⟨rfl, rfl⟩ : a = some ⟨ga, 0, none⟩ ∧ c = ca := (by simpa using hva); have bp := (hb2.block (w.setCell ⟨b, 0, none⟩ (.int .i32 1)).heap.size (by simp)).trans (blk_new _ _); simp only [World.size_setCell] at bp; have HOP := hide (opened_turn (bk := bk) (t := t) hb2 bp hgb hgw hov (hov.alloc _) (grown_of_below (Below.refl _ _) _)); obtain ⟨j0, j1, j2, j3, j4⟩ := (unhide HOP).cells; clear hb2 hov hgb hva bp hgw)
      | (go_at_call 43; refine (lock_free muLib ⟨b, 0, none⟩ _ c0 f0).mono ?_; rintro e w1 ⟨rfl, rfl⟩))
    refine wp_calm ?_
    go_region_with (first
      | (go_at_call 62; refine (osetWhole_calls w2.heap.size g m f k D bk t _ _ _ (unhide HOP4).img (unhide HOP4).row hm30 hfkN).mono ?_; rintro e w6 ⟨he, hsd⟩; rw [unhide HST] at he; subst he; have HOP6 := hide ((unhide HOP4).turned hsd); obtain ⟨_, _, n0, n1, n2⟩ := (unhide HOP6).cells; clear hsd)
      | (go_at_call 63; refine (oblank_calls bk _ _ _ _ _).mono ?_; rintro e w4 ⟨he, hb4⟩; rw [unhide HDK] at he; subst he; have HOP4 := hide ((unhide HOP).kept (((Below.refl _ _).drew).trans hb4)); obtain ⟨o0, o1, o2, o3, o4⟩ := (unhide HOP4).cells; clear hb4))
    all_goals
      simp only [NQ]
      go_wp2_with (first
        | (go_at_call 53; refine (okeep_put l v x (encode bk K Bs) b room _ (unhide HI) (unhide HPL) (((unhide HB7).block b (by simpa using hbl)).trans (unhide HB)) (owns_all (unhide HO) (unhide HB7)) hx1000 hes).mono ?_; rintro e w8 ⟨he, hk8⟩; rw [← unhide HF1] at he hk8; subst he; have HK8 := hide hk8; clear hk8)
        | (go_at_call 54; refine (ofile_says (unhide HSY) (unhide HOP6).row bk t hm1 hm30 hbk8).mono ?_; rintro e w7 ⟨rfl, hb7⟩; have HB7 := hide ((unhide HOP6).below.trans (hb7.mono (unhide HOP6).below.size)); clear hb7))
      obtain ⟨y1, y2, y3⟩ := OvLeft.kept (unhide HR) (unhide HB0) (unhide H4) (unhide HB7) (unhide HK8)
      refine leaves_cons (f := 44) (args := #[.pointer (some ⟨b, 0, none⟩)]) (by simp) (by simp [go_sem]) ?_
      refine (unlock_deferred muLib ⟨b, 0, none⟩ .returning _ y1 y2).mono ?_
      rintro e u' w'' ⟨rfl, rfl, rfl⟩
      exact ⟨_, results_tmp rfl _ _ _, rfl, y3⟩
  · have HST := hide hst
    have HF1 := hide (unhide HF0 hst)
    clear hst HF HF0
    go_enter_defers Tryz.func32, Tryz.ntmps32
    go_wp2_with (first
      | (go_at_call 59; refine (oopenAt_yes x f k _ b B r room l s0 s1 s2 s3 ((unhide HC).kept (below_alloc1 _ _)) (unhide HQ) (by omega) (by omega) (by omega) (by omega)).mono ?_; rintro e w2 ⟨hb2, g, a, c, he, hgw, hgb, hov⟩; rw [unhide HSE] at he hgb hov; rw [unhide HME] at he hgb hov; rw [unhide HBK, unhide HLT] at he; rw [unhide HNS] at hov; rw [unhide HRW] at hgb; subst he; obtain ⟨ga, ca, hva⟩ := ownsRow_form hov (by omega); obtain ⟨rfl, rfl⟩ : a = some ⟨ga, 0, none⟩ ∧ c = ca := (by simpa using hva); have bp := (hb2.block (w.setCell ⟨b, 0, none⟩ (.int .i32 1)).heap.size (by simp)).trans (blk_new _ _); simp only [World.size_setCell] at bp; have HOP := hide (opened_turn (bk := bk) (t := t) hb2 bp hgb hgw hov (hov.alloc _) (grown_of_below (Below.refl _ _) _)); obtain ⟨j0, j1, j2, j3, j4⟩ := (unhide HOP).cells; clear hb2 hov hgb hva bp hgw)
      | (go_at_call 43; refine (lock_free muLib ⟨b, 0, none⟩ _ c0 f0).mono ?_; rintro e w1 ⟨rfl, rfl⟩))
    refine wp_calm ?_
    go_region_with (first
      | (go_at_call 62; refine (osetWhole_calls w2.heap.size g m f k D bk t _ _ _ (unhide HOP4).img (unhide HOP4).row hm30 hfkN).mono ?_; rintro e w6 ⟨he, hsd⟩; rw [unhide HST] at he; subst he; have HOP6 := hide ((unhide HOP4).turned hsd); obtain ⟨_, _, n0, n1, n2⟩ := (unhide HOP6).cells; clear hsd)
      | (go_at_call 63; refine (oblank_calls bk _ _ _ _ _).mono ?_; rintro e w4 ⟨he, hb4⟩; rw [unhide HDK] at he; subst he; have HOP4 := hide ((unhide HOP).kept (((Below.refl _ _).drew).trans hb4)); obtain ⟨o0, o1, o2, o3, o4⟩ := (unhide HOP4).cells; clear hb4))
    all_goals
      simp only [NQ]
      go_wp2_with fail
      refine leaves_cons (f := 44) (args := #[.pointer (some ⟨b, 0, none⟩)]) (by simp) (by simp [go_sem]) ?_
      refine (unlock_deferred muLib ⟨b, 0, none⟩ .returning _ ?_ ?_).mono ?_
      · exact ((unhide HOP6).below.cell (p := ⟨b, 0, none⟩) (by simpa using hbl)).trans (blk_cell (unhide HB) rfl)
      · exact ((unhide HOP6).below.frozen (p := ⟨b, 0, none⟩) (by simpa using hbl)).trans (blk_frozen (unhide HB) 0)
      rintro e u' w'' ⟨rfl, rfl, rfl⟩
      refine ⟨_, results_tmp rfl _ _ _, ?_, by rw [unhide HF1]; exact OvLeft.quiet (unhide HR) (unhide HOP6).below⟩
      rw [unhide HF1]; rfl

end Go.Proofs.YtomiepknmmpflaaGreatDoor

namespace Go.Proofs.YtomiepknmmpflaaGreatDoor
open Go.RowKit Go.Joins

open Go.MuLone in
set_option maxRecDepth 100000 in
set_option maxHeartbeats 2000000 in
theorem ovDiscard_calls (l : Ov.Files) (x : ByteArray) (f k : Int) (b B : Nat) (r : Option Nat) (room : Nat) (s0 s1 s2 s3 : Addr) (w : World) (hi : Ov.LI room l) (h : OvRep w b r room l) (hs : Sents w B s0 s1 s2 s3) (hB : B ≤ b) (hf1 : -9223372036854775808 ≤ f) (hf2 : f ≤ 9223372036854775807) (hk1 : -9223372036854775808 ≤ k) (hk2 : k ≤ 9223372036854775807) :
    Calls Tryz.prog 32 #[.pointer (some ⟨b, 0, none⟩), .string x, .int .i64 f, .int .i64 k] w fun e w' => e = .returned (.int .i64 (discardF room l x f k).1) ∧ OvLeft w b r room (discardF room l x f k).2 w' := by
  by_cases hq : rangedF l x f k = 0
  · obtain ⟨_, _, _, hf0, hk0, _⟩ := ranged_ok hq
    obtain ⟨f, rfl⟩ := Int.eq_ofNat_of_zero_le hf0
    obtain ⟨k, rfl⟩ := Int.eq_ofNat_of_zero_le hk0
    exact oDiscard_go l x f k b B r room s0 s1 s2 s3 w hi h hs hB hq
  · have HF : Hid (discardF room l x f k = (rangedF l x f k, l)) := by unfold discardF; rw [if_pos hq]; exact rfl
    obtain ⟨v, h1, h2, h3, h4⟩ := id h
    have HR := hide h
    have c0 : w.cell? ⟨b, 0, none⟩ = some (.int .i32 0) := blk_cell h1 rfl
    have f0 := blk_frozen h1 0
    have hbl := blk_lt h1
    have HB := hide (blk_set_same (i := 0) h1 (.int .i32 1))
    have HC : Hid (ChainAt (w.setCell ⟨b, 0, none⟩ (.int .i32 1)) b B r room l s0 s1 s2 s3) := ⟨h.lock, hi, hs.kept ((Below.refl B w).setCell (p := ⟨b, 0, none⟩) hB (.int .i32 1))⟩
    have hno : ∀ W, Below (w.setCell ⟨b, 0, none⟩ (.int .i32 1)).heap.size (w.setCell ⟨b, 0, none⟩ (.int .i32 1)) W → Calls Tryz.prog 59 #[.pointer (some ⟨b, 0, none⟩), .string x, .agg #[.int .i64 f, .int .i64 k]] W (AtNo (rangedF l x f k) W) := fun W hW => oopenAt_no x f k W b B r room l s0 s1 s2 s3 ((unhide HC).kept hW) hq hf1 hf2 hk1 hk2
    have HNO := hide hno
    obtain ⟨q, hqe⟩ : ∃ q, rangedF l x f k = q := ⟨_, rfl⟩
    rw [hqe] at HNO HF hq
    have hqn : (q != 0) = true := by rw [bne_iff_ne]; exact hq
    clear h h1 h2 h3 h4 hs hi hno hqe hq
    go_enter_defers Tryz.func32, Tryz.ntmps32
    go_wp2_with (first
      | (go_at_call 59; refine (unhide HNO _ (below_alloc1 _ _)).mono ?_; rintro e w2 ⟨hb2, rfl⟩; have HB2 := hide hb2; clear hb2)
      | (go_at_call 43; refine (lock_free muLib ⟨b, 0, none⟩ _ c0 f0).mono ?_; rintro e w1 ⟨rfl, rfl⟩))
    have hb5 : ∀ p, Below (w.setCell ⟨b, 0, none⟩ (.int .i32 1)).heap.size (w.setCell ⟨b, 0, none⟩ (.int .i32 1)) (w2.alloc p).drew := fun p => (((below_alloc1 _ _).trans ((unhide HB2).mono (le_alloc _ _))).alloc (by have := (unhide HB2).size; simp at this; simp; omega) _).drew
    refine wp_calm ?_
    go_region
    all_goals
      simp only [NQ]
      go_wp2_with fail
      refine leaves_cons (f := 44) (args := #[.pointer (some ⟨b, 0, none⟩)]) (by simp) (by simp [go_sem]) ?_
      refine (unlock_deferred muLib ⟨b, 0, none⟩ .returning _ ?_ ?_).mono ?_
      · exact ((hb5 _).cell (p := ⟨b, 0, none⟩) (by simpa using hbl)).trans (blk_cell (unhide HB) rfl)
      · exact ((hb5 _).frozen (p := ⟨b, 0, none⟩) (by simpa using hbl)).trans (blk_frozen (unhide HB) 0)
      rintro e u' w'' ⟨rfl, rfl, rfl⟩
      refine ⟨_, results_tmp rfl _ _ _, ?_, by rw [unhide HF]; exact OvLeft.quiet (unhide HR) (hb5 _)⟩
      rw [unhide HF]; rfl


end Go.Proofs.YtomiepknmmpflaaGreatDoor

namespace Go.Proofs.YtomiepknmmpflaaGreatDoor
open Go.RowKit Go.Joins

theorem LI.new {room : Nat} {l : Ov.Files} (h : Ov.LI room l) {x : ByteArray} {f k : Int} (hq : ¬ rangedF l x f k ≠ 0) {ks : List Int} {bs : List ByteArray} (hk : ks.length = Ov.many (fileOf l x)) (hb : ∀ i, i < Ov.many (fileOf l x) → (bs.getD i ⟨#[]⟩).size ≤ 8) : Ov.LI room (newF room l x ks bs).2 := by
  obtain ⟨_, hp, hc, _⟩ := ranged_ok (show rangedF l x f k = 0 by omega)
  have hm := hc.many_le
  have hbk := backing_size hc
  have hn := h.names _ hp
  rw [Ov.place_name hp] at hn
  have hl := h.len
  have he := encode_size (Ov.backing (fileOf l x)) ks bs (fun j hj => hb j (by omega))
  unfold newF
  refine h.put ?_ (Ov.withF_size h.size (by omega)) (Ov.withF_names h.names hn) (Ov.withF_nodup h.nodup)
  rw [Ov.withF_length, if_pos hp]; exact hl
theorem LI.write {room : Nat} {l : Ov.Files} (h : Ov.LI room l) (x : ByteArray) (f : Int) (d : ByteArray) : Ov.LI room (writeF room l x f d).2 := by
  unfold writeF
  split
  · exact h
  · rename_i hq
    split
    · exact h
    · refine LI.new h hq (allTo_length ..) fun i hi => ?_
      rw [allTo_getD hi]
      split
      · rw [blockW_size]; omega
      · exact bOld_size i
theorem LI.zero {room : Nat} {l : Ov.Files} (h : Ov.LI room l) (x : ByteArray) (f k : Int) : Ov.LI room (zeroF room l x f k).2 := by
  unfold zeroF
  split
  · exact h
  · rename_i hq
    split
    · exact h
    · refine LI.new h hq (allTo_length ..) fun i hi => ?_
      rw [allTo_getD hi]
      split
      · split
        · exact Nat.zero_le _
        · rw [blockW_size]; omega
      · exact bOld_size i
theorem LI.discard {room : Nat} {l : Ov.Files} (h : Ov.LI room l) (x : ByteArray) (f k : Int) : Ov.LI room (discardF room l x f k).2 := by
  unfold discardF
  split
  · exact h
  · rename_i hq
    split
    · exact h
    · refine LI.new h hq (allTo_length ..) fun i hi => ?_
      rw [allTo_getD hi]
      split
      · exact Nat.zero_le _
      · exact bOld_size i
end Go.Proofs.YtomiepknmmpflaaGreatDoor

