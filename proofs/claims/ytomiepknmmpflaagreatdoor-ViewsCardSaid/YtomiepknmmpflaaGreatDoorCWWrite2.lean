/- The walk of the reference's ranged. -/
import Derived.Test.YtomiepknmmpflaaGreatDoorCPIm
namespace Go.Proofs.YtomiepknmmpflaaGreatDoor
open Go.RowKit Go.Joins

set_option maxRecDepth 100000 in
set_option maxHeartbeats 2000000 in
theorem rranged_calls (l : Ov.Files) (x : ByteArray) (f k : Int) (b room : Nat) (w : World) (hi : Ov.LI room l) (h : RefRep w b room l) (hf1 : -9223372036854775808 ≤ f) (hf2 : f ≤ 9223372036854775807) (hk1 : -9223372036854775808 ≤ k) (hk2 : k ≤ 9223372036854775807) :
    Calls Tryz.prog 157 #[.pointer (some ⟨b, 0, none⟩), .string x, .int .i64 f, .int .i64 k] w fun e w' => e = .returned (.int .i64 (rangedF l x f k)) ∧ Below w.heap.size w w' := by
  have HR := hide h
  have HI := hide hi
  clear h hi
  obtain ⟨q, hq⟩ : ∃ q, Ov.soundF l x = q := ⟨_, rfl⟩
  have HQ := hide hq
  by_cases hq0 : q = 0
  case neg =>
    have hqn : (q != 0) = true := by rw [bne_iff_ne]; exact hq0
    have HF : Hid (rangedF l x f k = q) := by unfold rangedF; rw [hq, if_pos hq0]; exact rfl
    clear hq
    go_enter Tryz.func157, Tryz.ntmps157
    go_wp2_with (go_at_call 164; refine (rsound_calls l x b room _ (unhide HI) (unhide HR)).mono ?_; rintro e w1 ⟨he, hbs⟩; rw [unhide HQ] at he; subst he)
    go_ret
    exact ⟨by rw [unhide HF]; rfl, hbs⟩
  case pos =>
    subst hq0
    obtain ⟨hp, hc⟩ := sound_here hq
    have him := hc.image
    obtain ⟨s, hs⟩ : ∃ s, fileOf l x = s := ⟨_, rfl⟩
    have HF : Hid (rangedF l x f k = if f < 0 ∨ k < 0 ∨ 8 * (Ov.many s : Int) < f ∨ 8 * (Ov.many s : Int) - f < k then 1 else 0) := by unfold rangedF; rw [hq, if_neg (by omega), hs]; exact rfl
    rw [show Ov.fileAt l (Ov.place l x) = s from hs] at him
    have hm1 : 1 ≤ Ov.many s := him.1.2.2.2.2.1
    have hm30 : Ov.many s ≤ 30 := him.1.2.2.2.2.2.1
    obtain ⟨m, hm⟩ : ∃ m, Ov.many s = m := ⟨_, rfl⟩
    have HS := hide hs
    have HIM := hide him
    have HM := hide hm
    rw [hm] at hm1 hm30 HF
    clear hq hc hs him hm
    have hx : ∀ w1, Below w.heap.size w w1 → Calls Tryz.prog 159 #[.pointer (some ⟨b, 0, none⟩), .string x] w1 fun e w' => ∃ (bk : ByteArray) (ea : Option Addr) (ec : Nat) (ba : Option Addr) (bc : Nat) (lo : Int) (ks : List Int) (bs : List ByteArray), e = .returned (.agg #[.string bk, .slice ea m ec, .slice ba m bc, .int .i64 lo]) ∧ Below w1.heap.size w1 w' ∧ w'.ownsRow (w1.heap.size + 1) 3 1 (.slice ea m ec) m (ks.map (Value.int .i64)) ∧ w'.ownsRow (w1.heap.size + 1) 9 1 (.slice ba m bc) m (bs.map Value.string) := fun w1 hb => by
      refine (rimage_calls l x s b room w1 (unhide HI) ((unhide HR).kept hb) hp (unhide HS) (unhide HIM)).mono ?_
      rintro e w' ⟨ea, ec, ba, bc, rfl, h1, h2, h3⟩
      rw [unhide HM] at h2 h3 ⊢
      exact ⟨_, ea, ec, ba, bc, _, _, _, rfl, h1, h2, h3⟩
    have HX := hide hx
    clear hx hp
    have fin : ∀ {w1 w2 : World} (o : Obj), Hid (Below w.heap.size w w1) → Hid (Below w1.heap.size w1 w2) → Below w.heap.size w (w2.alloc o) := fun o h1 h2 => ((unhide h1).trans ((unhide h2).mono (unhide h1).size)).alloc (Nat.le_trans (unhide h1).size (unhide h2).size) o
    by_cases c1 : f < 0
    · have HF1 : Hid (rangedF l x f k = 1) := by rw [unhide HF, if_pos (Or.inl c1)]; exact rfl
      go_enter Tryz.func157, Tryz.ntmps157
      go_wp2_with (first
        | (go_at_call 159; refine (unhide HX _ (unhide HBS)).mono ?_; rintro e w2 ⟨bk, ea, ec, ba, bc, lo, ks, bs, rfl, hb2, h2, h3⟩; have HB2 := hide hb2; clear hb2 h2 h3)
        | (go_at_call 164; refine (rsound_calls l x b room _ (unhide HI) (unhide HR)).mono ?_; rintro e w1 ⟨he, hbs⟩; rw [unhide HQ] at he; subst he; have HBS := hide hbs; clear hbs))
      go_ret
      exact ⟨by rw [unhide HF1]; rfl, fin _ HBS HB2⟩
    by_cases c2 : k < 0
    · have HF1 : Hid (rangedF l x f k = 1) := by rw [unhide HF, if_pos (Or.inr (Or.inl c2))]; exact rfl
      have b1 : decide (f < 0) = false := decide_eq_false c1
      go_enter Tryz.func157, Tryz.ntmps157
      go_wp2_with (first
        | (go_at_call 159; refine (unhide HX _ (unhide HBS)).mono ?_; rintro e w2 ⟨bk, ea, ec, ba, bc, lo, ks, bs, rfl, hb2, h2, h3⟩; have HB2 := hide hb2; clear hb2 h2 h3)
        | (go_at_call 164; refine (rsound_calls l x b room _ (unhide HI) (unhide HR)).mono ?_; rintro e w1 ⟨he, hbs⟩; rw [unhide HQ] at he; subst he; have HBS := hide hbs; clear hbs))
      go_ret
      exact ⟨by rw [unhide HF1]; rfl, fin _ HBS HB2⟩
    by_cases c3 : 8 * (m : Int) < f
    · have HF1 : Hid (rangedF l x f k = 1) := by rw [unhide HF, if_pos (Or.inr (Or.inr (Or.inl c3)))]; exact rfl
      have b1 : decide (f < 0) = false := decide_eq_false c1
      have b2 : decide (k < 0) = false := decide_eq_false c2
      go_enter Tryz.func157, Tryz.ntmps157
      go_wp2_with (first
        | (go_at_call 159; refine (unhide HX _ (unhide HBS)).mono ?_; rintro e w2 ⟨bk, ea, ec, ba, bc, lo, ks, bs, rfl, hb2, h2, h3⟩; have HB2 := hide hb2; clear hb2 h2 h3)
        | (go_at_call 164; refine (rsound_calls l x b room _ (unhide HI) (unhide HR)).mono ?_; rintro e w1 ⟨he, hbs⟩; rw [unhide HQ] at he; subst he; have HBS := hide hbs; clear hbs))
      go_ret
      exact ⟨by rw [unhide HF1]; rfl, fin _ HBS HB2⟩
    by_cases c4 : 8 * (m : Int) - f < k
    · have HF1 : Hid (rangedF l x f k = 1) := by rw [unhide HF, if_pos (Or.inr (Or.inr (Or.inr c4)))]; exact rfl
      have b1 : decide (f < 0) = false := decide_eq_false c1
      have b2 : decide (k < 0) = false := decide_eq_false c2
      have b3 : decide (8 * (m : Int) < f) = false := decide_eq_false c3
      go_enter Tryz.func157, Tryz.ntmps157
      go_wp2_with (first
        | (go_at_call 159; refine (unhide HX _ (unhide HBS)).mono ?_; rintro e w2 ⟨bk, ea, ec, ba, bc, lo, ks, bs, rfl, hb2, h2, h3⟩; have HB2 := hide hb2; clear hb2 h2 h3)
        | (go_at_call 164; refine (rsound_calls l x b room _ (unhide HI) (unhide HR)).mono ?_; rintro e w1 ⟨he, hbs⟩; rw [unhide HQ] at he; subst he; have HBS := hide hbs; clear hbs))
      go_ret
      exact ⟨by rw [unhide HF1]; rfl, fin _ HBS HB2⟩
    · have HF1 : Hid (rangedF l x f k = 0) := by rw [unhide HF, if_neg (by omega)]; exact rfl
      have b1 : decide (f < 0) = false := decide_eq_false c1
      have b2 : decide (k < 0) = false := decide_eq_false c2
      have b3 : decide (8 * (m : Int) < f) = false := decide_eq_false c3
      have b4 : decide (8 * (m : Int) - f < k) = false := decide_eq_false c4
      go_enter Tryz.func157, Tryz.ntmps157
      go_wp2_with (first
        | (go_at_call 159; refine (unhide HX _ (unhide HBS)).mono ?_; rintro e w2 ⟨bk, ea, ec, ba, bc, lo, ks, bs, rfl, hb2, h2, h3⟩; have HB2 := hide hb2; clear hb2 h2 h3)
        | (go_at_call 164; refine (rsound_calls l x b room _ (unhide HI) (unhide HR)).mono ?_; rintro e w1 ⟨he, hbs⟩; rw [unhide HQ] at he; subst he; have HBS := hide hbs; clear hbs))
      go_ret
      exact ⟨by rw [unhide HF1]; rfl, fin _ HBS HB2⟩

end Go.Proofs.YtomiepknmmpflaaGreatDoor

/- The walk of the reference's Read. -/
namespace Go.Proofs.YtomiepknmmpflaaGreatDoor
open Go.RowKit Go.Joins

/-- What a range that is in order says. -/
theorem ranged_ok {l : Ov.Files} {x : ByteArray} {f k : Int} (h : rangedF l x f k = 0) : Ov.soundF l x = 0 ∧ Ov.place l x < l.length ∧ Ov.Chn l (Ov.downOf l x).1 x ∧ 0 ≤ f ∧ 0 ≤ k ∧ f + k ≤ 8 * (Ov.many (fileOf l x) : Int) := by
  unfold rangedF at h
  by_cases hs : Ov.soundF l x ≠ 0
  · rw [if_pos hs] at h; exact absurd h hs
  · rw [if_neg hs] at h
    have hs' : Ov.soundF l x = 0 := by omega
    obtain ⟨hp, hc⟩ := sound_here hs'
    by_cases hc2 : f < 0 ∨ k < 0 ∨ 8 * (Ov.many (fileOf l x) : Int) < f ∨ 8 * (Ov.many (fileOf l x) : Int) - f < k
    · rw [if_pos hc2] at h; omega
    · exact ⟨hs', hp, hc, by omega, by omega, by omega⟩
theorem Ov.Chn.many_le {l : Ov.Files} {ns : List ByteArray} {x : ByteArray} (h : Ov.Chn l ns x) : 1 ≤ Ov.many (fileOf l x) ∧ Ov.many (fileOf l x) ≤ 30 := ⟨h.image.1.2.2.2.2.1, h.image.1.2.2.2.2.2.1⟩

set_option maxRecDepth 100000 in
set_option maxHeartbeats 1000000 in
theorem rRead_calls (l : Ov.Files) (x : ByteArray) (f k : Int) (b room : Nat) (w : World) (hi : Ov.LI room l) (h : RefRep w b room l) (hf1 : -9223372036854775808 ≤ f) (hf2 : f ≤ 9223372036854775807) (hk1 : -9223372036854775808 ≤ k) (hk2 : k ≤ 9223372036854775807) :
    Calls Tryz.prog 111 #[.pointer (some ⟨b, 0, none⟩), .string x, .int .i64 f, .int .i64 k] w fun e w' => e = .returned (.tuple #[.string (readF l x f k).1, .int .i64 (readF l x f k).2]) ∧ Below w.heap.size w w' := by
  have HR := hide h
  have HI := hide hi
  obtain ⟨q, hq⟩ : ∃ q, rangedF l x f k = q := ⟨_, rfl⟩
  have HQ := hide hq
  by_cases hq0 : q = 0
  case neg =>
    have hqn : (q != 0) = true := by rw [bne_iff_ne]; exact hq0
    have HF : Hid (readF l x f k = (⟨#[]⟩, q)) := by unfold readF; rw [hq, if_pos hq0]; exact rfl
    clear hq h hi
    go_enter Tryz.func111, Tryz.ntmps111
    go_wp2_with (go_at_call 157; refine (rranged_calls l x f k b room _ (unhide HI) (unhide HR) hf1 hf2 hk1 hk2).mono ?_; rintro e w1 ⟨he, hbs⟩; rw [unhide HQ] at he; subst he)
    go_ret2
    exact ⟨by rw [unhide HF]; rfl, hbs⟩
  case pos =>
    subst hq0
    obtain ⟨_, hp, hc, h1, h2, h3⟩ := ranged_ok hq
    have hm := hc.many_le
    obtain ⟨v, g1, g2, g3⟩ := h
    obtain ⟨g, c, rfl⟩ := ownsRow_form g2 (by omega)
    have c1 : w.cell? ⟨b, 1, none⟩ = some (.slice (some ⟨g, 0, none⟩) l.length c) := blk_cell g1 rfl
    have HO := hide g2
    have hbl := blk_lt g1
    obtain ⟨f, rfl⟩ := Int.eq_ofNat_of_zero_le h1
    obtain ⟨k, rfl⟩ := Int.eq_ofNat_of_zero_le h2
    have hfk : f + k ≤ 240 := by omega
    have HF : Hid (readF l x f k = (viewF l (Ov.downOf l x).1 f k, 0)) := by unfold readF; rw [hq, if_neg (by omega)]; exact rfl
    have HC := hide hc
    have HC1 := hide c1
    clear hq hp hc h1 h2 h3 hm g1 g2 g3 hi c1
    go_enter Tryz.func111, Tryz.ntmps111
    go_wp2_with (first
      | (go_at_call 158; refine (rView_calls l _ x (Ov.downOf l x).1 f k 0 _ (unhide HI).len (unhide HI).size (owns_all (unhide HO) (unhide HBS)) (unhide HC) (LI_names (unhide HI)) hfk).mono ?_; rintro e w2 ⟨rfl, hb2⟩)
      | (go_at_call 157; refine (rranged_calls l x f k b room _ (unhide HI) (unhide HR) hf1 hf2 hk1 hk2).mono ?_; rintro e w1 ⟨he, hbs⟩; rw [unhide HQ] at he; subst he; have c1 : w1.cell? ⟨b, 1, none⟩ = some (.slice (some ⟨g, 0, none⟩) l.length c) := (hbs.cell (p := ⟨b, 1, none⟩) hbl).trans (unhide HC1); have HBS := hide hbs; clear hbs))
    go_ret2
    exact ⟨by rw [unhide HF]; rfl, (unhide HBS).trans (hb2.mono (unhide HBS).size)⟩

end Go.Proofs.YtomiepknmmpflaaGreatDoor

/- The walk of the reference's Write. -/
namespace Go.Proofs.YtomiepknmmpflaaGreatDoor
open Go.RowKit Go.Joins

theorem kOld_bd (s : ByteArray) (i : Nat) : 0 ≤ kOld s i ∧ kOld s i ≤ 255 := by
  rcases kindOf_known (Ov.ent s i) with h | h | h <;> simp only [kOld, h] <;> omega
theorem bOld_size {s : ByteArray} (i : Nat) : (bOld s i).size ≤ 8 := by
  unfold bOld Ov.blockOf
  split
  · exact Nat.zero_le _
  · rw [ByteArray.size_extract]; omega
theorem backing_size {l : Ov.Files} {ns : List ByteArray} {x : ByteArray} (h : Ov.Chn l ns x) : (Ov.backing (fileOf l x)).size ≤ 8 := by
  have h8 : Ov.long (fileOf l x) ≤ 8 := h.image.1.2.2.2.2.2.2.1
  unfold Ov.backing
  rw [ByteArray.size_extract]
  omega
theorem kinds_old (s : ByteArray) (m : Nat) : Ov.kindsTo s m = (List.range m).map (kOld s) := rfl
theorem blocks_old (s : ByteArray) (m : Nat) : Ov.blocksTo s m = (List.range m).map (bOld s) := rfl

set_option maxRecDepth 100000 in
set_option maxHeartbeats 4000000 in
theorem rWrite_go (l : Ov.Files) (x d : ByteArray) (f b room : Nat) (w : World) (hi : Ov.LI room l) (h : RefRep w b room l) (hq : rangedF l x f d.size = 0) (hd : d.size ≠ 0) :
    Calls Tryz.prog 112 #[.pointer (some ⟨b, 0, none⟩), .string x, .int .i64 (f : Nat), .string d] w fun e w' => e = .returned (.int .i64 (writeF room l x f d).1) ∧ RefLeft w b room (writeF room l x f d).2 w' := by
  obtain ⟨hso, hp, hc, _, _, hfk⟩ := ranged_ok hq
  have hm := hc.many_le
  have hbk8 := backing_size hc
  obtain ⟨ns, hns⟩ : ∃ ns, (Ov.downOf l x).1 = ns := ⟨_, rfl⟩
  obtain ⟨s, hs⟩ : ∃ s, fileOf l x = s := ⟨_, rfl⟩
  have him := hc.image
  rw [show Ov.fileAt l (Ov.place l x) = s from hs] at him
  rw [hs] at hm hfk hbk8
  rw [hns] at hc
  obtain ⟨m, hme⟩ : ∃ m, Ov.many s = m := ⟨_, rfl⟩
  rw [hme] at hm hfk
  obtain ⟨hm1, hm30⟩ := hm
  have HF : Hid (writeF room l x f d = Ov.putF room l (Ov.withF l x (encode (Ov.backing s) (allTo m (kOld s) (fun _ => 1) (touched f d.size)) (allTo m (bOld s) (blockW l ns f d) (touched f d.size))))) := by
    unfold writeF newF
    rw [hq, if_neg (by omega), if_neg hd, hs, hme, hns]
    exact rfl
  have hk1 : 1 ≤ d.size := by omega
  obtain ⟨K, hK⟩ : ∃ K, allTo m (kOld s) (fun _ => 1) (touched f d.size) = K := ⟨_, rfl⟩
  obtain ⟨B, hB⟩ : ∃ B, allTo m (bOld s) (blockW l ns f d) (touched f d.size) = B := ⟨_, rfl⟩
  have hKb : ∀ i, i < m → 0 ≤ K.getD i 0 ∧ K.getD i 0 ≤ 255 := fun i hi => by
    rw [← hK, allTo_getD hi]
    have := kOld_bd s i
    split <;> omega
  have hBb : ∀ i, i < m → (B.getD i ⟨#[]⟩).size ≤ 8 := fun i hi => by
    rw [← hB, allTo_getD hi]
    split
    · rw [blockW_size]; omega
    · exact bOld_size i
  have hKl : K.length = m := by rw [← hK, allTo_length]
  obtain ⟨v, g1, g2, g3⟩ := id h
  obtain ⟨g, c, rfl⟩ := ownsRow_form g2 (by omega)
  have HR := hide h
  have HI := hide hi
  have HQ := hide hq
  have HC := hide hc
  have HS := hide hs
  have HIM := hide him
  have HME := hide hme
  have HK := hide hK
  have HB := hide hB
  have HKB := hide hKb
  have HBB := hide hBb
  have HG1 := hide g1
  have HG2 := hide g2
  have hl8 := hi.len
  have hwl : (Ov.withF l x (encode (Ov.backing s) K B)).length ≤ 9 := by rw [Ov.withF_length, if_pos hp]; omega
  have hes : (encode (Ov.backing s) K B).size ≤ 1000 := by
    have := encode_size (Ov.backing s) K B (fun j hj => hBb j (by omega))
    omega
  have HWS := hide (Ov.withF_size (x := x) (b := encode (Ov.backing s) K B) hi.size hes)
  have hroom := hi.room
  obtain ⟨bk, hbk⟩ : ∃ bk, Ov.backing s = bk := ⟨_, rfl⟩
  obtain ⟨lo, hlo⟩ : ∃ lo, Ov.lost s = lo := ⟨_, rfl⟩
  rw [hbk] at hbk8
  have HBK := hide hbk
  have HLO := hide hlo
  rw [hK, hB, hbk] at HF
  rw [hbk] at hwl HWS
  have hde : d.toList.isEmpty = false := by rw [ByteArray.toList_eq, ← Bool.not_eq_true, List.isEmpty_iff_length_eq_zero]; simp; intro e; rw [e] at hk1; exact absurd hk1 (by decide)
  have hds : d.size ≤ 240 := by omega
  clear h hi hq hc hs him hme hK hB hKb hBb g1 g2 g3 hp hso hns hes hbk hlo hKl hd
  go_enter Tryz.func112, Tryz.ntmps112
  go_wp2_with (first
    | (go_at_call 159; refine (rimage_calls l x s b room _ (unhide HI) ((unhide HR).kept (unhide HBS)) (by exact (unhide HC).here) (by exact unhide HS) (unhide HIM)).mono ?_; rintro e w2 ⟨ea, ec, ba, bc, he, hb2, h2, h3⟩; rw [unhide HME] at he h2 h3; rw [unhide HBK, unhide HLO] at he; subst he; have HB2 := hide hb2; have H2 := hide h2; have H3 := hide h3; clear hb2 h2 h3)
    | (go_at_call 157; refine (rranged_calls l x f d.size b room _ (unhide HI) (unhide HR) (by omega) (by omega) (by omega) (by omega)).mono ?_; rintro e w1 ⟨he, hbs⟩; rw [unhide HQ] at he; subst he; have HBS := hide hbs; clear hbs))
  obtain ⟨ge, ec', hve⟩ := ownsRow_form (unhide H2) (by omega)
  obtain ⟨rfl, rfl⟩ : ea = some ⟨ge, 0, none⟩ ∧ ec = ec' := (by simpa using hve)
  clear hve
  obtain ⟨gb, bc', hvb⟩ := ownsRow_form (unhide H3) (by omega)
  obtain ⟨rfl, rfl⟩ : ba = some ⟨gb, 0, none⟩ ∧ bc = bc' := (by simpa using hvb)
  clear hvb
  have him0 : RIm w1 bk lo m (partTo m (kOld s) (fun _ => (1 : Int)) (touched f d.size) (f / 8)) (partTo m (bOld s) (blockW l ns f d) (touched f d.size) (f / 8)) w2.heap.size (some ⟨ge, 0, none⟩) (some ⟨gb, 0, none⟩) ec bc (w2.alloc (.cells #[.string bk, .slice (some ⟨ge, 0, none⟩) m ec, .slice (some ⟨gb, 0, none⟩) m bc, .int .i64 lo] 240)) := by
    rw [partTo_none (fun i hi => by unfold touched; omega), partTo_none (fun i hi => by unfold touched; omega)]
    exact RIm.late (unhide HB2) (by rw [← kinds_old]; exact unhide H2) (by rw [← blocks_old]; exact unhide H3)
  have HIM0 := hide him0
  clear him0 H2 H3
  go_loopw [11] (fun i wr => ∃ n : Nat, f / 8 ≤ n ∧ n ≤ m ∧ i = .int .i64 (n : Nat) ∧ RIm w1 bk lo m (partTo m (kOld s) (fun _ => (1 : Int)) (touched f d.size) n) (partTo m (bOld s) (blockW l ns f d) (touched f d.size) n) w2.heap.size (some ⟨ge, 0, none⟩) (some ⟨gb, 0, none⟩) ec bc wr) (fun i _ => m - (intOf i).toNat)
  case atStart => exact ⟨f / 8, Nat.le_refl _, by omega, by simp, unhide HIM0⟩
  case round =>
    obtain ⟨n, hn1, hn2, rfl, hI⟩ := hrel
    by_cases hlt : 8 * n < f + d.size
    · have hnm : n < m := by omega
      have hI1 := hI.setK n 1
      have hr1 : RefRep (wr.setCell ⟨ge, n, none⟩ (.int .i64 1)) b room l := (unhide HR).kept ((unhide HBS).trans (hI1.below.mono (unhide HBS).size))
      have x1 := hI.read.2.1
      have fz1 := hI.ks.frozenAt n
      have ce1 := ints_cell hI.ks hnm
      have y2 := hI1.read.2.2.1
      have HI1 := hide hI1
      have HR1 := hide hr1
      obtain ⟨T, hT⟩ : ∃ T, blockW l ns f d n = T := ⟨_, rfl⟩
      have HT := hide hT
      have HSK : Hid (partTo m (kOld s) (fun _ => (1 : Int)) (touched f d.size) (n + 1) = (partTo m (kOld s) (fun _ => (1 : Int)) (touched f d.size) n).set n 1) := partTo_set (by unfold touched; omega)
      have HSB : Hid (partTo m (bOld s) (blockW l ns f d) (touched f d.size) (n + 1) = (partTo m (bOld s) (blockW l ns f d) (touched f d.size) n).set n T) := by rw [← hT]; exact partTo_set (by unfold touched; omega)
      clear hI hI1 hr1 hT
      go_wp2_with fail
      go_region_with (go_at_call 160; refine (rblock_calls l x d ns n f b room _ (unhide HI) (by exact unhide HR1) (unhide HC) (by omega) (by omega) hds).mono ?_; rintro e w3 ⟨he, hb3⟩; rw [unhide HT] at he; subst he; have hI3 := (unhide HI1).kept (((Below.refl _ _).drew).trans hb3); have z2 := hI3.read.2.2.1; have fz3 := hI3.bs.frozenAt n; have cb3 := texts_cell hI3.bs hnm; have HI3 := hide hI3; clear hI3 hb3)
      all_goals
        go_wp2_with fail
        go_roundw
        case rel => exact ⟨n + 1, by omega, by omega, by go_num, by rw [unhide HSK, unhide HSB]; exact (unhide HI3).setB n T⟩
        case measure => simp [intOf]; omega
    · have hI2 : RIm w1 bk lo m K B w2.heap.size (some ⟨ge, 0, none⟩) (some ⟨gb, 0, none⟩) ec bc wr := by
        rw [partTo_end (fun i h1 h2 => by unfold touched; omega), partTo_end (fun i h1 h2 => by unfold touched; omega)] at hI
        rw [← unhide HK, ← unhide HB]
        exact hI
      clear hI
      obtain ⟨x0, x1, x2, x3⟩ := hI2.read
      have hbs := unhide HBS
      have hbb := (unhide HBS).trans (hI2.below.mono (unhide HBS).size)
      have hbl : b < wr.heap.size := Nat.lt_of_lt_of_le (blk_lt (unhide HG1)) hbb.size
      have cb : wr.cell? ⟨b, 1, none⟩ = some (.slice (some ⟨g, 0, none⟩) l.length c) := blk_cell ((hbb.block b (blk_lt (unhide HG1))).trans (unhide HG1)) rfl
      have HI2 := hide hI2
      have HBB2 := hide hbb
      clear hI2 hbs hbb
      go_wp2_with fail
      go_region_with (first | (go_at_call 163; refine (rEncode_calls bk K B (some ⟨ge, 0, none⟩) (some ⟨gb, 0, none⟩) ec bc lo m w1.heap.size _ hbk8 hm30 (by exact (unhide HI2).ks) (by exact (unhide HI2).bs) (unhide HKB) (unhide HBB)).mono ?_; rintro e w4 ⟨rfl, hb4a⟩; have hb4 : Below wr.heap.size wr w4 := ((Below.refl wr.heap.size wr).drew).trans hb4a; have cb4 : w4.cell? ⟨b, 1, none⟩ = some (.slice (some ⟨g, 0, none⟩) l.length c) := (hb4.cell (p := ⟨b, 1, none⟩) hbl).trans cb) | (go_at_call 162; refine (rwith_calls l _ x (encode bk K B) 0 _ hl8 (by exact owns_all (owns_all (unhide HG2) (unhide HBB2)) hb4)).mono ?_; rintro e w5 ⟨v5, rfl, hb5, ho5⟩) | (go_at_call 161; refine (rput_calls (Ov.withF l x (encode bk K B)) v5 (.slice (some ⟨g, 0, none⟩) l.length c) b room w4.heap.size _ hwl hroom (by exact make_blk (unhide HG1) (unhide HBB2) hb4 hb5) ho5 (unhide HWS)).mono ?_; intro e w6 hp6; obtain ⟨rfl, hleft⟩ := (unhide HR).put (make_below (unhide HBB2) hb4 hb5) (make_own ho5 (unhide HBB2) hb4) hp6))
      all_goals (go_wp2_with fail; go_ret; exact ⟨by rw [unhide HF]; rfl, by rw [unhide HF]; exact hleft⟩)

end Go.Proofs.YtomiepknmmpflaaGreatDoor

/- The walk of the reference's Write, whole. -/
namespace Go.Proofs.YtomiepknmmpflaaGreatDoor
open Go.RowKit Go.Joins

theorem empty_of {d : ByteArray} (h : d.size = 0) : d.toList.isEmpty = true := by rw [ByteArray.toList_eq, List.isEmpty_iff_length_eq_zero]; simpa using h

set_option maxRecDepth 100000 in
set_option maxHeartbeats 1000000 in
theorem rWrite_calls (l : Ov.Files) (x d : ByteArray) (f : Int) (b room : Nat) (w : World) (hi : Ov.LI room l) (h : RefRep w b room l) (hf1 : -9223372036854775808 ≤ f) (hf2 : f ≤ 9223372036854775807) (hd : d.size ≤ 9223372036854775807) :
    Calls Tryz.prog 112 #[.pointer (some ⟨b, 0, none⟩), .string x, .int .i64 f, .string d] w fun e w' => e = .returned (.int .i64 (writeF room l x f d).1) ∧ RefLeft w b room (writeF room l x f d).2 w' := by
  obtain ⟨q, hq⟩ : ∃ q, rangedF l x f d.size = q := ⟨_, rfl⟩
  by_cases hq0 : q = 0
  case neg =>
    have hqn : (q != 0) = true := by rw [bne_iff_ne]; exact hq0
    have HF : Hid (writeF room l x f d = (q, l)) := by unfold writeF; rw [hq, if_pos hq0]; exact rfl
    have HR := hide h
    have HI := hide hi
    have HQ := hide hq
    clear hq h hi
    go_enter Tryz.func112, Tryz.ntmps112
    go_wp2_with (go_at_call 157; refine (rranged_calls l x f d.size b room _ (unhide HI) (unhide HR) hf1 hf2 (by omega) (by omega)).mono ?_; rintro e w1 ⟨he, hbs⟩; rw [unhide HQ] at he; subst he)
    go_ret
    exact ⟨by rw [unhide HF]; rfl, by rw [unhide HF]; exact (unhide HR).same hbs⟩
  case pos =>
    subst hq0
    by_cases hd0 : d.size = 0
    · have HF : Hid (writeF room l x f d = (0, l)) := by unfold writeF; rw [hq, if_neg (by omega), if_pos hd0]; exact rfl
      have hde := empty_of hd0
      have HR := hide h
      have HI := hide hi
      have HQ := hide hq
      have hd1 : d.size ≤ 0 := by omega
      clear hq h hi hd0
      go_enter Tryz.func112, Tryz.ntmps112
      go_wp2_with (go_at_call 157; refine (rranged_calls l x f d.size b room _ (unhide HI) (unhide HR) hf1 hf2 (by omega) (by omega)).mono ?_; rintro e w1 ⟨he, hbs⟩; rw [unhide HQ] at he; subst he)
      go_ret
      exact ⟨by rw [unhide HF]; rfl, by rw [unhide HF]; exact (unhide HR).same hbs⟩
    · obtain ⟨_, _, _, hf0, _⟩ := ranged_ok hq
      obtain ⟨f, rfl⟩ := Int.eq_ofNat_of_zero_le hf0
      exact rWrite_go l x d f b room w hi h hq hd0

end Go.Proofs.YtomiepknmmpflaaGreatDoor
