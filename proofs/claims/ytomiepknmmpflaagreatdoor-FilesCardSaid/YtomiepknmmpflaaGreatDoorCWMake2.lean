/- The walk of the reference's Make, over a backing; and Make whole. -/
import Derived.Test.YtomiepknmmpflaaGreatDoorCWMake
namespace Go.Proofs.YtomiepknmmpflaaGreatDoor
open Go.RowKit Go.Joins

set_option maxRecDepth 100000 in
set_option maxHeartbeats 2000000 in
theorem rMake_over (l : Ov.Files) (x bk : ByteArray) (n b room : Nat) (w : World) (hi : Ov.LI room l) (h : RefRep w b room l) (hn : Ov.nameB x = true) (hn1 : 1 ≤ n) (hn30 : n ≤ 30) (h8 : ((l.length : Int) == 8) = false) (hp : ¬ Ov.place l x < l.length) (hb0 : bk.toList.isEmpty = false) (hso : Ov.soundF l bk = 0) (hbk8 : bk.size ≤ 8) (hF : makeF room l x n bk = Ov.putF room l (Ov.withF l x (encode bk (noKinds n) (noBlocks n)))) :
    Calls Tryz.prog 121 #[.pointer (some ⟨b, 0, none⟩), .string x, .int .i64 n, .string bk] w fun e w' => e = .returned (.int .i64 (makeF room l x n bk).1) ∧ RefLeft w b room (makeF room l x n bk).2 w' := by
  obtain ⟨v, h1, h2, h3⟩ := id h
  have HR := hide h
  obtain ⟨a, c, rfl⟩ := owns_slice h2
  have c1 : w.cell? ⟨b, 1, none⟩ = some (.slice a l.length c) := blk_cell h1 rfl
  have HO := hide h2
  have HB := hide h1
  have HI := hide hi
  have hl8 := hi.len
  have hbl0 := blk_lt h1
  clear h h1 h2 h3 hi
  have hfd : Ov.find l x = -1 := Ov.find_no hp
  have hwl : (Ov.withF l x (encode bk (noKinds n) (noBlocks n))).length ≤ 9 := by rw [Ov.withF_length, if_neg hp]; omega
  have HWS := hide (Ov.withF_size (x := x) (b := encode bk (noKinds n) (noBlocks n)) (unhide HI).size (blank_size hbk8 hn30))
  have hroom := (unhide HI).room
  have HF := hide hF
  clear hF
  have mi := make_ints n hn30
  have mt := make_texts n hn30
  go_enter Tryz.func121, Tryz.ntmps121
  go_upto_region 12 with (first | (go_at_call 164; refine (rsound_calls l bk b room _ (unhide HI) (unhide HR)).mono ?_; rintro e w1 ⟨rfl, hbs⟩; have HBS := hide hbs; clear hbs) | (go_at_call 168; refine (rIsName_calls _ _).mono ?_; rintro e w' ⟨rfl, hw⟩; obtain rfl := hw.symm) | (go_at_call 166; refine (rFind_calls l _ x 0 _ hl8 (unhide HO)).mono ?_; rintro e w' ⟨rfl, rfl⟩))
  have HO1 := hide (owns_all (unhide HO) (unhide HBS))
  have HB1 : Hid (w1.heap[b]? = some (.cells #[.int .i64 room, .slice a l.length c] 180 (0, 0))) := ((unhide HBS).block b hbl0).trans (unhide HB)
  have HR1 := hide ((unhide HR).kept (unhide HBS))
  have hbl1 : b < w1.heap.size := Nat.lt_of_lt_of_le hbl0 (unhide HBS).size
  go_cut [11] from 45 (fun p W => ∃ X ge gb, MK bk n w1 p W X ge gb)
  case first =>
    go_region
    all_goals (go_wp2_with fail; go_meet)
    all_goals (clear mi mt)
    all_goals first
      | exact ⟨w1.heap.size, w1.heap.size + 1, w1.heap.size + 1 + 1, rfl, (below_alloc3 w1 _ _ _).drew, three0 w1 _ _ _, three1 w1 _ _ _, three2 w1 _ _ _⟩
      | exact ⟨w1.heap.size, w1.heap.size + 1 + 1, w1.heap.size + 1, rfl, (below_alloc3 w1 _ _ _).drew, three0 w1 _ _ _, three2 w1 _ _ _, three1 w1 _ _ _⟩
      | exact ⟨w1.heap.size + 1, w1.heap.size, w1.heap.size + 1 + 1, rfl, (below_alloc3 w1 _ _ _).drew, three1 w1 _ _ _, three0 w1 _ _ _, three2 w1 _ _ _⟩
      | exact ⟨w1.heap.size + 1, w1.heap.size + 1 + 1, w1.heap.size, rfl, (below_alloc3 w1 _ _ _).drew, three1 w1 _ _ _, three2 w1 _ _ _, three0 w1 _ _ _⟩
      | exact ⟨w1.heap.size + 1 + 1, w1.heap.size, w1.heap.size + 1, rfl, (below_alloc3 w1 _ _ _).drew, three2 w1 _ _ _, three0 w1 _ _ _, three1 w1 _ _ _⟩
      | exact ⟨w1.heap.size + 1 + 1, w1.heap.size + 1, w1.heap.size, rfl, (below_alloc3 w1 _ _ _).drew, three2 w1 _ _ _, three1 w1 _ _ _, three0 w1 _ _ _⟩
  case rest =>
    obtain ⟨X, ge, gb, hK⟩ := hcut
    obtain rfl := hK.ptr
    have HK := hide hK
    have x0 : wc.cell? ⟨X, 0, none⟩ = some (.string bk) := blk_cell hK.x rfl
    have x1 : wc.cell? ⟨X, 1, none⟩ = some (.slice (some ⟨ge, 0, none⟩) n n) := blk_cell hK.x rfl
    have x2 : wc.cell? ⟨X, 2, none⟩ = some (.slice (some ⟨gb, 0, none⟩) n n) := blk_cell hK.x rfl
    have x3 : wc.cell? ⟨X, 3, none⟩ = some (.int .i64 0) := blk_cell hK.x rfl
    have cb : wc.cell? ⟨b, 1, none⟩ = some (.slice a l.length c) := blk_cell ((hK.below.block b (blk_lt (unhide HB1))).trans (unhide HB1)) rfl
    have hn9 : n ≤ 30 := hn30
    have hbl : b < wc.heap.size := Nat.lt_of_lt_of_le hbl1 hK.below.size
    clear hK mi mt c1
    go_wp2_with fail
    go_region_with (first | (go_at_call 163; refine (rEncode_calls bk (noKinds n) (noBlocks n) (some ⟨ge, 0, none⟩) (some ⟨gb, 0, none⟩) n n 0 n 0 _ hbk8 hn9 (by exact owns_ints hn9 (Nat.zero_le _) (unhide HK).e) (by exact owns_texts hn9 (Nat.zero_le _) (unhide HK).b) (fun k _ => by rw [noKinds_getD]; omega) (fun k _ => by rw [noBlocks_getD]; exact Nat.zero_le _)).mono ?_; rintro e w2 ⟨rfl, hb2a⟩; have hb2 : Below wc.heap.size wc w2 := ((Below.refl wc.heap.size wc).drew).trans hb2a; have cb2 : w2.cell? ⟨b, 1, none⟩ = some (.slice a l.length c) := (hb2.cell (p := ⟨b, 1, none⟩) hbl).trans cb) | (go_at_call 162; refine (rwith_calls l _ x (encode bk (noKinds n) (noBlocks n)) 0 _ hl8 (by exact owns_all (owns_all (unhide HO1) (unhide HK).below) hb2)).mono ?_; rintro e w3 ⟨v3, rfl, hb3, ho3⟩) | (go_at_call 161; refine (rput_calls (Ov.withF l x (encode bk (noKinds n) (noBlocks n))) v3 (.slice a l.length c) b room w2.heap.size _ hwl hroom (by exact make_blk (unhide HB1) (unhide HK).below hb2 hb3) ho3 (unhide HWS)).mono ?_; intro e w4 hp4; obtain ⟨rfl, hleft⟩ := (unhide HR1).put (make_below (unhide HK).below hb2 hb3) (make_own ho3 (unhide HK).below hb2) hp4))
    all_goals (go_wp2_with fail; go_ret; exact ⟨by rw [unhide HF]; rfl, by rw [unhide HF]; exact ⟨hleft.rep, grown_trans (grown_of_below (unhide HBS) _) hleft.grown⟩⟩)

set_option maxRecDepth 100000 in
set_option maxHeartbeats 400000 in
theorem rMake_no (l : Ov.Files) (x bk : ByteArray) (n : Int) (b room : Nat) (w : World) (hi : Ov.LI room l) (h : RefRep w b room l)
    (hcase : Ov.nameB x = false ∨ (Ov.nameB x = true ∧ (n < 1 ∨ (1 ≤ n ∧ 30 < n) ∨ (1 ≤ n ∧ n ≤ 30 ∧ l.length = 8))) ∨ (Ov.nameB x = true ∧ 1 ≤ n ∧ n ≤ 30 ∧ l.length ≠ 8 ∧ Ov.place l x < l.length) ∨ (Ov.nameB x = true ∧ 1 ≤ n ∧ n ≤ 30 ∧ l.length ≠ 8 ∧ ¬ Ov.place l x < l.length ∧ bk.size ≠ 0 ∧ Ov.soundF l bk ≠ 0)) :
    Calls Tryz.prog 121 #[.pointer (some ⟨b, 0, none⟩), .string x, .int .i64 n, .string bk] w fun e w' => e = .returned (.int .i64 (makeF room l x n bk).1) ∧ RefLeft w b room (makeF room l x n bk).2 w' := by
  obtain ⟨v, h1, h2, h3⟩ := id h
  have HR := hide h
  obtain ⟨a, c, rfl⟩ := owns_slice h2
  have c1 : w.cell? ⟨b, 1, none⟩ = some (.slice a l.length c) := blk_cell h1 rfl
  have HO := hide h2
  have HI := hide hi
  have hl8 := hi.len
  clear h h1 h2 h3 hi
  rcases hcase with hn | ⟨hn, hx | ⟨hn1, hx⟩ | ⟨hn1, hn30, h8⟩⟩ | ⟨hn, hn1, hn30, h8, hp⟩ | ⟨hn, hn1, hn30, h8, hp, hb0, hso⟩
  · have HF : Hid (makeF room l x n bk = (2, l)) := by unfold makeF; rw [if_pos hn]; exact rfl
    go_enter Tryz.func121, Tryz.ntmps121
    go_wp2_with (go_at_call 168; refine (rIsName_calls _ _).mono ?_; rintro e w' ⟨rfl, hw⟩; obtain rfl := hw.symm)
    go_ret
    exact ⟨by rw [unhide HF]; rfl, by rw [unhide HF]; exact (unhide HR).here⟩
  · have HF : Hid (makeF room l x n bk = (1, l)) := by unfold makeF; rw [if_neg (by rw [hn]; simp), if_pos (Or.inl hx)]; exact rfl
    go_enter Tryz.func121, Tryz.ntmps121
    go_wp2_with (go_at_call 168; refine (rIsName_calls _ _).mono ?_; rintro e w' ⟨rfl, hw⟩; obtain rfl := hw.symm)
    go_ret
    exact ⟨by rw [unhide HF]; rfl, by rw [unhide HF]; exact (unhide HR).here⟩
  · have HF : Hid (makeF room l x n bk = (1, l)) := by unfold makeF; rw [if_neg (by rw [hn]; simp), if_pos (Or.inr (Or.inl hx))]; exact rfl
    go_enter Tryz.func121, Tryz.ntmps121
    go_wp2_with (go_at_call 168; refine (rIsName_calls _ _).mono ?_; rintro e w' ⟨rfl, hw⟩; obtain rfl := hw.symm)
    go_ret
    exact ⟨by rw [unhide HF]; rfl, by rw [unhide HF]; exact (unhide HR).here⟩
  · have HF : Hid (makeF room l x n bk = (1, l)) := by unfold makeF; rw [if_neg (by rw [hn]; simp), if_pos (Or.inr (Or.inr h8))]; exact rfl
    have hq : ((l.length : Int) == 8) = true := beq_iff_eq.2 (by omega)
    clear h8
    go_enter Tryz.func121, Tryz.ntmps121
    go_wp2_with (go_at_call 168; refine (rIsName_calls _ _).mono ?_; rintro e w' ⟨rfl, hw⟩; obtain rfl := hw.symm)
    go_ret
    exact ⟨by rw [unhide HF]; rfl, by rw [unhide HF]; exact (unhide HR).here⟩
  · have HF : Hid (makeF room l x n bk = (3, l)) := by unfold makeF; rw [if_neg (by rw [hn]; simp), if_neg (by omega), if_pos hp]; exact rfl
    have hq : ((l.length : Int) == 8) = false := beq_eq_false_iff_ne.2 (by omega)
    have hfd : Ov.find l x = (Ov.place l x : Int) := Ov.find_yes hp
    clear h8
    go_enter Tryz.func121, Tryz.ntmps121
    go_wp2_with (first | (go_at_call 168; refine (rIsName_calls _ _).mono ?_; rintro e w' ⟨rfl, hw⟩; obtain rfl := hw.symm) | (go_at_call 166; refine (rFind_calls l _ x 0 _ hl8 (unhide HO)).mono ?_; rintro e w' ⟨rfl, rfl⟩))
    go_ret
    exact ⟨by rw [unhide HF]; rfl, by rw [unhide HF]; exact (unhide HR).here⟩
  · have HF : Hid (makeF room l x n bk = (Ov.soundF l bk, l)) := by unfold makeF; rw [if_neg (by rw [hn]; simp), if_neg (by omega), if_neg hp, if_pos ⟨hb0, hso⟩]; exact rfl
    have hq : ((l.length : Int) == 8) = false := beq_eq_false_iff_ne.2 (by omega)
    have hfd : Ov.find l x = -1 := Ov.find_no hp
    have hbe : bk.toList.isEmpty = false := by rw [ByteArray.toList_eq, ← Bool.not_eq_true, List.isEmpty_iff_length_eq_zero]; simpa using hb0
    obtain ⟨q, hqe⟩ : ∃ q, Ov.soundF l bk = q := ⟨_, rfl⟩
    rw [hqe] at HF hso
    have hqn : (q != 0) = true := by rw [bne_iff_ne]; exact hso
    clear h8 hb0
    go_enter Tryz.func121, Tryz.ntmps121
    go_wp2_with (first | (go_at_call 168; refine (rIsName_calls _ _).mono ?_; rintro e w' ⟨rfl, hw⟩; obtain rfl := hw.symm) | (go_at_call 166; refine (rFind_calls l _ x 0 _ hl8 (unhide HO)).mono ?_; rintro e w' ⟨rfl, rfl⟩) | (go_at_call 164; refine (rsound_calls l bk b room _ (unhide HI) (unhide HR)).mono ?_; rintro e w1 ⟨rfl, hbs⟩))
    go_ret
    exact ⟨by rw [unhide HF]; rfl, by rw [unhide HF]; exact (unhide HR).same hbs⟩

theorem rMake_calls (l : Ov.Files) (x bk : ByteArray) (n : Int) (b room : Nat) (w : World) (hi : Ov.LI room l) (h : RefRep w b room l) :
    Calls Tryz.prog 121 #[.pointer (some ⟨b, 0, none⟩), .string x, .int .i64 n, .string bk] w fun e w' => e = .returned (.int .i64 (makeF room l x n bk).1) ∧ RefLeft w b room (makeF room l x n bk).2 w' := by
  cases hn : Ov.nameB x
  · exact rMake_no l x bk n b room w hi h (Or.inl hn)
  by_cases hn1 : n < 1
  · exact rMake_no l x bk n b room w hi h (Or.inr (Or.inl ⟨hn, Or.inl hn1⟩))
  by_cases hn30 : 30 < n
  · exact rMake_no l x bk n b room w hi h (Or.inr (Or.inl ⟨hn, Or.inr (Or.inl ⟨by omega, hn30⟩)⟩))
  by_cases h8 : l.length = 8
  · exact rMake_no l x bk n b room w hi h (Or.inr (Or.inl ⟨hn, Or.inr (Or.inr ⟨by omega, by omega, h8⟩)⟩))
  by_cases hp : Ov.place l x < l.length
  · exact rMake_no l x bk n b room w hi h (Or.inr (Or.inr (Or.inl ⟨hn, by omega, by omega, h8, hp⟩)))
  obtain ⟨m, rfl⟩ := Int.eq_ofNat_of_zero_le (show 0 ≤ n by omega)
  have hq : ((l.length : Int) == 8) = false := beq_eq_false_iff_ne.2 (by omega)
  by_cases hb0 : bk.size = 0
  · have hbe : bk.toList.isEmpty = true := by rw [ByteArray.toList_eq, List.isEmpty_iff_length_eq_zero]; simpa using hb0
    exact rMake_tail l x bk m b room w hi h hn (by omega) (by omega) hq hp hbe (by omega) (by unfold makeF blank; rw [if_neg (by rw [hn]; simp), if_neg (by omega), if_neg hp, if_neg (by omega), Int.toNat_natCast])
  have hbe : bk.toList.isEmpty = false := by rw [ByteArray.toList_eq, ← Bool.not_eq_true, List.isEmpty_iff_length_eq_zero]; simpa using hb0
  by_cases hso : Ov.soundF l bk = 0
  · have hpb : Ov.place l bk < l.length := by
      by_cases hpb : Ov.place l bk < l.length
      · exact hpb
      · unfold Ov.soundF at hso; rw [if_neg hpb] at hso; omega
    exact rMake_over l x bk m b room w hi h hn (by omega) (by omega) hq hp hbe hso (hi.name_size hpb) (by unfold makeF blank; rw [if_neg (by rw [hn]; simp), if_neg (by omega), if_neg hp, if_neg (by omega), Int.toNat_natCast])
  · exact rMake_no l x bk m b room w hi h (Or.inr (Or.inr (Or.inr ⟨hn, by omega, by omega, h8, hp, hb0, hso⟩)))

end Go.Proofs.YtomiepknmmpflaaGreatDoor
