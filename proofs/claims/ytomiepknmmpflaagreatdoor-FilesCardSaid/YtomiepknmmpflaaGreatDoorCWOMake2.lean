/- The program's Make, whole. -/
import Derived.Test.YtomiepknmmpflaaGreatDoorCWOMake
namespace Go.Proofs.YtomiepknmmpflaaGreatDoor
open Go.RowKit Go.Joins

theorem oMake_calls (l : Ov.Files) (x bk : ByteArray) (n : Int) (b B : Nat) (r : Option Nat) (room : Nat) (s0 s1 s2 s3 : Addr) (w : World) (hi : Ov.LI room l) (h : OvRep w b r room l) (hs : Sents w B s0 s1 s2 s3) (hB : B ≤ b) :
    Calls Tryz.prog 38 #[.pointer (some ⟨b, 0, none⟩), .string x, .int .i64 n, .string bk] w fun e w' => e = .returned (.int .i64 (makeF room l x n bk).1) ∧ OvLeft w b r room (makeF room l x n bk).2 w' := by
  have hl8 := hi.len
  cases hn : Ov.nameB x
  · have e : makeF room l x n bk = (2, l) := by unfold makeF; rw [if_pos hn]
    rw [e]; exact oMake_name l x bk n b r room w hi h hn
  by_cases hn1 : n < 1
  · have e : makeF room l x n bk = (1, l) := by unfold makeF; rw [if_neg (by rw [hn]; simp), if_pos (Or.inl hn1)]
    rw [e]; exact oMake_few l x bk n b r room w hi h hn hn1
  by_cases hn30 : 30 < n
  · have e : makeF room l x n bk = (1, l) := by unfold makeF; rw [if_neg (by rw [hn]; simp), if_pos (Or.inr (Or.inl hn30))]
    rw [e]; exact oMake_many l x bk n b r room w hi h hn (by omega) hn30
  by_cases h8 : l.length = 8
  · have e : makeF room l x n bk = (1, l) := by unfold makeF; rw [if_neg (by rw [hn]; simp), if_pos (Or.inr (Or.inr h8))]
    rw [e]; exact oMake_files l x bk n b r room w hi h hn (by omega) (by omega) h8
  by_cases hp : Ov.place l x < l.length
  · have e : makeF room l x n bk = (3, l) := by unfold makeF; rw [if_neg (by rw [hn]; simp), if_neg (by omega), if_pos hp]
    rw [e]; exact oMake_here l x bk n b r room w hi h hn (by omega) (by omega) (by omega) hp
  obtain ⟨m, rfl⟩ := Int.eq_ofNat_of_zero_le (show 0 ≤ n by omega)
  by_cases hb0 : bk.size = 0
  · have hbe : bk.toList.isEmpty = true := by rw [ByteArray.toList_eq, List.isEmpty_iff_length_eq_zero]; simpa using hb0
    have hsz := blank_size (bk := bk) (n := m) (by omega) (by omega)
    unfold blank at hsz
    have hT := addUp_total hi x _ hsz
    have e : makeF room l x m bk = Ov.putF room l (Ov.withF l x (encode bk (noKinds m) (noBlocks m))) := by
      unfold makeF blank; rw [if_neg (by rw [hn]; simp), if_neg (by omega), if_neg hp, if_neg (by omega), Int.toNat_natCast]
    by_cases hrm : room < Ov.total (Ov.withF l x (encode bk (noKinds m) (noBlocks m)))
    · rw [e, show Ov.putF room l (Ov.withF l x (encode bk (noKinds m) (noBlocks m))) = (9, l) from by unfold Ov.putF; rw [if_pos hrm]]
      exact oMake_alone_full l x bk m b r room w hi h hn (by omega) (by omega) (by omega) hp hbe (by omega) (by rw [hT]; omega)
    · rw [e, show Ov.putF room l (Ov.withF l x (encode bk (noKinds m) (noBlocks m))) = (0, Ov.withF l x (encode bk (noKinds m) (noBlocks m))) from by unfold Ov.putF; rw [if_neg hrm]]
      exact oMake_alone l x bk m b r room w hi h hn (by omega) (by omega) (by omega) hp hbe (by omega) (by rw [hT]; omega)
  have hbe : bk.toList.isEmpty = false := by rw [ByteArray.toList_eq, ← Bool.not_eq_true, List.isEmpty_iff_length_eq_zero]; simpa using hb0
  by_cases hso : Ov.soundF l bk = 0
  · have hpb : Ov.place l bk < l.length := by
      by_cases hpb : Ov.place l bk < l.length
      · exact hpb
      · unfold Ov.soundF at hso; rw [if_neg hpb] at hso; omega
    have hdo : (Ov.downOf l bk).2.1 = 0 := by unfold Ov.soundF at hso; rw [if_pos hpb] at hso; exact hso
    have hb8 := hi.name_size hpb
    have hsz := blank_size (bk := bk) (n := m) hb8 (by omega)
    unfold blank at hsz
    have hT := addUp_total hi x _ hsz
    have e : makeF room l x m bk = Ov.putF room l (Ov.withF l x (encode bk (noKinds m) (noBlocks m))) := by
      unfold makeF blank; rw [if_neg (by rw [hn]; simp), if_neg (by omega), if_neg hp, if_neg (by omega), Int.toNat_natCast]
    by_cases hrm : room < Ov.total (Ov.withF l x (encode bk (noKinds m) (noBlocks m)))
    · rw [e, show Ov.putF room l (Ov.withF l x (encode bk (noKinds m) (noBlocks m))) = (9, l) from by unfold Ov.putF; rw [if_pos hrm]]
      exact oMake_over_full l x bk m b r room w hi h B s0 s1 s2 s3 hs hB hn (by omega) (by omega) (by omega) hp hbe hpb hdo hb8 (by rw [hT]; omega)
    · rw [e, show Ov.putF room l (Ov.withF l x (encode bk (noKinds m) (noBlocks m))) = (0, Ov.withF l x (encode bk (noKinds m) (noBlocks m))) from by unfold Ov.putF; rw [if_neg hrm]]
      exact oMake_over l x bk m b r room w hi h B s0 s1 s2 s3 hs hB hn (by omega) (by omega) (by omega) hp hbe hpb hdo hb8 (by rw [hT]; omega)
  · have e : makeF room l x m bk = (Ov.soundF l bk, l) := by unfold makeF; rw [if_neg (by rw [hn]; simp), if_neg (by omega), if_neg hp, if_pos ⟨hb0, hso⟩]
    rw [e]; exact oMake_unsound l x bk m b r room w hi h B s0 s1 s2 s3 hs hB hn (by omega) (by omega) (by omega) hp hbe hso

end Go.Proofs.YtomiepknmmpflaaGreatDoor
