/- The reference's View of no image: noughts. -/
import Derived.Test.YtomiepknmmpflaaGreatDoorKWOpenAt
import Derived.Test.YtomiepknmmpflaaGreatDoorKWDiscard
import Derived.Test.YtomiepknmmpflaaGreatDoorKWMany
namespace Go.Proofs.YtomiepknmmpflaaGreatDoor
open Go.RowKit Go.Joins

theorem isE_of {x : ByteArray} (h : x.size = 0) : x.toList.isEmpty = true := by rw [ByteArray.toList_eq, List.isEmpty_iff_length_eq_zero]; simpa using h
theorem nonempty_of {x : ByteArray} (h : x.size ≠ 0) : x.toList.isEmpty = false := by
  rw [ByteArray.toList_eq, Bool.eq_false_iff]
  intro e
  rw [List.isEmpty_iff_length_eq_zero] at e
  exact h (by simpa using e)
end Go.Proofs.YtomiepknmmpflaaGreatDoor

namespace Go.Proofs.YtomiepknmmpflaaGreatDoor
open Go.RowKit Go.Joins

def overN (l : Ov.Files) (bk : ByteArray) : List ByteArray := if bk.size = 0 then [] else (Ov.downOf l bk).1
abbrev rebC (l : Ov.Files) (s : ByteArray) (nx nb : List ByteArray) (i : Nat) : Prop := kOld s i = 0 ∧ viewF l nx (8 * i) 8 ≠ viewF l nb (8 * i) 8
abbrev rebD (l : Ov.Files) (s : ByteArray) (nx nb : List ByteArray) (i : Nat) : Prop := rebC l s nx nb i ∧ viewF l nx (8 * i) 8 ≠ noughtsF 8
def rebK (l : Ov.Files) (nx : List ByteArray) (i : Nat) : Int := if viewF l nx (8 * i) 8 = noughtsF 8 then 255 else 1
def rebaseF (room : Nat) (l : Ov.Files) (x bk : ByteArray) : Int × Ov.Files :=
  if Ov.soundF l x ≠ 0 then (Ov.soundF l x, l)
  else if bk.size ≠ 0 ∧ Ov.soundF l bk ≠ 0 then (Ov.soundF l bk, l)
  else if Ov.metB (overN l bk) x = true then (8, l)
  else Ov.putF room l (Ov.withF l x (encode bk (allTo (Ov.many (fileOf l x)) (kOld (fileOf l x)) (rebK l (Ov.downOf l x).1) (rebC l (fileOf l x) (Ov.downOf l x).1 (overN l bk)))
    (allTo (Ov.many (fileOf l x)) (bOld (fileOf l x)) (fun i => viewF l (Ov.downOf l x).1 (8 * i) 8) (rebD l (fileOf l x) (Ov.downOf l x).1 (overN l bk)))))
theorem viewF_size (l : Ov.Files) (ns : List ByteArray) (f k : Nat) : (viewF l ns f k).size = k := by unfold viewF; rw [strOfNums_size, viewTo_length]
end Go.Proofs.YtomiepknmmpflaaGreatDoor

namespace Go.Proofs.YtomiepknmmpflaaGreatDoor
open Go.RowKit Go.Joins

def readK (l : Ov.Files) (x : ByteArray) : ByteArray × Bool := if Ov.soundF l x = 0 then (viewF l (Ov.downOf l x).1 0 (8 * Ov.many (fOf l x)), true) else (⟨#[]⟩, false)
theorem sound_check {l : Ov.Files} {x : ByteArray} (h : Ov.soundF l x = 0) : (checkF l x).2 = 0 ∧ Ov.many (fOf l x) ≤ 30 := by
  obtain ⟨hp, hc⟩ := sound_here h
  refine ⟨?_, hc.many_le.2⟩
  unfold checkF
  rw [if_pos hp, if_pos ((Ov.imageB_iff _).2 hc.image)]
theorem many_bd (l : Ov.Files) (x : ByteArray) : -1 ≤ manyK l x ∧ manyK l x ≤ 240 := by
  unfold manyK
  split
  · omega
  · rename_i h
    obtain ⟨_, him, _⟩ := check_ok (show (checkF l x).2 = 0 by omega)
    have : Ov.many (fOf l x) ≤ 30 := him.1.2.2.2.2.2.1
    omega

set_option maxRecDepth 100000 in
set_option maxHeartbeats 2000000 in
theorem kread_calls (x : ByteArray) (B b : Nat) (P : List Nat) (s0 s1 s2 s3 : Addr) (room : Nat) (l : Ov.Files) (w : World) (h : KW w B b P s0 s1 s2 s3 room l) :
    Calls Tryz.prog 26 #[.pointer (some ⟨b, 0, none⟩), .string x] w (KPost (.tuple #[.string (readK l x).1, .bool (readK l x).2]) B b P s0 s1 s2 s3 room l w) := by
  have HM := hide (kmany_calls x B b P s0 s1 s2 s3 room l w h)
  have hbd := many_bd l x
  have HRD := hide (fun (w1 : World) (h1 : KW w1 B b P s0 s1 s2 s3 room l) => kRead h1 x 0 (manyK l x) ⟨by omega, by omega⟩ ⟨by omega, by omega⟩)
  have hBz : B ≤ w.heap.size := h.un.se.size
  by_cases hso : Ov.soundF l x = 0
  · obtain ⟨hck, hm30⟩ := sound_check hso
    have hmk : manyK l x = ((8 * Ov.many (fOf l x) : Nat) : Int) := by unfold manyK; rw [if_neg (fun q => q hck)]
    have HK : Hid (readK l x = (viewF l (Ov.downOf l x).1 0 (8 * Ov.many (fOf l x)), true)) := if_pos hso
    obtain ⟨n, hn⟩ : ∃ n, 8 * Ov.many (fOf l x) = n := ⟨_, rfl⟩
    rw [hn] at hmk HK
    have hrf : readF l x 0 (n : Int) = (viewF l (Ov.downOf l x).1 0 n, 0) := by
      have hr : rangedF l x 0 (n : Int) = 0 := by
        unfold rangedF
        rw [if_neg (fun q => q hso), if_neg (by show ¬ _; have : fileOf l x = fOf l x := rfl; rw [this]; omega)]
      unfold readF
      rw [if_neg (by omega)]
      simp
    rw [hmk] at HM HRD
    rw [hrf] at HRD
    obtain ⟨t, ht⟩ : ∃ t, viewF l (Ov.downOf l x).1 0 n = t := ⟨_, rfl⟩
    have hts : t.size = n := by rw [← ht]; exact viewF_size _ _ _ _
    rw [ht] at HRD HK
    have e1 : ((t.size : Int) == (n : Int)) = true := by rw [hts]; simp
    clear h hbd hso hck hmk hrf hn ht hts
    go_enter Tryz.func26, Tryz.ntmps26
    go_wp2_with (first
      | (go_at_call 33; refine (unhide HRD _ (unhide HK1).1).mono ?_; rintro e w2 ⟨rfl, hk2⟩; have HK2 := hide hk2; clear hk2)
      | (go_at_call 49; refine (unhide HM).mono ?_; rintro e w1 ⟨rfl, hk1⟩; have HK1 := hide hk1; clear hk1))
    go_ret2
    exact ⟨by rw [unhide HK]; rfl, (unhide HK2).1, (unhide HK1).2.trans (unhide HK2).2⟩
  · have HK : Hid (readK l x = (⟨#[]⟩, false)) := if_neg hso
    by_cases hck : (checkF l x).2 = 0
    · have hmk : 0 ≤ manyK l x := by unfold manyK; rw [if_neg (fun q => q hck)]; omega
      have hrf : readF l x 0 (manyK l x) = (⟨#[]⟩, Ov.soundF l x) := by
        have hr : rangedF l x 0 (manyK l x) = Ov.soundF l x := by unfold rangedF; rw [if_pos hso]
        unfold readF
        rw [hr, if_pos hso]
      rw [hrf] at HRD
      obtain ⟨n, hn⟩ : ∃ n, manyK l x = n := ⟨_, rfl⟩
      obtain ⟨q, hq⟩ : ∃ q, Ov.soundF l x = q := ⟨_, rfl⟩
      rw [hn] at HM HRD hmk hbd
      rw [hq] at HRD hso
      have e1 : (q == 0) = false := beq_eq_false_iff_ne.2 hso
      clear h hck hrf hn hq hso
      go_enter Tryz.func26, Tryz.ntmps26
      go_wp2_with (first
        | (go_at_call 33; refine (unhide HRD _ (unhide HK1).1).mono ?_; rintro e w2 ⟨rfl, hk2⟩; have HK2 := hide hk2; clear hk2)
        | (go_at_call 49; refine (unhide HM).mono ?_; rintro e w1 ⟨rfl, hk1⟩; have HK1 := hide hk1; clear hk1))
      go_ret2
      exact ⟨by rw [unhide HK]; rfl, (unhide HK2).1, (unhide HK1).2.trans (unhide HK2).2⟩
    · have hmk : manyK l x = -1 := if_pos hck
      rw [hmk] at HM
      clear h hbd hck hmk hso HRD
      go_enter Tryz.func26, Tryz.ntmps26
      go_wp2_with (go_at_call 49; refine (unhide HM).mono ?_; rintro e w1 ⟨rfl, hk1⟩)
      go_ret2
      exact ⟨by rw [unhide HK]; rfl, hk1⟩

end Go.Proofs.YtomiepknmmpflaaGreatDoor

namespace Go.Proofs.YtomiepknmmpflaaGreatDoor
open Go.RowKit Go.Joins

end Go.Proofs.YtomiepknmmpflaaGreatDoor

namespace Go.Proofs.YtomiepknmmpflaaGreatDoor
open Go.RowKit Go.Joins

def comEx (t : ByteArray) : Int := if (Ov.backing t).size = 0 then 0 else 255
def comK (s t : ByteArray) (n i : Nat) : Int := if i < n ∧ kOld s i ≠ 0 then kOld s i else if i < Ov.many t then kOld t i else comEx t
def comB (s t : ByteArray) (n i : Nat) : ByteArray := if i < n ∧ kOld s i ≠ 0 then bOld s i else if i < Ov.many t then bOld t i else ⟨#[]⟩
def comKs (s t : ByteArray) (n : Nat) : List Int := (List.range (max (Ov.many t) n)).map (comK s t n)
def comBs (s t : ByteArray) (n : Nat) : List ByteArray := (List.range (max (Ov.many t) n)).map (comB s t n)
def commitF (room : Nat) (l : Ov.Files) (x : ByteArray) : Int × Ov.Files :=
  if Ov.soundF l x ≠ 0 then (Ov.soundF l x, l)
  else if (Ov.backing (fileOf l x)).size = 0 then (8, l)
  else Ov.putF room l (Ov.withF (Ov.withF l x (encode (Ov.backing (fileOf l x)) (noKinds (Ov.many (fileOf l x))) (noBlocks (Ov.many (fileOf l x))))) (Ov.backing (fileOf l x))
    (encode (Ov.backing (fileOf l (Ov.backing (fileOf l x)))) (comKs (fileOf l x) (fileOf l (Ov.backing (fileOf l x))) (Ov.many (fileOf l x))) (comBs (fileOf l x) (fileOf l (Ov.backing (fileOf l x))) (Ov.many (fileOf l x)))))
section
variable {s t : ByteArray} {n : Nat}
theorem comKs_length : (comKs s t n).length = max (Ov.many t) n := by simp [comKs]
end

end Go.Proofs.YtomiepknmmpflaaGreatDoor

