/- Make: what it answers, and the image that it makes. -/
import Derived.Test.YtdcmmmggiokbhaaGreatDoorCWEncode
import Derived.Test.YtdcmmmggiokbhaaGreatDoorCPStore
namespace Go.Proofs.YtdcmmmggiokbhaaGreatDoor
open Go.RowKit Go.Joins

def noKinds (n : Nat) : List Int := List.replicate n 0
def noBlocks (n : Nat) : List ByteArray := List.replicate n ⟨#[]⟩
/-- The file of a new image. -/
def blank (bk : ByteArray) (n : Nat) : ByteArray := encode bk (noKinds n) (noBlocks n)
def makeF (room : Nat) (l : Ov.Files) (x : ByteArray) (n : Int) (bk : ByteArray) : Int × Ov.Files :=
  if Ov.nameB x = false then (2, l)
  else if n < 1 ∨ 30 < n ∨ l.length = 8 then (1, l)
  else if Ov.place l x < l.length then (3, l)
  else if bk.size ≠ 0 ∧ Ov.soundF l bk ≠ 0 then (Ov.soundF l bk, l)
  else Ov.putF room l (Ov.withF l x (blank bk n.toNat))
theorem noKinds_getD (n k : Nat) : (noKinds n).getD k 0 = 0 := by
  unfold noKinds
  rw [List.getD_eq_getElem?_getD, List.getElem?_replicate]
  split <;> rfl
theorem noBlocks_getD (n k : Nat) : (noBlocks n).getD k ⟨#[]⟩ = ⟨#[]⟩ := by
  unfold noBlocks
  rw [List.getD_eq_getElem?_getD, List.getElem?_replicate]
  split <;> rfl
theorem encode_size (bk : ByteArray) (ks : List Int) (bs : List ByteArray) (hb : ∀ j, j < ks.length → (bs.getD j ⟨#[]⟩).size ≤ 8) : (encode bk ks bs).size ≤ 6 + bk.size + ks.length + 8 * ks.length := by
  unfold encode
  have := encB_size ks bs ks.length hb
  have h1 : (strOfNums [(encN ks ks.length : Int)]).size = 1 := strOfNums_size _
  rw [ByteArray.size_append, ByteArray.size_append, encF_size, h1]
  omega
theorem blank_size {bk : ByteArray} {n : Nat} (hb : bk.size ≤ 8) (hn : n ≤ 30) : (blank bk n).size ≤ 1000 := by
  have := encode_size bk (noKinds n) (noBlocks n) (fun j _ => by rw [noBlocks_getD]; exact Nat.zero_le _)
  unfold blank
  simp only [noKinds, List.length_replicate] at this ⊢
  omega
/-- Rows of noughts, as make lays them: behind names that the walk does not open. -/
def zInts (n : Nat) : Array Value := madeCells (Value.int .i64 0).cells (n * 1)
def zTexts (n : Nat) : Array Value := madeCells (Value.string ⟨#[]⟩).cells (n * 1)
theorem zInts_list (n : Nat) : (zInts n).toList = (noKinds n).map (Value.int .i64) := by
  have := toList_madeCells_one (.int .i64 0) n
  unfold zInts noKinds
  rw [Nat.mul_one]
  refine this.trans ?_
  simp
theorem zTexts_list (n : Nat) : (zTexts n).toList = (noBlocks n).map Value.string := by
  have := toList_madeCells_one (.string ⟨#[]⟩) n
  unfold zTexts noBlocks
  rw [Nat.mul_one]
  refine this.trans ?_
  simp
theorem make_ints (n : Nat) (hn : n ≤ 30) (w : World) : (Instr.makeSlice 95 (.int .i64 n) (.int .i64 n)).run Tryz.prog w = .ok (.slice (some ⟨w.heap.size, 0, none⟩) n n) (w.alloc (.cells (zInts n) 3)) := by
  obtain ⟨i0, hi, hz0, hz1, hz2⟩ := info_parts Tryz.infoInt
  have := run_make (P := Tryz.prog) w 95 3 i0 (.int .i64 0) Tryz.underlying95 hi hz0 .i64 .i64 n n (by omega) (Int.le_refl _) (by rw [hz2]; omega) (by omega)
  rw [hz1] at this
  simpa [zInts] using this
theorem make_texts (n : Nat) (hn : n ≤ 30) (w : World) : (Instr.makeSlice 96 (.int .i64 n) (.int .i64 n)).run Tryz.prog w = .ok (.slice (some ⟨w.heap.size, 0, none⟩) n n) (w.alloc (.cells (zTexts n) 9)) := by
  obtain ⟨i0, hi, hz0, hz1, hz2⟩ := info_parts Tryz.infoString
  have := run_make (P := Tryz.prog) w 96 9 i0 (.string ⟨#[]⟩) Tryz.underlying96 hi hz0 .i64 .i64 n n (by omega) (Int.le_refl _) (by rw [hz2]; omega) (by omega)
  rw [hz1] at this
  simpa [zTexts] using this
/-- A row of noughts at a block. -/
theorem owns_ints {w : World} {g n base : Nat} (hn : n ≤ 30) (hb : base ≤ g) (h : w.heap[g]? = some (.cells (zInts n) 3 (0, 0))) : w.ownsRow base 3 1 (.slice (some ⟨g, 0, none⟩) n n) n ((noKinds n).map (Value.int .i64)) :=
  ⟨by simp [noKinds], Or.inr ⟨g, n, zInts n, rfl, hb, h, Nat.le_refl _, by unfold maxLen; omega, by unfold zInts; rw [size_madeCells], by rw [zInts_list, List.take_of_length_le (by simp [noKinds])]⟩⟩
theorem owns_texts {w : World} {g n base : Nat} (hn : n ≤ 30) (hb : base ≤ g) (h : w.heap[g]? = some (.cells (zTexts n) 9 (0, 0))) : w.ownsRow base 9 1 (.slice (some ⟨g, 0, none⟩) n n) n ((noBlocks n).map Value.string) :=
  ⟨by simp [noBlocks], Or.inr ⟨g, n, zTexts n, rfl, hb, h, Nat.le_refl _, by unfold maxLen; omega, by unfold zTexts; rw [size_madeCells], by rw [zTexts_list, List.take_of_length_le (by simp [noBlocks])]⟩⟩

end Go.Proofs.YtdcmmmggiokbhaaGreatDoor
