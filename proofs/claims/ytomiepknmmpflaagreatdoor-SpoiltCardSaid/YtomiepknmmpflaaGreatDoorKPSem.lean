/- An image's file, read again: what Encode makes is an image of the same backing, kinds and blocks, with none lost. -/
import Derived.Test.YtomiepknmmpflaaGreatDoorKPParse
import Derived.Test.YtomiepknmmpflaaGreatDoorKWORebase
namespace Go.Proofs.YtomiepknmmpflaaGreatDoor
open Go.RowKit Go.Joins

structure Enc (bk : ByteArray) (ks : List Int) (bs : List ByteArray) : Prop where
  n1 : 1 ≤ ks.length
  n30 : ks.length ≤ 30
  b8 : bk.size ≤ 8
  name : 0 < bk.size → Ov.nameB bk = true
  known : ∀ i, i < ks.length → ks.getD i 0 = 0 ∨ ks.getD i 0 = 1 ∨ ks.getD i 0 = 255
  eight : ∀ i, i < ks.length → ks.getD i 0 = 1 → (bs.getD i ⟨#[]⟩).size = 8
def encEl (ks : List Int) (k : Nat) : List UInt8 := (List.range k).map fun i => UInt8.ofNat (encE ks i).toNat
def encBl (ks : List Int) (bs : List ByteArray) : Nat → List UInt8
  | 0 => []
  | k + 1 => if ks.getD k 0 = 1 then encBl ks bs k ++ (bs.getD k ⟨#[]⟩).data.toList else encBl ks bs k
def encHl (bk : ByteArray) (n : Nat) : List UInt8 := [79, 86, 1, UInt8.ofNat n, UInt8.ofNat bk.size]
theorem app_data (a b : ByteArray) : (a ++ b).data.toList = a.data.toList ++ b.data.toList := by
  rw [ByteArray.data_append, Array.toList_append]
theorem encF_data (bk : ByteArray) (ks : List Int) (n k : Nat) : (encF bk ks n k).data.toList = encHl bk n ++ (bk.data.toList ++ encEl ks k) := by
  induction k with
  | zero =>
    simp only [encF, encHead, app_data, strOfNums_data]
    simp [encHl, encEl]
  | succ k ih =>
    simp only [encF, app_data, strOfNums_data, ih]
    simp [encEl, List.range_succ]
theorem encB_data (ks : List Int) (bs : List ByteArray) (k : Nat) : (encB ks bs k).data.toList = encBl ks bs k := by
  induction k with
  | zero => rfl
  | succ k ih =>
    simp only [encB, encBl]
    split
    · rw [app_data, ih]
    · exact ih
theorem encode_data (bk : ByteArray) (ks : List Int) (bs : List ByteArray) : (encode bk ks bs).data.toList = encHl bk ks.length ++ (bk.data.toList ++ (encEl ks ks.length ++ (UInt8.ofNat (encN ks ks.length) :: encBl ks bs ks.length))) := by
  unfold encode
  rw [app_data, app_data, encF_data, encB_data, strOfNums_data]
  simp
theorem encEl_length (ks : List Int) (k : Nat) : (encEl ks k).length = k := by simp [encEl]
theorem encN_mono (ks : List Int) {i j : Nat} (h : i ≤ j) : encN ks i ≤ encN ks j := by
  induction j with
  | zero => obtain rfl : i = 0 := by omega
            exact Nat.le_refl _
  | succ j ih =>
    by_cases e : i = j + 1
    · subst e; exact Nat.le_refl _
    · have := ih (by omega)
      simp only [encN]; omega
theorem encN_above (ks : List Int) {i j : Nat} (h : i < j) (hk : ks.getD i 0 = 1) : encN ks i + 1 ≤ encN ks j := by
  have := encN_mono ks (show i + 1 ≤ j by omega)
  simp only [encN, if_pos hk] at this
  exact this
theorem encN_hit (ks : List Int) (k j : Nat) (h : j < encN ks k) : ∃ i, i < k ∧ ks.getD i 0 = 1 ∧ encN ks i = j := by
  induction k with
  | zero => simp [encN] at h
  | succ k ih =>
    by_cases hj : j < encN ks k
    · obtain ⟨i, h1, h2, h3⟩ := ih hj
      exact ⟨i, by omega, h2, h3⟩
    · simp only [encN] at h
      by_cases hk : ks.getD k 0 = 1
      · rw [if_pos hk] at h
        exact ⟨k, by omega, hk, by omega⟩
      · rw [if_neg hk] at h; omega
theorem byteAt_some {s : ByteArray} {i : Nat} {c : UInt8} (h : s.data.toList[i]? = some c) : Ov.byteAt s i = c.toNat := by
  unfold Ov.byteAt
  rw [List.getD_eq_getElem?_getD, h]; rfl
section
variable {bk : ByteArray} {ks : List Int} {bs : List ByteArray}
theorem encBl_length (h : ∀ i, i < ks.length → ks.getD i 0 = 1 → (bs.getD i ⟨#[]⟩).size = 8) {k : Nat} (hk : k ≤ ks.length) : (encBl ks bs k).length = 8 * encN ks k := by
  induction k with
  | zero => rfl
  | succ k ih =>
    have := ih (by omega)
    simp only [encBl, encN]
    by_cases e : ks.getD k 0 = 1
    · rw [if_pos e, if_pos e, List.length_append, this]
      have h8 : (bs.getD k ⟨#[]⟩).data.toList.length = 8 := h k (by omega) e
      omega
    · rw [if_neg e, if_neg e, this]; omega
theorem encBl_block (h : ∀ i, i < ks.length → ks.getD i 0 = 1 → (bs.getD i ⟨#[]⟩).size = 8) {i k : Nat} (hk : k ≤ ks.length) (hi : i < k) (e : ks.getD i 0 = 1) : ((encBl ks bs k).drop (8 * encN ks i)).take 8 = (bs.getD i ⟨#[]⟩).data.toList := by
  induction k with
  | zero => omega
  | succ k ih =>
    have hl := encBl_length h (k := k) (by omega)
    have h8 : (bs.getD i ⟨#[]⟩).data.toList.length = 8 := h i (by omega) e
    by_cases hik : i = k
    · subst hik
      simp only [encBl, if_pos e]
      rw [List.drop_append_of_le_length (by omega), List.drop_of_length_le (by omega), List.nil_append, List.take_of_length_le (by omega)]
    · have := ih (by omega) (by omega)
      simp only [encBl]
      split
      · have hn := encN_above ks (show i < k by omega) e
        rw [List.drop_append_of_le_length (by omega), List.take_append_of_le_length (by rw [List.length_drop]; omega)]
        exact this
      · exact this
theorem Enc.entLt (h : Enc bk ks bs) {i : Nat} (hi : i < ks.length) : 0 ≤ encE ks i ∧ encE ks i < 256 := by
  have h30 := h.n30
  have hn := encN_le ks i
  unfold encE
  rcases h.known i hi with e | e | e
  · rw [if_neg (by omega)]; omega
  · rw [if_pos e]; omega
  · rw [if_neg (by omega)]; omega
theorem Enc.size (h : Enc bk ks bs) : (encode bk ks bs).size = 6 + bk.size + ks.length + 8 * encN ks ks.length := by
  have hl := encBl_length h.eight (Nat.le_refl _)
  have hb : bk.data.toList.length = bk.size := rfl
  have : (encode bk ks bs).data.toList.length = 6 + bk.size + ks.length + 8 * encN ks ks.length := by
    rw [encode_data]
    simp only [List.length_append, List.length_cons, encEl_length, hl, hb, encHl, List.length_nil]
    omega
  exact this
theorem Enc.b0 (_ : Enc bk ks bs) : Ov.byteAt (encode bk ks bs) 0 = 79 := by rw [byteAt_some (c := 79) (by rw [encode_data]; rfl)]; rfl
theorem Enc.b1 (_ : Enc bk ks bs) : Ov.byteAt (encode bk ks bs) 1 = 86 := by rw [byteAt_some (c := 86) (by rw [encode_data]; rfl)]; rfl
theorem Enc.b2 (_ : Enc bk ks bs) : Ov.byteAt (encode bk ks bs) 2 = 1 := by rw [byteAt_some (c := 1) (by rw [encode_data]; rfl)]; rfl
theorem Enc.many (h : Enc bk ks bs) : Ov.many (encode bk ks bs) = ks.length := by
  have := h.n30
  unfold Ov.many
  rw [byteAt_some (c := UInt8.ofNat ks.length) (by rw [encode_data]; rfl), UInt8.toNat_ofNat']
  omega
theorem Enc.long (h : Enc bk ks bs) : Ov.long (encode bk ks bs) = bk.size := by
  have := h.b8
  unfold Ov.long
  rw [byteAt_some (c := UInt8.ofNat bk.size) (by rw [encode_data]; rfl), UInt8.toNat_ofNat']
  omega
theorem Enc.backing (h : Enc bk ks bs) : Ov.backing (encode bk ks bs) = bk := by
  unfold Ov.backing
  rw [h.long]
  refine bytes_ext ?_
  have hb : bk.data.toList.length = bk.size := rfl
  rw [Lib.extract_data, encode_data]
  show List.take _ (bk.data.toList ++ _) = _
  rw [List.take_append_of_le_length (by omega), List.take_of_length_le (by omega)]
theorem Enc.ent (h : Enc bk ks bs) {i : Nat} (hi : i < ks.length) : (Ov.ent (encode bk ks bs) i : Int) = encE ks i := by
  have hb : bk.data.toList.length = bk.size := rfl
  obtain ⟨e1, e2⟩ := h.entLt hi
  unfold Ov.ent
  rw [h.long, byteAt_some (c := UInt8.ofNat (encE ks i).toNat) ?_, UInt8.toNat_ofNat']
  · omega
  · rw [encode_data, List.getElem?_append_right (by simp [encHl]; omega), List.getElem?_append_right (by simp [encHl, hb]; omega), List.getElem?_append_left (by simp [encHl, hb, encEl_length]; omega)]
    have : 5 + bk.size + i - (encHl bk ks.length).length - bk.data.toList.length = i := by simp [encHl, hb]; omega
    rw [this]
    simp [encEl, hi]
theorem Enc.datas (h : Enc bk ks bs) : Ov.datas (encode bk ks bs) = encN ks ks.length := by
  have hb : bk.data.toList.length = bk.size := rfl
  have h30 := h.n30
  have hn := encN_le ks ks.length
  unfold Ov.datas
  rw [h.long, h.many, byteAt_some (c := UInt8.ofNat (encN ks ks.length)) ?_, UInt8.toNat_ofNat']
  · omega
  · rw [encode_data, List.getElem?_append_right (by simp [encHl]; omega), List.getElem?_append_right (by simp [encHl, hb]; omega), List.getElem?_append_right (by simp [encHl, hb, encEl_length]; omega)]
    have : 5 + bk.size + ks.length - (encHl bk ks.length).length - bk.data.toList.length - (encEl ks ks.length).length = 0 := by simp [encHl, hb, encEl_length]; omega
    rw [this]; rfl
theorem Enc.base (h : Enc bk ks bs) : Ov.base (encode bk ks bs) = 6 + bk.size + ks.length := by
  unfold Ov.base; rw [h.long, h.many]; omega
theorem Enc.ents (h : Enc bk ks bs) {i : Nat} (hi : i < ks.length) : (ks.getD i 0 = 0 ∧ Ov.ent (encode bk ks bs) i = 0) ∨ (ks.getD i 0 = 255 ∧ Ov.ent (encode bk ks bs) i = 255) ∨ (ks.getD i 0 = 1 ∧ Ov.ent (encode bk ks bs) i = encN ks i + 1) := by
  have he := h.ent hi
  unfold encE at he
  rcases h.known i hi with e | e | e
  · rw [if_neg (by omega)] at he; exact Or.inl ⟨e, by omega⟩
  · rw [if_pos e] at he; exact Or.inr (Or.inr ⟨e, by omega⟩)
  · rw [if_neg (by omega)] at he; exact Or.inr (Or.inl ⟨e, by omega⟩)
theorem Enc.image (h : Enc bk ks bs) : Ov.isImage (encode bk ks bs) := by
  have h1 := h.n1
  have h30 := h.n30
  have h8 := h.b8
  have hn := encN_le ks ks.length
  refine ⟨⟨by rw [h.size]; omega, h.b0, h.b1, h.b2, by rw [h.many]; exact h1, by rw [h.many]; exact h30, by rw [h.long]; exact h8, by rw [h.base, h.size]; omega, by rw [h.long, h.backing]; exact h.name, by rw [h.datas]; omega, by rw [h.size, h.base, h.datas]⟩, fun i hi => ?_⟩
  rw [h.many] at hi
  unfold Ov.entOk
  rcases h.ents hi with ⟨_, e⟩ | ⟨_, e⟩ | ⟨k, e⟩
  · exact Or.inl e
  · exact Or.inr (Or.inl e)
  · refine Or.inr (Or.inr ⟨by rw [e, h.datas]; exact encN_above ks hi k, fun j hj => ?_⟩)
    have hni := encN_le ks i
    rw [e]
    rcases h.ents (show j < ks.length by omega) with ⟨_, e'⟩ | ⟨_, e'⟩ | ⟨k', e'⟩
    · omega
    · omega
    · have := encN_above ks hj k'
      omega
theorem Enc.kind (h : Enc bk ks bs) {i : Nat} (hi : i < ks.length) : Ov.kindOf (Ov.ent (encode bk ks bs) i) = ks.getD i 0 := by
  have h30 := h.n30
  have hn := encN_le ks i
  rcases h.ents hi with ⟨k, e⟩ | ⟨k, e⟩ | ⟨k, e⟩
  · rw [e, k]; rfl
  · rw [e, k]; rfl
  · rw [e, k]; exact Ov.kindOf_data (by omega) (by omega)
theorem Enc.block (h : Enc bk ks bs) {i : Nat} (hi : i < ks.length) : Ov.blockOf (encode bk ks bs) (Ov.ent (encode bk ks bs) i) = if ks.getD i 0 = 1 then bs.getD i ⟨#[]⟩ else ⟨#[]⟩ := by
  have h30 := h.n30
  have hn := encN_le ks i
  rcases h.ents hi with ⟨k, e⟩ | ⟨k, e⟩ | ⟨k, e⟩
  · rw [e, k]; rfl
  · rw [e, k]; rfl
  · rw [e, if_pos k, Ov.blockOf_data (by omega) (by omega), h.base]
    refine bytes_ext ?_
    have hb : bk.data.toList.length = bk.size := rfl
    have hbl := encBl_length h.eight (Nat.le_refl _)
    rw [Lib.extract_data, encode_data]
    rw [← encBl_block h.eight (Nat.le_refl _) hi k]
    have e1 : (encHl bk ks.length ++ (bk.data.toList ++ (encEl ks ks.length ++ (UInt8.ofNat (encN ks ks.length) :: encBl ks bs ks.length)))).drop (6 + bk.size + ks.length + 8 * (encN ks i + 1 - 1)) = (encBl ks bs ks.length).drop (8 * encN ks i) := by
      have e2 : encHl bk ks.length ++ (bk.data.toList ++ (encEl ks ks.length ++ (UInt8.ofNat (encN ks ks.length) :: encBl ks bs ks.length))) = (encHl bk ks.length ++ (bk.data.toList ++ (encEl ks ks.length ++ [UInt8.ofNat (encN ks ks.length)]))) ++ encBl ks bs ks.length := by simp
      have e3 : (encHl bk ks.length ++ (bk.data.toList ++ (encEl ks ks.length ++ [UInt8.ofNat (encN ks ks.length)]))).length = 6 + bk.size + ks.length := by
        simp only [List.length_append, List.length_cons, encEl_length, hb, encHl, List.length_nil]; omega
      rw [e2, show 6 + bk.size + ks.length + 8 * (encN ks i + 1 - 1) = (encHl bk ks.length ++ (bk.data.toList ++ (encEl ks ks.length ++ [UInt8.ofNat (encN ks ks.length)]))).length + 8 * encN ks i by omega, List.drop_append, List.drop_of_length_le (by omega), List.nil_append, Nat.add_sub_cancel_left]
    rw [e1]
    congr 1
    omega
theorem Enc.lost (h : Enc bk ks bs) : Ov.lost (encode bk ks bs) = 0 := by
  have hu : ∀ j, j < encN ks ks.length → Ov.usedAt (encode bk ks bs) (Ov.many (encode bk ks bs)) j = 1 := fun j hj => by
    obtain ⟨i, h1, h2, h3⟩ := encN_hit ks ks.length j hj
    have : 0 < Ov.usedAt (encode bk ks bs) (Ov.many (encode bk ks bs)) j := Ov.usedAt_pos.2 ⟨i, by rw [h.many]; exact h1, by
      rcases h.ents h1 with ⟨k, _⟩ | ⟨k, _⟩ | ⟨_, e⟩
      · omega
      · omega
      · omega⟩
    rcases Ov.usedAt_01 (encode bk ks bs) (Ov.many (encode bk ks bs)) j with e | e <;> omega
  have : ∀ j, j ≤ encN ks ks.length → Ov.lostTo (encode bk ks bs) j = 0 := fun j => by
    induction j with
    | zero => intro _; rfl
    | succ j ih =>
      intro hj
      have e1 := ih (by omega)
      have e2 := hu j (by omega)
      simp only [Ov.lostTo, e1, e2]
      omega
  unfold Ov.lost
  rw [h.datas]
  exact this _ (Nat.le_refl _)
end

end Go.Proofs.YtomiepknmmpflaaGreatDoor

namespace Go.Proofs.YtomiepknmmpflaaGreatDoor
open Go.RowKit Go.Joins

def getF : Ov.Files → ByteArray → Option ByteArray
  | [], _ => none
  | f :: l, y => if f.1 = y then some f.2 else getF l y
theorem getF_place (l : Ov.Files) (y : ByteArray) : getF l y = if Ov.place l y < l.length then some (fileOf l y) else none := by
  induction l with
  | nil => rfl
  | cons f l ih =>
    unfold fileOf at ih ⊢
    rw [getF, Ov.place]
    by_cases h : f.1 = y
    · rw [if_pos h, if_pos h, if_pos (by simp)]; rfl
    · rw [if_neg h, if_neg h, ih]
      by_cases hp : Ov.place l y < l.length
      · rw [if_pos hp, if_pos (by simpa using hp)]; rfl
      · rw [if_neg hp, if_neg (by simpa using hp)]
theorem getF_some {l : Ov.Files} {y s : ByteArray} (h : getF l y = some s) : Ov.place l y < l.length ∧ fileOf l y = s := by
  rw [getF_place] at h
  by_cases hp : Ov.place l y < l.length
  · rw [if_pos hp] at h; exact ⟨hp, Option.some.inj h⟩
  · rw [if_neg hp] at h; cases h
theorem getF_none {l : Ov.Files} {y : ByteArray} (h : getF l y = none) : ¬ Ov.place l y < l.length := fun hp => by
  rw [getF_place, if_pos hp] at h; cases h
theorem getF_here {l : Ov.Files} {y : ByteArray} (h : Ov.place l y < l.length) : getF l y = some (fileOf l y) := by rw [getF_place, if_pos h]
theorem withF_cons (f : ByteArray × ByteArray) (l : Ov.Files) (x b : ByteArray) : Ov.withF (f :: l) x b = if f.1 = x then (x, b) :: l else f :: Ov.withF l x b := by
  unfold Ov.withF
  rw [Ov.place]
  by_cases h : f.1 = x
  · rw [if_pos h, if_pos h, if_pos (by simp)]; rfl
  · rw [if_neg h, if_neg h]
    by_cases hp : Ov.place l x < l.length
    · rw [if_pos hp, if_pos (by simpa using hp)]; rfl
    · rw [if_neg hp, if_neg (by simpa using hp)]; rfl
theorem getF_withF (l : Ov.Files) (x b y : ByteArray) : getF (Ov.withF l x b) y = if x = y then some b else getF l y := by
  induction l with
  | nil => rfl
  | cons f l ih =>
    rw [withF_cons]
    by_cases h : f.1 = x
    · rw [if_pos h, getF, getF]
      by_cases hy : x = y
      · rw [if_pos hy, if_pos hy]
      · rw [if_neg hy, if_neg hy, if_neg (by rw [h]; exact hy)]
    · rw [if_neg h, getF, getF, ih]
      by_cases hy : f.1 = y
      · rw [if_pos hy, if_pos hy, if_neg (fun q => h (by rw [hy, q]))]
      · rw [if_neg hy, if_neg hy]
theorem getF_drop (l : Ov.Files) (x y : ByteArray) : getF (l.filter fun f => !decide (f.1 = x)) y = if x = y then none else getF l y := by
  induction l with
  | nil => simp [getF]
  | cons f l ih =>
    by_cases h : f.1 = x
    · rw [List.filter_cons, if_neg (by simp [h]), ih, getF]
      by_cases hy : x = y
      · rw [if_pos hy, if_pos hy]
      · rw [if_neg hy, if_neg hy, if_neg (by rw [h]; exact hy)]
    · rw [List.filter_cons, if_pos (by simp [h]), getF, getF, ih]
      by_cases hy : f.1 = y
      · rw [if_pos hy, if_pos hy, if_neg (fun q => h (by rw [hy, q]))]
      · rw [if_neg hy, if_neg hy]
theorem dumpF_get (l : Ov.Files) (y : ByteArray) : Ov.dumpF l y = match getF l y with | some s => (s, 0) | none => (⟨#[]⟩, 4) := by
  unfold Ov.dumpF
  rw [getF_place]
  by_cases h : Ov.place l y < l.length
  · rw [if_pos h, if_pos h]
  · rw [if_neg h, if_neg h]

theorem chn_mem {l : Ov.Files} : ∀ {ns : List ByteArray} {x y : ByteArray}, Ov.Chn l ns x → y ∈ ns → ∃ ms, Ov.Chn l ms y ∧ ms.length ≤ ns.length
  | [], _, _, h, _ => h.elim
  | z :: ns, x, y, h, hy => by
    rcases List.mem_cons.1 hy with rfl | hy
    · obtain ⟨e, _⟩ := id h
      subst e
      exact ⟨_, h, Nat.le_refl _⟩
    · obtain ⟨_, _, _, ⟨_, e⟩ | ⟨_, h4⟩⟩ := h
      · subst e; cases hy
      · obtain ⟨ms, k1, k2⟩ := chn_mem h4 hy
        exact ⟨ms, k1, by simp; omega⟩
theorem chn_nodup {l : Ov.Files} : ∀ {ns : List ByteArray} {x : ByteArray}, Ov.Chn l ns x → ns.Nodup
  | [], _, h => h.elim
  | z :: ns, x, h => by
    rw [List.nodup_cons]
    refine ⟨fun hz => ?_, ?_⟩
    · obtain ⟨e, _, _, ⟨_, e2⟩ | ⟨_, h4⟩⟩ := id h
      · subst e2; cases hz
      · subst e
        obtain ⟨ms, k1, k2⟩ := chn_mem h4 hz
        have := congrArg List.length (chn_unique h k1)
        simp at this; omega
    · obtain ⟨_, _, _, ⟨_, e2⟩ | ⟨_, h4⟩⟩ := h
      · subst e2; exact List.nodup_nil
      · exact chn_nodup h4
theorem chn_here {l : Ov.Files} {ns : List ByteArray} {x y : ByteArray} (h : Ov.Chn l ns x) (hy : y ∈ ns) : Ov.place l y < l.length := by
  obtain ⟨ms, k, _⟩ := chn_mem h hy
  exact k.here
theorem chn_down {l : Ov.Files} (f : Nat) : ∀ {seen ns : List ByteArray} {x : ByteArray}, Ov.Chn l ns x → (∀ y ∈ ns, y ∉ seen) → ns.Nodup → ns.length ≤ f → Ov.down l f seen x = (seen ++ ns, 0, ⟨#[]⟩) := by
  induction f with
  | zero =>
    intro seen ns x h _ _ hl
    cases ns with
    | nil => exact h.elim
    | cons z ns => simp at hl
  | succ f ih =>
    intro seen ns x h hs hn hl
    cases ns with
    | nil => exact h.elim
    | cons z ns =>
      obtain ⟨rfl, hp, him, hor⟩ := h
      unfold Ov.down
      rw [if_neg (by rw [(Ov.imageB_iff _).2 him]; simp)]
      rcases hor with ⟨h5, rfl⟩ | ⟨h5, h6⟩
      · rw [if_pos h5]
      · obtain ⟨rest, hr⟩ := chn_head h6
        have hb : Ov.backing (Ov.fileAt l (Ov.place l x)) ∈ ns := by rw [hr]; simp
        rw [List.nodup_cons] at hn
        have hm : ¬ Ov.metB (seen ++ [x]) (Ov.backing (Ov.fileAt l (Ov.place l x))) = true := by
          rw [Ov.metB_iff]
          intro q
          rcases List.mem_append.1 q with q | q
          · exact hs _ (List.mem_cons_of_mem _ hb) q
          · rw [List.mem_singleton.1 q] at hb
            exact hn.1 hb
        rw [if_neg h5, if_neg hm, if_neg (by have := h6.here; exact fun q => q this)]
        rw [ih h6 (fun y hy q => ?_) hn.2 (by simp at hl; omega), List.append_assoc]; rfl
        rcases List.mem_append.1 q with q | q
        · exact hs y (List.mem_cons_of_mem _ hy) q
        · rw [List.mem_singleton.1 q] at hy
          exact hn.1 hy
theorem chn_len {l : Ov.Files} {ns : List ByteArray} {x : ByteArray} (h : Ov.Chn l ns x) : ns.length ≤ l.length := Ov.Met.length ⟨chn_nodup h, fun _ hy => chn_here h hy⟩
theorem chn_downOf {l : Ov.Files} {ns : List ByteArray} {x : ByteArray} (h : Ov.Chn l ns x) : Ov.downOf l x = (ns, 0, ⟨#[]⟩) := by
  have := chn_down l.length h (seen := []) (fun y _ => by simp) (chn_nodup h) (chn_len h)
  exact this
theorem chn_sound {l : Ov.Files} {ns : List ByteArray} {x : ByteArray} (h : Ov.Chn l ns x) : Ov.soundF l x = 0 := by
  unfold Ov.soundF
  rw [if_pos h.here, chn_downOf h]
theorem chn_chain {l : Ov.Files} {ns : List ByteArray} {x : ByteArray} (h : Ov.Chn l ns x) : Ov.chainF l x = (Ov.joinTo ns ns.length, ⟨#[]⟩, 0) := by
  unfold Ov.chainF
  rw [if_pos h.here, chn_downOf h]
def SameOn (l m : Ov.Files) (ns : List ByteArray) : Prop := ∀ y ∈ ns, getF m y = getF l y
theorem chn_same {l m : Ov.Files} : ∀ {ns : List ByteArray} {x : ByteArray}, Ov.Chn l ns x → SameOn l m ns → Ov.Chn m ns x
  | [], _, h, _ => h.elim
  | z :: ns, x, h, hs => by
    obtain ⟨rfl, hp, him, hor⟩ := h
    have hg := hs x List.mem_cons_self
    rw [getF_here hp] at hg
    obtain ⟨k1, k2⟩ := getF_some hg
    have k3 : Ov.fileAt m (Ov.place m x) = Ov.fileAt l (Ov.place l x) := k2
    refine ⟨rfl, k1, by rw [k3]; exact him, ?_⟩
    rw [k3]
    rcases hor with h5 | ⟨h5, h6⟩
    · exact Or.inl h5
    · exact Or.inr ⟨h5, chn_same h6 (fun y hy => hs y (List.mem_cons_of_mem _ hy))⟩
theorem get_file {l m : Ov.Files} {y : ByteArray} (hp : Ov.place l y < l.length) (h : getF m y = getF l y) : Ov.fileAt m (Ov.place m y) = Ov.fileAt l (Ov.place l y) := by
  rw [getF_here hp] at h
  exact (getF_some h).2
theorem atTo_same {l m : Ov.Files} : ∀ {ns : List ByteArray} (_ : ∀ y ∈ ns, Ov.place l y < l.length) (_ : SameOn l m ns) (i : Nat), Ov.atTo m ns i = Ov.atTo l ns i
  | [], _, _, _ => rfl
  | y :: ns, hp, hs, i => by
    rw [Ov.atTo_cons, Ov.atTo_cons, get_file (hp y List.mem_cons_self) (hs y List.mem_cons_self), atTo_same (fun z hz => hp z (List.mem_cons_of_mem _ hz)) (fun z hz => hs z (List.mem_cons_of_mem _ hz))]
theorem chn_tail {l : Ov.Files} {ns : List ByteArray} {x : ByteArray} (h : Ov.Chn l ns x) : ∃ ms, ns = x :: ms ∧ x ∉ ms ∧ (∀ y ∈ ms, Ov.place l y < l.length) ∧ Ov.isImage (fileOf l x) ∧ ((Ov.backing (fileOf l x)).size = 0 ∧ ms = [] ∨ (Ov.backing (fileOf l x)).size ≠ 0 ∧ Ov.Chn l ms (Ov.backing (fileOf l x))) := by
  have hn := chn_nodup h
  have hh := fun y hy => chn_here h (y := y) hy
  cases ns with
  | nil => exact h.elim
  | cons z ms =>
    obtain ⟨rfl, _, him, hor⟩ := h
    rw [List.nodup_cons] at hn
    exact ⟨ms, rfl, hn.1, fun y hy => hh y (List.mem_cons_of_mem _ hy), him, hor⟩
theorem chn_mk {l : Ov.Files} {x s : ByteArray} {ms : List ByteArray} (hg : getF l x = some s) (hi : Ov.isImage s) (h : (Ov.backing s).size = 0 ∧ ms = [] ∨ (Ov.backing s).size ≠ 0 ∧ Ov.Chn l ms (Ov.backing s)) : Ov.Chn l (x :: ms) x := by
  obtain ⟨h1, h2⟩ := getF_some hg
  have h3 : Ov.fileAt l (Ov.place l x) = s := h2
  exact ⟨rfl, h1, by rw [h3]; exact hi, by rw [h3]; exact h⟩
theorem sameOn_with {l : Ov.Files} {x e : ByteArray} {ms : List ByteArray} (h : x ∉ ms) : SameOn l (Ov.withF l x e) ms := fun y hy => by
  rw [getF_withF, if_neg (fun q => h (by rw [q]; exact hy))]

theorem head_size {s : ByteArray} (h : Ov.headOk s) : (Ov.backing s).size = Ov.long s := by
  have : Ov.base s ≤ s.size := h.2.2.2.2.2.2.2.1
  unfold Ov.base at this
  unfold Ov.backing
  rw [ByteArray.size_extract]; omega
theorem old_size {s : ByteArray} (hi : Ov.isImage s) {i : Nat} (hm : i < Ov.many s) (h : kOld s i = 1) : (bOld s i).size = 8 := by
  obtain ⟨hh, hg⟩ := hi
  have hz : s.size = Ov.base s + 8 * Ov.datas s := hh.2.2.2.2.2.2.2.2.2.2
  have h0 : Ov.ent s i ≠ 0 := fun e => by rw [show kOld s i = Ov.kindOf (Ov.ent s i) from rfl, e] at h; simp [Ov.kindOf] at h
  have h255 : Ov.ent s i ≠ 255 := fun e => by rw [show kOld s i = Ov.kindOf (Ov.ent s i) from rfl, e] at h; simp [Ov.kindOf] at h
  have he : Ov.ent s i ≤ Ov.datas s := by
    rcases hg i hm with e | e | e
    · exact absurd e h0
    · exact absurd e h255
    · exact e.1
  show (Ov.blockOf s (Ov.ent s i)).size = 8
  rw [Ov.blockOf_data h0 h255, ByteArray.size_extract]; omega
theorem enc_of {s bk : ByteArray} {ks : List Int} {bs : List ByteArray} (hi : Ov.isImage s) (hb : bk.size ≤ 8) (hn : 0 < bk.size → Ov.nameB bk = true) (hl : ks.length = Ov.many s) (hk : ∀ i, i < Ov.many s → ks.getD i 0 = 0 ∨ ks.getD i 0 = 1 ∨ ks.getD i 0 = 255) (h8 : ∀ i, i < Ov.many s → ks.getD i 0 = 1 → (bs.getD i ⟨#[]⟩).size = 8) : Enc bk ks bs :=
  ⟨by rw [hl]; exact hi.1.2.2.2.2.1, by rw [hl]; exact hi.1.2.2.2.2.2.1, hb, hn, by rw [hl]; exact hk, by rw [hl]; exact h8⟩
theorem back_ok {s : ByteArray} (hi : Ov.isImage s) : (Ov.backing s).size ≤ 8 ∧ (0 < (Ov.backing s).size → Ov.nameB (Ov.backing s) = true) := by
  have h1 : Ov.long s ≤ 8 := hi.1.2.2.2.2.2.2.1
  have h2 : 0 < Ov.long s → Ov.nameB (Ov.backing s) = true := hi.1.2.2.2.2.2.2.2.2.1
  rw [head_size hi.1]
  exact ⟨h1, h2⟩
def topAt (m : Nat) (k : Int) (b : ByteArray) (below : Nat) (i : Nat) : Nat := if m ≤ i / 8 then 0 else if k = 255 then 0 else if k = 1 then Ov.byteAt b (i % 8) else below
theorem at_old (l : Ov.Files) (x : ByteArray) (ms : List ByteArray) (i : Nat) : Ov.atTo l (x :: ms) i = topAt (Ov.many (fileOf l x)) (kOld (fileOf l x) (i / 8)) (bOld (fileOf l x) (i / 8)) (Ov.atTo l ms i) i := rfl
theorem at_enc {l : Ov.Files} {x bk : ByteArray} {ks : List Int} {bs : List ByteArray} (he : Enc bk ks bs) (hg : getF l x = some (encode bk ks bs)) (ms : List ByteArray) (i : Nat) : Ov.atTo l (x :: ms) i = topAt ks.length (ks.getD (i / 8) 0) (bs.getD (i / 8) ⟨#[]⟩) (Ov.atTo l ms i) i := by
  obtain ⟨_, h2⟩ := getF_some hg
  rw [at_old, h2, he.many]
  unfold topAt
  by_cases hm : ks.length ≤ i / 8
  · rw [if_pos hm, if_pos hm]
  · rw [if_neg hm, if_neg hm]
    have e1 : kOld (encode bk ks bs) (i / 8) = ks.getD (i / 8) 0 := he.kind (by omega)
    have e2 : bOld (encode bk ks bs) (i / 8) = _ := he.block (by omega)
    rw [e1]
    by_cases h1 : ks.getD (i / 8) 0 = 1
    · rw [if_pos h1] at e2; rw [e2]
    · rw [if_neg h1, if_neg h1]
theorem chn_new {l : Ov.Files} {x : ByteArray} {ns : List ByteArray} {ks : List Int} {bs : List ByteArray} (h : Ov.Chn l ns x) (he : Enc (Ov.backing (fileOf l x)) ks bs) : Ov.Chn (Ov.withF l x (encode (Ov.backing (fileOf l x)) ks bs)) ns x := by
  obtain ⟨ms, rfl, hx, _, him, hor⟩ := chn_tail h
  refine chn_mk (by rw [getF_withF, if_pos rfl]) he.image ?_
  rw [he.backing]
  rcases hor with h5 | ⟨h5, h6⟩
  · exact Or.inl h5
  · exact Or.inr ⟨h5, chn_same h6 (sameOn_with hx)⟩
theorem at_new {l : Ov.Files} {x : ByteArray} {ms : List ByteArray} {ks : List Int} {bs : List ByteArray} (h : Ov.Chn l (x :: ms) x) (he : Enc (Ov.backing (fileOf l x)) ks bs) (i : Nat) : Ov.atTo (Ov.withF l x (encode (Ov.backing (fileOf l x)) ks bs)) (x :: ms) i = topAt ks.length (ks.getD (i / 8) 0) (bs.getD (i / 8) ⟨#[]⟩) (Ov.atTo l ms i) i := by
  obtain ⟨ms', e, hx, hp, _, _⟩ := chn_tail h
  obtain rfl : ms = ms' := by simpa using e
  rw [at_enc he (by rw [getF_withF, if_pos rfl]), atTo_same hp (sameOn_with hx)]

end Go.Proofs.YtomiepknmmpflaaGreatDoor

