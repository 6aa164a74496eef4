/- Views behind Write, Zero and Discard: plain facts. -/
import Derived.Test.YtomiepknmmpflaaGreatDoorKPSem
import Derived.Test.YtomiepknmmpflaaGreatDoorKWRebase
namespace Go.Proofs.YtomiepknmmpflaaGreatDoor
open Go.RowKit Go.Joins

theorem byte_ext {a b : ByteArray} (hs : a.size = b.size) (h : ∀ i, i < a.size → Ov.byteAt a i = Ov.byteAt b i) : a = b := by
  refine bytes_ext (List.ext_getElem hs fun i h1 h2 => ?_)
  have := h i h1
  unfold Ov.byteAt at this
  rw [List.getD_eq_getElem?_getD, List.getD_eq_getElem?_getD, List.getElem?_eq_getElem h1, List.getElem?_eq_getElem h2] at this
  exact UInt8.toNat_inj.1 this
theorem byteAt_append (a b : ByteArray) (i : Nat) : Ov.byteAt (a ++ b) i = if i < a.size then Ov.byteAt a i else Ov.byteAt b (i - a.size) := by
  unfold Ov.byteAt
  rw [app_data, List.getD_eq_getElem?_getD, List.getD_eq_getElem?_getD, List.getD_eq_getElem?_getD]
  have hl : a.data.toList.length = a.size := rfl
  by_cases h : i < a.size
  · rw [if_pos h, List.getElem?_append_left (by omega)]
  · rw [if_neg h, List.getElem?_append_right (by omega), hl]
theorem byteAt_noughts (k i : Nat) : Ov.byteAt (noughtsF k) i = 0 := by
  unfold Ov.byteAt noughtsF
  simp only [List.getD_eq_getElem?_getD, List.getElem?_replicate]
  split <;> rfl
theorem viewF_slice (l : Ov.Files) (ns : List ByteArray) {f k N : Nat} (h : f + k ≤ N) : (viewF l ns 0 N).extract f (f + k) = viewF l ns f k := by
  have hs : ((viewF l ns 0 N).extract f (f + k)).size = k := by rw [ByteArray.size_extract, viewF_size]; omega
  refine byte_ext (by rw [hs, viewF_size]) fun i hi => ?_
  rw [hs] at hi
  rw [byteAt_extract _ _ _ _ (by omega), viewF_get _ _ _ (by omega), viewF_get _ _ _ hi]
  congr 1
  omega
theorem view_is {l : Ov.Files} {ns : List ByteArray} {N : Nat} {t : ByteArray} (hs : t.size = N) (h : ∀ i, i < N → Ov.byteAt t i = Ov.atTo l ns i) : t = viewF l ns 0 N := by
  refine byte_ext (by rw [hs, viewF_size]) fun i hi => ?_
  rw [h i (by omega), viewF_get _ _ _ (by omega), Nat.zero_add]
theorem readK_yes {l : Ov.Files} {ns : List ByteArray} {x : ByteArray} (h : Ov.Chn l ns x) : readK l x = (viewF l ns 0 (8 * Ov.many (fileOf l x)), true) := by
  unfold readK
  rw [if_pos (chn_sound h), chn_downOf h]; rfl
theorem readK_ok {l : Ov.Files} {x : ByteArray} (h : (readK l x).2 = true) : ∃ ns, Ov.Chn l ns x ∧ Ov.soundF l x = 0 ∧ (Ov.downOf l x).1 = ns := by
  unfold readK at h
  by_cases hs : Ov.soundF l x = 0
  · exact ⟨_, (sound_here hs).2, hs, rfl⟩
  · rw [if_neg hs] at h; simp at h
theorem readK_no {l : Ov.Files} {x : ByteArray} (h : (readK l x).2 = false) : Ov.soundF l x ≠ 0 ∧ readK l x = (⟨#[]⟩, false) := by
  unfold readK at h ⊢
  by_cases hs : Ov.soundF l x = 0
  · rw [if_pos hs] at h; simp at h
  · rw [if_neg hs]; exact ⟨hs, rfl⟩

theorem kinds_all {s : ByteArray} {m : Nat} {new : Nat → Int} {c : Nat → Prop} [DecidablePred c] (h : ∀ i, new i = 0 ∨ new i = 1 ∨ new i = 255) : ∀ i, i < m → (allTo m (kOld s) new c).getD i 0 = 0 ∨ (allTo m (kOld s) new c).getD i 0 = 1 ∨ (allTo m (kOld s) new c).getD i 0 = 255 := fun i hi => by
  rw [allTo_getD hi]
  split
  · exact h i
  · exact kOld_known s i
theorem putF_out (room : Nat) (l m : Ov.Files) : Ov.putF room l m = (9, l) ∨ Ov.putF room l m = (0, m) := by
  unfold Ov.putF; split
  · exact Or.inl rfl
  · exact Or.inr rfl
theorem enc_write {l : Ov.Files} {s d : ByteArray} {ns : List ByteArray} {f : Nat} (hi : Ov.isImage s) : Enc (Ov.backing s) (allTo (Ov.many s) (kOld s) (fun _ => 1) (touched f d.size)) (allTo (Ov.many s) (bOld s) (blockW l ns f d) (touched f d.size)) := by
  refine enc_of hi (back_ok hi).1 (back_ok hi).2 allTo_length (kinds_all (fun _ => Or.inr (Or.inl rfl))) fun i h1 h2 => ?_
  rw [allTo_getD h1] at h2 ⊢
  by_cases hc : touched f d.size i
  · rw [if_pos hc]; exact blockW_size _ _ _ _ _
  · rw [if_neg hc] at h2 ⊢; exact old_size hi h1 h2
theorem enc_zero {l : Ov.Files} {s : ByteArray} {ns : List ByteArray} {f k : Nat} (hi : Ov.isImage s) : Enc (Ov.backing s) (allTo (Ov.many s) (kOld s) (fun i => if covered f k i then 255 else 1) (touched f k)) (allTo (Ov.many s) (bOld s) (fun i => if covered f k i then ⟨#[]⟩ else blockW l ns f (noughtsF k) i) (touched f k)) := by
  refine enc_of hi (back_ok hi).1 (back_ok hi).2 allTo_length (kinds_all (fun i => by split <;> simp)) fun i h1 h2 => ?_
  rw [allTo_getD h1] at h2 ⊢
  by_cases hc : touched f k i
  · rw [if_pos hc] at h2 ⊢
    by_cases hv : covered f k i
    · rw [if_pos hv] at h2; exact absurd h2 (by decide)
    · rw [if_neg hv]; exact blockW_size _ _ _ _ _
  · rw [if_neg hc] at h2 ⊢; exact old_size hi h1 h2
theorem enc_discard {s : ByteArray} {f k : Nat} (hi : Ov.isImage s) : Enc (Ov.backing s) (allTo (Ov.many s) (kOld s) (fun _ => if (Ov.backing s).size = 0 then 0 else 255) (covered f k)) (allTo (Ov.many s) (bOld s) (fun _ => ⟨#[]⟩) (covered f k)) := by
  refine enc_of hi (back_ok hi).1 (back_ok hi).2 allTo_length (kinds_all (fun i => by split <;> simp)) fun i h1 h2 => ?_
  rw [allTo_getD h1] at h2 ⊢
  by_cases hc : covered f k i
  · rw [if_pos hc] at h2
    split at h2
    · exact absurd h2 (by decide)
    · exact absurd h2 (by decide)
  · rw [if_neg hc] at h2 ⊢; exact old_size hi h1 h2
theorem not_touched {l : Ov.Files} {ns : List ByteArray} {f i : Nat} {d : ByteArray} (h : ¬ touched f d.size (i / 8)) : byteW l ns f d i = Ov.atTo l ns i := by
  unfold byteW
  rw [if_neg]
  rintro ⟨h1, h2⟩
  exact h ⟨by omega, by omega⟩
theorem byteW_split (l : Ov.Files) (ns : List ByteArray) (f i : Nat) (d : ByteArray) : Ov.byteAt (blockW l ns f d (i / 8)) (i % 8) = byteW l ns f d i := by
  rw [blockW_byte _ _ _ _ _ (by omega)]; congr 1; omega
theorem write_at {l : Ov.Files} {x d : ByteArray} {ms : List ByteArray} {f : Nat} (h : Ov.Chn l (x :: ms) x) {i : Nat} (hi : i / 8 < Ov.many (fileOf l x)) :
    Ov.atTo (Ov.withF l x (encode (Ov.backing (fileOf l x)) (allTo (Ov.many (fileOf l x)) (kOld (fileOf l x)) (fun _ => 1) (touched f d.size)) (allTo (Ov.many (fileOf l x)) (bOld (fileOf l x)) (blockW l (x :: ms) f d) (touched f d.size)))) (x :: ms) i = byteW l (x :: ms) f d i := by
  rw [at_new h (enc_write h.image)]
  unfold topAt
  rw [allTo_length, if_neg (by omega), allTo_getD hi, allTo_getD hi]
  by_cases hc : touched f d.size (i / 8)
  · rw [if_pos hc, if_pos hc, if_neg (by decide), if_pos rfl, byteW_split]
  · rw [if_neg hc, if_neg hc, not_touched hc, at_old]
    unfold topAt
    rw [if_neg (c := Ov.many (fileOf l x) ≤ i / 8) (by omega)]
theorem zero_at {l : Ov.Files} {x : ByteArray} {ms : List ByteArray} {f k : Nat} (h : Ov.Chn l (x :: ms) x) {i : Nat} (hi : i / 8 < Ov.many (fileOf l x)) :
    Ov.atTo (Ov.withF l x (encode (Ov.backing (fileOf l x)) (allTo (Ov.many (fileOf l x)) (kOld (fileOf l x)) (fun i => if covered f k i then 255 else 1) (touched f k)) (allTo (Ov.many (fileOf l x)) (bOld (fileOf l x)) (fun i => if covered f k i then ⟨#[]⟩ else blockW l (x :: ms) f (noughtsF k) i) (touched f k)))) (x :: ms) i = byteW l (x :: ms) f (noughtsF k) i := by
  rw [at_new h (enc_zero h.image)]
  unfold topAt
  rw [allTo_length, if_neg (by omega), allTo_getD hi, allTo_getD hi]
  by_cases hc : touched f k (i / 8)
  · rw [if_pos hc, if_pos hc]
    by_cases hv : covered f k (i / 8)
    · rw [if_pos hv, if_pos rfl]
      unfold byteW
      rw [noughtsF_size, if_pos (by obtain ⟨h1, h2⟩ := hv; omega), byteAt_noughts]
    · rw [if_neg hv, if_neg hv, if_neg (by decide), if_pos rfl, byteW_split]
  · rw [if_neg hc, if_neg hc, not_touched (by rw [noughtsF_size]; exact hc), at_old]
    unfold topAt
    rw [if_neg (c := Ov.many (fileOf l x) ≤ i / 8) (by omega)]
theorem discard_at {l : Ov.Files} {x : ByteArray} {ms : List ByteArray} {f k : Nat} (h : Ov.Chn l (x :: ms) x) {i : Nat} (hi : i / 8 < Ov.many (fileOf l x)) :
    Ov.atTo (Ov.withF l x (encode (Ov.backing (fileOf l x)) (allTo (Ov.many (fileOf l x)) (kOld (fileOf l x)) (fun _ => if (Ov.backing (fileOf l x)).size = 0 then 0 else 255) (covered f k)) (allTo (Ov.many (fileOf l x)) (bOld (fileOf l x)) (fun _ => ⟨#[]⟩) (covered f k)))) (x :: ms) i = if covered f k (i / 8) then 0 else Ov.atTo l (x :: ms) i := by
  rw [at_new h (enc_discard h.image)]
  unfold topAt
  rw [allTo_length, if_neg (by omega), allTo_getD hi, allTo_getD hi]
  by_cases hc : covered f k (i / 8)
  · rw [if_pos hc, if_pos hc, if_pos hc]
    obtain ⟨ms', e, _, _, _, hor⟩ := chn_tail h
    obtain rfl : ms = ms' := by simpa using e
    rcases hor with ⟨h5, rfl⟩ | ⟨h5, _⟩
    · rw [if_pos h5, if_neg (by decide), if_neg (by decide)]; rfl
    · rw [if_neg h5, if_pos rfl]
  · rw [if_neg hc, if_neg hc, if_neg hc, at_old]
    unfold topAt
    rw [if_neg (c := Ov.many (fileOf l x) ≤ i / 8) (by omega)]
structure Turned (l l' : Ov.Files) (x : ByteArray) (ns : List ByteArray) (at' : Nat → Nat) : Prop where
  chn : Ov.Chn l' ns x
  many : Ov.many (fileOf l' x) = Ov.many (fileOf l x)
  at' : ∀ i, i < 8 * Ov.many (fileOf l x) → Ov.atTo l' ns i = at' i
  other : ∀ y, x ≠ y → getF l' y = getF l y
theorem turned_same {l : Ov.Files} {x : ByteArray} {ns : List ByteArray} {a : Nat → Nat} (h : Ov.Chn l ns x) (ha : ∀ i, i < 8 * Ov.many (fileOf l x) → Ov.atTo l ns i = a i) : Turned l l x ns a := ⟨h, rfl, ha, fun _ _ => rfl⟩
theorem file_with {l : Ov.Files} {x e : ByteArray} : fileOf (Ov.withF l x e) x = e := (getF_some (by rw [getF_withF, if_pos rfl])).2
theorem turned_new {l : Ov.Files} {x : ByteArray} {ms : List ByteArray} {ks : List Int} {bs : List ByteArray} {a : Nat → Nat} (h : Ov.Chn l (x :: ms) x) (he : Enc (Ov.backing (fileOf l x)) ks bs) (hl : ks.length = Ov.many (fileOf l x)) (ha : ∀ i, i / 8 < Ov.many (fileOf l x) → Ov.atTo (Ov.withF l x (encode (Ov.backing (fileOf l x)) ks bs)) (x :: ms) i = a i) : Turned l (Ov.withF l x (encode (Ov.backing (fileOf l x)) ks bs)) x (x :: ms) a :=
  ⟨chn_new h he, by rw [file_with, he.many, hl], fun i hi => ha i (by omega), fun y hy => by rw [getF_withF, if_neg hy]⟩
theorem ranged_in {l : Ov.Files} {x : ByteArray} {ns : List ByteArray} {f k : Int} (h : Ov.Chn l ns x) (h1 : 0 ≤ f) (h2 : 0 ≤ k) (h3 : f + k ≤ 8 * (Ov.many (fileOf l x) : Int)) : rangedF l x f k = 0 := by
  unfold rangedF
  rw [if_neg (fun q => q (chn_sound h)), if_neg (by omega)]
theorem write_out (room : Nat) {l : Ov.Files} {x d : ByteArray} {ns : List ByteArray} {f : Nat} (h : Ov.Chn l ns x) (hf : f + d.size ≤ 8 * Ov.many (fileOf l x)) : writeF room l x f d = (9, l) ∨ ((writeF room l x f d).1 = 0 ∧ Turned l (writeF room l x f d).2 x ns (byteW l ns f d)) := by
  obtain ⟨ms, rfl, _⟩ := chn_tail h
  unfold writeF
  rw [ranged_in h (by omega) (by omega) (by omega), if_neg (fun q => q rfl)]
  by_cases h0 : d.size = 0
  · rw [if_pos h0]
    exact Or.inr ⟨rfl, turned_same h (fun i _ => by unfold byteW; rw [if_neg (by omega)])⟩
  · rw [if_neg h0, chn_downOf h, Int.toNat_natCast]
    unfold newF
    rcases putF_out room l (Ov.withF l x (encode (Ov.backing (fileOf l x)) (allTo (Ov.many (fileOf l x)) (kOld (fileOf l x)) (fun _ => 1) (touched f d.size)) (allTo (Ov.many (fileOf l x)) (bOld (fileOf l x)) (blockW l (x :: ms) f d) (touched f d.size)))) with e | e
    · exact Or.inl e
    · refine Or.inr ?_
      rw [e]
      exact ⟨rfl, turned_new h (enc_write h.image) allTo_length (fun i hi => write_at h hi)⟩
theorem zero_out (room : Nat) {l : Ov.Files} {x : ByteArray} {ns : List ByteArray} {f k : Nat} (h : Ov.Chn l ns x) (hf : f + k ≤ 8 * Ov.many (fileOf l x)) : zeroF room l x f k = (9, l) ∨ ((zeroF room l x f k).1 = 0 ∧ Turned l (zeroF room l x f k).2 x ns (byteW l ns f (noughtsF k))) := by
  obtain ⟨ms, rfl, _⟩ := chn_tail h
  unfold zeroF
  rw [ranged_in h (by omega) (by omega) (by omega), if_neg (fun q => q rfl)]
  by_cases h0 : k = 0
  · rw [if_pos (by omega)]
    exact Or.inr ⟨rfl, turned_same h (fun i _ => by unfold byteW; rw [noughtsF_size, if_neg (by omega)])⟩
  · rw [if_neg (by omega), chn_downOf h, Int.toNat_natCast, Int.toNat_natCast]
    unfold newF
    rcases putF_out room l (Ov.withF l x (encode (Ov.backing (fileOf l x)) (allTo (Ov.many (fileOf l x)) (kOld (fileOf l x)) (fun i => if covered f k i then 255 else 1) (touched f k)) (allTo (Ov.many (fileOf l x)) (bOld (fileOf l x)) (fun i => if covered f k i then ⟨#[]⟩ else blockW l (x :: ms) f (noughtsF k) i) (touched f k)))) with e | e
    · exact Or.inl e
    · refine Or.inr ?_
      rw [e]
      exact ⟨rfl, turned_new h (enc_zero h.image) allTo_length (fun i hi => zero_at h hi)⟩
theorem discard_out (room : Nat) {l : Ov.Files} {x : ByteArray} {ns : List ByteArray} {f k : Nat} (h : Ov.Chn l ns x) (hf : f + k ≤ 8 * Ov.many (fileOf l x)) : discardF room l x f k = (9, l) ∨ ((discardF room l x f k).1 = 0 ∧ Turned l (discardF room l x f k).2 x ns (fun i => if covered f k (i / 8) then 0 else Ov.atTo l ns i)) := by
  obtain ⟨ms, rfl, _⟩ := chn_tail h
  unfold discardF
  rw [ranged_in h (by omega) (by omega) (by omega), if_neg (fun q => q rfl), Int.toNat_natCast, Int.toNat_natCast]
  by_cases h0 : (List.range (Ov.many (fileOf l x))).all (fun i => !decide (covered f k i)) = true
  · rw [if_pos h0]
    rw [List.all_eq_true] at h0
    exact Or.inr ⟨rfl, turned_same h (fun i hi => by
      have := h0 (i / 8) (by simp; omega)
      rw [if_neg (by intro q; simp at this; obtain ⟨q1, q2⟩ := q; omega)])⟩
  · rw [if_neg h0]
    unfold newF
    rcases putF_out room l (Ov.withF l x (encode (Ov.backing (fileOf l x)) (allTo (Ov.many (fileOf l x)) (kOld (fileOf l x)) (fun _ => if (Ov.backing (fileOf l x)).size = 0 then 0 else 255) (covered f k)) (allTo (Ov.many (fileOf l x)) (bOld (fileOf l x)) (fun _ => ⟨#[]⟩) (covered f k)))) with e | e
    · exact Or.inl e
    · refine Or.inr ?_
      rw [e]
      exact ⟨rfl, turned_new h (enc_discard h.image) allTo_length (fun i hi => discard_at h hi)⟩

end Go.Proofs.YtomiepknmmpflaaGreatDoor

namespace Go.Proofs.YtomiepknmmpflaaGreatDoor
open Go.RowKit Go.Joins

theorem viewF_ext {l l' : Ov.Files} {ns ns' : List ByteArray} {k : Nat} (h : ∀ i, i < k → Ov.atTo l' ns' i = Ov.atTo l ns i) : viewF l' ns' 0 k = viewF l ns 0 k := by
  refine view_is (viewF_size _ _ _ _) fun i hi => ?_
  rw [viewF_get _ _ _ hi, Nat.zero_add, h i hi]
theorem enc_rebase {l : Ov.Files} {s bk : ByteArray} {nx nb : List ByteArray} (hi : Ov.isImage s) (hb : bk.size ≤ 8) (hn : 0 < bk.size → Ov.nameB bk = true) :
    Enc bk (allTo (Ov.many s) (kOld s) (rebK l nx) (rebC l s nx nb)) (allTo (Ov.many s) (bOld s) (fun i => viewF l nx (8 * i) 8) (rebD l s nx nb)) := by
  refine enc_of hi hb hn allTo_length (kinds_all (fun i => by unfold rebK; split <;> simp)) fun i h1 h2 => ?_
  rw [allTo_getD h1] at h2 ⊢
  by_cases hc : rebC l s nx nb i
  · rw [if_pos hc] at h2
    unfold rebK at h2
    by_cases hv : viewF l nx (8 * i) 8 = noughtsF 8
    · rw [if_pos hv] at h2; exact absurd h2 (by decide)
    · rw [if_pos ⟨hc, hv⟩]; exact viewF_size _ _ _ _
  · rw [if_neg hc] at h2
    rw [if_neg (fun q => hc q.1)]; exact old_size hi h1 h2
theorem rebase_at {l : Ov.Files} {x bk : ByteArray} {ms nb : List ByteArray} (h : Ov.Chn l (x :: ms) x) (hb : bk.size ≤ 8) (hn : 0 < bk.size → Ov.nameB bk = true) (hx : x ∉ nb) (hp : ∀ y ∈ nb, Ov.place l y < l.length) (i : Nat) :
    Ov.atTo (Ov.withF l x (encode bk (allTo (Ov.many (fileOf l x)) (kOld (fileOf l x)) (rebK l (x :: ms)) (rebC l (fileOf l x) (x :: ms) nb)) (allTo (Ov.many (fileOf l x)) (bOld (fileOf l x)) (fun i => viewF l (x :: ms) (8 * i) 8) (rebD l (fileOf l x) (x :: ms) nb)))) (x :: nb) i = Ov.atTo l (x :: ms) i := by
  rw [at_enc (enc_rebase (s := fileOf l x) h.image hb hn) (by rw [getF_withF, if_pos rfl]), atTo_same hp (sameOn_with hx)]
  have hat := at_old l x ms i
  unfold topAt at hat ⊢
  rw [allTo_length]
  by_cases hm : Ov.many (fileOf l x) ≤ i / 8
  · rw [if_pos hm] at hat ⊢; exact hat.symm
  · rw [if_neg hm] at hat ⊢
    rw [allTo_getD (by omega), allTo_getD (by omega)]
    by_cases hc : rebC l (fileOf l x) (x :: ms) nb (i / 8)
    · rw [if_pos hc]
      unfold rebK
      by_cases hv : viewF l (x :: ms) (8 * (i / 8)) 8 = noughtsF 8
      · rw [if_pos hv, if_pos rfl]
        have := viewF_nought.1 hv (i % 8) (by omega)
        rw [show 8 * (i / 8) + i % 8 = i by omega] at this
        exact this.symm
      · rw [if_neg hv, if_neg (by decide), if_pos rfl, if_pos ⟨hc, hv⟩, viewF_get _ _ _ (by omega), show 8 * (i / 8) + i % 8 = i by omega]
    · rw [if_neg hc, if_neg (c := rebD l (fileOf l x) (x :: ms) nb (i / 8)) (fun q => hc q.1)]
      by_cases h0 : kOld (fileOf l x) (i / 8) = 0
      · have hq : viewF l (x :: ms) (8 * (i / 8)) 8 = viewF l nb (8 * (i / 8)) 8 := Classical.byContradiction fun q => hc ⟨h0, q⟩
        have := viewF_eq.1 hq (i % 8) (by omega)
        rw [show 8 * (i / 8) + i % 8 = i by omega] at this
        rw [if_neg (by rw [h0]; decide), if_neg (by rw [h0]; decide)]
        exact this.symm
      · rw [hat]
        rcases kOld_known (fileOf l x) (i / 8) with e | e | e
        · exact absurd e h0
        · rw [if_neg (c := kOld (fileOf l x) (i / 8) = 255) (by rw [e]; decide), if_pos (c := kOld (fileOf l x) (i / 8) = 1) e, if_neg (c := kOld (fileOf l x) (i / 8) = 255) (by rw [e]; decide), if_pos (c := kOld (fileOf l x) (i / 8) = 1) e]
        · rw [if_pos (c := kOld (fileOf l x) (i / 8) = 255) e, if_pos (c := kOld (fileOf l x) (i / 8) = 255) e]
structure Rebased (l l' : Ov.Files) (x bk : ByteArray) (ms nb : List ByteArray) : Prop where
  old : Ov.Chn l (x :: ms) x
  below : bk.size = 0 ∧ nb = [] ∨ bk.size ≠ 0 ∧ Ov.Chn l nb bk
  chn : Ov.Chn l' (x :: nb) x
  at' : ∀ i, Ov.atTo l' (x :: nb) i = Ov.atTo l (x :: ms) i
  many : Ov.many (fileOf l' x) = Ov.many (fileOf l x)
  other : ∀ y, x ≠ y → getF l' y = getF l y
theorem rebase_out (room : Nat) {l : Ov.Files} (hi : Ov.LI room l) (x bk : ByteArray) : ((rebaseF room l x bk).1 ≠ 0 ∧ (rebaseF room l x bk).2 = l) ∨ ((rebaseF room l x bk).1 = 0 ∧ ∃ ms nb, Rebased l (rebaseF room l x bk).2 x bk ms nb) := by
  unfold rebaseF
  by_cases hs : Ov.soundF l x = 0
  case neg => rw [if_pos hs]; exact Or.inl ⟨hs, rfl⟩
  rw [if_neg (fun q => q hs)]
  by_cases hb : bk.size ≠ 0 ∧ Ov.soundF l bk ≠ 0
  · rw [if_pos hb]; exact Or.inl ⟨hb.2, rfl⟩
  rw [if_neg hb]
  by_cases hm : Ov.metB (overN l bk) x = true
  · rw [if_pos hm]; exact Or.inl ⟨by simp, rfl⟩
  rw [if_neg hm]
  have hx : x ∉ overN l bk := fun q => hm (Ov.metB_iff.2 q)
  obtain ⟨_, hc⟩ := sound_here hs
  obtain ⟨ms, hms, _⟩ := chn_tail hc
  rw [hms] at hc ⊢
  have hbl : bk.size = 0 ∧ overN l bk = [] ∨ bk.size ≠ 0 ∧ Ov.Chn l (overN l bk) bk := by
    unfold overN
    by_cases h0 : bk.size = 0
    · rw [if_pos h0]; exact Or.inl ⟨h0, rfl⟩
    · rw [if_neg h0]
      exact Or.inr ⟨h0, (sound_here (Classical.byContradiction fun q => hb ⟨h0, q⟩)).2⟩
  have hp : ∀ y ∈ overN l bk, Ov.place l y < l.length := fun y hy => by
    rcases hbl with ⟨_, e⟩ | ⟨_, k⟩
    · rw [e] at hy; cases hy
    · exact chn_here k hy
  have hn : bk.size ≤ 8 ∧ (0 < bk.size → Ov.nameB bk = true) := by
    rcases hbl with ⟨e, _⟩ | ⟨_, k⟩
    · exact ⟨by omega, fun q => by omega⟩
    · have := hi.names _ k.here
      rw [Ov.place_name k.here] at this
      exact ⟨hi.name_size k.here, fun _ => this⟩
  obtain ⟨nb, hnb⟩ : ∃ nb, overN l bk = nb := ⟨_, rfl⟩
  rw [hnb] at hx hbl hp ⊢
  rcases putF_out room l (Ov.withF l x (encode bk (allTo (Ov.many (fileOf l x)) (kOld (fileOf l x)) (rebK l (x :: ms)) (rebC l (fileOf l x) (x :: ms) nb)) (allTo (Ov.many (fileOf l x)) (bOld (fileOf l x)) (fun i => viewF l (x :: ms) (8 * i) 8) (rebD l (fileOf l x) (x :: ms) nb)))) with e | e
  · rw [e]; exact Or.inl ⟨by simp, rfl⟩
  · rw [e]
    have he := enc_rebase (l := l) (nx := x :: ms) (nb := nb) hc.image hn.1 hn.2
    refine Or.inr ⟨rfl, ms, nb, hc, hbl, ?_, rebase_at hc hn.1 hn.2 hx hp, by rw [file_with, he.many, allTo_length], fun y hy => by rw [getF_withF, if_neg hy]⟩
    refine chn_mk (by rw [getF_withF, if_pos rfl]) he.image ?_
    rw [he.backing]
    rcases hbl with h5 | ⟨h5, h6⟩
    · exact Or.inl h5
    · exact Or.inr ⟨h5, chn_same h6 (sameOn_with hx)⟩
theorem chn_swap {l l' : Ov.Files} {x : ByteArray} {ms ms' : List ByteArray} (hc : Ov.Chn l (x :: ms) x) (hc' : Ov.Chn l' (x :: ms') x) (ha : ∀ i, Ov.atTo l' (x :: ms') i = Ov.atTo l (x :: ms) i) (ho : ∀ y, x ≠ y → getF l' y = getF l y) : ∀ {ns : List ByteArray} {z : ByteArray}, Ov.Chn l ns z → ∃ ns', Ov.Chn l' ns' z ∧ ∀ i, Ov.atTo l' ns' i = Ov.atTo l ns i
  | [], _, h => h.elim
  | y :: ns, z, h => by
    by_cases hz : x = z
    · subst hz
      rw [chn_unique h hc]
      exact ⟨_, hc', ha⟩
    · obtain ⟨rfl, hp, him, hor⟩ := h
      have hg := ho z hz
      have hf := get_file hp hg
      rw [getF_here hp] at hg
      rcases hor with ⟨h5, rfl⟩ | ⟨h5, h6⟩
      · exact ⟨[z], chn_mk hg him (Or.inl ⟨h5, rfl⟩), fun i => by rw [Ov.atTo_cons, Ov.atTo_cons, hf]; rfl⟩
      · obtain ⟨ns', k1, k2⟩ := chn_swap hc hc' ha ho h6
        exact ⟨z :: ns', chn_mk hg him (Or.inr ⟨h5, k1⟩), fun i => by rw [Ov.atTo_cons, Ov.atTo_cons, hf, k2]⟩
theorem Rebased.views {l l' : Ov.Files} {x bk : ByteArray} {ms nb : List ByteArray} (h : Rebased l l' x bk ms nb) (z : ByteArray) : readK l' z = readK l z := by
  have hm : ∀ z, Ov.place l z < l.length → Ov.many (fileOf l' z) = Ov.many (fileOf l z) := fun z hp => by
    by_cases hz : x = z
    · subst hz; exact h.many
    · show Ov.many (Ov.fileAt l' (Ov.place l' z)) = _
      rw [get_file hp (h.other z hz)]
  by_cases hs : (readK l z).2 = true
  · obtain ⟨ns, k1, _⟩ := readK_ok hs
    obtain ⟨ns', k2, k3⟩ := chn_swap h.old h.chn h.at' h.other k1
    rw [readK_yes k1, readK_yes k2, hm z k1.here, viewF_ext (fun i _ => k3 i)]
  · have hs' : (readK l z).2 = false := by simpa using hs
    have hq : ¬ (readK l' z).2 = true := fun q => by
      obtain ⟨ns, k1, _⟩ := readK_ok q
      obtain ⟨ns', k2, _⟩ := chn_swap h.chn h.old (fun i => (h.at' i).symm) (fun y hy => (h.other y hy).symm) k1
      exact (readK_no hs').1 (chn_sound k2)
    rw [(readK_no hs').2, (readK_no (by simpa using hq)).2]

theorem enc_blank {s bk : ByteArray} (hi : Ov.isImage s) (hb : bk.size ≤ 8) (hn : 0 < bk.size → Ov.nameB bk = true) : Enc bk (noKinds (Ov.many s)) (noBlocks (Ov.many s)) :=
  enc_of hi hb hn (by simp [noKinds]) (fun i _ => Or.inl (noKinds_getD _ _)) (fun i _ h => by rw [noKinds_getD] at h; exact absurd h (by decide))
theorem enc_commit {s t : ByteArray} (hs : Ov.isImage s) (ht : Ov.isImage t) : Enc (Ov.backing t) (comKs s t (Ov.many s)) (comBs s t (Ov.many s)) := by
  have h1 : 1 ≤ Ov.many t := ht.1.2.2.2.2.1
  have h2 : Ov.many t ≤ 30 := ht.1.2.2.2.2.2.1
  have h3 : Ov.many s ≤ 30 := hs.1.2.2.2.2.2.1
  refine ⟨by rw [comKs_length]; omega, by rw [comKs_length]; omega, (back_ok ht).1, (back_ok ht).2, fun i hi => ?_, fun i hi hk => ?_⟩
  · rw [comKs_length] at hi
    rw [comKs_getD hi]
    unfold comK
    split
    · exact kOld_known s i
    · split
      · exact kOld_known t i
      · unfold comEx; split <;> simp
  · rw [comKs_length] at hi
    rw [comKs_getD hi] at hk
    rw [comBs_getD hi]
    unfold comK at hk
    unfold comB
    by_cases h : i < Ov.many s ∧ kOld s i ≠ 0
    · rw [if_pos h] at hk ⊢; exact old_size hs h.1 hk
    · rw [if_neg h] at hk ⊢
      by_cases h4 : i < Ov.many t
      · rw [if_pos h4] at hk ⊢; exact old_size ht h4 hk
      · rw [if_neg h4] at hk; exfalso; unfold comEx at hk; split at hk <;> exact absurd hk (by decide)
structure Done (l l' : Ov.Files) (x bk : ByteArray) (rest : List ByteArray) : Prop where
  old : Ov.Chn l (x :: bk :: rest) x
  ne : x ≠ bk
  size : bk.size ≠ 0
  chn : Ov.Chn l' (x :: bk :: rest) x
  chnB : Ov.Chn l' (bk :: rest) bk
  at' : ∀ i, Ov.atTo l' (x :: bk :: rest) i = Ov.atTo l (x :: bk :: rest) i
  atB : ∀ i, i < 8 * Ov.many (fileOf l x) → Ov.atTo l' (bk :: rest) i = Ov.atTo l (x :: bk :: rest) i
  many : Ov.many (fileOf l' x) = Ov.many (fileOf l x)
  manyB : Ov.many (fileOf l x) ≤ Ov.many (fileOf l' bk)
  file : fileOf l' x = encode bk (noKinds (Ov.many (fileOf l x))) (noBlocks (Ov.many (fileOf l x)))
  enc : Enc bk (noKinds (Ov.many (fileOf l x))) (noBlocks (Ov.many (fileOf l x)))
  other : ∀ y, x ≠ y → bk ≠ y → getF l' y = getF l y
theorem commit_done {l : Ov.Files} {x bk : ByteArray} {rest : List ByteArray} (h : Ov.Chn l (x :: bk :: rest) x) (hbk : Ov.backing (fileOf l x) = bk) (hb0 : bk.size ≠ 0) (hcb : Ov.Chn l (bk :: rest) bk) :
    Done l (Ov.withF (Ov.withF l x (encode bk (noKinds (Ov.many (fileOf l x))) (noBlocks (Ov.many (fileOf l x))))) bk (encode (Ov.backing (fileOf l bk)) (comKs (fileOf l x) (fileOf l bk) (Ov.many (fileOf l x))) (comBs (fileOf l x) (fileOf l bk) (Ov.many (fileOf l x))))) x bk rest := by
  have hn := chn_nodup h
  rw [List.nodup_cons, List.nodup_cons] at hn
  have hne : x ≠ bk := fun q => hn.1 (by rw [q]; simp)
  have hxr : x ∉ rest := fun q => hn.1 (List.mem_cons_of_mem _ q)
  have hb8 : bk.size ≤ 8 := by rw [← hbk]; exact (back_ok h.image).1
  have hbn : 0 < bk.size → Ov.nameB bk = true := by rw [← hbk]; exact (back_ok h.image).2
  have e1 := enc_blank (s := fileOf l x) h.image hb8 hbn
  have e2 := enc_commit (s := fileOf l x) (t := fileOf l bk) h.image hcb.image
  obtain ⟨E1, hE1⟩ : ∃ E, encode bk (noKinds (Ov.many (fileOf l x))) (noBlocks (Ov.many (fileOf l x))) = E := ⟨_, rfl⟩
  obtain ⟨E2, hE2⟩ : ∃ E, encode (Ov.backing (fileOf l bk)) (comKs (fileOf l x) (fileOf l bk) (Ov.many (fileOf l x))) (comBs (fileOf l x) (fileOf l bk) (Ov.many (fileOf l x))) = E := ⟨_, rfl⟩
  have g1 : getF (Ov.withF (Ov.withF l x E1) bk E2) x = some E1 := by rw [getF_withF, if_neg (fun q => hne q.symm), getF_withF, if_pos rfl]
  have g2 : getF (Ov.withF (Ov.withF l x E1) bk E2) bk = some E2 := by rw [getF_withF, if_pos rfl]
  have go : ∀ y, x ≠ y → bk ≠ y → getF (Ov.withF (Ov.withF l x E1) bk E2) y = getF l y := fun y h1 h2 => by rw [getF_withF, if_neg h2, getF_withF, if_neg h1]
  obtain ⟨rest', er, hbr, hpr, himb, horb⟩ := chn_tail hcb
  obtain rfl : rest = rest' := by simpa using er
  have hso : SameOn l (Ov.withF (Ov.withF l x E1) bk E2) rest := fun y hy => go y (fun q => hxr (by rw [q]; exact hy)) (fun q => hbr (by rw [q]; exact hy))
  have cB : Ov.Chn (Ov.withF (Ov.withF l x E1) bk E2) (bk :: rest) bk := by
    refine chn_mk g2 (by rw [← hE2]; exact e2.image) ?_
    rw [← hE2, e2.backing]
    rcases horb with h5 | ⟨h5, h6⟩
    · exact Or.inl h5
    · rw [hE2]; exact Or.inr ⟨h5, chn_same h6 hso⟩
  have cX : Ov.Chn (Ov.withF (Ov.withF l x E1) bk E2) (x :: bk :: rest) x := by
    refine chn_mk g1 (by rw [← hE1]; exact e1.image) ?_
    rw [← hE1, e1.backing, hE1]
    exact Or.inr ⟨hb0, cB⟩
  have atB : ∀ i, i < 8 * Ov.many (fileOf l x) → Ov.atTo (Ov.withF (Ov.withF l x E1) bk E2) (bk :: rest) i = Ov.atTo l (x :: bk :: rest) i := fun i hi => by
    rw [at_enc e2 (by rw [g2, hE2]), atTo_same hpr hso, at_old l x, at_old l bk]
    unfold topAt
    have hm : i / 8 < Ov.many (fileOf l x) := by omega
    rw [comKs_length, if_neg (by omega), if_neg (c := Ov.many (fileOf l x) ≤ i / 8) (by omega), comKs_getD (by omega), comBs_getD (by omega)]
    unfold comK comB
    rcases kOld_known (fileOf l x) (i / 8) with e | e | e
    · rw [if_neg (c := i / 8 < Ov.many (fileOf l x) ∧ kOld (fileOf l x) (i / 8) ≠ 0) (fun q => q.2 e), if_neg (c := i / 8 < Ov.many (fileOf l x) ∧ kOld (fileOf l x) (i / 8) ≠ 0) (fun q => q.2 e), if_neg (c := kOld (fileOf l x) (i / 8) = 255) (by rw [e]; decide), if_neg (c := kOld (fileOf l x) (i / 8) = 1) (by rw [e]; decide)]
      by_cases ht : i / 8 < Ov.many (fileOf l bk)
      · rw [if_pos ht, if_pos ht, if_neg (c := Ov.many (fileOf l bk) ≤ i / 8) (by omega)]
      · rw [if_neg ht, if_neg ht, if_pos (c := Ov.many (fileOf l bk) ≤ i / 8) (by omega)]
        unfold comEx
        rcases horb with ⟨h5, rfl⟩ | ⟨h5, _⟩
        · rw [if_pos h5, if_neg (by decide), if_neg (by decide)]; rfl
        · rw [if_neg h5, if_pos rfl]
    · rw [if_pos (c := i / 8 < Ov.many (fileOf l x) ∧ kOld (fileOf l x) (i / 8) ≠ 0) ⟨hm, by rw [e]; decide⟩, if_pos (c := i / 8 < Ov.many (fileOf l x) ∧ kOld (fileOf l x) (i / 8) ≠ 0) ⟨hm, by rw [e]; decide⟩, if_neg (c := kOld (fileOf l x) (i / 8) = 255) (by rw [e]; decide), if_pos (c := kOld (fileOf l x) (i / 8) = 1) e, if_neg (c := kOld (fileOf l x) (i / 8) = 255) (by rw [e]; decide), if_pos (c := kOld (fileOf l x) (i / 8) = 1) e]
    · rw [if_pos (c := i / 8 < Ov.many (fileOf l x) ∧ kOld (fileOf l x) (i / 8) ≠ 0) ⟨hm, by rw [e]; decide⟩, if_pos (c := kOld (fileOf l x) (i / 8) = 255) e, if_pos (c := kOld (fileOf l x) (i / 8) = 255) e]
  have hnk : (noKinds (Ov.many (fileOf l x))).length = Ov.many (fileOf l x) := by simp [noKinds]
  rw [hE1, hE2]
  refine ⟨h, hne, hb0, cX, cB, fun i => ?_, atB, ?_, ?_, ?_, e1, go⟩
  · rw [at_enc e1 (by rw [g1, hE1])]
    unfold topAt
    rw [hnk, noKinds_getD]
    by_cases hm : Ov.many (fileOf l x) ≤ i / 8
    · rw [if_pos hm, at_old]; unfold topAt; rw [if_pos hm]
    · rw [if_neg hm, if_neg (by decide), if_neg (by decide), atB i (by omega)]
  · rw [(getF_some g1).2, ← hE1, e1.many, hnk]
  · rw [(getF_some g2).2, ← hE2, e2.many, comKs_length]; omega
  · rw [(getF_some g1).2, hE1]
theorem commit_out (room : Nat) (l : Ov.Files) (x : ByteArray) : ((commitF room l x).1 ≠ 0 ∧ (commitF room l x).2 = l ∧ (Ov.soundF l x = 0 → (commitF room l x).1 = 8 ∨ (commitF room l x).1 = 9)) ∨ ((commitF room l x).1 = 0 ∧ ∃ rest, Done l (commitF room l x).2 x (Ov.backing (fileOf l x)) rest) := by
  unfold commitF
  by_cases hs : Ov.soundF l x = 0
  case neg => rw [if_pos hs]; exact Or.inl ⟨hs, rfl, fun q => absurd q hs⟩
  rw [if_neg (fun q => q hs)]
  by_cases hb : (Ov.backing (fileOf l x)).size = 0
  · rw [if_pos hb]; exact Or.inl ⟨by simp, rfl, fun _ => Or.inl rfl⟩
  rw [if_neg hb]
  obtain ⟨_, hc⟩ := sound_here hs
  obtain ⟨ms, hms, _, _, _, hor⟩ := chn_tail hc
  rw [hms] at hc
  rcases hor with ⟨h5, _⟩ | ⟨h5, h6⟩
  · exact absurd h5 hb
  obtain ⟨rest, hr⟩ := chn_head h6
  rw [hr] at hc h6
  rcases putF_out room l (Ov.withF (Ov.withF l x (encode (Ov.backing (fileOf l x)) (noKinds (Ov.many (fileOf l x))) (noBlocks (Ov.many (fileOf l x))))) (Ov.backing (fileOf l x))
    (encode (Ov.backing (fileOf l (Ov.backing (fileOf l x)))) (comKs (fileOf l x) (fileOf l (Ov.backing (fileOf l x))) (Ov.many (fileOf l x))) (comBs (fileOf l x) (fileOf l (Ov.backing (fileOf l x))) (Ov.many (fileOf l x))))) with e | e
  · rw [e]; exact Or.inl ⟨by simp, rfl, fun _ => Or.inr rfl⟩
  · rw [e]; exact Or.inr ⟨rfl, rest, commit_done hc rfl hb h6⟩

def tailTo (ns : List ByteArray) : Nat → ByteArray
  | 0 => ⟨#[]⟩
  | k + 1 => tailTo ns k ++ ⟨#[44]⟩ ++ ns.getD k ⟨#[]⟩
theorem nil_append (a : ByteArray) : (⟨#[]⟩ : ByteArray) ++ a = a := bytes_ext (by rw [app_data]; rfl)
theorem append_nil (a : ByteArray) : a ++ (⟨#[]⟩ : ByteArray) = a := bytes_ext (by rw [app_data]; simp)
theorem bytes_assoc (a b c : ByteArray) : a ++ b ++ c = a ++ (b ++ c) := bytes_ext (by simp only [app_data, List.append_assoc])
theorem join_cons (x : ByteArray) (ns : List ByteArray) (k : Nat) : Ov.joinTo (x :: ns) (k + 1) = x ++ tailTo ns k := by
  induction k with
  | zero =>
    show (if 0 < 0 then _ else (⟨#[]⟩ : ByteArray)) ++ x = x ++ ⟨#[]⟩
    rw [if_neg (by omega), nil_append, append_nil]
  | succ k ih =>
    rw [Ov.joinTo, if_pos (by omega), ih, tailTo]
    simp only [bytes_assoc]
    rfl
theorem tail_cons (y : ByteArray) (r : List ByteArray) (k : Nat) : tailTo (y :: r) (k + 1) = ⟨#[44]⟩ ++ (y ++ tailTo r k) := by
  induction k with
  | zero =>
    show (⟨#[]⟩ : ByteArray) ++ ⟨#[44]⟩ ++ y = ⟨#[44]⟩ ++ (y ++ ⟨#[]⟩)
    rw [nil_append, append_nil]
  | succ k ih =>
    rw [tailTo, ih, tailTo]
    simp only [bytes_assoc]
    rfl
theorem join_two (x y : ByteArray) (r : List ByteArray) : Ov.joinTo (x :: y :: r) (x :: y :: r).length = x ++ (⟨#[44]⟩ ++ Ov.joinTo (y :: r) (y :: r).length) := by
  simp only [List.length_cons]
  rw [join_cons, tail_cons, join_cons]
theorem join_one (x : ByteArray) : Ov.joinTo [x] [x].length = x := by
  show Ov.joinTo [x] (0 + 1) = x
  rw [join_cons]; exact append_nil x

end Go.Proofs.YtomiepknmmpflaaGreatDoor

