/- What Load, Make, Chain and Check say, for the laws Moved and Spoilt: plain facts. -/
import Derived.Test.YtomiepknmmpflaaGreatDoorKPSem3
import Derived.Test.YtomiepknmmpflaaGreatDoorKWOpenAt
import Derived.Test.YtomiepknmmpflaaGreatDoorKWRebase
import Derived.Test.YtomiepknmmpflaaGreatDoorKWBytesOf
import Derived.Maps.AppendAt
namespace Go.Proofs.YtomiepknmmpflaaGreatDoor
open Go.RowKit Go.Joins

theorem readK_congr {l l' : Ov.Files} (h : ∀ y, getF l' y = getF l y) (z : ByteArray) : readK l' z = readK l z := by
  by_cases hs : (readK l z).2 = true
  · obtain ⟨ns, k1, _⟩ := readK_ok hs
    have k2 := chn_same (m := l') k1 (fun y _ => h y)
    have hf : fileOf l' z = fileOf l z := get_file k1.here (h z)
    rw [readK_yes k1, readK_yes k2, hf, viewF_ext (fun i _ => atTo_same (fun y hy => chn_here k1 hy) (fun y _ => h y) i)]
  · have hs' : (readK l z).2 = false := by simpa using hs
    have hq : ¬ (readK l' z).2 = true := fun q => by
      obtain ⟨ns, k1, _⟩ := readK_ok q
      exact (readK_no hs').1 (chn_sound (chn_same (m := l) k1 (fun y _ => (h y).symm)))
    rw [(readK_no hs').2, (readK_no (by simpa using hq)).2]
theorem LI.join_size80 {room : Nat} {l : Ov.Files} (h : Ov.LI room l) (x : ByteArray) : (Ov.chainF l x).1.size ≤ 80 := by
  unfold Ov.chainF
  split
  · rename_i hp
    have h1 := Ov.joinTo_size (h.down_size hp) (Ov.downOf l x).1.length (Nat.le_refl _)
    have h2 := Ov.down_length (l := l) l.length (seen := []) (x := x)
    have h3 := h.len
    have h4 : (Ov.downOf l x).1.length ≤ l.length := by simpa [Ov.downOf] using h2
    show (Ov.joinTo _ _).size ≤ 80
    omega
  · exact Nat.zero_le _
theorem chn_alias {l : Ov.Files} {x y f : ByteArray} {ms : List ByteArray} (hx : getF l x = some f) (hy : getF l y = some f) (h : Ov.Chn l (x :: ms) x) : Ov.Chn l (y :: ms) y := by
  obtain ⟨ms', e, _, _, him, hor⟩ := chn_tail h
  obtain rfl : ms = ms' := by simpa using e
  rw [(getF_some hx).2] at him hor
  exact chn_mk hy him hor
theorem readK_alias {l : Ov.Files} {x y f : ByteArray} (hx : getF l x = some f) (hy : getF l y = some f) : readK l y = readK l x := by
  have hf : fileOf l y = fileOf l x := by rw [(getF_some hx).2, (getF_some hy).2]
  by_cases hs : (readK l x).2 = true
  · obtain ⟨ns, k1, _⟩ := readK_ok hs
    obtain ⟨ms, rfl, _⟩ := chn_tail k1
    rw [readK_yes k1, readK_yes (chn_alias hx hy k1), hf, viewF_ext (l := l) (ns := x :: ms) (fun i _ => by rw [at_old l y, at_old l x, hf])]
  · have hs' : (readK l x).2 = false := by simpa using hs
    have hq : ¬ (readK l y).2 = true := fun q => by
      obtain ⟨ns, k1, _⟩ := readK_ok q
      obtain ⟨ms, rfl, _⟩ := chn_tail k1
      exact (readK_no hs').1 (chn_sound (chn_alias hy hx k1))
    rw [(readK_no hs').2, (readK_no (by simpa using hq)).2]
theorem load_out (room : Nat) (l : Ov.Files) {x : ByteArray} (f : ByteArray) (hx : Ov.nameB x = true) : Ov.loadF room l x f = (1, l) ∨ Ov.loadF room l x f = (9, l) ∨ Ov.loadF room l x f = (0, Ov.withF l x f) := by
  unfold Ov.loadF
  rw [if_neg (by rw [hx]; decide)]
  split
  · exact Or.inl rfl
  · exact Or.inr (putF_out _ _ _)
theorem load_here (room : Nat) (l : Ov.Files) {x f : ByteArray} (hx : Ov.nameB x = true) (hf : f.size ≤ 1000) (hp : Ov.place l x < l.length) : Ov.loadF room l x f = (9, l) ∨ Ov.loadF room l x f = (0, Ov.withF l x f) := by
  unfold Ov.loadF
  rw [if_neg (by rw [hx]; decide), if_neg (by omega)]
  exact putF_out _ _ _
theorem tally_end {s : ByteArray} (h : Ov.lost s = 0) : ∃ T : ByteArray, tally s = T ++ ⟨#[44, 48]⟩ ∧ 1 ≤ T.size ∧ T.size ≤ 20 := by
  unfold tally tallyOf
  rw [h]
  refine ⟨dec (cntTo (Ov.kindsTo s (Ov.many s)) 1 (Ov.many s)) ++ comma ++ dec (cntTo (Ov.kindsTo s (Ov.many s)) 255 (Ov.many s)) ++ comma ++ dec (Ov.many s - cntTo (Ov.kindsTo s (Ov.many s)) 1 (Ov.many s) - cntTo (Ov.kindsTo s (Ov.many s)) 255 (Ov.many s)), ?_, ?_, ?_⟩
  · rw [bytes_assoc _ comma]; rfl
  · simp only [ByteArray.size_append]
    have : comma.size = 1 := rfl
    omega
  · simp only [ByteArray.size_append]
    have h1 := dec_size (cntTo (Ov.kindsTo s (Ov.many s)) 1 (Ov.many s))
    have h2 := dec_size (cntTo (Ov.kindsTo s (Ov.many s)) 255 (Ov.many s))
    have h3 := dec_size (Ov.many s - cntTo (Ov.kindsTo s (Ov.many s)) 1 (Ov.many s) - cntTo (Ov.kindsTo s (Ov.many s)) 255 (Ov.many s))
    have : comma.size = 1 := rfl
    omega
theorem end_two {T : ByteArray} {t : ByteArray} (h : t = T ++ ⟨#[44, 48]⟩) : t.size = T.size + 2 ∧ t.extract (t.size - 2) t.size = ⟨#[44, 48]⟩ := by
  have hz : t.size = T.size + 2 := by rw [h, ByteArray.size_append]; rfl
  refine ⟨hz, ?_⟩
  rw [hz, h]
  refine bytes_ext ?_
  have hl : T.data.toList.length = T.size := rfl
  rw [Lib.extract_data, app_data, Nat.add_sub_cancel, List.drop_append, List.drop_of_length_le (by omega), hl, Nat.sub_self]
  simp
theorem check_enc {l : Ov.Files} {x bk : ByteArray} {ks : List Int} {bs : List ByteArray} (he : Enc bk ks bs) (hg : getF l x = some (encode bk ks bs)) : ∃ T : ByteArray, checkF l x = (T ++ ⟨#[44, 48]⟩, 0) ∧ 1 ≤ T.size ∧ T.size ≤ 20 := by
  obtain ⟨h1, h2⟩ := getF_some hg
  obtain ⟨T, h3, h4⟩ := tally_end he.lost
  refine ⟨T, ?_, h4⟩
  have h5 : Ov.fileAt l (Ov.place l x) = encode bk ks bs := h2
  unfold checkF
  rw [if_pos h1, h5, if_pos ((Ov.imageB_iff _).2 he.image), h3]
theorem zero_check (room : Nat) {l : Ov.Files} {x : ByteArray} {ns : List ByteArray} (h : Ov.Chn l ns x) : zeroF room l x 0 1 = (9, l) ∨ ((zeroF room l x 0 1).1 = 0 ∧ ∃ T : ByteArray, checkF (zeroF room l x 0 1).2 x = (T ++ ⟨#[44, 48]⟩, 0) ∧ 1 ≤ T.size ∧ T.size ≤ 20) := by
  have hm := h.many_le
  unfold zeroF
  rw [ranged_in h (by omega) (by omega) (by omega), if_neg (fun q => q rfl), if_neg (by decide)]
  unfold newF
  rcases putF_out room l (Ov.withF l x (encode (Ov.backing (fileOf l x)) (allTo (Ov.many (fileOf l x)) (kOld (fileOf l x)) (fun i => if covered (0 : Int).toNat (1 : Int).toNat i then 255 else 1) (touched (0 : Int).toNat (1 : Int).toNat))
    (allTo (Ov.many (fileOf l x)) (bOld (fileOf l x)) (fun i => if covered (0 : Int).toNat (1 : Int).toNat i then ⟨#[]⟩ else blockW l (Ov.downOf l x).1 (0 : Int).toNat (noughtsF (1 : Int).toNat) i) (touched (0 : Int).toNat (1 : Int).toNat)))) with e | e
  · exact Or.inl e
  · rw [e]
    exact Or.inr ⟨rfl, check_enc (enc_zero h.image) (by rw [getF_withF, if_pos rfl])⟩
theorem make_out (room : Nat) {l : Ov.Files} {x bk : ByteArray} {n : Nat} (hx : Ov.nameB x = true) (hg : getF l x = none) (hb : bk.size = 0 ∨ Ov.soundF l bk = 0) : makeF room l x n bk = (1, l) ∨ makeF room l x n bk = (9, l) ∨ makeF room l x n bk = (0, Ov.withF l x (blank bk n)) := by
  unfold makeF
  rw [if_neg (by rw [hx]; decide)]
  split
  · exact Or.inl rfl
  · rw [if_neg (getF_none hg), if_neg (fun q => hb.elim q.1 q.2), Int.toNat_natCast]
    exact Or.inr (putF_out _ _ _)
theorem enc_new {bk : ByteArray} {n : Nat} (h1 : 1 ≤ n) (h30 : n ≤ 30) (hb : bk.size ≤ 8) (hn : 0 < bk.size → Ov.nameB bk = true) : Enc bk (noKinds n) (noBlocks n) :=
  ⟨by simpa [noKinds] using h1, by simpa [noKinds] using h30, hb, hn, fun i _ => Or.inl (noKinds_getD _ _), fun i _ h => by rw [noKinds_getD] at h; exact absurd h (by decide)⟩
theorem down_where {l : Ov.Files} (f : Nat) : ∀ {seen : List ByteArray} {x : ByteArray}, Ov.place l x < l.length → (Ov.down l f seen x).2.1 ≠ 0 → Ov.place l (Ov.down l f seen x).2.2 < l.length := by
  induction f with
  | zero => intro seen x hp h; exact absurd rfl h
  | succ f ih =>
    intro seen x hp
    unfold Ov.down
    split
    · intro _; exact hp
    · split
      · intro h; exact absurd rfl h
      · split
        · intro _; exact hp
        · split
          · intro _; exact hp
          · rename_i hq
            intro h
            exact ih (by simpa using hq) h
theorem name_some {room : Nat} {l : Ov.Files} (hi : Ov.LI room l) {x : ByteArray} (hp : Ov.place l x < l.length) : 1 ≤ x.size ∧ x.size ≤ 8 := by
  have := hi.names _ hp
  rw [Ov.place_name hp] at this
  unfold Ov.nameB Ov.isName at this
  simp only [Bool.and_eq_true, decide_eq_true_eq] at this
  exact ⟨this.1, this.2.1⟩
theorem chain_where {room : Nat} {l : Ov.Files} (hi : Ov.LI room l) {x : ByteArray} (hp : Ov.place l x < l.length) (h : Ov.soundF l x ≠ 0) : (Ov.chainF l x).2.2 = Ov.soundF l x ∧ 1 ≤ (Ov.chainF l x).2.1.size := by
  unfold Ov.soundF at h ⊢
  unfold Ov.chainF
  rw [if_pos hp] at h ⊢
  rw [if_pos hp]
  exact ⟨rfl, (name_some hi (down_where l.length hp h)).1⟩
theorem all_refuse {room : Nat} {l : Ov.Files} {x : ByteArray} {i : Int} (hp : Ov.place l x < l.length) (h : Ov.soundF l x = i) (h0 : i ≠ 0) : readF l x 0 0 = (⟨#[]⟩, i) ∧ writeF room l x 0 ⟨#[]⟩ = (i, l) ∧ zeroF room l x 0 0 = (i, l) ∧ discardF room l x 0 0 = (i, l) ∧ commitF room l x = (i, l) ∧ rebaseF room l x ⟨#[]⟩ = (i, l) ∧ compareF l x x = (0, i) := by
  have hr : ∀ f k, rangedF l x f k = i := fun f k => by unfold rangedF; rw [h, if_pos h0]
  refine ⟨?_, ?_, ?_, ?_, ?_, ?_, ?_⟩
  · unfold readF; rw [hr, if_pos h0]
  · unfold writeF; rw [hr, if_pos h0]
  · unfold zeroF; rw [hr, if_pos h0]
  · unfold discardF; rw [hr, if_pos h0]
  · unfold commitF; rw [h, if_pos h0]
  · unfold rebaseF; rw [h, if_pos h0]
  · unfold compareF; rw [if_neg (fun q => q.elim (fun k => k hp) (fun k => k hp)), h, if_pos h0]

end Go.Proofs.YtomiepknmmpflaaGreatDoor

namespace Go.Proofs.YtomiepknmmpflaaGreatDoor
open Go.RowKit Go.Joins

def markF (l : Ov.Files) (i : Nat) : ByteArray := if (Ov.dumpF l (nameK i)).2 = 0 then (⟨#[43]⟩ : ByteArray) ++ (Ov.dumpF l (nameK i)).1 else ⟨#[45]⟩
def markV (l : Ov.Files) (i : Nat) : ByteArray := if (readK l (nameK i)).2 = true then (⟨#[43]⟩ : ByteArray) ++ (readK l (nameK i)).1 else ⟨#[45]⟩
structure KIn (w wr : World) (B b : Nat) (P : List Nat) (s0 s1 s2 s3 : Addr) (room : Nat) (l : Ov.Files) (v : Value) (k : Nat) (xs : List Value) : Prop where
  kw : KW wr B b (v.ownBlock.toList ++ P) s0 s1 s2 s3 room l
  fr : KFr B P w wr
  own : wr.ownsRow B 9 1 v k xs
  ap : ∀ q, v.ownBlock = some q → q ∉ P
section
variable {w wr w1 w2 : World} {B b : Nat} {P : List Nat} {s0 s1 s2 s3 : Addr} {room : Nat} {l : Ov.Files} {v v' : Value} {k : Nat} {xs xs' : List Value}
theorem KIn.start (h : KW w B b P s0 s1 s2 s3 room l) : KIn w w B b P s0 s1 s2 s3 room l (.slice none 0 0) 0 [] :=
  ⟨h, KFr.refl _ _ _, World.ownsRow_nil _ _ _ _, fun q hq => by cases hq⟩
theorem KIn.call (h : KIn w wr B b P s0 s1 s2 s3 room l v k xs) (hk : KW w1 B b (v.ownBlock.toList ++ P) s0 s1 s2 s3 room l) (hf : KFr B (v.ownBlock.toList ++ P) wr w1) : KIn w w1 B b P s0 s1 s2 s3 room l v k xs :=
  ⟨hk, h.fr.trans (hf.less (fun q hq => List.mem_append_right _ hq)), owns_of_blocks h.own (fun q hq => hf.own q (List.mem_append_left _ (by rw [hq]; simp))), h.ap⟩
theorem KIn.alloc (h : KIn w wr B b P s0 s1 s2 s3 room l v k xs) (o : Obj) : KIn w (wr.alloc o) B b P s0 s1 s2 s3 room l v k xs := by
  have hb := below_alloc1 wr o
  exact ⟨h.kw.kept hb, h.fr.trans ⟨hb.mono h.kw.un.se.size, fun q hq => hb.block q (h.kw.own q (List.mem_append_right _ hq)).1⟩, h.own.alloc _, h.ap⟩
theorem KIn.more {n : Nat} (h : KIn w wr B b P s0 s1 s2 s3 room l v k xs) (ho : w2.ownsRow B 9 1 v' n xs') (hg : wr.grownBy w2 v.ownBlock) (hw : v'.ownBlock = v.ownBlock ∨ v'.ownBlock = some wr.heap.size) : KIn w w2 B b P s0 s1 s2 s3 room l v' n xs' := by
  have hz := h.kw.un.se.size
  obtain ⟨r, r1, r2⟩ := h.kw.ov
  have hrl : ∀ q, r = some q → q < wr.heap.size := fun q hq => by obtain ⟨cs, e⟩ := r1.row hq; exact blk_lt e
  have hbl : b < wr.heap.size := by obtain ⟨cs, e⟩ := r1.blk; exact blk_lt e
  have hvB : ∀ q, v.ownBlock = some q → B ≤ q ∧ q < wr.heap.size := fun q hq => h.own.lt q hq
  have hin : ∀ q, v.ownBlock = some q → q ∈ v.ownBlock.toList ++ P := fun q hq => List.mem_append_left _ (by rw [hq]; simp)
  have hbe : Below B wr w2 := ⟨hg.os, hg.tape, hg.output, hg.size, fun q hq => hg.block q (by omega) (fun e => by have := (hvB q e.symm).1; omega)⟩
  have hP : ∀ q ∈ P, q < wr.heap.size := fun q hq => (h.kw.own q (List.mem_append_right _ hq)).1
  have hfr : KFr B P wr w2 := ⟨hbe, fun q hq => hg.block q (hP q hq) (fun e => h.ap q e.symm hq)⟩
  have hv' : ∀ q, v'.ownBlock = some q → q < w2.heap.size := fun q hq => (ho.lt q hq).2
  have hap : ∀ q, v'.ownBlock = some q → q ∉ P := fun q hq hm => by
    rcases hw with e | e
    · exact h.ap q (by rw [← e]; exact hq) hm
    · rw [e] at hq
      have := hP q hm
      have := Option.some.inj hq
      omega
  refine ⟨⟨h.kw.un.kept hbe, ⟨r, r1.of_blocks (hg.block b hbl (fun e => (h.kw.own b (hin b e.symm)).2 rfl)) (fun q hq => hg.block q (hrl q hq) (fun e => (r2 q hq).2 (hin q e.symm))), fun q hq => ⟨(r2 q hq).1, fun hm => ?_⟩⟩, h.kw.li, h.kw.hB, fun q hq => ?_⟩, h.fr.trans hfr, ho, hap⟩
  · rcases List.mem_append.1 hm with m | m
    · have m' : v'.ownBlock = some q := by
        cases e : v'.ownBlock with
        | none => rw [e] at m; cases m
        | some z => rw [e] at m; simp at m; rw [m]
      rcases hw with e | e
      · exact (r2 q hq).2 (hin q (by rw [← e]; exact m'))
      · rw [e] at m'
        have := Option.some.inj m'
        have := hrl q hq
        omega
    · exact (r2 q hq).2 (List.mem_append_right _ m)
  · rcases List.mem_append.1 hq with m | m
    · have m' : v'.ownBlock = some q := by
        cases e : v'.ownBlock with
        | none => rw [e] at m; cases m
        | some z => rw [e] at m; simp at m; rw [m]
      refine ⟨hv' q m', fun e2 => ?_⟩
      rcases hw with e | e
      · exact (h.kw.own q (hin q (by rw [← e]; exact m'))).2 e2
      · rw [e] at m'
        have := Option.some.inj m'
        omega
    · exact ⟨Nat.lt_of_lt_of_le (hP q m) hg.size, (h.kw.own q (List.mem_append_right _ m)).2⟩
end
def KList (f : Nat → ByteArray) (B b : Nat) (P : List Nat) (s0 s1 s2 s3 : Addr) (room : Nat) (l : Ov.Files) (w : World) (e : Ending) (w' : World) : Prop :=
  ∃ g c, e = .returned (.slice (some ⟨g, 0, none⟩) 6 c) ∧ KW w' B b (g :: P) s0 s1 s2 s3 room l ∧ KFr B P w w' ∧ w'.ownsRow B 9 1 (.slice (some ⟨g, 0, none⟩) 6 c) 6 (sixOf f 6) ∧ g ∉ P
theorem KIn.done {w wr : World} {B b : Nat} {P : List Nat} {s0 s1 s2 s3 : Addr} {room : Nat} {l : Ov.Files} {v : Value} {f : Nat → ByteArray} {e : Ending} (h : KIn w wr B b P s0 s1 s2 s3 room l v 6 (sixOf f 6)) (he : e = .returned v) : KList f B b P s0 s1 s2 s3 room l w e wr := by
  obtain ⟨g, c, rfl⟩ := ownsRow_form h.own (by omega)
  exact ⟨g, c, he, h.kw, h.fr, h.own, h.ap g rfl⟩
theorem LI.dump_size {room : Nat} {l : Ov.Files} (h : Ov.LI room l) (x : ByteArray) : (Ov.dumpF l x).1.size ≤ 1000 := by
  unfold Ov.dumpF
  split
  · rename_i hp; exact h.size _ hp
  · exact Nat.zero_le _
theorem readK_size (l : Ov.Files) (x : ByteArray) : (readK l x).1.size ≤ 240 := by
  unfold readK
  split
  · rename_i hs
    have := (sound_check hs).2
    rw [viewF_size]; omega
  · exact Nat.zero_le _

set_option maxRecDepth 100000 in
set_option maxHeartbeats 2000000 in
theorem kfiles_calls (B b : Nat) (P : List Nat) (s0 s1 s2 s3 : Addr) (room : Nat) (l : Ov.Files) (w : World) (h : KW w B b P s0 s1 s2 s3 room l) :
    Calls Tryz.prog 16 #[.pointer (some ⟨b, 0, none⟩)] w (KList (markF l) B b P s0 s1 s2 s3 room l w) := by
  obtain ⟨i0, hi, hz0, hz1, hz2⟩ := info_parts Tryz.infoString
  have HH := hide h
  clear h
  go_enter Tryz.func16, Tryz.ntmps16
  go_wp2_with fail
  go_loopw [3, 4] (fun lv i wr => ∃ (k : Nat) (a : Option Addr) (c : Nat), k ≤ 6 ∧ i = .int .i64 k ∧ lv = .slice a k c ∧ KIn w wr B b P s0 s1 s2 s3 room l (.slice a k c) k (sixOf (markF l) k)) (fun _ i _ => 6 - (intOf i).toNat)
  case atStart => exact ⟨0, none, 0, Nat.zero_le _, rfl, rfl, KIn.start (unhide HH)⟩
  case round =>
    obtain ⟨k, a, c, hk, rfl, rfl, hin⟩ := hrel
    have HIN := hide hin
    by_cases hlt : k < 6
    · have HD : Hid (Calls Tryz.prog 34 #[.pointer (some ⟨b, 0, none⟩), .string ((⟨#[97, 98, 99, 100, 101, 102]⟩ : ByteArray).extract k (k + 1))] wr (KPost (.tuple #[.string (Ov.dumpF l (nameK k)).1, .int .i64 (Ov.dumpF l (nameK k)).2]) B b ((Value.slice a k c).ownBlock.toList ++ P) s0 s1 s2 s3 room l wr)) := kDump hin.kw (nameK k)
      have hsz := LI.dump_size hin.kw.li (nameK k)
      have HMK : Hid (markF l k = if (Ov.dumpF l (nameK k)).2 = 0 then (⟨#[43]⟩ : ByteArray) ++ (Ov.dumpF l (nameK k)).1 else ⟨#[45]⟩) := rfl
      obtain ⟨t, ht⟩ : ∃ t, (Ov.dumpF l (nameK k)).1 = t := ⟨_, rfl⟩
      obtain ⟨q, hq⟩ : ∃ q, (Ov.dumpF l (nameK k)).2 = q := ⟨_, rfl⟩
      rw [ht, hq] at HD HMK
      rw [ht] at hsz
      clear ht hq hin
      by_cases h0 : q = 0
      · subst h0
        rw [if_pos rfl] at HMK
        go_wp2_with (first
          | (go_at_call 34; refine (unhide HD).mono ?_; rintro e w1 ⟨rfl, hk1, hf1⟩; have HC := hide ((unhide HIN).call hk1 hf1); have hz9 := hk1.un.se.size; clear hk1 hf1)
          | (at_builtin; refine wpList_append_own_at _ rfl (.tmp 24) (.tmp 26) 30 rfl B 9 i0 (.string ⟨#[]⟩) 1 16 Tryz.underlying30 hi hz0 hz1 hz2 rfl (by decide) (.slice a k c) k _ rfl ((unhide HC).alloc _).own ⟨w1.heap.size, 0, none⟩ 1 1 [.string ((⟨#[43]⟩ : ByteArray) ++ t)] rfl rfl (one_new (by simp)) (by intro u hu; simp at hu; subst hu; rfl) (by unfold maxLen; omega) (by omega) (by simp; omega) ?_; intro v2 w2 ho2 hg2 _ hw2; have HM := hide (((unhide HC).alloc _).more ho2 hg2 hw2); obtain ⟨g2, c2, rfl⟩ := ownsRow_form ho2 (by omega); clear ho2 hg2 hw2))
        go_roundw
        case rel => exact ⟨k + 1, _, _, by omega, by go_num, rfl, by rw [sixOf_succ, unhide HMK]; exact unhide HM⟩
        case measure => simp [intOf]; omega
      · rw [if_neg h0] at HMK
        have hqn : (q != 0) = true := by rw [bne_iff_ne]; exact h0
        go_wp2_with (first
          | (go_at_call 34; refine (unhide HD).mono ?_; rintro e w1 ⟨rfl, hk1, hf1⟩; have HC := hide ((unhide HIN).call hk1 hf1); have hz9 := hk1.un.se.size; clear hk1 hf1)
          | (at_builtin; refine wpList_append_own_at _ rfl (.tmp 24) (.tmp 26) 30 rfl B 9 i0 (.string ⟨#[]⟩) 1 16 Tryz.underlying30 hi hz0 hz1 hz2 rfl (by decide) (.slice a k c) k _ rfl ((unhide HC).alloc _).own ⟨w1.heap.size, 0, none⟩ 1 1 [.string ⟨#[45]⟩] rfl rfl (one_new (by simp)) (by intro u hu; simp at hu; subst hu; rfl) (by unfold maxLen; omega) (by omega) (by simp; omega) ?_; intro v2 w2 ho2 hg2 _ hw2; have HM := hide (((unhide HC).alloc _).more ho2 hg2 hw2); obtain ⟨g2, c2, rfl⟩ := ownsRow_form ho2 (by omega); clear ho2 hg2 hw2))
        go_roundw
        case rel => exact ⟨k + 1, _, _, by omega, by go_num, rfl, by rw [sixOf_succ, unhide HMK]; exact unhide HM⟩
        case measure => simp [intOf]; omega
    · obtain rfl : k = 6 := by omega
      clear hin
      go_wp2_with fail
      go_ret
      exact (unhide HIN).done rfl

set_option maxRecDepth 100000 in
set_option maxHeartbeats 2000000 in
theorem kviews_calls (B b : Nat) (P : List Nat) (s0 s1 s2 s3 : Addr) (room : Nat) (l : Ov.Files) (w : World) (h : KW w B b P s0 s1 s2 s3 room l) :
    Calls Tryz.prog 22 #[.pointer (some ⟨b, 0, none⟩)] w (KList (markV l) B b P s0 s1 s2 s3 room l w) := by
  obtain ⟨i0, hi, hz0, hz1, hz2⟩ := info_parts Tryz.infoString
  have HH := hide h
  clear h
  go_enter Tryz.func22, Tryz.ntmps22
  go_wp2_with fail
  go_loopw [3, 4] (fun lv i wr => ∃ (k : Nat) (a : Option Addr) (c : Nat), k ≤ 6 ∧ i = .int .i64 k ∧ lv = .slice a k c ∧ KIn w wr B b P s0 s1 s2 s3 room l (.slice a k c) k (sixOf (markV l) k)) (fun _ i _ => 6 - (intOf i).toNat)
  case atStart => exact ⟨0, none, 0, Nat.zero_le _, rfl, rfl, KIn.start (unhide HH)⟩
  case round =>
    obtain ⟨k, a, c, hk, rfl, rfl, hin⟩ := hrel
    have HIN := hide hin
    by_cases hlt : k < 6
    · have HD : Hid (Calls Tryz.prog 26 #[.pointer (some ⟨b, 0, none⟩), .string ((⟨#[97, 98, 99, 100, 101, 102]⟩ : ByteArray).extract k (k + 1))] wr (KPost (.tuple #[.string (readK l (nameK k)).1, .bool (readK l (nameK k)).2]) B b ((Value.slice a k c).ownBlock.toList ++ P) s0 s1 s2 s3 room l wr)) := kread_calls (nameK k) B b _ s0 s1 s2 s3 room l wr hin.kw
      have hsz := readK_size l (nameK k)
      have HMK : Hid (markV l k = if (readK l (nameK k)).2 = true then (⟨#[43]⟩ : ByteArray) ++ (readK l (nameK k)).1 else ⟨#[45]⟩) := rfl
      obtain ⟨t, ht⟩ : ∃ t, (readK l (nameK k)).1 = t := ⟨_, rfl⟩
      obtain ⟨q, hq⟩ : ∃ q, (readK l (nameK k)).2 = q := ⟨_, rfl⟩
      rw [ht, hq] at HD HMK
      rw [ht] at hsz
      clear ht hq hin
      by_cases h0 : q = true
      · subst h0
        rw [if_pos rfl] at HMK
        go_wp2_with (first
          | (go_at_call 26; refine (unhide HD).mono ?_; rintro e w1 ⟨rfl, hk1, hf1⟩; have HC := hide ((unhide HIN).call hk1 hf1); have hz9 := hk1.un.se.size; clear hk1 hf1)
          | (at_builtin; refine wpList_append_own_at _ rfl (.tmp 23) (.tmp 25) 30 rfl B 9 i0 (.string ⟨#[]⟩) 1 16 Tryz.underlying30 hi hz0 hz1 hz2 rfl (by decide) (.slice a k c) k _ rfl ((unhide HC).alloc _).own ⟨w1.heap.size, 0, none⟩ 1 1 [.string ((⟨#[43]⟩ : ByteArray) ++ t)] rfl rfl (one_new (by simp)) (by intro u hu; simp at hu; subst hu; rfl) (by unfold maxLen; omega) (by omega) (by simp; omega) ?_; intro v2 w2 ho2 hg2 _ hw2; have HM := hide (((unhide HC).alloc _).more ho2 hg2 hw2); obtain ⟨g2, c2, rfl⟩ := ownsRow_form ho2 (by omega); clear ho2 hg2 hw2))
        go_roundw
        case rel => exact ⟨k + 1, _, _, by omega, by go_num, rfl, by rw [sixOf_succ, unhide HMK]; exact unhide HM⟩
        case measure => simp [intOf]; omega
      · rw [if_neg h0] at HMK
        obtain rfl : q = false := by simpa using h0
        go_wp2_with (first
          | (go_at_call 26; refine (unhide HD).mono ?_; rintro e w1 ⟨rfl, hk1, hf1⟩; have HC := hide ((unhide HIN).call hk1 hf1); have hz9 := hk1.un.se.size; clear hk1 hf1)
          | (at_builtin; refine wpList_append_own_at _ rfl (.tmp 23) (.tmp 25) 30 rfl B 9 i0 (.string ⟨#[]⟩) 1 16 Tryz.underlying30 hi hz0 hz1 hz2 rfl (by decide) (.slice a k c) k _ rfl ((unhide HC).alloc _).own ⟨w1.heap.size, 0, none⟩ 1 1 [.string ⟨#[45]⟩] rfl rfl (one_new (by simp)) (by intro u hu; simp at hu; subst hu; rfl) (by unfold maxLen; omega) (by omega) (by simp; omega) ?_; intro v2 w2 ho2 hg2 _ hw2; have HM := hide (((unhide HC).alloc _).more ho2 hg2 hw2); obtain ⟨g2, c2, rfl⟩ := ownsRow_form ho2 (by omega); clear ho2 hg2 hw2))
        go_roundw
        case rel => exact ⟨k + 1, _, _, by omega, by go_num, rfl, by rw [sixOf_succ, unhide HMK]; exact unhide HM⟩
        case measure => simp [intOf]; omega
    · obtain rfl : k = 6 := by omega
      clear hin
      go_wp2_with fail
      go_ret
      exact (unhide HIN).done rfl

end Go.Proofs.YtomiepknmmpflaaGreatDoor

namespace Go.Proofs.YtomiepknmmpflaaGreatDoor
open Go.RowKit Go.Joins

theorem nameK_size {i : Nat} (h : i < 6) : (nameK i).size = 1 := by
  unfold nameK
  rw [ByteArray.size_extract]
  show min (i + 1) 6 - i = 1
  omega
theorem nameK_byte {i : Nat} (h : i < 6) : Ov.byteAt (nameK i) 0 = 97 + i := by
  match i, h with
  | 0, _ => rfl
  | 1, _ => rfl
  | 2, _ => rfl
  | 3, _ => rfl
  | 4, _ => rfl
  | 5, _ => rfl
theorem markF_get {l l' : Ov.Files} {i : Nat} (h : getF l' (nameK i) = getF l (nameK i)) : markF l' i = markF l i := by
  unfold markF
  rw [dumpF_get, dumpF_get, h]
def SameBut (f g : Nat → ByteArray) (but : ByteArray) : Prop := ∀ i, i < 6 → f i = g i ∨ ∃ k, k < but.size ∧ Ov.byteAt but k = 97 + i
theorem sameBut_all {f g : Nat → ByteArray} (h : ∀ i, i < 6 → f i = g i) (but : ByteArray) : SameBut f g but := fun i hi => Or.inl (h i hi)
theorem free_first {x t : ByteArray} {i : Nat} (hi : i < 6) (h : x = nameK i) : ∃ k, k < (x ++ t).size ∧ Ov.byteAt (x ++ t) k = 97 + i := by
  subst h
  refine ⟨0, by rw [ByteArray.size_append, nameK_size hi]; omega, ?_⟩
  rw [byteAt_append, if_pos (by rw [nameK_size hi]; omega), nameK_byte hi]
theorem free_second {x t : ByteArray} {i : Nat} (hi : i < 6) (h : t = nameK i) : ∃ k, k < (x ++ t).size ∧ Ov.byteAt (x ++ t) k = 97 + i := by
  subst h
  refine ⟨x.size, by rw [ByteArray.size_append, nameK_size hi]; omega, ?_⟩
  rw [byteAt_append, if_neg (by omega), Nat.sub_self, nameK_byte hi]
theorem sameBut_one {l l' : Ov.Files} {x : ByteArray} (h : ∀ y, x ≠ y → getF l' y = getF l y) : SameBut (markF l) (markF l') x := fun i hi => by
  by_cases e : x = nameK i
  · have := free_first (t := ⟨#[]⟩) hi e
    rw [append_nil] at this
    exact Or.inr this
  · exact Or.inl (markF_get (h _ e)).symm
theorem sameBut_two {l l' : Ov.Files} {x y : ByteArray} (h : ∀ z, x ≠ z → y ≠ z → getF l' z = getF l z) : SameBut (markF l) (markF l') (x ++ y) := fun i hi => by
  by_cases e : x = nameK i
  · exact Or.inr (free_first hi e)
  · by_cases e2 : y = nameK i
    · exact Or.inr (free_second hi e2)
    · exact Or.inl (markF_get (h _ e e2)).symm
theorem splice_size {t d : ByteArray} {f : Nat} (h : f + d.size ≤ t.size) : (t.extract 0 f ++ d ++ t.extract (f + d.size) t.size).size = t.size := by
  simp only [ByteArray.size_append, ByteArray.size_extract]; omega
theorem splice_byte {t d : ByteArray} {f : Nat} (h : f + d.size ≤ t.size) {i : Nat} (hi : i < t.size) : Ov.byteAt (t.extract 0 f ++ d ++ t.extract (f + d.size) t.size) i = if f ≤ i ∧ i < f + d.size then Ov.byteAt d (i - f) else Ov.byteAt t i := by
  have h1 : (t.extract 0 f).size = f := by rw [ByteArray.size_extract]; omega
  rw [byteAt_append, byteAt_append, ByteArray.size_append, h1]
  by_cases a : i < f
  · rw [if_pos (by omega), if_pos a, if_neg (by omega), byteAt_extract _ _ _ _ (by omega), Nat.zero_add]
  · by_cases c : i < f + d.size
    · rw [if_pos c, if_neg a, if_pos (by omega)]
    · rw [if_neg c, if_neg (by omega), byteAt_extract _ _ _ _ (by omega)]
      congr 1; omega
theorem turned_read {l l' : Ov.Files} {x : ByteArray} {ns : List ByteArray} {a : Nat → Nat} {t : ByteArray} (h : Turned l l' x ns a) (hs : t.size = 8 * Ov.many (fileOf l x)) (hb : ∀ i, i < t.size → Ov.byteAt t i = a i) : readK l' x = (t, true) := by
  rw [readK_yes h.chn, h.many, ← view_is (t := t) hs (fun i hi => by rw [hb i (by omega), h.at' i hi])]
theorem turned_splice {l l' : Ov.Files} {x t d : ByteArray} {ns : List ByteArray} {f : Nat} (h : Turned l l' x ns (byteW l ns f d)) (ht : viewF l ns 0 (8 * Ov.many (fileOf l x)) = t) (hf : f + d.size ≤ t.size) : readK l' x = (t.extract 0 f ++ d ++ t.extract (f + d.size) t.size, true) := by
  have hs : t.size = 8 * Ov.many (fileOf l x) := by rw [← ht, viewF_size]
  refine turned_read h (by rw [splice_size hf, hs]) fun i hi => ?_
  rw [splice_size hf] at hi
  rw [splice_byte hf hi]
  unfold byteW
  rw [← ht, viewF_get _ _ _ (by omega), Nat.zero_add]
def Disc (l : Ov.Files) (ns : List ByteArray) (f k j : Nat) (z : ByteArray) : Prop := ∀ i, i < z.size → Ov.byteAt z i = if i / 8 < j ∧ covered f k (i / 8) then 0 else Ov.atTo l ns i
theorem disc_zero {l : Ov.Files} {ns : List ByteArray} {f k : Nat} {z : ByteArray} (h : viewF l ns 0 z.size = z) : Disc l ns f k 0 z := fun i hi => by
  rw [if_neg (by omega)]
  have := viewF_get l ns 0 hi
  rw [h, Nat.zero_add] at this
  exact this
theorem disc_skip {l : Ov.Files} {ns : List ByteArray} {f k j : Nat} {z : ByteArray} (h : Disc l ns f k j z) (hc : ¬ covered f k j) : Disc l ns f k (j + 1) z := fun i hi => by
  rw [h i hi]
  by_cases e : i / 8 = j
  · rw [if_neg (by omega), if_neg (fun q => hc (by rw [← e]; exact q.2))]
  · by_cases c : i / 8 < j ∧ covered f k (i / 8)
    · rw [if_pos c, if_pos ⟨by omega, c.2⟩]
    · rw [if_neg c, if_neg (fun q => c ⟨by omega, q.2⟩)]
theorem disc_set {l : Ov.Files} {ns : List ByteArray} {f k j : Nat} {z : ByteArray} (h : Disc l ns f k j z) (hc : covered f k j) (hj : 8 * j + 8 ≤ z.size) : Disc l ns f k (j + 1) (z.extract 0 (8 * j) ++ noughtsF 8 ++ z.extract (8 * j + 8) z.size) ∧ (z.extract 0 (8 * j) ++ noughtsF 8 ++ z.extract (8 * j + 8) z.size).size = z.size := by
  have hs : (z.extract 0 (8 * j) ++ noughtsF 8 ++ z.extract (8 * j + 8) z.size).size = z.size := splice_size (d := noughtsF 8) (by rw [noughtsF_size]; exact hj)
  refine ⟨fun i hi => ?_, hs⟩
  rw [hs] at hi
  have := splice_byte (t := z) (d := noughtsF 8) (f := 8 * j) (by rw [noughtsF_size]; exact hj) hi
  rw [noughtsF_size] at this
  rw [this, byteAt_noughts]
  by_cases e : i / 8 = j
  · rw [if_pos (by omega), if_pos ⟨by omega, by rw [e]; exact hc⟩]
  · rw [if_neg (by omega), h i hi]
    by_cases c : i / 8 < j ∧ covered f k (i / 8)
    · rw [if_pos c, if_pos ⟨by omega, c.2⟩]
    · rw [if_neg c, if_neg (fun q => c ⟨by omega, q.2⟩)]
theorem disc_read {l l' : Ov.Files} {x z : ByteArray} {ns : List ByteArray} {f k j : Nat} (h : Turned l l' x ns (fun i => if covered f k (i / 8) then 0 else Ov.atTo l ns i)) (hd : Disc l ns f k j z) (hs : z.size = 8 * Ov.many (fileOf l x)) (hj : z.size ≤ 8 * j) : readK l' x = (z, true) := by
  refine turned_read h hs fun i hi => ?_
  rw [hd i hi]
  by_cases c : covered f k (i / 8)
  · rw [if_pos c, if_pos ⟨by omega, c⟩]
  · rw [if_neg c, if_neg (fun q => c q.2)]

end Go.Proofs.YtomiepknmmpflaaGreatDoor

