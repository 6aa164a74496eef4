/- The world of overlaykeep's laws: one store. -/
import Derived.Test.YtomiepknmmpflaaGreatDoorKWLawB
import Derived.Test.YtomiepknmmpflaaGreatDoorKWRow
namespace Go.Proofs.YtomiepknmmpflaaGreatDoor
open Go.RowKit Go.Joins

abbrev In64 (c : Int) : Prop := -9223372036854775808 ≤ c ∧ c ≤ 9223372036854775807
structure KFr (B : Nat) (P : List Nat) (w w' : World) : Prop where
  below : Below B w w'
  own : ∀ k ∈ P, w'.heap[k]? = w.heap[k]?
theorem KFr.trans {B : Nat} {P : List Nat} {w w1 w2 : World} (h : KFr B P w w1) (k : KFr B P w1 w2) : KFr B P w w2 := ⟨h.below.trans k.below, fun i hi => (k.own i hi).trans (h.own i hi)⟩
theorem KFr.refl (B : Nat) (P : List Nat) (w : World) : KFr B P w w := ⟨Below.refl B w, fun _ _ => rfl⟩
theorem KFr.less {B : Nat} {P Q : List Nat} {w w' : World} (h : KFr B P w w') (hq : ∀ k ∈ Q, k ∈ P) : KFr B Q w w' := ⟨h.below, fun k hk => h.own k (hq k hk)⟩
structure KW (w : World) (B b : Nat) (P : List Nat) (s0 s1 s2 s3 : Addr) (room : Nat) (l : Ov.Files) : Prop where
  un : Under w B s0 s1 s2 s3
  ov : ∃ r, OvRep w b r room l ∧ ∀ k, r = some k → B ≤ k ∧ k ∉ P
  li : Ov.LI room l
  hB : B ≤ b
  own : ∀ k ∈ P, k < w.heap.size ∧ k ≠ b
theorem KW.kept {w w' : World} {B b : Nat} {P : List Nat} {s0 s1 s2 s3 : Addr} {room : Nat} {l : Ov.Files} (h : KW w B b P s0 s1 s2 s3 room l) (hb : Below w.heap.size w w') : KW w' B b P s0 s1 s2 s3 room l := by
  obtain ⟨r, h1, h2⟩ := h.ov
  exact ⟨h.un.kept (hb.mono h.un.se.size), ⟨r, h1.kept hb, h2⟩, h.li, h.hB, fun k hk => ⟨Nat.lt_of_lt_of_le (h.own k hk).1 hb.size, (h.own k hk).2⟩⟩
theorem KW.less {w : World} {B b : Nat} {P Q : List Nat} {s0 s1 s2 s3 : Addr} {room : Nat} {l : Ov.Files} (h : KW w B b P s0 s1 s2 s3 room l) (hq : ∀ k ∈ Q, k ∈ P) : KW w B b Q s0 s1 s2 s3 room l := by
  obtain ⟨r, h1, h2⟩ := h.ov
  exact ⟨h.un, ⟨r, h1, fun k hk => ⟨(h2 k hk).1, fun q => (h2 k hk).2 (hq k q)⟩⟩, h.li, h.hB, fun k hk => h.own k (hq k hk)⟩
theorem KW.take {w w' : World} {B b : Nat} {P : List Nat} {s0 s1 s2 s3 : Addr} {room : Nat} {l : Ov.Files} (h : KW w B b P s0 s1 s2 s3 room l) (hb : Below w.heap.size w w') {p : Nat} (h1 : w.heap.size ≤ p) (h2 : p < w'.heap.size) : KW w' B b (p :: P) s0 s1 s2 s3 room l ∧ KFr B P w w' := by
  obtain ⟨r, k1, k2⟩ := h.ov
  have hr : ∀ k, r = some k → k < w.heap.size := fun k hk => by obtain ⟨cs, e⟩ := k1.row hk; exact blk_lt e
  have hbl : b < w.heap.size := by obtain ⟨cs, e⟩ := k1.blk; exact blk_lt e
  refine ⟨⟨h.un.kept (hb.mono h.un.se.size), ⟨r, k1.kept hb, fun k hk => ⟨(k2 k hk).1, fun q => ?_⟩⟩, h.li, h.hB, fun k hk => ?_⟩, hb.mono h.un.se.size, fun k hk => hb.block k (h.own k hk).1⟩
  · rcases List.mem_cons.1 q with rfl | q
    · have := hr k hk; omega
    · exact (k2 k hk).2 q
  · rcases List.mem_cons.1 hk with rfl | q
    · exact ⟨h2, by omega⟩
    · exact ⟨Nat.lt_of_lt_of_le (h.own k q).1 hb.size, (h.own k q).2⟩
theorem KW.left {w w' : World} {B b : Nat} {P : List Nat} {s0 s1 s2 s3 : Addr} {room : Nat} {l l' : Ov.Files} {r : Option Nat} (h : KW w B b P s0 s1 s2 s3 room l) (hr : ∀ k, r = some k → B ≤ k ∧ k ∉ P) (hl : OvLeft w b r room l' w') (hi : Ov.LI room l') : KW w' B b P s0 s1 s2 s3 room l' ∧ KFr B P w w' := by
  have hz := h.un.se.size
  have hB := h.hB
  have hb : Below B w w' := ⟨hl.fr.os, hl.fr.tape, hl.fr.output, hl.fr.size, fun k hk => hl.fr.block k (by omega) (by omega) (fun e => by have := (hr k e.symm).1; omega)⟩
  obtain ⟨r', h1, h2⟩ := hl.rep
  refine ⟨⟨h.un.kept hb, ⟨r', h1, fun k hk => ?_⟩, hi, hB, fun k hk => ⟨Nat.lt_of_lt_of_le (h.own k hk).1 hb.size, (h.own k hk).2⟩⟩, hb, fun k hk => hl.fr.block k (h.own k hk).1 (h.own k hk).2 (fun e => (hr k e.symm).2 hk)⟩
  rcases h2 with e | e
  · exact hr k (e ▸ hk)
  · have := e k hk
    exact ⟨Nat.le_trans hz this, fun q => by have := (h.own k q).1; omega⟩
def KPost (ans : Value) (B b : Nat) (P : List Nat) (s0 s1 s2 s3 : Addr) (room : Nat) (l' : Ov.Files) (w : World) (e : Ending) (w' : World) : Prop := e = .returned ans ∧ KW w' B b P s0 s1 s2 s3 room l' ∧ KFr B P w w'

section
variable {w : World} {B b : Nat} {P : List Nat} {s0 s1 s2 s3 : Addr} {room : Nat} {l : Ov.Files}
theorem kCheck (h : KW w B b P s0 s1 s2 s3 room l) (x : ByteArray)  : Calls Tryz.prog 27 #[.pointer (some ⟨b, 0, none⟩), .string x] w (KPost (.tuple #[.string (checkF l x).1, .int .i64 (checkF l x).2]) B b P s0 s1 s2 s3 room l w) := by
  obtain ⟨r, h1, h2⟩ := h.ov
  refine (oCheck_calls l x b B r room s0 s1 s2 s3 w h.li.len h1 h.un.se h.hB).mono ?_
  rintro e w' ⟨rfl, hl⟩
  exact ⟨rfl, h.left h2 hl h.li⟩
theorem kDump (h : KW w B b P s0 s1 s2 s3 room l) (x : ByteArray)  : Calls Tryz.prog 34 #[.pointer (some ⟨b, 0, none⟩), .string x] w (KPost (.tuple #[.string (Ov.dumpF l x).1, .int .i64 (Ov.dumpF l x).2]) B b P s0 s1 s2 s3 room l w) := by
  obtain ⟨r, h1, h2⟩ := h.ov
  refine (oDump_calls l x b r room w h.li.len h1).mono ?_
  rintro e w' ⟨rfl, hl⟩
  exact ⟨rfl, h.left h2 hl h.li⟩
theorem kChain (h : KW w B b P s0 s1 s2 s3 room l) (x : ByteArray)  : Calls Tryz.prog 17 #[.pointer (some ⟨b, 0, none⟩), .string x] w (KPost (.tuple #[.string (Ov.chainF l x).1, .string (Ov.chainF l x).2.1, .int .i64 (Ov.chainF l x).2.2]) B b P s0 s1 s2 s3 room l w) := by
  obtain ⟨r, h1, h2⟩ := h.ov
  refine (oChain_calls l x b B r room s0 s1 s2 s3 w h.li h1 h.un.se h.hB h.un.g4).mono ?_
  rintro e w' ⟨rfl, hl⟩
  exact ⟨rfl, h.left h2 hl h.li⟩
theorem kDrop (h : KW w B b P s0 s1 s2 s3 room l) (x : ByteArray)  : Calls Tryz.prog 37 #[.pointer (some ⟨b, 0, none⟩), .string x] w (KPost (.int .i64 (Ov.dropF l x).1) B b P s0 s1 s2 s3 room (Ov.dropF l x).2 w) := by
  obtain ⟨r, h1, h2⟩ := h.ov
  refine (oDrop_calls l x b r room w h.li h1).mono ?_
  rintro e w' ⟨rfl, hl⟩
  exact ⟨rfl, h.left h2 hl (Ov.LI.drop h.li x)⟩
theorem kLoad (h : KW w B b P s0 s1 s2 s3 room l) (x f : ByteArray)  : Calls Tryz.prog 35 #[.pointer (some ⟨b, 0, none⟩), .string x, .string f] w (KPost (.int .i64 (Ov.loadF room l x f).1) B b P s0 s1 s2 s3 room (Ov.loadF room l x f).2 w) := by
  obtain ⟨r, h1, h2⟩ := h.ov
  refine (oLoad_calls l x f b r room w h.li h1).mono ?_
  rintro e w' ⟨rfl, hl⟩
  exact ⟨rfl, h.left h2 hl (Ov.LI.load h.li x f)⟩
theorem kMake (h : KW w B b P s0 s1 s2 s3 room l) (x bk : ByteArray) (n : Int)  : Calls Tryz.prog 38 #[.pointer (some ⟨b, 0, none⟩), .string x, .int .i64 n, .string bk] w (KPost (.int .i64 (makeF room l x n bk).1) B b P s0 s1 s2 s3 room (makeF room l x n bk).2 w) := by
  obtain ⟨r, h1, h2⟩ := h.ov
  refine (oMake_calls l x bk n b B r room s0 s1 s2 s3 w h.li h1 h.un.se h.hB).mono ?_
  rintro e w' ⟨rfl, hl⟩
  exact ⟨rfl, h.left h2 hl (LI.make h.li x bk n)⟩
theorem kRead (h : KW w B b P s0 s1 s2 s3 room l) (x : ByteArray) (f k : Int) (hf : In64 f) (hk : In64 k) : Calls Tryz.prog 33 #[.pointer (some ⟨b, 0, none⟩), .string x, .int .i64 f, .int .i64 k] w (KPost (.tuple #[.string (readF l x f k).1, .int .i64 (readF l x f k).2]) B b P s0 s1 s2 s3 room l w) := by
  obtain ⟨r, h1, h2⟩ := h.ov
  refine (oRead_calls l x f k b B r room s0 s1 s2 s3 w h.li h1 h.un.se h.hB hf.1 hf.2 hk.1 hk.2).mono ?_
  rintro e w' ⟨rfl, hl⟩
  exact ⟨rfl, h.left h2 hl h.li⟩
theorem kWrite (h : KW w B b P s0 s1 s2 s3 room l) (x d : ByteArray) (f : Int) (hf : In64 f) (hd : d.size ≤ 9223372036854775807) : Calls Tryz.prog 29 #[.pointer (some ⟨b, 0, none⟩), .string x, .int .i64 f, .string d] w (KPost (.int .i64 (writeF room l x f d).1) B b P s0 s1 s2 s3 room (writeF room l x f d).2 w) := by
  obtain ⟨r, h1, h2⟩ := h.ov
  refine (ovWrite_calls l x d f b B r room s0 s1 s2 s3 w h.li h1 h.un.se h.hB hf.1 hf.2 hd).mono ?_
  rintro e w' ⟨rfl, hl⟩
  exact ⟨rfl, h.left h2 hl (LI.write h.li x f d)⟩
theorem kZero (h : KW w B b P s0 s1 s2 s3 room l) (x : ByteArray) (f k : Int) (hf : In64 f) (hk : In64 k) : Calls Tryz.prog 30 #[.pointer (some ⟨b, 0, none⟩), .string x, .int .i64 f, .int .i64 k] w (KPost (.int .i64 (zeroF room l x f k).1) B b P s0 s1 s2 s3 room (zeroF room l x f k).2 w) := by
  obtain ⟨r, h1, h2⟩ := h.ov
  refine (ovZero_calls l x f k b B r room s0 s1 s2 s3 w h.li h1 h.un.se h.hB hf.1 hf.2 hk.1 hk.2).mono ?_
  rintro e w' ⟨rfl, hl⟩
  exact ⟨rfl, h.left h2 hl (LI.zero h.li x f k)⟩
theorem kDiscard (h : KW w B b P s0 s1 s2 s3 room l) (x : ByteArray) (f k : Int) (hf : In64 f) (hk : In64 k) : Calls Tryz.prog 32 #[.pointer (some ⟨b, 0, none⟩), .string x, .int .i64 f, .int .i64 k] w (KPost (.int .i64 (discardF room l x f k).1) B b P s0 s1 s2 s3 room (discardF room l x f k).2 w) := by
  obtain ⟨r, h1, h2⟩ := h.ov
  refine (ovDiscard_calls l x f k b B r room s0 s1 s2 s3 w h.li h1 h.un.se h.hB hf.1 hf.2 hk.1 hk.2).mono ?_
  rintro e w' ⟨rfl, hl⟩
  exact ⟨rfl, h.left h2 hl (LI.discard h.li x f k)⟩
end

set_option maxRecDepth 100000 in
theorem kpick_calls (c : Int) (n : Nat) (w : World) (hc1 : -9223372036854775808 ≤ c) (hc2 : c ≤ 9223372036854775807) (hn : 1 ≤ n) (hn2 : n ≤ 1000000000000000) :
    Calls Tryz.prog 21 #[.int .i64 c, .int .i64 n] w fun e w' => e = .returned (.int .i64 (pickN c n : Nat)) ∧ w = w' := by
  by_cases h0 : c < 0
  · have Hp : Hid (pickN c n = (-(c + 1)).toNat % n) := by unfold pickN; exact if_pos h0
    go_enter Tryz.func21, Tryz.ntmps21
    go_wp2
    go_ret
    obtain ⟨m, hm⟩ : ∃ m : Nat, c + 1 = -(m : Int) := ⟨(-(c + 1)).toNat, by omega⟩
    refine ⟨?_, rfl⟩
    have e : -((c + 1).tmod (n : Int)) = ((m % n : Nat) : Int) := by rw [hm, Int.neg_tmod, Int.neg_neg]; rfl
    show Ending.returned (Value.int IntKind.i64 (-((c + 1).tmod (n : Int)))) = _
    rw [e, unhide Hp, hm, Int.neg_neg, Int.toNat_natCast]
  · have Hp : Hid (pickN c n = c.toNat % n) := by unfold pickN; exact if_neg h0
    go_enter Tryz.func21, Tryz.ntmps21
    go_wp2
    go_ret
    obtain ⟨m, rfl⟩ : ∃ m : Nat, c = (m : Int) := ⟨c.toNat, by omega⟩
    exact ⟨by rw [unhide Hp, Int.toNat_natCast]; rfl, rfl⟩
def nameK (i : Nat) : ByteArray := (⟨#[97, 98, 99, 100, 101, 102]⟩ : ByteArray).extract i (i + 1)
def nameC (c : Int) : ByteArray := nameK (pickN c 6)
set_option maxRecDepth 100000 in
theorem kname_calls (c : Int) (w : World) (hc1 : -9223372036854775808 ≤ c) (hc2 : c ≤ 9223372036854775807) : Calls Tryz.prog 18 #[.int .i64 c] w fun e w' => e = .returned (.string (nameC c)) ∧ w = w' := by
  have hlt := pickN_lt c (n := 6) (by omega)
  have HP := hide (kpick_calls c 6 w hc1 hc2 (by omega) (by omega))
  have HN : Hid (nameC c = (⟨#[97, 98, 99, 100, 101, 102]⟩ : ByteArray).extract (pickN c 6) (pickN c 6 + 1)) := rfl
  obtain ⟨p, hp⟩ : ∃ p, pickN c 6 = p := ⟨_, rfl⟩
  rw [hp] at HP HN hlt
  clear hp
  go_enter Tryz.func18, Tryz.ntmps18
  go_wp2_with (go_at_call 21; refine (unhide HP).mono ?_; rintro e w1 ⟨rfl, rfl⟩)
  go_ret
  exact ⟨by rw [unhide HN]; rfl, rfl⟩
def cutF (s : ByteArray) (n : Int) : ByteArray := if n ≤ 0 then ⟨#[]⟩ else if n < (s.size : Int) then s.extract 0 n.toNat else s
theorem empty_is {s : ByteArray} (h : s.size = 0) : s = ⟨#[]⟩ := by
  cases s with
  | mk d =>
    have : d.size = 0 := h
    rw [Array.eq_empty_of_size_eq_zero this]
set_option maxRecDepth 100000 in
theorem kcut_calls (s : ByteArray) (n : Int) (w : World) (hs : s.size ≤ 9223372036854775807) : Calls Tryz.prog 28 #[.string s, .int .i64 n] w fun e w' => e = .returned (.string (cutF s n)) ∧ w = w' := by
  by_cases h0 : n ≤ 0
  · have HF : Hid (cutF s n = ⟨#[]⟩) := if_pos h0
    by_cases h1 : 0 < s.size
    · by_cases h2 : n < 0
      · go_enter Tryz.func28, Tryz.ntmps28
        go_wp2
        go_ret
        exact ⟨by rw [unhide HF]; rfl, rfl⟩
      · obtain rfl : n = 0 := by omega
        go_enter Tryz.func28, Tryz.ntmps28
        go_wp2
        go_ret
        exact ⟨by rw [unhide HF]; rfl, rfl⟩
    · have HE := hide (empty_is (show s.size = 0 by omega))
      by_cases h2 : n < 0
      · go_enter Tryz.func28, Tryz.ntmps28
        go_wp2
        go_ret
        exact ⟨by rw [unhide HF]; show Ending.returned (.string s) = _; rw [unhide HE], rfl⟩
      · obtain rfl : n = 0 := by omega
        go_enter Tryz.func28, Tryz.ntmps28
        go_wp2
        go_ret
        exact ⟨by rw [unhide HF]; show Ending.returned (.string s) = _; rw [unhide HE], rfl⟩
  · obtain ⟨k, rfl⟩ : ∃ k : Nat, n = (k : Int) := ⟨n.toNat, by omega⟩
    by_cases h1 : k < s.size
    · have HF : Hid (cutF s k = s.extract 0 k) := by unfold cutF; rw [if_neg h0, if_pos (by omega), Int.toNat_natCast]; exact rfl
      go_enter Tryz.func28, Tryz.ntmps28
      go_wp2
      go_ret
      exact ⟨by rw [unhide HF]; rfl, rfl⟩
    · have HF : Hid (cutF s k = s) := by unfold cutF; rw [if_neg h0, if_neg (by omega)]; exact rfl
      go_enter Tryz.func28, Tryz.ntmps28
      go_wp2
      go_ret
      exact ⟨by rw [unhide HF]; rfl, rfl⟩

end Go.Proofs.YtomiepknmmpflaaGreatDoor

namespace Go.Proofs.YtomiepknmmpflaaGreatDoor
open Go.RowKit Go.Joins

structure MS where
  n : Nat
  s : Nat
  c : Nat
def mstep (m : MS) (b : UInt8) : MS := if b = 44 then ⟨0, if m.c < 3 then m.s + m.n else m.s, m.c + 1⟩ else ⟨10 * m.n + (b.toNat - 48), m.s, m.c⟩
def mfold (m : MS) (L : List UInt8) : MS := L.foldl mstep m
def MOk (m : MS) : Prop := m.n ≤ 99 ∧ m.s ≤ 1000 ∧ m.c ≤ 10
def MAll (m : MS) (L : List UInt8) : Prop := (∀ i, MOk (mfold m (L.take i))) ∧ ∀ b ∈ L, b = 44 ∨ (48 ≤ b.toNat ∧ b.toNat ≤ 57)
theorem mfold_append (m : MS) (A B : List UInt8) : mfold m (A ++ B) = mfold (mfold m A) B := List.foldl_append
theorem MAll.append {m : MS} {A B : List UInt8} (h : MAll m A) (k : MAll (mfold m A) B) : MAll m (A ++ B) := by
  refine ⟨fun i => ?_, fun b hb => (List.mem_append.1 hb).elim (h.2 b) (k.2 b)⟩
  rw [List.take_append, mfold_append]
  by_cases hi : i ≤ A.length
  · rw [show i - A.length = 0 by omega, List.take_zero]; exact h.1 i
  · rw [List.take_of_length_le (by omega)]; exact k.1 _
theorem MAll.nil {m : MS} (h : MOk m) : MAll m [] := ⟨fun i => by rw [List.take_nil]; exact h, fun b hb => by cases hb⟩
theorem MAll.one {m : MS} {b : UInt8} (h : MOk m) (h2 : MOk (mstep m b)) (hb : b = 44 ∨ (48 ≤ b.toNat ∧ b.toNat ≤ 57)) : MAll m [b] := by
  refine ⟨fun i => ?_, fun c hc => by simp at hc; subst hc; exact hb⟩
  cases i with
  | zero => exact h
  | succ i => rw [List.take_of_length_le (by simp)]; exact h2
theorem dig_nat {k : Nat} (h : k < 10) : (UInt8.ofNat (48 + k)).toNat = 48 + k := by rw [UInt8.toNat_ofNat']; omega
theorem mstep_dig {m : MS} {k : Nat} (h : k < 10) : mstep m (UInt8.ofNat (48 + k)) = ⟨10 * m.n + k, m.s, m.c⟩ := by
  unfold mstep
  rw [if_neg (fun e => by have := congrArg UInt8.toNat e; rw [dig_nat h] at this; simp at this; omega), dig_nat h]
  congr 1
  omega
theorem dec_list (d : Nat) : (dec d).data.toList = if d < 10 then [UInt8.ofNat (48 + d)] else [UInt8.ofNat (48 + d / 10), UInt8.ofNat (48 + d % 10)] := by
  unfold dec
  split <;> rfl
theorem dec_all {s c d : Nat} (hs : s ≤ 1000) (hc : c ≤ 10) (h : d < 100) : MAll ⟨0, s, c⟩ (dec d).data.toList ∧ mfold ⟨0, s, c⟩ (dec d).data.toList = ⟨d, s, c⟩ := by
  rw [dec_list d]
  have dg : ∀ k, k < 10 → (UInt8.ofNat (48 + k) = 44 ∨ (48 ≤ (UInt8.ofNat (48 + k)).toNat ∧ (UInt8.ofNat (48 + k)).toNat ≤ 57)) := fun k hk => Or.inr (by rw [dig_nat hk]; omega)
  by_cases h1 : d < 10
  · rw [if_pos h1]
    have e : mstep ⟨0, s, c⟩ (UInt8.ofNat (48 + d)) = ⟨d, s, c⟩ := by rw [mstep_dig h1]; simp
    exact ⟨.one ⟨Nat.zero_le 99, hs, hc⟩ (by rw [e]; exact ⟨by show d ≤ 99; omega, hs, hc⟩) (dg d h1), by show mstep _ _ = _; exact e⟩
  · rw [if_neg h1]
    have e1 : mstep ⟨0, s, c⟩ (UInt8.ofNat (48 + d / 10)) = ⟨d / 10, s, c⟩ := by rw [mstep_dig (by omega)]; simp
    have e2 : mstep ⟨d / 10, s, c⟩ (UInt8.ofNat (48 + d % 10)) = ⟨d, s, c⟩ := by rw [mstep_dig (by omega)]; congr 1; show 10 * (d / 10) + d % 10 = d; omega
    refine ⟨MAll.append (A := [_]) (B := [_]) (.one ⟨Nat.zero_le 99, hs, hc⟩ (by rw [e1]; exact ⟨by show d / 10 ≤ 99; omega, hs, hc⟩) (dg _ (by omega))) ?_, by show mstep (mstep _ _) _ = _; rw [e1, e2]⟩
    show MAll (mstep _ _) _
    rw [e1]
    exact .one ⟨by show d / 10 ≤ 99; omega, hs, hc⟩ (by rw [e2]; exact ⟨by show d ≤ 99; omega, hs, hc⟩) (dg _ (by omega))
theorem comma_all {n s c : Nat} (hn : n ≤ 99) (hs : s + n ≤ 1000) (hc : c < 3) : MAll ⟨n, s, c⟩ comma.data.toList ∧ mfold ⟨n, s, c⟩ comma.data.toList = ⟨0, s + n, c + 1⟩ := by
  have e : mstep ⟨n, s, c⟩ 44 = ⟨0, s + n, c + 1⟩ := by unfold mstep; rw [if_pos rfl, if_pos hc]
  exact ⟨.one ⟨hn, by show s ≤ 1000; omega, by show c ≤ 10; omega⟩ (by rw [e]; exact ⟨by show 0 ≤ 99; omega, hs, by show c + 1 ≤ 10; omega⟩) (Or.inl rfl), e⟩
theorem MAll.both {m m' : MS} {A B : List UInt8} {m2 : MS} (h : MAll m A ∧ mfold m A = m') (k : MAll m' B ∧ mfold m' B = m2) : MAll m (A ++ B) ∧ mfold m (A ++ B) = m2 :=
  ⟨h.1.append (by rw [h.2]; exact k.1), by rw [mfold_append, h.2]; exact k.2⟩
theorem tally_all {d z o t : Nat} (hd : d < 100) (hz : z < 100) (ho : o < 100) (ht : t < 100) : MAll ⟨0, 0, 0⟩ (tallyOf d z o t).data.toList ∧ mfold ⟨0, 0, 0⟩ (tallyOf d z o t).data.toList = ⟨t, d + z + o, 3⟩ := by
  unfold tallyOf
  simp only [ByteArray.data_append, Array.toList_append]
  refine MAll.both (m' := ⟨0, d + z + o, 3⟩) (MAll.both (m' := ⟨o, d + z, 2⟩) (MAll.both (m' := ⟨0, d + z, 2⟩) (MAll.both (m' := ⟨z, d, 1⟩) (MAll.both (m' := ⟨0, d, 1⟩) (MAll.both (m' := ⟨d, 0, 0⟩) (dec_all (by omega) (by omega) hd) ?_) ?_) ?_) ?_) ?_) ?_
  · have := comma_all (n := d) (s := 0) (c := 0) (by omega) (by omega) (by omega)
    simpa using this
  · exact dec_all (by omega) (by omega) hz
  · exact comma_all (by omega) (by omega) (by omega)
  · exact dec_all (by omega) (by omega) ho
  · exact comma_all (by omega) (by omega) (by omega)
  · exact dec_all (by omega) (by omega) ht

end Go.Proofs.YtomiepknmmpflaaGreatDoor

namespace Go.Proofs.YtomiepknmmpflaaGreatDoor
open Go.RowKit Go.Joins

def manyK (l : Ov.Files) (x : ByteArray) : Int := if (checkF l x).2 ≠ 0 then -1 else ((8 * Ov.many (fOf l x) : Nat) : Int)
theorem check_ok {l : Ov.Files} {x : ByteArray} (h : (checkF l x).2 = 0) : Ov.place l x < l.length ∧ Ov.isImage (fOf l x) ∧ (checkF l x).1 = tally (fOf l x) := by
  unfold checkF at h ⊢
  by_cases hp : Ov.place l x < l.length
  · rw [if_pos hp] at h ⊢
    by_cases hi : Ov.imageB (Ov.fileAt l (Ov.place l x)) = true
    · rw [if_pos hi]; exact ⟨hp, (Ov.imageB_iff _).1 hi, rfl⟩
    · rw [if_neg hi] at h; simp at h
  · rw [if_neg hp] at h; simp at h
theorem tally_fold {s : ByteArray} (h : Ov.isImage s) : ∃ t, MAll ⟨0, 0, 0⟩ (tally s).data.toList ∧ mfold ⟨0, 0, 0⟩ (tally s).data.toList = ⟨t, Ov.many s, 3⟩ := by
  have hm : Ov.many s ≤ 30 := h.1.2.2.2.2.2.1
  have h2 := cntTo_two (Ov.kindsTo s (Ov.many s)) (Ov.many s)
  have hl := Ov.lostTo_bd s (Ov.datas s)
  have hd : Ov.datas s ≤ 60 := h.1.2.2.2.2.2.2.2.2.2.1
  obtain ⟨k1, k2⟩ := tally_all (d := cntTo (Ov.kindsTo s (Ov.many s)) 1 (Ov.many s)) (z := cntTo (Ov.kindsTo s (Ov.many s)) 255 (Ov.many s)) (o := Ov.many s - cntTo (Ov.kindsTo s (Ov.many s)) 1 (Ov.many s) - cntTo (Ov.kindsTo s (Ov.many s)) 255 (Ov.many s)) (t := (Ov.lost s).toNat) (by omega) (by omega) (by omega) (by unfold Ov.lost; omega)
  refine ⟨(Ov.lost s).toNat, k1, ?_⟩
  unfold tally
  rw [k2]
  congr 1
  omega
theorem tally_size (s : ByteArray) : (tally s).size ≤ 11 := by
  unfold tally tallyOf
  simp only [ByteArray.size_append]
  have h1 := dec_size (cntTo (Ov.kindsTo s (Ov.many s)) 1 (Ov.many s))
  have h2 := dec_size (cntTo (Ov.kindsTo s (Ov.many s)) 255 (Ov.many s))
  have h3 := dec_size (Ov.many s - cntTo (Ov.kindsTo s (Ov.many s)) 1 (Ov.many s) - cntTo (Ov.kindsTo s (Ov.many s)) 255 (Ov.many s))
  have h4 := dec_size (Ov.lost s).toNat
  have h5 : comma.size = 1 := rfl
  omega
theorem mfold_take (m : MS) (t : ByteArray) {i : Nat} (h : i < t.size) : mfold m (t.data.toList.take (i + 1)) = mstep (mfold m (t.data.toList.take i)) t[i] := by
  have hl : i < t.data.toList.length := h
  rw [List.take_succ_eq_append_getElem hl, mfold_append]
  rfl

set_option maxRecDepth 100000 in
set_option maxHeartbeats 2000000 in
theorem kmany_calls (x : ByteArray) (B b : Nat) (P : List Nat) (s0 s1 s2 s3 : Addr) (room : Nat) (l : Ov.Files) (w : World) (h : KW w B b P s0 s1 s2 s3 room l) :
    Calls Tryz.prog 49 #[.pointer (some ⟨b, 0, none⟩), .string x] w (KPost (.int .i64 (manyK l x)) B b P s0 s1 s2 s3 room l w) := by
  have HC := hide (kCheck h x)
  by_cases h0 : (checkF l x).2 = 0
  · obtain ⟨_, him, htx⟩ := check_ok h0
    obtain ⟨tl, hall, hfin⟩ := tally_fold him
    have HM : Hid (manyK l x = ((8 * Ov.many (fOf l x) : Nat) : Int)) := by unfold manyK; rw [if_neg (fun q => q h0)]; exact rfl
    have hm30 : Ov.many (fOf l x) ≤ 30 := him.1.2.2.2.2.2.1
    obtain ⟨t, ht⟩ : ∃ t, tally (fOf l x) = t := ⟨_, rfl⟩
    obtain ⟨m, hme⟩ : ∃ m, Ov.many (fOf l x) = m := ⟨_, rfl⟩
    rw [htx, ht, h0] at HC
    rw [ht] at hall hfin
    rw [hme] at hfin HM hm30
    have hsz : t.size ≤ 11 := by rw [← ht]; exact tally_size _
    have HALL := hide hall
    have HFIN := hide hfin
    clear h h0 him htx hall hfin ht hme
    go_enter Tryz.func49, Tryz.ntmps49
    go_wp2_with (go_at_call 27; refine (unhide HC).mono ?_; rintro e w1 ⟨rfl, hk1⟩; have HK1 := hide hk1; clear hk1)
    go_loopw [7, 8, 9, 10] (fun n su c i wr => w1 = wr ∧ ∃ k : Nat, i = .int .i64 (k : Nat) ∧ ((k ≤ t.size ∧ ∃ st, mfold ⟨0, 0, 0⟩ (t.data.toList.take k) = st ∧ n = .int .i64 (st.n : Nat) ∧ su = .int .i64 (st.s : Nat) ∧ c = .int .i64 (st.c : Nat)) ∨ (k = t.size + 1 ∧ su = .int .i64 (m : Nat)))) (fun _ _ _ i _ => t.size + 1 - (intOf i).toNat)
    case atStart => exact ⟨rfl, 0, rfl, Or.inl ⟨Nat.zero_le _, ⟨0, 0, 0⟩, rfl, rfl, rfl, rfl⟩⟩
    case round =>
      obtain ⟨rfl, k, rfl, hh⟩ := hrel
      rcases hh with ⟨hk, ⟨sn, ss, sc⟩, hst, rfl, rfl, rfl⟩ | ⟨rfl, rfl⟩
      · have hok := (unhide HALL).1 k
        rw [hst] at hok
        obtain ⟨o1, o2, o3⟩ := hok
        dsimp only at o1 o2 o3
        by_cases hlt : k < t.size
        · have hby := Ov.byteAt_eq t
          have HNX := hide (mfold_take ⟨0, 0, 0⟩ t hlt)
          rw [hst] at HNX
          have hdig := (unhide HALL).2 t[k] (by have := List.getElem_mem (l := t.data.toList) (show k < t.data.toList.length from hlt); exact this)
          have e0 : ((k : Int) == (t.size : Int)) = false := beq_eq_false_iff_ne.2 (by omega)
          by_cases hc : t[k] = 44
          · have hb : Ov.byteAt t k = 44 := by rw [← hby k hlt, hc]; rfl
            have HS : Hid (mstep ⟨sn, ss, sc⟩ t[k] = ⟨0, if sc < 3 then ss + sn else ss, sc + 1⟩) := by unfold mstep; rw [if_pos hc]; exact rfl
            clear hdig hc hst
            by_cases h3 : sc < 3
            · rw [if_pos h3] at HS
              go_wp2_with fail
              go_roundw
              case rel => exact ⟨by first | trivial | rfl, k + 1, by go_num, Or.inl ⟨by omega, _, by rw [unhide HNX, unhide HS], by go_num, by go_num, by go_num⟩⟩
              case measure => simp [intOf]; omega
            · rw [if_neg h3] at HS
              go_wp2_with fail
              go_roundw
              case rel => exact ⟨by first | trivial | rfl, k + 1, by go_num, Or.inl ⟨by omega, _, by rw [unhide HNX, unhide HS], by go_num, by go_num, by go_num⟩⟩
              case measure => simp [intOf]; omega
          · have hd := hdig.resolve_left hc
            rw [hby k hlt] at hd
            obtain ⟨q, hq⟩ : ∃ q : Nat, Ov.byteAt t k = q + 48 := ⟨Ov.byteAt t k - 48, by omega⟩
            have HS : Hid (mstep ⟨sn, ss, sc⟩ t[k] = ⟨10 * sn + q, ss, sc⟩) := by
              unfold mstep
              rw [if_neg hc, hby k hlt, hq]
              exact rfl
            have hq9 : q ≤ 9 := by omega
            have hnc : (((q + 48 : Nat) : Int) == 44) = false := beq_eq_false_iff_ne.2 (by omega)
            clear hdig hc hst hd
            go_wp2_with fail
            go_roundw
            case rel => exact ⟨by first | trivial | rfl, k + 1, by go_num, Or.inl ⟨by omega, _, by rw [unhide HNX, unhide HS], by go_num, by go_num, by go_num⟩⟩
            case measure => simp [intOf]; omega
        · obtain rfl : k = t.size := by omega
          have hend := unhide HFIN
          rw [List.take_of_length_le (by exact Nat.le_refl _)] at hst
          rw [hst] at hend
          obtain ⟨_, rfl, rfl⟩ : sn = tl ∧ ss = m ∧ sc = 3 := by simpa using hend
          clear hend hst
          go_wp2_with fail
          go_roundw
          case rel => exact ⟨by first | trivial | rfl, t.size + 1, by go_num, Or.inr ⟨rfl, rfl⟩⟩
          case measure => simp [intOf]
      · go_wp2_with fail
        go_ret
        exact ⟨by rw [unhide HM]; go_num, unhide HK1⟩
  · have HM : Hid (manyK l x = -1) := if_pos h0
    obtain ⟨q, hq⟩ : ∃ q, (checkF l x).2 = q := ⟨_, rfl⟩
    rw [hq] at HC h0
    have hqn : (q != 0) = true := by rw [bne_iff_ne]; exact h0
    clear h hq
    go_enter Tryz.func49, Tryz.ntmps49
    go_wp2_with (go_at_call 27; refine (unhide HC).mono ?_; rintro e w1 ⟨rfl, hk1⟩)
    go_ret
    exact ⟨by rw [unhide HM]; rfl, hk1⟩

end Go.Proofs.YtomiepknmmpflaaGreatDoor

