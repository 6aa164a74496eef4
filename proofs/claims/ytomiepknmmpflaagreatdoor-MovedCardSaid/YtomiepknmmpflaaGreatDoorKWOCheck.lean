/- The library's errors.Is over the program's errors: a fixed error, bare, in a fault, in passages above it. -/
import Derived.Test.YtomiepknmmpflaaGreatDoorKWParse
import Derived.Handy
import Derived.Deep.LoopGhost
import Derived.LaidEql
import Derived.Stop.Asserts
import Derived.RowKitTokens
import Derived.Test.YtomiepknmmpflaaGreatDoorKWOKeep
import Derived.Test.YtomiepknmmpflaaGreatDoorKWODrop2
import Derived.Test.YtomiepknmmpflaaGreatDoorKWIPut
namespace Go.Proofs.YtomiepknmmpflaaGreatDoor
open Go.RowKit Go.Joins Go.Extern.Stop Go.Stop Go.Extern

theorem Tryz.isTypeOf (v : Value) (w : World) : (Extern.ReflectliteType.typeOf #[.iface 293 v]).run Tryz.prog w = .ok (.iface 259 (.agg #[.pointer (some ⟨8, 293, none⟩)])) w := by kernel_rfl
theorem Tryz.isComparable (w : World) : ((Extern.ReflectliteType.method fun t => do Extern.Rtype.noPackHeld "Comparable" t; (fun a => Value.bool a.comparable) <$> typeInfo t) #[.agg #[.pointer (some ⟨8, 293, none⟩)]]).run Tryz.prog w = .ok (.bool true) w := by kernel_rfl
theorem Tryz.isComp : (Tryz.prog.info? 293).map (·.comparable) = some true := by kernel_rfl
theorem Tryz.isSize : (Tryz.prog.info? 312).map (·.size) = some 1 := by kernel_rfl
theorem Tryz.noIsE (v : Value) (xT : TypeId) (w : World) : (Instr.typeAssert (.iface 293 v) xT 271 true).run Tryz.prog w = .ok (.tuple #[.nilIface, .bool false]) w := run_typeAssert_lacksB Tryz.underlying271 (by kernel_rfl) (by kernel_rfl) v xT w
theorem Tryz.noUnwrapE (v : Value) (xT : TypeId) (w : World) : (Instr.typeAssert (.iface 293 v) xT 266 true).run Tryz.prog w = .ok (.tuple #[.nilIface, .bool false]) w := run_typeAssert_lacksB Tryz.underlying266 (by kernel_rfl) (by kernel_rfl) v xT w
theorem Tryz.noUnwrapsE (v : Value) (xT : TypeId) (w : World) : (Instr.typeAssert (.iface 293 v) xT 268 true).run Tryz.prog w = .ok (.tuple #[.nilIface, .bool false]) w := run_typeAssert_lacksB Tryz.underlying268 (by kernel_rfl) (by kernel_rfl) v xT w
theorem Tryz.noIsF (v : Value) (xT : TypeId) (w : World) : (Instr.typeAssert (.iface 134 v) xT 271 true).run Tryz.prog w = .ok (.tuple #[.nilIface, .bool false]) w := run_typeAssert_lacksB Tryz.underlying271 (by kernel_rfl) (by kernel_rfl) v xT w
theorem Tryz.noIsP (v : Value) (xT : TypeId) (w : World) : (Instr.typeAssert (.iface 199 v) xT 271 true).run Tryz.prog w = .ok (.tuple #[.nilIface, .bool false]) w := run_typeAssert_lacksB Tryz.underlying271 (by kernel_rfl) (by kernel_rfl) v xT w
theorem Tryz.hasUnwrapF (v : Value) (xT : TypeId) (w : World) : (Instr.typeAssert (.iface 134 v) xT 266 true).run Tryz.prog w = .ok (.tuple #[.iface 134 v, .bool true]) w := run_typeAssert_hasB Tryz.underlying266 (by kernel_rfl) v xT w
theorem Tryz.hasUnwrapP (v : Value) (xT : TypeId) (w : World) : (Instr.typeAssert (.iface 199 v) xT 266 true).run Tryz.prog w = .ok (.tuple #[.iface 199 v, .bool true]) w := run_typeAssert_hasB Tryz.underlying266 (by kernel_rfl) v xT w

def Er (w : World) (b : Addr) : Nat → Option ByteArray → TypeId → Addr → Prop
  | 0, wh, t, a => none = wh ∧ 293 = t ∧ b = a
  | 1, wh, t, a => ∃ f x, some x = wh ∧ 134 = t ∧ (⟨f, 0, none⟩ : Addr) = a ∧ w.heap[f]? = some (.cells #[.string x, .iface 293 (.pointer (some b))] 138 (0, 0))
  | d + 2, wh, t, a => ∃ p nm t' a', Er w b (d + 1) wh t' a' ∧ 199 = t ∧ (⟨p, 0, none⟩ : Addr) = a ∧ w.heap[p]? = some (.cells #[.string nm, .iface t' (.pointer (some a'))] 201 (0, 0))
theorem Er.bare {w : World} {b : Addr} : Er w b 0 none 293 b := ⟨rfl, rfl, rfl⟩
theorem Er.fault {w : World} {b : Addr} (f : Nat) (x : ByteArray) (h : w.heap[f]? = some (.cells #[.string x, .iface 293 (.pointer (some b))] 138 (0, 0))) : Er w b 1 (some x) 134 ⟨f, 0, none⟩ := ⟨f, x, rfl, rfl, rfl, h⟩
theorem Er.passage {w : World} {b : Addr} (p d : Nat) (nm : ByteArray) (wh : Option ByteArray) (t : TypeId) (a : Addr) (h : Er w b (d + 1) wh t a) (hp : w.heap[p]? = some (.cells #[.string nm, .iface t (.pointer (some a))] 201 (0, 0))) : Er w b (d + 2) wh 199 ⟨p, 0, none⟩ := ⟨p, nm, t, a, h, rfl, rfl, hp⟩
theorem Er.parts {w : World} {b : Addr} {d : Nat} {wh : Option ByteArray} {t : TypeId} {a : Addr} (h : Er w b d wh t a) :
    (0 = d ∧ none = wh ∧ 293 = t ∧ b = a) ∨ (∃ f x, 1 = d ∧ some x = wh ∧ 134 = t ∧ (⟨f, 0, none⟩ : Addr) = a ∧ w.heap[f]? = some (.cells #[.string x, .iface 293 (.pointer (some b))] 138 (0, 0))) ∨
    (∃ p n nm t' a', n + 2 = d ∧ Er w b (n + 1) wh t' a' ∧ 199 = t ∧ (⟨p, 0, none⟩ : Addr) = a ∧ w.heap[p]? = some (.cells #[.string nm, .iface t' (.pointer (some a'))] 201 (0, 0))) := by
  match d, h with
  | 0, h => exact Or.inl ⟨rfl, h⟩
  | 1, ⟨f, x, h⟩ => exact Or.inr (Or.inl ⟨f, x, rfl, h⟩)
  | n + 2, ⟨p, nm, t', a', h⟩ => exact Or.inr (Or.inr ⟨p, n, nm, t', a', rfl, h⟩)
theorem Er.kept {w w' : World} {b : Addr} {d : Nat} {wh : Option ByteArray} {t : TypeId} {a : Addr} (h : Er w b d wh t a) (hb : Below w.heap.size w w') : Er w' b d wh t a := by
  induction d generalizing t a with
  | zero => exact h
  | succ d ih =>
    rcases h.parts with ⟨e, _⟩ | ⟨f, x, e, rfl, rfl, rfl, hf⟩ | ⟨p, n, nm, t', a', e, he, rfl, rfl, hp⟩
    · omega
    · obtain rfl : d = 0 := by omega
      exact .fault f x (by rw [hb.block f (blk_lt hf)]; exact hf)
    · obtain rfl : d = n + 1 := by omega
      exact .passage p n nm wh t' a' (ih he) (by rw [hb.block p (blk_lt hp)]; exact hp)

set_option maxRecDepth 100000 in
set_option maxHeartbeats 2000000 in
theorem is_calls (b c : Addr) (d : Nat) (wh : Option ByteArray) (t : TypeId) (a : Addr) (w : World) (he : Er w b d wh t a) (cb cc : Array Value) (tb tc : TypeId) (hb : w.heap[b.block]? = some (.cells cb tb (0, 0))) (hc : w.heap[c.block]? = some (.cells cc tc (0, 0))) :
    Calls Tryz.prog 83 #[.iface t (.pointer (some a)), .iface 293 (.pointer (some c))] w fun e w' => e = .returned (.bool (decide (b = c))) ∧ w' = w := by
  obtain ⟨i, hi, hcmp⟩ := Option.map_eq_some_iff.1 Tryz.isComp
  obtain ⟨j, hj, hjs⟩ := Option.map_eq_some_iff.1 Tryz.isSize
  have h8 := @run_callFunc_extern Tryz.prog 137 _ Extern.ReflectliteType.typeOf Tryz.func137 (by kernel_rfl) (by kernel_rfl) (by kernel_rfl) (by kernel_rfl)
  have h32 := @run_callFunc_extern Tryz.prog 228 _ (Extern.ReflectliteType.method fun t => do Extern.Rtype.noPackHeld "Comparable" t; pure (.bool (← typeInfo t).comparable)) Tryz.func228 (by kernel_rfl) (by kernel_rfl) (by kernel_rfl) (by kernel_rfl)
  have tT := Tryz.isTypeOf
  have cT := Tryz.isComparable
  have HE := hide he
  have HB := hide hb
  have HC := hide hc
  clear he hb hc
  go_enter Tryz.func83, Tryz.ntmps83
  go_wp2
  go_loopg [0] d (fun g v wr => w = wr ∧ ∃ wh t a, v = .iface t (.pointer (some a)) ∧ Er w b g wh t a)
  case atStart => exact ⟨rfl, wh, t, a, rfl, unhide HE⟩
  case round =>
    obtain ⟨rfl, wh, t, a, rfl, he⟩ := hrel
    have nE := Tryz.noIsE
    have uE := Tryz.noUnwrapE
    have vE := Tryz.noUnwrapsE
    have nF := Tryz.noIsF
    have uF := Tryz.hasUnwrapF
    have nP := Tryz.noIsP
    have uP := Tryz.hasUnwrapP
    rcases he.parts with ⟨rfl, rfl, rfl, rfl⟩ | ⟨f, x, rfl, rfl, rfl, rfl, hf⟩ | ⟨p, d, nm, t, a, rfl, he2, rfl, rfl, hp⟩
    · clear he
      by_cases hbc : b = c
      · subst hbc
        have hd : decide (b = b) = true := decide_eq_true rfl
        have heq := run_eql_iface_ptr_same (P := Tryz.prog) w b Tryz.underlying80 Tryz.underlying293 hi hcmp hj
        go_wp2
        go_ret
        exact ⟨rfl, rfl⟩
      · have Hd : Hid (decide (b = c) = false) := decide_eq_false hbc
        have heq := run_eql_iface_ptr_other (P := Tryz.prog) w Tryz.underlying80 Tryz.underlying293 hi hcmp hj (by rw [hjs]; decide) hbc (unhide HB) (unhide HC)
        clear hbc
        go_wp2
        go_ret
        exact ⟨by rw [unhide Hd]; rfl, rfl⟩
    · clear he
      have hty := run_eql_iface_types (P := Tryz.prog) 134 293 (.pointer (some ⟨f, 0, none⟩)) (.pointer (some c)) Tryz.underlying80 (by decide) w
      have c1 : w.cell? ⟨f, 1, none⟩ = some (.iface 293 (.pointer (some b))) := blk_cell hf rfl
      clear hf
      go_wp2
      go_roundg 0
      case measure => omega
      case rel => exact ⟨rfl, _, _, _, rfl, .bare⟩
    · clear he
      have he := he2
      clear he2
      have hty := run_eql_iface_types (P := Tryz.prog) 199 293 (.pointer (some ⟨p, 0, none⟩)) (.pointer (some c)) Tryz.underlying80 (by decide) w
      have c1 : w.cell? ⟨p, 1, none⟩ = some (.iface t (.pointer (some a))) := blk_cell hp rfl
      have HEr := hide he
      clear hp he
      go_wp2
      go_roundg (d + 1)
      case measure => omega
      case rel => exact ⟨rfl, _, _, _, rfl, unhide HEr⟩

end Go.Proofs.YtomiepknmmpflaaGreatDoor

namespace Go.Proofs.YtomiepknmmpflaaGreatDoor
open Go.RowKit Go.Joins

structure Sents (w : World) (B : Nat) (s0 s1 s2 s3 : Addr) : Prop where
  g0 : w.cell? ⟨0, 0, none⟩ = some (.iface 293 (.pointer (some s0)))
  g1 : w.cell? ⟨1, 0, none⟩ = some (.iface 293 (.pointer (some s1)))
  g2 : w.cell? ⟨2, 0, none⟩ = some (.iface 293 (.pointer (some s2)))
  g3 : w.cell? ⟨3, 0, none⟩ = some (.iface 293 (.pointer (some s3)))
  b0 : ∃ c t, w.heap[s0.block]? = some (.cells c t (0, 0))
  b1 : ∃ c t, w.heap[s1.block]? = some (.cells c t (0, 0))
  b2 : ∃ c t, w.heap[s2.block]? = some (.cells c t (0, 0))
  b3 : ∃ c t, w.heap[s3.block]? = some (.cells c t (0, 0))
  n01 : s0 ≠ s1
  n02 : s0 ≠ s2
  n03 : s0 ≠ s3
  n12 : s1 ≠ s2
  n13 : s1 ≠ s3
  n23 : s2 ≠ s3
  l : 4 < B
  l0 : s0.block < B
  l1 : s1.block < B
  l2 : s2.block < B
  l3 : s3.block < B
  size : B ≤ w.heap.size
theorem Sents.kept {w w' : World} {B : Nat} {s0 s1 s2 s3 : Addr} (h : Sents w B s0 s1 s2 s3) (hb : Below B w w') : Sents w' B s0 s1 s2 s3 := by
  have hl := h.l
  have hc : ∀ k, k < 4 → w'.cell? ⟨k, 0, none⟩ = w.cell? ⟨k, 0, none⟩ := fun k hk => hb.cell (p := ⟨k, 0, none⟩) (by show k < B; omega)
  exact { g0 := (hc 0 (by omega)).trans h.g0, g1 := (hc 1 (by omega)).trans h.g1, g2 := (hc 2 (by omega)).trans h.g2, g3 := (hc 3 (by omega)).trans h.g3,
          b0 := by rw [hb.block _ h.l0]; exact h.b0, b1 := by rw [hb.block _ h.l1]; exact h.b1, b2 := by rw [hb.block _ h.l2]; exact h.b2, b3 := by rw [hb.block _ h.l3]; exact h.b3,
          n01 := h.n01, n02 := h.n02, n03 := h.n03, n12 := h.n12, n13 := h.n13, n23 := h.n23, l := h.l, l0 := h.l0, l1 := h.l1, l2 := h.l2, l3 := h.l3, size := Nat.le_trans h.size hb.size }
theorem Sents.keptAll {w w' : World} {B : Nat} {s0 s1 s2 s3 : Addr} (h : Sents w B s0 s1 s2 s3) (hb : Below w.heap.size w w') : Sents w' B s0 s1 s2 s3 := h.kept (hb.mono h.size)
def Code (s0 s1 s2 s3 b : Addr) (n : Int) : Prop := (s0 = b ∧ 4 = n) ∨ (s1 = b ∧ 6 = n) ∨ (s2 = b ∧ 7 = n) ∨ (s3 = b ∧ 5 = n)
theorem Code.none {s0 s1 s2 s3 : Addr} : Code s0 s1 s2 s3 s0 4 := Or.inl ⟨rfl, rfl⟩
theorem Code.missing {s0 s1 s2 s3 : Addr} : Code s0 s1 s2 s3 s1 6 := Or.inr (Or.inl ⟨rfl, rfl⟩)
theorem Code.cycle {s0 s1 s2 s3 : Addr} : Code s0 s1 s2 s3 s2 7 := Or.inr (Or.inr (Or.inl ⟨rfl, rfl⟩))
theorem Code.corrupt {s0 s1 s2 s3 : Addr} : Code s0 s1 s2 s3 s3 5 := Or.inr (Or.inr (Or.inr ⟨rfl, rfl⟩))
theorem Code.blk {w : World} {B : Nat} {s0 s1 s2 s3 b : Addr} {n : Int} (h : Code s0 s1 s2 s3 b n) (hs : Sents w B s0 s1 s2 s3) : ∃ c t, w.heap[b.block]? = some (.cells c t (0, 0)) := by
  rcases h with ⟨rfl, rfl⟩ | ⟨rfl, rfl⟩ | ⟨rfl, rfl⟩ | ⟨rfl, rfl⟩
  · exact hs.b0
  · exact hs.b1
  · exact hs.b2
  · exact hs.b3

theorem is_yes {b : Addr} {d : Nat} {wh : Option ByteArray} {t : TypeId} {a : Addr} {w : World} (he : Er w b d wh t a) (hb : ∃ c t, w.heap[b.block]? = some (.cells c t (0, 0))) :
    Calls Tryz.prog 83 #[.iface t (.pointer (some a)), .iface 293 (.pointer (some b))] w fun e w' => e = .returned (.bool true) ∧ w' = w := by
  obtain ⟨c, t0, hb⟩ := hb
  have := is_calls b b d wh t a w he c c t0 t0 hb hb
  rw [decide_eq_true rfl] at this
  exact this
theorem is_no {b c : Addr} {d : Nat} {wh : Option ByteArray} {t : TypeId} {a : Addr} {w : World} (he : Er w b d wh t a) (hb : ∃ c t, w.heap[b.block]? = some (.cells c t (0, 0))) (hc : ∃ d t, w.heap[c.block]? = some (.cells d t (0, 0))) (hne : b ≠ c) :
    Calls Tryz.prog 83 #[.iface t (.pointer (some a)), .iface 293 (.pointer (some c))] w fun e w' => e = .returned (.bool false) ∧ w' = w := by
  obtain ⟨c1, t1, hb⟩ := hb
  obtain ⟨c2, t2, hc⟩ := hc
  have := is_calls b c d wh t a w he c1 c2 t1 t2 hb hc
  rw [decide_eq_false hne] at this
  exact this

set_option maxRecDepth 100000 in
set_option maxHeartbeats 1000000 in
theorem oerrnoOf_calls (s0 s1 s2 s3 b : Addr) (n : Int) (B d : Nat) (wh : Option ByteArray) (t : TypeId) (a : Addr) (w : World) (hk : Code s0 s1 s2 s3 b n) (he : Er w b d wh t a) (hs : Sents w B s0 s1 s2 s3) :
    Calls Tryz.prog 47 #[.iface t (.pointer (some a))] w fun e w' => e = .returned (.int .i64 n) ∧ w = w' := by
  have g0 := hs.g0
  have g1 := hs.g1
  have g2 := hs.g2
  have HE := hide he
  have HS := hide hs
  clear he hs
  rcases hk with ⟨rfl, rfl⟩ | ⟨rfl, rfl⟩ | ⟨rfl, rfl⟩ | ⟨rfl, rfl⟩
  · go_enter Tryz.func47, Tryz.ntmps47
    go_wp2_with (go_at_call_of 83 s0; refine (is_yes (unhide HE) (unhide HS).b0).mono ?_; rintro e w' ⟨rfl, rfl⟩)
    go_ret
    exact ⟨rfl, rfl⟩
  · go_enter Tryz.func47, Tryz.ntmps47
    go_wp2_with (first | (go_at_call_of 83 s0; refine (is_no (unhide HE) (unhide HS).b1 (unhide HS).b0 (unhide HS).n01.symm).mono ?_; rintro e w' ⟨rfl, rfl⟩) | (go_at_call_of 83 s1; refine (is_yes (unhide HE) (unhide HS).b1).mono ?_; rintro e w' ⟨rfl, rfl⟩))
    go_ret
    exact ⟨rfl, rfl⟩
  · go_enter Tryz.func47, Tryz.ntmps47
    go_wp2_with (first | (go_at_call_of 83 s0; refine (is_no (unhide HE) (unhide HS).b2 (unhide HS).b0 (unhide HS).n02.symm).mono ?_; rintro e w' ⟨rfl, rfl⟩) | (go_at_call_of 83 s1; refine (is_no (unhide HE) (unhide HS).b2 (unhide HS).b1 (unhide HS).n12.symm).mono ?_; rintro e w' ⟨rfl, rfl⟩) | (go_at_call_of 83 s2; refine (is_yes (unhide HE) (unhide HS).b2).mono ?_; rintro e w' ⟨rfl, rfl⟩))
    go_ret
    exact ⟨rfl, rfl⟩
  · go_enter Tryz.func47, Tryz.ntmps47
    go_wp2_with (first | (go_at_call_of 83 s0; refine (is_no (unhide HE) (unhide HS).b3 (unhide HS).b0 (unhide HS).n03.symm).mono ?_; rintro e w' ⟨rfl, rfl⟩) | (go_at_call_of 83 s1; refine (is_no (unhide HE) (unhide HS).b3 (unhide HS).b1 (unhide HS).n13.symm).mono ?_; rintro e w' ⟨rfl, rfl⟩) | (go_at_call_of 83 s2; refine (is_no (unhide HE) (unhide HS).b3 (unhide HS).b2 (unhide HS).n23.symm).mono ?_; rintro e w' ⟨rfl, rfl⟩))
    go_ret
    exact ⟨rfl, rfl⟩

end Go.Proofs.YtomiepknmmpflaaGreatDoor

namespace Go.Proofs.YtomiepknmmpflaaGreatDoor
open Go.RowKit Go.Joins

theorem addLens_eq : ∀ (l : Ov.Files) (s : Nat), (∀ f ∈ l, f.2.size ≤ 1000) → s + 1000 * l.length ≤ 1000000 → l.foldl (fun t f => wrap64 (t + (f.2.size : Int))) (s : Int) = ((s + Ov.total l : Nat) : Int)
  | [], s, _, _ => by simp [Ov.total]
  | f :: l, s, hl, hs => by
    have hf := hl f (by simp)
    simp only [List.length_cons] at hs
    have h2 : wrap64 ((s : Int) + (f.2.size : Int)) = ((s + f.2.size : Nat) : Int) := by
      rw [IntWalk.wrap64_in _ ⟨by omega, by omega⟩]; omega
    have := addLens_eq l (s + f.2.size) (fun g hg => hl g (by simp [hg])) (by omega)
    rw [List.foldl_cons, h2, this]
    simp only [Ov.total]
    omega
theorem file_size_of {l : Ov.Files} (h : ∀ i, i < l.length → (Ov.fileAt l i).size ≤ 1000) : ∀ f ∈ l, f.2.size ≤ 1000 := fun f hf => by
  obtain ⟨i, hi, e⟩ := List.mem_iff_getElem.1 hf
  have := h i hi
  rw [show Ov.fileAt l i = f.2 from by simp [Ov.fileAt, hi, e]] at this
  exact this
theorem addLens_total {l : Ov.Files} (h : ∀ i, i < l.length → (Ov.fileAt l i).size ≤ 1000) (hl : l.length ≤ 10) : addLens l = (Ov.total l : Int) := by
  have := addLens_eq l 0 (file_size_of h) (by omega)
  unfold addLens
  simpa using this
def addUp (x f : ByteArray) (l : Ov.Files) : Int := addLens (Ov.withF l x f)
theorem addUp_total {room : Nat} {l : Ov.Files} (h : Ov.LI room l) (x f : ByteArray) (hf : f.size ≤ 1000) : addUp x f l = (Ov.total (Ov.withF l x f) : Int) := by
  have hl := h.len
  unfold addUp
  refine addLens_total (Ov.withF_size h.size hf) ?_
  rw [Ov.withF_length]; split <;> omega
theorem withF_eight {l : Ov.Files} {x f : ByteArray} (hl : l.length ≤ 8) (h : Ov.place l x < l.length ∨ l.length < 8) : (Ov.withF l x f).length ≤ 8 := by
  rw [Ov.withF_length]; split <;> omega

theorem one_row (w : World) (x f : ByteArray) : OwnsRows (w.alloc (.cells #[.string x, .string f] 97)) 0 (.slice (some ⟨w.heap.size, 0, none⟩) [(x, f)].length [(x, f)].length) [(x, f)] :=
  World.ownsRow_lit w #[.string x, .string f] 1 (Nat.zero_le _) (by unfold maxLen; omega) rfl
theorem PutLeft.before {w w' : World} {b off : Nat} {cs : Array Value} {t : TypeId} {v v' : Value} {l : Ov.Files} {o : Obj} (h : PutLeft (w.alloc o) b off cs t v l v' w') : PutLeft w b off cs t v l v' w' :=
  ⟨h.blk, h.own, h.ne, (OFr.of_below (below_alloc1 w o) _ _).trans h.fr, h.row.imp id fun e k hk => Nat.le_trans (by simp) (e k hk)⟩
theorem okeep_one (l : Ov.Files) (v : Value) (x f : ByteArray) (b room : Nat) (w : World) (h9 : (Ov.withF l x f).length ≤ 8) (hblk : w.heap[b]? = some (.cells #[.int .i32 1, .int .u32 0, .int .i64 room, v] 77 (0, 0))) (hown : OwnsRows w 0 v l) (hx : x.size ≤ 1000) :
    Calls Tryz.prog 53 #[.pointer (some ⟨b, 0, none⟩), .slice (some ⟨w.heap.size, 0, none⟩) 1 1] (w.alloc (.cells #[.string x, .string f] 97)) fun e w' => ((room : Int) < addUp x f l ∧ e = .returned (.int .i64 9) ∧ Below w.heap.size w w') ∨ (addUp x f l ≤ (room : Int) ∧ e = .returned (.int .i64 0) ∧ ∃ v', PutLeft w b 3 #[.int .i32 1, .int .u32 0, .int .i64 room, v] 77 v (Ov.withF l x f) v' w') := by
  refine (okeep_in l [(x, f)] v w.heap.size b room _ h9 (by simp) (blk_alloc hblk _) (hown.alloc _) (one_row w x f) (fun q hq => by simp at hq; subst hq; exact hx)).mono ?_
  rintro e w' (⟨h1, h2, h3⟩ | ⟨h1, h2, v', h3⟩)
  · exact Or.inl ⟨h1, h2, (below_alloc1 w _).trans (h3.mono (by simp))⟩
  · exact Or.inr ⟨h1, h2, v', h3.before⟩
theorem okeep_no (l : Ov.Files) (v : Value) (x f : ByteArray) (b room : Nat) (w : World) (h9 : (Ov.withF l x f).length ≤ 8) (hblk : w.heap[b]? = some (.cells #[.int .i32 1, .int .u32 0, .int .i64 room, v] 77 (0, 0))) (hown : OwnsRows w 0 v l) (_ : some b ≠ v.ownBlock) (hx : x.size ≤ 1000) (h : (room : Int) < addUp x f l) : Calls Tryz.prog 53 #[.pointer (some ⟨b, 0, none⟩), .slice (some ⟨w.heap.size, 0, none⟩) 1 1] (w.alloc (.cells #[.string x, .string f] 97)) fun e w' => e = .returned (.int .i64 9) ∧ Below w.heap.size w w' := by
  refine (okeep_one l v x f b room w h9 hblk hown hx).mono ?_
  rintro e w' (⟨_, rfl, hb⟩ | ⟨h1, _⟩)
  · exact ⟨rfl, hb⟩
  · omega
theorem okeep_yes (l : Ov.Files) (v : Value) (x f : ByteArray) (b room : Nat) (w : World) (h9 : (Ov.withF l x f).length ≤ 8) (hblk : w.heap[b]? = some (.cells #[.int .i32 1, .int .u32 0, .int .i64 room, v] 77 (0, 0))) (hown : OwnsRows w 0 v l) (_ : some b ≠ v.ownBlock) (hx : x.size ≤ 1000) (h : addUp x f l ≤ (room : Int)) : Calls Tryz.prog 53 #[.pointer (some ⟨b, 0, none⟩), .slice (some ⟨w.heap.size, 0, none⟩) 1 1] (w.alloc (.cells #[.string x, .string f] 97)) fun e w' => e = .returned (.int .i64 0) ∧ ∃ v', PutLeft w b 3 #[.int .i32 1, .int .u32 0, .int .i64 room, v] 77 v (Ov.withF l x f) v' w' := by
  refine (okeep_one l v x f b room w h9 hblk hown hx).mono ?_
  rintro e w' (⟨h1, _⟩ | ⟨_, rfl, v', hp⟩)
  · omega
  · exact ⟨rfl, v', hp⟩

end Go.Proofs.YtomiepknmmpflaaGreatDoor

namespace Go.Proofs.YtomiepknmmpflaaGreatDoor
open Go.RowKit Go.Joins

open Go.MuLone in
set_option maxRecDepth 100000 in
set_option maxHeartbeats 1000000 in
theorem oLoad_calls (l : Ov.Files) (x f : ByteArray) (b : Nat) (r : Option Nat) (room : Nat) (w : World) (hi : Ov.LI room l) (h : OvRep w b r room l) :
    Calls Tryz.prog 35 #[.pointer (some ⟨b, 0, none⟩), .string x, .string f] w fun e w' => e = .returned (.int .i64 (Ov.loadF room l x f).1) ∧ OvLeft w b r room (Ov.loadF room l x f).2 w' := by
  obtain ⟨v, h1, h2, h3, h4⟩ := id h
  have HR := hide h
  obtain ⟨a, c, rfl⟩ := owns_slice h2
  have c0 : w.cell? ⟨b, 0, none⟩ = some (.int .i32 0) := blk_cell h1 rfl
  have f0 := blk_frozen h1 0
  have hbl := blk_lt h1
  have HB := hide (blk_set_same (i := 0) h1 (.int .i32 1))
  have HO := hide (owns_set h2 h3 (a := ⟨b, 0, none⟩) (.int .i32 1))
  have H3 := hide h3
  have H4 := hide h4
  have hl8 := hi.len
  have HI := hide hi
  clear h h1 h2 h3 h4 hi
  cases hn : Ov.nameB x
  · have HL : Hid (Ov.loadF room l x f = (2, l)) := by unfold Ov.loadF; rw [if_pos hn]; exact rfl
    go_enter_defers Tryz.func35, Tryz.ntmps35
    go_wp2_with (first | (go_at_call 43; refine (lock_free muLib ⟨b, 0, none⟩ _ c0 f0).mono ?_; rintro e w1 ⟨rfl, rfl⟩) | (go_at_call 64; refine (oisName_calls _ _).mono ?_; rintro e w' ⟨rfl, hw⟩; obtain rfl := hw.symm))
    refine leaves_cons (f := 44) (args := #[.pointer (some ⟨b, 0, none⟩)]) (by simp) (by simp [go_sem]) ?_
    refine (unlock_deferred muLib ⟨b, 0, none⟩ .returning _ ?_ ?_).mono ?_
    · exact ((Below.refl (w.setCell ⟨b, 0, none⟩ (.int .i32 1)).heap.size (w.setCell ⟨b, 0, none⟩ (.int .i32 1))).cell (p := ⟨b, 0, none⟩) (by simpa using hbl)).trans (blk_cell (unhide HB) rfl)
    · exact ((Below.refl (w.setCell ⟨b, 0, none⟩ (.int .i32 1)).heap.size (w.setCell ⟨b, 0, none⟩ (.int .i32 1))).frozen (p := ⟨b, 0, none⟩) (by simpa using hbl)).trans (blk_frozen (unhide HB) 0)
    rintro e u' w'' ⟨rfl, rfl, rfl⟩
    refine ⟨_, results_tmp rfl _ _ _, ?_, ?_⟩
    · rw [unhide HL]; rfl
    · rw [unhide HL]; exact OvLeft.quiet (unhide HR) (Below.refl (w.setCell ⟨b, 0, none⟩ (.int .i32 1)).heap.size (w.setCell ⟨b, 0, none⟩ (.int .i32 1)))
  have hx1000 : x.size ≤ 1000 := Nat.le_trans (Ov.nameB_size hn) (by omega)
  by_cases hf : 1000 < f.size
  · have HL : Hid (Ov.loadF room l x f = (1, l)) := by unfold Ov.loadF; rw [if_neg (by rw [hn]; simp), if_pos (Or.inl hf)]; exact rfl
    go_enter_defers Tryz.func35, Tryz.ntmps35
    go_wp2_with (first | (go_at_call 43; refine (lock_free muLib ⟨b, 0, none⟩ _ c0 f0).mono ?_; rintro e w1 ⟨rfl, rfl⟩) | (go_at_call 64; refine (oisName_calls _ _).mono ?_; rintro e w' ⟨rfl, hw⟩; obtain rfl := hw.symm))
    refine leaves_cons (f := 44) (args := #[.pointer (some ⟨b, 0, none⟩)]) (by simp) (by simp [go_sem]) ?_
    refine (unlock_deferred muLib ⟨b, 0, none⟩ .returning _ ?_ ?_).mono ?_
    · exact ((Below.refl (w.setCell ⟨b, 0, none⟩ (.int .i32 1)).heap.size (w.setCell ⟨b, 0, none⟩ (.int .i32 1))).cell (p := ⟨b, 0, none⟩) (by simpa using hbl)).trans (blk_cell (unhide HB) rfl)
    · exact ((Below.refl (w.setCell ⟨b, 0, none⟩ (.int .i32 1)).heap.size (w.setCell ⟨b, 0, none⟩ (.int .i32 1))).frozen (p := ⟨b, 0, none⟩) (by simpa using hbl)).trans (blk_frozen (unhide HB) 0)
    rintro e u' w'' ⟨rfl, rfl, rfl⟩
    refine ⟨_, results_tmp rfl _ _ _, ?_, ?_⟩
    · rw [unhide HL]; rfl
    · rw [unhide HL]; exact OvLeft.quiet (unhide HR) (Below.refl (w.setCell ⟨b, 0, none⟩ (.int .i32 1)).heap.size (w.setCell ⟨b, 0, none⟩ (.int .i32 1)))
  have hf1000 : f.size ≤ 1000 := by omega
  by_cases h8 : 8 ≤ l.length
  · have hd8 : decide ((8 : Int) ≤ (l.length : Int)) = true := decide_eq_true (by omega)
    by_cases hp : Ov.place l x < l.length
    · have Hh : Ov.has l x = true := by unfold Ov.has; exact decide_eq_true hp
      have h9 := withF_eight (f := f) hl8 (Or.inl hp)
      have HLP : Hid (Ov.loadF room l x f = Ov.putF room l (Ov.withF l x f)) := by unfold Ov.loadF; rw [if_neg (by rw [hn]; simp), if_neg (by omega)]; exact rfl
      by_cases hrm : (room : Int) < addUp x f l
      · have h1 := hrm
        have HRM := hide hrm
        have HL : Hid (Ov.loadF room l x f = (9, l)) := by
          rw [unhide HLP]; unfold Ov.putF; rw [if_pos (by rw [addUp_total (unhide HI) x f hf1000] at h1; omega)]; exact rfl
        clear h1 hrm
        go_enter_defers Tryz.func35, Tryz.ntmps35
        go_wp2_with (first | (go_at_call 43; refine (lock_free muLib ⟨b, 0, none⟩ _ c0 f0).mono ?_; rintro e w1 ⟨rfl, rfl⟩) | (go_at_call 64; refine (oisName_calls _ _).mono ?_; rintro e w' ⟨rfl, hw⟩; obtain rfl := hw.symm) | (go_at_call 65; refine (oScount_calls l.length a c b 3 _ (blk_cell (unhide HB) rfl)).mono ?_; rintro e w' ⟨rfl, rfl⟩) | (go_at_call 66; refine (oShas_calls l _ x b 3 0 _ hl8 (unhide HO) (blk_cell (unhide HB) rfl) (by simpa using hbl)).mono ?_; rintro e w2 ⟨rfl, hb2⟩; have HB2 := hide hb2; clear hb2) | (go_at_call 67; refine (oClone_calls f _ hf1000).mono ?_; rintro e w3 ⟨rfl, hb3⟩; have HB3 : Hid (Below (w.setCell ⟨b, 0, none⟩ (.int .i32 1)).heap.size (w.setCell ⟨b, 0, none⟩ (.int .i32 1)) w3) := (unhide HB2).trans (hb3.mono (unhide HB2).size); clear hb3) | (go_at_call 53; refine (okeep_no l (.slice a l.length c) x f b room _ h9 (((unhide HB3).block b (by simpa using hbl)).trans (unhide HB)) (owns_all (unhide HO) (unhide HB3)) (unhide H3) hx1000 (unhide HRM)).mono ?_; rintro e w4 ⟨rfl, hb4⟩))
        have hb5 := (unhide HB3).trans (hb4.mono (unhide HB3).size)
        refine leaves_cons (f := 44) (args := #[.pointer (some ⟨b, 0, none⟩)]) (by simp) (by simp [go_sem]) ?_
        refine (unlock_deferred muLib ⟨b, 0, none⟩ .returning _ ?_ ?_).mono ?_
        · exact (hb5.cell (p := ⟨b, 0, none⟩) (by simpa using hbl)).trans (blk_cell (unhide HB) rfl)
        · exact (hb5.frozen (p := ⟨b, 0, none⟩) (by simpa using hbl)).trans (blk_frozen (unhide HB) 0)
        rintro e u' w'' ⟨rfl, rfl, rfl⟩
        refine ⟨_, results_tmp rfl _ _ _, ?_, ?_⟩
        · rw [unhide HL]; rfl
        · rw [unhide HL]; exact OvLeft.quiet (unhide HR) hb5
      · have h1 : addUp x f l ≤ (room : Int) := by omega
        have HRM := hide h1
        have HL : Hid (Ov.loadF room l x f = (0, Ov.withF l x f)) := by
          rw [unhide HLP]; unfold Ov.putF; rw [if_neg (by rw [addUp_total (unhide HI) x f hf1000] at h1; omega)]; exact rfl
        clear h1 hrm
        go_enter_defers Tryz.func35, Tryz.ntmps35
        go_wp2_with (first | (go_at_call 43; refine (lock_free muLib ⟨b, 0, none⟩ _ c0 f0).mono ?_; rintro e w1 ⟨rfl, rfl⟩) | (go_at_call 64; refine (oisName_calls _ _).mono ?_; rintro e w' ⟨rfl, hw⟩; obtain rfl := hw.symm) | (go_at_call 65; refine (oScount_calls l.length a c b 3 _ (blk_cell (unhide HB) rfl)).mono ?_; rintro e w' ⟨rfl, rfl⟩) | (go_at_call 66; refine (oShas_calls l _ x b 3 0 _ hl8 (unhide HO) (blk_cell (unhide HB) rfl) (by simpa using hbl)).mono ?_; rintro e w2 ⟨rfl, hb2⟩; have HB2 := hide hb2; clear hb2) | (go_at_call 67; refine (oClone_calls f _ hf1000).mono ?_; rintro e w3 ⟨rfl, hb3⟩; have HB3 : Hid (Below (w.setCell ⟨b, 0, none⟩ (.int .i32 1)).heap.size (w.setCell ⟨b, 0, none⟩ (.int .i32 1)) w3) := (unhide HB2).trans (hb3.mono (unhide HB2).size); clear hb3) | (go_at_call 53; refine (okeep_yes l (.slice a l.length c) x f b room _ h9 (((unhide HB3).block b (by simpa using hbl)).trans (unhide HB)) (owns_all (unhide HO) (unhide HB3)) (unhide H3) hx1000 (unhide HRM)).mono ?_; rintro e w4 ⟨rfl, v4, hp4⟩))
        refine leaves_cons (f := 44) (args := #[.pointer (some ⟨b, 0, none⟩)]) (by simp) (by simp [go_sem]) ?_
        refine (unlock_deferred muLib ⟨b, 0, none⟩ .returning _ ?_ ?_).mono ?_
        · exact blk_cell hp4.blk rfl
        · exact blk_frozen hp4.blk 0
        rintro e u' w'' ⟨rfl, rfl, rfl⟩
        refine ⟨_, results_tmp rfl _ _ _, ?_, ?_⟩
        · rw [unhide HL]; rfl
        · rw [unhide HL]; exact OvLeft.turn (unhide HR) (unhide HB3) (unhide H4) hp4
    · have Hh : Ov.has l x = false := by unfold Ov.has; exact decide_eq_false hp
      have HL : Hid (Ov.loadF room l x f = (1, l)) := by unfold Ov.loadF; rw [if_neg (by rw [hn]; simp), if_pos (Or.inr ⟨by omega, hp⟩)]; exact rfl
      go_enter_defers Tryz.func35, Tryz.ntmps35
      go_wp2_with (first | (go_at_call 43; refine (lock_free muLib ⟨b, 0, none⟩ _ c0 f0).mono ?_; rintro e w1 ⟨rfl, rfl⟩) | (go_at_call 64; refine (oisName_calls _ _).mono ?_; rintro e w' ⟨rfl, hw⟩; obtain rfl := hw.symm) | (go_at_call 65; refine (oScount_calls l.length a c b 3 _ (blk_cell (unhide HB) rfl)).mono ?_; rintro e w' ⟨rfl, rfl⟩) | (go_at_call 66; refine (oShas_calls l _ x b 3 0 _ hl8 (unhide HO) (blk_cell (unhide HB) rfl) (by simpa using hbl)).mono ?_; rintro e w2 ⟨rfl, hb2⟩; have HB2 := hide hb2; clear hb2))
      refine leaves_cons (f := 44) (args := #[.pointer (some ⟨b, 0, none⟩)]) (by simp) (by simp [go_sem]) ?_
      refine (unlock_deferred muLib ⟨b, 0, none⟩ .returning _ ?_ ?_).mono ?_
      · exact ((unhide HB2).cell (p := ⟨b, 0, none⟩) (by simpa using hbl)).trans (blk_cell (unhide HB) rfl)
      · exact ((unhide HB2).frozen (p := ⟨b, 0, none⟩) (by simpa using hbl)).trans (blk_frozen (unhide HB) 0)
      rintro e u' w'' ⟨rfl, rfl, rfl⟩
      refine ⟨_, results_tmp rfl _ _ _, ?_, ?_⟩
      · rw [unhide HL]; rfl
      · rw [unhide HL]; exact OvLeft.quiet (unhide HR) (unhide HB2)
  · have hd8 : decide ((8 : Int) ≤ (l.length : Int)) = false := decide_eq_false (by omega)
    have h9 := withF_eight (x := x) (f := f) hl8 (Or.inr (by omega))
    have HLP : Hid (Ov.loadF room l x f = Ov.putF room l (Ov.withF l x f)) := by unfold Ov.loadF; rw [if_neg (by rw [hn]; simp), if_neg (by omega)]; exact rfl
    by_cases hrm : (room : Int) < addUp x f l
    · have h1 := hrm
      have HRM := hide hrm
      have HL : Hid (Ov.loadF room l x f = (9, l)) := by
        rw [unhide HLP]; unfold Ov.putF; rw [if_pos (by rw [addUp_total (unhide HI) x f hf1000] at h1; omega)]; exact rfl
      clear h1 hrm
      go_enter_defers Tryz.func35, Tryz.ntmps35
      go_wp2_with (first | (go_at_call 43; refine (lock_free muLib ⟨b, 0, none⟩ _ c0 f0).mono ?_; rintro e w1 ⟨rfl, rfl⟩) | (go_at_call 64; refine (oisName_calls _ _).mono ?_; rintro e w' ⟨rfl, hw⟩; obtain rfl := hw.symm) | (go_at_call 65; refine (oScount_calls l.length a c b 3 _ (blk_cell (unhide HB) rfl)).mono ?_; rintro e w' ⟨rfl, rfl⟩) | (go_at_call 67; refine (oClone_calls f _ hf1000).mono ?_; rintro e w3 ⟨rfl, hb3⟩; have HB3 : Hid (Below (w.setCell ⟨b, 0, none⟩ (.int .i32 1)).heap.size (w.setCell ⟨b, 0, none⟩ (.int .i32 1)) w3) := hb3; clear hb3) | (go_at_call 53; refine (okeep_no l (.slice a l.length c) x f b room _ h9 (((unhide HB3).block b (by simpa using hbl)).trans (unhide HB)) (owns_all (unhide HO) (unhide HB3)) (unhide H3) hx1000 (unhide HRM)).mono ?_; rintro e w4 ⟨rfl, hb4⟩))
      have hb5 := (unhide HB3).trans (hb4.mono (unhide HB3).size)
      refine leaves_cons (f := 44) (args := #[.pointer (some ⟨b, 0, none⟩)]) (by simp) (by simp [go_sem]) ?_
      refine (unlock_deferred muLib ⟨b, 0, none⟩ .returning _ ?_ ?_).mono ?_
      · exact (hb5.cell (p := ⟨b, 0, none⟩) (by simpa using hbl)).trans (blk_cell (unhide HB) rfl)
      · exact (hb5.frozen (p := ⟨b, 0, none⟩) (by simpa using hbl)).trans (blk_frozen (unhide HB) 0)
      rintro e u' w'' ⟨rfl, rfl, rfl⟩
      refine ⟨_, results_tmp rfl _ _ _, ?_, ?_⟩
      · rw [unhide HL]; rfl
      · rw [unhide HL]; exact OvLeft.quiet (unhide HR) hb5
    · have h1 : addUp x f l ≤ (room : Int) := by omega
      have HRM := hide h1
      have HL : Hid (Ov.loadF room l x f = (0, Ov.withF l x f)) := by
        rw [unhide HLP]; unfold Ov.putF; rw [if_neg (by rw [addUp_total (unhide HI) x f hf1000] at h1; omega)]; exact rfl
      clear h1 hrm
      go_enter_defers Tryz.func35, Tryz.ntmps35
      go_wp2_with (first | (go_at_call 43; refine (lock_free muLib ⟨b, 0, none⟩ _ c0 f0).mono ?_; rintro e w1 ⟨rfl, rfl⟩) | (go_at_call 64; refine (oisName_calls _ _).mono ?_; rintro e w' ⟨rfl, hw⟩; obtain rfl := hw.symm) | (go_at_call 65; refine (oScount_calls l.length a c b 3 _ (blk_cell (unhide HB) rfl)).mono ?_; rintro e w' ⟨rfl, rfl⟩) | (go_at_call 67; refine (oClone_calls f _ hf1000).mono ?_; rintro e w3 ⟨rfl, hb3⟩; have HB3 : Hid (Below (w.setCell ⟨b, 0, none⟩ (.int .i32 1)).heap.size (w.setCell ⟨b, 0, none⟩ (.int .i32 1)) w3) := hb3; clear hb3) | (go_at_call 53; refine (okeep_yes l (.slice a l.length c) x f b room _ h9 (((unhide HB3).block b (by simpa using hbl)).trans (unhide HB)) (owns_all (unhide HO) (unhide HB3)) (unhide H3) hx1000 (unhide HRM)).mono ?_; rintro e w4 ⟨rfl, v4, hp4⟩))
      refine leaves_cons (f := 44) (args := #[.pointer (some ⟨b, 0, none⟩)]) (by simp) (by simp [go_sem]) ?_
      refine (unlock_deferred muLib ⟨b, 0, none⟩ .returning _ ?_ ?_).mono ?_
      · exact blk_cell hp4.blk rfl
      · exact blk_frozen hp4.blk 0
      rintro e u' w'' ⟨rfl, rfl, rfl⟩
      refine ⟨_, results_tmp rfl _ _ _, ?_, ?_⟩
      · rw [unhide HL]; rfl
      · rw [unhide HL]; exact OvLeft.turn (unhide HR) (unhide HB3) (unhide H4) hp4
end Go.Proofs.YtomiepknmmpflaaGreatDoor

namespace Go.Proofs.YtomiepknmmpflaaGreatDoor
open Go.RowKit Go.Joins

theorem oparse_yes (s : ByteArray) (te : TypeId) (pe : Value) (w : World) (hi : Ov.isImage s) (hv : w.cell? ⟨3, 0, none⟩ = some (.iface te pe)) (hg3 : 3 < w.heap.size) :
    Calls Tryz.prog 57 #[.string s] w fun e w' => Below w.heap.size w w' ∧ ∃ g, e = .returned (.tuple #[.agg #[.string (Ov.backing s), .slice (some ⟨g, 0, none⟩) (Ov.many s) (Ov.many s), .int .i64 (Ov.lost s)], .nilIface]) ∧ w.heap.size ≤ g ∧ w'.heap[g]? = some (.cells (rowTo s (Ov.many s)).toArray 160 (0, 0)) :=
  (oparseImage_calls s te pe w hv hg3).mono fun _ _ h => ⟨h.1, h.2.elim (fun k => k.2) (fun k => absurd hi k.1)⟩
theorem oparse_no (s : ByteArray) (te : TypeId) (pe : Value) (w : World) (hi : ¬ Ov.isImage s) (hv : w.cell? ⟨3, 0, none⟩ = some (.iface te pe)) (hg3 : 3 < w.heap.size) :
    Calls Tryz.prog 57 #[.string s] w fun e w' => Below w.heap.size w w' ∧ e = .returned (.tuple #[.agg #[.string ⟨#[]⟩, .slice none 0 0, .int .i64 0], .iface te pe]) :=
  (oparseImage_calls s te pe w hv hg3).mono fun _ _ h => ⟨h.1, h.2.elim (fun k => absurd k.1 hi) (fun k => k.2)⟩
theorem lost_nat {s : ByteArray} : ∃ t : Nat, Ov.lost s = (t : Int) := ⟨(Ov.lost s).toNat, by have := Ov.lostTo_bd s (Ov.datas s); unfold Ov.lost; omega⟩
theorem get_here {l : Ov.Files} {x : ByteArray} {s : ByteArray} {v : Value} {b off base : Nat} {w : World} (hl : l.length ≤ 8) (hp : Ov.place l x < l.length) (hs : Ov.fileAt l (Ov.place l x) = s) (h : OwnsRows w base v l) (hc : w.cell? ⟨b, off, none⟩ = some v) (hb : b < w.heap.size) :
    Calls Tryz.prog 56 #[.pointer (some ⟨b, off, none⟩), .string x] w fun e w' => e = .returned (.tuple #[.string s, .bool true]) ∧ Below w.heap.size w w' := by
  have h1 : (Ov.dumpF l x).1 = s := by unfold Ov.dumpF; rw [if_pos hp]; exact hs
  have h2 : Ov.has l x = true := by unfold Ov.has; exact decide_eq_true hp
  have := oSget_calls l v x b off base w hl h hc hb
  rw [h1, h2] at this
  exact this
theorem get_gone {l : Ov.Files} {x : ByteArray} {v : Value} {b off base : Nat} {w : World} (hl : l.length ≤ 8) (hp : ¬ Ov.place l x < l.length) (h : OwnsRows w base v l) (hc : w.cell? ⟨b, off, none⟩ = some v) (hb : b < w.heap.size) :
    Calls Tryz.prog 56 #[.pointer (some ⟨b, off, none⟩), .string x] w fun e w' => e = .returned (.tuple #[.string ⟨#[]⟩, .bool false]) ∧ Below w.heap.size w w' := by
  have h1 : (Ov.dumpF l x).1 = ⟨#[]⟩ := by unfold Ov.dumpF; rw [if_neg hp]
  have h2 : Ov.has l x = false := by unfold Ov.has; exact decide_eq_false hp
  have := oSget_calls l v x b off base w hl h hc hb
  rw [h1, h2] at this
  exact this

open Go.MuLone in
set_option maxRecDepth 100000 in
set_option maxHeartbeats 1000000 in
theorem oCheck_calls (l : Ov.Files) (x : ByteArray) (b B : Nat) (r : Option Nat) (room : Nat) (s0 s1 s2 s3 : Addr) (w : World) (hl8 : l.length ≤ 8) (h : OvRep w b r room l) (hs : Sents w B s0 s1 s2 s3) (hB : B ≤ b) :
    Calls Tryz.prog 27 #[.pointer (some ⟨b, 0, none⟩), .string x] w fun e w' => e = .returned (.tuple #[.string (checkF l x).1, .int .i64 (checkF l x).2]) ∧ OvLeft w b r room l w' := by
  obtain ⟨v, h1, h2, h3, h4⟩ := id h
  have HR := hide h
  have c0 : w.cell? ⟨b, 0, none⟩ = some (.int .i32 0) := blk_cell h1 rfl
  have f0 := blk_frozen h1 0
  have hbl := blk_lt h1
  have HB := hide (blk_set_same (i := 0) h1 (.int .i32 1))
  have HO := hide (owns_set h2 h3 (a := ⟨b, 0, none⟩) (.int .i32 1))
  have HS := hide (hs.kept ((Below.refl B w).setCell (p := ⟨b, 0, none⟩) hB (.int .i32 1)))
  have hl4 := hs.l
  have hsz := hs.size
  clear h h1 h2 h3 h4 hs
  by_cases hp : Ov.place l x < l.length
  · obtain ⟨s, hse⟩ : ∃ s, Ov.fileAt l (Ov.place l x) = s := ⟨_, rfl⟩
    have HP := hide hp
    have HSE := hide hse
    by_cases him : Ov.isImage s
    · have HI := hide him
      have HD : Hid (checkF l x = (tally s, 0)) := by unfold checkF; rw [if_pos hp, hse, if_pos ((Ov.imageB_iff s).2 him)]; exact rfl
      obtain ⟨t, ht⟩ := lost_nat (s := s)
      obtain ⟨m, hm⟩ : ∃ m, Ov.many s = m := ⟨_, rfl⟩
      have HLT := hide ht
      have HM := hide hm
      clear hp hse him ht hm
      go_enter_defers Tryz.func27, Tryz.ntmps27
      go_wp2_with (first
        | (go_at_call 58; refine (otally_calls s g m t _ (unhide HI) (unhide HM) (unhide HLT) (blk_alloc (unhide HG) _)).mono ?_; rintro e w4 ⟨rfl, hb4⟩)
        | (go_at_call 57; refine (oparse_yes s _ _ _ (unhide HI) (unhide HS2).g3 (by have := (unhide HS2).l; have := (unhide HS2).size; omega)).mono ?_; rintro e w3 ⟨hb3, g, he, hg, hrow⟩; rw [unhide HM, unhide HLT] at he; rw [unhide HM] at hrow; have HG := hide hrow; subst he; clear hrow)
        | (go_at_call 56; refine (get_here hl8 (unhide HP) (unhide HSE) (unhide HO) (blk_cell (unhide HB) rfl) (by simpa using hbl)).mono ?_; rintro e w2 ⟨rfl, hb2⟩; have HS2 := hide ((unhide HS).keptAll hb2))
        | (go_at_call 43; refine (lock_free muLib ⟨b, 0, none⟩ _ c0 f0).mono ?_; rintro e w1 ⟨rfl, rfl⟩))
      have hb5 : Below (w.setCell ⟨b, 0, none⟩ (.int .i32 1)).heap.size (w.setCell ⟨b, 0, none⟩ (.int .i32 1)) w4 := ((hb2.trans (hb3.mono hb2.size)).alloc (Nat.le_trans hb2.size hb3.size) _).trans (hb4.mono (by have h5 := hb2.size; have h6 := hb3.size; simp at h5 h6 ⊢; omega))
      refine leaves_cons (f := 44) (args := #[.pointer (some ⟨b, 0, none⟩)]) (by simp) (by simp [go_sem]) ?_
      refine (unlock_deferred muLib ⟨b, 0, none⟩ .returning _ ?_ ?_).mono ?_
      · exact (hb5.cell (p := ⟨b, 0, none⟩) (by simpa using hbl)).trans (blk_cell (unhide HB) rfl)
      · exact (hb5.frozen (p := ⟨b, 0, none⟩) (by simpa using hbl)).trans (blk_frozen (unhide HB) 0)
      rintro e u' w'' ⟨rfl, rfl, rfl⟩
      refine ⟨_, results_tmp2 rfl _ _ _, ?_, OvLeft.quiet (unhide HR) hb5⟩
      rw [unhide HD]; rfl
    · have HI := hide him
      have HD : Hid (checkF l x = (⟨#[]⟩, 5)) := by unfold checkF; rw [if_pos hp, hse, if_neg (fun k => him ((Ov.imageB_iff s).1 k))]; exact rfl
      clear hp hse him
      go_enter_defers Tryz.func27, Tryz.ntmps27
      go_wp2_with (first
        | (go_at_call 47; refine (oerrnoOf_calls s0 s1 s2 s3 s3 5 B 0 none _ s3 _ .corrupt .bare ((unhide HS3).keptAll (below_alloc1 _ _))).mono ?_; rintro e w4 ⟨rfl, rfl⟩)
        | (go_at_call 57; refine (oparse_no s _ _ _ (unhide HI) (unhide HS2).g3 (by have := (unhide HS2).l; have := (unhide HS2).size; omega)).mono ?_; rintro e w3 ⟨hb3, rfl⟩; have HS3 := hide ((unhide HS2).keptAll hb3))
        | (go_at_call 56; refine (get_here hl8 (unhide HP) (unhide HSE) (unhide HO) (blk_cell (unhide HB) rfl) (by simpa using hbl)).mono ?_; rintro e w2 ⟨rfl, hb2⟩; have HS2 := hide ((unhide HS).keptAll hb2))
        | (go_at_call 43; refine (lock_free muLib ⟨b, 0, none⟩ _ c0 f0).mono ?_; rintro e w1 ⟨rfl, rfl⟩))
      have hb5 := (hb2.trans (hb3.mono hb2.size)).alloc (Nat.le_trans hb2.size hb3.size) (.cells #[.string ⟨#[]⟩, .slice none 0 0, .int .i64 0] 90)
      refine leaves_cons (f := 44) (args := #[.pointer (some ⟨b, 0, none⟩)]) (by simp) (by simp [go_sem]) ?_
      refine (unlock_deferred muLib ⟨b, 0, none⟩ .returning _ ?_ ?_).mono ?_
      · exact (hb5.cell (p := ⟨b, 0, none⟩) (by simpa using hbl)).trans (blk_cell (unhide HB) rfl)
      · exact (hb5.frozen (p := ⟨b, 0, none⟩) (by simpa using hbl)).trans (blk_frozen (unhide HB) 0)
      rintro e u' w'' ⟨rfl, rfl, rfl⟩
      refine ⟨_, results_tmp2 rfl _ _ _, ?_, OvLeft.quiet (unhide HR) hb5⟩
      rw [unhide HD]; rfl
  · have HP := hide hp
    have HD : Hid (checkF l x = (⟨#[]⟩, 4)) := by unfold checkF; rw [if_neg hp]; exact rfl
    clear hp
    go_enter_defers Tryz.func27, Tryz.ntmps27
    go_wp2_with (first | (go_at_call 56; refine (get_gone hl8 (unhide HP) (unhide HO) (blk_cell (unhide HB) rfl) (by simpa using hbl)).mono ?_; rintro e w2 ⟨rfl, hb2⟩) | (go_at_call 43; refine (lock_free muLib ⟨b, 0, none⟩ _ c0 f0).mono ?_; rintro e w1 ⟨rfl, rfl⟩))
    refine leaves_cons (f := 44) (args := #[.pointer (some ⟨b, 0, none⟩)]) (by simp) (by simp [go_sem]) ?_
    refine (unlock_deferred muLib ⟨b, 0, none⟩ .returning _ ?_ ?_).mono ?_
    · exact (hb2.cell (p := ⟨b, 0, none⟩) (by simpa using hbl)).trans (blk_cell (unhide HB) rfl)
    · exact (hb2.frozen (p := ⟨b, 0, none⟩) (by simpa using hbl)).trans (blk_frozen (unhide HB) 0)
    rintro e u' w'' ⟨rfl, rfl, rfl⟩
    refine ⟨_, results_tmp2 rfl _ _ _, ?_, OvLeft.quiet (unhide HR) hb2⟩
    rw [unhide HD]; rfl

end Go.Proofs.YtomiepknmmpflaaGreatDoor

