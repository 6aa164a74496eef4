/- The library's errors.Is over the program's errors: a fixed error, bare, in a fault, in passages above it. -/
import Derived.Test.YtomiepknmmpflaaGreatDoorCWParse
import Derived.Handy
import Derived.Deep.LoopGhost
import Derived.LaidEql
import Derived.Stop.Asserts
import Derived.RowKitTokens
namespace Go.Proofs.YtomiepknmmpflaaGreatDoor
open Go.RowKit Go.Joins Go.Extern.Stop Go.Stop Go.Extern

theorem Tryz.isTypeOf (v : Value) (w : World) : (Extern.ReflectliteType.typeOf #[.iface 293 v]).run Tryz.prog w = .ok (.iface 259 (.agg #[.pointer (some ⟨8, 293, none⟩)])) w := by kernel_rfl
theorem Tryz.isComparable (w : World) : ((Extern.ReflectliteType.method fun t => do Extern.Rtype.noPackHeld "Comparable" t; (fun a => Value.bool a.comparable) <$> typeInfo t) #[.agg #[.pointer (some ⟨8, 293, none⟩)]]).run Tryz.prog w = .ok (.bool true) w := by kernel_rfl
theorem Tryz.isComp : (Tryz.prog.info? 293).map (·.comparable) = some true := by kernel_rfl
theorem Tryz.isSize : (Tryz.prog.info? 312).map (·.size) = some 1 := by kernel_rfl
theorem Tryz.noIsE (v : Value) (xT : TypeId) (w : World) : (Instr.typeAssert (.iface 293 v) xT 271 true).run Tryz.prog w = .ok (.tuple #[.nilIface, .bool false]) w := run_typeAssert_lacksB Tryz.underlying271 (by kernel_rfl) (by kernel_rfl) v xT w
theorem Tryz.noUnwrapE (v : Value) (xT : TypeId) (w : World) : (Instr.typeAssert (.iface 293 v) xT 266 true).run Tryz.prog w = .ok (.tuple #[.nilIface, .bool false]) w := run_typeAssert_lacksB Tryz.underlying266 (by kernel_rfl) (by kernel_rfl) v xT w
theorem Tryz.noUnwrapsE (v : Value) (xT : TypeId) (w : World) : (Instr.typeAssert (.iface 293 v) xT 268 true).run Tryz.prog w = .ok (.tuple #[.nilIface, .bool false]) w := run_typeAssert_lacksB Tryz.underlying268 (by kernel_rfl) (by kernel_rfl) v xT w
theorem Tryz.noIsF (v : Value) (xT : TypeId) (w : World) : (Instr.typeAssert (.iface 134 v) xT 271 true).run Tryz.prog w = .ok (.tuple #[.nilIface, .bool false]) w := run_typeAssert_lacksB Tryz.underlying271 (by kernel_rfl) (by kernel_rfl) v xT w
theorem Tryz.noIsP (v : Value) (xT : TypeId) (w : World) : (Instr.typeAssert (.iface 199 v) xT 271 true).run Tryz.prog w = .ok (.tuple #[.nilIface, .bool false]) w := run_typeAssert_lacksB Tryz.underlying271 (by kernel_rfl) (by kernel_rfl) v xT w
theorem Tryz.hasUnwrapF (v : Value) (xT : TypeId) (w : World) : (Instr.typeAssert (.iface 134 v) xT 266 true).run Tryz.prog w = .ok (.tuple #[.iface 134 v, .bool true]) w := run_typeAssert_hasB Tryz.underlying266 (by kernel_rfl) v xT w
theorem Tryz.hasUnwrapP (v : Value) (xT : TypeId) (w : World) : (Instr.typeAssert (.iface 199 v) xT 266 true).run Tryz.prog w = .ok (.tuple #[.iface 199 v, .bool true]) w := run_typeAssert_hasB Tryz.underlying266 (by kernel_rfl) v xT w

/-- An error of the program's make over the fixed error at b: its dynamic type, its pointer's block, what stands behind it; d: how deep. -/
def Er (w : World) (b : Addr) : Nat → Option ByteArray → TypeId → Addr → Prop
  | 0, wh, t, a => none = wh ∧ 293 = t ∧ b = a
  | 1, wh, t, a => ∃ f x, some x = wh ∧ 134 = t ∧ (⟨f, 0, none⟩ : Addr) = a ∧ w.heap[f]? = some (.cells #[.string x, .iface 293 (.pointer (some b))] 138 (0, 0))
  | d + 2, wh, t, a => ∃ p nm t' a', Er w b (d + 1) wh t' a' ∧ 199 = t ∧ (⟨p, 0, none⟩ : Addr) = a ∧ w.heap[p]? = some (.cells #[.string nm, .iface t' (.pointer (some a'))] 201 (0, 0))
theorem Er.bare {w : World} {b : Addr} : Er w b 0 none 293 b := ⟨rfl, rfl, rfl⟩
theorem Er.fault {w : World} {b : Addr} (f : Nat) (x : ByteArray) (h : w.heap[f]? = some (.cells #[.string x, .iface 293 (.pointer (some b))] 138 (0, 0))) : Er w b 1 (some x) 134 ⟨f, 0, none⟩ := ⟨f, x, rfl, rfl, rfl, h⟩
theorem Er.passage {w : World} {b : Addr} (p d : Nat) (nm : ByteArray) (wh : Option ByteArray) (t : TypeId) (a : Addr) (h : Er w b (d + 1) wh t a) (hp : w.heap[p]? = some (.cells #[.string nm, .iface t (.pointer (some a))] 201 (0, 0))) : Er w b (d + 2) wh 199 ⟨p, 0, none⟩ := ⟨p, nm, t, a, h, rfl, rfl, hp⟩
theorem Er.parts {w : World} {b : Addr} {d : Nat} {wh : Option ByteArray} {t : TypeId} {a : Addr} (h : Er w b d wh t a) :
    (0 = d ∧ none = wh ∧ 293 = t ∧ b = a) ∨ (∃ f x, 1 = d ∧ some x = wh ∧ 134 = t ∧ (⟨f, 0, none⟩ : Addr) = a ∧ w.heap[f]? = some (.cells #[.string x, .iface 293 (.pointer (some b))] 138 (0, 0))) ∨
    (∃ p n nm t' a', n + 2 = d ∧ Er w b (n + 1) wh t' a' ∧ 199 = t ∧ (⟨p, 0, none⟩ : Addr) = a ∧ w.heap[p]? = some (.cells #[.string nm, .iface t' (.pointer (some a'))] 201 (0, 0))) := by
  match d, h with
  | 0, h => exact Or.inl ⟨rfl, h⟩
  | 1, ⟨f, x, h⟩ => exact Or.inr (Or.inl ⟨f, x, rfl, h⟩)
  | n + 2, ⟨p, nm, t', a', h⟩ => exact Or.inr (Or.inr ⟨p, n, nm, t', a', rfl, h⟩)
theorem Er.kept {w w' : World} {b : Addr} {d : Nat} {wh : Option ByteArray} {t : TypeId} {a : Addr} (h : Er w b d wh t a) (hb : Below w.heap.size w w') : Er w' b d wh t a := by
  induction d generalizing t a with
  | zero => exact h
  | succ d ih =>
    rcases h.parts with ⟨e, _⟩ | ⟨f, x, e, rfl, rfl, rfl, hf⟩ | ⟨p, n, nm, t', a', e, he, rfl, rfl, hp⟩
    · omega
    · obtain rfl : d = 0 := by omega
      exact .fault f x (by rw [hb.block f (blk_lt hf)]; exact hf)
    · obtain rfl : d = n + 1 := by omega
      exact .passage p n nm wh t' a' (ih he) (by rw [hb.block p (blk_lt hp)]; exact hp)

set_option maxRecDepth 100000 in
set_option maxHeartbeats 2000000 in
theorem is_calls (b c : Addr) (d : Nat) (wh : Option ByteArray) (t : TypeId) (a : Addr) (w : World) (he : Er w b d wh t a) (cb cc : Array Value) (tb tc : TypeId) (hb : w.heap[b.block]? = some (.cells cb tb (0, 0))) (hc : w.heap[c.block]? = some (.cells cc tc (0, 0))) :
    Calls Tryz.prog 83 #[.iface t (.pointer (some a)), .iface 293 (.pointer (some c))] w fun e w' => e = .returned (.bool (decide (b = c))) ∧ w' = w := by
  obtain ⟨i, hi, hcmp⟩ := Option.map_eq_some_iff.1 Tryz.isComp
  obtain ⟨j, hj, hjs⟩ := Option.map_eq_some_iff.1 Tryz.isSize
  have h8 := @run_callFunc_extern Tryz.prog 137 _ Extern.ReflectliteType.typeOf Tryz.func137 (by kernel_rfl) (by kernel_rfl) (by kernel_rfl) (by kernel_rfl)
  have h32 := @run_callFunc_extern Tryz.prog 228 _ (Extern.ReflectliteType.method fun t => do Extern.Rtype.noPackHeld "Comparable" t; pure (.bool (← typeInfo t).comparable)) Tryz.func228 (by kernel_rfl) (by kernel_rfl) (by kernel_rfl) (by kernel_rfl)
  have tT := Tryz.isTypeOf
  have cT := Tryz.isComparable
  have HE := hide he
  have HB := hide hb
  have HC := hide hc
  clear he hb hc
  go_enter Tryz.func83, Tryz.ntmps83
  go_wp2
  go_loopg [0] d (fun g v wr => w = wr ∧ ∃ wh t a, v = .iface t (.pointer (some a)) ∧ Er w b g wh t a)
  case atStart => exact ⟨rfl, wh, t, a, rfl, unhide HE⟩
  case round =>
    obtain ⟨rfl, wh, t, a, rfl, he⟩ := hrel
    have nE := Tryz.noIsE
    have uE := Tryz.noUnwrapE
    have vE := Tryz.noUnwrapsE
    have nF := Tryz.noIsF
    have uF := Tryz.hasUnwrapF
    have nP := Tryz.noIsP
    have uP := Tryz.hasUnwrapP
    rcases he.parts with ⟨rfl, rfl, rfl, rfl⟩ | ⟨f, x, rfl, rfl, rfl, rfl, hf⟩ | ⟨p, d, nm, t, a, rfl, he2, rfl, rfl, hp⟩
    · clear he
      by_cases hbc : b = c
      · subst hbc
        have hd : decide (b = b) = true := decide_eq_true rfl
        have heq := run_eql_iface_ptr_same (P := Tryz.prog) w b Tryz.underlying80 Tryz.underlying293 hi hcmp hj
        go_wp2
        go_ret
        exact ⟨rfl, rfl⟩
      · have Hd : Hid (decide (b = c) = false) := decide_eq_false hbc
        have heq := run_eql_iface_ptr_other (P := Tryz.prog) w Tryz.underlying80 Tryz.underlying293 hi hcmp hj (by rw [hjs]; decide) hbc (unhide HB) (unhide HC)
        clear hbc
        go_wp2
        go_ret
        exact ⟨by rw [unhide Hd]; rfl, rfl⟩
    · clear he
      have hty := run_eql_iface_types (P := Tryz.prog) 134 293 (.pointer (some ⟨f, 0, none⟩)) (.pointer (some c)) Tryz.underlying80 (by decide) w
      have c1 : w.cell? ⟨f, 1, none⟩ = some (.iface 293 (.pointer (some b))) := blk_cell hf rfl
      clear hf
      go_wp2
      go_roundg 0
      case measure => omega
      case rel => exact ⟨rfl, _, _, _, rfl, .bare⟩
    · clear he
      have he := he2
      clear he2
      have hty := run_eql_iface_types (P := Tryz.prog) 199 293 (.pointer (some ⟨p, 0, none⟩)) (.pointer (some c)) Tryz.underlying80 (by decide) w
      have c1 : w.cell? ⟨p, 1, none⟩ = some (.iface t (.pointer (some a))) := blk_cell hp rfl
      have HEr := hide he
      clear hp he
      go_wp2
      go_roundg (d + 1)
      case measure => omega
      case rel => exact ⟨rfl, _, _, _, rfl, unhide HEr⟩

end Go.Proofs.YtomiepknmmpflaaGreatDoor
