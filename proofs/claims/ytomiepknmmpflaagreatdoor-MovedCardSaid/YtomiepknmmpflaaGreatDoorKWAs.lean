/- The library's errors.As over the program's errors, at a target of type **fault: the fault's own pointer is found, or none. -/
import Derived.Test.YtomiepknmmpflaaGreatDoorKWOCheck
import Derived.Test.YtomiepknmmpflaaGreatDoorKWONew
namespace Go.Proofs.YtomiepknmmpflaaGreatDoor
open Go.RowKit Go.Joins Go.Extern.Stop Go.Stop Go.Extern

theorem Tryz.asValueOf (t : Addr) (w : World) : (ReflectliteValue.unpack (.iface 136 (.pointer (some t)))).run Tryz.prog w
    = .ok (.agg #[.pointer (some ⟨8, 136, none⟩), .pointer (some ⟨w.heap.size, 0, none⟩), .int .u64 150]) (w.alloc (.cells #[.pointer (some t)] 136)) := by kernel_rfl
theorem Tryz.asType (a : Addr) (w : World) : (ReflectliteValue.methodAny (ReflectliteValue.valueError "reflectlite.Value.Type" 0) (fun t _ _ _ => ReflectliteType.toType t) #[.agg #[.pointer (some ⟨8, 136, none⟩), .pointer (some a), .int .u64 150]]).run Tryz.prog w
    = .ok (.iface 259 (.agg #[.pointer (some ⟨8, 136, none⟩)])) w := by kernel_rfl
theorem Tryz.asKind1 (w : World) : ((ReflectliteType.abiMethod fun t => (fun a : Nat => Value.int IntKind.u8 (a : Int)) <$> Rtype.kind t) #[.pointer (some ⟨8, 136, none⟩)]).run Tryz.prog w = .ok (.int .u8 22) w := by kernel_rfl
theorem Tryz.asKind2 (w : World) : ((ReflectliteType.abiMethod fun t => (fun a : Nat => Value.int IntKind.u8 (a : Int)) <$> Rtype.kind t) #[.pointer (some ⟨8, 134, none⟩)]).run Tryz.prog w = .ok (.int .u8 22) w := by kernel_rfl
theorem set_args {motive : Array Value → Sort _} (v x : Value) (h1 : (v x : Value) → motive #[v, x]) (h2 : (a : Array Value) → motive a) : ReflectliteValue.set.match_3 motive #[v, x] h1 h2 = h1 v x := rfl
theorem method_args {motive : Array Value → Sort _} (v : Value) (h1 : (v : Value) → motive #[v]) (h2 : (a : Array Value) → motive a) : ReflectliteValue.method.match_2 motive #[v] h1 h2 = h1 v := rfl
theorem Tryz.asParts (a : Addr) (w : World) : (ReflectliteValue.parts (.agg #[.pointer (some ⟨8, 136, none⟩), .pointer (some a), .int .u64 150])).run Tryz.prog w = .ok (some (136, a, 150)) w := by kernel_rfl
theorem Tryz.asIsNil (a p : Addr) (W : World) (ha : W.cell? a = some (.pointer (some p))) :
    (ReflectliteValue.method (ReflectliteValue.valueError "reflectlite.Value.IsNil" 0) ReflectliteValue.isNil #[.agg #[.pointer (some ⟨8, 136, none⟩), .pointer (some a), .int .u64 150]]).run Tryz.prog W = .ok (.bool false) W := by
  delta ReflectliteValue.method
  rw [method_args]
  simp only [Sem.run_bind, Tryz.asParts, Result.andThen]
  simp [ReflectliteValue.isNil, loadVar, isAgg, underlying, Tryz.underlying136, ha, Result.andThen]
theorem Tryz.asElem (w : World) : (ReflectliteType.method ReflectliteType.elem #[.agg #[.pointer (some ⟨8, 136, none⟩)]]).run Tryz.prog w = .ok (.iface 259 (.agg #[.pointer (some ⟨8, 134, none⟩)])) w := by kernel_rfl
theorem Tryz.asImplements (w : World) : (ReflectliteType.relation "Implements" ReflectliteType.implements_ #[.agg #[.pointer (some ⟨8, 134, none⟩)], .iface 259 (.agg #[.pointer (some ⟨8, 80, none⟩)])]).run Tryz.prog w = .ok (.bool true) w := by kernel_rfl
theorem Tryz.asTypeOfF (v : Value) (w : World) : (ReflectliteType.typeOf #[.iface 134 v]).run Tryz.prog w = .ok (.iface 259 (.agg #[.pointer (some ⟨8, 134, none⟩)])) w := by kernel_rfl
theorem Tryz.asTypeOfP (v : Value) (w : World) : (ReflectliteType.typeOf #[.iface 199 v]).run Tryz.prog w = .ok (.iface 259 (.agg #[.pointer (some ⟨8, 199, none⟩)])) w := by kernel_rfl
theorem Tryz.asAssignF (w : World) : (ReflectliteType.relation "AssignableTo" ReflectliteType.assignableTo #[.agg #[.pointer (some ⟨8, 134, none⟩)], .iface 259 (.agg #[.pointer (some ⟨8, 134, none⟩)])]).run Tryz.prog w = .ok (.bool true) w := by kernel_rfl
theorem Tryz.asAssignP (w : World) : (ReflectliteType.relation "AssignableTo" ReflectliteType.assignableTo #[.agg #[.pointer (some ⟨8, 199, none⟩)], .iface 259 (.agg #[.pointer (some ⟨8, 134, none⟩)])]).run Tryz.prog w = .ok (.bool false) w := by kernel_rfl
theorem Tryz.asAssignE (w : World) : (ReflectliteType.relation "AssignableTo" ReflectliteType.assignableTo #[.agg #[.pointer (some ⟨8, 293, none⟩)], .iface 259 (.agg #[.pointer (some ⟨8, 134, none⟩)])]).run Tryz.prog w = .ok (.bool false) w := by kernel_rfl
theorem Tryz.asValueOfF (e : Addr) (w : World) : (ReflectliteValue.unpack (.iface 134 (.pointer (some e)))).run Tryz.prog w
    = .ok (.agg #[.pointer (some ⟨8, 134, none⟩), .pointer (some ⟨w.heap.size, 0, none⟩), .int .u64 150]) (w.alloc (.cells #[.pointer (some e)] 134)) := by kernel_rfl
theorem Tryz.asElemOf (w : World) : (Rtype.elem? 136).run Tryz.prog w = .ok (some 134) w := by kernel_rfl
theorem Tryz.asMk (p : Addr) (w : World) : (ReflectliteValue.mk 134 p ReflectliteValue.flagAddr).run Tryz.prog w = .ok (.agg #[.pointer (some ⟨8, 134, none⟩), .pointer (some p), .int .u64 406]) w := by kernel_rfl
theorem Tryz.asElemV (a p : Addr) (W : World) (ha : W.cell? a = some (.pointer (some p))) :
    (ReflectliteValue.method (ReflectliteValue.valueError "reflectlite.Value.Elem" 0) ReflectliteValue.elem #[.agg #[.pointer (some ⟨8, 136, none⟩), .pointer (some a), .int .u64 150]]).run Tryz.prog W
      = .ok (.agg #[.pointer (some ⟨8, 134, none⟩), .pointer (some p), .int .u64 406]) W := by
  delta ReflectliteValue.method
  rw [method_args]
  simp only [Sem.run_bind, Tryz.asParts, Result.andThen]
  simp [ReflectliteValue.elem, loadVar, isAgg, underlying, Tryz.underlying136, ha, Result.andThen, Tryz.asElemOf, Tryz.asMk]
theorem Tryz.asParts2 (a : Addr) (w : World) : (ReflectliteValue.parts (.agg #[.pointer (some ⟨8, 134, none⟩), .pointer (some a), .int .u64 406])).run Tryz.prog w = .ok (some (134, a, 406)) w := by kernel_rfl
theorem Tryz.asParts3 (a : Addr) (w : World) : (ReflectliteValue.parts (.agg #[.pointer (some ⟨8, 134, none⟩), .pointer (some a), .int .u64 150])).run Tryz.prog w = .ok (some (134, a, 150)) w := by kernel_rfl
theorem Tryz.asDirect (w : World) : (Rtype.directlyAssignable 134 134).run Tryz.prog w = .ok true w := by kernel_rfl
theorem Tryz.asSet (ta b e : Addr) (old : Value) (W : World) (hb : W.cell? b = some (.pointer (some e))) (ht : W.cell? ta = some old) (hf : W.frozen? ta = false) :
    (ReflectliteValue.set #[.agg #[.pointer (some ⟨8, 134, none⟩), .pointer (some ta), .int .u64 406], .agg #[.pointer (some ⟨8, 134, none⟩), .pointer (some b), .int .u64 150]]).run Tryz.prog W
      = .ok (.tuple #[]) (W.setCell ta (.pointer (some e))) := by
  delta ReflectliteValue.set
  rw [set_args]
  simp only [Sem.run_bind, Tryz.asParts2, Tryz.asParts3, Result.andThen]
  simp [ReflectliteValue.flagAddr, loadVar, isAgg, underlying, Tryz.underlying134, hb, Result.andThen, Tryz.asDirect, storeVar, Value.cells, storeCells, Addr.add]
  rw [run_store Tryz.prog W ta _ _ (by rfl)]
  simp [ht, hf]
theorem Tryz.noAsE (v : Value) (xT : TypeId) (w : World) : (Instr.typeAssert (.iface 293 v) xT 263 true).run Tryz.prog w = .ok (.tuple #[.nilIface, .bool false]) w := run_typeAssert_lacksB Tryz.underlying263 (by kernel_rfl) (by kernel_rfl) v xT w
theorem Tryz.noAsP (v : Value) (xT : TypeId) (w : World) : (Instr.typeAssert (.iface 199 v) xT 263 true).run Tryz.prog w = .ok (.tuple #[.nilIface, .bool false]) w := run_typeAssert_lacksB Tryz.underlying263 (by kernel_rfl) (by kernel_rfl) v xT w

theorem cell_lt {w : World} {a : Addr} {v : Value} (h : w.cell? a = some v) : a.block < w.heap.size := by
  rcases Nat.lt_or_ge a.block w.heap.size with k | k
  · exact k
  · simp [World.cell?, Array.getElem?_eq_none k] at h

theorem fault_ne {w : World} {f T : Nat} {c d : Array Value} (hf : w.heap[f]? = some (.cells c 138 (0, 0))) (hT : w.heap[T]? = some (.cells d 134 (0, 0))) : f ≠ T := fun e => by
  subst e
  rw [hf] at hT
  simp at hT

def Found (w : World) (T : Nat) (wh : ByteArray) (w' : World) : Prop :=
  ∃ f, w'.cell? ⟨T, 0, none⟩ = some (.pointer (some ⟨f, 0, none⟩)) ∧ w'.cell? ⟨f, 0, none⟩ = some (.string wh) ∧ Below T w w'

set_option maxRecDepth 100000 in
set_option maxHeartbeats 4000000 in
theorem as_found (b : Addr) (d : Nat) (wh : ByteArray) (t : TypeId) (a : Addr) (T vb : Nat) (old : Value) (w : World) (he : Er w b d (some wh) t a) (hT : w.heap[T]? = some (.cells #[old] 134 (0, 0))) (hv : w.cell? ⟨vb, 0, none⟩ = some (.pointer (some ⟨T, 0, none⟩))) :
    Calls Tryz.prog 136 #[.iface t (.pointer (some a)), .iface 136 (.pointer (some ⟨T, 0, none⟩)), .agg #[.pointer (some ⟨8, 136, none⟩), .pointer (some ⟨vb, 0, none⟩), .int .u64 150], .iface 259 (.agg #[.pointer (some ⟨8, 134, none⟩)])] w
      fun e w' => e = .returned (.bool true) ∧ Found w T wh w' := by
  have hTypeOf := @run_callFunc_extern Tryz.prog 137 _ ReflectliteType.typeOf Tryz.func137 (by kernel_rfl) (by kernel_rfl) (by kernel_rfl) (by kernel_rfl)
  have hAssign := @run_callFunc_extern Tryz.prog 227 _ (ReflectliteType.relation "AssignableTo" ReflectliteType.assignableTo) Tryz.func227 (by kernel_rfl) (by kernel_rfl) (by kernel_rfl) (by kernel_rfl)
  have hElem := @run_callFunc_extern Tryz.prog 178 _ (ReflectliteValue.method (ReflectliteValue.valueError "reflectlite.Value.Elem" 0) ReflectliteValue.elem) Tryz.func178 (by kernel_rfl) (by kernel_rfl) (by kernel_rfl) (by kernel_rfl)
  have hSet := @run_callFunc_extern Tryz.prog 179 _ ReflectliteValue.set Tryz.func179 (by kernel_rfl) (by kernel_rfl) (by kernel_rfl) (by kernel_rfl)
  have hValueOf := @run_callFunc_extern Tryz.prog 133 _ (fun args => ReflectliteValue.unpack (args.getD 0 (.tuple #[]))) Tryz.func133 (by kernel_rfl) (by kernel_rfl) (by kernel_rfl) (by kernel_rfl)
  have tF := Tryz.asTypeOfF
  have tP := Tryz.asTypeOfP
  have aF := Tryz.asAssignF
  have aP := Tryz.asAssignP
  have nP := Tryz.noAsP
  have uP := Tryz.hasUnwrapP
  have vF := Tryz.asValueOfF
  have HE := hide he
  have HT := hide hT
  have HV := hide hv
  clear he hT hv
  go_enter Tryz.func136, Tryz.ntmps136
  go_wp2
  go_loopg [0] d (fun g v wr => wr = w.alloc (.cells #[.pointer (some ⟨8, 136, none⟩), .pointer (some ⟨vb, 0, none⟩), .int .u64 150] 204) ∧ ∃ t a, v = .iface t (.pointer (some a)) ∧ Er w b g (some wh) t a)
  case atStart => exact ⟨rfl, t, a, rfl, unhide HE⟩
  case round =>
    obtain ⟨rfl, t, a, rfl, he⟩ := hrel
    have hvl : vb < w.heap.size := cell_lt (unhide HV)
    have htl : T < w.heap.size := blk_lt (unhide HT)
    rcases he.parts with ⟨_, e, _⟩ | ⟨f, wh', rfl, e, rfl, rfl, hf⟩ | ⟨p, d, nm, t, a, rfl, he2, rfl, rfl, hp⟩
    · cases e
    · obtain rfl : wh' = wh := by simpa using e
      clear e he
      have el := Tryz.asElemV ⟨vb, 0, none⟩ ⟨T, 0, none⟩ (w.alloc (.cells #[.pointer (some ⟨8, 136, none⟩), .pointer (some ⟨vb, 0, none⟩), .int .u64 150] 204)) ((World.cell?_alloc_past _ _ _ hvl).trans (unhide HV))
      have HT2 := hide (blk_alloc (blk_alloc (unhide HT) (.cells #[.pointer (some ⟨8, 136, none⟩), .pointer (some ⟨vb, 0, none⟩), .int .u64 150] 204)) (.cells #[.pointer (some ⟨f, 0, none⟩)] 134))
      have st := Tryz.asSet ⟨T, 0, none⟩ ⟨w.heap.size + 1, 0, none⟩ ⟨f, 0, none⟩ old ((w.alloc (.cells #[.pointer (some ⟨8, 136, none⟩), .pointer (some ⟨vb, 0, none⟩), .int .u64 150] 204)).alloc (.cells #[.pointer (some ⟨f, 0, none⟩)] 134)) (by rw [World.cell?_alloc_at _ _ _ _ (by simp)]; rfl) (blk_cell (unhide HT2) rfl) (blk_frozen (unhide HT2) 0)
      have HF2 := hide hf
      clear hf
      go_wp2
      go_ret
      exact ⟨rfl, f, blk_cell (blk_alloc (blk_alloc (blk_set_same (i := 0) (unhide HT) _) _) _) rfl, blk_cell (blk_alloc (blk_alloc (blk_set_other (unhide HF2) (a := ⟨T, 0, none⟩) (fault_ne (unhide HF2) (unhide HT)) _) _) _) rfl, (((Below.refl T w).setCell (p := ⟨T, 0, none⟩) (Nat.le_refl _) _).alloc (by simp; omega) _).alloc (by simp; omega) _⟩
    · clear he
      have he := he2
      clear he2
      have c1 : (w.alloc (.cells #[.pointer (some ⟨8, 136, none⟩), .pointer (some ⟨vb, 0, none⟩), .int .u64 150] 204)).cell? ⟨p, 1, none⟩ = some (.iface t (.pointer (some a))) := (World.cell?_alloc_past _ _ _ (blk_lt hp)).trans (blk_cell hp rfl)
      have HEr := hide he
      clear hp he
      go_wp2
      go_roundg (d + 1)
      case measure => omega
      case rel => exact ⟨rfl, _, _, rfl, unhide HEr⟩

set_option maxRecDepth 100000 in
set_option maxHeartbeats 4000000 in
theorem as_bare (b : Addr) (T vb : Nat) (w : World) :
    Calls Tryz.prog 136 #[.iface 293 (.pointer (some b)), .iface 136 (.pointer (some ⟨T, 0, none⟩)), .agg #[.pointer (some ⟨8, 136, none⟩), .pointer (some ⟨vb, 0, none⟩), .int .u64 150], .iface 259 (.agg #[.pointer (some ⟨8, 134, none⟩)])] w
      fun e w' => e = .returned (.bool false) ∧ Below w.heap.size w w' := by
  have hTypeOf := @run_callFunc_extern Tryz.prog 137 _ ReflectliteType.typeOf Tryz.func137 (by kernel_rfl) (by kernel_rfl) (by kernel_rfl) (by kernel_rfl)
  have hAssign := @run_callFunc_extern Tryz.prog 227 _ (ReflectliteType.relation "AssignableTo" ReflectliteType.assignableTo) Tryz.func227 (by kernel_rfl) (by kernel_rfl) (by kernel_rfl) (by kernel_rfl)
  have tE := Tryz.isTypeOf
  have aE := Tryz.asAssignE
  have nE := Tryz.noAsE
  have uE := Tryz.noUnwrapE
  have vE := Tryz.noUnwrapsE
  go_enter Tryz.func136, Tryz.ntmps136
  go_wp2
  refine wp_loop_rounds 1 ?_
  rw [rounds_succ]
  go_wp2
  go_ret
  exact ⟨rfl, below_alloc1 w _⟩

set_option maxRecDepth 100000 in
set_option maxHeartbeats 4000000 in
theorem As_found (b : Addr) (d : Nat) (wh : ByteArray) (t : TypeId) (a : Addr) (T : Nat) (old : Value) (w : World) (he : Er w b d (some wh) t a) (hT : w.heap[T]? = some (.cells #[old] 134 (0, 0))) (hg : w.cell? ⟨4, 0, none⟩ = some (.iface 259 (.agg #[.pointer (some ⟨8, 80, none⟩)]))) :
    Calls Tryz.prog 82 #[.iface t (.pointer (some a)), .iface 136 (.pointer (some ⟨T, 0, none⟩))] w fun e w' => e = .returned (.bool true) ∧ Found w T wh w' := by
  have hType := @run_callFunc_extern Tryz.prog 134 _ (ReflectliteValue.methodAny (ReflectliteValue.valueError "reflectlite.Value.Type" 0) (fun t _ _ _ => ReflectliteType.toType t)) Tryz.func134 (by kernel_rfl) (by kernel_rfl) (by kernel_rfl) (by kernel_rfl)
  have hIsNil := @run_callFunc_extern Tryz.prog 135 _ (ReflectliteValue.method (ReflectliteValue.valueError "reflectlite.Value.IsNil" 0) ReflectliteValue.isNil) Tryz.func135 (by kernel_rfl) (by kernel_rfl) (by kernel_rfl) (by kernel_rfl)
  have hKind := @run_callFunc_extern Tryz.prog 211 _ (ReflectliteType.abiMethod fun t => do pure (.int .u8 (← Rtype.kind t))) Tryz.func211 (by kernel_rfl) (by kernel_rfl) (by kernel_rfl) (by kernel_rfl)
  have hElem := @run_callFunc_extern Tryz.prog 229 _ (ReflectliteType.method ReflectliteType.elem) Tryz.func229 (by kernel_rfl) (by kernel_rfl) (by kernel_rfl) (by kernel_rfl)
  have hImp := @run_callFunc_extern Tryz.prog 230 _ (ReflectliteType.relation "Implements" ReflectliteType.implements_) Tryz.func230 (by kernel_rfl) (by kernel_rfl) (by kernel_rfl) (by kernel_rfl)
  have hValueOf := @run_callFunc_extern Tryz.prog 133 _ (fun args => ReflectliteValue.unpack (args.getD 0 (.tuple #[]))) Tryz.func133 (by kernel_rfl) (by kernel_rfl) (by kernel_rfl) (by kernel_rfl)
  have v1 := Tryz.asValueOf
  have t1 := Tryz.asType
  have k1 := Tryz.asKind1
  have k2 := Tryz.asKind2
  have e1 := Tryz.asElem
  have i1 := Tryz.asImplements
  have n8 := Tryz.asIsNil ⟨w.heap.size, 0, none⟩ ⟨T, 0, none⟩ ((w.alloc (.cells #[.pointer (some ⟨T, 0, none⟩)] 136)).alloc (.cells #[.pointer (some ⟨8, 136, none⟩), .pointer (some ⟨w.heap.size, 0, none⟩), .int .u64 150] 204)) (by simp)
  have hlt := cell_lt hg
  have hg2 : ((w.alloc (.cells #[.pointer (some ⟨T, 0, none⟩)] 136)).alloc (.cells #[.pointer (some ⟨8, 136, none⟩), .pointer (some ⟨w.heap.size, 0, none⟩), .int .u64 150] 204)).cell? ⟨4, 0, none⟩ = some (.iface 259 (.agg #[.pointer (some ⟨8, 80, none⟩)])) := by
    rw [World.cell?_alloc_lt _ _ ⟨4, 0, none⟩ (by simp; exact Nat.lt_succ_of_lt hlt), World.cell?_alloc_lt _ _ ⟨4, 0, none⟩ hlt]; exact hg
  have HE := hide he
  have HT := hide hT
  have hTl := blk_lt hT
  clear he hT hg
  have HV : Hid (((w.alloc (.cells #[.pointer (some ⟨T, 0, none⟩)] 136)).alloc (.cells #[.pointer (some ⟨8, 136, none⟩), .pointer (some ⟨w.heap.size, 0, none⟩), .int .u64 150] 204)).cell? ⟨w.heap.size, 0, none⟩ = some (.pointer (some ⟨T, 0, none⟩))) := by
    refine (World.cell?_alloc_past _ _ _ (by simp)).trans ?_
    exact box_at
  go_enter Tryz.func82, Tryz.ntmps82
  go_wp2_with (go_at_call 136; refine (as_found b d wh t a T w.heap.size old _ (((unhide HE).kept (below_alloc1 w _)).kept (below_alloc1 _ _)) (blk_alloc (blk_alloc (unhide HT) _) _) (unhide HV)).mono ?_; rintro e w1 ⟨rfl, hfo⟩)
  go_ret
  obtain ⟨f, h1, h2, h3⟩ := hfo
  exact ⟨rfl, f, h1, h2, (((Below.refl T w).alloc (by omega) _).alloc (by simp; omega) _).trans h3⟩

set_option maxRecDepth 100000 in
set_option maxHeartbeats 4000000 in
theorem As_bare (b : Addr) (T : Nat) (w : World) (hg : w.cell? ⟨4, 0, none⟩ = some (.iface 259 (.agg #[.pointer (some ⟨8, 80, none⟩)]))) :
    Calls Tryz.prog 82 #[.iface 293 (.pointer (some b)), .iface 136 (.pointer (some ⟨T, 0, none⟩))] w fun e w' => e = .returned (.bool false) ∧ Below w.heap.size w w' := by
  have hType := @run_callFunc_extern Tryz.prog 134 _ (ReflectliteValue.methodAny (ReflectliteValue.valueError "reflectlite.Value.Type" 0) (fun t _ _ _ => ReflectliteType.toType t)) Tryz.func134 (by kernel_rfl) (by kernel_rfl) (by kernel_rfl) (by kernel_rfl)
  have hIsNil := @run_callFunc_extern Tryz.prog 135 _ (ReflectliteValue.method (ReflectliteValue.valueError "reflectlite.Value.IsNil" 0) ReflectliteValue.isNil) Tryz.func135 (by kernel_rfl) (by kernel_rfl) (by kernel_rfl) (by kernel_rfl)
  have hKind := @run_callFunc_extern Tryz.prog 211 _ (ReflectliteType.abiMethod fun t => do pure (.int .u8 (← Rtype.kind t))) Tryz.func211 (by kernel_rfl) (by kernel_rfl) (by kernel_rfl) (by kernel_rfl)
  have hElem := @run_callFunc_extern Tryz.prog 229 _ (ReflectliteType.method ReflectliteType.elem) Tryz.func229 (by kernel_rfl) (by kernel_rfl) (by kernel_rfl) (by kernel_rfl)
  have hImp := @run_callFunc_extern Tryz.prog 230 _ (ReflectliteType.relation "Implements" ReflectliteType.implements_) Tryz.func230 (by kernel_rfl) (by kernel_rfl) (by kernel_rfl) (by kernel_rfl)
  have hValueOf := @run_callFunc_extern Tryz.prog 133 _ (fun args => ReflectliteValue.unpack (args.getD 0 (.tuple #[]))) Tryz.func133 (by kernel_rfl) (by kernel_rfl) (by kernel_rfl) (by kernel_rfl)
  have v1 := Tryz.asValueOf
  have t1 := Tryz.asType
  have k1 := Tryz.asKind1
  have k2 := Tryz.asKind2
  have e1 := Tryz.asElem
  have i1 := Tryz.asImplements
  have n8 := Tryz.asIsNil ⟨w.heap.size, 0, none⟩ ⟨T, 0, none⟩ ((w.alloc (.cells #[.pointer (some ⟨T, 0, none⟩)] 136)).alloc (.cells #[.pointer (some ⟨8, 136, none⟩), .pointer (some ⟨w.heap.size, 0, none⟩), .int .u64 150] 204)) (by simp)
  have hlt := cell_lt hg
  have hg2 : ((w.alloc (.cells #[.pointer (some ⟨T, 0, none⟩)] 136)).alloc (.cells #[.pointer (some ⟨8, 136, none⟩), .pointer (some ⟨w.heap.size, 0, none⟩), .int .u64 150] 204)).cell? ⟨4, 0, none⟩ = some (.iface 259 (.agg #[.pointer (some ⟨8, 80, none⟩)])) := by
    rw [World.cell?_alloc_lt _ _ ⟨4, 0, none⟩ (by simp; exact Nat.lt_succ_of_lt hlt), World.cell?_alloc_lt _ _ ⟨4, 0, none⟩ hlt]; exact hg
  clear hg
  go_enter Tryz.func82, Tryz.ntmps82
  go_wp2_with (go_at_call 136; refine (as_bare b T w.heap.size _).mono ?_; rintro e w1 ⟨rfl, hb1⟩)
  go_ret
  exact ⟨rfl, ((below_alloc1 w _).trans ((below_alloc1 _ _).mono (by simp))).trans (hb1.mono (by simp; omega))⟩

end Go.Proofs.YtomiepknmmpflaaGreatDoor

