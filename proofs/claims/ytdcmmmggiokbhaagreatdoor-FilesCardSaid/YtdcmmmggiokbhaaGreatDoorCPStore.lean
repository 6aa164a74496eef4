/- The reference's store in memory. -/
import Derived.Test.YtdcmmmggiokbhaaGreatDoorCWPut
import Derived.Test.YtdcmmmggiokbhaaGreatDoorCWName
import Derived.Test.YtdcmmmggiokbhaaGreatDoorCMem
import Derived.Test.YtdcmmmggiokbhaaGreatDoorCSpec
namespace Go.Proofs.YtdcmmmggiokbhaaGreatDoor
open Go.RowKit Go.Joins

/-- A store of the reference at block b. -/
def RefRep (w : World) (b room : Nat) (l : Ov.Files) : Prop :=
  ∃ v, w.heap[b]? = some (.cells #[.int .i64 room, v] 59 (0, 0)) ∧ OwnsFiles w 0 v l ∧ some b ≠ v.ownBlock
theorem grown_of_below {w w' : World} (h : Below w.heap.size w w') (r : Option Nat) : w.grownBy w' r := ⟨h.os, h.tape, h.output, h.size, fun k hk _ => h.block k hk⟩
theorem grown_trans {w w1 w2 : World} {r : Option Nat} (h : w.grownBy w1 r) (k : w1.grownBy w2 r) : w.grownBy w2 r :=
  ⟨k.os.trans h.os, k.tape.trans h.tape, k.output.trans h.output, Nat.le_trans h.size k.size, fun i hi hne => (k.block i (Nat.lt_of_lt_of_le hi h.size) hne).trans (h.block i hi hne)⟩
theorem grown_set (w : World) (b i : Nat) (u : Value) : w.grownBy (w.setCell ⟨b, i, none⟩ u) (some b) :=
  ⟨rfl, rfl, rfl, by simp, fun k _ hne => Below.heap_setCell _ _ _ _ (fun e => hne (by rw [e]))⟩
/-- Memory that is not the store's own may turn: the store stands. -/
theorem RefRep.kept {w w' : World} {b room : Nat} {l : Ov.Files} (h : RefRep w b room l) (hb : Below w.heap.size w w') : RefRep w' b room l := by
  obtain ⟨v, h1, h2, h3⟩ := h
  exact ⟨v, by rw [hb.block b (blk_lt h1)]; exact h1, owns_all h2 hb, h3⟩
/-- New files put in. -/
theorem RefRep.store {w w1 : World} {b room : Nat} {l m : Ov.Files} {v' : Value} (h : RefRep w b room l) (hb : Below w.heap.size w w1) (ho : OwnsFiles w1 w.heap.size v' m) :
    RefRep (w1.setCell ⟨b, 1, none⟩ v') b room m ∧ w.grownBy (w1.setCell ⟨b, 1, none⟩ v') (some b) := by
  obtain ⟨v, h1, h2, h3⟩ := h
  have hlt := blk_lt h1
  have h1' : w1.heap[b]? = _ := (hb.block b hlt).trans h1
  have hne : some b ≠ v'.ownBlock := owns_ne ho hlt
  exact ⟨⟨v', blk_set_same (i := 1) h1' v', owns_set (ownsRow_le ho (Nat.zero_le _)) hne v', hne⟩, grown_trans (grown_of_below hb _) (grown_set w1 b 1 v')⟩

/-- What a call of the reference leaves. -/
structure RefLeft (w : World) (b room : Nat) (l : Ov.Files) (w' : World) : Prop where
  rep : RefRep w' b room l
  grown : w.grownBy w' (some b)
theorem RefRep.same {w w' : World} {b room : Nat} {l : Ov.Files} (h : RefRep w b room l) (hb : Below w.heap.size w w') : RefLeft w b room l w' := ⟨h.kept hb, grown_of_below hb _⟩
theorem RefRep.here {w : World} {b room : Nat} {l : Ov.Files} (h : RefRep w b room l) : RefLeft w b room l w := h.same (Below.refl _ _)
/-- Behind put. -/
theorem RefRep.put {w w1 w' : World} {b room : Nat} {l m : Ov.Files} {v' : Value} {e : Ending} (h : RefRep w b room l) (hb : Below w.heap.size w w1) (ho : OwnsFiles w1 w.heap.size v' m) (hp : PutPost w1 b room v' m e w') :
    e = .returned (.int .i64 (Ov.putF room l m).1) ∧ RefLeft w b room (Ov.putF room l m).2 w' := by
  rcases hp with ⟨h1, rfl, rfl⟩ | ⟨h1, rfl, rfl⟩
  · have e : Ov.putF room l m = (0, m) := by unfold Ov.putF; rw [if_neg (by omega)]
    rw [e]
    exact ⟨rfl, (h.store hb ho).1, (h.store hb ho).2⟩
  · have e : Ov.putF room l m = (9, l) := by unfold Ov.putF; rw [if_pos h1]
    rw [e]
    exact ⟨rfl, h.same hb⟩

end Go.Proofs.YtdcmmmggiokbhaaGreatDoor
