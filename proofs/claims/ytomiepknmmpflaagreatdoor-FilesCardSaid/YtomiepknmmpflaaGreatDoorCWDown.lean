/- The walk of the reference's Down. -/
import Derived.Test.YtomiepknmmpflaaGreatDoorCPDown
import Derived.Test.YtomiepknmmpflaaGreatDoorCWFind
import Derived.Test.YtomiepknmmpflaaGreatDoorCWCheck
import Derived.Test.YtomiepknmmpflaaGreatDoorCWEncode
namespace Go.Proofs.YtomiepknmmpflaaGreatDoor
open Go.RowKit Go.Joins

theorem lt_below {w w' : World} {base e size n : Nat} {v : Value} {xs : List Value} (h : w.ownsRow base e size v n xs) (hb : Below w.heap.size w w') : ∀ k, v.ownBlock = some k → k < w'.heap.size := fun k hk => Nat.lt_of_lt_of_le (h.lt k hk).2 hb.size

theorem down_cell {l : Ov.Files} {w wr w1 w2 : World} {x0 y bk : ByteArray} {seen : List ByteArray} {nv a b c : Value} {t : TypeId} {o : Obj} (h : NI l w x0 seen y nv wr) (hb1 : Below wr.heap.size wr w1) (hg : ((w1.alloc (.cells #[.string bk, a, b, c] t)).alloc o).grownBy w2 nv.ownBlock) :
    w2.cell? ⟨w1.heap.size, 0, none⟩ = some (.string bk) := by
  have hb : ((w1.alloc (.cells #[.string bk, a, b, c] t)).alloc o).heap[w1.heap.size]? = some (.cells #[.string bk, a, b, c] t (0, 0)) := by
    rw [Below.heap_alloc _ _ _ (by simp)]
    show (w1.heap.push _)[w1.heap.size]? = _
    simp
  exact blk_cell (blk_grown hb hg (fun e => by have := (h.names.lt _ e.symm).2; have := hb1.size; omega)) rfl
theorem down_below {l : Ov.Files} {w wr w1 w2 : World} {x0 y : ByteArray} {seen : List ByteArray} {nv : Value} {o1 o2 : Obj} (h : NI l w x0 seen y nv wr) (hb1 : Below wr.heap.size wr w1) (hg : ((w1.alloc o1).alloc o2).grownBy w2 nv.ownBlock) : Below w.heap.size w w2 := by
  have s1 := h.below.size
  have s2 := hb1.size
  exact (((h.below.trans (hb1.mono s1)).alloc (by omega) o1).alloc (by simp; omega) o2).grown hg (by simp; omega) (fun k hk => (h.names.lt k hk).1)

theorem names_more {l : List ByteArray} {x : ByteArray} {k : Nat} (h : ∀ j, j < k → l.getD j ⟨#[]⟩ ≠ x) (hk : l.getD k ⟨#[]⟩ ≠ x) : ∀ j, j < k + 1 → l.getD j ⟨#[]⟩ ≠ x := fun j hj => by
  by_cases e : j = k
  · subst e; exact hk
  · exact h j (by omega)

def DownPost (l : Ov.Files) (x : ByteArray) (w : World) (e : Ending) (w' : World) : Prop :=
  ∃ nv, e = .returned (.tuple #[nv, .int .i64 (Ov.downOf l x).2.1, .string (Ov.downOf l x).2.2]) ∧ Below w.heap.size w w' ∧ w'.ownsRow w.heap.size 9 1 nv (Ov.downOf l x).1.length ((Ov.downOf l x).1.map Value.string)

set_option maxRecDepth 100000 in
set_option maxHeartbeats 1000000 in
theorem rDown_calls (l : Ov.Files) (v : Value) (x : ByteArray) (base : Nat) (w : World) (hl : l.length ≤ 8) (h : OwnsFiles w base v l) (hs : ∀ j, j < l.length → (Ov.fileAt l j).size ≤ 1000) (hx : Ov.place l x < l.length) :
    Calls Tryz.prog 165 #[v, .string x] w (DownPost l x w) := by
  obtain ⟨g, c, rfl⟩ := ownsRow_form h (by omega)
  have HO := hide h
  have HS := hide hs
  have hgB : g < w.heap.size := (h.lt g rfl).2
  obtain ⟨i9, gi, gz0, gz1, gz2⟩ := info_parts Tryz.infoString
  clear h hs
  go_enter Tryz.func165, Tryz.ntmps165
  go_wp2_with fail
  go_loopw [1, 4, 5, 6, 7, 8, 9, 10] (fun y a4 a5 a6 nv _ _ _ wr => ∃ seen z, y = .string z ∧ NI l w x seen z nv wr) (fun _ _ _ _ nv _ _ _ _ => l.length - lenOf nv)
  case atStart => exact ⟨[], x, rfl, ⟨⟨by simp, by simp⟩, by simp, hx, rfl, World.ownsRow_nil _ _ _ _, Below.refl _ _⟩⟩
  case round =>
    obtain ⟨seen, y, rfl, hI⟩ := hrel
    obtain ⟨na, nc, rfl⟩ := owns_slice hI.names
    obtain ⟨p, hp⟩ : ∃ p, Ov.place l y = p := ⟨_, rfl⟩
    have hpl : p < l.length := by rw [← hp]; exact hI.here
    have hf : Ov.find l y = (p : Int) := by rw [Ov.find_yes hI.here, hp]
    obtain ⟨s, hse⟩ : ∃ s, Ov.fileAt l p = s := ⟨_, rfl⟩
    have HFS : Hid (Ov.fileAt l (Ov.place l y) = s) := by rw [hp]; exact hse
    have hsz : s.size ≤ 1000 := by rw [← hse]; exact unhide HS p hpl
    have HOr := hide (owns_below (unhide HO) (fun k hk => ((unhide HO).lt k hk).2) hI.below)
    have cb := files_bytes (unhide HOr) hpl
    rw [hse] at cb
    have HI := hide hI
    clear hI hp hse
    cases him : Ov.imageB s
    · have hno : ¬ Ov.isImage s := fun h => by rw [(Ov.imageB_iff s).2 h] at him; cases him
      have HD := hide ((unhide HI).corrupt (unhide HFS) him)
      have Hno := hide hno
      clear him hno
      go_wp2_with (first | (go_at_call 166; refine (rFind_calls l _ y base _ hl (unhide HOr)).mono ?_; rintro e w' ⟨rfl, rfl⟩) | (go_at_call 169; refine (rDecode_no s _ hsz (unhide Hno)).mono ?_; rintro e w1 ⟨a, b1, b2, b3, c1, c2, c3, d, rfl, hb1⟩))
      go_ret3
      exact ⟨.slice none 0 0, by rw [unhide HD]; rfl, ((unhide HI).below.trans (hb1.mono (unhide HI).below.size)).alloc (by have := hb1.size; have := (unhide HI).below.size; omega) _, by rw [unhide HD]; exact World.ownsRow_nil _ _ _ _⟩
    · have Hyes := hide ((Ov.imageB_iff s).1 him)
      have Him := hide him
      obtain ⟨bk, hbk⟩ : ∃ bk, Ov.backing s = bk := ⟨_, rfl⟩
      have HBK := hide hbk
      have hwr := (unhide HI).below.size
      have hsl := (unhide HI).lt
      clear him
      by_cases hb0 : bk.size = 0
      · have hbe : bk.toList.isEmpty = true := by rw [ByteArray.toList_eq, List.isEmpty_iff_length_eq_zero]; simpa using hb0
        have HD := hide ((unhide HI).last (unhide HFS) (unhide Him) (by rw [unhide HBK]; exact hb0))
        clear hb0
        go_wp2_with (first | (go_at_call 166; refine (rFind_calls l _ y base _ hl (unhide HOr)).mono ?_; rintro e w' ⟨rfl, rfl⟩) | (go_at_call 169; refine (rDecode_yes s _ hsz (unhide Hyes)).mono ?_; rintro e w1 ⟨ea, ec, ba, bc, rfl, hb1, _, _⟩; have HB1 := hide hb1; have S1 := hb1.size; clear hb1) | (at_builtin; refine wpList_append_own _ rfl (.tmp 25) (.tmp 27) 30 rfl w.heap.size 9 i9 (.string ⟨#[]⟩) 1 16 Tryz.underlying30 gi gz0 gz1 gz2 rfl (by decide) _ seen.length _ rfl (((owns_all (unhide HI).names (unhide HB1)).alloc _).alloc _) ⟨w1.heap.size + 1, 0, none⟩ 1 1 [.string y] rfl rfl (one_new (by simp)) (one_string _) (by unfold maxLen; omega) (by omega) (by simp; omega) ?_; intro v2 w2 ho2 hg2 _; obtain ⟨g2, p2, rfl⟩ := ownsRow_form ho2 (by omega); have xc : w2.cell? ⟨w1.heap.size, 0, none⟩ = some (.string bk) := down_cell (unhide HI) (unhide HB1) hg2; have G2 := hide hg2; have O2 := hide ho2; clear hg2 ho2))
        go_ret3
        exact ⟨_, by rw [unhide HD]; rfl, down_below (unhide HI) (unhide HB1) (unhide G2), by rw [unhide HD, List.map_append, List.length_append]; exact unhide O2⟩
      · have hbe : bk.toList.isEmpty = false := by
          rw [ByteArray.toList_eq, ← Bool.not_eq_true, List.isEmpty_iff_length_eq_zero]; simpa using hb0
        have Hb0 := hide hb0
        clear hb0
        go_wp2_with (first | (go_at_call 166; refine (rFind_calls l _ y base _ hl (unhide HOr)).mono ?_; rintro e w' ⟨rfl, rfl⟩) | (go_at_call 169; refine (rDecode_yes s _ hsz (unhide Hyes)).mono ?_; rintro e w1 ⟨ea, ec, ba, bc, rfl, hb1, _, _⟩; have HB1 := hide hb1; have S1 := hb1.size; clear hb1) | (at_builtin; refine wpList_append_own _ rfl (.tmp 25) (.tmp 27) 30 rfl w.heap.size 9 i9 (.string ⟨#[]⟩) 1 16 Tryz.underlying30 gi gz0 gz1 gz2 rfl (by decide) _ seen.length _ rfl (((owns_all (unhide HI).names (unhide HB1)).alloc _).alloc _) ⟨w1.heap.size + 1, 0, none⟩ 1 1 [.string y] rfl rfl (one_new (by simp)) (one_string _) (by unfold maxLen; omega) (by omega) (by simp; omega) ?_; intro v2 w2 ho2 hg2 _; obtain ⟨g2, p2, rfl⟩ := ownsRow_form ho2 (by omega); have xc : w2.cell? ⟨w1.heap.size, 0, none⟩ = some (.string bk) := down_cell (unhide HI) (unhide HB1) hg2; have G2 := hide hg2; have O2 := hide ho2; clear hg2 ho2))
        have HO2 : Hid (OwnsFiles w2 base (.slice (some ⟨g, 0, none⟩) l.length c) l) := owns_below (unhide HO) (fun k hk => ((unhide HO).lt k hk).2) (down_below (unhide HI) (unhide HB1) (unhide G2))
        have HW2 := hide (down_below (unhide HI) (unhide HB1) (unhide G2))
        have HN : Hid (w2.ownsRow w.heap.size 9 1 (.slice (some ⟨g2, 0, none⟩) (seen.length + 1) p2) (seen.length + 1) ((seen ++ [y]).map Value.string)) := by rw [List.map_append]; exact unhide O2
        go_loopw [10] (fun i wx => ∃ j nq, j ≤ seen.length + 1 ∧ i = .int .i64 (j : Nat) ∧ wx = w2.drewN nq ∧ ∀ t, t < j → (seen ++ [y]).getD t ⟨#[]⟩ ≠ bk) (fun i _ => seen.length + 1 - (intOf i).toNat)
        case atStart => exact ⟨0, 0, Nat.zero_le _, rfl, rfl, fun t ht => by omega⟩
        case round =>
          obtain ⟨j, nq, hj, rfl, rfl, hall⟩ := hrel
          have HA := hide hall
          clear hall
          by_cases hjn : j < seen.length + 1
          · have cn := texts_cell (unhide HN) hjn
            obtain ⟨z, hz⟩ : ∃ z, (seen ++ [y]).getD j ⟨#[]⟩ = z := ⟨_, rfl⟩
            rw [hz] at cn
            have HZ := hide hz
            clear hz
            by_cases hq : z = bk
            · subst hq
              have HD := hide ((unhide HI).cycle (unhide HFS) (unhide Him) (by rw [unhide HBK]; exact unhide Hb0) (by rw [unhide HBK]; exact Ov.metB_at (by simp; omega) (unhide HZ)))
              go_wp2_with fail
              go_quiet (fail)
              go_wp2_with fail
              go_ret3
              exact ⟨.slice none 0 0, by rw [unhide HD]; rfl, ((unhide HW2).trans (below_draws _ _ _)).trans (below_draws _ _ _), by rw [unhide HD]; exact World.ownsRow_nil _ _ _ _⟩
            · have hq' : (z.toList == bk.toList) = false := by rw [beq_eq_false_iff_ne, ByteArray.toList_eq, ByteArray.toList_eq]; exact fun e => hq (Go.WideShapes.bytes_inj e)
              go_wp2_with fail
              go_quiet (fail)
              go_wp2_with fail
              go_roundw
              case rel => exact ⟨j + 1, _, by omega, by go_num, rfl, names_more (unhide HA) (by rw [unhide HZ]; exact hq)⟩
              case measure => simp [intOf]; omega
          · have Hm : Hid (Ov.metB (seen ++ [y]) bk = false) := Ov.metB_no (fun t ht => unhide HA t (by simp at ht; omega))
            by_cases hpb : Ov.place l bk < l.length
            · have hfb : Ov.find l bk = (Ov.place l bk : Int) := Ov.find_yes hpb
              go_wp2_with (go_at_call 166; refine (rFind_calls l _ bk base _ hl (owns_all (unhide HO2) (below_draws _ _ nq))).mono ?_; rintro e w' ⟨rfl, rfl⟩)
              go_roundw
              case rel => exact ⟨seen ++ [y], bk, rfl, by rw [← unhide HBK]; exact (unhide HI).next (unhide HFS) (unhide Him) (by rw [unhide HBK]; exact unhide Hb0) (by rw [unhide HBK]; exact unhide Hm) (by rw [unhide HBK]; exact hpb) (owns_all (unhide O2) (below_draws _ _ nq)) ((unhide HW2).trans (below_draws _ _ _))⟩
              case measure => simp [lenOf]; omega
            · have hfb : Ov.find l bk = -1 := Ov.find_no hpb
              go_wp2_with (go_at_call 166; refine (rFind_calls l _ bk base _ hl (owns_all (unhide HO2) (below_draws _ _ nq))).mono ?_; rintro e w' ⟨rfl, rfl⟩)
              have HD := hide ((unhide HI).missing (unhide HFS) (unhide Him) (by rw [unhide HBK]; exact unhide Hb0) (by rw [unhide HBK]; exact unhide Hm) (by rw [unhide HBK]; exact hpb))
              go_ret3
              exact ⟨.slice none 0 0, by rw [unhide HD]; rfl, (unhide HW2).trans (below_draws _ _ _), by rw [unhide HD]; exact World.ownsRow_nil _ _ _ _⟩

end Go.Proofs.YtomiepknmmpflaaGreatDoor
