/- The walks of the reference's with and put. -/
import Derived.Test.YtomiepknmmpflaaGreatDoorCWFind
import Derived.Laws.AppendOwnNone
namespace Go.Proofs.YtomiepknmmpflaaGreatDoor
open Go.RowKit Go.Joins

theorem with_set_below {w w1 : World} {l : Ov.Files} {g1 c1 j : Nat} {u : Value} (ho : OwnsFiles w1 w.heap.size (.slice (some ⟨g1, 0, none⟩) l.length c1) l) (hg : w.grownBy w1 none) : Below w.heap.size w (w1.setCell ⟨g1, j, none⟩ u) :=
  ((Below.refl _ w).grown hg (Nat.le_refl _) (fun k hk => by cases hk)).setCell (by exact (ho.lt g1 rfl).1) u
theorem with_set_owns {w1 : World} {base : Nat} {l : Ov.Files} {x b : ByteArray} {g1 c1 p : Nat} (ho : OwnsFiles w1 base (.slice (some ⟨g1, 0, none⟩) l.length c1) l) (hp : p < l.length) (hn : Ov.nameAt l p = x) :
    OwnsFiles (w1.setCell ⟨g1, p * 2 + 1, none⟩ (.string b)) base (.slice (some ⟨g1, 0, none⟩) l.length c1) (l.set p (x, b)) := by
  have := (ho.stored (p * 2 + 1) (.string b)).1
  rw [fileCells_set hp, hn] at this
  unfold OwnsFiles
  rw [List.length_set]
  exact this
theorem with_app_below {w w1 w2 : World} {l : Ov.Files} {v1 : Value} {o : Obj} (ho : OwnsFiles w1 w.heap.size v1 l) (hg : w.grownBy w1 none) (hg2 : (w1.alloc o).grownBy w2 v1.ownBlock) : Below w.heap.size w w2 :=
  (((Below.refl _ w).grown hg (Nat.le_refl _) (fun k hk => by cases hk)).alloc hg.size o).grown hg2 (by have := hg.size; simp; omega) (fun k hk => (ho.lt k hk).1)
theorem with_app_owns {w2 : World} {base : Nat} {l : Ov.Files} {x b : ByteArray} {v2 : Value} (ho : w2.ownsRow base 251 2 v2 (l.length + 1) (fileCells l ++ [.string x, .string b])) : OwnsFiles w2 base v2 (l ++ [(x, b)]) := by
  unfold OwnsFiles
  rw [fileCells_append, List.length_append]
  exact ho

set_option maxRecDepth 100000 in
set_option maxHeartbeats 400000 in
theorem rwith_calls (l : Ov.Files) (v : Value) (x b : ByteArray) (base : Nat) (w : World) (hl : l.length ≤ 8) (h : OwnsFiles w base v l) :
    Calls Tryz.prog 162 #[v, .string x, .string b] w fun e w' => ∃ v', e = .returned v' ∧ Below w.heap.size w w' ∧ OwnsFiles w' w.heap.size v' (Ov.withF l x b) := by
  obtain ⟨i0, hi, hz0, hz1, hz2⟩ := info_parts Tryz.infoFile
  rcases ownsRow_forms h with ⟨rfl, h0⟩ | ⟨g, c, rfl⟩
  · obtain rfl : l = [] := List.length_eq_zero_iff.1 h0
    have HO : Hid (OwnsFiles w w.heap.size (.slice none 0 0) []) := World.ownsRow_nil _ _ _ _
    have hf : Ov.find [] x = -1 := Ov.find_no (by simp)
    have Hw : Hid (Ov.withF [] x b = [] ++ [(x, b)]) := by unfold Ov.withF; rw [if_neg (by simp)]; exact rfl
    clear h h0
    go_enter Tryz.func162, Tryz.ntmps162
    go_wp2_with (first | (at_builtin; refine wpList_append_own_none rfl (.tmp 9) (.tmp 10) 178 rfl w.heap.size 251 i0 2 Tryz.underlying178 hi _ 0 _ rfl (World.ownsRow_nil _ _ _ _) rfl ?_) | (go_at_call 166; refine (rFind_calls [] _ x w.heap.size _ hl (unhide HO)).mono ?_; rintro e w' ⟨rfl, rfl⟩) | (at_builtin; refine wpList_append_own _ rfl (.tmp 22) (.tmp 26) 178 rfl w.heap.size 251 i0 (.agg #[.string ⟨#[]⟩, .string ⟨#[]⟩]) 2 32 Tryz.underlying178 hi hz0 hz1 hz2 rfl (by decide) _ 0 _ rfl ((unhide HO).alloc _) ⟨w.heap.size, 0, none⟩ 1 1 [.string x, .string b] rfl rfl (two_new rfl) (two_strings x b) (by unfold maxLen; omega) (by omega) (by simp) ?_; intro v2 w2 ho2 hg2 _; obtain ⟨g2, c2, rfl⟩ := ownsRow_form ho2 (by omega)))
    go_ret
    exact ⟨_, rfl, with_app_below (unhide HO) (World.grownBy.refl _ _) hg2, by rw [unhide Hw]; exact with_app_owns ho2⟩
  · have HO := hide h
    clear h
    by_cases hp : Ov.place l x < l.length
    · obtain ⟨p, hpe⟩ : ∃ p, Ov.place l x = p := ⟨_, rfl⟩
      rw [hpe] at hp
      have hf : Ov.find l x = (p : Int) := by rw [Ov.find_yes (by omega), hpe]
      have Hw : Hid (Ov.withF l x b = l.set p (x, b)) := by unfold Ov.withF; rw [hpe, if_pos hp]; exact rfl
      have Hn : Hid (Ov.nameAt l p = x) := by rw [← hpe]; exact Ov.place_name (by omega)
      clear hpe
      go_enter Tryz.func162, Tryz.ntmps162
      go_wp2_with (first | (at_builtin; refine wpList_append_own _ rfl (.tmp 9) (.tmp 10) 178 rfl w.heap.size 251 i0 (.agg #[.string ⟨#[]⟩, .string ⟨#[]⟩]) 2 32 Tryz.underlying178 hi hz0 hz1 hz2 rfl (by decide) _ 0 _ rfl (World.ownsRow_nil _ _ _ _) ⟨g, 0, none⟩ l.length c (fileCells l) rfl (fileCells_length l) (files_at (unhide HO)) (fileCells_one l) (by unfold maxLen; omega) (by omega) (Nat.le_refl _) ?_; intro v1 w1 ho1 hg1 hn1; simp only [Nat.zero_add, List.nil_append] at ho1; obtain ⟨g1, c1, rfl⟩ := ownsRow_form ho1 (by omega); have O1 := hide ho1; have G1 := hide hg1; have cb := files_bytes ho1 hp; have cf := ho1.frozenAt (p * 2 + 1); clear ho1 hg1 hn1) | (go_at_call 166; refine (rFind_calls l _ x w.heap.size _ hl (unhide O1)).mono ?_; rintro e w' ⟨rfl, rfl⟩))
      go_ret
      exact ⟨_, rfl, with_set_below (unhide O1) (unhide G1), by rw [unhide Hw]; exact with_set_owns (unhide O1) hp (unhide Hn)⟩
    · have hf : Ov.find l x = -1 := Ov.find_no hp
      have Hw : Hid (Ov.withF l x b = l ++ [(x, b)]) := by unfold Ov.withF; rw [if_neg hp]; exact rfl
      clear hp
      go_enter Tryz.func162, Tryz.ntmps162
      go_wp2_with (first | (at_builtin; refine wpList_append_own _ rfl (.tmp 9) (.tmp 10) 178 rfl w.heap.size 251 i0 (.agg #[.string ⟨#[]⟩, .string ⟨#[]⟩]) 2 32 Tryz.underlying178 hi hz0 hz1 hz2 rfl (by decide) _ 0 _ rfl (World.ownsRow_nil _ _ _ _) ⟨g, 0, none⟩ l.length c (fileCells l) rfl (fileCells_length l) (files_at (unhide HO)) (fileCells_one l) (by unfold maxLen; omega) (by omega) (Nat.le_refl _) ?_; intro v1 w1 ho1 hg1 hn1; simp only [Nat.zero_add, List.nil_append] at ho1; obtain ⟨a1, c1, rfl⟩ := owns_slice ho1; have O1 := hide ho1; have G1 := hide hg1; have S1 := hg1.size; clear ho1 hg1 hn1) | (go_at_call 166; refine (rFind_calls l _ x w.heap.size _ hl (unhide O1)).mono ?_; rintro e w' ⟨rfl, rfl⟩) | (at_builtin; refine wpList_append_own _ rfl (.tmp 22) (.tmp 26) 178 rfl w.heap.size 251 i0 (.agg #[.string ⟨#[]⟩, .string ⟨#[]⟩]) 2 32 Tryz.underlying178 hi hz0 hz1 hz2 rfl (by decide) _ l.length _ rfl ((unhide O1).alloc _) ⟨w1.heap.size, 0, none⟩ 1 1 [.string x, .string b] rfl rfl (two_new rfl) (two_strings x b) (by unfold maxLen; omega) (by omega) (by simp; omega) ?_; intro v2 w2 ho2 hg2 _; obtain ⟨g2, c2, rfl⟩ := ownsRow_form ho2 (by omega)))
      go_ret
      exact ⟨_, rfl, with_app_below (unhide O1) (unhide G1) hg2, by rw [unhide Hw]; exact with_app_owns ho2⟩

end Go.Proofs.YtomiepknmmpflaaGreatDoor
