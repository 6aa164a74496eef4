/- The walk of the reference's Find. -/
import Derived.Test.YtdcmmmggiokbhaaGreatDoorCMem
import Derived.Laws.AppendOwnNone
namespace Go.Proofs.YtdcmmmggiokbhaaGreatDoor
open Go.RowKit Go.Joins

theorem names_step {l : Ov.Files} {x : ByteArray} {k : Nat} (h : ∀ j, j < k → Ov.nameAt l j ≠ x) (hk : Ov.nameAt l k ≠ x) : ∀ j, j < k + 1 → Ov.nameAt l j ≠ x := fun j hj => by
  by_cases e : j = k
  · subst e; exact hk
  · exact h j (by omega)

set_option maxRecDepth 100000 in
set_option maxHeartbeats 400000 in
theorem rFind_calls (l : Ov.Files) (v : Value) (x : ByteArray) (base : Nat) (w : World) (hl : l.length ≤ 8) (h : OwnsFiles w base v l) :
    Calls Tryz.prog 60 #[v, .string x] w fun e w' => e = .returned (.int .i64 (Ov.find l x)) ∧ w = w' := by
  rcases ownsRow_forms h with ⟨rfl, h0⟩ | ⟨g, c, rfl⟩
  · have Hf := hide (Ov.find_none (l := l) (x := x) (fun j hj => by omega))
    clear h
    go_enter Tryz.func60, Tryz.ntmps60
    go_wp2
    go_loop [5] (fun i => i = .int .i64 0) (fun _ => 0)
    case atStart => exact rfl
    case round =>
      subst hrel
      go_wp2
      go_ret
      exact ⟨by rw [unhide Hf]; rfl, rfl⟩
  · have HO := hide h
    clear h
    go_enter Tryz.func60, Tryz.ntmps60
    go_wp2
    go_loop [5] (fun i => ∃ k : Nat, k ≤ l.length ∧ i = .int .i64 k ∧ ∀ j, j < k → Ov.nameAt l j ≠ x) (fun i => l.length - (intOf i).toNat)
    case atStart => exact ⟨0, Nat.zero_le _, rfl, fun j hj => by omega⟩
    case round =>
      obtain ⟨k, hk, rfl, hall⟩ := hrel
      by_cases hlt : k < l.length
      · have hc := files_name (unhide HO) hlt
        obtain ⟨y, hy⟩ : ∃ y, y = Ov.nameAt l k := ⟨_, rfl⟩
        rw [← hy] at hc
        have HY := hide hy
        have HA := hide hall
        clear hy hall
        by_cases hq : y = x
        · subst hq
          have Hf := hide (Ov.find_eq (l := l) (unhide HA) hlt (unhide HY).symm)
          go_wp2
          go_ret
          exact ⟨by rw [unhide Hf]; rfl, rfl⟩
        · have hq' : (y.toList == x.toList) = false := by rw [beq_eq_false_iff_ne, ByteArray.toList_eq, ByteArray.toList_eq]; exact fun e => hq (Go.WideShapes.bytes_inj e)
          go_wp2
          go_round
          case rel => exact ⟨k + 1, by omega, by go_num, names_step (unhide HA) (by rw [← unhide HY]; exact hq)⟩
          case measure => simp [intOf]; omega
      · have Hf := hide (Ov.find_none (l := l) (x := x) (fun j hj => hall j (by omega)))
        clear hall
        go_wp2
        go_ret
        exact ⟨by rw [unhide Hf]; rfl, rfl⟩

end Go.Proofs.YtdcmmmggiokbhaaGreatDoor

/- The walks of the reference's with and put. -/
namespace Go.Proofs.YtdcmmmggiokbhaaGreatDoor
open Go.RowKit Go.Joins

theorem with_set_below {w w1 : World} {l : Ov.Files} {g1 c1 j : Nat} {u : Value} (ho : OwnsFiles w1 w.heap.size (.slice (some ⟨g1, 0, none⟩) l.length c1) l) (hg : w.grownBy w1 none) : Below w.heap.size w (w1.setCell ⟨g1, j, none⟩ u) :=
  ((Below.refl _ w).grown hg (Nat.le_refl _) (fun k hk => by cases hk)).setCell (by exact (ho.lt g1 rfl).1) u
theorem with_set_owns {w1 : World} {base : Nat} {l : Ov.Files} {x b : ByteArray} {g1 c1 p : Nat} (ho : OwnsFiles w1 base (.slice (some ⟨g1, 0, none⟩) l.length c1) l) (hp : p < l.length) (hn : Ov.nameAt l p = x) :
    OwnsFiles (w1.setCell ⟨g1, p * 2 + 1, none⟩ (.string b)) base (.slice (some ⟨g1, 0, none⟩) l.length c1) (l.set p (x, b)) := by
  have := (ho.stored (p * 2 + 1) (.string b)).1
  rw [fileCells_set hp, hn] at this
  unfold OwnsFiles
  rw [List.length_set]
  exact this
theorem with_app_below {w w1 w2 : World} {l : Ov.Files} {v1 : Value} {o : Obj} (ho : OwnsFiles w1 w.heap.size v1 l) (hg : w.grownBy w1 none) (hg2 : (w1.alloc o).grownBy w2 v1.ownBlock) : Below w.heap.size w w2 :=
  (((Below.refl _ w).grown hg (Nat.le_refl _) (fun k hk => by cases hk)).alloc hg.size o).grown hg2 (by have := hg.size; simp; omega) (fun k hk => (ho.lt k hk).1)
theorem with_app_owns {w2 : World} {base : Nat} {l : Ov.Files} {x b : ByteArray} {v2 : Value} (ho : w2.ownsRow base 116 2 v2 (l.length + 1) (fileCells l ++ [.string x, .string b])) : OwnsFiles w2 base v2 (l ++ [(x, b)]) := by
  unfold OwnsFiles
  rw [fileCells_append, List.length_append]
  exact ho

set_option maxRecDepth 100000 in
set_option maxHeartbeats 400000 in
theorem rwith_calls (l : Ov.Files) (v : Value) (x b : ByteArray) (base : Nat) (w : World) (hl : l.length ≤ 8) (h : OwnsFiles w base v l) :
    Calls Tryz.prog 54 #[v, .string x, .string b] w fun e w' => ∃ v', e = .returned v' ∧ Below w.heap.size w w' ∧ OwnsFiles w' w.heap.size v' (Ov.withF l x b) := by
  obtain ⟨i0, hi, hz0, hz1, hz2⟩ := info_parts Tryz.infoFile
  rcases ownsRow_forms h with ⟨rfl, h0⟩ | ⟨g, c, rfl⟩
  · obtain rfl : l = [] := List.length_eq_zero_iff.1 h0
    have HO : Hid (OwnsFiles w w.heap.size (.slice none 0 0) []) := World.ownsRow_nil _ _ _ _
    have hf : Ov.find [] x = -1 := Ov.find_no (by simp)
    have Hw : Hid (Ov.withF [] x b = [] ++ [(x, b)]) := by unfold Ov.withF; rw [if_neg (by simp)]; exact rfl
    clear h h0
    go_enter Tryz.func54, Tryz.ntmps54
    go_wp2_with (first | (at_builtin; refine wpList_append_own_none rfl (.tmp 9) (.tmp 10) 57 rfl w.heap.size 116 i0 2 Tryz.underlying57 hi _ 0 _ rfl (World.ownsRow_nil _ _ _ _) rfl ?_) | (go_at_call 60; refine (rFind_calls [] _ x w.heap.size _ hl (unhide HO)).mono ?_; rintro e w' ⟨rfl, rfl⟩) | (at_builtin; refine wpList_append_own _ rfl (.tmp 22) (.tmp 26) 57 rfl w.heap.size 116 i0 (.agg #[.string ⟨#[]⟩, .string ⟨#[]⟩]) 2 32 Tryz.underlying57 hi hz0 hz1 hz2 rfl (by decide) _ 0 _ rfl ((unhide HO).alloc _) ⟨w.heap.size, 0, none⟩ 1 1 [.string x, .string b] rfl rfl (two_new rfl) (two_strings x b) (by unfold maxLen; omega) (by omega) (by simp) ?_; intro v2 w2 ho2 hg2 _; obtain ⟨g2, c2, rfl⟩ := ownsRow_form ho2 (by omega)))
    go_ret
    exact ⟨_, rfl, with_app_below (unhide HO) (World.grownBy.refl _ _) hg2, by rw [unhide Hw]; exact with_app_owns ho2⟩
  · have HO := hide h
    clear h
    by_cases hp : Ov.place l x < l.length
    · obtain ⟨p, hpe⟩ : ∃ p, Ov.place l x = p := ⟨_, rfl⟩
      rw [hpe] at hp
      have hf : Ov.find l x = (p : Int) := by rw [Ov.find_yes (by omega), hpe]
      have Hw : Hid (Ov.withF l x b = l.set p (x, b)) := by unfold Ov.withF; rw [hpe, if_pos hp]; exact rfl
      have Hn : Hid (Ov.nameAt l p = x) := by rw [← hpe]; exact Ov.place_name (by omega)
      clear hpe
      go_enter Tryz.func54, Tryz.ntmps54
      go_wp2_with (first | (at_builtin; refine wpList_append_own _ rfl (.tmp 9) (.tmp 10) 57 rfl w.heap.size 116 i0 (.agg #[.string ⟨#[]⟩, .string ⟨#[]⟩]) 2 32 Tryz.underlying57 hi hz0 hz1 hz2 rfl (by decide) _ 0 _ rfl (World.ownsRow_nil _ _ _ _) ⟨g, 0, none⟩ l.length c (fileCells l) rfl (fileCells_length l) (files_at (unhide HO)) (fileCells_one l) (by unfold maxLen; omega) (by omega) (Nat.le_refl _) ?_; intro v1 w1 ho1 hg1 hn1; simp only [Nat.zero_add, List.nil_append] at ho1; obtain ⟨g1, c1, rfl⟩ := ownsRow_form ho1 (by omega); have O1 := hide ho1; have G1 := hide hg1; have cb := files_bytes ho1 hp; have cf := ho1.frozenAt (p * 2 + 1); clear ho1 hg1 hn1) | (go_at_call 60; refine (rFind_calls l _ x w.heap.size _ hl (unhide O1)).mono ?_; rintro e w' ⟨rfl, rfl⟩))
      go_ret
      exact ⟨_, rfl, with_set_below (unhide O1) (unhide G1), by rw [unhide Hw]; exact with_set_owns (unhide O1) hp (unhide Hn)⟩
    · have hf : Ov.find l x = -1 := Ov.find_no hp
      have Hw : Hid (Ov.withF l x b = l ++ [(x, b)]) := by unfold Ov.withF; rw [if_neg hp]; exact rfl
      clear hp
      go_enter Tryz.func54, Tryz.ntmps54
      go_wp2_with (first | (at_builtin; refine wpList_append_own _ rfl (.tmp 9) (.tmp 10) 57 rfl w.heap.size 116 i0 (.agg #[.string ⟨#[]⟩, .string ⟨#[]⟩]) 2 32 Tryz.underlying57 hi hz0 hz1 hz2 rfl (by decide) _ 0 _ rfl (World.ownsRow_nil _ _ _ _) ⟨g, 0, none⟩ l.length c (fileCells l) rfl (fileCells_length l) (files_at (unhide HO)) (fileCells_one l) (by unfold maxLen; omega) (by omega) (Nat.le_refl _) ?_; intro v1 w1 ho1 hg1 hn1; simp only [Nat.zero_add, List.nil_append] at ho1; obtain ⟨a1, c1, rfl⟩ := owns_slice ho1; have O1 := hide ho1; have G1 := hide hg1; have S1 := hg1.size; clear ho1 hg1 hn1) | (go_at_call 60; refine (rFind_calls l _ x w.heap.size _ hl (unhide O1)).mono ?_; rintro e w' ⟨rfl, rfl⟩) | (at_builtin; refine wpList_append_own _ rfl (.tmp 22) (.tmp 26) 57 rfl w.heap.size 116 i0 (.agg #[.string ⟨#[]⟩, .string ⟨#[]⟩]) 2 32 Tryz.underlying57 hi hz0 hz1 hz2 rfl (by decide) _ l.length _ rfl ((unhide O1).alloc _) ⟨w1.heap.size, 0, none⟩ 1 1 [.string x, .string b] rfl rfl (two_new rfl) (two_strings x b) (by unfold maxLen; omega) (by omega) (by simp; omega) ?_; intro v2 w2 ho2 hg2 _; obtain ⟨g2, c2, rfl⟩ := ownsRow_form ho2 (by omega)))
      go_ret
      exact ⟨_, rfl, with_app_below (unhide O1) (unhide G1) hg2, by rw [unhide Hw]; exact with_app_owns ho2⟩

end Go.Proofs.YtdcmmmggiokbhaaGreatDoor

/- The walk of the reference's put. -/
namespace Go.Proofs.YtdcmmmggiokbhaaGreatDoor
open Go.RowKit Go.Joins

/-- What put answers, and where. -/
def PutPost (w : World) (b room : Nat) (v : Value) (l : Ov.Files) (e : Ending) (w' : World) : Prop :=
  (Ov.total l ≤ room ∧ e = .returned (.int .i64 0) ∧ w' = w.setCell ⟨b, 1, none⟩ v) ∨ (room < Ov.total l ∧ e = .returned (.int .i64 9) ∧ w' = w)

theorem total_all (l : Ov.Files) : Ov.total (l.take l.length) = Ov.total l := by rw [List.take_length]

set_option maxRecDepth 100000 in
set_option maxHeartbeats 400000 in
theorem rput_calls (l : Ov.Files) (v v0 : Value) (b room base : Nat) (w : World) (hl : l.length ≤ 9) (_hr : room ≤ 4000) (hb : w.heap[b]? = some (.cells #[.int .i64 room, v0] 59 (0, 0))) (ho : OwnsFiles w base v l) (hs : ∀ j, j < l.length → (Ov.fileAt l j).size ≤ 1000) :
    Calls Tryz.prog 53 #[.pointer (some ⟨b, 0, none⟩), v] w (PutPost w b room v l) := by
  have c0 : w.cell? ⟨b, 0, none⟩ = some (.int .i64 room) := blk_cell hb rfl
  have c1 : w.cell? ⟨b, 1, none⟩ = some v0 := blk_cell hb rfl
  have f1 := blk_frozen hb
  obtain ⟨a, c, rfl⟩ := owns_slice ho
  have HO := hide ho
  have HS := hide hs
  clear ho hb hs
  go_enter Tryz.func53, Tryz.ntmps53
  go_wp2
  go_loop [5, 6] (fun t i => ∃ k : Nat, k ≤ l.length ∧ i = .int .i64 k ∧ t = .int .i64 (Ov.total (l.take k) : Nat)) (fun _ i => l.length - (intOf i).toNat)
  case atStart => exact ⟨0, Nat.zero_le _, rfl, rfl⟩
  case round =>
    obtain ⟨k, hk, rfl, rfl⟩ := hrel
    have hle := Ov.total_take_le l k (unhide HS) hk
    by_cases hlt : k < l.length
    · obtain ⟨g, cc, hv⟩ := ownsRow_form (unhide HO) (by omega)
      obtain ⟨rfl, rfl⟩ : a = some ⟨g, 0, none⟩ ∧ c = cc := by simpa using hv
      have cb := files_bytes (unhide HO) hlt
      have hsz := unhide HS k hlt
      have Hts := hide (Ov.total_take_succ l k hlt)
      clear hv
      go_wp2
      go_round
      case rel => exact ⟨k + 1, by omega, by go_num, by rw [unhide Hts]; go_num⟩
      case measure => simp [intOf]; omega
    · obtain rfl : k = l.length := by omega
      rw [total_all] at hle ⊢
      obtain ⟨t, ht⟩ : ∃ t, Ov.total l = t := ⟨_, rfl⟩
      have HT := hide ht
      rw [ht] at hle
      clear HO HS
      by_cases hfull : room < t
      · go_wp2
        go_ret
        exact Or.inr ⟨by rw [unhide HT]; exact hfull, rfl, rfl⟩
      · go_wp2
        go_ret
        exact Or.inl ⟨by rw [unhide HT]; omega, rfl, rfl⟩

end Go.Proofs.YtdcmmmggiokbhaaGreatDoor
