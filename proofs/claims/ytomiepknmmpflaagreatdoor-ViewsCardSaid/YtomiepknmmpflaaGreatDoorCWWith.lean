/- The plain functions of a store's files. -/
import Derived.Test.YtomiepknmmpflaaGreatDoorCWName
import Derived.Laws.AppendOwnNone
namespace Go.Proofs.YtomiepknmmpflaaGreatDoor
namespace Ov

/- FILES, by their names, in their order. -/
abbrev Files := List (ByteArray × ByteArray)
def nameAt (l : Files) (k : Nat) : ByteArray := (l.getD k (⟨#[]⟩, ⟨#[]⟩)).1
def fileAt (l : Files) (k : Nat) : ByteArray := (l.getD k (⟨#[]⟩, ⟨#[]⟩)).2
/-- The place of a file; how many there are, if there is none of this name. -/
def place : Files → ByteArray → Nat
  | [], _ => 0
  | f :: l, x => if f.1 = x then 0 else place l x + 1
def has (l : Files) (x : ByteArray) : Bool := decide (place l x < l.length)
theorem place_le (l : Files) (x : ByteArray) : place l x ≤ l.length := by
  induction l with
  | nil => simp [place]
  | cons f l ih => unfold place; split <;> simp <;> omega
theorem place_ne {l : Files} {x : ByteArray} {k : Nat} (h : ∀ j, j < k → nameAt l j ≠ x) (hk : k ≤ l.length) : k ≤ place l x := by
  induction l generalizing k with
  | nil => simpa [place] using hk
  | cons f l ih =>
    cases k with
    | zero => omega
    | succ k =>
      have h0 : f.1 ≠ x := by simpa [nameAt] using h 0 (by omega)
      unfold place
      rw [if_neg h0]
      have := ih (k := k) (fun j hj => by simpa [nameAt] using h (j + 1) (by omega)) (by simpa using hk)
      omega
theorem place_eq {l : Files} {x : ByteArray} {k : Nat} (h : ∀ j, j < k → nameAt l j ≠ x) (hk : k < l.length) (hx : nameAt l k = x) : place l x = k := by
  induction l generalizing k with
  | nil => simp at hk
  | cons f l ih =>
    cases k with
    | zero => unfold place; rw [if_pos (by simpa [nameAt] using hx)]
    | succ k =>
      have h0 : f.1 ≠ x := by simpa [nameAt] using h 0 (by omega)
      unfold place
      rw [if_neg h0, ih (k := k) (fun j hj => by simpa [nameAt] using h (j + 1) (by omega)) (by simpa using hk) (by simpa [nameAt] using hx)]
theorem place_name {l : Files} {x : ByteArray} (h : place l x < l.length) : nameAt l (place l x) = x := by
  induction l with
  | nil => simp at h
  | cons f l ih =>
    by_cases e : f.1 = x
    · simp [place, e, nameAt]
    · have : place (f :: l) x = place l x + 1 := by rw [place, if_neg e]
      rw [this] at h ⊢
      simpa [nameAt] using ih (by simpa using h)
/-- Find's answer. -/
def find (l : Files) (x : ByteArray) : Int := if place l x < l.length then (place l x : Int) else -1
theorem find_eq {l : Files} {x : ByteArray} {k : Nat} (h : ∀ j, j < k → nameAt l j ≠ x) (hk : k < l.length) (hx : nameAt l k = x) : find l x = k := by
  have := place_eq h hk hx
  unfold find; rw [this, if_pos hk]
theorem find_none {l : Files} {x : ByteArray} (h : ∀ j, j < l.length → nameAt l j ≠ x) : find l x = -1 := by
  have := place_ne h (Nat.le_refl _)
  unfold find; rw [if_neg (by omega)]

/-- Files with one more, or one in place of another of its name. -/
def withF (l : Files) (x b : ByteArray) : Files := if place l x < l.length then l.set (place l x) (x, b) else l ++ [(x, b)]
theorem find_yes {l : Files} {x : ByteArray} (h : place l x < l.length) : find l x = (place l x : Int) := by unfold find; rw [if_pos h]
theorem find_no {l : Files} {x : ByteArray} (h : ¬ place l x < l.length) : find l x = -1 := by unfold find; rw [if_neg h]
/-- How many bytes files have together. -/
def total : Files → Nat
  | [] => 0
  | f :: l => f.2.size + total l
theorem total_append (l m : Files) : total (l ++ m) = total l + total m := by
  induction l with
  | nil => simp [total]
  | cons f l ih => simp [total, ih]; omega
theorem total_take_succ (l : Files) (k : Nat) (h : k < l.length) : total (l.take (k + 1)) = total (l.take k) + (fileAt l k).size := by
  rw [List.take_succ_eq_append_getElem h, total_append]
  simp [total, fileAt, h]
theorem total_take_le (l : Files) (k : Nat) (hb : ∀ j, j < l.length → (fileAt l j).size ≤ 1000) (hk : k ≤ l.length) : total (l.take k) ≤ k * 1000 := by
  induction k with
  | zero => simp [total]
  | succ k ih =>
    rw [total_take_succ l k (by omega)]
    have := ih (by omega)
    have := hb k (by omega)
    omega

end Ov
end Go.Proofs.YtomiepknmmpflaaGreatDoor

/- Rows of files in memory. -/
namespace Go.Proofs.YtomiepknmmpflaaGreatDoor
open Go.RowKit Go.Joins

/-- The cells of files: a name, its bytes, and so on. -/
def fileCells : Ov.Files → List Value
  | [] => []
  | f :: l => .string f.1 :: .string f.2 :: fileCells l
theorem fileCells_length (l : Ov.Files) : (fileCells l).length = l.length * 2 := by
  induction l with
  | nil => rfl
  | cons f l ih => simp [fileCells, ih]; omega
theorem fileCells_append (l m : Ov.Files) : fileCells (l ++ m) = fileCells l ++ fileCells m := by
  induction l with
  | nil => rfl
  | cons f l ih => simp [fileCells, ih]
theorem fileCells_name {l : Ov.Files} {k : Nat} (h : k < l.length) : (fileCells l)[k * 2]? = some (.string (Ov.nameAt l k)) := by
  induction l generalizing k with
  | nil => simp at h
  | cons f l ih =>
    cases k with
    | zero => simp [fileCells, Ov.nameAt]
    | succ k =>
      rw [show (k + 1) * 2 = k * 2 + 1 + 1 from by omega]
      simpa [fileCells, Ov.nameAt] using ih (k := k) (by simpa using h)
theorem fileCells_bytes {l : Ov.Files} {k : Nat} (h : k < l.length) : (fileCells l)[k * 2 + 1]? = some (.string (Ov.fileAt l k)) := by
  induction l generalizing k with
  | nil => simp at h
  | cons f l ih =>
    cases k with
    | zero => simp [fileCells, Ov.fileAt]
    | succ k =>
      rw [show (k + 1) * 2 + 1 = k * 2 + 1 + 1 + 1 from by omega]
      simpa [fileCells, Ov.fileAt] using ih (k := k) (by simpa using h)
/-- The reference's files: a slice whose cells they are. -/
abbrev OwnsFiles (w : World) (base : Nat) (v : Value) (l : Ov.Files) : Prop := w.ownsRow base 251 2 v l.length (fileCells l)
theorem files_name {w : World} {base g c : Nat} {l : Ov.Files} (h : OwnsFiles w base (.slice (some ⟨g, 0, none⟩) l.length c) l) {k : Nat} (hk : k < l.length) : w.cell? ⟨g, k * 2, none⟩ = some (.string (Ov.nameAt l k)) := by
  rw [h.cellAt _ (by omega), fileCells_name hk]
theorem files_bytes {w : World} {base g c : Nat} {l : Ov.Files} (h : OwnsFiles w base (.slice (some ⟨g, 0, none⟩) l.length c) l) {k : Nat} (hk : k < l.length) : w.cell? ⟨g, k * 2 + 1, none⟩ = some (.string (Ov.fileAt l k)) := by
  rw [h.cellAt _ (by omega), fileCells_bytes hk]

theorem Tryz.infoFile : (Tryz.prog.info? 251).map (fun i => (i.zero, i.size, i.bytes)) = some (some (.agg #[.string ⟨#[]⟩, .string ⟨#[]⟩]), 2, 32) := by kernel_rfl
theorem fileCells_one (l : Ov.Files) : ∀ u ∈ fileCells l, u.oneCell' = true := by
  induction l with
  | nil => intro u hu; cases hu
  | cons f l ih =>
    intro u hu
    simp only [fileCells, List.mem_cons] at hu
    rcases hu with rfl | rfl | hu
    · rfl
    · rfl
    · exact ih u hu
theorem fileCells_set {l : Ov.Files} {k : Nat} (h : k < l.length) (b : ByteArray) : (fileCells l).set (k * 2 + 1) (.string b) = fileCells (l.set k (Ov.nameAt l k, b)) := by
  induction l generalizing k with
  | nil => simp at h
  | cons f l ih =>
    cases k with
    | zero => simp [fileCells, Ov.nameAt]
    | succ k =>
      rw [show (k + 1) * 2 + 1 = k * 2 + 1 + 1 + 1 from by omega]
      have := ih (k := k) (by simpa using h)
      simpa [fileCells, Ov.nameAt] using this
/-- The cells of a row, at an address. -/
theorem files_at {w : World} {base g c : Nat} {l : Ov.Files} (h : OwnsFiles w base (.slice (some ⟨g, 0, none⟩) l.length c) l) : ∀ (j : Nat) (u : Value), (fileCells l)[j]? = some u → w.cell? ((⟨g, 0, none⟩ : Addr).add j) = some u := fun j u hu => h.cells rfl j u hu
/-- The two new cells that an append of one file takes. -/
theorem two_new {w : World} {x y : Value} {t : TypeId} {b : Nat} (hb : b = w.heap.size) : ∀ (j : Nat) (u : Value), [x, y][j]? = some u → (w.alloc (.cells #[x, y] t)).cell? ((⟨b, 0, none⟩ : Addr).add j) = some u := by
  subst hb
  intro j u hj
  have e : (⟨w.heap.size, 0, none⟩ : Addr).add j = ⟨w.heap.size, j, none⟩ := by simp [Addr.add]; exact fun h => h.symm
  rw [e, cell_alloc_mark_at w #[x, y] t (0, 0) _ j rfl, ← hj]
  simp
theorem two_strings (x y : ByteArray) : ∀ u ∈ [Value.string x, Value.string y], u.oneCell' = true := by intro u hu; simp at hu; rcases hu with rfl | rfl <;> rfl

end Go.Proofs.YtomiepknmmpflaaGreatDoor

/- The walk of the reference's Find. -/
namespace Go.Proofs.YtomiepknmmpflaaGreatDoor
open Go.RowKit Go.Joins

theorem names_step {l : Ov.Files} {x : ByteArray} {k : Nat} (h : ∀ j, j < k → Ov.nameAt l j ≠ x) (hk : Ov.nameAt l k ≠ x) : ∀ j, j < k + 1 → Ov.nameAt l j ≠ x := fun j hj => by
  by_cases e : j = k
  · subst e; exact hk
  · exact h j (by omega)

set_option maxRecDepth 100000 in
set_option maxHeartbeats 400000 in
theorem rFind_calls (l : Ov.Files) (v : Value) (x : ByteArray) (base : Nat) (w : World) (hl : l.length ≤ 8) (h : OwnsFiles w base v l) :
    Calls Tryz.prog 166 #[v, .string x] w fun e w' => e = .returned (.int .i64 (Ov.find l x)) ∧ w = w' := by
  rcases ownsRow_forms h with ⟨rfl, h0⟩ | ⟨g, c, rfl⟩
  · have Hf := hide (Ov.find_none (l := l) (x := x) (fun j hj => by omega))
    clear h
    go_enter Tryz.func166, Tryz.ntmps166
    go_wp2
    go_loop [5] (fun i => i = .int .i64 0) (fun _ => 0)
    case atStart => exact rfl
    case round =>
      subst hrel
      go_wp2
      go_ret
      exact ⟨by rw [unhide Hf]; rfl, rfl⟩
  · have HO := hide h
    clear h
    go_enter Tryz.func166, Tryz.ntmps166
    go_wp2
    go_loop [5] (fun i => ∃ k : Nat, k ≤ l.length ∧ i = .int .i64 k ∧ ∀ j, j < k → Ov.nameAt l j ≠ x) (fun i => l.length - (intOf i).toNat)
    case atStart => exact ⟨0, Nat.zero_le _, rfl, fun j hj => by omega⟩
    case round =>
      obtain ⟨k, hk, rfl, hall⟩ := hrel
      by_cases hlt : k < l.length
      · have hc := files_name (unhide HO) hlt
        obtain ⟨y, hy⟩ : ∃ y, y = Ov.nameAt l k := ⟨_, rfl⟩
        rw [← hy] at hc
        have HY := hide hy
        have HA := hide hall
        clear hy hall
        by_cases hq : y = x
        · subst hq
          have Hf := hide (Ov.find_eq (l := l) (unhide HA) hlt (unhide HY).symm)
          go_wp2
          go_ret
          exact ⟨by rw [unhide Hf]; rfl, rfl⟩
        · have hq' : (y.toList == x.toList) = false := by rw [beq_eq_false_iff_ne, ByteArray.toList_eq, ByteArray.toList_eq]; exact fun e => hq (Go.WideShapes.bytes_inj e)
          go_wp2
          go_round
          case rel => exact ⟨k + 1, by omega, by go_num, names_step (unhide HA) (by rw [← unhide HY]; exact hq)⟩
          case measure => simp [intOf]; omega
      · have Hf := hide (Ov.find_none (l := l) (x := x) (fun j hj => hall j (by omega)))
        clear hall
        go_wp2
        go_ret
        exact ⟨by rw [unhide Hf]; rfl, rfl⟩

end Go.Proofs.YtomiepknmmpflaaGreatDoor

/- The walks of the reference's with and put. -/
namespace Go.Proofs.YtomiepknmmpflaaGreatDoor
open Go.RowKit Go.Joins

theorem with_set_below {w w1 : World} {l : Ov.Files} {g1 c1 j : Nat} {u : Value} (ho : OwnsFiles w1 w.heap.size (.slice (some ⟨g1, 0, none⟩) l.length c1) l) (hg : w.grownBy w1 none) : Below w.heap.size w (w1.setCell ⟨g1, j, none⟩ u) :=
  ((Below.refl _ w).grown hg (Nat.le_refl _) (fun k hk => by cases hk)).setCell (by exact (ho.lt g1 rfl).1) u
theorem with_set_owns {w1 : World} {base : Nat} {l : Ov.Files} {x b : ByteArray} {g1 c1 p : Nat} (ho : OwnsFiles w1 base (.slice (some ⟨g1, 0, none⟩) l.length c1) l) (hp : p < l.length) (hn : Ov.nameAt l p = x) :
    OwnsFiles (w1.setCell ⟨g1, p * 2 + 1, none⟩ (.string b)) base (.slice (some ⟨g1, 0, none⟩) l.length c1) (l.set p (x, b)) := by
  have := (ho.stored (p * 2 + 1) (.string b)).1
  rw [fileCells_set hp, hn] at this
  unfold OwnsFiles
  rw [List.length_set]
  exact this
theorem with_app_below {w w1 w2 : World} {l : Ov.Files} {v1 : Value} {o : Obj} (ho : OwnsFiles w1 w.heap.size v1 l) (hg : w.grownBy w1 none) (hg2 : (w1.alloc o).grownBy w2 v1.ownBlock) : Below w.heap.size w w2 :=
  (((Below.refl _ w).grown hg (Nat.le_refl _) (fun k hk => by cases hk)).alloc hg.size o).grown hg2 (by have := hg.size; simp; omega) (fun k hk => (ho.lt k hk).1)
theorem with_app_owns {w2 : World} {base : Nat} {l : Ov.Files} {x b : ByteArray} {v2 : Value} (ho : w2.ownsRow base 251 2 v2 (l.length + 1) (fileCells l ++ [.string x, .string b])) : OwnsFiles w2 base v2 (l ++ [(x, b)]) := by
  unfold OwnsFiles
  rw [fileCells_append, List.length_append]
  exact ho

set_option maxRecDepth 100000 in
set_option maxHeartbeats 400000 in
theorem rwith_calls (l : Ov.Files) (v : Value) (x b : ByteArray) (base : Nat) (w : World) (hl : l.length ≤ 8) (h : OwnsFiles w base v l) :
    Calls Tryz.prog 162 #[v, .string x, .string b] w fun e w' => ∃ v', e = .returned v' ∧ Below w.heap.size w w' ∧ OwnsFiles w' w.heap.size v' (Ov.withF l x b) := by
  obtain ⟨i0, hi, hz0, hz1, hz2⟩ := info_parts Tryz.infoFile
  rcases ownsRow_forms h with ⟨rfl, h0⟩ | ⟨g, c, rfl⟩
  · obtain rfl : l = [] := List.length_eq_zero_iff.1 h0
    have HO : Hid (OwnsFiles w w.heap.size (.slice none 0 0) []) := World.ownsRow_nil _ _ _ _
    have hf : Ov.find [] x = -1 := Ov.find_no (by simp)
    have Hw : Hid (Ov.withF [] x b = [] ++ [(x, b)]) := by unfold Ov.withF; rw [if_neg (by simp)]; exact rfl
    clear h h0
    go_enter Tryz.func162, Tryz.ntmps162
    go_wp2_with (first | (at_builtin; refine wpList_append_own_none rfl (.tmp 9) (.tmp 10) 178 rfl w.heap.size 251 i0 2 Tryz.underlying178 hi _ 0 _ rfl (World.ownsRow_nil _ _ _ _) rfl ?_) | (go_at_call 166; refine (rFind_calls [] _ x w.heap.size _ hl (unhide HO)).mono ?_; rintro e w' ⟨rfl, rfl⟩) | (at_builtin; refine wpList_append_own _ rfl (.tmp 22) (.tmp 26) 178 rfl w.heap.size 251 i0 (.agg #[.string ⟨#[]⟩, .string ⟨#[]⟩]) 2 32 Tryz.underlying178 hi hz0 hz1 hz2 rfl (by decide) _ 0 _ rfl ((unhide HO).alloc _) ⟨w.heap.size, 0, none⟩ 1 1 [.string x, .string b] rfl rfl (two_new rfl) (two_strings x b) (by unfold maxLen; omega) (by omega) (by simp) ?_; intro v2 w2 ho2 hg2 _; obtain ⟨g2, c2, rfl⟩ := ownsRow_form ho2 (by omega)))
    go_ret
    exact ⟨_, rfl, with_app_below (unhide HO) (World.grownBy.refl _ _) hg2, by rw [unhide Hw]; exact with_app_owns ho2⟩
  · have HO := hide h
    clear h
    by_cases hp : Ov.place l x < l.length
    · obtain ⟨p, hpe⟩ : ∃ p, Ov.place l x = p := ⟨_, rfl⟩
      rw [hpe] at hp
      have hf : Ov.find l x = (p : Int) := by rw [Ov.find_yes (by omega), hpe]
      have Hw : Hid (Ov.withF l x b = l.set p (x, b)) := by unfold Ov.withF; rw [hpe, if_pos hp]; exact rfl
      have Hn : Hid (Ov.nameAt l p = x) := by rw [← hpe]; exact Ov.place_name (by omega)
      clear hpe
      go_enter Tryz.func162, Tryz.ntmps162
      go_wp2_with (first | (at_builtin; refine wpList_append_own _ rfl (.tmp 9) (.tmp 10) 178 rfl w.heap.size 251 i0 (.agg #[.string ⟨#[]⟩, .string ⟨#[]⟩]) 2 32 Tryz.underlying178 hi hz0 hz1 hz2 rfl (by decide) _ 0 _ rfl (World.ownsRow_nil _ _ _ _) ⟨g, 0, none⟩ l.length c (fileCells l) rfl (fileCells_length l) (files_at (unhide HO)) (fileCells_one l) (by unfold maxLen; omega) (by omega) (Nat.le_refl _) ?_; intro v1 w1 ho1 hg1 hn1; simp only [Nat.zero_add, List.nil_append] at ho1; obtain ⟨g1, c1, rfl⟩ := ownsRow_form ho1 (by omega); have O1 := hide ho1; have G1 := hide hg1; have cb := files_bytes ho1 hp; have cf := ho1.frozenAt (p * 2 + 1); clear ho1 hg1 hn1) | (go_at_call 166; refine (rFind_calls l _ x w.heap.size _ hl (unhide O1)).mono ?_; rintro e w' ⟨rfl, rfl⟩))
      go_ret
      exact ⟨_, rfl, with_set_below (unhide O1) (unhide G1), by rw [unhide Hw]; exact with_set_owns (unhide O1) hp (unhide Hn)⟩
    · have hf : Ov.find l x = -1 := Ov.find_no hp
      have Hw : Hid (Ov.withF l x b = l ++ [(x, b)]) := by unfold Ov.withF; rw [if_neg hp]; exact rfl
      clear hp
      go_enter Tryz.func162, Tryz.ntmps162
      go_wp2_with (first | (at_builtin; refine wpList_append_own _ rfl (.tmp 9) (.tmp 10) 178 rfl w.heap.size 251 i0 (.agg #[.string ⟨#[]⟩, .string ⟨#[]⟩]) 2 32 Tryz.underlying178 hi hz0 hz1 hz2 rfl (by decide) _ 0 _ rfl (World.ownsRow_nil _ _ _ _) ⟨g, 0, none⟩ l.length c (fileCells l) rfl (fileCells_length l) (files_at (unhide HO)) (fileCells_one l) (by unfold maxLen; omega) (by omega) (Nat.le_refl _) ?_; intro v1 w1 ho1 hg1 hn1; simp only [Nat.zero_add, List.nil_append] at ho1; obtain ⟨a1, c1, rfl⟩ := owns_slice ho1; have O1 := hide ho1; have G1 := hide hg1; have S1 := hg1.size; clear ho1 hg1 hn1) | (go_at_call 166; refine (rFind_calls l _ x w.heap.size _ hl (unhide O1)).mono ?_; rintro e w' ⟨rfl, rfl⟩) | (at_builtin; refine wpList_append_own _ rfl (.tmp 22) (.tmp 26) 178 rfl w.heap.size 251 i0 (.agg #[.string ⟨#[]⟩, .string ⟨#[]⟩]) 2 32 Tryz.underlying178 hi hz0 hz1 hz2 rfl (by decide) _ l.length _ rfl ((unhide O1).alloc _) ⟨w1.heap.size, 0, none⟩ 1 1 [.string x, .string b] rfl rfl (two_new rfl) (two_strings x b) (by unfold maxLen; omega) (by omega) (by simp; omega) ?_; intro v2 w2 ho2 hg2 _; obtain ⟨g2, c2, rfl⟩ := ownsRow_form ho2 (by omega)))
      go_ret
      exact ⟨_, rfl, with_app_below (unhide O1) (unhide G1) hg2, by rw [unhide Hw]; exact with_app_owns ho2⟩

end Go.Proofs.YtomiepknmmpflaaGreatDoor
