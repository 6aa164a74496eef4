/- The plain functions of a store's files. -/
import Derived.Test.YtomiepknmmpflaaGreatDoorCSpec
import Derived.Test.YtomiepknmmpflaaGreatDoorCWName
namespace Go.Proofs.YtomiepknmmpflaaGreatDoor
namespace Ov

/- FILES, by their names, in their order. -/
abbrev Files := List (ByteArray × ByteArray)
def nameAt (l : Files) (k : Nat) : ByteArray := (l.getD k (⟨#[]⟩, ⟨#[]⟩)).1
def fileAt (l : Files) (k : Nat) : ByteArray := (l.getD k (⟨#[]⟩, ⟨#[]⟩)).2
/-- The place of a file; how many there are, if there is none of this name. -/
def place : Files → ByteArray → Nat
  | [], _ => 0
  | f :: l, x => if f.1 = x then 0 else place l x + 1
def has (l : Files) (x : ByteArray) : Bool := decide (place l x < l.length)
theorem place_le (l : Files) (x : ByteArray) : place l x ≤ l.length := by
  induction l with
  | nil => simp [place]
  | cons f l ih => unfold place; split <;> simp <;> omega
theorem place_ne {l : Files} {x : ByteArray} {k : Nat} (h : ∀ j, j < k → nameAt l j ≠ x) (hk : k ≤ l.length) : k ≤ place l x := by
  induction l generalizing k with
  | nil => simpa [place] using hk
  | cons f l ih =>
    cases k with
    | zero => omega
    | succ k =>
      have h0 : f.1 ≠ x := by simpa [nameAt] using h 0 (by omega)
      unfold place
      rw [if_neg h0]
      have := ih (k := k) (fun j hj => by simpa [nameAt] using h (j + 1) (by omega)) (by simpa using hk)
      omega
theorem place_eq {l : Files} {x : ByteArray} {k : Nat} (h : ∀ j, j < k → nameAt l j ≠ x) (hk : k < l.length) (hx : nameAt l k = x) : place l x = k := by
  induction l generalizing k with
  | nil => simp at hk
  | cons f l ih =>
    cases k with
    | zero => unfold place; rw [if_pos (by simpa [nameAt] using hx)]
    | succ k =>
      have h0 : f.1 ≠ x := by simpa [nameAt] using h 0 (by omega)
      unfold place
      rw [if_neg h0, ih (k := k) (fun j hj => by simpa [nameAt] using h (j + 1) (by omega)) (by simpa using hk) (by simpa [nameAt] using hx)]
theorem place_name {l : Files} {x : ByteArray} (h : place l x < l.length) : nameAt l (place l x) = x := by
  induction l with
  | nil => simp at h
  | cons f l ih =>
    by_cases e : f.1 = x
    · simp [place, e, nameAt]
    · have : place (f :: l) x = place l x + 1 := by rw [place, if_neg e]
      rw [this] at h ⊢
      simpa [nameAt] using ih (by simpa using h)
/-- Find's answer. -/
def find (l : Files) (x : ByteArray) : Int := if place l x < l.length then (place l x : Int) else -1
theorem find_eq {l : Files} {x : ByteArray} {k : Nat} (h : ∀ j, j < k → nameAt l j ≠ x) (hk : k < l.length) (hx : nameAt l k = x) : find l x = k := by
  have := place_eq h hk hx
  unfold find; rw [this, if_pos hk]
theorem find_none {l : Files} {x : ByteArray} (h : ∀ j, j < l.length → nameAt l j ≠ x) : find l x = -1 := by
  have := place_ne h (Nat.le_refl _)
  unfold find; rw [if_neg (by omega)]

/-- Files with one more, or one in place of another of its name. -/
def withF (l : Files) (x b : ByteArray) : Files := if place l x < l.length then l.set (place l x) (x, b) else l ++ [(x, b)]
theorem find_yes {l : Files} {x : ByteArray} (h : place l x < l.length) : find l x = (place l x : Int) := by unfold find; rw [if_pos h]
theorem find_no {l : Files} {x : ByteArray} (h : ¬ place l x < l.length) : find l x = -1 := by unfold find; rw [if_neg h]
/-- How many bytes files have together. -/
def total : Files → Nat
  | [] => 0
  | f :: l => f.2.size + total l
theorem total_append (l m : Files) : total (l ++ m) = total l + total m := by
  induction l with
  | nil => simp [total]
  | cons f l ih => simp [total, ih]; omega
theorem total_take_succ (l : Files) (k : Nat) (h : k < l.length) : total (l.take (k + 1)) = total (l.take k) + (fileAt l k).size := by
  rw [List.take_succ_eq_append_getElem h, total_append]
  simp [total, fileAt, h]
theorem total_take_le (l : Files) (k : Nat) (hb : ∀ j, j < l.length → (fileAt l j).size ≤ 1000) (hk : k ≤ l.length) : total (l.take k) ≤ k * 1000 := by
  induction k with
  | zero => simp [total]
  | succ k ih =>
    rw [total_take_succ l k (by omega)]
    have := ih (by omega)
    have := hb k (by omega)
    omega

end Ov
end Go.Proofs.YtomiepknmmpflaaGreatDoor

/- Rows of files in memory. -/
namespace Go.Proofs.YtomiepknmmpflaaGreatDoor
open Go.RowKit Go.Joins

/-- The cells of files: a name, its bytes, and so on. -/
def fileCells : Ov.Files → List Value
  | [] => []
  | f :: l => .string f.1 :: .string f.2 :: fileCells l
theorem fileCells_length (l : Ov.Files) : (fileCells l).length = l.length * 2 := by
  induction l with
  | nil => rfl
  | cons f l ih => simp [fileCells, ih]; omega
theorem fileCells_append (l m : Ov.Files) : fileCells (l ++ m) = fileCells l ++ fileCells m := by
  induction l with
  | nil => rfl
  | cons f l ih => simp [fileCells, ih]
theorem fileCells_name {l : Ov.Files} {k : Nat} (h : k < l.length) : (fileCells l)[k * 2]? = some (.string (Ov.nameAt l k)) := by
  induction l generalizing k with
  | nil => simp at h
  | cons f l ih =>
    cases k with
    | zero => simp [fileCells, Ov.nameAt]
    | succ k =>
      rw [show (k + 1) * 2 = k * 2 + 1 + 1 from by omega]
      simpa [fileCells, Ov.nameAt] using ih (k := k) (by simpa using h)
theorem fileCells_bytes {l : Ov.Files} {k : Nat} (h : k < l.length) : (fileCells l)[k * 2 + 1]? = some (.string (Ov.fileAt l k)) := by
  induction l generalizing k with
  | nil => simp at h
  | cons f l ih =>
    cases k with
    | zero => simp [fileCells, Ov.fileAt]
    | succ k =>
      rw [show (k + 1) * 2 + 1 = k * 2 + 1 + 1 + 1 from by omega]
      simpa [fileCells, Ov.fileAt] using ih (k := k) (by simpa using h)
/-- The reference's files: a slice whose cells they are. -/
abbrev OwnsFiles (w : World) (base : Nat) (v : Value) (l : Ov.Files) : Prop := w.ownsRow base 251 2 v l.length (fileCells l)
theorem files_name {w : World} {base g c : Nat} {l : Ov.Files} (h : OwnsFiles w base (.slice (some ⟨g, 0, none⟩) l.length c) l) {k : Nat} (hk : k < l.length) : w.cell? ⟨g, k * 2, none⟩ = some (.string (Ov.nameAt l k)) := by
  rw [h.cellAt _ (by omega), fileCells_name hk]
theorem files_bytes {w : World} {base g c : Nat} {l : Ov.Files} (h : OwnsFiles w base (.slice (some ⟨g, 0, none⟩) l.length c) l) {k : Nat} (hk : k < l.length) : w.cell? ⟨g, k * 2 + 1, none⟩ = some (.string (Ov.fileAt l k)) := by
  rw [h.cellAt _ (by omega), fileCells_bytes hk]

theorem Tryz.infoFile : (Tryz.prog.info? 251).map (fun i => (i.zero, i.size, i.bytes)) = some (some (.agg #[.string ⟨#[]⟩, .string ⟨#[]⟩]), 2, 32) := by kernel_rfl
theorem fileCells_one (l : Ov.Files) : ∀ u ∈ fileCells l, u.oneCell' = true := by
  induction l with
  | nil => intro u hu; cases hu
  | cons f l ih =>
    intro u hu
    simp only [fileCells, List.mem_cons] at hu
    rcases hu with rfl | rfl | hu
    · rfl
    · rfl
    · exact ih u hu
theorem fileCells_set {l : Ov.Files} {k : Nat} (h : k < l.length) (b : ByteArray) : (fileCells l).set (k * 2 + 1) (.string b) = fileCells (l.set k (Ov.nameAt l k, b)) := by
  induction l generalizing k with
  | nil => simp at h
  | cons f l ih =>
    cases k with
    | zero => simp [fileCells, Ov.nameAt]
    | succ k =>
      rw [show (k + 1) * 2 + 1 = k * 2 + 1 + 1 + 1 from by omega]
      have := ih (k := k) (by simpa using h)
      simpa [fileCells, Ov.nameAt] using this
/-- The cells of a row, at an address. -/
theorem files_at {w : World} {base g c : Nat} {l : Ov.Files} (h : OwnsFiles w base (.slice (some ⟨g, 0, none⟩) l.length c) l) : ∀ (j : Nat) (u : Value), (fileCells l)[j]? = some u → w.cell? ((⟨g, 0, none⟩ : Addr).add j) = some u := fun j u hu => h.cells rfl j u hu
/-- The two new cells that an append of one file takes. -/
theorem two_new {w : World} {x y : Value} {t : TypeId} {b : Nat} (hb : b = w.heap.size) : ∀ (j : Nat) (u : Value), [x, y][j]? = some u → (w.alloc (.cells #[x, y] t)).cell? ((⟨b, 0, none⟩ : Addr).add j) = some u := by
  subst hb
  intro j u hj
  have e : (⟨w.heap.size, 0, none⟩ : Addr).add j = ⟨w.heap.size, j, none⟩ := by simp [Addr.add]; exact fun h => h.symm
  rw [e, cell_alloc_mark_at w #[x, y] t (0, 0) _ j rfl, ← hj]
  simp
theorem two_strings (x y : ByteArray) : ∀ u ∈ [Value.string x, Value.string y], u.oneCell' = true := by intro u hu; simp at hu; rcases hu with rfl | rfl <;> rfl

end Go.Proofs.YtomiepknmmpflaaGreatDoor

/- The walk of the reference's Find. -/
namespace Go.Proofs.YtomiepknmmpflaaGreatDoor
open Go.RowKit Go.Joins

theorem names_step {l : Ov.Files} {x : ByteArray} {k : Nat} (h : ∀ j, j < k → Ov.nameAt l j ≠ x) (hk : Ov.nameAt l k ≠ x) : ∀ j, j < k + 1 → Ov.nameAt l j ≠ x := fun j hj => by
  by_cases e : j = k
  · subst e; exact hk
  · exact h j (by omega)

set_option maxRecDepth 100000 in
set_option maxHeartbeats 400000 in
theorem rFind_calls (l : Ov.Files) (v : Value) (x : ByteArray) (base : Nat) (w : World) (hl : l.length ≤ 8) (h : OwnsFiles w base v l) :
    Calls Tryz.prog 166 #[v, .string x] w fun e w' => e = .returned (.int .i64 (Ov.find l x)) ∧ w = w' := by
  rcases ownsRow_forms h with ⟨rfl, h0⟩ | ⟨g, c, rfl⟩
  · have Hf := hide (Ov.find_none (l := l) (x := x) (fun j hj => by omega))
    clear h
    go_enter Tryz.func166, Tryz.ntmps166
    go_wp2
    go_loop [5] (fun i => i = .int .i64 0) (fun _ => 0)
    case atStart => exact rfl
    case round =>
      subst hrel
      go_wp2
      go_ret
      exact ⟨by rw [unhide Hf]; rfl, rfl⟩
  · have HO := hide h
    clear h
    go_enter Tryz.func166, Tryz.ntmps166
    go_wp2
    go_loop [5] (fun i => ∃ k : Nat, k ≤ l.length ∧ i = .int .i64 k ∧ ∀ j, j < k → Ov.nameAt l j ≠ x) (fun i => l.length - (intOf i).toNat)
    case atStart => exact ⟨0, Nat.zero_le _, rfl, fun j hj => by omega⟩
    case round =>
      obtain ⟨k, hk, rfl, hall⟩ := hrel
      by_cases hlt : k < l.length
      · have hc := files_name (unhide HO) hlt
        obtain ⟨y, hy⟩ : ∃ y, y = Ov.nameAt l k := ⟨_, rfl⟩
        rw [← hy] at hc
        have HY := hide hy
        have HA := hide hall
        clear hy hall
        by_cases hq : y = x
        · subst hq
          have Hf := hide (Ov.find_eq (l := l) (unhide HA) hlt (unhide HY).symm)
          go_wp2
          go_ret
          exact ⟨by rw [unhide Hf]; rfl, rfl⟩
        · have hq' : (y.toList == x.toList) = false := by rw [beq_eq_false_iff_ne, ByteArray.toList_eq, ByteArray.toList_eq]; exact fun e => hq (Go.WideShapes.bytes_inj e)
          go_wp2
          go_round
          case rel => exact ⟨k + 1, by omega, by go_num, names_step (unhide HA) (by rw [← unhide HY]; exact hq)⟩
          case measure => simp [intOf]; omega
      · have Hf := hide (Ov.find_none (l := l) (x := x) (fun j hj => hall j (by omega)))
        clear hall
        go_wp2
        go_ret
        exact ⟨by rw [unhide Hf]; rfl, rfl⟩

end Go.Proofs.YtomiepknmmpflaaGreatDoor
