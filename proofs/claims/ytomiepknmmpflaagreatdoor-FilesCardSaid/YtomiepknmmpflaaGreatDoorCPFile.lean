/- The bytes of an image's file, as the program puts them together. -/
import Derived.Test.YtomiepknmmpflaaGreatDoorCWBuild
import Derived.Test.YtomiepknmmpflaaGreatDoorCWMake2
import Derived.Maps.AppendAt
import Derived.Handy
namespace Go.Proofs.YtomiepknmmpflaaGreatDoor
open Go.RowKit Go.Joins

/-- The program's number of a kind. -/
def kindP (k : Int) : Int := if k = 1 then 2 else if k = 255 then 1 else 0
/-- Clusters in memory: kinds and bytes. -/
structure Cls (w : World) (g n : Nat) (ks : List Int) (dk : Nat → List UInt8) : Prop where
  len : ks.length = n
  kind : ∀ k, k < n → w.cell? ⟨g, k * 9, none⟩ = some (.int .i64 (kindP (ks.getD k 0)))
  byte : ∀ k, k < n → ∀ j, j < 8 → w.cell? ⟨g, k * 9 + (j + 1), none⟩ = some (.int .u8 (((dk k).getD j 0).toNat : Nat))
  known : ∀ k, k < n → ks.getD k 0 = 0 ∨ ks.getD k 0 = 1 ∨ ks.getD k 0 = 255
  eight : ∀ k, k < n → (dk k).length = 8
  lt : g < w.heap.size
/-- The entries' bytes, and the data's. -/
def encEs (ks : List Int) : Nat → List UInt8
  | 0 => []
  | k + 1 => encEs ks k ++ [(encE ks k).toNat.toUInt8]
def encDs (ks : List Int) (dk : Nat → List UInt8) : Nat → List UInt8
  | 0 => []
  | k + 1 => if ks.getD k 0 = 1 then encDs ks dk k ++ dk k else encDs ks dk k
theorem encEs_length (ks : List Int) (k : Nat) : (encEs ks k).length = k := by
  induction k with
  | zero => rfl
  | succ k ih => simp [encEs, ih]
theorem encDs_length (ks : List Int) (dk : Nat → List UInt8) (k : Nat) (h : ∀ j, j < k → (dk j).length = 8) : (encDs ks dk k).length = encN ks k * 8 := by
  induction k with
  | zero => rfl
  | succ k ih =>
    have := ih (fun j hj => h j (by omega))
    simp only [encDs, encN]
    split
    · rw [List.length_append, this, h k (by omega)]; omega
    · rw [this]; omega
/-- What the loop has made. -/
structure FI (w : World) (ks : List Int) (dk : Nat → List UInt8) (k : Nat) (ve vd : Value) (wr : World) : Prop where
  e : wr.ownsRow w.heap.size 5 1 ve k (Lib.byteCells (encEs ks k))
  d : wr.ownsRow w.heap.size 5 1 vd (encN ks k * 8) (Lib.byteCells (encDs ks dk k))
  ap : ve.ownBlock = none ∨ ve.ownBlock ≠ vd.ownBlock
  below : Below w.heap.size w wr
theorem FI.alloc {w wr : World} {ks : List Int} {dk : Nat → List UInt8} {k : Nat} {ve vd : Value} (h : FI w ks dk k ve vd wr) (o : Obj) : FI w ks dk k ve vd (wr.alloc o) := ⟨h.e.alloc o, h.d.alloc o, h.ap, h.below.alloc h.below.size o⟩
theorem own_lt {w : World} {base e size n : Nat} {v : Value} {xs : List Value} (h : w.ownsRow base e size v n xs) : v.ownBlock ≠ some w.heap.size := fun e1 => by
  obtain ⟨c, hc⟩ := own_blk h e1
  have := blk_lt hc
  omega
/-- An entry is put behind. -/
theorem FI.entry {w wr w' : World} {ks : List Int} {dk : Nat → List UInt8} {k : Nat} {ve vd v' : Value} {x : Nat} (h : FI w ks dk k ve vd wr) (hx : x < 256) (hg : wr.grownBy w' ve.ownBlock) (ho : w'.ownsRow w.heap.size 5 1 v' (k + 1) (Lib.byteCells (encEs ks k) ++ [.int .u8 (x : Nat)])) (hw : v'.ownBlock = ve.ownBlock ∨ v'.ownBlock = some wr.heap.size) :
    w'.ownsRow w.heap.size 5 1 v' (k + 1) (Lib.byteCells (encEs ks k ++ [x.toUInt8])) ∧ w'.ownsRow w.heap.size 5 1 vd (encN ks k * 8) (Lib.byteCells (encDs ks dk k)) ∧ (v'.ownBlock = none ∨ v'.ownBlock ≠ vd.ownBlock) ∧ Below w.heap.size w w' := by
  refine ⟨by rw [Lib.byteCells_append, byte_one hx]; exact ho, owns_grown h.d hg ?_, ?_, h.below.grown hg h.below.size (fun k hk => (h.e.lt k hk).1)⟩
  · by_cases hv : vd.ownBlock = none
    · exact Or.inl hv
    · refine Or.inr fun e => ?_
      rcases h.ap with a | a
      · rw [a] at e; exact hv e
      · exact a e.symm
  · rcases hw with e | e
    · rw [e]; exact h.ap
    · refine Or.inr fun e2 => ?_
      rw [e] at e2
      exact own_lt h.d e2.symm
/-- An open or a zero cluster. -/
theorem FI.plain {w wr w' : World} {ks : List Int} {dk : Nat → List UInt8} {k : Nat} {ve vd v' : Value} {x : Nat} (h : FI w ks dk k ve vd wr) (hx : x < 256) (hk : ks.getD k 0 = (x : Int)) (h1 : x ≠ 1) (hg : wr.grownBy w' ve.ownBlock) (ho : w'.ownsRow w.heap.size 5 1 v' (k + 1) (Lib.byteCells (encEs ks k) ++ [.int .u8 (x : Nat)])) (hw : v'.ownBlock = ve.ownBlock ∨ v'.ownBlock = some wr.heap.size) : FI w ks dk (k + 1) v' vd w' := by
  obtain ⟨a, b, c, d⟩ := h.entry hx hg ho hw
  have hne : ¬ ks.getD k 0 = 1 := by rw [hk]; omega
  have he : encEs ks (k + 1) = encEs ks k ++ [x.toUInt8] := by
    rw [encEs, encE, if_neg hne, hk, Int.toNat_natCast]
  exact ⟨by rw [he]; exact a, by rw [encDs, if_neg hne, encN, if_neg hne]; exact b, c, d⟩
/-- A data cluster: its entry, and its bytes. -/
theorem FI.data {w wr w1 w2 : World} {ks : List Int} {dk : Nat → List UInt8} {k : Nat} {ve vd v1 v2 : Value} (h : FI w ks dk k ve vd wr) (hk : ks.getD k 0 = 1) (hx : encN ks k + 1 < 256) (hg : wr.grownBy w1 ve.ownBlock) (ho : w1.ownsRow w.heap.size 5 1 v1 (k + 1) (Lib.byteCells (encEs ks k) ++ [.int .u8 ((encN ks k + 1 : Nat) : Nat)])) (hw : v1.ownBlock = ve.ownBlock ∨ v1.ownBlock = some wr.heap.size)
    (hg2 : w1.grownBy w2 vd.ownBlock) (ho2 : w2.ownsRow w.heap.size 5 1 v2 (encN ks k * 8 + 8) (Lib.byteCells (encDs ks dk k) ++ Lib.byteCells (dk k))) (hw2 : v2.ownBlock = vd.ownBlock ∨ v2.ownBlock = some w1.heap.size) : FI w ks dk (k + 1) v1 v2 w2 := by
  obtain ⟨a, b, c, d⟩ := h.entry hx hg ho hw
  have he : encEs ks (k + 1) = encEs ks k ++ [(encN ks k + 1).toUInt8] := by
    rw [encEs, encE, if_pos hk, Int.toNat_natCast]
  refine ⟨by rw [he]; exact owns_grown a hg2 c, ?_, ?_, d.grown hg2 d.size (fun k hk => (b.lt k hk).1)⟩
  · rw [encDs, if_pos hk, encN, if_pos hk, Lib.byteCells_append, Nat.add_mul]; exact ho2
  · rcases hw2 with e | e
    · rw [e]; exact c
    · rw [e]; exact Or.inr (own_lt a)
theorem Cls.nine {w wr : World} {g n : Nat} {ks : List Int} {dk : Nat → List UInt8} (h : Cls w g n ks dk) (hb : Below w.heap.size w wr) {k : Nat} (hk : k < n) : ∃ d0 d1 d2 d3 d4 d5 d6 d7 : UInt8, dk k = [d0, d1, d2, d3, d4, d5, d6, d7] ∧
    wr.cell? ⟨g, k * 9, none⟩ = some (.int .i64 (kindP (ks.getD k 0))) ∧ wr.cell? ⟨g, k * 9 + 1, none⟩ = some (.int .u8 (d0.toNat : Nat)) ∧ wr.cell? ⟨g, k * 9 + 2, none⟩ = some (.int .u8 (d1.toNat : Nat)) ∧ wr.cell? ⟨g, k * 9 + 3, none⟩ = some (.int .u8 (d2.toNat : Nat)) ∧ wr.cell? ⟨g, k * 9 + 4, none⟩ = some (.int .u8 (d3.toNat : Nat)) ∧
    wr.cell? ⟨g, k * 9 + 5, none⟩ = some (.int .u8 (d4.toNat : Nat)) ∧ wr.cell? ⟨g, k * 9 + 6, none⟩ = some (.int .u8 (d5.toNat : Nat)) ∧ wr.cell? ⟨g, k * 9 + 7, none⟩ = some (.int .u8 (d6.toNat : Nat)) ∧ wr.cell? ⟨g, k * 9 + 8, none⟩ = some (.int .u8 (d7.toNat : Nat)) := by
  have h8 := h.eight k hk
  match hd : dk k, h8 with
  | [d0, d1, d2, d3, d4, d5, d6, d7], _ =>
    have hc : ∀ o, wr.cell? ⟨g, o, none⟩ = w.cell? ⟨g, o, none⟩ := fun o => hb.cell (p := ⟨g, o, none⟩) h.lt
    have hy := h.byte k hk
    rw [hd] at hy
    exact ⟨d0, d1, d2, d3, d4, d5, d6, d7, rfl, (hc _).trans (h.kind k hk), (hc _).trans (hy 0 (by omega)), (hc _).trans (hy 1 (by omega)), (hc _).trans (hy 2 (by omega)), (hc _).trans (hy 3 (by omega)), (hc _).trans (hy 4 (by omega)), (hc _).trans (hy 5 (by omega)), (hc _).trans (hy 6 (by omega)), (hc _).trans (hy 7 (by omega))⟩
/-- The file's bytes, in their order. -/
theorem file_bytes (bk : ByteArray) (ks : List Int) (bs : List ByteArray) (dk : Nat → List UInt8) (n : Nat) (hn : ks.length = n) (hd : ∀ k, k < n → ks.getD k 0 = 1 → bs.getD k ⟨#[]⟩ = ⟨(dk k).toArray⟩) :
    (⟨([79, 86, 1] ++ [n.toUInt8] ++ [bk.size.toUInt8] ++ bk.data.toList ++ encEs ks n ++ [(encN ks n).toUInt8] ++ encDs ks dk n).toArray⟩ : ByteArray) = encode bk ks bs := by
  have hB : ∀ k, k ≤ n → encB ks bs k = ⟨(encDs ks dk k).toArray⟩ := by
    intro k
    induction k with
    | zero => intro _; rfl
    | succ k ih =>
      intro hk
      have := ih (by omega)
      simp only [encB, encDs]
      split
      · rename_i h1
        rw [this, hd k (by omega) h1]
        apply ByteArray.ext; simp
      · exact this
  have hF : ∀ k, encF bk ks n k = ⟨([79, 86, 1] ++ [n.toUInt8] ++ [bk.size.toUInt8] ++ bk.data.toList ++ encEs ks k).toArray⟩ := by
    intro k
    induction k with
    | zero =>
      apply ByteArray.ext
      simp [encF, encHead, strOfNums, encEs]
    | succ k ih =>
      rw [encF, ih]
      apply ByteArray.ext
      simp [strOfNums, encEs]
  unfold encode
  rw [hn, hF n, hB n (Nat.le_refl _)]
  apply ByteArray.ext
  simp [strOfNums]

end Go.Proofs.YtomiepknmmpflaaGreatDoor
