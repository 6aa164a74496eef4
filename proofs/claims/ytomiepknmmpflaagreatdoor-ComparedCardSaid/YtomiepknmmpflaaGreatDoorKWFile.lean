/- The walk of the reference's Make, over a backing; and Make whole. -/
import Derived.Test.YtomiepknmmpflaaGreatDoorKWAt
import Derived.Test.YtomiepknmmpflaaGreatDoorKWBuild
import Derived.Maps.AppendAt
import Derived.Handy
namespace Go.Proofs.YtomiepknmmpflaaGreatDoor
open Go.RowKit Go.Joins

end Go.Proofs.YtomiepknmmpflaaGreatDoor

namespace Go.Proofs.YtomiepknmmpflaaGreatDoor
open Go.RowKit Go.Joins

def kindP (k : Int) : Int := if k = 1 then 2 else if k = 255 then 1 else 0
structure Cls (w : World) (g n : Nat) (ks : List Int) (dk : Nat → List UInt8) : Prop where
  len : ks.length = n
  kind : ∀ k, k < n → w.cell? ⟨g, k * 9, none⟩ = some (.int .i64 (kindP (ks.getD k 0)))
  byte : ∀ k, k < n → ∀ j, j < 8 → w.cell? ⟨g, k * 9 + (j + 1), none⟩ = some (.int .u8 (((dk k).getD j 0).toNat : Nat))
  known : ∀ k, k < n → ks.getD k 0 = 0 ∨ ks.getD k 0 = 1 ∨ ks.getD k 0 = 255
  eight : ∀ k, k < n → (dk k).length = 8
  lt : g < w.heap.size
def encEs (ks : List Int) : Nat → List UInt8
  | 0 => []
  | k + 1 => encEs ks k ++ [(encE ks k).toNat.toUInt8]
def encDs (ks : List Int) (dk : Nat → List UInt8) : Nat → List UInt8
  | 0 => []
  | k + 1 => if ks.getD k 0 = 1 then encDs ks dk k ++ dk k else encDs ks dk k
theorem encEs_length (ks : List Int) (k : Nat) : (encEs ks k).length = k := by
  induction k with
  | zero => rfl
  | succ k ih => simp [encEs, ih]
theorem encDs_length (ks : List Int) (dk : Nat → List UInt8) (k : Nat) (h : ∀ j, j < k → (dk j).length = 8) : (encDs ks dk k).length = encN ks k * 8 := by
  induction k with
  | zero => rfl
  | succ k ih =>
    have := ih (fun j hj => h j (by omega))
    simp only [encDs, encN]
    split
    · rw [List.length_append, this, h k (by omega)]; omega
    · rw [this]; omega
structure FI (w : World) (ks : List Int) (dk : Nat → List UInt8) (k : Nat) (ve vd : Value) (wr : World) : Prop where
  e : wr.ownsRow w.heap.size 5 1 ve k (Lib.byteCells (encEs ks k))
  d : wr.ownsRow w.heap.size 5 1 vd (encN ks k * 8) (Lib.byteCells (encDs ks dk k))
  ap : ve.ownBlock = none ∨ ve.ownBlock ≠ vd.ownBlock
  below : Below w.heap.size w wr
theorem FI.alloc {w wr : World} {ks : List Int} {dk : Nat → List UInt8} {k : Nat} {ve vd : Value} (h : FI w ks dk k ve vd wr) (o : Obj) : FI w ks dk k ve vd (wr.alloc o) := ⟨h.e.alloc o, h.d.alloc o, h.ap, h.below.alloc h.below.size o⟩
theorem own_lt {w : World} {base e size n : Nat} {v : Value} {xs : List Value} (h : w.ownsRow base e size v n xs) : v.ownBlock ≠ some w.heap.size := fun e1 => by
  obtain ⟨c, hc⟩ := own_blk h e1
  have := blk_lt hc
  omega
theorem FI.entry {w wr w' : World} {ks : List Int} {dk : Nat → List UInt8} {k : Nat} {ve vd v' : Value} {x : Nat} (h : FI w ks dk k ve vd wr) (hx : x < 256) (hg : wr.grownBy w' ve.ownBlock) (ho : w'.ownsRow w.heap.size 5 1 v' (k + 1) (Lib.byteCells (encEs ks k) ++ [.int .u8 (x : Nat)])) (hw : v'.ownBlock = ve.ownBlock ∨ v'.ownBlock = some wr.heap.size) :
    w'.ownsRow w.heap.size 5 1 v' (k + 1) (Lib.byteCells (encEs ks k ++ [x.toUInt8])) ∧ w'.ownsRow w.heap.size 5 1 vd (encN ks k * 8) (Lib.byteCells (encDs ks dk k)) ∧ (v'.ownBlock = none ∨ v'.ownBlock ≠ vd.ownBlock) ∧ Below w.heap.size w w' := by
  refine ⟨by rw [Lib.byteCells_append, byte_one hx]; exact ho, owns_grown h.d hg ?_, ?_, h.below.grown hg h.below.size (fun k hk => (h.e.lt k hk).1)⟩
  · by_cases hv : vd.ownBlock = none
    · exact Or.inl hv
    · refine Or.inr fun e => ?_
      rcases h.ap with a | a
      · rw [a] at e; exact hv e
      · exact a e.symm
  · rcases hw with e | e
    · rw [e]; exact h.ap
    · refine Or.inr fun e2 => ?_
      rw [e] at e2
      exact own_lt h.d e2.symm
theorem FI.plain {w wr w' : World} {ks : List Int} {dk : Nat → List UInt8} {k : Nat} {ve vd v' : Value} {x : Nat} (h : FI w ks dk k ve vd wr) (hx : x < 256) (hk : ks.getD k 0 = (x : Int)) (h1 : x ≠ 1) (hg : wr.grownBy w' ve.ownBlock) (ho : w'.ownsRow w.heap.size 5 1 v' (k + 1) (Lib.byteCells (encEs ks k) ++ [.int .u8 (x : Nat)])) (hw : v'.ownBlock = ve.ownBlock ∨ v'.ownBlock = some wr.heap.size) : FI w ks dk (k + 1) v' vd w' := by
  obtain ⟨a, b, c, d⟩ := h.entry hx hg ho hw
  have hne : ¬ ks.getD k 0 = 1 := by rw [hk]; omega
  have he : encEs ks (k + 1) = encEs ks k ++ [x.toUInt8] := by
    rw [encEs, encE, if_neg hne, hk, Int.toNat_natCast]
  exact ⟨by rw [he]; exact a, by rw [encDs, if_neg hne, encN, if_neg hne]; exact b, c, d⟩
theorem FI.data {w wr w1 w2 : World} {ks : List Int} {dk : Nat → List UInt8} {k : Nat} {ve vd v1 v2 : Value} (h : FI w ks dk k ve vd wr) (hk : ks.getD k 0 = 1) (hx : encN ks k + 1 < 256) (hg : wr.grownBy w1 ve.ownBlock) (ho : w1.ownsRow w.heap.size 5 1 v1 (k + 1) (Lib.byteCells (encEs ks k) ++ [.int .u8 ((encN ks k + 1 : Nat) : Nat)])) (hw : v1.ownBlock = ve.ownBlock ∨ v1.ownBlock = some wr.heap.size)
    (hg2 : w1.grownBy w2 vd.ownBlock) (ho2 : w2.ownsRow w.heap.size 5 1 v2 (encN ks k * 8 + 8) (Lib.byteCells (encDs ks dk k) ++ Lib.byteCells (dk k))) (hw2 : v2.ownBlock = vd.ownBlock ∨ v2.ownBlock = some w1.heap.size) : FI w ks dk (k + 1) v1 v2 w2 := by
  obtain ⟨a, b, c, d⟩ := h.entry hx hg ho hw
  have he : encEs ks (k + 1) = encEs ks k ++ [(encN ks k + 1).toUInt8] := by
    rw [encEs, encE, if_pos hk, Int.toNat_natCast]
  refine ⟨by rw [he]; exact owns_grown a hg2 c, ?_, ?_, d.grown hg2 d.size (fun k hk => (b.lt k hk).1)⟩
  · rw [encDs, if_pos hk, encN, if_pos hk, Lib.byteCells_append, Nat.add_mul]; exact ho2
  · rcases hw2 with e | e
    · rw [e]; exact c
    · rw [e]; exact Or.inr (own_lt a)
theorem Cls.nine {w wr : World} {g n : Nat} {ks : List Int} {dk : Nat → List UInt8} (h : Cls w g n ks dk) (hb : Below w.heap.size w wr) {k : Nat} (hk : k < n) : ∃ d0 d1 d2 d3 d4 d5 d6 d7 : UInt8, dk k = [d0, d1, d2, d3, d4, d5, d6, d7] ∧
    wr.cell? ⟨g, k * 9, none⟩ = some (.int .i64 (kindP (ks.getD k 0))) ∧ wr.cell? ⟨g, k * 9 + 1, none⟩ = some (.int .u8 (d0.toNat : Nat)) ∧ wr.cell? ⟨g, k * 9 + 2, none⟩ = some (.int .u8 (d1.toNat : Nat)) ∧ wr.cell? ⟨g, k * 9 + 3, none⟩ = some (.int .u8 (d2.toNat : Nat)) ∧ wr.cell? ⟨g, k * 9 + 4, none⟩ = some (.int .u8 (d3.toNat : Nat)) ∧
    wr.cell? ⟨g, k * 9 + 5, none⟩ = some (.int .u8 (d4.toNat : Nat)) ∧ wr.cell? ⟨g, k * 9 + 6, none⟩ = some (.int .u8 (d5.toNat : Nat)) ∧ wr.cell? ⟨g, k * 9 + 7, none⟩ = some (.int .u8 (d6.toNat : Nat)) ∧ wr.cell? ⟨g, k * 9 + 8, none⟩ = some (.int .u8 (d7.toNat : Nat)) := by
  have h8 := h.eight k hk
  match hd : dk k, h8 with
  | [d0, d1, d2, d3, d4, d5, d6, d7], _ =>
    have hc : ∀ o, wr.cell? ⟨g, o, none⟩ = w.cell? ⟨g, o, none⟩ := fun o => hb.cell (p := ⟨g, o, none⟩) h.lt
    have hy := h.byte k hk
    rw [hd] at hy
    exact ⟨d0, d1, d2, d3, d4, d5, d6, d7, rfl, (hc _).trans (h.kind k hk), (hc _).trans (hy 0 (by omega)), (hc _).trans (hy 1 (by omega)), (hc _).trans (hy 2 (by omega)), (hc _).trans (hy 3 (by omega)), (hc _).trans (hy 4 (by omega)), (hc _).trans (hy 5 (by omega)), (hc _).trans (hy 6 (by omega)), (hc _).trans (hy 7 (by omega))⟩
theorem file_bytes (bk : ByteArray) (ks : List Int) (bs : List ByteArray) (dk : Nat → List UInt8) (n : Nat) (hn : ks.length = n) (hd : ∀ k, k < n → ks.getD k 0 = 1 → bs.getD k ⟨#[]⟩ = ⟨(dk k).toArray⟩) :
    (⟨([79, 86, 1] ++ [n.toUInt8] ++ [bk.size.toUInt8] ++ bk.data.toList ++ encEs ks n ++ [(encN ks n).toUInt8] ++ encDs ks dk n).toArray⟩ : ByteArray) = encode bk ks bs := by
  have hB : ∀ k, k ≤ n → encB ks bs k = ⟨(encDs ks dk k).toArray⟩ := by
    intro k
    induction k with
    | zero => intro _; rfl
    | succ k ih =>
      intro hk
      have := ih (by omega)
      simp only [encB, encDs]
      split
      · rename_i h1
        rw [this, hd k (by omega) h1]
        apply ByteArray.ext; simp
      · exact this
  have hF : ∀ k, encF bk ks n k = ⟨([79, 86, 1] ++ [n.toUInt8] ++ [bk.size.toUInt8] ++ bk.data.toList ++ encEs ks k).toArray⟩ := by
    intro k
    induction k with
    | zero =>
      apply ByteArray.ext
      simp [encF, encHead, strOfNums, encEs]
    | succ k ih =>
      rw [encF, ih]
      apply ByteArray.ext
      simp [strOfNums, encEs]
  unfold encode
  rw [hn, hF n, hB n (Nat.le_refl _)]
  apply ByteArray.ext
  simp [strOfNums]

end Go.Proofs.YtomiepknmmpflaaGreatDoor

namespace Go.Proofs.YtomiepknmmpflaaGreatDoor
open Go.RowKit Go.Joins

theorem own_keeps {w w' : World} {base n k : Nat} {v : Value} {xs : List Value} {cs : Array Value} (h : w.ownsRow base 5 1 v n xs) (hg : w.grownBy w' v.ownBlock) (hk : w.heap[k]? = some (.cells cs 90 (0, 0))) : w'.heap[k]? = some (.cells cs 90 (0, 0)) := by
  rw [hg.block k (blk_lt hk) (own_ne h hk (by decide))]; exact hk
theorem own_keeps2 {w w' : World} {base n k : Nat} {v : Value} {xs : List Value} {cs : Array Value} (h : w.ownsRow base 5 1 v n xs) (hg : w.grownBy w' v.ownBlock) (hk : w.heap[k]? = some (.cells cs 160 (0, 0))) : w'.heap[k]? = some (.cells cs 160 (0, 0)) := by
  rw [hg.block k (blk_lt hk) (own_ne h hk (by decide))]; exact hk
theorem src_eight {w : World} {b : Nat} {q : Value} {l : List UInt8} {t : TypeId} (hb : w.heap[b]? = some (.cells (q :: Lib.byteCells l).toArray t (0, 0))) : ∀ (j : Nat) (u : Value), (Lib.byteCells l)[j]? = some u → w.cell? ((⟨b, 1, none⟩ : Addr).add j) = some u := by
  intro j u hj
  have e : (⟨b, 1, none⟩ : Addr).add j = ⟨b, j + 1, none⟩ := by
    cases j with
    | zero => rfl
    | succ j => simp [Addr.add]; omega
  rw [e]
  exact blk_cell hb (by simpa using hj)
theorem FI.mid {w wr w2 : World} {ks : List Int} {dk : Nat → List UInt8} {k N : Nat} {ve vd v2 : Value} {d0 d1 d2 d3 d4 d5 d6 d7 : UInt8} {o : Obj} {q : Value} (h : FI w ks dk k ve vd wr) (hN : encN ks k = N) (hx : N + 1 < 256) (hdk : dk k = [d0, d1, d2, d3, d4, d5, d6, d7])
    (hg : ((wr.alloc (.cells #[q, .int .u8 (d0.toNat : Nat), .int .u8 (d1.toNat : Nat), .int .u8 (d2.toNat : Nat), .int .u8 (d3.toNat : Nat), .int .u8 (d4.toNat : Nat), .int .u8 (d5.toNat : Nat), .int .u8 (d6.toNat : Nat), .int .u8 (d7.toNat : Nat)] 160)).alloc o).grownBy w2 ve.ownBlock) (ho : w2.ownsRow w.heap.size 5 1 v2 (k + 1) (Lib.byteCells (encEs ks k) ++ [.int .u8 ((N + 1 : Nat) : Nat)])) (hw : v2.ownBlock = ve.ownBlock ∨ v2.ownBlock = some ((wr.alloc (.cells #[q, .int .u8 (d0.toNat : Nat), .int .u8 (d1.toNat : Nat), .int .u8 (d2.toNat : Nat), .int .u8 (d3.toNat : Nat), .int .u8 (d4.toNat : Nat), .int .u8 (d5.toNat : Nat), .int .u8 (d6.toNat : Nat), .int .u8 (d7.toNat : Nat)] 160)).alloc o).heap.size) :
    (Lib.byteCells (dk k)).length = 8 * 1 ∧ w2.ownsRow w.heap.size 5 1 vd (N * 8) (Lib.byteCells (encDs ks dk k)) ∧ (∀ (j : Nat) (u : Value), (Lib.byteCells (dk k))[j]? = some u → w2.cell? ((⟨wr.heap.size, 1, none⟩ : Addr).add j) = some u) ∧ w.heap.size ≤ w2.heap.size := by
  have h2 := (h.alloc (.cells #[q, .int .u8 (d0.toNat : Nat), .int .u8 (d1.toNat : Nat), .int .u8 (d2.toNat : Nat), .int .u8 (d3.toNat : Nat), .int .u8 (d4.toNat : Nat), .int .u8 (d5.toNat : Nat), .int .u8 (d6.toNat : Nat), .int .u8 (d7.toNat : Nat)] 160)).alloc o
  obtain ⟨_, b, _, d⟩ := h2.entry hx hg ho hw
  refine ⟨by rw [hdk]; rfl, by rw [← hN]; exact b, ?_, d.size⟩
  have hb := own_keeps2 h2.e hg (blk_alloc (blk_new wr _) o)
  rw [hdk]
  exact src_eight (l := [d0, d1, d2, d3, d4, d5, d6, d7]) hb
theorem below_alloc1_at {w : World} {n : Nat} {o : Obj} (h : n ≤ w.heap.size) : Below n w (w.alloc o) := (below_alloc1 w o).mono h
theorem le_alloc (w : World) (o : Obj) : w.heap.size ≤ (w.alloc o).heap.size := by simp
theorem bd_string {w : World} {B b : Nat} {l : List UInt8} {s : ByteArray} (h : Bd w B b l) (hB : B ≤ w.heap.size) (hs : (⟨l.toArray⟩ : ByteArray) = s) : Calls Tryz.prog 88 #[.pointer (some ⟨b, 0, none⟩)] w fun e w' => e = .returned (.string s) ∧ Below B w w' := by
  have := Tryz.Builder_String_any B b l w h hB
  rw [hs] at this
  exact this
theorem encN_plain {ks : List Int} {k : Nat} {x : Int} (h : ks.getD k 0 = x) (hx : x ≠ 1) : encN ks (k + 1) = encN ks k := by rw [encN, if_neg (by rw [h]; exact hx)]; rfl
theorem encN_data {ks : List Int} {k : Nat} (h : ks.getD k 0 = 1) : encN ks (k + 1) = encN ks k + 1 := by rw [encN, if_pos h]

set_option maxRecDepth 100000 in
set_option maxHeartbeats 4000000 in
theorem ofile_callsC (cp : Nat) (bk : ByteArray) (g n : Nat) (t : Int) (ks : List Int) (bs : List ByteArray) (dk : Nat → List UInt8) (w : World) (h : Cls w g n ks dk) (hd : ∀ k, k < n → ks.getD k 0 = 1 → bs.getD k ⟨#[]⟩ = ⟨(dk k).toArray⟩) (hn0 : 1 ≤ n) (hn : n ≤ 30) (hb : bk.size ≤ 8) :
    Calls Tryz.prog 54 #[.agg #[.string bk, .slice (some ⟨g, 0, none⟩) n cp, .int .i64 t]] w fun e w' => e = .returned (.string (encode bk ks bs)) ∧ Below w.heap.size w w' := by
  obtain ⟨i0, hi, hz0, hz1, hz2⟩ := info_parts Tryz.bdByte
  have HC := hide h
  have hgl := h.lt
  have HF := hide (file_bytes bk ks bs dk n h.len hd)
  clear h hd
  go_enter Tryz.func54, Tryz.ntmps54
  go_wp2
  go_loopw [3, 5, 4, 12] (fun ve vm vd i wr => ∃ (k : Nat) (ae ad : Option Addr) (ce cd : Nat), k ≤ n ∧ i = .int .i64 k ∧ vm = .int .i64 (encN ks k : Nat) ∧ ve = .slice ae k ce ∧ vd = .slice ad (encN ks k * 8) cd ∧ FI w ks dk k (.slice ae k ce) (.slice ad (encN ks k * 8) cd) wr ∧ wr.heap[w.heap.size]? = some (.cells #[.string bk, .slice (some ⟨g, 0, none⟩) n cp, .int .i64 t] 90 (0, 0))) (fun _ _ _ i _ => n - (intOf i).toNat)
  case atStart => exact ⟨0, none, none, 0, 0, Nat.zero_le _, rfl, rfl, rfl, rfl, ⟨World.ownsRow_nil _ _ _ _, World.ownsRow_nil _ _ _ _, Or.inl rfl, below_alloc1 w _⟩, blk_new _ _⟩
  case round =>
    obtain ⟨k, ae, ad, ce, cd, hk, rfl, rfl, rfl, rfl, hf, hm⟩ := hrel
    have HFI := hide hf
    have HM := hide hm
    have hsz := hf.below.size
    have hml := blk_lt hm
    by_cases hlt : k < n
    · obtain ⟨d0, d1, d2, d3, d4, d5, d6, d7, hdk, c0, y1, y2, y3, y4, y5, y6, y7, y8⟩ := (unhide HC).nine hf.below hlt
      have hkn := (unhide HC).known k hlt
      have HDK := hide hdk
      have hN := encN_le ks k
      clear hf hm hdk
      rcases hkn with hq | hq | hq
      · have HQ := hide hq
        rw [hq] at c0
        have ck : wr.cell? ⟨g, k * 9, none⟩ = some (.int .i64 0) := c0
        clear hq c0
        go_wp2_with (at_builtin; refine wpList_append_own_at _ rfl (.tmp 20) (.tmp 21) 103 rfl w.heap.size 5 i0 (.int .u8 0) 1 1 Tryz.underlying103 hi hz0 hz1 hz2 rfl (by decide) _ _ _ rfl (((unhide HFI).alloc _).alloc _).e ⟨wr.heap.size + 1, 0, none⟩ 1 1 [.int .u8 (0 : Nat)] rfl rfl (one_new (by simp)) (by intro u hu; simp at hu; subst hu; rfl) (by unfold maxLen; omega) (by omega) (by simp; omega) ?_; intro v2 w2 ho2 hg2 _ hw2; obtain ⟨g2, c2, rfl⟩ := ownsRow_form ho2 (by omega))
        go_roundw
        case rel => exact ⟨k + 1, _, ad, c2, cd, by omega, by go_num, by rw [encN_plain (unhide HQ) (by decide)], rfl, by rw [encN_plain (unhide HQ) (by decide)], by rw [encN_plain (unhide HQ) (by decide)]; exact (((unhide HFI).alloc _).alloc _).plain (x := 0) (by omega) (unhide HQ) (by omega) hg2 ho2 hw2, own_keeps (((unhide HFI).alloc _).alloc _).e hg2 (blk_alloc (blk_alloc (unhide HM) _) _)⟩
        case measure => simp [intOf]; omega
      · have HQ := hide hq
        rw [hq] at c0
        have ck : wr.cell? ⟨g, k * 9, none⟩ = some (.int .i64 2) := c0
        have HN := hide (encN_data hq)
        clear hq c0
        obtain ⟨N, hNe⟩ : ∃ N, encN ks k = N := ⟨_, rfl⟩
        have HNE := hide hNe
        have hw8 : IntKind.u8.wrap ((N : Int) + 1) = ((N + 1 : Nat) : Int) := by rw [IntKind.wrap_u8]; omega
        rw [hNe] at HFI hN ⊢
        clear hNe
        go_wp2_with (first
          | (at_builtin; refine wpList_append_own_at _ rfl (.tmp 37) (.tmp 39) 103 rfl w.heap.size 5 i0 (.int .u8 0) 1 1 Tryz.underlying103 hi hz0 hz1 hz2 rfl (by decide) (.slice ad (N * 8) cd) (N * 8) _ rfl (unhide HR).2.1 ⟨wr.heap.size, 1, none⟩ 8 8 (Lib.byteCells (dk k)) rfl (unhide HR).1 (unhide HR).2.2.1 (bytes_one _) (by unfold maxLen; omega) (by omega) (by omega) ?_; intro v3 w3 ho3 hg3 _ hw3; obtain ⟨a3, c3, rfl⟩ := owns_slice ho3)
          | (at_builtin; refine wpList_append_own_at _ rfl (.tmp 32) (.tmp 35) 103 rfl w.heap.size 5 i0 (.int .u8 0) 1 1 Tryz.underlying103 hi hz0 hz1 hz2 rfl (by decide) (.slice ae k ce) k _ rfl (((unhide HFI).alloc _).alloc _).e ⟨wr.heap.size + 1, 0, none⟩ 1 1 [.int .u8 ((N + 1 : Nat) : Nat)] rfl rfl (one_new (by simp)) (by intro u hu; simp at hu; subst hu; rfl) (by unfold maxLen; omega) (by omega) (by simp; omega) ?_; intro v2 w2 ho2 hg2 _ hw2; obtain ⟨g2, c2, rfl⟩ := ownsRow_form ho2 (by omega); have HR := hide ((unhide HFI).mid (unhide HNE) (by omega) (unhide HDK) hg2 ho2 hw2); have hs2 := (unhide HR).2.2.2; have HG2 := hide hg2; have HO2 := hide ho2; have HW2 := hide hw2; clear hg2 ho2 hw2))
        go_roundw
        case rel =>
          have hfi := (((unhide HFI).alloc _).alloc _).data (unhide HQ) (by rw [unhide HNE]; omega) (unhide HG2) (by rw [unhide HNE]; exact unhide HO2) (unhide HW2) hg3 (by rw [unhide HNE]; exact ho3) hw3
          exact ⟨k + 1, _, a3, c2, c3, by omega, by go_num, by rw [unhide HN, unhide HNE]; rfl, rfl, by rw [unhide HN, unhide HNE, Nat.add_mul], by rw [unhide HN, unhide HNE, Nat.add_mul]; exact hfi, own_keeps (unhide HR).2.1 hg3 (own_keeps (((unhide HFI).alloc _).alloc _).e (unhide HG2) (blk_alloc (blk_alloc (unhide HM) _) _))⟩
        case measure => simp [intOf]; omega
      · have HQ := hide hq
        rw [hq] at c0
        have ck : wr.cell? ⟨g, k * 9, none⟩ = some (.int .i64 1) := c0
        clear hq c0
        go_wp2_with (at_builtin; refine wpList_append_own_at _ rfl (.tmp 25) (.tmp 26) 103 rfl w.heap.size 5 i0 (.int .u8 0) 1 1 Tryz.underlying103 hi hz0 hz1 hz2 rfl (by decide) _ _ _ rfl (((unhide HFI).alloc _).alloc _).e ⟨wr.heap.size + 1, 0, none⟩ 1 1 [.int .u8 (255 : Nat)] rfl rfl (one_new (by simp)) (by intro u hu; simp at hu; subst hu; rfl) (by unfold maxLen; omega) (by omega) (by simp; omega) ?_; intro v2 w2 ho2 hg2 _ hw2; obtain ⟨g2, c2, rfl⟩ := ownsRow_form ho2 (by omega))
        go_roundw
        case rel => exact ⟨k + 1, _, ad, c2, cd, by omega, by go_num, by rw [encN_plain (unhide HQ) (by decide)], rfl, by rw [encN_plain (unhide HQ) (by decide)], by rw [encN_plain (unhide HQ) (by decide)]; exact (((unhide HFI).alloc _).alloc _).plain (x := 255) (by omega) (unhide HQ) (by omega) hg2 ho2 hw2, own_keeps (((unhide HFI).alloc _).alloc _).e hg2 (blk_alloc (blk_alloc (unhide HM) _) _)⟩
        case measure => simp [intOf]; omega
    · obtain rfl : k = n := by omega
      have m0 : ∀ o, (wr.alloc o).cell? ⟨w.heap.size, 0, none⟩ = some (.string bk) := fun o => blk_cell (blk_alloc (unhide HM) o) rfl
      have m1 : ∀ o, (wr.alloc o).cell? ⟨w.heap.size, 1, none⟩ = some (.slice (some ⟨g, 0, none⟩) k cp) := fun o => blk_cell (blk_alloc (unhide HM) o) rfl
      have H0 := hide (Lib.fresh_isBuilder 142 5 wr)
      have hN := encN_le ks k
      have HDL := hide (encDs_length ks dk k (unhide HC).eight)
      obtain ⟨ge, ce', hve⟩ := ownsRow_form hf.e (by omega)
      obtain ⟨rfl, rfl⟩ : ae = some ⟨ge, 0, none⟩ ∧ ce = ce' := by simpa using hve
      have HE : Hid (∀ (j : Nat) (u : Value), (Lib.byteCells (encEs ks k))[j]? = some u → (wr.alloc (.cells #[.pointer none, .slice none 0 0] 142)).cell? ((⟨ge, 0, none⟩ : Addr).add j) = some u) := fun j u hu => (hf.e.alloc (.cells #[.pointer none, .slice none 0 0] 142)).cells rfl j u hu
      have hge : ge < wr.heap.size := (hf.e.lt ge rfl).2
      have HDD := hide hf.d
      have HBL := hide hf.below
      obtain ⟨N, hNe⟩ : ∃ N, encN ks k = N := ⟨_, rfl⟩
      rw [hNe] at HFI hN HF HDL HDD ⊢
      have w1 : IntKind.u8.wrap (k : Int) = (k : Int) := by rw [IntKind.wrap_u8]; omega
      have w2 : IntKind.u8.wrap (bk.size : Int) = (bk.size : Int) := by rw [IntKind.wrap_u8]; omega
      have w3 : IntKind.u8.wrap (N : Int) = (N : Int) := by rw [IntKind.wrap_u8]; omega
      have HL1 : Hid (([79, 86, 1] : List UInt8).length ≤ 100000) := by show _ ≤ _; decide
      have HL2 : Hid (([79, 86, 1] ++ [k.toUInt8]).length ≤ 100000) := by show _ ≤ _; simp
      have HL3 : Hid (([79, 86, 1] ++ [k.toUInt8] ++ [bk.size.toUInt8]).length ≤ 100000) := by show _ ≤ _; simp
      have hbkl : bk.data.toList.length = bk.size := rfl
      have HL4 : Hid (([79, 86, 1] ++ [k.toUInt8] ++ [bk.size.toUInt8] ++ bk.data.toList).length ≤ 100000) := by show _ ≤ _; simp only [List.length_append, List.length_cons, List.length_nil, hbkl]; omega
      have HL5 : Hid (([79, 86, 1] ++ [k.toUInt8] ++ [bk.size.toUInt8] ++ bk.data.toList ++ encEs ks k).length ≤ 100000) := by show _ ≤ _; simp only [List.length_append, List.length_cons, List.length_nil, hbkl, encEs_length]; omega
      have HL6 : Hid (([79, 86, 1] ++ [k.toUInt8] ++ [bk.size.toUInt8] ++ bk.data.toList ++ encEs ks k ++ [N.toUInt8]).length ≤ 100000) := by show _ ≤ _; simp only [List.length_append, List.length_cons, List.length_nil, hbkl, encEs_length]; omega
      clear hNe hf hm hve
      rcases ownsRow_forms (unhide HDD) with ⟨hvd, e0⟩ | ⟨gd, cd', hvd⟩
      · obtain ⟨rfl, hN0, rfl⟩ : ad = none ∧ N * 8 = 0 ∧ cd = 0 := by simpa using hvd
        obtain rfl : N = 0 := by omega
        have HDN : Hid (encDs ks dk k = []) := List.length_eq_zero_iff.1 (unhide HDL)
        have HF7 : Hid ((⟨([79, 86, 1] ++ [k.toUInt8] ++ [bk.size.toUInt8] ++ bk.data.toList ++ encEs ks k ++ [(0 : Nat).toUInt8]).toArray⟩ : ByteArray) = encode bk ks bs) := by have := unhide HF; rw [unhide HDN, List.append_nil] at this; exact this
        go_wp2_with (first
          | (go_at_call 88; refine (bd_string (.inr (unhide HD7)) (by omega) (unhide HF7)).mono ?_; rintro e u8 ⟨rfl, hb8⟩)
          | (go_at_call 95; refine (oWrite_none wr.heap.size wr.heap.size ([79, 86, 1] ++ [k.toUInt8] ++ [bk.size.toUInt8] ++ bk.data.toList ++ encEs ks k ++ [(0 : Nat).toUInt8]) _ (.inr (unhide HD6)) (by omega)).mono ?_; rintro e u7 ⟨rfl, h7⟩; have HB7 := hide ((unhide HB6).trans h7.below); have HD7 := hide h7.bd; have z7 : wr.heap.size ≤ u7.heap.size := Nat.le_trans (le_alloc wr _) (unhide HB7).size; have p7 := ((unhide HB7).cell (p := ⟨w.heap.size, 0, none⟩) hml).trans (m0 _); have q7 := ((unhide HB7).cell (p := ⟨w.heap.size, 1, none⟩) hml).trans (m1 _); clear h7)
          | (go_at_call 86; refine (oWriteByte_calls wr.heap.size wr.heap.size ([79, 86, 1] ++ [k.toUInt8] ++ [bk.size.toUInt8] ++ bk.data.toList ++ encEs ks k) 0 _ (.inr (unhide HD5)) (by omega) (unhide HL5) (by omega)).mono ?_; rintro e u6 ⟨rfl, h6⟩; have HB6 := hide ((unhide HB5).trans h6.below); have HD6 := hide h6.bd; have z6 : wr.heap.size ≤ u6.heap.size := Nat.le_trans (le_alloc wr _) (unhide HB6).size; have p6 := ((unhide HB6).cell (p := ⟨w.heap.size, 0, none⟩) hml).trans (m0 _); have q6 := ((unhide HB6).cell (p := ⟨w.heap.size, 1, none⟩) hml).trans (m1 _); clear h6)
          | (go_at_call_of 95 ge; refine (oWrite_calls wr.heap.size wr.heap.size ge k ce ([79, 86, 1] ++ [k.toUInt8] ++ [bk.size.toUInt8] ++ bk.data.toList) (encEs ks k) _ (.inr (unhide HD4)) (encEs_length ks k) hge (fun j u hj => ((unhide HB4).cell (p := (⟨ge, 0, none⟩ : Addr).add j) (by rw [add_block]; exact hge)).trans (unhide HE j u hj)) (by omega) (unhide HL4) (by omega)).mono ?_; rintro e u5 ⟨rfl, h5⟩; have HB5 := hide ((unhide HB4).trans h5.below); have HD5 := hide h5.bd; have z5 : wr.heap.size ≤ u5.heap.size := Nat.le_trans (le_alloc wr _) (unhide HB5).size; have p5 := ((unhide HB5).cell (p := ⟨w.heap.size, 0, none⟩) hml).trans (m0 _); have q5 := ((unhide HB5).cell (p := ⟨w.heap.size, 1, none⟩) hml).trans (m1 _); clear h5)
          | (go_at_call_of 87 bk; refine (oWriteString_calls wr.heap.size wr.heap.size ([79, 86, 1] ++ [k.toUInt8] ++ [bk.size.toUInt8]) bk _ (.inr (unhide HD3)) (by omega) (unhide HL3) (by omega)).mono ?_; rintro e u4 ⟨rfl, h4⟩; have HB4 := hide ((unhide HB3).trans h4.below); have HD4 := hide h4.bd; have z4 : wr.heap.size ≤ u4.heap.size := Nat.le_trans (le_alloc wr _) (unhide HB4).size; have p4 := ((unhide HB4).cell (p := ⟨w.heap.size, 0, none⟩) hml).trans (m0 _); have q4 := ((unhide HB4).cell (p := ⟨w.heap.size, 1, none⟩) hml).trans (m1 _); clear h4)
          | (go_at_call_of 86 bk; refine (oWriteByte_calls wr.heap.size wr.heap.size ([79, 86, 1] ++ [k.toUInt8]) bk.size _ (.inr (unhide HD2)) (by omega) (unhide HL2) (by omega)).mono ?_; rintro e u3 ⟨rfl, h3⟩; have HB3 := hide ((unhide HB2).trans h3.below); have HD3 := hide h3.bd; have z3 : wr.heap.size ≤ u3.heap.size := Nat.le_trans (le_alloc wr _) (unhide HB3).size; have p3 := ((unhide HB3).cell (p := ⟨w.heap.size, 0, none⟩) hml).trans (m0 _); have q3 := ((unhide HB3).cell (p := ⟨w.heap.size, 1, none⟩) hml).trans (m1 _); clear h3)
          | (go_at_call_of 86 k; refine (oWriteByte_calls wr.heap.size wr.heap.size [79, 86, 1] k _ (.inr (unhide HD1)) (by omega) (unhide HL1) (by omega)).mono ?_; rintro e u2 ⟨rfl, h2⟩; have HB2 := hide ((unhide HB1).trans h2.below); have HD2 := hide h2.bd; have z2 : wr.heap.size ≤ u2.heap.size := Nat.le_trans (le_alloc wr _) (unhide HB2).size; have p2 := ((unhide HB2).cell (p := ⟨w.heap.size, 0, none⟩) hml).trans (m0 _); have q2 := ((unhide HB2).cell (p := ⟨w.heap.size, 1, none⟩) hml).trans (m1 _); clear h2)
          | (go_at_call 87; refine (oWriteString_calls wr.heap.size wr.heap.size [] ⟨#[79, 86, 1]⟩ _ (unhide H0) (by decide) (by simp) (by simp)).mono ?_; rintro e u1 ⟨rfl, h1⟩; have HB1 := hide (h1.below); have HD1 := hide h1.bd; have z1 : wr.heap.size ≤ u1.heap.size := Nat.le_trans (le_alloc wr _) (unhide HB1).size; have p1 := ((unhide HB1).cell (p := ⟨w.heap.size, 0, none⟩) hml).trans (m0 _); have q1 := ((unhide HB1).cell (p := ⟨w.heap.size, 1, none⟩) hml).trans (m1 _); clear h1))
        go_ret
        exact ⟨rfl, ((unhide HBL).trans (below_alloc1_at hsz)).trans (((unhide HB7).trans hb8).mono hsz)⟩
      · obtain ⟨rfl, rfl⟩ : ad = some ⟨gd, 0, none⟩ ∧ cd = cd' := by simpa using hvd
        have HDC : Hid (∀ (j : Nat) (u : Value), (Lib.byteCells (encDs ks dk k))[j]? = some u → (wr.alloc (.cells #[.pointer none, .slice none 0 0] 142)).cell? ((⟨gd, 0, none⟩ : Addr).add j) = some u) := fun j u hu => ((unhide HDD).alloc (.cells #[.pointer none, .slice none 0 0] 142)).cells rfl j u hu
        have hgd : gd < wr.heap.size := ((unhide HDD).lt gd rfl).2
        have HF7 := HF
        go_wp2_with (first
          | (go_at_call 88; refine (bd_string (.inr (unhide HD7)) (by omega) (unhide HF7)).mono ?_; rintro e u8 ⟨rfl, hb8⟩)
          | (go_at_call_of 95 gd; refine (oWrite_calls wr.heap.size wr.heap.size gd (N * 8) cd ([79, 86, 1] ++ [k.toUInt8] ++ [bk.size.toUInt8] ++ bk.data.toList ++ encEs ks k ++ [N.toUInt8]) (encDs ks dk k) _ (.inr (unhide HD6)) (unhide HDL) hgd (fun j u hj => ((unhide HB6).cell (p := (⟨gd, 0, none⟩ : Addr).add j) (by rw [add_block]; simp; omega)).trans (unhide HDC j u hj)) (by omega) (unhide HL6) (by omega)).mono ?_; rintro e u7 ⟨rfl, h7⟩; have HB7 := hide ((unhide HB6).trans h7.below); have HD7 := hide h7.bd; have z7 : wr.heap.size ≤ u7.heap.size := Nat.le_trans (le_alloc wr _) (unhide HB7).size; have p7 := ((unhide HB7).cell (p := ⟨w.heap.size, 0, none⟩) hml).trans (m0 _); have q7 := ((unhide HB7).cell (p := ⟨w.heap.size, 1, none⟩) hml).trans (m1 _); clear h7)
          | (go_at_call 86; refine (oWriteByte_calls wr.heap.size wr.heap.size ([79, 86, 1] ++ [k.toUInt8] ++ [bk.size.toUInt8] ++ bk.data.toList ++ encEs ks k) N _ (.inr (unhide HD5)) (by omega) (unhide HL5) (by omega)).mono ?_; rintro e u6 ⟨rfl, h6⟩; have HB6 := hide ((unhide HB5).trans h6.below); have HD6 := hide h6.bd; have z6 : wr.heap.size ≤ u6.heap.size := Nat.le_trans (le_alloc wr _) (unhide HB6).size; have p6 := ((unhide HB6).cell (p := ⟨w.heap.size, 0, none⟩) hml).trans (m0 _); have q6 := ((unhide HB6).cell (p := ⟨w.heap.size, 1, none⟩) hml).trans (m1 _); clear h6)
          | (go_at_call_of 95 ge; refine (oWrite_calls wr.heap.size wr.heap.size ge k ce ([79, 86, 1] ++ [k.toUInt8] ++ [bk.size.toUInt8] ++ bk.data.toList) (encEs ks k) _ (.inr (unhide HD4)) (encEs_length ks k) hge (fun j u hj => ((unhide HB4).cell (p := (⟨ge, 0, none⟩ : Addr).add j) (by rw [add_block]; exact hge)).trans (unhide HE j u hj)) (by omega) (unhide HL4) (by omega)).mono ?_; rintro e u5 ⟨rfl, h5⟩; have HB5 := hide ((unhide HB4).trans h5.below); have HD5 := hide h5.bd; have z5 : wr.heap.size ≤ u5.heap.size := Nat.le_trans (le_alloc wr _) (unhide HB5).size; have p5 := ((unhide HB5).cell (p := ⟨w.heap.size, 0, none⟩) hml).trans (m0 _); have q5 := ((unhide HB5).cell (p := ⟨w.heap.size, 1, none⟩) hml).trans (m1 _); clear h5)
          | (go_at_call_of 87 bk; refine (oWriteString_calls wr.heap.size wr.heap.size ([79, 86, 1] ++ [k.toUInt8] ++ [bk.size.toUInt8]) bk _ (.inr (unhide HD3)) (by omega) (unhide HL3) (by omega)).mono ?_; rintro e u4 ⟨rfl, h4⟩; have HB4 := hide ((unhide HB3).trans h4.below); have HD4 := hide h4.bd; have z4 : wr.heap.size ≤ u4.heap.size := Nat.le_trans (le_alloc wr _) (unhide HB4).size; have p4 := ((unhide HB4).cell (p := ⟨w.heap.size, 0, none⟩) hml).trans (m0 _); have q4 := ((unhide HB4).cell (p := ⟨w.heap.size, 1, none⟩) hml).trans (m1 _); clear h4)
          | (go_at_call_of 86 bk; refine (oWriteByte_calls wr.heap.size wr.heap.size ([79, 86, 1] ++ [k.toUInt8]) bk.size _ (.inr (unhide HD2)) (by omega) (unhide HL2) (by omega)).mono ?_; rintro e u3 ⟨rfl, h3⟩; have HB3 := hide ((unhide HB2).trans h3.below); have HD3 := hide h3.bd; have z3 : wr.heap.size ≤ u3.heap.size := Nat.le_trans (le_alloc wr _) (unhide HB3).size; have p3 := ((unhide HB3).cell (p := ⟨w.heap.size, 0, none⟩) hml).trans (m0 _); have q3 := ((unhide HB3).cell (p := ⟨w.heap.size, 1, none⟩) hml).trans (m1 _); clear h3)
          | (go_at_call_of 86 k; refine (oWriteByte_calls wr.heap.size wr.heap.size [79, 86, 1] k _ (.inr (unhide HD1)) (by omega) (unhide HL1) (by omega)).mono ?_; rintro e u2 ⟨rfl, h2⟩; have HB2 := hide ((unhide HB1).trans h2.below); have HD2 := hide h2.bd; have z2 : wr.heap.size ≤ u2.heap.size := Nat.le_trans (le_alloc wr _) (unhide HB2).size; have p2 := ((unhide HB2).cell (p := ⟨w.heap.size, 0, none⟩) hml).trans (m0 _); have q2 := ((unhide HB2).cell (p := ⟨w.heap.size, 1, none⟩) hml).trans (m1 _); clear h2)
          | (go_at_call 87; refine (oWriteString_calls wr.heap.size wr.heap.size [] ⟨#[79, 86, 1]⟩ _ (unhide H0) (by decide) (by simp) (by simp)).mono ?_; rintro e u1 ⟨rfl, h1⟩; have HB1 := hide (h1.below); have HD1 := hide h1.bd; have z1 : wr.heap.size ≤ u1.heap.size := Nat.le_trans (le_alloc wr _) (unhide HB1).size; have p1 := ((unhide HB1).cell (p := ⟨w.heap.size, 0, none⟩) hml).trans (m0 _); have q1 := ((unhide HB1).cell (p := ⟨w.heap.size, 1, none⟩) hml).trans (m1 _); clear h1))
        go_ret
        exact ⟨rfl, ((unhide HBL).trans (below_alloc1_at hsz)).trans (((unhide HB7).trans hb8).mono hsz)⟩

theorem ofile_calls (bk : ByteArray) (g n : Nat) (t : Int) (ks : List Int) (bs : List ByteArray) (dk : Nat → List UInt8) (w : World) (h : Cls w g n ks dk) (hd : ∀ k, k < n → ks.getD k 0 = 1 → bs.getD k ⟨#[]⟩ = ⟨(dk k).toArray⟩) (hn0 : 1 ≤ n) (hn : n ≤ 30) (hb : bk.size ≤ 8) :
    Calls Tryz.prog 54 #[.agg #[.string bk, .slice (some ⟨g, 0, none⟩) n n, .int .i64 t]] w fun e w' => e = .returned (.string (encode bk ks bs)) ∧ Below w.heap.size w w' := ofile_callsC n bk g n t ks bs dk w h hd hn0 hn hb

end Go.Proofs.YtomiepknmmpflaaGreatDoor

