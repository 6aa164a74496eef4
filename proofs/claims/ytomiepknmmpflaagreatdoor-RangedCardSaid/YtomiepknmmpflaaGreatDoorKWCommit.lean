/- The walk of the reference's Rebase, whole. -/
import Derived.Test.YtomiepknmmpflaaGreatDoorKWRebase
import Derived.Maps.AppendAt
namespace Go.Proofs.YtomiepknmmpflaaGreatDoor
open Go.RowKit Go.Joins

end Go.Proofs.YtomiepknmmpflaaGreatDoor

namespace Go.Proofs.YtomiepknmmpflaaGreatDoor
open Go.RowKit Go.Joins

end Go.Proofs.YtomiepknmmpflaaGreatDoor

namespace Go.Proofs.YtomiepknmmpflaaGreatDoor
open Go.RowKit Go.Joins

section
variable {w W W1 : World} {bk : ByteArray} {lo : Int} {m : Nat} {ks : List Int} {bs : List ByteArray} {X : Nat} {ea ba : Option Addr} {ec bc : Nat}
theorem RIm.setOther (h : RIm w bk lo m ks bs X ea ba ec bc W) {p : Addr} (hp : w.heap.size ≤ p.block) (h1 : X ≠ p.block) (h2 : some p.block ≠ (Value.slice ea m ec).ownBlock) (h3 : some p.block ≠ (Value.slice ba m bc).ownBlock) (v : Value) : RIm w bk lo m ks bs X ea ba ec bc (W.setCell p v) :=
  ⟨h.lt, blk_set_other h.x h1 v, h.below.setCell (p := p) hp v, owns_set h.ks (a := p) h2 v, owns_set h.bs (a := p) h3 v⟩
theorem RIm.grownOther {W' : World} {g : Nat} (h : RIm w bk lo m ks bs X ea ba ec bc W) (hg : W.grownBy W' (some g)) (hp : w.heap.size ≤ g) (h1 : X ≠ g) (h2 : (Value.slice ea m ec).ownBlock ≠ some g) (h3 : (Value.slice ba m bc).ownBlock ≠ some g) : RIm w bk lo m ks bs X ea ba ec bc W' :=
  ⟨h.lt, (hg.block X (blk_lt h.x) (fun e => h1 (by simpa using e))).trans h.x, h.below.grown hg h.below.size (fun k hk => by obtain rfl := Option.some.inj hk; exact hp), owns_grown h.ks hg (Or.inr h2), owns_grown h.bs hg (Or.inr h3)⟩
end

end Go.Proofs.YtomiepknmmpflaaGreatDoor

namespace Go.Proofs.YtomiepknmmpflaaGreatDoor
open Go.RowKit Go.Joins

structure RIy (w : World) (bk : ByteArray) (lo : Int) (mk mb : Nat) (ks : List Int) (bs : List ByteArray) (Y gy hy cy dy : Nat) (W : World) : Prop where
  lt : w.heap.size ≤ Y
  x : W.heap[Y]? = some (.cells #[.string bk, .slice (some ⟨gy, 0, none⟩) mk cy, .slice (some ⟨hy, 0, none⟩) mb dy, .int .i64 lo] 240 (0, 0))
  below : Below w.heap.size w W
  ks : W.ownsRow w.heap.size 3 1 (.slice (some ⟨gy, 0, none⟩) mk cy) mk (ks.map (Value.int .i64))
  bs : W.ownsRow w.heap.size 9 1 (.slice (some ⟨hy, 0, none⟩) mb dy) mb (bs.map Value.string)
section
variable {w W W' : World} {bk : ByteArray} {lo : Int} {mk mb : Nat} {ks : List Int} {bs : List ByteArray} {Y gy hy cy dy : Nat}
theorem RIy.kept (h : RIy w bk lo mk mb ks bs Y gy hy cy dy W) (hb : Below W.heap.size W W') : RIy w bk lo mk mb ks bs Y gy hy cy dy W' :=
  ⟨h.lt, (hb.block Y (blk_lt h.x)).trans h.x, h.below.trans (hb.mono h.below.size), owns_all h.ks hb, owns_all h.bs hb⟩
theorem RIy.setOther (h : RIy w bk lo mk mb ks bs Y gy hy cy dy W) {p : Addr} (hp : w.heap.size ≤ p.block) (h1 : Y ≠ p.block) (h2 : p.block ≠ gy) (h3 : p.block ≠ hy) (v : Value) : RIy w bk lo mk mb ks bs Y gy hy cy dy (W.setCell p v) :=
  ⟨h.lt, blk_set_other h.x h1 v, h.below.setCell (p := p) hp v, owns_set h.ks (a := p) (fun e => h2 (Option.some.inj e)) v, owns_set h.bs (a := p) (fun e => h3 (Option.some.inj e)) v⟩
theorem RIy.apart (h : RIy w bk lo mk mb ks bs Y gy hy cy dy W) : Y ≠ gy ∧ Y ≠ hy ∧ gy ≠ hy := by
  refine ⟨fun e => row_ne h.x h.ks (by decide) (by rw [e]; rfl), fun e => row_ne h.x h.bs (by decide) (by rw [e]; rfl), fun e => ?_⟩
  rcases owns_apart h.ks h.bs (by decide) with q | q
  · simp [Value.ownBlock] at q
  · exact q (by rw [e]; rfl)
theorem RIy.setK (h : RIy w bk lo mk mb ks bs Y gy hy cy dy W) (j : Nat) (n : Int) : RIy w bk lo mk mb (ks.set j n) bs Y gy hy cy dy (W.setCell ⟨gy, j, none⟩ (.int .i64 n)) := by
  obtain ⟨a1, a2, a3⟩ := h.apart
  refine ⟨h.lt, blk_set_other h.x a1 _, h.below.setCell (p := ⟨gy, j, none⟩) (h.ks.lt gy rfl).1 _, ?_, owns_set h.bs (a := ⟨gy, j, none⟩) (fun e => a3 (Option.some.inj e)) _⟩
  rw [List.map_set]; exact (h.ks.stored j (.int .i64 n)).1
theorem RIy.setB (h : RIy w bk lo mk mb ks bs Y gy hy cy dy W) (j : Nat) (u : ByteArray) : RIy w bk lo mk mb ks (bs.set j u) Y gy hy cy dy (W.setCell ⟨hy, j, none⟩ (.string u)) := by
  obtain ⟨a1, a2, a3⟩ := h.apart
  refine ⟨h.lt, blk_set_other h.x a2 _, h.below.setCell (p := ⟨hy, j, none⟩) (h.bs.lt hy rfl).1 _, owns_set h.ks (a := ⟨hy, j, none⟩) (fun e => a3 (Option.some.inj e).symm) _, ?_⟩
  rw [List.map_set]; exact (h.bs.stored j (.string u)).1
theorem RIy.pushK {g3 c3 : Nat} {n : Int} (h : RIy w bk lo mk mb ks bs Y gy hy cy dy W) (hg : W.grownBy W' (some gy)) (ho : W'.ownsRow w.heap.size 3 1 (.slice (some ⟨g3, 0, none⟩) (mk + 1) c3) (mk + 1) (ks.map (Value.int .i64) ++ [.int .i64 n])) : RIy w bk lo (mk + 1) mb (ks ++ [n]) bs Y g3 hy c3 dy (W'.setCell ⟨Y, 1, none⟩ (.slice (some ⟨g3, 0, none⟩) (mk + 1) c3)) := by
  obtain ⟨a1, a2, a3⟩ := h.apart
  have hY := (hg.block Y (blk_lt h.x) (fun e => a1 (Option.some.inj e))).trans h.x
  have hb := owns_grown h.bs hg (Or.inr (fun e => a3 (Option.some.inj e).symm))
  have h1 := blk_set_same (i := 1) hY (.slice (some ⟨g3, 0, none⟩) (mk + 1) c3)
  refine ⟨h.lt, by simpa using h1, ((h.below.grown hg h.below.size (fun k hk => by obtain rfl := Option.some.inj hk; exact (h.ks.lt _ rfl).1)).setCell (p := ⟨Y, 1, none⟩) h.lt _), ?_, owns_set hb (a := ⟨Y, 1, none⟩) (fun e => a2 (Option.some.inj e)) _⟩
  rw [List.map_append]
  exact owns_set ho (a := ⟨Y, 1, none⟩) (row_ne hY ho (by decide)) _
theorem RIy.pushB {g3 c3 : Nat} {u : ByteArray} (h : RIy w bk lo mk mb ks bs Y gy hy cy dy W) (hg : W.grownBy W' (some hy)) (ho : W'.ownsRow w.heap.size 9 1 (.slice (some ⟨g3, 0, none⟩) (mb + 1) c3) (mb + 1) (bs.map Value.string ++ [.string u])) : RIy w bk lo mk (mb + 1) ks (bs ++ [u]) Y gy g3 cy c3 (W'.setCell ⟨Y, 2, none⟩ (.slice (some ⟨g3, 0, none⟩) (mb + 1) c3)) := by
  obtain ⟨a1, a2, a3⟩ := h.apart
  have hY := (hg.block Y (blk_lt h.x) (fun e => a2 (Option.some.inj e))).trans h.x
  have hk := owns_grown h.ks hg (Or.inr (fun e => a3 (Option.some.inj e)))
  have h1 := blk_set_same (i := 2) hY (.slice (some ⟨g3, 0, none⟩) (mb + 1) c3)
  refine ⟨h.lt, by simpa using h1, ((h.below.grown hg h.below.size (fun k hk => by obtain rfl := Option.some.inj hk; exact (h.bs.lt _ rfl).1)).setCell (p := ⟨Y, 2, none⟩) h.lt _), owns_set hk (a := ⟨Y, 2, none⟩) (fun e => a1 (Option.some.inj e)) _, ?_⟩
  rw [List.map_append]
  exact owns_set ho (a := ⟨Y, 2, none⟩) (row_ne hY ho (by decide)) _
end

end Go.Proofs.YtomiepknmmpflaaGreatDoor

namespace Go.Proofs.YtomiepknmmpflaaGreatDoor
open Go.RowKit Go.Joins

structure Com (w : World) (bx bz : ByteArray) (lx ly : Int) (m mk mb : Nat) (kx ky : List Int) (tx ty : List ByteArray) (X Y gx hx gy hy cx dx cy dy : Nat) (W : World) : Prop where
  x : RIm w bx lx m kx tx X (some ⟨gx, 0, none⟩) (some ⟨hx, 0, none⟩) cx dx W
  y : RIy w bz ly mk mb ky ty Y gy hy cy dy W
  xy : X ≠ Y
  kk : gx ≠ gy
  bb : hx ≠ hy
section
variable {w W W' : World} {bx bz : ByteArray} {lx ly : Int} {m mk mb : Nat} {kx ky : List Int} {tx ty : List ByteArray} {X Y gx hx gy hy cx dx cy dy : Nat}
theorem Com.kept (h : Com w bx bz lx ly m mk mb kx ky tx ty X Y gx hx gy hy cx dx cy dy W) (hb : Below W.heap.size W W') : Com w bx bz lx ly m mk mb kx ky tx ty X Y gx hx gy hy cx dx cy dy W' := ⟨h.x.kept hb, h.y.kept hb, h.xy, h.kk, h.bb⟩
theorem Com.apart (h : Com w bx bz lx ly m mk mb kx ky tx ty X Y gx hx gy hy cx dx cy dy W) : gx ≠ hy ∧ hx ≠ gy ∧ X ≠ gy ∧ X ≠ hy ∧ Y ≠ gx ∧ Y ≠ hx := by
  refine ⟨fun e => ?_, fun e => ?_, fun e => row_ne h.x.x h.y.ks (by decide) (by rw [e]; rfl), fun e => row_ne h.x.x h.y.bs (by decide) (by rw [e]; rfl), fun e => row_ne h.y.x h.x.ks (by decide) (by rw [e]; rfl), fun e => row_ne h.y.x h.x.bs (by decide) (by rw [e]; rfl)⟩
  · rcases owns_apart h.x.ks h.y.bs (by decide) with q | q
    · simp [Value.ownBlock] at q
    · exact q (by rw [e]; rfl)
  · rcases owns_apart h.x.bs h.y.ks (by decide) with q | q
    · simp [Value.ownBlock] at q
    · exact q (by rw [e]; rfl)
theorem Com.pushK {g3 c3 : Nat} {n : Int} (h : Com w bx bz lx ly m mk mb kx ky tx ty X Y gx hx gy hy cx dx cy dy W) (hg : W.grownBy W' (some gy)) (ho : W'.ownsRow w.heap.size 3 1 (.slice (some ⟨g3, 0, none⟩) (mk + 1) c3) (mk + 1) (ky.map (Value.int .i64) ++ [.int .i64 n])) (hl : g3 = gy ∨ W.heap.size ≤ g3) : Com w bx bz lx ly m (mk + 1) mb kx (ky ++ [n]) tx ty X Y gx hx g3 hy cx dx c3 dy (W'.setCell ⟨Y, 1, none⟩ (.slice (some ⟨g3, 0, none⟩) (mk + 1) c3)) := by
  obtain ⟨a1, a2, a3, a4, a5, a6⟩ := h.apart
  have hgx := (h.x.ks.lt gx rfl).2
  have k3 : gx ≠ g3 := by
    rcases hl with e | e
    · rw [e]; exact h.kk
    · omega
  have hx' := h.x.grownOther hg (h.y.ks.lt gy rfl).1 a3 (fun e => h.kk (Option.some.inj e)) (fun e => a2 (Option.some.inj e))
  exact ⟨hx'.setOther (p := ⟨Y, 1, none⟩) h.y.lt h.xy (fun e => a5 (Option.some.inj e)) (fun e => a6 (Option.some.inj e)) _, h.y.pushK hg ho, h.xy, k3, h.bb⟩
theorem Com.pushB {g3 c3 : Nat} {u : ByteArray} (h : Com w bx bz lx ly m mk mb kx ky tx ty X Y gx hx gy hy cx dx cy dy W) (hg : W.grownBy W' (some hy)) (ho : W'.ownsRow w.heap.size 9 1 (.slice (some ⟨g3, 0, none⟩) (mb + 1) c3) (mb + 1) (ty.map Value.string ++ [.string u])) (hl : g3 = hy ∨ W.heap.size ≤ g3) : Com w bx bz lx ly m mk (mb + 1) kx ky tx (ty ++ [u]) X Y gx hx gy g3 cx dx cy c3 (W'.setCell ⟨Y, 2, none⟩ (.slice (some ⟨g3, 0, none⟩) (mb + 1) c3)) := by
  obtain ⟨a1, a2, a3, a4, a5, a6⟩ := h.apart
  have hgx := (h.x.bs.lt hx rfl).2
  have k3 : hx ≠ g3 := by
    rcases hl with e | e
    · rw [e]; exact h.bb
    · omega
  have hx' := h.x.grownOther hg (h.y.bs.lt hy rfl).1 a4 (fun e => a1 (Option.some.inj e)) (fun e => h.bb (Option.some.inj e))
  exact ⟨hx'.setOther (p := ⟨Y, 2, none⟩) h.y.lt h.xy (fun e => a5 (Option.some.inj e)) (fun e => a6 (Option.some.inj e)) _, h.y.pushB hg ho, h.xy, h.kk, k3⟩
end

end Go.Proofs.YtomiepknmmpflaaGreatDoor

namespace Go.Proofs.YtomiepknmmpflaaGreatDoor
open Go.RowKit Go.Joins

theorem chn_below {l : Ov.Files} {x s bk : ByteArray} {ns : List ByteArray} (h : Ov.Chn l ns x) (hs : Ov.fileAt l (Ov.place l x) = s) (hb : Ov.backing s = bk) (hk : bk.size ≠ 0) : ∃ ms, ns = x :: ms ∧ Ov.Chn l ms bk := by
  cases ns with
  | nil => exact h.elim
  | cons y ns =>
    obtain ⟨rfl, _, _, q⟩ := h
    rw [hs, hb] at q
    rcases q with ⟨q, _⟩ | ⟨_, q⟩
    · exact absurd q hk
    · exact ⟨ns, rfl, q⟩
section
variable {w W W' : World} {bx bz : ByteArray} {lx ly : Int} {m mk mb : Nat} {kx ky : List Int} {tx ty : List ByteArray} {X Y gx hx gy hy cx dx cy dy : Nat}
theorem Com.read (h : Com w bx bz lx ly m mk mb kx ky tx ty X Y gx hx gy hy cx dx cy dy W) : W.cell? ⟨X, 0, none⟩ = some (.string bx) ∧ W.cell? ⟨X, 1, none⟩ = some (.slice (some ⟨gx, 0, none⟩) m cx) ∧ W.cell? ⟨X, 2, none⟩ = some (.slice (some ⟨hx, 0, none⟩) m dx) ∧ W.cell? ⟨Y, 0, none⟩ = some (.string bz) ∧ W.cell? ⟨Y, 1, none⟩ = some (.slice (some ⟨gy, 0, none⟩) mk cy) ∧ W.cell? ⟨Y, 2, none⟩ = some (.slice (some ⟨hy, 0, none⟩) mb dy) :=
  ⟨h.x.read.1, h.x.read.2.1, h.x.read.2.2.1, blk_cell h.y.x rfl, blk_cell h.y.x rfl, blk_cell h.y.x rfl⟩
theorem Com.drew (h : Com w bx bz lx ly m mk mb kx ky tx ty X Y gx hx gy hy cx dx cy dy W) : Com w bx bz lx ly m mk mb kx ky tx ty X Y gx hx gy hy cx dx cy dy W.drew := h.kept ((Below.refl _ _).drew)
theorem Com.alloc (h : Com w bx bz lx ly m mk mb kx ky tx ty X Y gx hx gy hy cx dx cy dy W) (o : Obj) : Com w bx bz lx ly m mk mb kx ky tx ty X Y gx hx gy hy cx dx cy dy (W.alloc o) := h.kept (below_alloc1 W o)
end
theorem comKs_getD {s t : ByteArray} {n i : Nat} {d : Int} (h : i < max (Ov.many t) n) : (comKs s t n).getD i d = comK s t n i := by
  unfold comKs
  simp [List.getD_eq_getElem?_getD, List.getElem?_map, List.getElem?_range h]
theorem comBs_getD {s t : ByteArray} {n i : Nat} {d : ByteArray} (h : i < max (Ov.many t) n) : (comBs s t n).getD i d = comB s t n i := by
  unfold comBs
  simp [List.getD_eq_getElem?_getD, List.getElem?_map, List.getElem?_range h]
theorem comBs_bd {s t : ByteArray} {n i : Nat} (h : i < max (Ov.many t) n) : ((comBs s t n).getD i ⟨#[]⟩).size ≤ 8 := by
  rw [comBs_getD h]
  unfold comB
  split
  · exact bOld_size i
  · split
    · exact bOld_size i
    · exact Nat.zero_le _
theorem place_with {l : Ov.Files} {x y f : ByteArray} (h : Ov.place l y < l.length) : Ov.place (Ov.withF l x f) y < (Ov.withF l x f).length := by
  rw [Ov.place_mem] at h ⊢
  rw [Ov.withF_fst]
  split
  · exact h
  · exact List.mem_append_left _ h
end Go.Proofs.YtomiepknmmpflaaGreatDoor

