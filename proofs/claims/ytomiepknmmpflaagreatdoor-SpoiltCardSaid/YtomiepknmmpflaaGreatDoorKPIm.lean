/- The walk of the reference's image. -/
import Derived.Test.YtomiepknmmpflaaGreatDoorKWAt
import Derived.Handy
import Derived.Deep.CutRange
import Derived.Test.YtomiepknmmpflaaGreatDoorKWBytesOf
import Derived.Test.YtomiepknmmpflaaGreatDoorKWBuild
namespace Go.Proofs.YtomiepknmmpflaaGreatDoor
open Go.RowKit Go.Joins

theorem new_at (w : World) (o : Obj) : (w.alloc o).heap[w.heap.size]? = some o := by
  show (w.heap.push o)[w.heap.size]? = _
  simp
theorem one_under {w w1 : World} {o : Obj} (h : Below (w.alloc o).drew.heap.size (w.alloc o).drew w1) : w1.heap[w.heap.size]? = some o :=
  (h.block w.heap.size (by simp [World.drew])).trans (new_at w o)
theorem two_under0 {w w1 : World} {o p : Obj} (h : Below ((w.alloc o).alloc p).drew.heap.size ((w.alloc o).alloc p).drew w1) : w1.heap[w.heap.size]? = some o :=
  (h.block w.heap.size (by show w.heap.size < ((w.alloc o).alloc p).heap.size; simp; omega)).trans ((Below.heap_alloc _ _ _ (by simp)).trans (new_at w o))
theorem two_under1 {w w1 : World} {o p : Obj} (h : Below ((w.alloc o).alloc p).drew.heap.size ((w.alloc o).alloc p).drew w1) : w1.heap[w.heap.size + 1]? = some p := by
  refine (h.block (w.heap.size + 1) (by show w.heap.size + 1 < ((w.alloc o).alloc p).heap.size; simp)).trans ?_
  have := new_at (w.alloc o) p
  rwa [World.size_alloc] at this

structure RI (w : World) (s : ByteArray) (X : Nat) (ea ba : Option Addr) (ec bc : Nat) (W : World) : Prop where
  lt : w.heap.size < X
  x : W.heap[X]? = some (.cells #[.string (Ov.backing s), .slice ea (Ov.many s) ec, .slice ba (Ov.many s) bc, .int .i64 (Ov.lost s)] 240 (0, 0))
  r : W.heap[w.heap.size]? = some (.cells #[.string ⟨#[]⟩, .slice none 0 0, .slice none 0 0, .int .i64 0] 240 (0, 0))
  below : Below w.heap.size w W
  ks : W.ownsRow (w.heap.size + 1) 3 1 (.slice ea (Ov.many s) ec) (Ov.many s) ((Ov.kindsTo s (Ov.many s)).map (Value.int .i64))
  bs : W.ownsRow (w.heap.size + 1) 9 1 (.slice ba (Ov.many s) bc) (Ov.many s) ((Ov.blocksTo s (Ov.many s)).map Value.string)
section
variable {w w1 : World} {s : ByteArray} {ea ba : Option Addr} {ec bc : Nat}
abbrev img0 : Obj := .cells #[.string ⟨#[]⟩, .slice none 0 0, .slice none 0 0, .int .i64 0] 240
theorem RI.late (h : Below (w.alloc img0).drew.heap.size (w.alloc img0).drew w1)
    (h1 : w1.ownsRow (w.alloc img0).drew.heap.size 3 1 (.slice ea (Ov.many s) ec) (Ov.many s) ((Ov.kindsTo s (Ov.many s)).map (Value.int .i64))) (h2 : w1.ownsRow (w.alloc img0).drew.heap.size 9 1 (.slice ba (Ov.many s) bc) (Ov.many s) ((Ov.blocksTo s (Ov.many s)).map Value.string)) :
    RI w s w1.heap.size ea ba ec bc (w1.alloc (.cells #[.string (Ov.backing s), .slice ea (Ov.many s) ec, .slice ba (Ov.many s) bc, .int .i64 (Ov.lost s)] 240)) := by
  have sz : (w.alloc img0).drew.heap.size = w.heap.size + 1 := by show (w.alloc img0).heap.size = _; simp
  have hs := h.size
  rw [sz] at hs h1 h2
  have hb : Below w.heap.size w w1 := (((Below.refl w.heap.size w).alloc (Nat.le_refl _) img0).drew).trans (h.mono (by omega))
  exact ⟨by omega, new_at _ _, blk_alloc (one_under h) _, hb.alloc (by omega) _, h1.alloc _, h2.alloc _⟩
theorem RI.early (h : Below ((w.alloc img0).alloc img0).drew.heap.size ((w.alloc img0).alloc img0).drew w1)
    (h1 : w1.ownsRow ((w.alloc img0).alloc img0).drew.heap.size 3 1 (.slice ea (Ov.many s) ec) (Ov.many s) ((Ov.kindsTo s (Ov.many s)).map (Value.int .i64))) (h2 : w1.ownsRow ((w.alloc img0).alloc img0).drew.heap.size 9 1 (.slice ba (Ov.many s) bc) (Ov.many s) ((Ov.blocksTo s (Ov.many s)).map Value.string)) :
    RI w s (w.heap.size + 1) ea ba ec bc ((((w1.setCell ⟨w.heap.size + 1, 0, none⟩ (.string (Ov.backing s))).setCell ⟨w.heap.size + 1, 1, none⟩ (.slice ea (Ov.many s) ec)).setCell ⟨w.heap.size + 1, 2, none⟩ (.slice ba (Ov.many s) bc)).setCell ⟨w.heap.size + 1, 3, none⟩ (.int .i64 (Ov.lost s))) := by
  have sz : ((w.alloc img0).alloc img0).drew.heap.size = w.heap.size + 1 + 1 := by show ((w.alloc img0).alloc img0).heap.size = _; simp
  have hs := h.size
  rw [sz] at hs h1 h2
  have hb : Below w.heap.size w w1 := ((((Below.refl w.heap.size w).alloc (Nat.le_refl _) img0).alloc (by simp) img0).drew).trans (h.mono (by omega))
  have n1 : some (w.heap.size + 1) ≠ (Value.slice ea (Ov.many s) ec).ownBlock := owns_ne h1 (by omega)
  have n2 : some (w.heap.size + 1) ≠ (Value.slice ba (Ov.many s) bc).ownBlock := owns_ne h2 (by omega)
  have ne : w.heap.size ≠ w.heap.size + 1 := by omega
  refine ⟨by omega, ?_, blk_set_other (blk_set_other (blk_set_other (blk_set_other (two_under0 h) ne _) ne _) ne _) ne _, (((hb.setCell (p := ⟨w.heap.size + 1, 0, none⟩) (by simp) _).setCell (p := ⟨w.heap.size + 1, 1, none⟩) (by simp) _).setCell (p := ⟨w.heap.size + 1, 2, none⟩) (by simp) _).setCell (p := ⟨w.heap.size + 1, 3, none⟩) (by simp) _,
    ownsRow_le (owns_set (owns_set (owns_set (owns_set h1 (a := ⟨w.heap.size + 1, 0, none⟩) n1 _) (a := ⟨w.heap.size + 1, 1, none⟩) n1 _) (a := ⟨w.heap.size + 1, 2, none⟩) n1 _) (a := ⟨w.heap.size + 1, 3, none⟩) n1 _) (by omega), ownsRow_le (owns_set (owns_set (owns_set (owns_set h2 (a := ⟨w.heap.size + 1, 0, none⟩) n2 _) (a := ⟨w.heap.size + 1, 1, none⟩) n2 _) (a := ⟨w.heap.size + 1, 2, none⟩) n2 _) (a := ⟨w.heap.size + 1, 3, none⟩) n2 _) (by omega)⟩
  have b1 := blk_set_same (i := 3) (blk_set_same (i := 2) (blk_set_same (i := 1) (blk_set_same (i := 0) (two_under1 h) (.string (Ov.backing s))) (.slice ea (Ov.many s) ec)) (.slice ba (Ov.many s) bc)) (.int .i64 (Ov.lost s))
  simpa using b1
theorem RI.left {X : Nat} {W : World} (h : RI w s X ea ba ec bc W) {u0 u1 u2 u3 : Value} : Below w.heap.size w ((((W.setCell ⟨w.heap.size, 0, none⟩ u0).setCell ⟨w.heap.size, 1, none⟩ u1).setCell ⟨w.heap.size, 2, none⟩ u2).setCell ⟨w.heap.size, 3, none⟩ u3) ∧
    ((((W.setCell ⟨w.heap.size, 0, none⟩ u0).setCell ⟨w.heap.size, 1, none⟩ u1).setCell ⟨w.heap.size, 2, none⟩ u2).setCell ⟨w.heap.size, 3, none⟩ u3).ownsRow (w.heap.size + 1) 3 1 (.slice ea (Ov.many s) ec) (Ov.many s) ((Ov.kindsTo s (Ov.many s)).map (Value.int .i64)) ∧
    ((((W.setCell ⟨w.heap.size, 0, none⟩ u0).setCell ⟨w.heap.size, 1, none⟩ u1).setCell ⟨w.heap.size, 2, none⟩ u2).setCell ⟨w.heap.size, 3, none⟩ u3).ownsRow (w.heap.size + 1) 9 1 (.slice ba (Ov.many s) bc) (Ov.many s) ((Ov.blocksTo s (Ov.many s)).map Value.string) := by
  have n1 : some w.heap.size ≠ (Value.slice ea (Ov.many s) ec).ownBlock := owns_ne h.ks (by omega)
  have n2 : some w.heap.size ≠ (Value.slice ba (Ov.many s) bc).ownBlock := owns_ne h.bs (by omega)
  exact ⟨(((h.below.setCell (p := ⟨w.heap.size, 0, none⟩) (Nat.le_refl _) _).setCell (p := ⟨w.heap.size, 1, none⟩) (Nat.le_refl _) _).setCell (p := ⟨w.heap.size, 2, none⟩) (Nat.le_refl _) _).setCell (p := ⟨w.heap.size, 3, none⟩) (Nat.le_refl _) _,
    owns_set (owns_set (owns_set (owns_set h.ks (a := ⟨w.heap.size, 0, none⟩) n1 _) (a := ⟨w.heap.size, 1, none⟩) n1 _) (a := ⟨w.heap.size, 2, none⟩) n1 _) (a := ⟨w.heap.size, 3, none⟩) n1 _, owns_set (owns_set (owns_set (owns_set h.bs (a := ⟨w.heap.size, 0, none⟩) n2 _) (a := ⟨w.heap.size, 1, none⟩) n2 _) (a := ⟨w.heap.size, 2, none⟩) n2 _) (a := ⟨w.heap.size, 3, none⟩) n2 _⟩
end

end Go.Proofs.YtomiepknmmpflaaGreatDoor

namespace Go.Proofs.YtomiepknmmpflaaGreatDoor
open Go.RowKit Go.Joins

end Go.Proofs.YtomiepknmmpflaaGreatDoor

namespace Go.Proofs.YtomiepknmmpflaaGreatDoor
open Go.RowKit Go.Joins

theorem sound_here {l : Ov.Files} {x : ByteArray} (h : Ov.soundF l x = 0) : Ov.place l x < l.length ∧ Ov.Chn l (Ov.downOf l x).1 x := by
  by_cases hp : Ov.place l x < l.length
  · unfold Ov.soundF at h
    rw [if_pos hp] at h
    exact ⟨hp, Ov.downOf_chn hp h⟩
  · unfold Ov.soundF at h
    rw [if_neg hp] at h
    omega
structure RIm (w : World) (bk : ByteArray) (lo : Int) (m : Nat) (ks : List Int) (bs : List ByteArray) (X : Nat) (ea ba : Option Addr) (ec bc : Nat) (W : World) : Prop where
  lt : w.heap.size ≤ X
  x : W.heap[X]? = some (.cells #[.string bk, .slice ea m ec, .slice ba m bc, .int .i64 lo] 240 (0, 0))
  below : Below w.heap.size w W
  ks : W.ownsRow w.heap.size 3 1 (.slice ea m ec) m (ks.map (Value.int .i64))
  bs : W.ownsRow w.heap.size 9 1 (.slice ba m bc) m (bs.map Value.string)
section
variable {w w1 : World} {bk : ByteArray} {lo : Int} {m : Nat} {ks : List Int} {bs : List ByteArray} {X : Nat} {ea ba : Option Addr} {ec bc : Nat}
theorem RIm.late (h : Below w.heap.size w w1) (h1 : w1.ownsRow (w.heap.size + 1) 3 1 (.slice ea m ec) m (ks.map (Value.int .i64))) (h2 : w1.ownsRow (w.heap.size + 1) 9 1 (.slice ba m bc) m (bs.map Value.string)) :
    RIm w bk lo m ks bs w1.heap.size ea ba ec bc (w1.alloc (.cells #[.string bk, .slice ea m ec, .slice ba m bc, .int .i64 lo] 240)) :=
  ⟨h.size, new_at _ _, h.alloc h.size _, ownsRow_le (h1.alloc _) (by omega), ownsRow_le (h2.alloc _) (by omega)⟩
theorem RIm.early (h : Below (w.alloc img0).heap.size (w.alloc img0) w1) (h1 : w1.ownsRow ((w.alloc img0).heap.size + 1) 3 1 (.slice ea m ec) m (ks.map (Value.int .i64))) (h2 : w1.ownsRow ((w.alloc img0).heap.size + 1) 9 1 (.slice ba m bc) m (bs.map Value.string)) :
    RIm w bk lo m ks bs w.heap.size ea ba ec bc ((((w1.setCell ⟨w.heap.size, 0, none⟩ (.string bk)).setCell ⟨w.heap.size, 1, none⟩ (.slice ea m ec)).setCell ⟨w.heap.size, 2, none⟩ (.slice ba m bc)).setCell ⟨w.heap.size, 3, none⟩ (.int .i64 lo)) := by
  have sz : (w.alloc img0).heap.size = w.heap.size + 1 := by simp
  have hs := h.size
  rw [sz] at hs h1 h2
  have hb : Below w.heap.size w w1 := ((Below.refl w.heap.size w).alloc (Nat.le_refl _) img0).trans (h.mono (by omega))
  have n1 : some w.heap.size ≠ (Value.slice ea m ec).ownBlock := owns_ne h1 (by omega)
  have n2 : some w.heap.size ≠ (Value.slice ba m bc).ownBlock := owns_ne h2 (by omega)
  have hx : w1.heap[w.heap.size]? = some img0 := (h.block w.heap.size (by simp)).trans (new_at w img0)
  have b1 := blk_set_same (i := 3) (blk_set_same (i := 2) (blk_set_same (i := 1) (blk_set_same (i := 0) hx (.string bk)) (.slice ea m ec)) (.slice ba m bc)) (.int .i64 lo)
  exact ⟨Nat.le_refl _, by simpa using b1, (((hb.setCell (p := ⟨w.heap.size, 0, none⟩) (Nat.le_refl _) _).setCell (p := ⟨w.heap.size, 1, none⟩) (Nat.le_refl _) _).setCell (p := ⟨w.heap.size, 2, none⟩) (Nat.le_refl _) _).setCell (p := ⟨w.heap.size, 3, none⟩) (Nat.le_refl _) _,
    ownsRow_le (owns_set (owns_set (owns_set (owns_set h1 (a := ⟨w.heap.size, 0, none⟩) n1 _) (a := ⟨w.heap.size, 1, none⟩) n1 _) (a := ⟨w.heap.size, 2, none⟩) n1 _) (a := ⟨w.heap.size, 3, none⟩) n1 _) (by omega), ownsRow_le (owns_set (owns_set (owns_set (owns_set h2 (a := ⟨w.heap.size, 0, none⟩) n2 _) (a := ⟨w.heap.size, 1, none⟩) n2 _) (a := ⟨w.heap.size, 2, none⟩) n2 _) (a := ⟨w.heap.size, 3, none⟩) n2 _) (by omega)⟩
theorem RIm.kept {W W' : World} (h : RIm w bk lo m ks bs X ea ba ec bc W) (hb : Below W.heap.size W W') : RIm w bk lo m ks bs X ea ba ec bc W' :=
  ⟨h.lt, (hb.block X (blk_lt h.x)).trans h.x, h.below.trans (hb.mono h.below.size), owns_all h.ks hb, owns_all h.bs hb⟩
theorem row_ne {W : World} {base e size n X : Nat} {v : Value} {xs : List Value} {cs : Array Value} {t : TypeId} (hx : W.heap[X]? = some (.cells cs t (0, 0))) (h : W.ownsRow base e size v n xs) (hne : t ≠ e) : some X ≠ v.ownBlock := by
  obtain ⟨_, h⟩ := h
  rcases h with ⟨rfl, _⟩ | ⟨g, c, cur, rfl, _, hh, _⟩
  · simp [Value.ownBlock]
  · simp only [Value.ownBlock, ne_eq, Option.some.injEq]
    rintro rfl
    rw [hx] at hh
    simp only [Option.some.injEq, Obj.cells.injEq] at hh
    exact hne hh.2.1
theorem RIm.setK {W : World} {ge : Nat} (h : RIm w bk lo m ks bs X (some ⟨ge, 0, none⟩) ba ec bc W) (j : Nat) (n : Int) : RIm w bk lo m (ks.set j n) bs X (some ⟨ge, 0, none⟩) ba ec bc (W.setCell ⟨ge, j, none⟩ (.int .i64 n)) := by
  have n1 := row_ne h.x h.ks (by decide)
  have n2 := owns_apart h.bs h.ks (by decide)
  have hs := (h.ks.stored j (.int .i64 n)).1
  refine ⟨h.lt, blk_set_other h.x (fun e => n1 (by rw [e]; rfl)) _, h.below.setCell (p := ⟨ge, j, none⟩) (h.ks.lt ge rfl).1 _, ?_, owns_set h.bs (a := ⟨ge, j, none⟩) ?_ _⟩
  · rw [List.map_set]; exact hs
  · rcases n2 with e | e
    · rw [e]; simp
    · exact fun q => e q.symm
theorem RIm.setB {W : World} {gb : Nat} (h : RIm w bk lo m ks bs X ea (some ⟨gb, 0, none⟩) ec bc W) (j : Nat) (u : ByteArray) : RIm w bk lo m ks (bs.set j u) X ea (some ⟨gb, 0, none⟩) ec bc (W.setCell ⟨gb, j, none⟩ (.string u)) := by
  have n1 := row_ne h.x h.bs (by decide)
  have n2 := owns_apart h.ks h.bs (by decide)
  have hs := (h.bs.stored j (.string u)).1
  refine ⟨h.lt, blk_set_other h.x (fun e => n1 (by rw [e]; rfl)) _, h.below.setCell (p := ⟨gb, j, none⟩) (h.bs.lt gb rfl).1 _, owns_set h.ks (a := ⟨gb, j, none⟩) ?_ _, ?_⟩
  · rcases n2 with e | e
    · rw [e]; simp
    · exact fun q => e q.symm
  · rw [List.map_set]; exact hs
theorem RIm.read {W : World} (h : RIm w bk lo m ks bs X ea ba ec bc W) : W.cell? ⟨X, 0, none⟩ = some (.string bk) ∧ W.cell? ⟨X, 1, none⟩ = some (.slice ea m ec) ∧ W.cell? ⟨X, 2, none⟩ = some (.slice ba m bc) ∧ W.cell? ⟨X, 3, none⟩ = some (.int .i64 lo) :=
  ⟨blk_cell h.x rfl, blk_cell h.x rfl, blk_cell h.x rfl, blk_cell h.x rfl⟩
theorem RIm.old {W : World} (h : RIm w bk lo m ks bs X ea ba ec bc W) {p : Addr} {v : Value} (hp : p.block < w.heap.size) (hc : w.cell? p = some v) : W.cell? p = some v := (h.below.cell (p := p) hp).trans hc
end

end Go.Proofs.YtomiepknmmpflaaGreatDoor

namespace Go.Proofs.YtomiepknmmpflaaGreatDoor
open Go.RowKit Go.Joins

set_option maxRecDepth 100000 in
set_option maxHeartbeats 400000 in
theorem oend_calls (f k : Int) (w : World) (h1 : -9223372036854775808 ≤ f + k) (h2 : f + k ≤ 9223372036854775807) : Calls Tryz.prog 61 #[.agg #[.int .i64 f, .int .i64 k]] w fun e w' => e = .returned (.int .i64 (f + k)) ∧ Below w.heap.size w w' := by
  go_enter Tryz.func61, Tryz.ntmps61
  go_wp2
  go_ret
  exact ⟨by go_num, below_alloc1 w _⟩

def withinB (f k n : Int) : Bool := decide (0 ≤ f) && (decide (0 ≤ k) && decide (k ≤ n - f))
set_option maxRecDepth 100000 in
set_option maxHeartbeats 1000000 in
theorem owithin_calls (f k : Int) (n : Nat) (w : World) (hf1 : -9223372036854775808 ≤ f) (hf2 : f ≤ 9223372036854775807) (hk1 : -9223372036854775808 ≤ k) (hk2 : k ≤ 9223372036854775807) (hn : n ≤ 240) : Calls Tryz.prog 103 #[.agg #[.int .i64 f, .int .i64 k], .int .i64 (n : Nat)] w fun e w' => e = .returned (.bool (withinB f k n)) ∧ Below w.heap.size w w' := by
  by_cases h1 : 0 ≤ f
  · have b1 : decide (0 ≤ f) = true := decide_eq_true h1
    by_cases h2 : 0 ≤ k
    · have b2 : decide (0 ≤ k) = true := decide_eq_true h2
      by_cases h3 : k ≤ (n : Int) - f
      · have b3 : decide (k ≤ (n : Int) - f) = true := decide_eq_true h3
        have HB : Hid (withinB f k n = true) := by unfold withinB; rw [b1, b2, b3]; exact rfl
        go_enter Tryz.func103, Tryz.ntmps103
        go_wp2
        go_ret
        exact ⟨by rw [unhide HB]; rfl, below_alloc1 w _⟩
      · have b3 : decide (k ≤ (n : Int) - f) = false := decide_eq_false h3
        have HB : Hid (withinB f k n = false) := by unfold withinB; rw [b1, b2, b3]; exact rfl
        go_enter Tryz.func103, Tryz.ntmps103
        go_wp2
        go_ret
        exact ⟨by rw [unhide HB]; rfl, below_alloc1 w _⟩
    · have b2 : decide (0 ≤ k) = false := decide_eq_false h2
      have HB : Hid (withinB f k n = false) := by unfold withinB; rw [b1, b2]; exact rfl
      go_enter Tryz.func103, Tryz.ntmps103
      go_wp2
      go_ret
      exact ⟨by rw [unhide HB]; rfl, below_alloc1 w _⟩
  · have b1 : decide (0 ≤ f) = false := decide_eq_false h1
    have HB : Hid (withinB f k n = false) := by unfold withinB; rw [b1]; exact rfl
    go_enter Tryz.func103, Tryz.ntmps103
    go_wp2
    go_ret
    exact ⟨by rw [unhide HB]; rfl, below_alloc1 w _⟩

set_option maxRecDepth 100000 in
set_option maxHeartbeats 1000000 in
theorem ocovers_calls (f k i : Nat) (w : World) (hf : f + k ≤ 240) (hi : i ≤ 30) : Calls Tryz.prog 105 #[.agg #[.int .i64 (f : Nat), .int .i64 (k : Nat)], .int .i64 (i : Nat)] w fun e w' => e = .returned (.bool (decide (covered f k i))) ∧ Below w.heap.size w w' := by
  by_cases h1 : f ≤ 8 * i
  · have b1 : decide ((f : Int) ≤ (i : Int) * 8) = true := decide_eq_true (by omega)
    by_cases h2 : 8 * i + 8 ≤ f + k
    · have b2 : decide ((i : Int) * 8 + 8 ≤ (f : Int) + (k : Int)) = true := decide_eq_true (by omega)
      have HB : Hid (decide (covered f k i) = true) := decide_eq_true ⟨h1, h2⟩
      go_enter Tryz.func105, Tryz.ntmps105
      go_wp2_with (go_at_call 61; refine (oend_calls f k _ (by omega) (by omega)).mono ?_; rintro e w1 ⟨rfl, hb1⟩)
      go_ret
      exact ⟨by rw [unhide HB]; rfl, (below_alloc1 w _).trans (hb1.mono (by simp))⟩
    · have b2 : decide ((i : Int) * 8 + 8 ≤ (f : Int) + (k : Int)) = false := decide_eq_false (by omega)
      have HB : Hid (decide (covered f k i) = false) := decide_eq_false (fun q => h2 q.2)
      go_enter Tryz.func105, Tryz.ntmps105
      go_wp2_with (go_at_call 61; refine (oend_calls f k _ (by omega) (by omega)).mono ?_; rintro e w1 ⟨rfl, hb1⟩)
      go_ret
      exact ⟨by rw [unhide HB]; rfl, (below_alloc1 w _).trans (hb1.mono (by simp))⟩
  · have b1 : decide ((f : Int) ≤ (i : Int) * 8) = false := decide_eq_false (by omega)
    have HB : Hid (decide (covered f k i) = false) := decide_eq_false (fun q => h1 q.1)
    go_enter Tryz.func105, Tryz.ntmps105
    go_wp2
    go_ret
    exact ⟨by rw [unhide HB]; rfl, below_alloc1 w _⟩

theorem span_under {w w1 : World} {a b : Value} {t : TypeId} (h : Below (w.alloc (.cells #[a, b] t)).drew.heap.size (w.alloc (.cells #[a, b] t)).drew w1) : w1.cell? ⟨w.heap.size, 0, none⟩ = some a ∧ w1.cell? ⟨w.heap.size, 1, none⟩ = some b :=
  ⟨blk_cell (one_under h) rfl, blk_cell (one_under h) rfl⟩
theorem touched_dec {f k i : Nat} (hk : 1 ≤ k) : decide (max (f : Int) ((i : Int) * 8) < min ((f : Int) + (k : Int)) ((i : Int) * 8 + 8)) = decide (touched f k i) := by
  by_cases q : touched f k i
  · rw [decide_eq_true q]; unfold touched at q; exact decide_eq_true (by omega)
  · rw [decide_eq_false q]; unfold touched at q; exact decide_eq_false (by omega)
set_option maxRecDepth 100000 in
set_option maxHeartbeats 4000000 in
theorem otouches_calls (f k i : Nat) (w : World) (hf : f + k ≤ 240) (hi : i ≤ 30) (hk : 1 ≤ k) : Calls Tryz.prog 104 #[.agg #[.int .i64 (f : Nat), .int .i64 (k : Nat)], .int .i64 (i : Nat)] w fun e w' => e = .returned (.bool (decide (touched f k i))) ∧ Below w.heap.size w w' := by
  have fin : ∀ {w1 : World} (o : Obj), Below (w.alloc o).drew.heap.size (w.alloc o).drew w1 → Below w.heap.size w w1 := fun o h => ((below_alloc1 w o).drew).trans (h.mono (by show w.heap.size ≤ (w.alloc o).heap.size; simp))
  have hw8 : IntKind.i64.wrap ((i : Int) * 8 + 8) = (i : Int) * 8 + 8 := by simp [IntKind.wrap_i64]; omega
  have HD := hide (touched_dec (f := f) (i := i) hk)
  go_enter Tryz.func104, Tryz.ntmps104
  go_upto_region 2 with fail
  go_cut [4] from 5 (fun p W => p = .bool (decide (touched f k i)) ∧ Below w.heap.size w W)
  case first =>
    go_region_with (go_at_call 61; refine (oend_calls f k _ (by omega) (by omega)).mono ?_; rintro e w1 ⟨rfl, hb1⟩; obtain ⟨u0, u1⟩ := span_under hb1; have HB1 := hide (fin _ hb1); clear hb1)
    all_goals (go_wp2_with fail; go_meet)
    all_goals exact ⟨congrArg Value.bool (unhide HD), unhide HB1⟩
  case rest =>
    obtain ⟨rfl, hb⟩ := hcut
    go_wp2_with fail
    go_ret
    exact ⟨rfl, hb⟩

end Go.Proofs.YtomiepknmmpflaaGreatDoor

