/- The program's whereOf. -/
import Derived.Test.YtomiepknmmpflaaGreatDoorCWAs
import Derived.Test.YtomiepknmmpflaaGreatDoorCWTally
import Derived.Test.YtomiepknmmpflaaGreatDoorCWOLoad
import Derived.Test.YtomiepknmmpflaaGreatDoorCWIPut
import Derived.Test.YtomiepknmmpflaaGreatDoorCWOCheck
namespace Go.Proofs.YtomiepknmmpflaaGreatDoor
open Go.RowKit Go.Joins

/-- The fault's place, or nothing. -/
def whOf : Option ByteArray → ByteArray
  | some wh => wh
  | none => ⟨#[]⟩
theorem Er.deep {w : World} {b : Addr} {d : Nat} {t : TypeId} {a : Addr} {wh : Option ByteArray} (h : Er w b d wh t a) : 1 ≤ d → ∃ x, wh = some x := by
  induction d generalizing t a with
  | zero => intro h; omega
  | succ d ih =>
    rcases h.parts with ⟨e, _⟩ | ⟨f, x, e, rfl, rfl, rfl, hf⟩ | ⟨p, n, nm, t', a', e, he, rfl, rfl, hp⟩
    · omega
    · exact fun _ => ⟨_, rfl⟩
    · obtain rfl : d = n + 1 := by omega
      exact fun _ => ih he (by omega)
theorem Er.shallow {w : World} {b : Addr} {d : Nat} {t : TypeId} {a : Addr} (h : Er w b d none t a) : t = 293 ∧ a = b := by
  rcases h.parts with ⟨_, _, e, f⟩ | ⟨f, x, _, e, _⟩ | ⟨p, n, nm, t', a', e, he, rfl, rfl, hp⟩
  · exact ⟨e.symm, f.symm⟩
  · cases e
  · obtain ⟨x, hx⟩ := he.deep (by omega)
    cases hx

set_option maxRecDepth 100000 in
set_option maxHeartbeats 2000000 in
theorem owhereOf_calls (b : Addr) (d : Nat) (wh : Option ByteArray) (t : TypeId) (a : Addr) (w : World) (he : Er w b d wh t a) (hwh : (whOf wh).size ≤ 1000) (hg : w.cell? ⟨4, 0, none⟩ = some (.iface 259 (.agg #[.pointer (some ⟨8, 80, none⟩)]))) :
    Calls Tryz.prog 46 #[.iface t (.pointer (some a))] w fun e w' => e = .returned (.string (whOf wh)) ∧ Below w.heap.size w w' := by
  have HG : Hid ((w.alloc (.cells #[.pointer none] 134)).cell? ⟨4, 0, none⟩ = some (.iface 259 (.agg #[.pointer (some ⟨8, 80, none⟩)]))) := (World.cell?_alloc_past _ _ _ (cell_lt hg)).trans hg
  have HE := hide (he.kept (below_alloc1 w (.cells #[.pointer none] 134)))
  clear hg
  cases wh with
  | none =>
    obtain ⟨rfl, rfl⟩ := he.shallow
    clear he
    go_enter Tryz.func46, Tryz.ntmps46
    go_wp2_with (go_at_call 82; refine (As_bare _ w.heap.size _ (unhide HG)).mono ?_; rintro e w1 ⟨rfl, hb1⟩)
    go_ret
    exact ⟨rfl, (below_alloc1 w _).trans (hb1.mono (by simp))⟩
  | some wh =>
    clear he
    go_enter Tryz.func46, Tryz.ntmps46
    go_wp2_with (first | (go_at_call 67; refine (oClone_calls wh _ hwh).mono ?_; rintro e w2 ⟨rfl, hb2⟩) | (go_at_call 82; refine (As_found b d wh t a w.heap.size (.pointer none) _ (unhide HE) (blk_new _ _) (unhide HG)).mono ?_; rintro e w1 ⟨rfl, f', h1, h2, hb1⟩))
    go_ret
    exact ⟨rfl, ((below_alloc1 w _).trans hb1).trans (hb2.mono (by have := hb1.size; simp at this; omega))⟩

end Go.Proofs.YtomiepknmmpflaaGreatDoor

/- A chain under way, in memory; what openDown answers. -/
namespace Go.Proofs.YtomiepknmmpflaaGreatDoor
open Go.RowKit Go.Joins

theorem OFr.next {w w1 w2 : World} {b : Nat} {r r1 : Option Nat} (h : OFr w w1 b r) (hr : r1 = r ∨ ∀ k, r1 = some k → w.heap.size ≤ k) (k : OFr w1 w2 b r1) : OFr w w2 b r :=
  ⟨k.os.trans h.os, k.tape.trans h.tape, k.output.trans h.output, Nat.le_trans h.size k.size, fun i hi hb hn => (k.block i (Nat.lt_of_lt_of_le hi h.size) hb (by
    rcases hr with rfl | hr
    · exact hn
    · intro e
      have := hr i e.symm
      omega)).trans (h.block i hi hb hn)⟩
theorem OFr.below {w w' : World} {b : Nat} {r : Option Nat} (h : OFr w w' b r) (hr : ∀ k, r = some k → b ≤ k) (hb : b ≤ w.heap.size) : Below b w w' :=
  ⟨h.os, h.tape, h.output, h.size, fun k hk => h.block k (by omega) (by omega) (fun e => by have := hr k e.symm; omega)⟩
/-- An image as the program holds it, of a file. -/
def imOf (s : ByteArray) (g : Nat) : Im := ⟨Ov.backing s, g, Ov.many s, Ov.lost s⟩
/-- The images of a chain lie in memory. -/
def Lies (w : World) (cb : Nat) (l : Ov.Files) (L : Ims) : Prop := ∀ q ∈ L, cb ≤ q.2.g ∧ Ov.isImage (Ov.fileAt l (Ov.place l q.1)) ∧ q.2 = imOf (Ov.fileAt l (Ov.place l q.1)) q.2.g ∧ w.heap[q.2.g]? = some (.cells (rowTo (Ov.fileAt l (Ov.place l q.1)) (Ov.many (Ov.fileAt l (Ov.place l q.1)))).toArray 160 (0, 0))
/-- A chain at block cb, its rows at block r. -/
def Ch (w : World) (cb : Nat) (r : Option Nat) (l : Ov.Files) (L : Ims) : Prop :=
  (∃ v, w.heap[cb]? = some (.cells #[v] 132 (0, 0)) ∧ OwnsIms w 0 v L ∧ v.ownBlock = r) ∧ Lies w cb l L
theorem own_blk {w : World} {base e size n : Nat} {v : Value} {xs : List Value} (h : w.ownsRow base e size v n xs) {k : Nat} (hk : v.ownBlock = some k) : ∃ cs, w.heap[k]? = some (.cells cs e (0, 0)) := by
  rcases h.2 with ⟨rfl, _⟩ | ⟨g, cap, cur, rfl, _, hh, _⟩
  · simp [Value.ownBlock] at hk
  · simp only [Value.ownBlock, Option.some.injEq] at hk
    subst hk
    exact ⟨_, hh⟩
theorem own_ne {w : World} {base e size n b : Nat} {v : Value} {xs : List Value} {cs : Array Value} {t : TypeId} (h : w.ownsRow base e size v n xs) (hb : w.heap[b]? = some (.cells cs t (0, 0))) (hne : t ≠ e) : some b ≠ v.ownBlock := fun e1 => by
  obtain ⟨c, hc⟩ := own_blk h e1.symm
  rw [hb] at hc
  simp only [Option.some.injEq, Obj.cells.injEq] at hc
  exact hne hc.2.1
theorem blk_two {w : World} {a b : Nat} {cs ds : Array Value} {t u : TypeId} (ha : w.heap[a]? = some (.cells cs t (0, 0))) (hb : w.heap[b]? = some (.cells ds u (0, 0))) (hne : t ≠ u) : a ≠ b := fun e => by
  subst e
  rw [ha] at hb
  simp only [Option.some.injEq, Obj.cells.injEq] at hb
  exact hne hb.2.1
theorem Lies.kept {w w' : World} {cb : Nat} {l : Ov.Files} {L : Ims} (h : Lies w cb l L) (hb : Below w.heap.size w w') : Lies w' cb l L := fun q hq => by
  obtain ⟨h0, h1, h2, h3⟩ := h q hq
  exact ⟨h0, h1, h2, by rw [hb.block _ (blk_lt h3)]; exact h3⟩
theorem Ch.kept {w w' : World} {cb : Nat} {r : Option Nat} {l : Ov.Files} {L : Ims} (h : Ch w cb r l L) (hb : Below w.heap.size w w') : Ch w' cb r l L := by
  obtain ⟨⟨v, h1, h2, h3⟩, h4⟩ := h
  exact ⟨⟨v, by rw [hb.block cb (blk_lt h1)]; exact h1, owns_all h2 hb, h3⟩, h4.kept hb⟩
theorem Ch.ne {w : World} {cb : Nat} {v : Value} {L : Ims} (h1 : w.heap[cb]? = some (.cells #[v] 132 (0, 0))) (h2 : OwnsIms w 0 v L) : some cb ≠ v.ownBlock := own_ne h2 h1 (by decide)
theorem Ch.row_lt {w : World} {cb : Nat} {r : Option Nat} {l : Ov.Files} {L : Ims} (h : Ch w cb r l L) {k : Nat} (hk : r = some k) : k < w.heap.size := by
  obtain ⟨⟨v, h1, h2, h3⟩, _⟩ := h
  rw [← h3] at hk
  obtain ⟨c, hc⟩ := own_blk h2 hk
  exact blk_lt hc
/-- A block of clusters, or any of another type than a chain's own two, outlives a put. -/
theorem Ch.other {w w' : World} {cb k : Nat} {v : Value} {L : Ims} {cs : Array Value} {t : TypeId} (h1 : w.heap[cb]? = some (.cells #[v] 132 (0, 0))) (h2 : OwnsIms w 0 v L) (hf : OFr w w' cb v.ownBlock) (hk : w.heap[k]? = some (.cells cs t (0, 0))) (ht : t ≠ 132) (hu : t ≠ 151) : w'.heap[k]? = some (.cells cs t (0, 0)) := by
  rw [hf.block k (blk_lt hk) (blk_two hk h1 ht) (own_ne h2 hk hu)]; exact hk
theorem Ch.put {w w' : World} {cb g : Nat} {v v' : Value} {l : Ov.Files} {L : Ims} {x : ByteArray} (h1 : w.heap[cb]? = some (.cells #[v] 132 (0, 0))) (h2 : OwnsIms w 0 v L) (h4 : Lies w cb l L) (hcg : cb ≤ g) (hi : Ov.isImage (Ov.fileAt l (Ov.place l x))) (hg : w.heap[g]? = some (.cells (rowTo (Ov.fileAt l (Ov.place l x)) (Ov.many (Ov.fileAt l (Ov.place l x)))).toArray 160 (0, 0)))
    (hp : IPutLeft w cb v (L ++ [(x, imOf (Ov.fileAt l (Ov.place l x)) g)]) v' w') : Ch w' cb v'.ownBlock l (L ++ [(x, imOf (Ov.fileAt l (Ov.place l x)) g)]) := by
  refine ⟨⟨v', hp.blk, hp.own, rfl⟩, fun q hq => ?_⟩
  simp only [List.mem_append, List.mem_singleton] at hq
  rcases hq with hq | rfl
  · obtain ⟨k0, k1, k2, k3⟩ := h4 q hq
    exact ⟨k0, k1, k2, Ch.other h1 h2 hp.fr k3 (by decide) (by decide)⟩
  · exact ⟨hcg, hi, rfl, Ch.other h1 h2 hp.fr hg (by decide) (by decide)⟩
theorem fl_fst (L : Ims) : (fl L).map Prod.fst = L.map Prod.fst := by simp [fl]
theorem fl_place {L : Ims} {x : ByteArray} : Ov.place (fl L) x < (fl L).length ↔ x ∈ L.map Prod.fst := by rw [Ov.place_mem, fl_fst]
theorem fl_has (L : Ims) (x : ByteArray) : Ov.has (fl L) x = Ov.metB (L.map Prod.fst) x := by
  unfold Ov.has
  rw [Bool.eq_iff_iff, Ov.metB_iff, decide_eq_true_iff, fl_place]
/-- The store, its lock held, while a chain is made above it. -/
theorem OvAt.keptB {s : Int} {w w' : World} {b room n : Nat} {r : Option Nat} {l : Ov.Files} (h : OvAt s w b r room l) (hb : Below n w w') (hbn : b < n) (hr : ∀ k, r = some k → k < n) : OvAt s w' b r room l := by
  obtain ⟨v, h1, h2, h3, h4⟩ := h
  refine ⟨v, by rw [hb.block b hbn]; exact h1, ?_, h3, h4⟩
  refine ⟨h2.1, ?_⟩
  rcases h2.2 with k | ⟨g, cap, cur, hv, hg, hh, q⟩
  · exact Or.inl k
  · refine Or.inr ⟨g, cap, cur, hv, hg, ?_, q⟩
    rw [hb.block g (hr g (by rw [← h4, hv]; rfl))]; exact hh

/-- What openDown answers, and leaves. -/
structure DownYes (l : Ov.Files) (ns : List ByteArray) (cb : Nat) (r : Option Nat) (w : World) (e : Ending) (w' : World) : Prop where
  ret : e = .returned .nilIface
  fr : OFr w w' cb r
  ch : ∃ L' r', Ch w' cb r' l L' ∧ L'.map Prod.fst = ns ∧ (r' = r ∨ ∀ k, r' = some k → w.heap.size ≤ k)
structure DownNo (s0 s1 s2 s3 : Addr) (n : Int) (wh : ByteArray) (cb : Nat) (r : Option Nat) (w : World) (e : Ending) (w' : World) : Prop where
  ret : ∃ b d t a, e = .returned (.iface t (.pointer (some a))) ∧ Er w' b (d + 1) (some wh) t a ∧ Code s0 s1 s2 s3 b n
  fr : OFr w w' cb r

end Go.Proofs.YtomiepknmmpflaaGreatDoor
