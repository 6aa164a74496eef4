/- The program's whereOf. -/
import Derived.Test.YtomiepknmmpflaaGreatDoorKWAs
import Derived.Test.YtomiepknmmpflaaGreatDoorKWIPut
import Derived.Test.YtomiepknmmpflaaGreatDoorKWOCheck
namespace Go.Proofs.YtomiepknmmpflaaGreatDoor
open Go.RowKit Go.Joins

def whOf : Option ByteArray → ByteArray
  | some wh => wh
  | none => ⟨#[]⟩
theorem Er.deep {w : World} {b : Addr} {d : Nat} {t : TypeId} {a : Addr} {wh : Option ByteArray} (h : Er w b d wh t a) : 1 ≤ d → ∃ x, wh = some x := by
  induction d generalizing t a with
  | zero => intro h; omega
  | succ d ih =>
    rcases h.parts with ⟨e, _⟩ | ⟨f, x, e, rfl, rfl, rfl, hf⟩ | ⟨p, n, nm, t', a', e, he, rfl, rfl, hp⟩
    · omega
    · exact fun _ => ⟨_, rfl⟩
    · obtain rfl : d = n + 1 := by omega
      exact fun _ => ih he (by omega)
theorem Er.shallow {w : World} {b : Addr} {d : Nat} {t : TypeId} {a : Addr} (h : Er w b d none t a) : t = 293 ∧ a = b := by
  rcases h.parts with ⟨_, _, e, f⟩ | ⟨f, x, _, e, _⟩ | ⟨p, n, nm, t', a', e, he, rfl, rfl, hp⟩
  · exact ⟨e.symm, f.symm⟩
  · cases e
  · obtain ⟨x, hx⟩ := he.deep (by omega)
    cases hx

set_option maxRecDepth 100000 in
set_option maxHeartbeats 2000000 in
theorem owhereOf_calls (b : Addr) (d : Nat) (wh : Option ByteArray) (t : TypeId) (a : Addr) (w : World) (he : Er w b d wh t a) (hwh : (whOf wh).size ≤ 1000) (hg : w.cell? ⟨4, 0, none⟩ = some (.iface 259 (.agg #[.pointer (some ⟨8, 80, none⟩)]))) :
    Calls Tryz.prog 46 #[.iface t (.pointer (some a))] w fun e w' => e = .returned (.string (whOf wh)) ∧ Below w.heap.size w w' := by
  have HG : Hid ((w.alloc (.cells #[.pointer none] 134)).cell? ⟨4, 0, none⟩ = some (.iface 259 (.agg #[.pointer (some ⟨8, 80, none⟩)]))) := (World.cell?_alloc_past _ _ _ (cell_lt hg)).trans hg
  have HE := hide (he.kept (below_alloc1 w (.cells #[.pointer none] 134)))
  clear hg
  cases wh with
  | none =>
    obtain ⟨rfl, rfl⟩ := he.shallow
    clear he
    go_enter Tryz.func46, Tryz.ntmps46
    go_wp2_with (go_at_call 82; refine (As_bare _ w.heap.size _ (unhide HG)).mono ?_; rintro e w1 ⟨rfl, hb1⟩)
    go_ret
    exact ⟨rfl, (below_alloc1 w _).trans (hb1.mono (by simp))⟩
  | some wh =>
    clear he
    go_enter Tryz.func46, Tryz.ntmps46
    go_wp2_with (first | (go_at_call 67; refine (oClone_calls wh _ hwh).mono ?_; rintro e w2 ⟨rfl, hb2⟩) | (go_at_call 82; refine (As_found b d wh t a w.heap.size (.pointer none) _ (unhide HE) (blk_new _ _) (unhide HG)).mono ?_; rintro e w1 ⟨rfl, f', h1, h2, hb1⟩))
    go_ret
    exact ⟨rfl, ((below_alloc1 w _).trans hb1).trans (hb2.mono (by have := hb1.size; simp at this; omega))⟩

end Go.Proofs.YtomiepknmmpflaaGreatDoor

namespace Go.Proofs.YtomiepknmmpflaaGreatDoor
open Go.RowKit Go.Joins

theorem OFr.next {w w1 w2 : World} {b : Nat} {r r1 : Option Nat} (h : OFr w w1 b r) (hr : r1 = r ∨ ∀ k, r1 = some k → w.heap.size ≤ k) (k : OFr w1 w2 b r1) : OFr w w2 b r :=
  ⟨k.os.trans h.os, k.tape.trans h.tape, k.output.trans h.output, Nat.le_trans h.size k.size, fun i hi hb hn => (k.block i (Nat.lt_of_lt_of_le hi h.size) hb (by
    rcases hr with rfl | hr
    · exact hn
    · intro e
      have := hr i e.symm
      omega)).trans (h.block i hi hb hn)⟩
theorem OFr.below {w w' : World} {b : Nat} {r : Option Nat} (h : OFr w w' b r) (hr : ∀ k, r = some k → b ≤ k) (hb : b ≤ w.heap.size) : Below b w w' :=
  ⟨h.os, h.tape, h.output, h.size, fun k hk => h.block k (by omega) (by omega) (fun e => by have := hr k e.symm; omega)⟩
def imOf (s : ByteArray) (g : Nat) : Im := ⟨Ov.backing s, g, Ov.many s, Ov.lost s⟩
def Lies (w : World) (cb : Nat) (l : Ov.Files) (L : Ims) : Prop := ∀ q ∈ L, cb ≤ q.2.g ∧ Ov.isImage (Ov.fileAt l (Ov.place l q.1)) ∧ q.2 = imOf (Ov.fileAt l (Ov.place l q.1)) q.2.g ∧ w.heap[q.2.g]? = some (.cells (rowTo (Ov.fileAt l (Ov.place l q.1)) (Ov.many (Ov.fileAt l (Ov.place l q.1)))).toArray 160 (0, 0))
def Ch (w : World) (cb : Nat) (r : Option Nat) (l : Ov.Files) (L : Ims) : Prop :=
  (∃ v, w.heap[cb]? = some (.cells #[v] 132 (0, 0)) ∧ OwnsIms w 0 v L ∧ v.ownBlock = r) ∧ Lies w cb l L
theorem own_blk {w : World} {base e size n : Nat} {v : Value} {xs : List Value} (h : w.ownsRow base e size v n xs) {k : Nat} (hk : v.ownBlock = some k) : ∃ cs, w.heap[k]? = some (.cells cs e (0, 0)) := by
  rcases h.2 with ⟨rfl, _⟩ | ⟨g, cap, cur, rfl, _, hh, _⟩
  · simp [Value.ownBlock] at hk
  · simp only [Value.ownBlock, Option.some.injEq] at hk
    subst hk
    exact ⟨_, hh⟩
theorem own_ne {w : World} {base e size n b : Nat} {v : Value} {xs : List Value} {cs : Array Value} {t : TypeId} (h : w.ownsRow base e size v n xs) (hb : w.heap[b]? = some (.cells cs t (0, 0))) (hne : t ≠ e) : some b ≠ v.ownBlock := fun e1 => by
  obtain ⟨c, hc⟩ := own_blk h e1.symm
  rw [hb] at hc
  simp only [Option.some.injEq, Obj.cells.injEq] at hc
  exact hne hc.2.1
theorem blk_two {w : World} {a b : Nat} {cs ds : Array Value} {t u : TypeId} (ha : w.heap[a]? = some (.cells cs t (0, 0))) (hb : w.heap[b]? = some (.cells ds u (0, 0))) (hne : t ≠ u) : a ≠ b := fun e => by
  subst e
  rw [ha] at hb
  simp only [Option.some.injEq, Obj.cells.injEq] at hb
  exact hne hb.2.1
theorem Lies.kept {w w' : World} {cb : Nat} {l : Ov.Files} {L : Ims} (h : Lies w cb l L) (hb : Below w.heap.size w w') : Lies w' cb l L := fun q hq => by
  obtain ⟨h0, h1, h2, h3⟩ := h q hq
  exact ⟨h0, h1, h2, by rw [hb.block _ (blk_lt h3)]; exact h3⟩
theorem Ch.kept {w w' : World} {cb : Nat} {r : Option Nat} {l : Ov.Files} {L : Ims} (h : Ch w cb r l L) (hb : Below w.heap.size w w') : Ch w' cb r l L := by
  obtain ⟨⟨v, h1, h2, h3⟩, h4⟩ := h
  exact ⟨⟨v, by rw [hb.block cb (blk_lt h1)]; exact h1, owns_all h2 hb, h3⟩, h4.kept hb⟩
theorem Ch.ne {w : World} {cb : Nat} {v : Value} {L : Ims} (h1 : w.heap[cb]? = some (.cells #[v] 132 (0, 0))) (h2 : OwnsIms w 0 v L) : some cb ≠ v.ownBlock := own_ne h2 h1 (by decide)
theorem Ch.other {w w' : World} {cb k : Nat} {v : Value} {L : Ims} {cs : Array Value} {t : TypeId} (h1 : w.heap[cb]? = some (.cells #[v] 132 (0, 0))) (h2 : OwnsIms w 0 v L) (hf : OFr w w' cb v.ownBlock) (hk : w.heap[k]? = some (.cells cs t (0, 0))) (ht : t ≠ 132) (hu : t ≠ 151) : w'.heap[k]? = some (.cells cs t (0, 0)) := by
  rw [hf.block k (blk_lt hk) (blk_two hk h1 ht) (own_ne h2 hk hu)]; exact hk
theorem Ch.put {w w' : World} {cb g : Nat} {v v' : Value} {l : Ov.Files} {L : Ims} {x : ByteArray} (h1 : w.heap[cb]? = some (.cells #[v] 132 (0, 0))) (h2 : OwnsIms w 0 v L) (h4 : Lies w cb l L) (hcg : cb ≤ g) (hi : Ov.isImage (Ov.fileAt l (Ov.place l x))) (hg : w.heap[g]? = some (.cells (rowTo (Ov.fileAt l (Ov.place l x)) (Ov.many (Ov.fileAt l (Ov.place l x)))).toArray 160 (0, 0)))
    (hp : IPutLeft w cb v (L ++ [(x, imOf (Ov.fileAt l (Ov.place l x)) g)]) v' w') : Ch w' cb v'.ownBlock l (L ++ [(x, imOf (Ov.fileAt l (Ov.place l x)) g)]) := by
  refine ⟨⟨v', hp.blk, hp.own, rfl⟩, fun q hq => ?_⟩
  simp only [List.mem_append, List.mem_singleton] at hq
  rcases hq with hq | rfl
  · obtain ⟨k0, k1, k2, k3⟩ := h4 q hq
    exact ⟨k0, k1, k2, Ch.other h1 h2 hp.fr k3 (by decide) (by decide)⟩
  · exact ⟨hcg, hi, rfl, Ch.other h1 h2 hp.fr hg (by decide) (by decide)⟩
theorem fl_fst (L : Ims) : (fl L).map Prod.fst = L.map Prod.fst := by simp [fl]
theorem fl_place {L : Ims} {x : ByteArray} : Ov.place (fl L) x < (fl L).length ↔ x ∈ L.map Prod.fst := by rw [Ov.place_mem, fl_fst]
theorem fl_has (L : Ims) (x : ByteArray) : Ov.has (fl L) x = Ov.metB (L.map Prod.fst) x := by
  unfold Ov.has
  rw [Bool.eq_iff_iff, Ov.metB_iff, decide_eq_true_iff, fl_place]
theorem OvAt.keptB {s : Int} {w w' : World} {b room n : Nat} {r : Option Nat} {l : Ov.Files} (h : OvAt s w b r room l) (hb : Below n w w') (hbn : b < n) (hr : ∀ k, r = some k → k < n) : OvAt s w' b r room l := by
  obtain ⟨v, h1, h2, h3, h4⟩ := h
  refine ⟨v, by rw [hb.block b hbn]; exact h1, ?_, h3, h4⟩
  refine ⟨h2.1, ?_⟩
  rcases h2.2 with k | ⟨g, cap, cur, hv, hg, hh, q⟩
  · exact Or.inl k
  · refine Or.inr ⟨g, cap, cur, hv, hg, ?_, q⟩
    rw [hb.block g (hr g (by rw [← h4, hv]; rfl))]; exact hh

structure DownYes (l : Ov.Files) (ns : List ByteArray) (cb : Nat) (r : Option Nat) (w : World) (e : Ending) (w' : World) : Prop where
  ret : e = .returned .nilIface
  fr : OFr w w' cb r
  ch : ∃ L' r', Ch w' cb r' l L' ∧ L'.map Prod.fst = ns ∧ (r' = r ∨ ∀ k, r' = some k → w.heap.size ≤ k)
structure DownNo (s0 s1 s2 s3 : Addr) (n : Int) (wh : ByteArray) (cb : Nat) (r : Option Nat) (w : World) (e : Ending) (w' : World) : Prop where
  ret : ∃ b d t a, e = .returned (.iface t (.pointer (some a))) ∧ Er w' b (d + 1) (some wh) t a ∧ Code s0 s1 s2 s3 b n
  fr : OFr w w' cb r

end Go.Proofs.YtomiepknmmpflaaGreatDoor

namespace Go.Proofs.YtomiepknmmpflaaGreatDoor
open Go.RowKit Go.Joins

theorem Tryz.bdSize : (Tryz.prog.info? 142).map (·.size) = some 2 := by kernel_rfl
theorem Tryz.bdLies : liesAt Tryz.prog Tryz.prog.depth 142 (2 / Tryz.prog.cellsOf 142) 0 142 1 = true := by kernel_rfl
theorem Tryz.bdByte : (Tryz.prog.info? 5).map (fun i => (i.zero, i.size, i.bytes)) = some (some (.int .u8 0), 1, 1) := by kernel_rfl

set_option maxRecDepth 100000 in
set_option maxHeartbeats 1000000 in
theorem ocopy_used (b : Nat) (w : World) (h0 : w.cell? ⟨b, 0, none⟩ = some (.pointer (some ⟨b, 0, none⟩))) :
    Calls Tryz.prog 140 #[.pointer (some ⟨b, 0, none⟩)] w fun e w' => e = .returned (.tuple #[]) ∧ w' = w := by
  obtain ⟨j, hj, _⟩ := Option.map_eq_some_iff.1 Tryz.bdSize
  go_enter Tryz.func140, Tryz.ntmps140
  go_wp2
  rw [Lib.run_neq_ptr_same w _ Tryz.underlying140 hj]
  go_wp2
  go_end0
  exact ⟨rfl, rfl⟩

set_option maxRecDepth 100000 in
set_option maxHeartbeats 1000000 in
theorem ocopy_fresh (b : Nat) (w : World) (h0 : w.cell? ⟨b, 0, none⟩ = some (.pointer none)) (hsh : w.shape? b = some (142, 2)) (hfz : w.frozen? ⟨b, 0, none⟩ = false) :
    Calls Tryz.prog 140 #[.pointer (some ⟨b, 0, none⟩)] w fun e w' => e = .returned (.tuple #[]) ∧ w' = w.setCell ⟨b, 0, none⟩ (.pointer (some ⟨b, 0, none⟩)) := by
  obtain ⟨j, hj, hjs⟩ := Option.map_eq_some_iff.1 Tryz.bdSize
  go_enter Tryz.func140, Tryz.ntmps140
  go_wp2
  rw [Lib.run_to_unsafe w ⟨b, 0, none⟩ Tryz.underlying140 Tryz.underlying195 hj (by rw [hjs]; decide) hsh (Nat.zero_lt_succ 1)]
  simp only [Result.andThen]
  rw [Oper.upon_value]
  go_wp2
  rw [run_callFunc_extern Tryz.func180 (by kernel_rfl) (by kernel_rfl) (by kernel_rfl) (e := Extern.AbiNoEscape.same) (by kernel_rfl)]
  rw [Lib.run_noEscape]
  simp only [Result.andThen]
  rw [Oper.upon_value]
  go_wp2
  rw [Lib.run_from_unsafe w ⟨b, 0, none⟩ Tryz.underlying195 Tryz.underlying140 hj hsh Tryz.bdLies]
  simp only [Result.andThen]
  rw [Oper.upon_value]
  go_wp2
  go_end0
  exact ⟨rfl, rfl⟩

theorem bytes_one (l : List UInt8) : ∀ v ∈ Lib.byteCells l, v.oneCell' = true := by
  intro v hv
  simp only [Lib.byteCells, List.mem_map] at hv
  obtain ⟨b, _, rfl⟩ := hv
  rfl
theorem add_block (a : Addr) (j : Nat) : (a.add j).block = a.block := by unfold Addr.add; split <;> rfl
theorem byte_one {c : Nat} (h : c < 256) : Lib.byteCells [c.toUInt8] = [Value.int .u8 (c : Nat)] := by
  simp [Lib.byteCells]; omega
abbrev Bd (w : World) (B b : Nat) (l : List UInt8) : Prop := Lib.IsBuilder 142 5 B b (Lib.byteCells l) w
abbrev BdU (w : World) (B b : Nat) (l : List UInt8) : Prop := Lib.BuilderAt 142 5 B b (.pointer (some ⟨b, 0, none⟩)) (Lib.byteCells l) w
structure BdLeft (w : World) (B b : Nat) (l : List UInt8) (w' : World) : Prop where
  bd : BdU w' B b l
  below : Below B w w'
  others : Lib.OthersKept 5 (some b) w w'

theorem ocopy_calls (B b : Nat) (l : List UInt8) (w : World) (h : Bd w B b l) :
    Calls Tryz.prog 140 #[.pointer (some ⟨b, 0, none⟩)] w fun e w' => e = .returned (.tuple #[]) ∧ BdLeft w B b l w' := by
  rcases h with h | h
  · refine (ocopy_fresh b w h.cell0 h.shape h.frozen0).mono ?_
    rintro e w' ⟨rfl, rfl⟩
    exact ⟨rfl, h.used _, (Below.refl B w).setCell (p := ⟨b, 0, none⟩) h.1 _, (Lib.OthersKept.refl _ _ w).setCell ⟨b, 0, none⟩ rfl _⟩
  · refine (ocopy_used b w h.cell0).mono ?_
    rintro e w' ⟨rfl, rfl⟩
    exact ⟨rfl, h, Below.refl B _, Lib.OthersKept.refl _ _ _⟩

structure BdAt (w : World) (B b : Nat) (l : List UInt8) (v : Value) (w1 : World) : Prop where
  blk : w1.heap[b]? = some (.cells #[.pointer (some ⟨b, 0, none⟩), v] 142 (0, 0))
  own : w1.ownsRow B 5 1 v l.length (Lib.byteCells l)
  below : Below B w w1
  others : Lib.OthersKept 5 (some b) w w1
  le : B ≤ b
  base : B ≤ w1.heap.size
theorem BdLeft.at {w w1 : World} {B b : Nat} {l : List UInt8} (h : BdLeft w B b l w1) (hB : B ≤ w.heap.size) : ∃ a c, BdAt w B b l (.slice a l.length c) w1 := by
  obtain ⟨h1, v, h2, h3, _⟩ := h.bd
  rw [Lib.byteCells_length] at h3
  obtain ⟨a, c, rfl⟩ := owns_slice h3
  exact ⟨a, c, h2, h3, h.below, h.others, h1, Nat.le_trans hB h.below.size⟩
theorem BdAt.alloc {w w1 : World} {B b : Nat} {l : List UInt8} {v : Value} (h : BdAt w B b l v w1) (o : Obj) : BdAt w B b l v (w1.alloc o) :=
  ⟨blk_alloc h.blk o, h.own.alloc o, h.below.alloc h.base o, h.others.alloc o, h.le, by have := h.base; simp; omega⟩
theorem BdAt.grown {w w1 w2 : World} {B b : Nat} {l : List UInt8} {v : Value} (h : BdAt w B b l v w1) (hg : w1.grownBy w2 v.ownBlock) : w2.heap[b]? = some (.cells #[.pointer (some ⟨b, 0, none⟩), v] 142 (0, 0)) := by
  have hne := Lib.ownBlock_ne h.own h.blk (by decide)
  rw [hg.block b (blk_lt h.blk) (fun e => hne e.symm)]; exact h.blk
theorem BdAt.put {w w1 w2 : World} {B b : Nat} {l m : List UInt8} {v v' : Value} (h : BdAt w B b l v w1) (hg : w1.grownBy w2 v.ownBlock) (ho : w2.ownsRow B 5 1 v' (l.length + m.length) (Lib.byteCells l ++ Lib.byteCells m)) : BdLeft w B b (l ++ m) (w2.setCell ⟨b, 1, none⟩ v') := by
  refine ⟨Lib.BuilderAt.put h.le (h.grown hg) (bs' := Lib.byteCells (l ++ m)) (by rw [Lib.byteCells_length, List.length_append, Lib.byteCells_append]; exact ho) (by decide), ?_, ?_⟩
  · exact (h.below.grown hg h.base (fun k hk => (h.own.lt k hk).1)).setCell (p := ⟨b, 1, none⟩) h.le _
  · exact (h.others.grown hg (fun g hg => by obtain ⟨c, hc⟩ := own_blk h.own hg; exact ⟨c, _, hc⟩)).setCell ⟨b, 1, none⟩ rfl _

set_option maxRecDepth 100000 in
set_option maxHeartbeats 2000000 in
theorem oWriteByte_calls (B b : Nat) (l : List UInt8) (c : Nat) (w : World) (h : Bd w B b l) (hc : c < 256) (hlen : l.length ≤ 100000) (hBw : B ≤ w.heap.size) :
    Calls Tryz.prog 86 #[.pointer (some ⟨b, 0, none⟩), .int .u8 (c : Nat)] w fun e w' => e = .returned .nilIface ∧ BdLeft w B b (l ++ [c.toUInt8]) w' := by
  obtain ⟨i0, hi, hz0, hz1, hz2⟩ := info_parts Tryz.bdByte
  have HB := hide h
  have Hc : Hid (Lib.byteCells [c.toUInt8] = [.int .u8 (c : Nat)]) := byte_one hc
  clear h
  go_enter Tryz.func86, Tryz.ntmps86
  go_wp2_with (first
    | (at_builtin; refine wpList_append_own _ rfl (.tmp 11) (.tmp 13) 103 rfl B 5 i0 (.int .u8 0) 1 1 Tryz.underlying103 hi hz0 hz1 hz2 rfl (by decide) _ _ _ rfl ((unhide H1).own.alloc _) ⟨w1.heap.size, 0, none⟩ 1 1 [.int .u8 (c : Nat)] rfl rfl (one_new rfl) (by intro u hu; simp at hu; subst hu; rfl) (by unfold maxLen; omega) (by omega) (by simp; omega) ?_; intro v2 w2 ho2 hg2 _; obtain ⟨g2, c2, rfl⟩ := ownsRow_form ho2 (by omega); have k2 := ((unhide H1).alloc _).grown hg2; have d1 := blk_cell (i := 1) k2 rfl; have f1 := blk_frozen k2 1)
    | (go_at_call 140; refine (ocopy_calls B b l _ (unhide HB)).mono ?_; rintro e w1 ⟨rfl, h1⟩; obtain ⟨a, cp, h2⟩ := h1.at hBw; have c1 : w1.cell? ⟨b, 1, none⟩ = some (.slice a l.length cp) := blk_cell h2.blk rfl; have H1 := hide h2; have hzz := h2.base; clear h1 h2))
  go_ret
  exact ⟨rfl, ((unhide H1).alloc _).put hg2 (by rw [unhide Hc]; exact ho2)⟩

set_option maxRecDepth 100000 in
set_option maxHeartbeats 2000000 in
theorem oWriteString_calls (B b : Nat) (l : List UInt8) (s : ByteArray) (w : World) (h : Bd w B b l) (hs : s.size ≤ 100000) (hlen : l.length ≤ 100000) (hBw : B ≤ w.heap.size) :
    Calls Tryz.prog 87 #[.pointer (some ⟨b, 0, none⟩), .string s] w fun e w' => e = .returned (.tuple #[.int .i64 s.size, .nilIface]) ∧ BdLeft w B b (l ++ s.data.toList) w' := by
  obtain ⟨i0, hi, hz0, hz1, hz2⟩ := info_parts Tryz.bdByte
  have HB := hide h
  clear h
  go_enter Tryz.func87, Tryz.ntmps87
  go_wp2_with (first
    | (at_builtin; refine Lib.wpList_append_own_string _ rfl _ _ 103 9 rfl B 5 i0 Tryz.underlying103 Tryz.underlying9 hi hz0 hz1 hz2 _ _ _ rfl (unhide H1).own s rfl (by unfold maxLen; omega) (by omega) (by omega) ?_; intro v2 w2 ho2 hg2 _; obtain ⟨a2, c2, rfl⟩ := owns_slice ho2; have k2 := (unhide H1).grown hg2; have d1 := blk_cell (i := 1) k2 rfl; have f1 := blk_frozen k2 1)
    | (go_at_call 140; refine (ocopy_calls B b l _ (unhide HB)).mono ?_; rintro e w1 ⟨rfl, h1⟩; obtain ⟨a, cp, h2⟩ := h1.at hBw; have c1 : w1.cell? ⟨b, 1, none⟩ = some (.slice a l.length cp) := blk_cell h2.blk rfl; have H1 := hide h2; have hzz := h2.base; clear h1 h2))
  go_ret2
  exact ⟨rfl, (unhide H1).put hg2 ho2⟩

set_option maxRecDepth 100000 in
set_option maxHeartbeats 2000000 in
theorem oWrite_calls (B b g n c : Nat) (l m : List UInt8) (w : World) (h : Bd w B b l) (hn : m.length = n) (hg : g < B) (hm : ∀ (j : Nat) (u : Value), (Lib.byteCells m)[j]? = some u → w.cell? ((⟨g, 0, none⟩ : Addr).add j) = some u) (hm1 : n ≤ 100000) (hlen : l.length ≤ 100000) (hBw : B ≤ w.heap.size) :
    Calls Tryz.prog 95 #[.pointer (some ⟨b, 0, none⟩), .slice (some ⟨g, 0, none⟩) n c] w fun e w' => e = .returned (.tuple #[.int .i64 n, .nilIface]) ∧ BdLeft w B b (l ++ m) w' := by
  obtain ⟨i0, hi, hz0, hz1, hz2⟩ := info_parts Tryz.bdByte
  have HB := hide h
  have HM := hide hm
  have HL : Hid ((Lib.byteCells m).length = n * 1) := by rw [Lib.byteCells_length, Nat.mul_one]; exact hn
  have HN := hide hn
  clear h hm hn
  go_enter Tryz.func95, Tryz.ntmps95
  go_wp2_with (first
    | (at_builtin; refine wpList_append_own _ rfl (.tmp 12) (.tmp 13) 103 rfl B 5 i0 (.int .u8 0) 1 1 Tryz.underlying103 hi hz0 hz1 hz2 rfl (by decide) _ _ _ rfl (unhide H1).own ⟨g, 0, none⟩ n c (Lib.byteCells m) rfl (unhide HL) (fun j u hj => ((unhide H1).below.cell (p := (⟨g, 0, none⟩ : Addr).add j) (by rw [add_block]; exact hg)).trans (unhide HM j u hj)) (bytes_one m) (by unfold maxLen; omega) (by omega) (by omega) ?_; intro v2 w2 ho2 hg2 _; obtain ⟨a2, c2, rfl⟩ := owns_slice ho2; have k2 := (unhide H1).grown hg2; have d1 := blk_cell (i := 1) k2 rfl; have f1 := blk_frozen k2 1)
    | (go_at_call 140; refine (ocopy_calls B b l _ (unhide HB)).mono ?_; rintro e w1 ⟨rfl, h1⟩; obtain ⟨a, cp, h2⟩ := h1.at hBw; have c1 : w1.cell? ⟨b, 1, none⟩ = some (.slice a l.length cp) := blk_cell h2.blk rfl; have H1 := hide h2; have hzz := h2.base; clear h1 h2))
  go_ret2
  exact ⟨rfl, (unhide H1).put hg2 (by rw [unhide HN]; exact ho2)⟩

set_option maxRecDepth 100000 in
set_option maxHeartbeats 2000000 in
theorem oWrite_none (B b : Nat) (l : List UInt8) (w : World) (h : Bd w B b l) (hBw : B ≤ w.heap.size) :
    Calls Tryz.prog 95 #[.pointer (some ⟨b, 0, none⟩), .slice none 0 0] w fun e w' => e = .returned (.tuple #[.int .i64 0, .nilIface]) ∧ BdLeft w B b l w' := by
  obtain ⟨i0, hi, hz0, hz1, hz2⟩ := info_parts Tryz.bdByte
  have HB := hide h
  clear h
  go_enter Tryz.func95, Tryz.ntmps95
  go_wp2_with (first
    | (at_builtin; refine wpList_append_own_none rfl (.tmp 12) (.tmp 13) 103 rfl B 5 i0 1 Tryz.underlying103 hi _ _ _ rfl (unhide H1).own rfl ?_; have d1 := blk_cell (i := 1) (unhide H1).blk rfl; have f1 := blk_frozen (unhide H1).blk 1)
    | (go_at_call 140; refine (ocopy_calls B b l _ (unhide HB)).mono ?_; rintro e w1 ⟨rfl, h1⟩; obtain ⟨a, cp, h2⟩ := h1.at hBw; have c1 : w1.cell? ⟨b, 1, none⟩ = some (.slice a l.length cp) := blk_cell h2.blk rfl; have H1 := hide h2; have hzz := h2.base; clear h1 h2))
  go_ret2
  exact ⟨rfl, by simpa using (unhide H1).put (m := []) (World.grownBy.refl _ _) (by simpa [Lib.byteCells] using (unhide H1).own)⟩

end Go.Proofs.YtomiepknmmpflaaGreatDoor

namespace Go.Proofs.YtomiepknmmpflaaGreatDoor
open Go.RowKit Go.Joins

set_option maxRecDepth 100000 in
set_option maxHeartbeats 1000000 in
theorem oIget_calls (L : Ims) (v : Value) (x : ByteArray) (b base p : Nat) (w : World) (hl : L.length ≤ 8) (h : OwnsIms w base v L) (hc : w.cell? ⟨b, 0, none⟩ = some v) (hp : Ov.place (fl L) x = p) (hpl : p < L.length) :
    Calls Tryz.prog 50 #[.pointer (some ⟨b, 0, none⟩), .string x] w fun e w' => e = .returned (.tuple #[imVal (imAt L p), .bool true]) ∧ Below w.heap.size w w' := by
  obtain ⟨g, c, rfl⟩ := ownsRow_form h (by omega)
  have hb := cell_lt hc
  have hg : g < w.heap.size := (h.lt g rfl).2
  have hf : Ov.find (fl L) x = (p : Int) := by rw [Ov.find_yes (by rw [hp, fl_length]; exact hpl), hp]
  obtain ⟨r0, r1, r2, r3⟩ := ims_row h hpl
  obtain ⟨⟨bk, mg, mn, mt⟩, hm⟩ : ∃ m, imAt L p = m := ⟨_, rfl⟩
  rw [hm] at r1 r2 r3 ⊢
  dsimp only at r1 r2 r3
  have HO := hide h
  have HC := hide hc
  have HF := hide hf
  clear h hc hm hp hf r0
  have HR1 := hide r1
  have HR2 := hide r2
  have HR3 := hide r3
  clear r1 r2 r3
  unfold imVal
  go_enter Tryz.func50, Tryz.ntmps50
  go_wp2_with (go_at_call 89; refine (oIplace_calls L (.slice (some ⟨g, 0, none⟩) L.length c) x b 0 base _ hl ((unhide HO).alloc _) (by exact (World.cell?_alloc_past _ _ _ hb).trans (unhide HC)) (by simp; omega)).mono ?_; rintro e w1 ⟨he, hb1⟩; rw [unhide HF] at he; subst he; have hb2 := (below_alloc1 w (.cells #[.string ⟨#[]⟩, .slice none 0 0, .int .i64 0] 90)).trans (hb1.mono (by simp)); have q0 := (hb2.cell (p := ⟨b, 0, none⟩) hb).trans (unhide HC); have q1 := (hb2.cell (p := ⟨g, p * 4 + 1, none⟩) hg).trans (unhide HR1); have q2 := (hb2.cell (p := ⟨g, p * 4 + 2, none⟩) hg).trans (unhide HR2); have q3 := (hb2.cell (p := ⟨g, p * 4 + 3, none⟩) hg).trans (unhide HR3); have bx := (hb1.block w.heap.size (by simp)).trans (blk_new w _); have hsz := blk_lt bx; have xf := blk_frozen bx; have x0 := blk_cell (i := 0) bx rfl; have x1 := blk_cell (i := 1) bx rfl; have x2 := blk_cell (i := 2) bx rfl; have HB2 := hide hb2; clear hb1 hb2 bx)
  exact bodyPost_ret (v := .tuple #[.agg #[.string bk, .slice (some ⟨mg, 0, none⟩) mn mn, .int .i64 mt], .bool true]) (by simp [results, Tryz.results50, go_sem, x0, x1, x2]) rfl ⟨rfl, (((unhide HB2).setCell (p := ⟨w.heap.size, 0, none⟩) (Nat.le_refl _) _).setCell (p := ⟨w.heap.size, 1, none⟩) (Nat.le_refl _) _).setCell (p := ⟨w.heap.size, 2, none⟩) (Nat.le_refl _) _⟩

end Go.Proofs.YtomiepknmmpflaaGreatDoor

