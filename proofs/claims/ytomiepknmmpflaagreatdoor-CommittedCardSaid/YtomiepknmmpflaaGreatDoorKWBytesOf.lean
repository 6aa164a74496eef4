/- The walk of the reference's View. -/
import Derived.Test.YtomiepknmmpflaaGreatDoorKWAt
import Derived.Test.YtomiepknmmpflaaGreatDoorKWFile
namespace Go.Proofs.YtomiepknmmpflaaGreatDoor
open Go.RowKit Go.Joins

def viewTo (l : Ov.Files) (ns : List ByteArray) (f : Nat) : Nat → List Int
  | 0 => []
  | k + 1 => viewTo l ns f k ++ [((Ov.atTo l ns (f + k) : Nat) : Int)]
theorem viewTo_length (l : Ov.Files) (ns : List ByteArray) (f k : Nat) : (viewTo l ns f k).length = k := by
  induction k with
  | zero => rfl
  | succ k ih => simp [viewTo, ih]
def viewF (l : Ov.Files) (ns : List ByteArray) (f k : Nat) : ByteArray := strOfNums (viewTo l ns f k)
end Go.Proofs.YtomiepknmmpflaaGreatDoor

namespace Go.Proofs.YtomiepknmmpflaaGreatDoor
open Go.RowKit Go.Joins

def allTo {α : Type} (m : Nat) (old new : Nat → α) (c : Nat → Prop) [DecidablePred c] : List α := (List.range m).map fun i => if c i then new i else old i
section
variable {α : Type} {m : Nat} {old new : Nat → α} {c : Nat → Prop} [DecidablePred c] {k : Nat}
theorem allTo_length : (allTo m old new c).length = m := by simp [allTo]
theorem allTo_getD {d : α} {i : Nat} (h : i < m) : (allTo m old new c).getD i d = if c i then new i else old i := by
  unfold allTo
  rw [List.getD_eq_getElem?_getD, List.getElem?_map, List.getElem?_range h]; rfl
end

abbrev fileOf (l : Ov.Files) (x : ByteArray) : ByteArray := Ov.fileAt l (Ov.place l x)
def rangedF (l : Ov.Files) (x : ByteArray) (f k : Int) : Int :=
  if Ov.soundF l x ≠ 0 then Ov.soundF l x
  else if f < 0 ∨ k < 0 ∨ 8 * (Ov.many (fileOf l x) : Int) < f ∨ 8 * (Ov.many (fileOf l x) : Int) - f < k then 1 else 0
def byteW (l : Ov.Files) (ns : List ByteArray) (f : Nat) (d : ByteArray) (p : Nat) : Nat := if f ≤ p ∧ p < f + d.size then Ov.byteAt d (p - f) else Ov.atTo l ns p
theorem byteW_lt (l : Ov.Files) (ns : List ByteArray) (f : Nat) (d : ByteArray) (p : Nat) : byteW l ns f d p < 256 := by
  unfold byteW; split
  · exact Ov.byteAt_lt _ _
  · exact Ov.atTo_lt _ _ _
def blockTo (l : Ov.Files) (ns : List ByteArray) (f : Nat) (d : ByteArray) (n : Nat) : Nat → List Int
  | 0 => []
  | j + 1 => blockTo l ns f d n j ++ [((byteW l ns f d (8 * n + j) : Nat) : Int)]
theorem blockTo_length (l : Ov.Files) (ns : List ByteArray) (f : Nat) (d : ByteArray) (n j : Nat) : (blockTo l ns f d n j).length = j := by
  induction j with
  | zero => rfl
  | succ j ih => simp [blockTo, ih]
def blockW (l : Ov.Files) (ns : List ByteArray) (f : Nat) (d : ByteArray) (n : Nat) : ByteArray := strOfNums (blockTo l ns f d n 8)
theorem blockW_size (l : Ov.Files) (ns : List ByteArray) (f : Nat) (d : ByteArray) (n : Nat) : (blockW l ns f d n).size = 8 := by
  unfold blockW; rw [strOfNums_size, blockTo_length]
abbrev touched (f k : Nat) (i : Nat) : Prop := 8 * i < f + k ∧ f < 8 * i + 8
abbrev covered (f k : Nat) (i : Nat) : Prop := f ≤ 8 * i ∧ 8 * i + 8 ≤ f + k
abbrev kOld (s : ByteArray) (i : Nat) : Int := Ov.kindOf (Ov.ent s i)
abbrev bOld (s : ByteArray) (i : Nat) : ByteArray := Ov.blockOf s (Ov.ent s i)
def newF (room : Nat) (l : Ov.Files) (x : ByteArray) (ks : List Int) (bs : List ByteArray) : Int × Ov.Files := Ov.putF room l (Ov.withF l x (encode (Ov.backing (fileOf l x)) ks bs))
def readF (l : Ov.Files) (x : ByteArray) (f k : Int) : ByteArray × Int :=
  if rangedF l x f k ≠ 0 then (⟨#[]⟩, rangedF l x f k) else (viewF l (Ov.downOf l x).1 f.toNat k.toNat, 0)
def writeF (room : Nat) (l : Ov.Files) (x : ByteArray) (f : Int) (d : ByteArray) : Int × Ov.Files :=
  if rangedF l x f d.size ≠ 0 then (rangedF l x f d.size, l)
  else if d.size = 0 then (0, l)
  else newF room l x (allTo (Ov.many (fileOf l x)) (kOld (fileOf l x)) (fun _ => 1) (touched f.toNat d.size)) (allTo (Ov.many (fileOf l x)) (bOld (fileOf l x)) (blockW l (Ov.downOf l x).1 f.toNat d) (touched f.toNat d.size))
def noughtsF (k : Nat) : ByteArray := ⟨(List.replicate k (0 : UInt8)).toArray⟩
theorem noughtsF_size (k : Nat) : (noughtsF k).size = k := by
  show (List.replicate k (0 : UInt8)).toArray.size = k
  simp
def zeroF (room : Nat) (l : Ov.Files) (x : ByteArray) (f k : Int) : Int × Ov.Files :=
  if rangedF l x f k ≠ 0 then (rangedF l x f k, l)
  else if k = 0 then (0, l)
  else newF room l x (allTo (Ov.many (fileOf l x)) (kOld (fileOf l x)) (fun i => if covered f.toNat k.toNat i then 255 else 1) (touched f.toNat k.toNat))
    (allTo (Ov.many (fileOf l x)) (bOld (fileOf l x)) (fun i => if covered f.toNat k.toNat i then ⟨#[]⟩ else blockW l (Ov.downOf l x).1 f.toNat (noughtsF k.toNat) i) (touched f.toNat k.toNat))
def discardF (room : Nat) (l : Ov.Files) (x : ByteArray) (f k : Int) : Int × Ov.Files :=
  if rangedF l x f k ≠ 0 then (rangedF l x f k, l)
  else if (List.range (Ov.many (fileOf l x))).all (fun i => !decide (covered f.toNat k.toNat i)) = true then (0, l)
  else newF room l x (allTo (Ov.many (fileOf l x)) (kOld (fileOf l x)) (fun _ => if (Ov.backing (fileOf l x)).size = 0 then 0 else 255) (covered f.toNat k.toNat))
    (allTo (Ov.many (fileOf l x)) (bOld (fileOf l x)) (fun _ => ⟨#[]⟩) (covered f.toNat k.toNat))

end Go.Proofs.YtomiepknmmpflaaGreatDoor

namespace Go.Proofs.YtomiepknmmpflaaGreatDoor
open Go.RowKit Go.Joins

theorem Tryz.infoBlock : (Tryz.prog.info? 158).map (fun i => (i.zero, i.size, i.bytes)) = some (some (.agg #[.int .u8 0, .int .u8 0, .int .u8 0, .int .u8 0, .int .u8 0, .int .u8 0, .int .u8 0, .int .u8 0]), 8, 8) := by kernel_rfl
abbrev Eight := Nat → Nat
def blkVal (e : Eight) : Value := .agg #[.int .u8 (e 0 : Nat), .int .u8 (e 1 : Nat), .int .u8 (e 2 : Nat), .int .u8 (e 3 : Nat), .int .u8 (e 4 : Nat), .int .u8 (e 5 : Nat), .int .u8 (e 6 : Nat), .int .u8 (e 7 : Nat)]
def blkCells (e : Eight) : List Value := [.int .u8 (e 0 : Nat), .int .u8 (e 1 : Nat), .int .u8 (e 2 : Nat), .int .u8 (e 3 : Nat), .int .u8 (e 4 : Nat), .int .u8 (e 5 : Nat), .int .u8 (e 6 : Nat), .int .u8 (e 7 : Nat)]
theorem blkCells_length (e : Eight) : (blkCells e).length = 8 := rfl
def runTo (v : Nat → Nat) : Nat → List Value
  | 0 => []
  | k + 1 => runTo v k ++ blkCells (fun j => v (8 * k + j))
theorem runTo_length (v : Nat → Nat) (k : Nat) : (runTo v k).length = k * 8 := by
  induction k with
  | zero => rfl
  | succ k ih => rw [runTo, List.length_append, ih, blkCells_length]; omega
theorem runTo_prefix (v : Nat → Nat) {k n : Nat} (h : k ≤ n) : ∃ q, runTo v n = runTo v k ++ q := by
  induction n with
  | zero => obtain rfl : k = 0 := by omega
            exact ⟨[], by simp⟩
  | succ n ih =>
    by_cases e : k = n + 1
    · subst e; exact ⟨[], by simp⟩
    · obtain ⟨q, hq⟩ := ih (by omega)
      exact ⟨q ++ blkCells (fun j => v (8 * n + j)), by rw [runTo, hq, List.append_assoc]⟩
theorem runTo_at (v : Nat → Nat) {n k j : Nat} (hk : k < n) (hj : j < 8) : (runTo v n)[k * 8 + j]? = some (.int .u8 (v (8 * k + j) : Nat)) := by
  obtain ⟨q, hq⟩ := runTo_prefix v (k := k + 1) (n := n) (by omega)
  have h1 := runTo_length v k
  rw [hq, List.getElem?_append_left (by rw [runTo_length]; omega), runTo, List.getElem?_append_right (by omega), h1, show k * 8 + j - k * 8 = j from by omega]
  match j, hj with
  | 0, _ => rfl
  | 1, _ => rfl
  | 2, _ => rfl
  | 3, _ => rfl
  | 4, _ => rfl
  | 5, _ => rfl
  | 6, _ => rfl
  | 7, _ => rfl
theorem runTo_congr {v u : Nat → Nat} {n : Nat} (h : ∀ i, i < 8 * n → v i = u i) : runTo v n = runTo u n := by
  induction n with
  | zero => rfl
  | succ n ih =>
    rw [runTo, runTo, ih (fun i hi => h i (by omega))]
    have e : ∀ j, j < 8 → v (8 * n + j) = u (8 * n + j) := fun j hj => h _ (by omega)
    unfold blkCells
    dsimp only
    rw [e 0 (by omega), e 1 (by omega), e 2 (by omega), e 3 (by omega), e 4 (by omega), e 5 (by omega), e 6 (by omega), e 7 (by omega)]
abbrev OwnsRun (w : World) (base : Nat) (s : Value) (n : Nat) (v : Nat → Nat) : Prop := w.ownsRow base 158 8 s n (runTo v n)
theorem run_cells {w : World} {base g c n : Nat} {v : Nat → Nat} (h : OwnsRun w base (.slice (some ⟨g, 0, none⟩) n c) n v) {k : Nat} (hk : k < n) {j : Nat} (hj : j < 8) : w.cell? ⟨g, k * 8 + j, none⟩ = some (.int .u8 (v (8 * k + j) : Nat)) := by
  rw [h.cellAt _ (by omega)]; exact runTo_at v hk hj
theorem run_eight {w : World} {base g c n : Nat} {v : Nat → Nat} (h : OwnsRun w base (.slice (some ⟨g, 0, none⟩) n c) n v) {k : Nat} (hk : k < n) :
    w.cell? ⟨g, k * 8, none⟩ = some (.int .u8 (v (8 * k) : Nat)) ∧ w.cell? ⟨g, k * 8 + 1, none⟩ = some (.int .u8 (v (8 * k + 1) : Nat)) ∧ w.cell? ⟨g, k * 8 + 2, none⟩ = some (.int .u8 (v (8 * k + 2) : Nat)) ∧ w.cell? ⟨g, k * 8 + 3, none⟩ = some (.int .u8 (v (8 * k + 3) : Nat)) ∧ w.cell? ⟨g, k * 8 + 4, none⟩ = some (.int .u8 (v (8 * k + 4) : Nat)) ∧ w.cell? ⟨g, k * 8 + 5, none⟩ = some (.int .u8 (v (8 * k + 5) : Nat)) ∧ w.cell? ⟨g, k * 8 + 6, none⟩ = some (.int .u8 (v (8 * k + 6) : Nat)) ∧ w.cell? ⟨g, k * 8 + 7, none⟩ = some (.int .u8 (v (8 * k + 7) : Nat)) :=
  ⟨run_cells h hk (j := 0) (by omega), run_cells h hk (by omega), run_cells h hk (by omega), run_cells h hk (by omega), run_cells h hk (by omega), run_cells h hk (by omega), run_cells h hk (by omega), run_cells h hk (by omega)⟩
def runAt (n : Nat) (v : Nat → Nat) (k : Nat) : Eight := fun j => if k < n then v (8 * k + j) else 0

set_option maxRecDepth 100000 in
set_option maxHeartbeats 1000000 in
theorem oat_calls (n k base : Nat) (v : Nat → Nat) (s : Value) (w : World) (h : OwnsRun w base s n v) (hn : n ≤ 30) (hk : k ≤ 30) :
    Calls Tryz.prog 182 #[s, .int .i64 (k : Nat)] w fun e w' => e = .returned (blkVal (runAt n v k)) ∧ Below w.heap.size w w' := by
  obtain ⟨a, c, rfl⟩ := owns_slice h
  by_cases hlt : k < n
  · obtain ⟨g, cc, hv⟩ := ownsRow_form h (by omega)
    obtain ⟨rfl, rfl⟩ : a = some ⟨g, 0, none⟩ ∧ c = cc := by simpa using hv
    have hg : g < w.heap.size := (h.lt g rfl).2
    have HV : Hid (blkVal (runAt n v k) = .agg #[.int .u8 (v (8 * k) : Nat), .int .u8 (v (8 * k + 1) : Nat), .int .u8 (v (8 * k + 2) : Nat), .int .u8 (v (8 * k + 3) : Nat), .int .u8 (v (8 * k + 4) : Nat), .int .u8 (v (8 * k + 5) : Nat), .int .u8 (v (8 * k + 6) : Nat), .int .u8 (v (8 * k + 7) : Nat)]) := by
      unfold blkVal runAt; simp only [if_pos hlt, Nat.add_zero]; exact trivial
    obtain ⟨c0, c1, c2, c3, c4, c5, c6, c7⟩ := run_eight h hlt
    obtain ⟨e0, h0⟩ : ∃ e, v (8 * k) = e := ⟨_, rfl⟩
    obtain ⟨e1, h1⟩ : ∃ e, v (8 * k + 1) = e := ⟨_, rfl⟩
    obtain ⟨e2, h2⟩ : ∃ e, v (8 * k + 2) = e := ⟨_, rfl⟩
    obtain ⟨e3, h3⟩ : ∃ e, v (8 * k + 3) = e := ⟨_, rfl⟩
    obtain ⟨e4, h4⟩ : ∃ e, v (8 * k + 4) = e := ⟨_, rfl⟩
    obtain ⟨e5, h5⟩ : ∃ e, v (8 * k + 5) = e := ⟨_, rfl⟩
    obtain ⟨e6, h6⟩ : ∃ e, v (8 * k + 6) = e := ⟨_, rfl⟩
    obtain ⟨e7, h7⟩ : ∃ e, v (8 * k + 7) = e := ⟨_, rfl⟩
    rw [h0] at c0; rw [h1] at c1; rw [h2] at c2; rw [h3] at c3; rw [h4] at c4; rw [h5] at c5; rw [h6] at c6; rw [h7] at c7
    rw [h0, h1, h2, h3, h4, h5, h6, h7] at HV
    have p0 : ∀ o, (w.alloc o).cell? ⟨g, k * 8, none⟩ = some (.int .u8 (e0 : Nat)) := fun o => (World.cell?_alloc_past _ _ _ hg).trans c0
    have p1 : ∀ o, (w.alloc o).cell? ⟨g, k * 8 + 1, none⟩ = some (.int .u8 (e1 : Nat)) := fun o => (World.cell?_alloc_past _ _ _ hg).trans c1
    have p2 : ∀ o, (w.alloc o).cell? ⟨g, k * 8 + 2, none⟩ = some (.int .u8 (e2 : Nat)) := fun o => (World.cell?_alloc_past _ _ _ hg).trans c2
    have p3 : ∀ o, (w.alloc o).cell? ⟨g, k * 8 + 3, none⟩ = some (.int .u8 (e3 : Nat)) := fun o => (World.cell?_alloc_past _ _ _ hg).trans c3
    have p4 : ∀ o, (w.alloc o).cell? ⟨g, k * 8 + 4, none⟩ = some (.int .u8 (e4 : Nat)) := fun o => (World.cell?_alloc_past _ _ _ hg).trans c4
    have p5 : ∀ o, (w.alloc o).cell? ⟨g, k * 8 + 5, none⟩ = some (.int .u8 (e5 : Nat)) := fun o => (World.cell?_alloc_past _ _ _ hg).trans c5
    have p6 : ∀ o, (w.alloc o).cell? ⟨g, k * 8 + 6, none⟩ = some (.int .u8 (e6 : Nat)) := fun o => (World.cell?_alloc_past _ _ _ hg).trans c6
    have p7 : ∀ o, (w.alloc o).cell? ⟨g, k * 8 + 7, none⟩ = some (.int .u8 (e7 : Nat)) := fun o => (World.cell?_alloc_past _ _ _ hg).trans c7
    clear h hv c0 c1 c2 c3 c4 c5 c6 c7 h0 h1 h2 h3 h4 h5 h6 h7
    go_enter Tryz.func182, Tryz.ntmps182
    go_wp2
    exact bodyPost_ret (v := .agg #[.int .u8 (e0 : Nat), .int .u8 (e1 : Nat), .int .u8 (e2 : Nat), .int .u8 (e3 : Nat), .int .u8 (e4 : Nat), .int .u8 (e5 : Nat), .int .u8 (e6 : Nat), .int .u8 (e7 : Nat)]) (by simp [results, Tryz.results182, go_sem]) rfl ⟨by rw [unhide HV], below_alloc1 w _⟩
  · have HV : Hid (blkVal (runAt n v k) = .agg #[.int .u8 0, .int .u8 0, .int .u8 0, .int .u8 0, .int .u8 0, .int .u8 0, .int .u8 0, .int .u8 0]) := by
      unfold blkVal runAt; simp only [if_neg hlt]; exact rfl
    clear h
    go_enter Tryz.func182, Tryz.ntmps182
    go_wp2
    exact bodyPost_ret (v := .agg #[.int .u8 0, .int .u8 0, .int .u8 0, .int .u8 0, .int .u8 0, .int .u8 0, .int .u8 0, .int .u8 0]) (by simp [results, Tryz.results182, go_sem]) rfl ⟨by rw [unhide HV], below_alloc2 w _ _⟩

end Go.Proofs.YtomiepknmmpflaaGreatDoor

namespace Go.Proofs.YtomiepknmmpflaaGreatDoor
open Go.RowKit Go.Joins

theorem blk_src {w : World} {b : Nat} {e : Eight} {t : TypeId} (hb : w.heap[b]? = some (.cells (blkCells e).toArray t (0, 0))) : ∀ (j : Nat) (u : Value), (blkCells e)[j]? = some u → w.cell? ((⟨b, 0, none⟩ : Addr).add j) = some u := by
  intro j u hj
  have e : (⟨b, 0, none⟩ : Addr).add j = ⟨b, j, none⟩ := by
    cases j with
    | zero => rfl
    | succ j => simp [Addr.add]
  rw [e]
  exact blk_cell hb (by simpa using hj)
theorem blk_one (e : Eight) : ∀ u ∈ blkCells e, u.oneCell' = true := by
  intro u hu
  simp only [blkCells, List.mem_cons, List.not_mem_nil, or_false] at hu
  rcases hu with rfl | rfl | rfl | rfl | rfl | rfl | rfl | rfl <;> rfl

theorem append_bytes (a b : Option Addr) (n c m k : Nat) (ty : TypeId) (w : World) : (Builtin.append_ #[114, 103] ty #[.slice a n c, .slice b m k]).run Tryz.prog w = (Builtin.append_ #[114, 114] ty #[.slice a n c, .slice b m k]).run Tryz.prog w := by
  unfold Builtin.append_
  simp [run_underlying Tryz.underlying114, run_underlying Tryz.underlying103]
theorem wp_append_bytes {ops : Array Oper} {rest : List Oper} {o : Oper} {a : Act} {w : World} {Q : Exit → Act → World → Prop} (hgd : o.guard = none) (s x : Operand)
    (ho : o.op = .call { callee := .builtin .append, args := #[s, x], argTypes := #[114, 103] }) (base : Nat) (i : TypeInfo) (hi : Tryz.prog.info? 5 = some i) (hz : i.zero = some (.int .u8 0)) (hsize : i.size = 1) (hby : i.bytes = 1)
    (v : Value) (n : Nat) (xs : List Value) (hs : a.eval s = v) (hown : w.ownsRow base 5 1 v n xs) (ad : Addr) (c : Nat) (news : List Value) (hx : a.eval x = .slice (some ad) 8 c) (hl : news.length = 8) (hnews : ∀ j u, news[j]? = some u → w.cell? (ad.add j) = some u) (h1 : ∀ u ∈ news, u.oneCell' = true) (hn : n ≤ 1000) (hbase : base ≤ w.heap.size)
    (h : ∀ v' w', w'.ownsRow base 5 1 v' (n + 8) (xs ++ news) → w.grownBy w' v.ownBlock → (v'.ownBlock = v.ownBlock ∨ v'.ownBlock = some w.heap.size) → wpList Tryz.prog ops Q rest (a.put o.dst v') w') : wpList Tryz.prog ops Q (o :: rest) a w := by
  obtain ⟨sa, sc, rfl⟩ := owns_slice hown
  refine wpList_plain hgd fun K hK => ?_
  obtain ⟨v', w', hr, h2, h3, _, h5⟩ := run_append_own_at (P := Tryz.prog) w base 114 o.type 5 i (.int .u8 0) 1 1 Tryz.underlying114 hi hz hsize hby rfl (by decide) _ n xs hown ad 8 c news (by omega) hnews h1 (by unfold maxLen; omega) (by omega) hbase
  rw [← append_bytes] at hr
  unfold Oper.wp execOp
  simp only [ho, resolve, invoke, builtin, Sem.run_bind, Sem.run_pure, Result.andThen_ok, List.map_toArray, List.map_cons, List.map_nil, hs, hx, hr]
  exact hK _ _ (h v' w' h2 h3 h5)

set_option maxRecDepth 100000 in
set_option maxHeartbeats 2000000 in
theorem obytesOf_calls (n base : Nat) (v : Nat → Nat) (s : Value) (w : World) (h : OwnsRun w base s n v) (hn : n ≤ 30) :
    Calls Tryz.prog 69 #[s] w fun e w' => ∃ a c, e = .returned (.slice a (n * 8) c) ∧ Below w.heap.size w w' ∧ w'.ownsRow w.heap.size 5 1 (.slice a (n * 8) c) (n * 8) (runTo v n) := by
  obtain ⟨a, c, rfl⟩ := owns_slice h
  obtain ⟨i0, hi, hz0, hz1, hz2⟩ := info_parts Tryz.bdByte
  have HO := hide h
  clear h
  go_enter Tryz.func69, Tryz.ntmps69
  go_wp2
  go_loopw [3, 8] (fun va i wr => ∃ (k : Nat) (aa : Option Addr) (ca : Nat), k ≤ n ∧ i = .int .i64 k ∧ va = .slice aa (k * 8) ca ∧ wr.ownsRow w.heap.size 5 1 (.slice aa (k * 8) ca) (k * 8) (runTo v k) ∧ Below w.heap.size w wr) (fun _ i _ => n - (intOf i).toNat)
  case atStart => exact ⟨0, none, 0, Nat.zero_le _, rfl, rfl, World.ownsRow_nil _ _ _ _, Below.refl _ _⟩
  case round =>
    obtain ⟨k, aa, ca, hk, rfl, rfl, hw, hb⟩ := hrel
    have HW := hide hw
    have HB := hide hb
    have hsz := hb.size
    by_cases hlt : k < n
    · obtain ⟨g, cc, hv⟩ := ownsRow_form (unhide HO) (by omega)
      obtain ⟨rfl, rfl⟩ : a = some ⟨g, 0, none⟩ ∧ c = cc := by simpa using hv
      obtain ⟨c0, c1, c2, c3, c4, c5, c6, c7⟩ := run_eight (owns_all (unhide HO) hb) hlt
      have HSC : Hid (runTo v (k + 1) = runTo v k ++ blkCells (fun j => v (8 * k + j))) := by rw [runTo]; exact rfl
      clear hv hw hb
      have HSR : Hid (∀ (j : Nat) (u : Value), (blkCells (fun j => v (8 * k + j)))[j]? = some u → (wr.alloc (.cells #[.int .u8 (v (8 * k) : Nat), .int .u8 (v (8 * k + 1) : Nat), .int .u8 (v (8 * k + 2) : Nat), .int .u8 (v (8 * k + 3) : Nat), .int .u8 (v (8 * k + 4) : Nat), .int .u8 (v (8 * k + 5) : Nat), .int .u8 (v (8 * k + 6) : Nat), .int .u8 (v (8 * k + 7) : Nat)] 158)).cell? ((⟨wr.heap.size, 0, none⟩ : Addr).add j) = some u) := blk_src (e := fun j => v (8 * k + j)) (t := 158) (blk_new wr _)
      go_wp2_with (at_builtin; refine wp_append_bytes rfl (.tmp 12) (.tmp 13) rfl w.heap.size i0 hi hz0 hz1 hz2 (.slice aa (k * 8) ca) (k * 8) _ rfl ((unhide HW).alloc _) ⟨wr.heap.size, 0, none⟩ 8 (blkCells (fun j => v (8 * k + j))) rfl rfl (unhide HSR) (blk_one _) (by omega) (by simp; omega) ?_; intro v2 w2 ho2 hg2 hw2; obtain ⟨a2, c2', rfl⟩ := owns_slice ho2)
      go_roundw
      case rel => exact ⟨k + 1, a2, c2', by omega, by go_num, by rw [Nat.add_mul], by rw [unhide HSC, Nat.add_mul]; exact ho2, ((unhide HB).alloc hsz _).grown hg2 (by simp; omega) (fun q hq => ((unhide HW).lt q hq).1)⟩
      case measure => simp [intOf]; omega
    · obtain rfl : k = n := by omega
      clear hw hb
      go_wp2
      go_ret
      exact ⟨aa, ca, rfl, unhide HB, unhide HW⟩

end Go.Proofs.YtomiepknmmpflaaGreatDoor

namespace Go.Proofs.YtomiepknmmpflaaGreatDoor
open Go.RowKit Go.Joins

def sixOf (f : Nat → ByteArray) (k : Nat) : List Value := (List.range k).map fun i => Value.string (f i)
theorem sixOf_succ (f : Nat → ByteArray) (k : Nat) : sixOf f (k + 1) = sixOf f k ++ [Value.string (f k)] := by simp [sixOf, List.range_succ]
theorem sixOf_cell {w : World} {base g c : Nat} {f : Nat → ByteArray} (h : w.ownsRow base 9 1 (.slice (some ⟨g, 0, none⟩) 6 c) 6 (sixOf f 6)) {i : Nat} (hi : i < 6) : w.cell? ⟨g, i, none⟩ = some (.string (f i)) := by
  have := h.cellAt i (by omega)
  rw [this]
  unfold sixOf
  simp [hi]
def anyTo (but : ByteArray) (i : Nat) : Nat → Bool
  | 0 => false
  | j + 1 => anyTo but i j || Ov.byteAt but j == 97 + i
theorem anyTo_mono {but : ByteArray} {i k : Nat} (h : Ov.byteAt but k = 97 + i) : ∀ {j : Nat}, k < j → anyTo but i j = true
  | 0, hk => by omega
  | j + 1, hk => by
    rw [anyTo]
    by_cases e : k = j
    · subst e; rw [h]; simp
    · rw [anyTo_mono h (show k < j by omega)]; rfl
theorem names_byte {i : Nat} (hi : i < 6) (h : i < (⟨#[97, 98, 99, 100, 101, 102]⟩ : ByteArray).size) : ((⟨#[97, 98, 99, 100, 101, 102]⟩ : ByteArray)[i]'h).toNat = 97 + i := by
  match i, hi with
  | 0, _ => rfl
  | 1, _ => rfl
  | 2, _ => rfl
  | 3, _ => rfl
  | 4, _ => rfl
  | 5, _ => rfl

set_option maxRecDepth 100000 in
set_option maxHeartbeats 4000000 in
theorem ksame_calls (f g : Nat → ByteArray) (but : ByteArray) (ga gb ca cb Ba Bb : Nat) (w : World) (ha : w.ownsRow Ba 9 1 (.slice (some ⟨ga, 0, none⟩) 6 ca) 6 (sixOf f 6)) (hb : w.ownsRow Bb 9 1 (.slice (some ⟨gb, 0, none⟩) 6 cb) 6 (sixOf g 6)) (hbut : but.size ≤ 1000)
    (hs : ∀ i, i < 6 → f i = g i ∨ ∃ k, k < but.size ∧ Ov.byteAt but k = 97 + i) :
    Calls Tryz.prog 20 #[.slice (some ⟨ga, 0, none⟩) 6 ca, .slice (some ⟨gb, 0, none⟩) 6 cb, .string but] w fun e w' => e = .returned (.bool true) ∧ Below w.heap.size w w' := by
  have HA := hide ha
  have HB := hide hb
  have HS := hide hs
  clear ha hb hs
  go_enter Tryz.func20, Tryz.ntmps20
  go_wp2_with fail
  go_loopw [7] (fun i wr => ∃ k : Nat, k ≤ 6 ∧ i = .int .i64 k ∧ Below w.heap.size w wr) (fun i _ => 6 - (intOf i).toNat)
  case atStart => exact ⟨0, Nat.zero_le _, rfl, Below.refl _ _⟩
  case round =>
    obtain ⟨i, hi, rfl, hbl⟩ := hrel
    have HBL := hide hbl
    clear hbl
    by_cases hlt : i < 6
    · go_wp2_with fail
      go_loopw [8, 9] (fun fr k wr => ∃ j : Nat, j ≤ but.size ∧ k = .int .i64 j ∧ fr = .bool (anyTo but i j) ∧ Below w.heap.size w wr) (fun _ k _ => but.size - (intOf k).toNat)
      case atStart => exact ⟨0, Nat.zero_le _, rfl, rfl, unhide HBL⟩
      case round =>
        clear HBL
        obtain ⟨j, hj, rfl, rfl, hbl⟩ := hrel
        have HBL := hide hbl
        clear hbl
        by_cases hlj : j < but.size
        · have hby := Ov.byteAt_eq but
          have hnb := names_byte hlt (show i < 6 from hlt)
          have HAN : Hid (anyTo but i (j + 1) = (anyTo but i j || Ov.byteAt but j == 97 + i)) := rfl
          obtain ⟨q, hq⟩ : ∃ q, anyTo but i j = q := ⟨_, rfl⟩
          rw [hq] at HAN ⊢
          clear hq
          go_upto_region 8 with fail
          cases q with
          | true =>
            go_region
            go_wp2_with fail
            go_roundw
            case rel => exact ⟨j + 1, by omega, by go_num, by rw [unhide HAN]; rfl, (unhide HBL).drew⟩
            case measure => simp [intOf]; omega
          | false =>
            by_cases he : Ov.byteAt but j = 97 + i
            · skip
              go_region
              go_wp2_with fail
              go_roundw
              case rel => exact ⟨j + 1, by omega, by go_num, by rw [unhide HAN, he]; simp, (unhide HBL).drew⟩
              case measure => simp [intOf]; omega
            · skip
              go_region
              go_wp2_with fail
              go_roundw
              case rel => exact ⟨j + 1, by omega, by go_num, by rw [unhide HAN, show (Ov.byteAt but j == 97 + i) = false from beq_eq_false_iff_ne.2 he]; simp; omega, (unhide HBL).drew⟩
              case measure => simp [intOf]; omega
        · obtain rfl : j = but.size := by omega
          have c1 := sixOf_cell (owns_all (unhide HA) (unhide HBL)) hlt
          have c2 := sixOf_cell (owns_all (unhide HB) (unhide HBL)) hlt
          have hfr : anyTo but i but.size = true ∨ f i = g i := (unhide HS i hlt).elim Or.inr (fun ⟨k, k1, k2⟩ => Or.inl (anyTo_mono k2 k1))
          obtain ⟨q, hq⟩ : ∃ q, anyTo but i but.size = q := ⟨_, rfl⟩
          rw [hq] at hfr ⊢
          clear hq
          go_upto_region 9 with fail
          cases q with
          | true =>
            go_region
            go_wp2_with fail
            go_roundw
            case rel => exact ⟨i + 1, by omega, by go_num, (unhide HBL).drew⟩
            case measure => simp [intOf]; omega
          | false =>
            have hfg : f i = g i := hfr.resolve_left (by simp)
            rw [hfg] at c1
            go_region
            go_wp2_with fail
            go_roundw
            case rel => exact ⟨i + 1, by omega, by go_num, (unhide HBL).drew⟩
            case measure => simp [intOf]; omega
    · obtain rfl : i = 6 := by omega
      go_wp2_with fail
      go_ret
      exact ⟨rfl, unhide HBL⟩

end Go.Proofs.YtomiepknmmpflaaGreatDoor

namespace Go.Proofs.YtomiepknmmpflaaGreatDoor
open Go.RowKit Go.Joins

theorem noughts_snoc (k : Nat) : noughtsF k ++ (⟨#[0]⟩ : ByteArray) = noughtsF (k + 1) := by
  refine Go.WideShapes.bytes_inj ?_
  rw [ByteArray.data_append, Array.toList_append]
  show List.replicate k (0 : UInt8) ++ [0] = List.replicate (k + 1) 0
  rw [List.replicate_succ']

set_option maxRecDepth 100000 in
theorem knoughts_calls (n : Nat) (w : World) (hn : n ≤ 1000000) : Calls Tryz.prog 31 #[.int .i64 n] w fun e w' => e = .returned (.string (noughtsF n)) ∧ w = w' := by
  go_enter Tryz.func31, Tryz.ntmps31
  go_wp2_with fail
  go_loopw [3, 4] (fun s i wr => w = wr ∧ ∃ (k : Nat) (z : ByteArray), k ≤ n ∧ i = .int .i64 k ∧ s = .string z ∧ z.size = k ∧ Hid (z = noughtsF k)) (fun _ i _ => n - (intOf i).toNat)
  case atStart => exact ⟨rfl, 0, _, Nat.zero_le _, rfl, rfl, rfl, rfl⟩
  case round =>
    obtain ⟨rfl, k, z, hk, rfl, rfl, hz, HZ⟩ := hrel
    by_cases hlt : k < n
    · go_wp2_with fail
      go_roundw
      case rel => exact ⟨by first | trivial | rfl, k + 1, _, by omega, by go_num, rfl, by rw [ByteArray.size_append, hz]; rfl, by rw [unhide HZ]; exact noughts_snoc k⟩
      case measure => simp [intOf]; omega
    · obtain rfl : k = n := by omega
      go_wp2_with fail
      go_ret
      exact ⟨by rw [unhide HZ]; rfl, rfl⟩

end Go.Proofs.YtomiepknmmpflaaGreatDoor

