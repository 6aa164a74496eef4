/- The program's Commit: what the walk wants of plain facts; openAll; keep of two files. -/
import Derived.Test.YtomiepknmmpflaaGreatDoorKWTake2
import Derived.Test.YtomiepknmmpflaaGreatDoorKWLawB
import Derived.Test.YtomiepknmmpflaaGreatDoorKWCommit
import Derived.Stop.BytesEq
namespace Go.Proofs.YtomiepknmmpflaaGreatDoor
open Go.RowKit Go.Joins

theorem chn_unique {l : Ov.Files} : ∀ {ns ms : List ByteArray} {x : ByteArray}, Ov.Chn l ns x → Ov.Chn l ms x → ns = ms
  | [], _, _, h, _ => h.elim
  | _ :: _, [], _, _, k => k.elim
  | y :: ns, z :: ms, x, ⟨h1, _, _, h4⟩, ⟨k1, _, _, k4⟩ => by
    subst h1; subst k1
    rcases h4 with ⟨h5, h6⟩ | ⟨h5, h6⟩
    · rcases k4 with ⟨_, k6⟩ | ⟨k5, _⟩
      · rw [h6, k6]
      · exact absurd h5 k5
    · rcases k4 with ⟨k5, _⟩ | ⟨_, k6⟩
      · exact absurd k5 h5
      · rw [chn_unique h6 k6]
theorem chn_ne {l : Ov.Files} {x bk : ByteArray} {ms : List ByteArray} (h : Ov.Chn l (x :: ms) x) (hb : Ov.Chn l ms bk) : x ≠ bk := fun e => by
  subst e
  have := chn_unique h hb
  have := congrArg List.length this
  simp at this
theorem opened_below {l : Ov.Files} {x bk : ByteArray} {L : Ims} {cb : Nat} {r : Option Nat} {w : World} (hs : Ov.soundF l x = 0) (hch : Ch w cb r l L) (hns : L.map Prod.fst = (Ov.downOf l x).1) (hb : Ov.backing (fOf l x) = bk) (hk : bk.size ≠ 0) :
    1 < L.length ∧ Ov.place (fl L) bk = 1 ∧ x ≠ bk ∧ Ov.place l bk < l.length ∧ ∃ gq, cb ≤ gq ∧ Ov.isImage (fOf l bk) ∧ imAt L 1 = imOf (fOf l bk) gq ∧ w.heap[gq]? = some (.cells (rowTo (fOf l bk) (Ov.many (fOf l bk))).toArray 160 (0, 0)) := by
  obtain ⟨hp, hc⟩ := sound_here hs
  obtain ⟨ms, hms, hcb⟩ := chn_below hc rfl hb hk
  obtain ⟨rest, hr⟩ := chn_head hcb
  rw [hms] at hc
  have hne := chn_ne hc hcb
  have hnl : L.map Prod.fst = x :: bk :: rest := by rw [hns, hms, hr]
  have hlen : 1 < L.length := by
    have := congrArg List.length hnl
    simp at this; omega
  obtain ⟨y, gq, hy, hcg, him, hmp, hgp⟩ := lies_at hch.2 hnl (p := 1) hlen
  have hyb : y = bk := by rw [← hy]; rfl
  subst hyb
  have hna : ∀ j, Ov.nameAt (fl L) j = ((fl L).map Prod.fst).getD j ⟨#[]⟩ := fun j => by
    unfold Ov.nameAt
    rw [List.getD_eq_getElem?_getD, List.getD_eq_getElem?_getD, List.getElem?_map]
    cases (fl L)[j]? <;> rfl
  refine ⟨hlen, Ov.place_eq (fun j hj => ?_) (by rw [fl_length]; omega) ?_, hne, hcb.here, gq, hcg, him, hmp, hgp⟩
  · obtain rfl : j = 0 := by omega
    rw [hna, fl_fst, hnl]; exact hne
  · rw [hna, fl_fst, hnl]; rfl
theorem place_names : ∀ {l m : Ov.Files} {x : ByteArray}, l.map Prod.fst = m.map Prod.fst → Ov.place l x = Ov.place m x
  | [], [], _, _ => rfl
  | [], _ :: _, _, h => by simp at h
  | _ :: _, [], _, h => by simp at h
  | f :: l, g :: m, x, h => by
    simp only [List.map_cons, List.cons.injEq] at h
    rw [Ov.place, Ov.place, h.1, place_names h.2]
theorem withF_here {l : Ov.Files} {x e : ByteArray} (h : Ov.place l x < l.length) : Ov.withF l x e = l.set (Ov.place l x) (x, e) := by unfold Ov.withF; rw [if_pos h]
theorem place_withF {l : Ov.Files} {x y e : ByteArray} (h : Ov.place l x < l.length) : Ov.place (Ov.withF l x e) y = Ov.place l y := place_names (by rw [Ov.withF_fst, if_pos h])
theorem withF_comm {l : Ov.Files} {x y e f : ByteArray} (hx : Ov.place l x < l.length) (hy : Ov.place l y < l.length) (hne : x ≠ y) : Ov.withF (Ov.withF l x e) y f = Ov.withF (Ov.withF l y f) x e := by
  have hpn : Ov.place l x ≠ Ov.place l y := fun q => hne (by rw [← Ov.place_name hx, ← Ov.place_name hy, q])
  rw [withF_here (place_with hy), withF_here (place_with hx), place_withF hx, place_withF hy, withF_here hx, withF_here hy]
  exact List.set_comm _ _ hpn

theorem kindP_zero {s : ByteArray} {i : Nat} : kOld s i = 0 ↔ qOf s i = 0 := by
  rw [← kindP_old]
  rcases kOld_known s i with h | h | h <;> rw [h] <;> decide
theorem says_commit {s t : ByteArray} {m k : Nat} (hs : Ov.isImage s) (ht : Ov.isImage t) (hm : Ov.many s = m) (hk : Ov.many t = k) :
    Says (max k m) (takQ m (qOf s) (growQ (Ov.backing t) k (qOf t))) (takD m (qOf s) (dOf s) (growD k (dOf t))) (comKs s t m) (comBs s t m) := by
  subst hm; subst hk
  have hc : ∀ i, (i < Ov.many s ∧ kOld s i ≠ 0) ↔ cAtQ (Ov.many s) (qOf s) i ≠ 0 := fun i => by
    unfold cAtQ
    by_cases h : i < Ov.many s
    · rw [if_pos h]; exact ⟨fun q e => q.2 (kindP_zero.2 e), fun q => ⟨h, fun e => q (kindP_zero.1 e)⟩⟩
    · rw [if_neg h]; exact ⟨fun q => absurd q.1 h, fun q => absurd rfl q⟩
  refine ⟨comKs_length, fun i hi => ?_, fun i hi => ?_, fun i hi h1 => ?_, fun i hi j hj => ?_⟩
  · rw [comKs_getD hi]
    unfold comK takQ
    by_cases h : i < Ov.many s ∧ kOld s i ≠ 0
    · rw [if_pos h, if_pos ((hc i).1 h), kindP_old]; unfold cAtQ; rw [if_pos h.1]
    · rw [if_neg h, if_neg (fun q => h ((hc i).2 q))]
      unfold growQ
      by_cases h2 : i < Ov.many t
      · rw [if_pos h2, if_pos h2, kindP_old]
      · rw [if_neg h2, if_neg h2]; unfold comEx discKind; split <;> rfl
  · rw [comKs_getD hi]
    unfold comK
    split
    · exact kOld_known s i
    · split
      · exact kOld_known t i
      · unfold comEx; split
        · exact Or.inl rfl
        · exact Or.inr (Or.inr rfl)
  · rw [comKs_getD hi] at h1
    rw [comBs_getD hi]
    unfold comK at h1
    unfold comB takD
    by_cases h : i < Ov.many s ∧ kOld s i ≠ 0
    · rw [if_pos h] at h1 ⊢
      rw [if_pos ((hc i).1 h)]; unfold cAtD; rw [if_pos h.1]
      exact old_data hs h.1 h1
    · rw [if_neg h] at h1 ⊢
      rw [if_neg (fun q => h ((hc i).2 q))]
      unfold growD
      by_cases h2 : i < Ov.many t
      · rw [if_pos h2] at h1 ⊢; rw [if_pos h2]; exact old_data ht h2 h1
      · rw [if_neg h2] at h1; exfalso; unfold comEx at h1; split at h1 <;> cases h1
  · unfold takD cAtD growD
    split
    · split
      · exact dOf_lt _ _ _
      · exact Nat.zero_lt_succ _
    · split
      · exact dOf_lt _ _ _
      · exact Nat.zero_lt_succ _

theorem below_ofr {n b : Nat} {w w1 w2 : World} (h : Below n w w1) (f : OFr w1 w2 b none) (hb : n ≤ b) (hn : n ≤ w1.heap.size) : Below n w w2 :=
  ⟨f.os.trans h.os, f.tape.trans h.tape, f.output.trans h.output, Nat.le_trans h.size f.size, fun k hk => (f.block k (by omega) (by omega) (by simp)).trans (h.block k hk)⟩

set_option maxRecDepth 100000 in
set_option maxHeartbeats 1000000 in
theorem oopenAll_calls (bk : ByteArray) (t : Int) (I n c : Nat) (a : Option Addr) (w : World) (hI : w.heap[I]? = some (.cells #[.string bk, .slice a n c, .int .i64 t] 90 (0, 0))) (hn : n ≤ 30) :
    Calls Tryz.prog 52 #[.pointer (some ⟨I, 0, none⟩)] w fun e w' => (∃ u, e = .returned u) ∧ (w.alloc (.cells (zClus n) 160)).setCell ⟨I, 1, none⟩ (.slice (some ⟨w.heap.size, 0, none⟩) n n) = w' := by
  have mk := make_clus n hn
  have c1 := blk_cell (i := 1) hI rfl
  have d1 := blk_cell (i := 1) (blk_alloc hI (.cells (zClus n) 160)) rfl
  have f1 := blk_frozen (blk_alloc hI (.cells (zClus n) 160)) 1
  clear hI
  go_enter Tryz.func52, Tryz.ntmps52
  go_wp2
  first | go_end0 | refine bodyPost_ret (results_none rfl _ _ _) rfl ?_
  exact ⟨⟨_, rfl⟩, rfl⟩
theorem two_rows (w : World) (x f y e : ByteArray) : OwnsRows (w.alloc (.cells #[.string x, .string f, .string y, .string e] 97)) 0 (.slice (some ⟨w.heap.size, 0, none⟩) [(x, f), (y, e)].length [(x, f), (y, e)].length) [(x, f), (y, e)] :=
  World.ownsRow_lit w #[.string x, .string f, .string y, .string e] 2 (Nat.zero_le _) (by unfold maxLen; omega) rfl
theorem okeep_two (l : Ov.Files) (v : Value) (x f y e : ByteArray) (b room : Nat) (w : World) (hi : Ov.LI room l) (hx : Ov.place l x < l.length) (hy : Ov.place l y < l.length) (hf : f.size ≤ 1000) (he : e.size ≤ 1000) (hblk : w.heap[b]? = some (.cells #[.int .i32 1, .int .u32 0, .int .i64 room, v] 77 (0, 0))) (hown : OwnsRows w 0 v l) :
    Calls Tryz.prog 53 #[.pointer (some ⟨b, 0, none⟩), .slice (some ⟨w.heap.size, 0, none⟩) 2 2] (w.alloc (.cells #[.string x, .string f, .string y, .string e] 97)) fun r w' => r = .returned (.int .i64 (Ov.putF room l (Ov.withF (Ov.withF l x f) y e)).1) ∧ ((Ov.putF room l (Ov.withF (Ov.withF l x f) y e)).2 = l ∧ Below w.heap.size w w' ∨ ∃ v', PutLeft w b 3 #[.int .i32 1, .int .u32 0, .int .i64 room, v] 77 v (Ov.putF room l (Ov.withF (Ov.withF l x f) y e)).2 v' w') := by
  have hy2 := place_with (x := x) (f := f) hy
  have hl : (Ov.withF (Ov.withF l x f) y e).length = l.length := by rw [Ov.withF_length, if_pos hy2, Ov.withF_length, if_pos hx]
  have hl8 := hi.len
  refine (okeep_in l [(x, f), (y, e)] v w.heap.size b room _ (by show (Ov.withF (Ov.withF l x f) y e).length ≤ 8; omega) (by simp) (blk_alloc hblk _) (hown.alloc _) (two_rows w x f y e) (fun q hq => by
    have h1 := hi.name_size hx
    have h2 := hi.name_size hy
    simp at hq
    rcases hq with rfl | rfl
    · exact Nat.le_trans h1 (by omega)
    · exact Nat.le_trans h2 (by omega))).mono ?_
  have ht : addLens (withAll l [(x, f), (y, e)]) = (Ov.total (Ov.withF (Ov.withF l x f) y e) : Int) := addLens_total (Ov.withF_size (Ov.withF_size hi.size hf) he) (by show (Ov.withF (Ov.withF l x f) y e).length ≤ 10; omega)
  rw [ht]
  unfold Ov.putF
  rintro r w' (⟨h1, h2, h3⟩ | ⟨h1, h2, v', h3⟩)
  · rw [if_pos (by omega)]; exact ⟨h2, Or.inl ⟨rfl, (below_alloc1 w _).trans (h3.mono (by simp))⟩⟩
  · rw [if_neg (by omega)]; exact ⟨h2, Or.inr ⟨v', h3.before⟩⟩

end Go.Proofs.YtomiepknmmpflaaGreatDoor

namespace Go.Proofs.YtomiepknmmpflaaGreatDoor
open Go.RowKit Go.Joins

theorem blkVal_cells {e : Eight} (he : ∀ j, j < 8 → e j < 256) : blkVal e = .agg ((eightOf e).map Extern.Stop.cell).toArray := by
  have h : ∀ j, j < 8 → Extern.Stop.cell (e j).toUInt8 = .int .u8 (e j : Nat) := fun j hj => by
    unfold Extern.Stop.cell
    rw [UInt8.toNat_ofNat', Nat.mod_eq_of_lt (he j hj)]
    rfl
  unfold blkVal eightOf
  show _ = Value.agg #[Extern.Stop.cell (e 0).toUInt8, Extern.Stop.cell (e 1).toUInt8, Extern.Stop.cell (e 2).toUInt8, Extern.Stop.cell (e 3).toUInt8, Extern.Stop.cell (e 4).toUInt8, Extern.Stop.cell (e 5).toUInt8, Extern.Stop.cell (e 6).toUInt8, Extern.Stop.cell (e 7).toUInt8]
  rw [h 0 (by omega), h 1 (by omega), h 2 (by omega), h 3 (by omega), h 4 (by omega), h 5 (by omega), h 6 (by omega), h 7 (by omega)]
theorem eightOf_inj {e f : Eight} (he : ∀ j, j < 8 → e j < 256) (hf : ∀ j, j < 8 → f j < 256) : eightOf e = eightOf f ↔ ∀ j, j < 8 → e j = f j := by
  constructor
  · intro h j hj
    rw [← eightOf_at hj (he j hj), ← eightOf_at hj (hf j hj), h]
  · intro h
    unfold eightOf
    exact List.map_congr_left fun j hj => by rw [h j (by simpa using hj)]
def sameB (e f : Eight) : Bool := eightOf e == eightOf f
theorem sameB_iff {e f : Eight} (he : ∀ j, j < 8 → e j < 256) (hf : ∀ j, j < 8 → f j < 256) : sameB e f = true ↔ ∀ j, j < 8 → e j = f j := by
  unfold sameB
  rw [beq_iff_eq, eightOf_inj he hf]
theorem size_u8 (W : World) : (sizeOf 5).run Tryz.prog W = .ok 1 W := by
  obtain ⟨i0, hi, hz0, hz1, hz2⟩ := info_parts (show (Tryz.prog.info? 5).map (fun i => (i.zero, i.size, i.bytes)) = some (some (.int .u8 0), 1, 1) by kernel_rfl)
  rw [← hz1]
  simp [sizeOf, typeInfo, hi]
theorem eq_block {e f : Eight} (he : ∀ j, j < 8 → e j < 256) (hf : ∀ j, j < 8 → f j < 256) (W : World) : (Op.equalIn 10000 158 (blkVal e) (blkVal f)).run Tryz.prog W = .ok (sameB e f) W := by
  rw [blkVal_cells he, blkVal_cells hf]
  exact run_equalIn_bytes W 9998 158 5 8 (by kernel_rfl) (by kernel_rfl) size_u8 _ _ (eightOf_length e) (eightOf_length f)
def sayQ (e : Eight) : Int := if sameB e (fun _ => 0) = true then 1 else 2
def sayD (e : Eight) : Eight := if sameB e (fun _ => 0) = true then fun _ => 0 else e

set_option maxRecDepth 100000 in
set_option maxHeartbeats 1000000 in
theorem osaying_calls (e : Eight) (he : ∀ j, j < 8 → e j < 256) (w : World) :
    Calls Tryz.prog 148 #[blkVal e] w fun r w' => r = .returned (clVal (sayQ e) (sayD e)) ∧ Below w.heap.size w w' := by
  have hq : ∀ W, (Op.equalIn 10000 158 (blkVal e) (.agg #[.int .u8 0, .int .u8 0, .int .u8 0, .int .u8 0, .int .u8 0, .int .u8 0, .int .u8 0, .int .u8 0])).run Tryz.prog W = .ok (sameB e (fun _ => 0)) W := fun W => eq_block (f := fun _ => 0) he (fun j _ => Nat.zero_lt_succ _) W
  have hc : sameB e (fun _ => 0) = true ∨ sameB e (fun _ => 0) = false := by cases sameB e (fun _ => 0) <;> simp
  have HV1 : Hid (sameB e (fun _ => 0) = true → clVal (sayQ e) (sayD e) = .agg #[.int .i64 1, .int .u8 0, .int .u8 0, .int .u8 0, .int .u8 0, .int .u8 0, .int .u8 0, .int .u8 0, .int .u8 0]) := fun h => by unfold sayQ sayD; rw [if_pos h, if_pos h]; rfl
  have HV2 : Hid (sameB e (fun _ => 0) = false → clVal (sayQ e) (sayD e) = .agg #[.int .i64 2, .int .u8 (e 0 : Nat), .int .u8 (e 1 : Nat), .int .u8 (e 2 : Nat), .int .u8 (e 3 : Nat), .int .u8 (e 4 : Nat), .int .u8 (e 5 : Nat), .int .u8 (e 6 : Nat), .int .u8 (e 7 : Nat)]) := fun h => by unfold sayQ sayD; rw [h]; rfl
  obtain ⟨B, hB⟩ : ∃ B, sameB e (fun _ => 0) = B := ⟨_, rfl⟩
  rw [hB] at hq hc HV1 HV2
  clear hB he
  unfold blkVal at hq ⊢
  obtain ⟨x0, h0⟩ : ∃ q, e 0 = q := ⟨_, rfl⟩
  obtain ⟨x1, h1⟩ : ∃ q, e 1 = q := ⟨_, rfl⟩
  obtain ⟨x2, h2⟩ : ∃ q, e 2 = q := ⟨_, rfl⟩
  obtain ⟨x3, h3⟩ : ∃ q, e 3 = q := ⟨_, rfl⟩
  obtain ⟨x4, h4⟩ : ∃ q, e 4 = q := ⟨_, rfl⟩
  obtain ⟨x5, h5⟩ : ∃ q, e 5 = q := ⟨_, rfl⟩
  obtain ⟨x6, h6⟩ : ∃ q, e 6 = q := ⟨_, rfl⟩
  obtain ⟨x7, h7⟩ : ∃ q, e 7 = q := ⟨_, rfl⟩
  rw [h0, h1, h2, h3, h4, h5, h6, h7] at hq HV2 ⊢
  clear h0 h1 h2 h3 h4 h5 h6 h7
  rcases hc with rfl | rfl
  · have HV := hide (unhide HV1 rfl)
    go_enter Tryz.func148, Tryz.ntmps148
    go_wp2
    exact bodyPost_ret (v := .agg #[.int .i64 1, .int .u8 0, .int .u8 0, .int .u8 0, .int .u8 0, .int .u8 0, .int .u8 0, .int .u8 0, .int .u8 0]) (by simp [results, Tryz.results148, go_sem]) rfl ⟨by rw [unhide HV], below_alloc2 w _ _⟩
  · have HV := hide (unhide HV2 rfl)
    go_enter Tryz.func148, Tryz.ntmps148
    go_wp2
    exact bodyPost_ret (v := .agg #[.int .i64 2, .int .u8 (x0 : Nat), .int .u8 (x1 : Nat), .int .u8 (x2 : Nat), .int .u8 (x3 : Nat), .int .u8 (x4 : Nat), .int .u8 (x5 : Nat), .int .u8 (x6 : Nat), .int .u8 (x7 : Nat)]) (by simp [results, Tryz.results148, go_sem]) rfl ⟨by rw [unhide HV], below_alloc2 w _ _⟩

end Go.Proofs.YtomiepknmmpflaaGreatDoor

namespace Go.Proofs.YtomiepknmmpflaaGreatDoor
open Go.RowKit Go.Joins Go.Shelf

attribute [local go_sem] Oper.semAt_some

def sel (p : Nat → Bool) (n : Nat) : List Nat := (List.range n).filter p
theorem sel_succ (p : Nat → Bool) (n : Nat) : sel p (n + 1) = if p n = true then sel p n ++ [n] else sel p n := by
  unfold sel
  rw [List.range_succ, List.filter_append]
  by_cases h : p n = true
  · rw [if_pos h]; simp [h]
  · rw [if_neg h]; simp [h]
theorem sel_prefix (p : Nat → Bool) {n m : Nat} (h : n ≤ m) : ∃ q, sel p m = sel p n ++ q := by
  induction m with
  | zero => obtain rfl : n = 0 := by omega
            exact ⟨[], by simp⟩
  | succ m ih =>
    by_cases e : n = m + 1
    · subst e; exact ⟨[], by simp⟩
    · obtain ⟨q, hq⟩ := ih (by omega)
      rw [sel_succ, hq]
      split
      · exact ⟨q ++ [m], by simp⟩
      · exact ⟨q, rfl⟩
theorem sel_at {p : Nat → Bool} {n m : Nat} (h : p n = true) (hn : n < m) : (sel p m)[(sel p n).length]? = some n := by
  obtain ⟨q, hq⟩ := sel_prefix p (show n + 1 ≤ m from hn)
  rw [hq, sel_succ, if_pos h]
  simp
theorem sel_lt {p : Nat → Bool} {n i : Nat} (h : i ∈ sel p n) : i < n ∧ p i = true := by
  unfold sel at h
  rw [List.mem_filter] at h
  exact ⟨by simpa using h.1, h.2⟩
def unl (u : Nat → Nat) (nl : Nat) (v : Nat → Nat) (k : Nat) : Bool := !sameB (fun j => u (8 * k + j)) (runAt nl v k)
theorem runAt_lt {nl : Nat} {v : Nat → Nat} (h : ∀ i, v i < 256) (k j : Nat) : runAt nl v k j < 256 := by
  unfold runAt
  split
  · exact h _
  · exact Nat.zero_lt_succ _
set_option maxRecDepth 100000 in
set_option maxHeartbeats 4000000 in
theorem ounlike1_gives (n : Nat) (hn : 1 ≤ n) (B1 B2 g m c nl base2 base : Nat) (u v : Nat → Nat) (s : Value) (w : World) (hm : m ≤ 30) (hnl : nl ≤ 30) (hu : ∀ i, u i < 256) (hv : ∀ i, v i < 256) (R : Nat → Prop) (r1 : R B1) (r2 : R B2) (rg : R g) (rs : ∀ k, s.ownBlock = some k → R k)
    (h1 : w.cell? ⟨B1, 0, none⟩ = some (.slice (some ⟨g, 0, none⟩) m c)) (h2 : w.cell? ⟨B2, 0, none⟩ = some s) (hc : OwnsRun w base2 (.slice (some ⟨g, 0, none⟩) m c) m u) (ho : OwnsRun w base s nl v) :
    GivesW Fence.wide n Tryz.prog 181 #[.pointer (some ⟨B1, 0, none⟩), .pointer (some ⟨B2, 0, none⟩)] (fun i : Nat => #[.int .i64 (i : Nat)]) (sel (unl u nl v) m) R w := by
  intro l J W hW hJ hY h0
  obtain ⟨sa, sc, rfl⟩ := owns_slice ho
  have c1 := (hW.cell (p := ⟨B1, 0, none⟩) (cell_lt h1)).trans h1
  have c2 := (hW.cell (p := ⟨B2, 0, none⟩) (cell_lt h2)).trans h2
  have HC := hide (owns_all hc hW)
  have HO := hide (owns_all ho hW)
  have HY := hide hY
  have HJ := hide hJ
  have HR := hide (And.intro r1 (And.intro r2 (And.intro rg rs)))
  have HC2 := hide c2
  clear hc ho hW h1 h2 hY hJ r1 r2 rg rs c2
  have hro : Fence.wide.round = none := rfl
  have hfA : Fence.wide.fn 182 := trivial
  have hF8 : Fence.wide.fn 181 := trivial
  refine callsIn_of_wp Tryz.func181 rfl hF8 ?_ hro
  simp only [Tryz.ntmps181, List.size_toArray, List.length_cons, List.length_nil, Nat.reduceAdd, Nat.reduceSub, Array.replicate_succ, Array.replicate_zero, List.push_toArray, List.append_toArray, List.nil_append, List.cons_append]
  gi_wp2
  gi_loopw [8, 4, 5] (fun i _ _ wr => ∃ k : Nat, k ≤ m ∧ i = .int .i64 k ∧ J (sel (unl u nl v) k).length wr ∧ LetsW R W.heap.size W wr) (fun i _ _ _ => m - (intOf i).toNat)
  case atStart => exact ⟨0, Nat.zero_le _, rfl, h0, LetsW.refl _ _ _⟩
  case round =>
    obtain ⟨k, hk, rfl, hJs, hL⟩ := hrel
    have HL := hide hL
    have HJS := hide hJs
    have hwz := hL.size
    by_cases hlt : k < m
    · have hru := hL.owns (unhide HC) (fun i hi => by simp only [Value.ownBlock, Option.some.injEq] at hi; subst hi; exact (unhide HR).2.2.1)
      obtain ⟨y0, y1, y2, y3, y4, y5, y6, y7⟩ := run_eight hru hlt
      have c2r := hL.cell (unhide HC2) (unhide HR).2.1
      have HOr := hide (hL.owns (unhide HO) (unhide HR).2.2.2)
      have hB2 := cell_lt c2r
      have c2a : ∀ o, (wr.alloc o).cell? ⟨B2, 0, none⟩ = some (.slice sa nl sc) := fun o => (World.cell?_alloc_past _ _ _ hB2).trans c2r
      clear hru hL hJs
      have hstep : ∀ (o : Obj) (w2 : World), Below (wr.alloc o).drew.heap.size (wr.alloc o).drew w2 → J (sel (unl u nl v) k).length w2 ∧ LetsW R W.heap.size W w2 ∧ w.heap.size ≤ w2.heap.size + w.heap.size := fun o w2 hb => by
        have hb2 : Below wr.heap.size wr w2 := ((below_alloc1 wr o).drew).trans (hb.mono (by show wr.heap.size ≤ (wr.alloc o).heap.size; simp))
        exact ⟨unhide HJ _ wr w2 none (unhide HJS) (below_grown hb2) (fun r e => by cases e), (unhide HL).trans (LetsW.of_below hb2), by omega⟩
      have HST := hide hstep
      clear hstep
      have hnb : ∀ (X : World), (Op.equalIn 10000 158 (blkVal fun j => u (8 * k + j)) (blkVal (runAt nl v k))).run Tryz.prog X = .ok (sameB (fun j => u (8 * k + j)) (runAt nl v k)) X := fun X => eq_block (fun j _ => hu _) (fun j _ => runAt_lt hv _ _) X
      have HSK := hide (sel_succ (unl u nl v) k)
      have HSG : Hid (unl u nl v k = true → (sel (unl u nl v) m)[(sel (unl u nl v) k).length]? = some k) := fun h => sel_at h hlt
      have hun : unl u nl v k = !sameB (fun j => u (8 * k + j)) (runAt nl v k) := rfl
      obtain ⟨P, hP⟩ : ∃ P, sameB (fun j => u (8 * k + j)) (runAt nl v k) = P := ⟨_, rfl⟩
      rw [hun, hP] at HSK HSG
      rw [hP] at hnb
      clear hun
      have hcase : P = false ∨ P = true := by cases P <;> simp
      have HBV : Hid (blkVal (runAt nl v k) = .agg #[.int .u8 (runAt nl v k 0 : Nat), .int .u8 (runAt nl v k 1 : Nat), .int .u8 (runAt nl v k 2 : Nat), .int .u8 (runAt nl v k 3 : Nat), .int .u8 (runAt nl v k 4 : Nat), .int .u8 (runAt nl v k 5 : Nat), .int .u8 (runAt nl v k 6 : Nat), .int .u8 (runAt nl v k 7 : Nat)]) := by show _ = _; rfl
      unfold blkVal at hnb
      simp only [Nat.add_zero] at hnb
      obtain ⟨d0, e0⟩ : ∃ x, u (8 * k) = x := ⟨_, rfl⟩
      obtain ⟨d1, e1⟩ : ∃ x, u (8 * k + 1) = x := ⟨_, rfl⟩
      obtain ⟨d2, e2⟩ : ∃ x, u (8 * k + 2) = x := ⟨_, rfl⟩
      obtain ⟨d3, e3⟩ : ∃ x, u (8 * k + 3) = x := ⟨_, rfl⟩
      obtain ⟨d4, e4⟩ : ∃ x, u (8 * k + 4) = x := ⟨_, rfl⟩
      obtain ⟨d5, e5⟩ : ∃ x, u (8 * k + 5) = x := ⟨_, rfl⟩
      obtain ⟨d6, e6⟩ : ∃ x, u (8 * k + 6) = x := ⟨_, rfl⟩
      obtain ⟨d7, e7⟩ : ∃ x, u (8 * k + 7) = x := ⟨_, rfl⟩
      obtain ⟨b0, f0⟩ : ∃ x, runAt nl v k 0 = x := ⟨_, rfl⟩
      obtain ⟨b1, f1⟩ : ∃ x, runAt nl v k 1 = x := ⟨_, rfl⟩
      obtain ⟨b2, f2⟩ : ∃ x, runAt nl v k 2 = x := ⟨_, rfl⟩
      obtain ⟨b3, f3⟩ : ∃ x, runAt nl v k 3 = x := ⟨_, rfl⟩
      obtain ⟨b4, f4⟩ : ∃ x, runAt nl v k 4 = x := ⟨_, rfl⟩
      obtain ⟨b5, f5⟩ : ∃ x, runAt nl v k 5 = x := ⟨_, rfl⟩
      obtain ⟨b6, f6⟩ : ∃ x, runAt nl v k 6 = x := ⟨_, rfl⟩
      obtain ⟨b7, f7⟩ : ∃ x, runAt nl v k 7 = x := ⟨_, rfl⟩
      rw [e0, e1, e2, e3, e4, e5, e6, e7, f0, f1, f2, f3, f4, f5, f6, f7] at hnb
      rw [f0, f1, f2, f3, f4, f5, f6, f7] at HBV
      rw [e0] at y0; rw [e1] at y1; rw [e2] at y2; rw [e3] at y3; rw [e4] at y4; rw [e5] at y5; rw [e6] at y6; rw [e7] at y7
      clear e0 e1 e2 e3 e4 e5 e6 e7 f0 f1 f2 f3 f4 f5 f6 f7 hP
      rcases hcase with rfl | rfl
      · have HXS := hide (unhide HSG rfl)
        gi_wp2_with fail
        gi_region_with (first
          | (gi_at_call 182; refine ((callsIn_wide (n := _)).2 (oat_calls nl k base v (.slice sa nl sc) _ (by exact (unhide HOr).alloc _) hnl (by omega))).mono ?_; rintro e w2 ⟨he, hb2⟩; rw [unhide HBV] at he; subst he; have bx := cl_under hb2; have z0 := blk_cell (i := 0) bx rfl; have z1 := blk_cell (i := 1) bx rfl; have z2 := blk_cell (i := 2) bx rfl; have z3 := blk_cell (i := 3) bx rfl; have z4 := blk_cell (i := 4) bx rfl; have z5 := blk_cell (i := 5) bx rfl; have z6 := blk_cell (i := 6) bx rfl; have z7 := blk_cell (i := 7) bx rfl; obtain ⟨hj2, hl2, _⟩ := unhide HST _ _ hb2; obtain ⟨fn, tmps, assign, body, hy, hR⟩ := unhide HY _ k w2 (unhide HXS) hj2; (try dsimp only at hy); have HRD := hide hR; have HL2 := hide hl2; clear hb2 bx hj2 hl2 hR)
          | (refine (unhide HRD).mono ?_; rintro e w3 ⟨rfl, hj3, hl3⟩))
        all_goals
          gi_wp2_with fail
          go_roundw
          case rel => exact ⟨k + 1, by omega, by simp, by rw [unhide HSK]; simpa using hj3, (unhide HL2).trans hl3⟩
          case measure => simp [intOf]; omega
      · gi_wp2_with fail
        refine wpIn_wide.2 (wp_calm ?_)
        first | go_region_with (go_at_call 182; refine (oat_calls nl k base v (.slice sa nl sc) _ (by exact (unhide HOr).alloc _) hnl (by omega)).mono ?_; rintro e w2 ⟨he, hb2⟩; rw [unhide HBV] at he; subst he; have bx := cl_under hb2; have z0 := blk_cell (i := 0) bx rfl; have z1 := blk_cell (i := 1) bx rfl; have z2 := blk_cell (i := 2) bx rfl; have z3 := blk_cell (i := 3) bx rfl; have z4 := blk_cell (i := 4) bx rfl; have z5 := blk_cell (i := 5) bx rfl; have z6 := blk_cell (i := 6) bx rfl; have z7 := blk_cell (i := 7) bx rfl; obtain ⟨hj2, hl2, _⟩ := unhide HST _ _ hb2; have HJ2 := hide hj2; have HL2 := hide hl2; clear hb2 bx hj2 hl2) | fail
        all_goals simp only [NQ]
        all_goals
          gi_wp2_with fail
          go_roundw
          case rel => exact ⟨k + 1, by omega, by simp, by rw [unhide HSK]; simpa using unhide HJ2, unhide HL2⟩
          case measure => simp [intOf]; omega
    · obtain rfl : k = m := by omega
      clear hL hJs
      gi_wp2
      go_end0
      exact ⟨⟨_, rfl⟩, unhide HJS⟩

theorem ounlike_in (n : Nat) (ua sa : Option Addr) (un uc sn sc : Nat) (w : World) :
    CallsIn Fence.wide n Tryz.prog 147 #[.slice ua un uc, .slice sa sn sc] w fun e w' => e = .returned (.func (.func 181) #[] #[.pointer (some ⟨w.heap.size, 0, none⟩), .pointer (some ⟨w.heap.size + 1, 0, none⟩)]) ∧ w' = (w.alloc (.cells #[.slice ua un uc] 117)).alloc (.cells #[.slice sa sn sc] 117) := by
  refine callsIn_of_wp Tryz.func147 rfl trivial ?_ rfl
  simp only [Tryz.ntmps147, List.size_toArray, List.length_cons, List.length_nil, Nat.reduceAdd, Nat.reduceSub, Array.replicate_succ, Array.replicate_zero, List.push_toArray, List.append_toArray, List.nil_append, List.cons_append]
  gi_wp2
  go_ret
  exact ⟨rfl, rfl⟩

end Go.Proofs.YtomiepknmmpflaaGreatDoor

