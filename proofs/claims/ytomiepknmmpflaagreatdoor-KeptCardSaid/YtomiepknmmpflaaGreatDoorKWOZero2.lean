/- The program's Write. -/
import Derived.Test.YtomiepknmmpflaaGreatDoorKPLaw
namespace Go.Proofs.YtomiepknmmpflaaGreatDoor
open Go.RowKit Go.Joins

theorem own_turn {w : World} {base g c n : Nat} {xs ys : List Value} (h : w.ownsRow base 5 1 (.slice (some ⟨g, 0, none⟩) n c) n xs) : ∃ cur : Array Value, w.heap[g]? = some (.cells cur 5 (0, 0)) ∧ cur.size = c ∧ n ≤ c ∧ cur.toList.take n = xs ∧
    (∀ new : Array Value, new.size = c → new.toList.take n = ys → ys.length = n → (w.setRow g new).ownsRow base 5 1 (.slice (some ⟨g, 0, none⟩) n c) n ys ∧ w.grownBy (w.setRow g new) (some g)) := by
  rcases h.2 with ⟨e, _⟩ | ⟨g', cap', cur, e, hb, hh, h1, h2, h3, h4⟩
  · simp at e
  · simp only [Value.slice.injEq, Option.some.injEq, Addr.mk.injEq, and_true, true_and] at e
    obtain ⟨rfl, rfl⟩ := e
    rw [Nat.mul_one] at h3 h4
    refine ⟨cur, hh, h3, h1, h4, fun new hn ht hy => ⟨⟨by simpa using hy, .inr ⟨g, c, new, rfl, hb, setRow_heap w g cur new _ _ hh, h1, h2, by simpa using hn, by rw [Nat.mul_one]; exact ht⟩⟩, ⟨rfl, rfl, rfl, by simp, fun k _ hk => setRow_other w g k _ (fun e => hk (by simp [e]))⟩⟩⟩
theorem splice_take {v v' : Nat → Nat} {n f k c : Nat} {L N : List Value} (hL : L.take (n * 8) = runTo v n) (hl : L.length = c) (hc : n * 8 ≤ c) (hN : N.length = k) (hf : f + k ≤ n * 8) (h1 : ∀ i, i < k → N[i]? = some (.int .u8 (v' (f + i) : Nat))) (h2 : ∀ i, i < 8 * n → (i < f ∨ f + k ≤ i) → v' i = v i) :
    (L.take f ++ N ++ L.drop (f + k)).length = c ∧ (L.take f ++ N ++ L.drop (f + k)).take (n * 8) = runTo v' n := by
  have e1 : (L.take f).length = f := by rw [List.length_take]; omega
  refine ⟨by rw [List.length_append, List.length_append, e1, hN, List.length_drop]; omega, ?_⟩
  have hLi : ∀ i, i < n * 8 → L[i]? = some (.int .u8 (v i : Nat)) := fun i hi => by
    have := congrArg (fun q => q[i]?) hL
    simp only [List.getElem?_take, if_pos hi] at this
    rw [this, runTo_byte v (by omega)]
  refine List.ext_getElem? fun i => ?_
  rw [List.getElem?_take]
  by_cases hi : i < n * 8
  · rw [if_pos hi, runTo_byte v' (by omega), List.append_assoc]
    by_cases ha : i < f
    · rw [List.getElem?_append_left (by omega), List.getElem?_take, if_pos ha, hLi i hi, h2 i (by omega) (Or.inl ha)]
    · rw [List.getElem?_append_right (by omega), e1]
      by_cases hb : i < f + k
      · rw [List.getElem?_append_left (by omega), h1 _ (by omega), show f + (i - f) = i from by omega]
      · rw [List.getElem?_append_right (by omega), hN, List.getElem?_drop, show f + k + (i - f - k) = i from by omega, hLi i hi, h2 i (by omega) (Or.inr (by omega))]
  · rw [if_neg hi, List.getElem?_eq_none (by rw [runTo_length]; omega)]
theorem copy_view {w : World} {base g c m : Nat} {l : Ov.Files} {ns : List ByteArray} (h : w.ownsRow base 5 1 (.slice (some ⟨g, 0, none⟩) (m * 8) c) (m * 8) (runTo (Ov.atTo l ns) m)) (d : ByteArray) {f : Nat} (hf : f + d.size ≤ m * 8) (cap : Nat) (ty : TypeId) :
    ∃ w', (Builtin.copy_ #[103, 9] ty #[.slice (some ⟨g, f, none⟩) (m * 8 - f) cap, .string d]).run Tryz.prog w = .ok (goInt d.size) w' ∧ w'.ownsRow base 5 1 (.slice (some ⟨g, 0, none⟩) (m * 8) c) (m * 8) (runTo (byteW l ns f d) m) ∧ w.grownBy w' (some g) := by
  obtain ⟨cur, hh, hsz, hc, ht, hnew⟩ := own_turn (ys := runTo (byteW l ns f d) m) h
  have hdl : (Lib.byteCells d.data.toList).length = d.size := by rw [Lib.byteCells_length]; rfl
  have hrun := Lib.run_copy_row_string (P := Tryz.prog) w 103 9 ty 5 g f (m * 8 - f) cap d cur 5 Tryz.underlying103 (by kernel_rfl) hh (by omega) (by omega)
  have hcl : cur.toList.length = c := by rw [Array.length_toList]; exact hsz
  obtain ⟨s1, s2⟩ := splice_take (v' := byteW l ns f d) (N := Lib.byteCells d.data.toList) (k := d.size) ht hcl hc hdl hf (fun i hi => by
    have hb : (Lib.byteCells d.data.toList)[i]? = some (.int .u8 ((d.data.toList.getD i 0).toNat : Nat)) := by
      unfold Lib.byteCells
      rw [List.getElem?_map, List.getD_eq_getElem?_getD, List.getElem?_eq_getElem (by have : d.data.toList.length = d.size := rfl
                                                                                      omega)]
      rfl
    rw [hb]
    unfold byteW
    rw [if_pos (by omega), show f + i - f = i from by omega]
    rfl) (fun i _ hi => by unfold byteW; rw [if_neg (by omega)])
  obtain ⟨k1, k2⟩ := hnew (cur.toList.take f ++ Lib.byteCells d.data.toList ++ cur.toList.drop (f + d.size)).toArray (by simpa using s1) (by simpa using s2) (runTo_length _ _)
  exact ⟨_, hrun, k1, k2⟩

theorem okeep_put (l : Ov.Files) (v : Value) (x f : ByteArray) (b room : Nat) (w : World) (hi : Ov.LI room l) (hp : Ov.place l x < l.length) (hblk : w.heap[b]? = some (.cells #[.int .i32 1, .int .u32 0, .int .i64 room, v] 77 (0, 0))) (hown : OwnsRows w 0 v l) (hx : x.size ≤ 1000) (hf : f.size ≤ 1000) :
    Calls Tryz.prog 53 #[.pointer (some ⟨b, 0, none⟩), .slice (some ⟨w.heap.size, 0, none⟩) 1 1] (w.alloc (.cells #[.string x, .string f] 97)) fun e w' => e = .returned (.int .i64 (Ov.putF room l (Ov.withF l x f)).1) ∧ ((Ov.putF room l (Ov.withF l x f)).2 = l ∧ Below w.heap.size w w' ∨ ∃ v', PutLeft w b 3 #[.int .i32 1, .int .u32 0, .int .i64 room, v] 77 v (Ov.putF room l (Ov.withF l x f)).2 v' w') := by
  refine (okeep_one l v x f b room w (withF_eight hi.len (Or.inl hp)) hblk hown hx).mono ?_
  rw [addUp_total hi x f hf]
  unfold Ov.putF
  rintro e w' (⟨h1, h2, h3⟩ | ⟨h1, h2, v', h3⟩)
  · rw [if_pos (by omega)]; exact ⟨h2, Or.inl ⟨rfl, h3⟩⟩
  · rw [if_neg (by omega)]; exact ⟨h2, Or.inr ⟨v', h3⟩⟩
theorem OvLeft.kept {w w3 w4 : World} {b room : Nat} {r : Option Nat} {l l' : Ov.Files} {v : Value} (h : OvRep w b r room l) (hv : w.heap[b]? = some (.cells #[.int .i32 0, .int .u32 0, .int .i64 room, v] 77 (0, 0))) (hr : v.ownBlock = r) (hb : Below (w.setCell ⟨b, 0, none⟩ (.int .i32 1)).heap.size (w.setCell ⟨b, 0, none⟩ (.int .i32 1)) w3)
    (hk : l' = l ∧ Below w3.heap.size w3 w4 ∨ ∃ v', PutLeft w3 b 3 #[.int .i32 1, .int .u32 0, .int .i64 room, v] 77 v l' v' w4) :
    w4.cell? ⟨b, 0, none⟩ = some (.int .i32 1) ∧ w4.frozen? ⟨b, 0, none⟩ = false ∧ OvLeft w b r room l' (w4.setCell ⟨b, 0, none⟩ (.int .i32 0)) := by
  have hbl : b < (w.setCell ⟨b, 0, none⟩ (.int .i32 1)).heap.size := by simpa using blk_lt hv
  have hB := blk_set_same (i := 0) hv (.int .i32 1)
  rcases hk with ⟨rfl, hk⟩ | ⟨v', hp⟩
  · have h5 := hb.trans (hk.mono hb.size)
    exact ⟨(h5.cell (p := ⟨b, 0, none⟩) hbl).trans (blk_cell hB rfl), (h5.frozen (p := ⟨b, 0, none⟩) hbl).trans (blk_frozen hB 0), OvLeft.quiet h h5⟩
  · exact ⟨blk_cell hp.blk rfl, blk_frozen hp.blk 0, OvLeft.turn h hb hr hp⟩

theorem below_grown_at {n g : Nat} {w w1 w2 : World} (h : Below n w w1) (hg : w1.grownBy w2 (some g)) (hn : n ≤ g) (hz : n ≤ w1.heap.size) : Below n w w2 := h.grown hg hz (fun k hk => by simp at hk; omega)
structure Opened (wl w2 w3 : World) (S g m ga c : Nat) (bk : ByteArray) (t f k : Int) (q : Nat → Int) (d : Nat → Eight) (v : Nat → Nat) : Prop where
  span : w3.heap[S]? = some (.cells #[.int .i64 f, .int .i64 k] 102 (0, 0))
  img : w3.heap[w2.heap.size]? = some (.cells #[.string bk, .slice (some ⟨g, 0, none⟩) m m, .int .i64 t] 90 (0, 0))
  row : w3.heap[g]? = some (.cells (clRow q d m).toArray 160 (0, 0))
  view : w3.ownsRow wl.heap.size 5 1 (.slice (some ⟨ga, 0, none⟩) (m * 8) c) (m * 8) (runTo v m)
  below : Below wl.heap.size wl w3
  hg : wl.heap.size ≤ g
theorem opened_turn {wl w2 w3 : World} {o : Obj} {S g m ga c : Nat} {bk : ByteArray} {t f k : Int} {q : Nat → Int} {d : Nat → Eight} {xs : List Value} {v : Nat → Nat} (hb : Below (wl.alloc o).heap.size (wl.alloc o) w2) (hsp : w2.heap[S]? = some (.cells #[.int .i64 f, .int .i64 k] 102 (0, 0))) (hg : w2.heap[g]? = some (.cells (clRow q d m).toArray 160 (0, 0))) (hgw : (wl.alloc o).heap.size ≤ g)
    (hov : w2.ownsRow (wl.alloc o).heap.size 5 1 (.slice (some ⟨ga, 0, none⟩) (m * 8) c) (m * 8) xs) (ho3 : w3.ownsRow (wl.alloc o).heap.size 5 1 (.slice (some ⟨ga, 0, none⟩) (m * 8) c) (m * 8) (runTo v m)) (hg3 : (w2.alloc (.cells #[.string bk, .slice (some ⟨g, 0, none⟩) m m, .int .i64 t] 90)).grownBy w3 (some ga)) : Opened wl w2 w3 S g m ga c bk t f k q d v := by
  have hz : wl.heap.size ≤ (wl.alloc o).heap.size := le_alloc wl o
  have hga : (wl.alloc o).heap.size ≤ ga := (hov.lt ga rfl).1
  have hb2 : Below wl.heap.size wl w2 := (below_alloc1 wl o).trans (hb.mono hz)
  have hz2 : wl.heap.size ≤ w2.heap.size := hb2.size
  have ne : ∀ {k : Nat} {cs : Array Value} {ty : TypeId}, (w2.alloc (.cells #[.string bk, .slice (some ⟨g, 0, none⟩) m m, .int .i64 t] 90)).heap[k]? = some (.cells cs ty (0, 0)) → ty ≠ 5 → w3.heap[k]? = some (.cells cs ty (0, 0)) := fun {k cs ty} hk hty => by
    have := own_ne (hov.alloc (.cells #[.string bk, .slice (some ⟨g, 0, none⟩) m m, .int .i64 t] 90)) hk hty
    exact (hg3.block k (blk_lt hk) this).trans hk
  exact ⟨ne (blk_alloc hsp _) (by decide), ne (blk_new w2 _) (by decide), ne (blk_alloc hg _) (by decide), ownsRow_le ho3 hz, below_grown_at (hb2.alloc hz2 _) hg3 (Nat.le_trans hz hga) (Nat.le_trans hz2 (le_alloc _ _)), Nat.le_trans hz hgw⟩
theorem Opened.turned {wl w2 w3 w4 : World} {S g m ga c : Nat} {bk : ByteArray} {t f k : Int} {q Q : Nat → Int} {d D : Nat → Eight} {v : Nat → Nat} (h : Opened wl w2 w3 S g m ga c bk t f k q d v) (hs : SD w3 g m Q D w4) : Opened wl w2 w4 S g m ga c bk t f k Q D v := by
  have ne : ∀ {k : Nat} {cs : Array Value} {ty : TypeId}, w3.heap[k]? = some (.cells cs ty (0, 0)) → ty ≠ 160 → w4.heap[k]? = some (.cells cs ty (0, 0)) := fun {k cs ty} hk hty => (hs.grown.block k (blk_lt hk) (by simp; exact blk_two hk h.row hty)).trans hk
  exact ⟨ne h.span (by decide), ne h.img (by decide), hs.row, owns_grown h.view hs.grown (Or.inr (own_ne h.view h.row (by decide)).symm), below_grown_at h.below hs.grown h.hg h.below.size, h.hg⟩
theorem Opened.cells {wl w2 w3 : World} {S g m ga c : Nat} {bk : ByteArray} {t f k : Int} {q : Nat → Int} {d : Nat → Eight} {v : Nat → Nat} (h : Opened wl w2 w3 S g m ga c bk t f k q d v) : w3.cell? ⟨S, 0, none⟩ = some (.int .i64 f) ∧ w3.cell? ⟨S, 1, none⟩ = some (.int .i64 k) ∧ w3.cell? ⟨w2.heap.size, 0, none⟩ = some (.string bk) ∧ w3.cell? ⟨w2.heap.size, 1, none⟩ = some (.slice (some ⟨g, 0, none⟩) m m) ∧ w3.cell? ⟨w2.heap.size, 2, none⟩ = some (.int .i64 t) :=
  ⟨blk_cell h.span rfl, blk_cell h.span rfl, blk_cell h.img rfl, blk_cell h.img rfl, blk_cell h.img rfl⟩

open Go.MuLone in
set_option maxRecDepth 100000 in
set_option maxHeartbeats 4000000 in
theorem oWrite_go (l : Ov.Files) (x d : ByteArray) (f b B : Nat) (r : Option Nat) (room : Nat) (s0 s1 s2 s3 : Addr) (w : World) (hi : Ov.LI room l) (h : OvRep w b r room l) (hs : Sents w B s0 s1 s2 s3) (hB : B ≤ b) (hq : rangedF l x f d.size = 0) (hd : d.size ≠ 0) :
    Calls Tryz.prog 29 #[.pointer (some ⟨b, 0, none⟩), .string x, .int .i64 (f : Nat), .string d] w fun e w' => e = .returned (.int .i64 (writeF room l x f d).1) ∧ OvLeft w b r room (writeF room l x f d).2 w' := by
  obtain ⟨v, h1, h2, h3, h4⟩ := id h
  have HR := hide h
  have c0 : w.cell? ⟨b, 0, none⟩ = some (.int .i32 0) := blk_cell h1 rfl
  have f0 := blk_frozen h1 0
  have hbl := blk_lt h1
  have HB0 := hide h1
  have HB := hide (blk_set_same (i := 0) h1 (.int .i32 1))
  have HO := hide (owns_set h2 h3 (a := ⟨b, 0, none⟩) (.int .i32 1))
  have H3 := hide h3
  have H4 := hide h4
  have HI := hide hi
  have HC : Hid (ChainAt (w.setCell ⟨b, 0, none⟩ (.int .i32 1)) b B r room l s0 s1 s2 s3) := ⟨h.lock, hi, hs.kept ((Below.refl B w).setCell (p := ⟨b, 0, none⟩) hB (.int .i32 1))⟩
  obtain ⟨hso, hp, hc, _, _, hfk⟩ := ranged_ok hq
  have hm := hc.many_le
  have hbk8 := backing_size hc
  have him := hc.image
  have hx1000 : x.size ≤ 1000 := Nat.le_trans (hi.name_size hp) (by omega)
  have HPL := hide hp
  obtain ⟨s, hse⟩ : ∃ s, fOf l x = s := ⟨_, rfl⟩
  rw [show Ov.fileAt l (Ov.place l x) = s from hse] at him
  rw [show fileOf l x = s from hse] at hm hfk hbk8
  obtain ⟨m, hme⟩ : ∃ m, Ov.many s = m := ⟨_, rfl⟩
  rw [hme] at hm hfk
  obtain ⟨hm1, hm30⟩ := hm
  obtain ⟨ns, hns⟩ : ∃ ns, (Ov.downOf l x).1 = ns := ⟨_, rfl⟩
  have hk1 : 1 ≤ d.size := by omega
  have HSY := hide (says_write (l := l) (ns := ns) (s := s) (d := d) (f := f) (k := d.size) him hme)
  have hKB := (unhide HSY)
  have HF : Hid (writeF room l x f d = Ov.putF room l (Ov.withF l x (encode (Ov.backing s) (allTo m (kOld s) (fun _ => 1) (touched f d.size)) (allTo m (bOld s) (blockW l ns f d) (touched f d.size))))) := by
    unfold writeF newF
    rw [hq, if_neg (by omega), if_neg hd, show fileOf l x = s from hse, hme, hns]
    exact rfl
  have hBb : ∀ i, i < m → ((allTo m (bOld s) (blockW l ns f d) (touched f d.size)).getD i ⟨#[]⟩).size ≤ 8 := fun i hi => by
    rw [allTo_getD hi]
    split
    · rw [blockW_size]; omega
    · exact bOld_size i
  obtain ⟨K, hK⟩ : ∃ K, allTo m (kOld s) (fun _ => (1 : Int)) (touched f d.size) = K := ⟨_, rfl⟩
  obtain ⟨Bs, hBs⟩ : ∃ Bs, allTo m (bOld s) (blockW l ns f d) (touched f d.size) = Bs := ⟨_, rfl⟩
  rw [hK, hBs] at HF HSY
  rw [hBs] at hBb
  have hKl : K.length = m := by rw [← hK, allTo_length]
  have hes : (encode (Ov.backing s) K Bs).size ≤ 1000 := by
    have := encode_size (Ov.backing s) K Bs (fun j hj => hBb j (by omega))
    omega
  obtain ⟨bk, hbk⟩ : ∃ bk, Ov.backing s = bk := ⟨_, rfl⟩
  rw [hbk] at HF hes hbk8
  obtain ⟨t, ht⟩ : ∃ t, Ov.lost s = t := ⟨_, rfl⟩
  have HSE := hide hse
  have HME := hide hme
  have HNS := hide hns
  have HBK := hide hbk
  have HLT := hide ht
  have HQ := hide hq
  have HRW : Hid (rowTo s m = clRow (qOf s) (dOf s) m) := by have := rowTo_row him; rw [hme] at this; exact this
  have hfkN : f + d.size ≤ m * 8 := by omega
  clear h h1 h2 h3 h4 hs hi hso hp hc him hse hme hns hKB hBb hK hBs hKl hbk ht hq hd hfk
  go_enter_defers Tryz.func29, Tryz.ntmps29
  go_wp2_with (first
    | (go_at_call 53; refine (okeep_put l v x (encode bk K Bs) b room _ (unhide HI) (unhide HPL) (((unhide HB5).block b (by simpa using hbl)).trans (unhide HB)) (owns_all (unhide HO) (unhide HB5)) hx1000 hes).mono ?_; rintro e w6 ⟨he, hk6⟩; rw [← unhide HF] at he hk6; subst he; have HK6 := hide hk6; clear hk6)
    | (go_at_call 54; refine (ofile_says (unhide HSY) (unhide HOP4).row bk t hm1 hm30 hbk8).mono ?_; rintro e w5 ⟨rfl, hb5⟩; have HB5 := hide ((unhide HOP4).below.trans (hb5.mono (unhide HOP4).below.size)); clear hb5)
    | (go_at_call 60; refine (osetData_calls w2.heap.size g m f d.size ga c _ bk t (qOf s) (dOf s) (byteW l ns f d) _ (unhide HOP).img (unhide HOP).row (unhide HOP).view hm30 hk1 hfkN).mono ?_; rintro e w4 ⟨⟨u4, rfl⟩, hsd⟩; have HOP4 := hide ((unhide HOP).turned hsd); obtain ⟨_, _, i0, i1, i2⟩ := (unhide HOP4).cells; clear hsd)
    | (go_at_call 59; refine (oopenAt_yes x f d.size _ b B r room l s0 s1 s2 s3 ((unhide HC).kept (below_alloc1 _ _)) (unhide HQ) (by omega) (by omega) (by omega) (by omega)).mono ?_; rintro e w2 ⟨hb2, g, a, c, he, hgw, hgb, hov⟩; rw [unhide HSE] at he hgb hov; rw [unhide HME] at he hgb hov; rw [unhide HBK, unhide HLT] at he; rw [unhide HNS] at hov; rw [unhide HRW] at hgb; subst he; obtain ⟨ga, ca, hva⟩ := ownsRow_form hov (by omega); obtain ⟨rfl, rfl⟩ : a = some ⟨ga, 0, none⟩ ∧ c = ca := (by simpa using hva); have hcap := (row_cap hov).1; have bp := (hb2.block (w.setCell ⟨b, 0, none⟩ (.int .i32 1)).heap.size (by simp)).trans (blk_new _ _); simp only [World.size_setCell] at bp; have q0 : ∀ o, (w2.alloc o).cell? ⟨w.heap.size, 0, none⟩ = some (.int .i64 (f : Nat)) := (fun o => blk_cell (blk_alloc bp o) rfl); have q1 : ∀ o, (w2.alloc o).cell? ⟨w.heap.size, 1, none⟩ = some (.int .i64 (d.size : Nat)) := (fun o => blk_cell (blk_alloc bp o) rfl); obtain ⟨w3, hcp, ho3, hg3⟩ := copy_view (hov.alloc (.cells #[.string bk, .slice (some ⟨g, 0, none⟩) m m, .int .i64 t] 90)) d hfkN (c - f) 3; have hne : ¬ c = f := (by omega); have HOP := hide (opened_turn hb2 bp hgb hgw hov ho3 hg3); obtain ⟨j0, j1, _, _, _⟩ := (unhide HOP).cells; clear hb2 hov hgb hva bp ho3 hg3 hgw)
    | (go_at_call 43; refine (lock_free muLib ⟨b, 0, none⟩ _ c0 f0).mono ?_; rintro e w1 ⟨rfl, rfl⟩))
  obtain ⟨z1, z2, z3⟩ := OvLeft.kept (unhide HR) (unhide HB0) (unhide H4) (unhide HB5) (unhide HK6)
  refine leaves_cons (f := 44) (args := #[.pointer (some ⟨b, 0, none⟩)]) (by simp) (by simp [go_sem]) ?_
  refine (unlock_deferred muLib ⟨b, 0, none⟩ .returning _ z1 z2).mono ?_
  rintro e u' w'' ⟨rfl, rfl, rfl⟩
  exact ⟨_, results_tmp rfl _ _ _, rfl, z3⟩

end Go.Proofs.YtomiepknmmpflaaGreatDoor

namespace Go.Proofs.YtomiepknmmpflaaGreatDoor
open Go.RowKit Go.Joins

open Go.MuLone in
set_option maxRecDepth 100000 in
set_option maxHeartbeats 2000000 in
theorem ovWrite_calls (l : Ov.Files) (x d : ByteArray) (f : Int) (b B : Nat) (r : Option Nat) (room : Nat) (s0 s1 s2 s3 : Addr) (w : World) (hi : Ov.LI room l) (h : OvRep w b r room l) (hs : Sents w B s0 s1 s2 s3) (hB : B ≤ b) (hf1 : -9223372036854775808 ≤ f) (hf2 : f ≤ 9223372036854775807) (hds : d.size ≤ 9223372036854775807) :
    Calls Tryz.prog 29 #[.pointer (some ⟨b, 0, none⟩), .string x, .int .i64 f, .string d] w fun e w' => e = .returned (.int .i64 (writeF room l x f d).1) ∧ OvLeft w b r room (writeF room l x f d).2 w' := by
  by_cases hq : rangedF l x f d.size = 0
  · by_cases hd : d.size = 0
    · have HF : Hid (writeF room l x f d = (0, l)) := by unfold writeF; rw [hq, if_neg (by omega), if_pos hd]; exact rfl
      obtain ⟨v, h1, h2, h3, h4⟩ := id h
      have HR := hide h
      have c0 : w.cell? ⟨b, 0, none⟩ = some (.int .i32 0) := blk_cell h1 rfl
      have f0 := blk_frozen h1 0
      have hbl := blk_lt h1
      have HB := hide (blk_set_same (i := 0) h1 (.int .i32 1))
      have HC : Hid (ChainAt (w.setCell ⟨b, 0, none⟩ (.int .i32 1)) b B r room l s0 s1 s2 s3) := ⟨h.lock, hi, hs.kept ((Below.refl B w).setCell (p := ⟨b, 0, none⟩) hB (.int .i32 1))⟩
      have HQ := hide hq
      have hdz : ((d.size : Int) == 0) = true := beq_iff_eq.2 (by omega)
      have hd1 : d.size ≤ 0 := by omega
      clear h h1 h2 h3 h4 hs hi hq hd
      go_enter_defers Tryz.func29, Tryz.ntmps29
      go_wp2_with (first
        | (go_at_call 59; refine (oopenAt_yes x f d.size _ b B r room l s0 s1 s2 s3 ((unhide HC).kept (below_alloc1 _ _)) (unhide HQ) hf1 hf2 (by omega) (by omega)).mono ?_; rintro e w2 ⟨hb2, g, a, c, rfl, hgw, hgb, hov⟩; have bp := (hb2.block (w.setCell ⟨b, 0, none⟩ (.int .i32 1)).heap.size (by simp)).trans (blk_new _ _); simp only [World.size_setCell] at bp; have q1 : ∀ o, (w2.alloc o).cell? ⟨w.heap.size, 1, none⟩ = some (.int .i64 (d.size : Nat)) := (fun o => blk_cell (blk_alloc bp o) rfl); have HB2 := hide hb2; clear hb2 hov hgb hgw bp)
        | (go_at_call 43; refine (lock_free muLib ⟨b, 0, none⟩ _ c0 f0).mono ?_; rintro e w1 ⟨rfl, rfl⟩))
      have hb5 : ∀ p, Below (w.setCell ⟨b, 0, none⟩ (.int .i32 1)).heap.size (w.setCell ⟨b, 0, none⟩ (.int .i32 1)) (w2.alloc p) := fun p => ((below_alloc1 _ _).trans ((unhide HB2).mono (le_alloc _ _))).alloc (by have := (unhide HB2).size; simp at this; simp; omega) _
      refine leaves_cons (f := 44) (args := #[.pointer (some ⟨b, 0, none⟩)]) (by simp) (by simp [go_sem]) ?_
      refine (unlock_deferred muLib ⟨b, 0, none⟩ .returning _ ?_ ?_).mono ?_
      · exact ((hb5 _).cell (p := ⟨b, 0, none⟩) (by simpa using hbl)).trans (blk_cell (unhide HB) rfl)
      · exact ((hb5 _).frozen (p := ⟨b, 0, none⟩) (by simpa using hbl)).trans (blk_frozen (unhide HB) 0)
      rintro e u' w'' ⟨rfl, rfl, rfl⟩
      refine ⟨_, results_tmp rfl _ _ _, ?_, by rw [unhide HF]; exact OvLeft.quiet (unhide HR) (hb5 _)⟩
      rw [unhide HF]; rfl
    · obtain ⟨_, _, _, hf0, _⟩ := ranged_ok hq
      obtain ⟨f, rfl⟩ := Int.eq_ofNat_of_zero_le hf0
      exact oWrite_go l x d f b B r room s0 s1 s2 s3 w hi h hs hB hq hd
  · have HF : Hid (writeF room l x f d = (rangedF l x f d.size, l)) := by unfold writeF; rw [if_pos hq]; exact rfl
    obtain ⟨v, h1, h2, h3, h4⟩ := id h
    have HR := hide h
    have c0 : w.cell? ⟨b, 0, none⟩ = some (.int .i32 0) := blk_cell h1 rfl
    have f0 := blk_frozen h1 0
    have hbl := blk_lt h1
    have HB := hide (blk_set_same (i := 0) h1 (.int .i32 1))
    have HC : Hid (ChainAt (w.setCell ⟨b, 0, none⟩ (.int .i32 1)) b B r room l s0 s1 s2 s3) := ⟨h.lock, hi, hs.kept ((Below.refl B w).setCell (p := ⟨b, 0, none⟩) hB (.int .i32 1))⟩
    have hno : ∀ W, Below (w.setCell ⟨b, 0, none⟩ (.int .i32 1)).heap.size (w.setCell ⟨b, 0, none⟩ (.int .i32 1)) W → Calls Tryz.prog 59 #[.pointer (some ⟨b, 0, none⟩), .string x, .agg #[.int .i64 f, .int .i64 (d.size : Nat)]] W (AtNo (rangedF l x f d.size) W) := fun W hW => oopenAt_no x f d.size W b B r room l s0 s1 s2 s3 ((unhide HC).kept hW) hq hf1 hf2 (by omega) (by omega)
    have HNO := hide hno
    obtain ⟨q, hqe⟩ : ∃ q, rangedF l x f d.size = q := ⟨_, rfl⟩
    rw [hqe] at HNO HF hq
    have hqn : (q != 0) = true := by rw [bne_iff_ne]; exact hq
    clear h h1 h2 h3 h4 hs hi hno hqe hq
    go_enter_defers Tryz.func29, Tryz.ntmps29
    go_wp2_with (first
      | (go_at_call 59; refine (unhide HNO _ (below_alloc1 _ _)).mono ?_; rintro e w2 ⟨hb2, rfl⟩; have HB2 := hide hb2; clear hb2)
      | (go_at_call 43; refine (lock_free muLib ⟨b, 0, none⟩ _ c0 f0).mono ?_; rintro e w1 ⟨rfl, rfl⟩))
    have hb5 : ∀ p, Below (w.setCell ⟨b, 0, none⟩ (.int .i32 1)).heap.size (w.setCell ⟨b, 0, none⟩ (.int .i32 1)) (w2.alloc p) := fun p => ((below_alloc1 _ _).trans ((unhide HB2).mono (le_alloc _ _))).alloc (by have := (unhide HB2).size; simp at this; simp; omega) _
    refine leaves_cons (f := 44) (args := #[.pointer (some ⟨b, 0, none⟩)]) (by simp) (by simp [go_sem]) ?_
    refine (unlock_deferred muLib ⟨b, 0, none⟩ .returning _ ?_ ?_).mono ?_
    · exact ((hb5 _).cell (p := ⟨b, 0, none⟩) (by simpa using hbl)).trans (blk_cell (unhide HB) rfl)
    · exact ((hb5 _).frozen (p := ⟨b, 0, none⟩) (by simpa using hbl)).trans (blk_frozen (unhide HB) 0)
    rintro e u' w'' ⟨rfl, rfl, rfl⟩
    refine ⟨_, results_tmp rfl _ _ _, ?_, by rw [unhide HF]; exact OvLeft.quiet (unhide HR) (hb5 _)⟩
    rw [unhide HF]; rfl

end Go.Proofs.YtomiepknmmpflaaGreatDoor

namespace Go.Proofs.YtomiepknmmpflaaGreatDoor
open Go.RowKit Go.Joins

theorem zero_cells (n : Nat) : (Builtin.zeroCells (Value.int .u8 0).cells n).toList = List.replicate n (Value.int .u8 0) := by
  show (Builtin.zeroCells #[Value.int .u8 0] n).toList = _
  simp [Builtin.zeroCells]
  apply List.ext_getElem
  · simp
  · intro i h1 h2
    simp [Nat.mod_one]
theorem byteW_noughts (l : Ov.Files) (ns : List ByteArray) (f k i : Nat) : byteW l ns f (noughtsF k) i = if f ≤ i ∧ i < f + k then 0 else Ov.atTo l ns i := by
  unfold byteW
  rw [noughtsF_size]
  by_cases h : f ≤ i ∧ i < f + k
  · rw [if_pos h, if_pos h]
    unfold Ov.byteAt noughtsF
    show ((List.replicate k (0 : UInt8)).getD (i - f) 0).toNat = 0
    rw [List.getD_eq_getElem?_getD, List.getElem?_replicate]
    split <;> rfl
  · rw [if_neg h, if_neg h]
theorem clear_view {w : World} {base g c m : Nat} {l : Ov.Files} {ns : List ByteArray} (h : w.ownsRow base 5 1 (.slice (some ⟨g, 0, none⟩) (m * 8) c) (m * 8) (runTo (Ov.atTo l ns) m)) {f k : Nat} (hk : 1 ≤ k) (hf : f + k ≤ m * 8) (cap : Nat) (ty : TypeId) :
    ∃ w', (Builtin.clear_ #[103] ty #[.slice (some ⟨g, f, none⟩) k cap]).run Tryz.prog w = .ok (.tuple #[]) w' ∧ w'.ownsRow base 5 1 (.slice (some ⟨g, 0, none⟩) (m * 8) c) (m * 8) (runTo (byteW l ns f (noughtsF k)) m) ∧ w.grownBy w' (some g) := by
  obtain ⟨cur, hh, hsz, hc, ht, hnew⟩ := own_turn (ys := runTo (byteW l ns f (noughtsF k)) m) h
  have hcl : cur.toList.length = c := by rw [Array.length_toList]; exact hsz
  have hst := run_storeCells_at Tryz.prog g f 5 (List.replicate k (Value.int .u8 0)) 0 cur w hh (by rw [List.length_replicate]; omega) (fun v hv => by rw [List.mem_replicate] at hv; rw [hv.2]; rfl)
  simp only [Nat.add_zero, List.length_replicate] at hst
  obtain ⟨s1, s2⟩ := splice_take (v' := byteW l ns f (noughtsF k)) (N := List.replicate k (Value.int .u8 0)) (k := k) ht hcl hc (by simp) hf (fun i hi => by
    rw [List.getElem?_replicate, if_pos hi, byteW_noughts, if_pos (by omega)]; rfl) (fun i _ hi => by rw [byteW_noughts, if_neg (by omega)])
  obtain ⟨k1, k2⟩ := hnew (cur.toList.take f ++ List.replicate k (Value.int .u8 0) ++ cur.toList.drop (f + k)).toArray (by simpa using s1) (by simpa using s2) (runTo_length _ _)
  refine ⟨_, ?_, k1, k2⟩
  obtain ⟨k, rfl⟩ : ∃ q, k = q + 1 := ⟨k - 1, by omega⟩
  have hz : ∀ w, (zeroValue 5).run Tryz.prog w = .ok (.int .u8 0) w := fun w => Tryz.zeroValue5 w
  have hzc := zero_cells (k + 1)
  simp only [Builtin.clear_, run_underlying Tryz.underlying103, Sem.run_bind, Result.andThen_ok, hz, hzc, hst, Sem.run_pure, List.getElem?_toArray, List.getElem?_cons_zero]

theorem opened_clear {wl w2 w3 w4 : World} {o : Obj} {S g m ga c : Nat} {bk : ByteArray} {t f k : Int} {q : Nat → Int} {d : Nat → Eight} {xs : List Value} {v : Nat → Nat} (hb : Below (wl.alloc o).heap.size (wl.alloc o) w2) (hsp : w2.heap[S]? = some (.cells #[.int .i64 f, .int .i64 k] 102 (0, 0))) (hg : w2.heap[g]? = some (.cells (clRow q d m).toArray 160 (0, 0))) (hgw : (wl.alloc o).heap.size ≤ g)
    (hov : w2.ownsRow (wl.alloc o).heap.size 5 1 (.slice (some ⟨ga, 0, none⟩) (m * 8) c) (m * 8) xs) (hb3 : Below (w2.alloc (.cells #[.string bk, .slice (some ⟨g, 0, none⟩) m m, .int .i64 t] 90)).heap.size (w2.alloc (.cells #[.string bk, .slice (some ⟨g, 0, none⟩) m m, .int .i64 t] 90)) w3)
    (ho4 : w4.ownsRow (wl.alloc o).heap.size 5 1 (.slice (some ⟨ga, 0, none⟩) (m * 8) c) (m * 8) (runTo v m)) (hg4 : w3.grownBy w4 (some ga)) : Opened wl w2 w4 S g m ga c bk t f k q d v :=
  opened_turn hb hsp hg hgw hov ho4 (grown_trans (grown_of_below hb3 _) hg4)

open Go.MuLone in
set_option maxRecDepth 100000 in
set_option maxHeartbeats 4000000 in
theorem oZero_go (l : Ov.Files) (x : ByteArray) (f k b B : Nat) (r : Option Nat) (room : Nat) (s0 s1 s2 s3 : Addr) (w : World) (hi : Ov.LI room l) (h : OvRep w b r room l) (hs : Sents w B s0 s1 s2 s3) (hB : B ≤ b) (hq : rangedF l x f k = 0) (hd : k ≠ 0) :
    Calls Tryz.prog 30 #[.pointer (some ⟨b, 0, none⟩), .string x, .int .i64 (f : Nat), .int .i64 (k : Nat)] w fun e w' => e = .returned (.int .i64 (zeroF room l x f k).1) ∧ OvLeft w b r room (zeroF room l x f k).2 w' := by
  obtain ⟨v, h1, h2, h3, h4⟩ := id h
  have HR := hide h
  have c0 : w.cell? ⟨b, 0, none⟩ = some (.int .i32 0) := blk_cell h1 rfl
  have f0 := blk_frozen h1 0
  have hbl := blk_lt h1
  have HB0 := hide h1
  have HB := hide (blk_set_same (i := 0) h1 (.int .i32 1))
  have HO := hide (owns_set h2 h3 (a := ⟨b, 0, none⟩) (.int .i32 1))
  have H3 := hide h3
  have H4 := hide h4
  have HI := hide hi
  have HC : Hid (ChainAt (w.setCell ⟨b, 0, none⟩ (.int .i32 1)) b B r room l s0 s1 s2 s3) := ⟨h.lock, hi, hs.kept ((Below.refl B w).setCell (p := ⟨b, 0, none⟩) hB (.int .i32 1))⟩
  obtain ⟨hso, hp, hc, _, _, hfk⟩ := ranged_ok hq
  have hm := hc.many_le
  have hbk8 := backing_size hc
  have him := hc.image
  have hx1000 : x.size ≤ 1000 := Nat.le_trans (hi.name_size hp) (by omega)
  have HPL := hide hp
  obtain ⟨s, hse⟩ : ∃ s, fOf l x = s := ⟨_, rfl⟩
  rw [show Ov.fileAt l (Ov.place l x) = s from hse] at him
  rw [show fileOf l x = s from hse] at hm hfk hbk8
  obtain ⟨m, hme⟩ : ∃ m, Ov.many s = m := ⟨_, rfl⟩
  rw [hme] at hm hfk
  obtain ⟨hm1, hm30⟩ := hm
  obtain ⟨ns, hns⟩ : ∃ ns, (Ov.downOf l x).1 = ns := ⟨_, rfl⟩
  have hk1 : 1 ≤ k := by omega
  have HSY := hide (says_zero (l := l) (ns := ns) (s := s) (f := f) (k := k) him hme)
  have hKB := (unhide HSY)
  have HF : Hid (zeroF room l x f k = Ov.putF room l (Ov.withF l x (encode (Ov.backing s) (allTo m (kOld s) (fun i => if covered f k i then (255 : Int) else 1) (touched f k)) (allTo m (bOld s) (fun i => if covered f k i then ⟨#[]⟩ else blockW l ns f (noughtsF k) i) (touched f k))))) := by
    unfold zeroF newF
    rw [hq, if_neg (by omega), if_neg (by omega), show fileOf l x = s from hse, hme, hns]
    exact rfl
  have hBb : ∀ i, i < m → ((allTo m (bOld s) (fun i => if covered f k i then ⟨#[]⟩ else blockW l ns f (noughtsF k) i) (touched f k)).getD i ⟨#[]⟩).size ≤ 8 := fun i hi => by
    rw [allTo_getD hi]
    split
    · split
      · exact Nat.zero_le _
      · rw [blockW_size]; omega
    · exact bOld_size i
  obtain ⟨K, hK⟩ : ∃ K, allTo m (kOld s) (fun i => if covered f k i then (255 : Int) else 1) (touched f k) = K := ⟨_, rfl⟩
  obtain ⟨Bs, hBs⟩ : ∃ Bs, allTo m (bOld s) (fun i => if covered f k i then ⟨#[]⟩ else blockW l ns f (noughtsF k) i) (touched f k) = Bs := ⟨_, rfl⟩
  rw [hK, hBs] at HF HSY
  rw [hBs] at hBb
  have hKl : K.length = m := by rw [← hK, allTo_length]
  have hes : (encode (Ov.backing s) K Bs).size ≤ 1000 := by
    have := encode_size (Ov.backing s) K Bs (fun j hj => hBb j (by omega))
    omega
  obtain ⟨bk, hbk⟩ : ∃ bk, Ov.backing s = bk := ⟨_, rfl⟩
  rw [hbk] at HF hes hbk8
  obtain ⟨t, ht⟩ : ∃ t, Ov.lost s = t := ⟨_, rfl⟩
  have HSE := hide hse
  have HME := hide hme
  have HNS := hide hns
  have HBK := hide hbk
  have HLT := hide ht
  have HQ := hide hq
  have HRW : Hid (rowTo s m = clRow (qOf s) (dOf s) m) := by have := rowTo_row him; rw [hme] at this; exact this
  have hfkN : f + k ≤ m * 8 := by omega
  clear h h1 h2 h3 h4 hs hi hso hp hc him hse hme hns hKB hBb hK hBs hKl hbk ht hq hd hfk
  have hkz : ((k : Int) == 0) = false := beq_eq_false_iff_ne.2 (by omega)
  have hfc0 : (0 : Int) ≤ (f : Int) + (k : Int) := by omega
  go_enter_defers Tryz.func30, Tryz.ntmps30
  go_wp2_with (first
    | (go_at_call 59; refine (oopenAt_yes x f k _ b B r room l s0 s1 s2 s3 ((unhide HC).kept (below_alloc1 _ _)) (unhide HQ) (by omega) (by omega) (by omega) (by omega)).mono ?_; rintro e w2 ⟨hb2, g, a, c, he, hgw, hgb, hov⟩; rw [unhide HSE] at he hgb hov; rw [unhide HME] at he hgb hov; rw [unhide HBK, unhide HLT] at he; rw [unhide HNS] at hov; rw [unhide HRW] at hgb; subst he; obtain ⟨ga, ca, hva⟩ := ownsRow_form hov (by omega); obtain ⟨rfl, rfl⟩ : a = some ⟨ga, 0, none⟩ ∧ c = ca := (by simpa using hva); have hcap := (row_cap hov).1; have bp := (hb2.block (w.setCell ⟨b, 0, none⟩ (.int .i32 1)).heap.size (by simp)).trans (blk_new _ _); simp only [World.size_setCell] at bp; have q0 : ∀ o, (w2.alloc o).cell? ⟨w.heap.size, 0, none⟩ = some (.int .i64 (f : Nat)) := (fun o => blk_cell (blk_alloc bp o) rfl); have q1 : ∀ o, (w2.alloc o).cell? ⟨w.heap.size, 1, none⟩ = some (.int .i64 (k : Nat)) := (fun o => blk_cell (blk_alloc bp o) rfl); have hne : ¬ c = f := (by omega); have hfc : (f : Int) + (k : Int) ≤ (c : Int) := (by omega); have HB2 := hide hb2; have HBP := hide bp; have HGB := hide hgb; have HOV := hide hov; clear hb2 hov hgb hva bp)
    | (go_at_call 43; refine (lock_free muLib ⟨b, 0, none⟩ _ c0 f0).mono ?_; rintro e w1 ⟨rfl, rfl⟩))
  refine wp_calm ?_
  go_region_with (go_at_call 61; refine (oend_calls f k _ (by omega) (by omega)).mono ?_; rintro e w3 ⟨rfl, hb3⟩; have hb3' := ((Below.refl _ _).drew).trans hb3; have z0 := (hb3'.cell (p := ⟨w.heap.size, 0, none⟩) (by have := blk_lt (unhide HBP); simp; omega)).trans (q0 _); have z1 := (hb3'.cell (p := ⟨w.heap.size, 1, none⟩) (by have := blk_lt (unhide HBP); simp; omega)).trans (q1 _); obtain ⟨w4, hcl, ho4, hg4⟩ := clear_view (owns_all ((unhide HOV).alloc _) hb3') hk1 hfkN (c - f) 0; have HOP := hide (opened_clear (unhide HB2) (unhide HBP) (unhide HGB) hgw (unhide HOV) hb3' ho4 hg4); obtain ⟨j0, j1, _, _, _⟩ := (unhide HOP).cells; clear hb3 hb3' ho4 hg4)
  all_goals
    simp only [NQ]
    go_wp2_with (first
      | (go_at_call 53; refine (okeep_put l v x (encode bk K Bs) b room _ (unhide HI) (unhide HPL) (((unhide HB7).block b (by simpa using hbl)).trans (unhide HB)) (owns_all (unhide HO) (unhide HB7)) hx1000 hes).mono ?_; rintro e w8 ⟨he, hk8⟩; rw [← unhide HF] at he hk8; subst he; have HK8 := hide hk8; clear hk8)
      | (go_at_call 54; refine (ofile_says (unhide HSY) (unhide HOP6).row bk t hm1 hm30 hbk8).mono ?_; rintro e w7 ⟨rfl, hb7⟩; have HB7 := hide ((unhide HOP6).below.trans (hb7.mono (unhide HOP6).below.size)); clear hb7)
      | (go_at_call 62; refine (osetWhole_calls w2.heap.size g m f k 1 bk t _ _ _ (unhide HOP5).img (unhide HOP5).row hm30 hfkN).mono ?_; rintro e w6 ⟨rfl, hsd⟩; have HOP6 := hide ((unhide HOP5).turned hsd); obtain ⟨_, _, n0, n1, n2⟩ := (unhide HOP6).cells; clear hsd)
      | (go_at_call 60; refine (osetData_calls w2.heap.size g m f k ga c _ bk t (qOf s) (dOf s) (byteW l ns f (noughtsF k)) _ (unhide HOP).img (unhide HOP).row (unhide HOP).view hm30 hk1 hfkN).mono ?_; rintro e w5 ⟨⟨u5, rfl⟩, hsd⟩; have HOP5 := hide ((unhide HOP).turned hsd); obtain ⟨i3, i4, i0, i1, i2⟩ := (unhide HOP5).cells; clear hsd))
    obtain ⟨y1, y2, y3⟩ := OvLeft.kept (unhide HR) (unhide HB0) (unhide H4) (unhide HB7) (unhide HK8)
    refine leaves_cons (f := 44) (args := #[.pointer (some ⟨b, 0, none⟩)]) (by simp) (by simp [go_sem]) ?_
    refine (unlock_deferred muLib ⟨b, 0, none⟩ .returning _ y1 y2).mono ?_
    rintro e u' w'' ⟨rfl, rfl, rfl⟩
    exact ⟨_, results_tmp rfl _ _ _, rfl, y3⟩

end Go.Proofs.YtomiepknmmpflaaGreatDoor

namespace Go.Proofs.YtomiepknmmpflaaGreatDoor
open Go.RowKit Go.Joins

open Go.MuLone in
set_option maxRecDepth 100000 in
set_option maxHeartbeats 2000000 in
theorem ovZero_calls (l : Ov.Files) (x : ByteArray) (f k : Int) (b B : Nat) (r : Option Nat) (room : Nat) (s0 s1 s2 s3 : Addr) (w : World) (hi : Ov.LI room l) (h : OvRep w b r room l) (hs : Sents w B s0 s1 s2 s3) (hB : B ≤ b) (hf1 : -9223372036854775808 ≤ f) (hf2 : f ≤ 9223372036854775807) (hk1 : -9223372036854775808 ≤ k) (hk2 : k ≤ 9223372036854775807) :
    Calls Tryz.prog 30 #[.pointer (some ⟨b, 0, none⟩), .string x, .int .i64 f, .int .i64 k] w fun e w' => e = .returned (.int .i64 (zeroF room l x f k).1) ∧ OvLeft w b r room (zeroF room l x f k).2 w' := by
  by_cases hq : rangedF l x f k = 0
  · by_cases hd : k = 0
    · have HF : Hid (zeroF room l x f k = (0, l)) := by unfold zeroF; rw [hq, if_neg (by omega), if_pos hd]; exact rfl
      obtain ⟨v, h1, h2, h3, h4⟩ := id h
      have HR := hide h
      have c0 : w.cell? ⟨b, 0, none⟩ = some (.int .i32 0) := blk_cell h1 rfl
      have f0 := blk_frozen h1 0
      have hbl := blk_lt h1
      have HB := hide (blk_set_same (i := 0) h1 (.int .i32 1))
      have HC : Hid (ChainAt (w.setCell ⟨b, 0, none⟩ (.int .i32 1)) b B r room l s0 s1 s2 s3) := ⟨h.lock, hi, hs.kept ((Below.refl B w).setCell (p := ⟨b, 0, none⟩) hB (.int .i32 1))⟩
      have HQ := hide hq
      subst hd
      clear h h1 h2 h3 h4 hs hi hq hk1 hk2
      go_enter_defers Tryz.func30, Tryz.ntmps30
      go_wp2_with (first
        | (go_at_call 59; refine (oopenAt_yes x f 0 _ b B r room l s0 s1 s2 s3 ((unhide HC).kept (below_alloc1 _ _)) (unhide HQ) hf1 hf2 (by omega) (by omega)).mono ?_; rintro e w2 ⟨hb2, g, a, c, rfl, hgw, hgb, hov⟩; have bp := (hb2.block (w.setCell ⟨b, 0, none⟩ (.int .i32 1)).heap.size (by simp)).trans (blk_new _ _); simp only [World.size_setCell] at bp; have q1 : ∀ o, (w2.alloc o).cell? ⟨w.heap.size, 1, none⟩ = some (.int .i64 0) := (fun o => blk_cell (blk_alloc bp o) rfl); have HB2 := hide hb2; clear hb2 hov hgb hgw bp)
        | (go_at_call 43; refine (lock_free muLib ⟨b, 0, none⟩ _ c0 f0).mono ?_; rintro e w1 ⟨rfl, rfl⟩))

      have hb5 : ∀ p, Below (w.setCell ⟨b, 0, none⟩ (.int .i32 1)).heap.size (w.setCell ⟨b, 0, none⟩ (.int .i32 1)) (w2.alloc p) := fun p => ((below_alloc1 _ _).trans ((unhide HB2).mono (le_alloc _ _))).alloc (by have := (unhide HB2).size; simp at this; simp; omega) _
      refine leaves_cons (f := 44) (args := #[.pointer (some ⟨b, 0, none⟩)]) (by simp) (by simp [go_sem]) ?_
      refine (unlock_deferred muLib ⟨b, 0, none⟩ .returning _ ?_ ?_).mono ?_
      · exact ((hb5 _).cell (p := ⟨b, 0, none⟩) (by simpa using hbl)).trans (blk_cell (unhide HB) rfl)
      · exact ((hb5 _).frozen (p := ⟨b, 0, none⟩) (by simpa using hbl)).trans (blk_frozen (unhide HB) 0)
      rintro e u' w'' ⟨rfl, rfl, rfl⟩
      refine ⟨_, results_tmp rfl _ _ _, ?_, by rw [unhide HF]; exact OvLeft.quiet (unhide HR) (hb5 _)⟩
      rw [unhide HF]; rfl
    · obtain ⟨_, _, _, hf0, hk0, _⟩ := ranged_ok hq
      obtain ⟨f, rfl⟩ := Int.eq_ofNat_of_zero_le hf0
      obtain ⟨k, rfl⟩ := Int.eq_ofNat_of_zero_le hk0
      exact oZero_go l x f k b B r room s0 s1 s2 s3 w hi h hs hB hq (by omega)
  · have HF : Hid (zeroF room l x f k = (rangedF l x f k, l)) := by unfold zeroF; rw [if_pos hq]; exact rfl
    obtain ⟨v, h1, h2, h3, h4⟩ := id h
    have HR := hide h
    have c0 : w.cell? ⟨b, 0, none⟩ = some (.int .i32 0) := blk_cell h1 rfl
    have f0 := blk_frozen h1 0
    have hbl := blk_lt h1
    have HB := hide (blk_set_same (i := 0) h1 (.int .i32 1))
    have HC : Hid (ChainAt (w.setCell ⟨b, 0, none⟩ (.int .i32 1)) b B r room l s0 s1 s2 s3) := ⟨h.lock, hi, hs.kept ((Below.refl B w).setCell (p := ⟨b, 0, none⟩) hB (.int .i32 1))⟩
    have hno : ∀ W, Below (w.setCell ⟨b, 0, none⟩ (.int .i32 1)).heap.size (w.setCell ⟨b, 0, none⟩ (.int .i32 1)) W → Calls Tryz.prog 59 #[.pointer (some ⟨b, 0, none⟩), .string x, .agg #[.int .i64 f, .int .i64 k]] W (AtNo (rangedF l x f k) W) := fun W hW => oopenAt_no x f k W b B r room l s0 s1 s2 s3 ((unhide HC).kept hW) hq hf1 hf2 hk1 hk2
    have HNO := hide hno
    obtain ⟨q, hqe⟩ : ∃ q, rangedF l x f k = q := ⟨_, rfl⟩
    rw [hqe] at HNO HF hq
    have hqn : (q != 0) = true := by rw [bne_iff_ne]; exact hq
    clear h h1 h2 h3 h4 hs hi hno hqe hq
    go_enter_defers Tryz.func30, Tryz.ntmps30
    go_wp2_with (first
      | (go_at_call 59; refine (unhide HNO _ (below_alloc1 _ _)).mono ?_; rintro e w2 ⟨hb2, rfl⟩; have HB2 := hide hb2; clear hb2)
      | (go_at_call 43; refine (lock_free muLib ⟨b, 0, none⟩ _ c0 f0).mono ?_; rintro e w1 ⟨rfl, rfl⟩))
    have hb5 : ∀ p, Below (w.setCell ⟨b, 0, none⟩ (.int .i32 1)).heap.size (w.setCell ⟨b, 0, none⟩ (.int .i32 1)) (w2.alloc p) := fun p => ((below_alloc1 _ _).trans ((unhide HB2).mono (le_alloc _ _))).alloc (by have := (unhide HB2).size; simp at this; simp; omega) _
    refine leaves_cons (f := 44) (args := #[.pointer (some ⟨b, 0, none⟩)]) (by simp) (by simp [go_sem]) ?_
    refine (unlock_deferred muLib ⟨b, 0, none⟩ .returning _ ?_ ?_).mono ?_
    · exact ((hb5 _).cell (p := ⟨b, 0, none⟩) (by simpa using hbl)).trans (blk_cell (unhide HB) rfl)
    · exact ((hb5 _).frozen (p := ⟨b, 0, none⟩) (by simpa using hbl)).trans (blk_frozen (unhide HB) 0)
    rintro e u' w'' ⟨rfl, rfl, rfl⟩
    refine ⟨_, results_tmp rfl _ _ _, ?_, by rw [unhide HF]; exact OvLeft.quiet (unhide HR) (hb5 _)⟩
    rw [unhide HF]; rfl

end Go.Proofs.YtomiepknmmpflaaGreatDoor

