/- The program's Write, whole; Zero. -/
import Derived.Test.YtomiepknmmpflaaGreatDoorCWOWrite
namespace Go.Proofs.YtomiepknmmpflaaGreatDoor
open Go.RowKit Go.Joins

open Go.MuLone in
set_option maxRecDepth 100000 in
set_option maxHeartbeats 2000000 in
theorem ovWrite_calls (l : Ov.Files) (x d : ByteArray) (f : Int) (b B : Nat) (r : Option Nat) (room : Nat) (s0 s1 s2 s3 : Addr) (w : World) (hi : Ov.LI room l) (h : OvRep w b r room l) (hs : Sents w B s0 s1 s2 s3) (hB : B ≤ b) (hf1 : -9223372036854775808 ≤ f) (hf2 : f ≤ 9223372036854775807) (hds : d.size ≤ 9223372036854775807) :
    Calls Tryz.prog 29 #[.pointer (some ⟨b, 0, none⟩), .string x, .int .i64 f, .string d] w fun e w' => e = .returned (.int .i64 (writeF room l x f d).1) ∧ OvLeft w b r room (writeF room l x f d).2 w' := by
  by_cases hq : rangedF l x f d.size = 0
  · by_cases hd : d.size = 0
    · have HF : Hid (writeF room l x f d = (0, l)) := by unfold writeF; rw [hq, if_neg (by omega), if_pos hd]; exact rfl
      obtain ⟨v, h1, h2, h3, h4⟩ := id h
      have HR := hide h
      have c0 : w.cell? ⟨b, 0, none⟩ = some (.int .i32 0) := blk_cell h1 rfl
      have f0 := blk_frozen h1 0
      have hbl := blk_lt h1
      have HB := hide (blk_set_same (i := 0) h1 (.int .i32 1))
      have HC : Hid (ChainAt (w.setCell ⟨b, 0, none⟩ (.int .i32 1)) b B r room l s0 s1 s2 s3) := ⟨h.lock, hi, hs.kept ((Below.refl B w).setCell (p := ⟨b, 0, none⟩) hB (.int .i32 1))⟩
      have HQ := hide hq
      have hdz : ((d.size : Int) == 0) = true := beq_iff_eq.2 (by omega)
      have hd1 : d.size ≤ 0 := by omega
      clear h h1 h2 h3 h4 hs hi hq hd
      go_enter_defers Tryz.func29, Tryz.ntmps29
      go_wp2_with (first
        | (go_at_call 59; refine (oopenAt_yes x f d.size _ b B r room l s0 s1 s2 s3 ((unhide HC).kept (below_alloc1 _ _)) (unhide HQ) hf1 hf2 (by omega) (by omega)).mono ?_; rintro e w2 ⟨hb2, g, a, c, rfl, hgw, hgb, hov⟩; have bp := (hb2.block (w.setCell ⟨b, 0, none⟩ (.int .i32 1)).heap.size (by simp)).trans (blk_new _ _); simp only [World.size_setCell] at bp; have q1 : ∀ o, (w2.alloc o).cell? ⟨w.heap.size, 1, none⟩ = some (.int .i64 (d.size : Nat)) := (fun o => blk_cell (blk_alloc bp o) rfl); have HB2 := hide hb2; clear hb2 hov hgb hgw bp)
        | (go_at_call 43; refine (lock_free muLib ⟨b, 0, none⟩ _ c0 f0).mono ?_; rintro e w1 ⟨rfl, rfl⟩))
      have hb5 : ∀ p, Below (w.setCell ⟨b, 0, none⟩ (.int .i32 1)).heap.size (w.setCell ⟨b, 0, none⟩ (.int .i32 1)) (w2.alloc p) := fun p => ((below_alloc1 _ _).trans ((unhide HB2).mono (le_alloc _ _))).alloc (by have := (unhide HB2).size; simp at this; simp; omega) _
      refine leaves_cons (f := 44) (args := #[.pointer (some ⟨b, 0, none⟩)]) (by simp) (by simp [go_sem]) ?_
      refine (unlock_deferred muLib ⟨b, 0, none⟩ .returning _ ?_ ?_).mono ?_
      · exact ((hb5 _).cell (p := ⟨b, 0, none⟩) (by simpa using hbl)).trans (blk_cell (unhide HB) rfl)
      · exact ((hb5 _).frozen (p := ⟨b, 0, none⟩) (by simpa using hbl)).trans (blk_frozen (unhide HB) 0)
      rintro e u' w'' ⟨rfl, rfl, rfl⟩
      refine ⟨_, results_tmp rfl _ _ _, ?_, by rw [unhide HF]; exact OvLeft.quiet (unhide HR) (hb5 _)⟩
      rw [unhide HF]; rfl
    · obtain ⟨_, _, _, hf0, _⟩ := ranged_ok hq
      obtain ⟨f, rfl⟩ := Int.eq_ofNat_of_zero_le hf0
      exact oWrite_go l x d f b B r room s0 s1 s2 s3 w hi h hs hB hq hd
  · have HF : Hid (writeF room l x f d = (rangedF l x f d.size, l)) := by unfold writeF; rw [if_pos hq]; exact rfl
    obtain ⟨v, h1, h2, h3, h4⟩ := id h
    have HR := hide h
    have c0 : w.cell? ⟨b, 0, none⟩ = some (.int .i32 0) := blk_cell h1 rfl
    have f0 := blk_frozen h1 0
    have hbl := blk_lt h1
    have HB := hide (blk_set_same (i := 0) h1 (.int .i32 1))
    have HC : Hid (ChainAt (w.setCell ⟨b, 0, none⟩ (.int .i32 1)) b B r room l s0 s1 s2 s3) := ⟨h.lock, hi, hs.kept ((Below.refl B w).setCell (p := ⟨b, 0, none⟩) hB (.int .i32 1))⟩
    have hno : ∀ W, Below (w.setCell ⟨b, 0, none⟩ (.int .i32 1)).heap.size (w.setCell ⟨b, 0, none⟩ (.int .i32 1)) W → Calls Tryz.prog 59 #[.pointer (some ⟨b, 0, none⟩), .string x, .agg #[.int .i64 f, .int .i64 (d.size : Nat)]] W (AtNo (rangedF l x f d.size) W) := fun W hW => oopenAt_no x f d.size W b B r room l s0 s1 s2 s3 ((unhide HC).kept hW) hq hf1 hf2 (by omega) (by omega)
    have HNO := hide hno
    obtain ⟨q, hqe⟩ : ∃ q, rangedF l x f d.size = q := ⟨_, rfl⟩
    rw [hqe] at HNO HF hq
    have hqn : (q != 0) = true := by rw [bne_iff_ne]; exact hq
    clear h h1 h2 h3 h4 hs hi hno hqe hq
    go_enter_defers Tryz.func29, Tryz.ntmps29
    go_wp2_with (first
      | (go_at_call 59; refine (unhide HNO _ (below_alloc1 _ _)).mono ?_; rintro e w2 ⟨hb2, rfl⟩; have HB2 := hide hb2; clear hb2)
      | (go_at_call 43; refine (lock_free muLib ⟨b, 0, none⟩ _ c0 f0).mono ?_; rintro e w1 ⟨rfl, rfl⟩))
    have hb5 : ∀ p, Below (w.setCell ⟨b, 0, none⟩ (.int .i32 1)).heap.size (w.setCell ⟨b, 0, none⟩ (.int .i32 1)) (w2.alloc p) := fun p => ((below_alloc1 _ _).trans ((unhide HB2).mono (le_alloc _ _))).alloc (by have := (unhide HB2).size; simp at this; simp; omega) _
    refine leaves_cons (f := 44) (args := #[.pointer (some ⟨b, 0, none⟩)]) (by simp) (by simp [go_sem]) ?_
    refine (unlock_deferred muLib ⟨b, 0, none⟩ .returning _ ?_ ?_).mono ?_
    · exact ((hb5 _).cell (p := ⟨b, 0, none⟩) (by simpa using hbl)).trans (blk_cell (unhide HB) rfl)
    · exact ((hb5 _).frozen (p := ⟨b, 0, none⟩) (by simpa using hbl)).trans (blk_frozen (unhide HB) 0)
    rintro e u' w'' ⟨rfl, rfl, rfl⟩
    refine ⟨_, results_tmp rfl _ _ _, ?_, by rw [unhide HF]; exact OvLeft.quiet (unhide HR) (hb5 _)⟩
    rw [unhide HF]; rfl

end Go.Proofs.YtomiepknmmpflaaGreatDoor

namespace Go.Proofs.YtomiepknmmpflaaGreatDoor
open Go.RowKit Go.Joins

theorem zero_cells (n : Nat) : (Builtin.zeroCells (Value.int .u8 0).cells n).toList = List.replicate n (Value.int .u8 0) := by
  show (Builtin.zeroCells #[Value.int .u8 0] n).toList = _
  simp [Builtin.zeroCells]
  apply List.ext_getElem
  · simp
  · intro i h1 h2
    simp [Nat.mod_one]
theorem byteW_noughts (l : Ov.Files) (ns : List ByteArray) (f k i : Nat) : byteW l ns f (noughtsF k) i = if f ≤ i ∧ i < f + k then 0 else Ov.atTo l ns i := by
  unfold byteW
  rw [noughtsF_size]
  by_cases h : f ≤ i ∧ i < f + k
  · rw [if_pos h, if_pos h]
    unfold Ov.byteAt noughtsF
    show ((List.replicate k (0 : UInt8)).getD (i - f) 0).toNat = 0
    rw [List.getD_eq_getElem?_getD, List.getElem?_replicate]
    split <;> rfl
  · rw [if_neg h, if_neg h]
theorem clear_view {w : World} {base g c m : Nat} {l : Ov.Files} {ns : List ByteArray} (h : w.ownsRow base 5 1 (.slice (some ⟨g, 0, none⟩) (m * 8) c) (m * 8) (runTo (Ov.atTo l ns) m)) {f k : Nat} (hk : 1 ≤ k) (hf : f + k ≤ m * 8) (cap : Nat) (ty : TypeId) :
    ∃ w', (Builtin.clear_ #[103] ty #[.slice (some ⟨g, f, none⟩) k cap]).run Tryz.prog w = .ok (.tuple #[]) w' ∧ w'.ownsRow base 5 1 (.slice (some ⟨g, 0, none⟩) (m * 8) c) (m * 8) (runTo (byteW l ns f (noughtsF k)) m) ∧ w.grownBy w' (some g) := by
  obtain ⟨cur, hh, hsz, hc, ht, hnew⟩ := own_turn (ys := runTo (byteW l ns f (noughtsF k)) m) h
  have hcl : cur.toList.length = c := by rw [Array.length_toList]; exact hsz
  have hst := run_storeCells_at Tryz.prog g f 5 (List.replicate k (Value.int .u8 0)) 0 cur w hh (by rw [List.length_replicate]; omega) (fun v hv => by rw [List.mem_replicate] at hv; rw [hv.2]; rfl)
  simp only [Nat.add_zero, List.length_replicate] at hst
  obtain ⟨s1, s2⟩ := splice_take (v' := byteW l ns f (noughtsF k)) (N := List.replicate k (Value.int .u8 0)) (k := k) ht hcl hc (by simp) hf (fun i hi => by
    rw [List.getElem?_replicate, if_pos hi, byteW_noughts, if_pos (by omega)]; rfl) (fun i _ hi => by rw [byteW_noughts, if_neg (by omega)])
  obtain ⟨k1, k2⟩ := hnew (cur.toList.take f ++ List.replicate k (Value.int .u8 0) ++ cur.toList.drop (f + k)).toArray (by simpa using s1) (by simpa using s2) (runTo_length _ _)
  refine ⟨_, ?_, k1, k2⟩
  obtain ⟨k, rfl⟩ : ∃ q, k = q + 1 := ⟨k - 1, by omega⟩
  have hz : ∀ w, (zeroValue 5).run Tryz.prog w = .ok (.int .u8 0) w := fun w => Tryz.zeroValue5 w
  have hzc := zero_cells (k + 1)
  simp only [Builtin.clear_, run_underlying Tryz.underlying103, Sem.run_bind, Result.andThen_ok, hz, hzc, hst, Sem.run_pure, List.getElem?_toArray, List.getElem?_cons_zero]

theorem opened_clear {wl w2 w3 w4 : World} {o : Obj} {S g m ga c : Nat} {bk : ByteArray} {t f k : Int} {q : Nat → Int} {d : Nat → Eight} {xs : List Value} {v : Nat → Nat} (hb : Below (wl.alloc o).heap.size (wl.alloc o) w2) (hsp : w2.heap[S]? = some (.cells #[.int .i64 f, .int .i64 k] 102 (0, 0))) (hg : w2.heap[g]? = some (.cells (clRow q d m).toArray 160 (0, 0))) (hgw : (wl.alloc o).heap.size ≤ g)
    (hov : w2.ownsRow (wl.alloc o).heap.size 5 1 (.slice (some ⟨ga, 0, none⟩) (m * 8) c) (m * 8) xs) (hb3 : Below (w2.alloc (.cells #[.string bk, .slice (some ⟨g, 0, none⟩) m m, .int .i64 t] 90)).heap.size (w2.alloc (.cells #[.string bk, .slice (some ⟨g, 0, none⟩) m m, .int .i64 t] 90)) w3)
    (ho4 : w4.ownsRow (wl.alloc o).heap.size 5 1 (.slice (some ⟨ga, 0, none⟩) (m * 8) c) (m * 8) (runTo v m)) (hg4 : w3.grownBy w4 (some ga)) : Opened wl w2 w4 S g m ga c bk t f k q d v :=
  opened_turn hb hsp hg hgw hov ho4 (grown_trans (grown_of_below hb3 _) hg4)

open Go.MuLone in
set_option maxRecDepth 100000 in
set_option maxHeartbeats 4000000 in
theorem oZero_go (l : Ov.Files) (x : ByteArray) (f k b B : Nat) (r : Option Nat) (room : Nat) (s0 s1 s2 s3 : Addr) (w : World) (hi : Ov.LI room l) (h : OvRep w b r room l) (hs : Sents w B s0 s1 s2 s3) (hB : B ≤ b) (hq : rangedF l x f k = 0) (hd : k ≠ 0) :
    Calls Tryz.prog 30 #[.pointer (some ⟨b, 0, none⟩), .string x, .int .i64 (f : Nat), .int .i64 (k : Nat)] w fun e w' => e = .returned (.int .i64 (zeroF room l x f k).1) ∧ OvLeft w b r room (zeroF room l x f k).2 w' := by
  obtain ⟨v, h1, h2, h3, h4⟩ := id h
  have HR := hide h
  have c0 : w.cell? ⟨b, 0, none⟩ = some (.int .i32 0) := blk_cell h1 rfl
  have f0 := blk_frozen h1 0
  have hbl := blk_lt h1
  have HB0 := hide h1
  have HB := hide (blk_set_same (i := 0) h1 (.int .i32 1))
  have HO := hide (owns_set h2 h3 (a := ⟨b, 0, none⟩) (.int .i32 1))
  have H3 := hide h3
  have H4 := hide h4
  have HI := hide hi
  have HC : Hid (ChainAt (w.setCell ⟨b, 0, none⟩ (.int .i32 1)) b B r room l s0 s1 s2 s3) := ⟨h.lock, hi, hs.kept ((Below.refl B w).setCell (p := ⟨b, 0, none⟩) hB (.int .i32 1))⟩
  obtain ⟨hso, hp, hc, _, _, hfk⟩ := ranged_ok hq
  have hm := hc.many_le
  have hbk8 := backing_size hc
  have him := hc.image
  have hx1000 : x.size ≤ 1000 := Nat.le_trans (hi.name_size hp) (by omega)
  have HPL := hide hp
  obtain ⟨s, hse⟩ : ∃ s, fOf l x = s := ⟨_, rfl⟩
  rw [show Ov.fileAt l (Ov.place l x) = s from hse] at him
  rw [show fileOf l x = s from hse] at hm hfk hbk8
  obtain ⟨m, hme⟩ : ∃ m, Ov.many s = m := ⟨_, rfl⟩
  rw [hme] at hm hfk
  obtain ⟨hm1, hm30⟩ := hm
  obtain ⟨ns, hns⟩ : ∃ ns, (Ov.downOf l x).1 = ns := ⟨_, rfl⟩
  have hk1 : 1 ≤ k := by omega
  have HSY := hide (says_zero (l := l) (ns := ns) (s := s) (f := f) (k := k) him hme)
  have hKB := (unhide HSY)
  have HF : Hid (zeroF room l x f k = Ov.putF room l (Ov.withF l x (encode (Ov.backing s) (allTo m (kOld s) (fun i => if covered f k i then (255 : Int) else 1) (touched f k)) (allTo m (bOld s) (fun i => if covered f k i then ⟨#[]⟩ else blockW l ns f (noughtsF k) i) (touched f k))))) := by
    unfold zeroF newF
    rw [hq, if_neg (by omega), if_neg (by omega), show fileOf l x = s from hse, hme, hns]
    exact rfl
  have hBb : ∀ i, i < m → ((allTo m (bOld s) (fun i => if covered f k i then ⟨#[]⟩ else blockW l ns f (noughtsF k) i) (touched f k)).getD i ⟨#[]⟩).size ≤ 8 := fun i hi => by
    rw [allTo_getD hi]
    split
    · split
      · exact Nat.zero_le _
      · rw [blockW_size]; omega
    · exact bOld_size i
  obtain ⟨K, hK⟩ : ∃ K, allTo m (kOld s) (fun i => if covered f k i then (255 : Int) else 1) (touched f k) = K := ⟨_, rfl⟩
  obtain ⟨Bs, hBs⟩ : ∃ Bs, allTo m (bOld s) (fun i => if covered f k i then ⟨#[]⟩ else blockW l ns f (noughtsF k) i) (touched f k) = Bs := ⟨_, rfl⟩
  rw [hK, hBs] at HF HSY
  rw [hBs] at hBb
  have hKl : K.length = m := by rw [← hK, allTo_length]
  have hes : (encode (Ov.backing s) K Bs).size ≤ 1000 := by
    have := encode_size (Ov.backing s) K Bs (fun j hj => hBb j (by omega))
    omega
  obtain ⟨bk, hbk⟩ : ∃ bk, Ov.backing s = bk := ⟨_, rfl⟩
  rw [hbk] at HF hes hbk8
  obtain ⟨t, ht⟩ : ∃ t, Ov.lost s = t := ⟨_, rfl⟩
  have HSE := hide hse
  have HME := hide hme
  have HNS := hide hns
  have HBK := hide hbk
  have HLT := hide ht
  have HQ := hide hq
  have HRW : Hid (rowTo s m = clRow (qOf s) (dOf s) m) := by have := rowTo_row him; rw [hme] at this; exact this
  have hfkN : f + k ≤ m * 8 := by omega
  clear h h1 h2 h3 h4 hs hi hso hp hc him hse hme hns hKB hBb hK hBs hKl hbk ht hq hd hfk
  have hkz : ((k : Int) == 0) = false := beq_eq_false_iff_ne.2 (by omega)
  have hfc0 : (0 : Int) ≤ (f : Int) + (k : Int) := by omega
  go_enter_defers Tryz.func30, Tryz.ntmps30
  go_wp2_with (first
    | (go_at_call 59; refine (oopenAt_yes x f k _ b B r room l s0 s1 s2 s3 ((unhide HC).kept (below_alloc1 _ _)) (unhide HQ) (by omega) (by omega) (by omega) (by omega)).mono ?_; rintro e w2 ⟨hb2, g, a, c, he, hgw, hgb, hov⟩; rw [unhide HSE] at he hgb hov; rw [unhide HME] at he hgb hov; rw [unhide HBK, unhide HLT] at he; rw [unhide HNS] at hov; rw [unhide HRW] at hgb; subst he; obtain ⟨ga, ca, hva⟩ := ownsRow_form hov (by omega); obtain ⟨rfl, rfl⟩ : a = some ⟨ga, 0, none⟩ ∧ c = ca := (by simpa using hva); have hcap := (row_cap hov).1; have bp := (hb2.block (w.setCell ⟨b, 0, none⟩ (.int .i32 1)).heap.size (by simp)).trans (blk_new _ _); simp only [World.size_setCell] at bp; have q0 : ∀ o, (w2.alloc o).cell? ⟨w.heap.size, 0, none⟩ = some (.int .i64 (f : Nat)) := (fun o => blk_cell (blk_alloc bp o) rfl); have q1 : ∀ o, (w2.alloc o).cell? ⟨w.heap.size, 1, none⟩ = some (.int .i64 (k : Nat)) := (fun o => blk_cell (blk_alloc bp o) rfl); have hne : ¬ c = f := (by omega); have hfc : (f : Int) + (k : Int) ≤ (c : Int) := (by omega); have HB2 := hide hb2; have HBP := hide bp; have HGB := hide hgb; have HOV := hide hov; clear hb2 hov hgb hva bp)
    | (go_at_call 43; refine (lock_free muLib ⟨b, 0, none⟩ _ c0 f0).mono ?_; rintro e w1 ⟨rfl, rfl⟩))
  refine wp_calm ?_
  go_region_with (go_at_call 61; refine (oend_calls f k _ (by omega) (by omega)).mono ?_; rintro e w3 ⟨rfl, hb3⟩; have hb3' := ((Below.refl _ _).drew).trans hb3; have z0 := (hb3'.cell (p := ⟨w.heap.size, 0, none⟩) (by have := blk_lt (unhide HBP); simp; omega)).trans (q0 _); have z1 := (hb3'.cell (p := ⟨w.heap.size, 1, none⟩) (by have := blk_lt (unhide HBP); simp; omega)).trans (q1 _); obtain ⟨w4, hcl, ho4, hg4⟩ := clear_view (owns_all ((unhide HOV).alloc _) hb3') hk1 hfkN (c - f) 0; have HOP := hide (opened_clear (unhide HB2) (unhide HBP) (unhide HGB) hgw (unhide HOV) hb3' ho4 hg4); obtain ⟨j0, j1, _, _, _⟩ := (unhide HOP).cells; clear hb3 hb3' ho4 hg4)
  all_goals
    simp only [NQ]
    go_wp2_with (first
      | (go_at_call 53; refine (okeep_put l v x (encode bk K Bs) b room _ (unhide HI) (unhide HPL) (((unhide HB7).block b (by simpa using hbl)).trans (unhide HB)) (owns_all (unhide HO) (unhide HB7)) hx1000 hes).mono ?_; rintro e w8 ⟨he, hk8⟩; rw [← unhide HF] at he hk8; subst he; have HK8 := hide hk8; clear hk8)
      | (go_at_call 54; refine (ofile_says (unhide HSY) (unhide HOP6).row bk t hm1 hm30 hbk8).mono ?_; rintro e w7 ⟨rfl, hb7⟩; have HB7 := hide ((unhide HOP6).below.trans (hb7.mono (unhide HOP6).below.size)); clear hb7)
      | (go_at_call 62; refine (osetWhole_calls w2.heap.size g m f k 1 bk t _ _ _ (unhide HOP5).img (unhide HOP5).row hm30 hfkN).mono ?_; rintro e w6 ⟨rfl, hsd⟩; have HOP6 := hide ((unhide HOP5).turned hsd); obtain ⟨_, _, n0, n1, n2⟩ := (unhide HOP6).cells; clear hsd)
      | (go_at_call 60; refine (osetData_calls w2.heap.size g m f k ga c _ bk t (qOf s) (dOf s) (byteW l ns f (noughtsF k)) _ (unhide HOP).img (unhide HOP).row (unhide HOP).view hm30 hk1 hfkN).mono ?_; rintro e w5 ⟨⟨u5, rfl⟩, hsd⟩; have HOP5 := hide ((unhide HOP).turned hsd); obtain ⟨i3, i4, i0, i1, i2⟩ := (unhide HOP5).cells; clear hsd))
    obtain ⟨y1, y2, y3⟩ := OvLeft.kept (unhide HR) (unhide HB0) (unhide H4) (unhide HB7) (unhide HK8)
    refine leaves_cons (f := 44) (args := #[.pointer (some ⟨b, 0, none⟩)]) (by simp) (by simp [go_sem]) ?_
    refine (unlock_deferred muLib ⟨b, 0, none⟩ .returning _ y1 y2).mono ?_
    rintro e u' w'' ⟨rfl, rfl, rfl⟩
    exact ⟨_, results_tmp rfl _ _ _, rfl, y3⟩

end Go.Proofs.YtomiepknmmpflaaGreatDoor

namespace Go.Proofs.YtomiepknmmpflaaGreatDoor
open Go.RowKit Go.Joins

open Go.MuLone in
set_option maxRecDepth 100000 in
set_option maxHeartbeats 2000000 in
theorem ovZero_calls (l : Ov.Files) (x : ByteArray) (f k : Int) (b B : Nat) (r : Option Nat) (room : Nat) (s0 s1 s2 s3 : Addr) (w : World) (hi : Ov.LI room l) (h : OvRep w b r room l) (hs : Sents w B s0 s1 s2 s3) (hB : B ≤ b) (hf1 : -9223372036854775808 ≤ f) (hf2 : f ≤ 9223372036854775807) (hk1 : -9223372036854775808 ≤ k) (hk2 : k ≤ 9223372036854775807) :
    Calls Tryz.prog 30 #[.pointer (some ⟨b, 0, none⟩), .string x, .int .i64 f, .int .i64 k] w fun e w' => e = .returned (.int .i64 (zeroF room l x f k).1) ∧ OvLeft w b r room (zeroF room l x f k).2 w' := by
  by_cases hq : rangedF l x f k = 0
  · by_cases hd : k = 0
    · have HF : Hid (zeroF room l x f k = (0, l)) := by unfold zeroF; rw [hq, if_neg (by omega), if_pos hd]; exact rfl
      obtain ⟨v, h1, h2, h3, h4⟩ := id h
      have HR := hide h
      have c0 : w.cell? ⟨b, 0, none⟩ = some (.int .i32 0) := blk_cell h1 rfl
      have f0 := blk_frozen h1 0
      have hbl := blk_lt h1
      have HB := hide (blk_set_same (i := 0) h1 (.int .i32 1))
      have HC : Hid (ChainAt (w.setCell ⟨b, 0, none⟩ (.int .i32 1)) b B r room l s0 s1 s2 s3) := ⟨h.lock, hi, hs.kept ((Below.refl B w).setCell (p := ⟨b, 0, none⟩) hB (.int .i32 1))⟩
      have HQ := hide hq
      subst hd
      clear h h1 h2 h3 h4 hs hi hq hk1 hk2
      go_enter_defers Tryz.func30, Tryz.ntmps30
      go_wp2_with (first
        | (go_at_call 59; refine (oopenAt_yes x f 0 _ b B r room l s0 s1 s2 s3 ((unhide HC).kept (below_alloc1 _ _)) (unhide HQ) hf1 hf2 (by omega) (by omega)).mono ?_; rintro e w2 ⟨hb2, g, a, c, rfl, hgw, hgb, hov⟩; have bp := (hb2.block (w.setCell ⟨b, 0, none⟩ (.int .i32 1)).heap.size (by simp)).trans (blk_new _ _); simp only [World.size_setCell] at bp; have q1 : ∀ o, (w2.alloc o).cell? ⟨w.heap.size, 1, none⟩ = some (.int .i64 0) := (fun o => blk_cell (blk_alloc bp o) rfl); have HB2 := hide hb2; clear hb2 hov hgb hgw bp)
        | (go_at_call 43; refine (lock_free muLib ⟨b, 0, none⟩ _ c0 f0).mono ?_; rintro e w1 ⟨rfl, rfl⟩))

      have hb5 : ∀ p, Below (w.setCell ⟨b, 0, none⟩ (.int .i32 1)).heap.size (w.setCell ⟨b, 0, none⟩ (.int .i32 1)) (w2.alloc p) := fun p => ((below_alloc1 _ _).trans ((unhide HB2).mono (le_alloc _ _))).alloc (by have := (unhide HB2).size; simp at this; simp; omega) _
      refine leaves_cons (f := 44) (args := #[.pointer (some ⟨b, 0, none⟩)]) (by simp) (by simp [go_sem]) ?_
      refine (unlock_deferred muLib ⟨b, 0, none⟩ .returning _ ?_ ?_).mono ?_
      · exact ((hb5 _).cell (p := ⟨b, 0, none⟩) (by simpa using hbl)).trans (blk_cell (unhide HB) rfl)
      · exact ((hb5 _).frozen (p := ⟨b, 0, none⟩) (by simpa using hbl)).trans (blk_frozen (unhide HB) 0)
      rintro e u' w'' ⟨rfl, rfl, rfl⟩
      refine ⟨_, results_tmp rfl _ _ _, ?_, by rw [unhide HF]; exact OvLeft.quiet (unhide HR) (hb5 _)⟩
      rw [unhide HF]; rfl
    · obtain ⟨_, _, _, hf0, hk0, _⟩ := ranged_ok hq
      obtain ⟨f, rfl⟩ := Int.eq_ofNat_of_zero_le hf0
      obtain ⟨k, rfl⟩ := Int.eq_ofNat_of_zero_le hk0
      exact oZero_go l x f k b B r room s0 s1 s2 s3 w hi h hs hB hq (by omega)
  · have HF : Hid (zeroF room l x f k = (rangedF l x f k, l)) := by unfold zeroF; rw [if_pos hq]; exact rfl
    obtain ⟨v, h1, h2, h3, h4⟩ := id h
    have HR := hide h
    have c0 : w.cell? ⟨b, 0, none⟩ = some (.int .i32 0) := blk_cell h1 rfl
    have f0 := blk_frozen h1 0
    have hbl := blk_lt h1
    have HB := hide (blk_set_same (i := 0) h1 (.int .i32 1))
    have HC : Hid (ChainAt (w.setCell ⟨b, 0, none⟩ (.int .i32 1)) b B r room l s0 s1 s2 s3) := ⟨h.lock, hi, hs.kept ((Below.refl B w).setCell (p := ⟨b, 0, none⟩) hB (.int .i32 1))⟩
    have hno : ∀ W, Below (w.setCell ⟨b, 0, none⟩ (.int .i32 1)).heap.size (w.setCell ⟨b, 0, none⟩ (.int .i32 1)) W → Calls Tryz.prog 59 #[.pointer (some ⟨b, 0, none⟩), .string x, .agg #[.int .i64 f, .int .i64 k]] W (AtNo (rangedF l x f k) W) := fun W hW => oopenAt_no x f k W b B r room l s0 s1 s2 s3 ((unhide HC).kept hW) hq hf1 hf2 hk1 hk2
    have HNO := hide hno
    obtain ⟨q, hqe⟩ : ∃ q, rangedF l x f k = q := ⟨_, rfl⟩
    rw [hqe] at HNO HF hq
    have hqn : (q != 0) = true := by rw [bne_iff_ne]; exact hq
    clear h h1 h2 h3 h4 hs hi hno hqe hq
    go_enter_defers Tryz.func30, Tryz.ntmps30
    go_wp2_with (first
      | (go_at_call 59; refine (unhide HNO _ (below_alloc1 _ _)).mono ?_; rintro e w2 ⟨hb2, rfl⟩; have HB2 := hide hb2; clear hb2)
      | (go_at_call 43; refine (lock_free muLib ⟨b, 0, none⟩ _ c0 f0).mono ?_; rintro e w1 ⟨rfl, rfl⟩))
    have hb5 : ∀ p, Below (w.setCell ⟨b, 0, none⟩ (.int .i32 1)).heap.size (w.setCell ⟨b, 0, none⟩ (.int .i32 1)) (w2.alloc p) := fun p => ((below_alloc1 _ _).trans ((unhide HB2).mono (le_alloc _ _))).alloc (by have := (unhide HB2).size; simp at this; simp; omega) _
    refine leaves_cons (f := 44) (args := #[.pointer (some ⟨b, 0, none⟩)]) (by simp) (by simp [go_sem]) ?_
    refine (unlock_deferred muLib ⟨b, 0, none⟩ .returning _ ?_ ?_).mono ?_
    · exact ((hb5 _).cell (p := ⟨b, 0, none⟩) (by simpa using hbl)).trans (blk_cell (unhide HB) rfl)
    · exact ((hb5 _).frozen (p := ⟨b, 0, none⟩) (by simpa using hbl)).trans (blk_frozen (unhide HB) 0)
    rintro e u' w'' ⟨rfl, rfl, rfl⟩
    refine ⟨_, results_tmp rfl _ _ _, ?_, by rw [unhide HF]; exact OvLeft.quiet (unhide HR) (hb5 _)⟩
    rw [unhide HF]; rfl

end Go.Proofs.YtomiepknmmpflaaGreatDoor

namespace Go.Proofs.YtomiepknmmpflaaGreatDoor
open Go.RowKit Go.Joins

theorem Opened.kept {wl w2 w3 w4 : World} {S g m ga c : Nat} {bk : ByteArray} {t f k : Int} {q : Nat → Int} {d : Nat → Eight} {v : Nat → Nat} (h : Opened wl w2 w3 S g m ga c bk t f k q d v) (hb : Below w3.heap.size w3 w4) : Opened wl w2 w4 S g m ga c bk t f k q d v :=
  ⟨(hb.block _ (blk_lt h.span)).trans h.span, (hb.block _ (blk_lt h.img)).trans h.img, (hb.block _ (blk_lt h.row)).trans h.row, owns_all h.view hb, h.below.trans (hb.mono h.below.size), h.hg⟩

open Go.MuLone in
set_option maxRecDepth 100000 in
set_option maxHeartbeats 4000000 in
theorem oDiscard_go (l : Ov.Files) (x : ByteArray) (f k b B : Nat) (r : Option Nat) (room : Nat) (s0 s1 s2 s3 : Addr) (w : World) (hi : Ov.LI room l) (h : OvRep w b r room l) (hs : Sents w B s0 s1 s2 s3) (hB : B ≤ b) (hq : rangedF l x f k = 0) :
    Calls Tryz.prog 32 #[.pointer (some ⟨b, 0, none⟩), .string x, .int .i64 (f : Nat), .int .i64 (k : Nat)] w fun e w' => e = .returned (.int .i64 (discardF room l x f k).1) ∧ OvLeft w b r room (discardF room l x f k).2 w' := by
  obtain ⟨v, h1, h2, h3, h4⟩ := id h
  have HR := hide h
  have c0 : w.cell? ⟨b, 0, none⟩ = some (.int .i32 0) := blk_cell h1 rfl
  have f0 := blk_frozen h1 0
  have hbl := blk_lt h1
  have HB0 := hide h1
  have HB := hide (blk_set_same (i := 0) h1 (.int .i32 1))
  have HO := hide (owns_set h2 h3 (a := ⟨b, 0, none⟩) (.int .i32 1))
  have H3 := hide h3
  have H4 := hide h4
  have HI := hide hi
  have HC : Hid (ChainAt (w.setCell ⟨b, 0, none⟩ (.int .i32 1)) b B r room l s0 s1 s2 s3) := ⟨h.lock, hi, hs.kept ((Below.refl B w).setCell (p := ⟨b, 0, none⟩) hB (.int .i32 1))⟩
  obtain ⟨hso, hp, hc, _, _, hfk⟩ := ranged_ok hq
  have hm := hc.many_le
  have hbk8 := backing_size hc
  have him := hc.image
  have hx1000 : x.size ≤ 1000 := Nat.le_trans (hi.name_size hp) (by omega)
  have HPL := hide hp
  obtain ⟨s, hse⟩ : ∃ s, fOf l x = s := ⟨_, rfl⟩
  rw [show Ov.fileAt l (Ov.place l x) = s from hse] at him
  rw [show fileOf l x = s from hse] at hm hfk hbk8
  obtain ⟨m, hme⟩ : ∃ m, Ov.many s = m := ⟨_, rfl⟩
  rw [hme] at hm hfk
  obtain ⟨hm1, hm30⟩ := hm
  obtain ⟨ns, hns⟩ : ∃ ns, (Ov.downOf l x).1 = ns := ⟨_, rfl⟩
  have HSY := hide (says_discard (s := s) (f := f) (k := k) him hme)
  have hKB := (unhide HSY)
  have HF0 : Hid (someTo f k m = false → discardF room l x f k = (0, l)) := by
    intro h0
    unfold discardF
    rw [hq, if_neg (by omega), show fileOf l x = s from hse, hme, Int.toNat_natCast, Int.toNat_natCast, if_pos ((someTo_all f k m).2 h0)]
  have HF : Hid (someTo f k m = true → discardF room l x f k = Ov.putF room l (Ov.withF l x (encode (Ov.backing s) (allTo m (kOld s) (fun _ => if (Ov.backing s).size = 0 then (0 : Int) else 255) (covered f k)) (allTo m (bOld s) (fun _ => (⟨#[]⟩ : ByteArray)) (covered f k))))) := by
    intro h0
    unfold discardF newF
    rw [hq, if_neg (by omega), show fileOf l x = s from hse, hme, Int.toNat_natCast, Int.toNat_natCast, if_neg (fun e => by have h1 := (someTo_all f k m).1 e; rw [h0] at h1; cases h1)]
  have hBb : ∀ i, i < m → ((allTo m (bOld s) (fun _ => (⟨#[]⟩ : ByteArray)) (covered f k)).getD i ⟨#[]⟩).size ≤ 8 := fun i hi => by
    rw [allTo_getD hi]
    split
    · exact Nat.zero_le _
    · exact bOld_size i
  obtain ⟨K, hK⟩ : ∃ K, allTo m (kOld s) (fun _ => if (Ov.backing s).size = 0 then (0 : Int) else 255) (covered f k) = K := ⟨_, rfl⟩
  obtain ⟨Bs, hBs⟩ : ∃ Bs, allTo m (bOld s) (fun _ => (⟨#[]⟩ : ByteArray)) (covered f k) = Bs := ⟨_, rfl⟩
  rw [hK, hBs] at HF HSY
  rw [hBs] at hBb
  have hKl : K.length = m := by rw [← hK, allTo_length]
  have hes : (encode (Ov.backing s) K Bs).size ≤ 1000 := by
    have := encode_size (Ov.backing s) K Bs (fun j hj => hBb j (by omega))
    omega
  obtain ⟨bk, hbk⟩ : ∃ bk, Ov.backing s = bk := ⟨_, rfl⟩
  rw [hbk] at HF hes hbk8 HSY
  obtain ⟨t, ht⟩ : ∃ t, Ov.lost s = t := ⟨_, rfl⟩
  have HSE := hide hse
  have HME := hide hme
  have HNS := hide hns
  have HBK := hide hbk
  have HLT := hide ht
  have HQ := hide hq
  have HRW : Hid (rowTo s m = clRow (qOf s) (dOf s) m) := by have := rowTo_row him; rw [hme] at this; exact this
  have hfkN : f + k ≤ m * 8 := by omega
  clear h h1 h2 h3 h4 hs hi hso hp hc him hse hme hns hKB hBb hK hBs hKl hbk ht hq hfk
  obtain ⟨D, hD⟩ : ∃ D, discKind bk = D := ⟨_, rfl⟩
  rw [hD] at HSY
  have HDK := hide hD
  clear hD
  have hcase : someTo f k m = true ∨ someTo f k m = false := by cases someTo f k m <;> simp
  rcases hcase with hst | hst
  · have HST := hide hst
    have HF1 := hide (unhide HF hst)
    clear hst HF HF0
    go_enter_defers Tryz.func32, Tryz.ntmps32
    go_wp2_with (first
      | (go_at_call 59; refine (oopenAt_yes x f k _ b B r room l s0 s1 s2 s3 ((unhide HC).kept (below_alloc1 _ _)) (unhide HQ) (by omega) (by omega) (by omega) (by omega)).mono ?_; rintro e w2 ⟨hb2, g, a, c, he, hgw, hgb, hov⟩; rw [unhide HSE] at he hgb hov; rw [unhide HME] at he hgb hov; rw [unhide HBK, unhide HLT] at he; rw [unhide HNS] at hov; rw [unhide HRW] at hgb; subst he; obtain ⟨ga, ca, hva⟩ := ownsRow_form hov (by omega); obtain ⟨rfl, rfl⟩ : a = some ⟨ga, 0, none⟩ ∧ c = ca := (by simpa using hva); have bp := (hb2.block (w.setCell ⟨b, 0, none⟩ (.int .i32 1)).heap.size (by simp)).trans (blk_new _ _); simp only [World.size_setCell] at bp; have HOP := hide (opened_turn (bk := bk) (t := t) hb2 bp hgb hgw hov (hov.alloc _) (grown_of_below (Below.refl _ _) _)); obtain ⟨j0, j1, j2, j3, j4⟩ := (unhide HOP).cells; clear hb2 hov hgb hva bp hgw)
      | (go_at_call 43; refine (lock_free muLib ⟨b, 0, none⟩ _ c0 f0).mono ?_; rintro e w1 ⟨rfl, rfl⟩))
    refine wp_calm ?_
    go_region_with (first
      | (go_at_call 62; refine (osetWhole_calls w2.heap.size g m f k D bk t _ _ _ (unhide HOP4).img (unhide HOP4).row hm30 hfkN).mono ?_; rintro e w6 ⟨he, hsd⟩; rw [unhide HST] at he; subst he; have HOP6 := hide ((unhide HOP4).turned hsd); obtain ⟨_, _, n0, n1, n2⟩ := (unhide HOP6).cells; clear hsd)
      | (go_at_call 63; refine (oblank_calls bk _ _ _ _ _).mono ?_; rintro e w4 ⟨he, hb4⟩; rw [unhide HDK] at he; subst he; have HOP4 := hide ((unhide HOP).kept (((Below.refl _ _).drew).trans hb4)); obtain ⟨o0, o1, o2, o3, o4⟩ := (unhide HOP4).cells; clear hb4))
    all_goals
      simp only [NQ]
      go_wp2_with (first
        | (go_at_call 53; refine (okeep_put l v x (encode bk K Bs) b room _ (unhide HI) (unhide HPL) (((unhide HB7).block b (by simpa using hbl)).trans (unhide HB)) (owns_all (unhide HO) (unhide HB7)) hx1000 hes).mono ?_; rintro e w8 ⟨he, hk8⟩; rw [← unhide HF1] at he hk8; subst he; have HK8 := hide hk8; clear hk8)
        | (go_at_call 54; refine (ofile_says (unhide HSY) (unhide HOP6).row bk t hm1 hm30 hbk8).mono ?_; rintro e w7 ⟨rfl, hb7⟩; have HB7 := hide ((unhide HOP6).below.trans (hb7.mono (unhide HOP6).below.size)); clear hb7))
      obtain ⟨y1, y2, y3⟩ := OvLeft.kept (unhide HR) (unhide HB0) (unhide H4) (unhide HB7) (unhide HK8)
      refine leaves_cons (f := 44) (args := #[.pointer (some ⟨b, 0, none⟩)]) (by simp) (by simp [go_sem]) ?_
      refine (unlock_deferred muLib ⟨b, 0, none⟩ .returning _ y1 y2).mono ?_
      rintro e u' w'' ⟨rfl, rfl, rfl⟩
      exact ⟨_, results_tmp rfl _ _ _, rfl, y3⟩
  · have HST := hide hst
    have HF1 := hide (unhide HF0 hst)
    clear hst HF HF0
    go_enter_defers Tryz.func32, Tryz.ntmps32
    go_wp2_with (first
      | (go_at_call 59; refine (oopenAt_yes x f k _ b B r room l s0 s1 s2 s3 ((unhide HC).kept (below_alloc1 _ _)) (unhide HQ) (by omega) (by omega) (by omega) (by omega)).mono ?_; rintro e w2 ⟨hb2, g, a, c, he, hgw, hgb, hov⟩; rw [unhide HSE] at he hgb hov; rw [unhide HME] at he hgb hov; rw [unhide HBK, unhide HLT] at he; rw [unhide HNS] at hov; rw [unhide HRW] at hgb; subst he; obtain ⟨ga, ca, hva⟩ := ownsRow_form hov (by omega); obtain ⟨rfl, rfl⟩ : a = some ⟨ga, 0, none⟩ ∧ c = ca := (by simpa using hva); have bp := (hb2.block (w.setCell ⟨b, 0, none⟩ (.int .i32 1)).heap.size (by simp)).trans (blk_new _ _); simp only [World.size_setCell] at bp; have HOP := hide (opened_turn (bk := bk) (t := t) hb2 bp hgb hgw hov (hov.alloc _) (grown_of_below (Below.refl _ _) _)); obtain ⟨j0, j1, j2, j3, j4⟩ := (unhide HOP).cells; clear hb2 hov hgb hva bp hgw)
      | (go_at_call 43; refine (lock_free muLib ⟨b, 0, none⟩ _ c0 f0).mono ?_; rintro e w1 ⟨rfl, rfl⟩))
    refine wp_calm ?_
    go_region_with (first
      | (go_at_call 62; refine (osetWhole_calls w2.heap.size g m f k D bk t _ _ _ (unhide HOP4).img (unhide HOP4).row hm30 hfkN).mono ?_; rintro e w6 ⟨he, hsd⟩; rw [unhide HST] at he; subst he; have HOP6 := hide ((unhide HOP4).turned hsd); obtain ⟨_, _, n0, n1, n2⟩ := (unhide HOP6).cells; clear hsd)
      | (go_at_call 63; refine (oblank_calls bk _ _ _ _ _).mono ?_; rintro e w4 ⟨he, hb4⟩; rw [unhide HDK] at he; subst he; have HOP4 := hide ((unhide HOP).kept (((Below.refl _ _).drew).trans hb4)); obtain ⟨o0, o1, o2, o3, o4⟩ := (unhide HOP4).cells; clear hb4))
    all_goals
      simp only [NQ]
      go_wp2_with fail
      refine leaves_cons (f := 44) (args := #[.pointer (some ⟨b, 0, none⟩)]) (by simp) (by simp [go_sem]) ?_
      refine (unlock_deferred muLib ⟨b, 0, none⟩ .returning _ ?_ ?_).mono ?_
      · exact ((unhide HOP6).below.cell (p := ⟨b, 0, none⟩) (by simpa using hbl)).trans (blk_cell (unhide HB) rfl)
      · exact ((unhide HOP6).below.frozen (p := ⟨b, 0, none⟩) (by simpa using hbl)).trans (blk_frozen (unhide HB) 0)
      rintro e u' w'' ⟨rfl, rfl, rfl⟩
      refine ⟨_, results_tmp rfl _ _ _, ?_, by rw [unhide HF1]; exact OvLeft.quiet (unhide HR) (unhide HOP6).below⟩
      rw [unhide HF1]; rfl

end Go.Proofs.YtomiepknmmpflaaGreatDoor

