/- The walk of the program's parseImage. -/
import Derived.Test.YtomiepknmmpflaaGreatDoorKWClus
namespace Go.Proofs.YtomiepknmmpflaaGreatDoor
open Go.RowKit Go.Joins

theorem RD.start {w : World} {s : ByteArray} {o : Obj} : ((w.alloc o).alloc (.cells #[.string s, .bool false] 170)).heap[w.heap.size + 1]? = some (.cells #[.string s, .bool false] 170 (0, 0)) := by
  show ((w.alloc o).heap.push _)[w.heap.size + 1]? = _
  rw [Array.getElem?_push, if_pos (by simp)]
theorem otext_at {rest o rest' : ByteArray} {sh sh' : Bool} {m r : Nat} (ho : tOut rest m = o) (hr : tRest rest m = rest') (hs : tShort rest sh m = sh') (w : World) (h : w.heap[r]? = some (.cells #[.string rest, .bool sh] 170 (0, 0))) :
    Calls Tryz.prog 99 #[.pointer (some ⟨r, 0, none⟩), .int .i64 m] w fun e w' => e = .returned (.string o) ∧ RD r rest' sh' w w' := by
  subst ho; subst hr; subst hs; exact otext_calls rest sh m r w h
theorem onumber_at {rest rest' : ByteArray} {sh sh' : Bool} {n r : Nat} (ho : tNum rest = n) (hr : tRest rest 1 = rest') (hs : tShort rest sh 1 = sh') (w : World) (h : w.heap[r]? = some (.cells #[.string rest, .bool sh] 170 (0, 0))) :
    Calls Tryz.prog 100 #[.pointer (some ⟨r, 0, none⟩)] w fun e w' => e = .returned (.int .i64 (n : Nat)) ∧ RD r rest' sh' w w' := by
  subst ho; subst hr; subst hs; exact onumber_calls rest sh r w h

def ParsePost (s : ByteArray) (te : TypeId) (pe : Value) (w : World) (e : Ending) (w' : World) : Prop := Below w.heap.size w w' ∧ ((Ov.isImage s ∧ ∃ g, e = .returned (.tuple #[.agg #[.string (Ov.backing s), .slice (some ⟨g, 0, none⟩) (Ov.many s) (Ov.many s), .int .i64 (Ov.lost s)], .nilIface]) ∧ w.heap.size ≤ g ∧ w'.heap[g]? = some (.cells (rowTo s (Ov.many s)).toArray 160 (0, 0))) ∨ (¬ Ov.isImage s ∧ e = .returned (.tuple #[.agg #[.string ⟨#[]⟩, .slice none 0 0, .int .i64 0], .iface te pe])))
theorem RD.below {X B : Nat} {r : ByteArray} {sh : Bool} {w0 w w' : World} (h : RD X r sh w w') (hb : Below B w0 w) (hX : B ≤ X) (hB : B ≤ w.heap.size) : Below B w0 w' := hb.grown h.grown hB (fun k hk => by simp at hk; omega)
theorem RD.c0 {X : Nat} {r : ByteArray} {sh : Bool} {w w' : World} (h : RD X r sh w w') : w'.cell? ⟨X, 0, none⟩ = some (.string r) := blk_cell h.blk rfl
theorem RD.c1 {X : Nat} {r : ByteArray} {sh : Bool} {w w' : World} (h : RD X r sh w w') : w'.cell? ⟨X, 1, none⟩ = some (.bool sh) := blk_cell h.blk rfl
theorem parse_below {w w1 w2 w3 w4 w5 w6 w7 : World} {o1 o2 : Obj} {r1 r2 r3 r4 r5 r6 r7 : ByteArray} {s1 s2 s3 s4 s5 s6 s7 : Bool} (h1 : RD (w.heap.size + 1) r1 s1 ((w.alloc o1).alloc o2) w1) (h2 : RD (w.heap.size + 1) r2 s2 w1 w2) (h3 : RD (w.heap.size + 1) r3 s3 w2 w3) (h4 : RD (w.heap.size + 1) r4 s4 w3 w4)
    (h5 : RD (w.heap.size + 1) r5 s5 w4 w5) (h6 : RD (w.heap.size + 1) r6 s6 w5 w6) (h7 : RD (w.heap.size + 1) r7 s7 w6 w7) : Below w.heap.size w w7 := by
  have b0 := below_alloc2 w o1 o2
  have b1 := h1.below b0 (by omega) b0.size
  have b2 := h2.below b1 (by omega) b1.size
  have b3 := h3.below b2 (by omega) b2.size
  have b4 := h4.below b3 (by omega) b3.size
  have b5 := h5.below b4 (by omega) b4.size
  have b6 := h6.below b5 (by omega) b5.size
  exact h7.below b6 (by omega) b6.size
theorem parse_blk {w w1 w2 w3 w4 w5 w6 w7 : World} {o1 o2 : Array Value} {t1 t2 : TypeId} {r1 r2 r3 r4 r5 r6 r7 : ByteArray} {s1 s2 s3 s4 s5 s6 s7 : Bool} (h1 : RD (w.heap.size + 1) r1 s1 ((w.alloc (.cells o1 t1)).alloc (.cells o2 t2)) w1) (h2 : RD (w.heap.size + 1) r2 s2 w1 w2) (h3 : RD (w.heap.size + 1) r3 s3 w2 w3) (h4 : RD (w.heap.size + 1) r4 s4 w3 w4)
    (h5 : RD (w.heap.size + 1) r5 s5 w4 w5) (h6 : RD (w.heap.size + 1) r6 s6 w5 w6) (h7 : RD (w.heap.size + 1) r7 s7 w6 w7) : w7.heap[w.heap.size]? = some (.cells o1 t1 (0, 0)) := by
  have hne : some w.heap.size ≠ some (w.heap.size + 1) := by simp
  have b0 : ((w.alloc (.cells o1 t1)).alloc (.cells o2 t2)).heap[w.heap.size]? = some (.cells o1 t1 (0, 0)) := by
    rw [Below.heap_alloc _ _ _ (by simp)]
    show (w.heap.push _)[w.heap.size]? = _
    simp
  exact blk_grown (blk_grown (blk_grown (blk_grown (blk_grown (blk_grown (blk_grown b0 h1.grown hne) h2.grown hne) h3.grown hne) h4.grown hne) h5.grown hne) h6.grown hne) h7.grown hne
theorem im_c0 {w : World} {b : Nat} {x y z : Value} {t : TypeId} (h : w.heap[b]? = some (.cells #[x, y, z] t (0, 0))) : w.cell? ⟨b, 0, none⟩ = some x := blk_cell h rfl
theorem im_c1 {w : World} {b : Nat} {x y z : Value} {t : TypeId} (h : w.heap[b]? = some (.cells #[x, y, z] t (0, 0))) : w.cell? ⟨b, 1, none⟩ = some y := blk_cell h rfl
theorem im_c2 {w : World} {b : Nat} {x y z : Value} {t : TypeId} (h : w.heap[b]? = some (.cells #[x, y, z] t (0, 0))) : w.cell? ⟨b, 2, none⟩ = some z := blk_cell h rfl

theorem im_s0 {w : World} {b : Nat} {x y z : Value} {t : TypeId} (h : w.heap[b]? = some (.cells #[x, y, z] t (0, 0))) (v : Value) : (w.setCell ⟨b, 0, none⟩ v).cell? ⟨b, 0, none⟩ = some v := blk_cell (blk_set_same (i := 0) h v) rfl
theorem im_s1 {w : World} {b : Nat} {x y z : Value} {t : TypeId} (h : w.heap[b]? = some (.cells #[x, y, z] t (0, 0))) (v u : Value) : ((w.setCell ⟨b, 0, none⟩ v).setCell ⟨b, 1, none⟩ u).cell? ⟨b, 1, none⟩ = some u := blk_cell (blk_set_same (i := 1) (blk_set_same (i := 0) h v) u) rfl
theorem im_s2 {w : World} {b : Nat} {x y z : Value} {t : TypeId} (h : w.heap[b]? = some (.cells #[x, y, z] t (0, 0))) (v u q : Value) : (((w.setCell ⟨b, 0, none⟩ v).setCell ⟨b, 1, none⟩ u).setCell ⟨b, 2, none⟩ q).cell? ⟨b, 2, none⟩ = some q := blk_cell (blk_set_same (i := 2) (blk_set_same (i := 1) (blk_set_same (i := 0) h v) u) q) rfl
theorem im_below' {w w7 : World} (h : Below w.heap.size w w7) (v u q : Value) : Below w.heap.size w (((w7.setCell ⟨w.heap.size, 0, none⟩ v).setCell ⟨w.heap.size, 1, none⟩ u).setCell ⟨w.heap.size, 2, none⟩ q) := ((h.setCell (Nat.le_refl _) _).setCell (Nat.le_refl _) _).setCell (Nat.le_refl _) _
theorem im_other {w : World} {b g : Nat} {o : Obj} (hne : b < g) (h : w.heap[g]? = some o) (v u q : Value) : (((w.setCell ⟨b, 0, none⟩ v).setCell ⟨b, 1, none⟩ u).setCell ⟨b, 2, none⟩ q).heap[g]? = some o := by
  have : g ≠ b := by omega
  exact blk_set_other (blk_set_other (blk_set_other h this _) this _) this _
theorem im_below {w w7 : World} (h : Below w.heap.size w w7) (v u q : Value) : Below w.heap.size w (((w7.setCell ⟨w.heap.size, 0, none⟩ v).setCell ⟨w.heap.size, 1, none⟩ u).setCell ⟨w.heap.size, 2, none⟩ q).drew := (((h.setCell (Nat.le_refl _) _).setCell (Nat.le_refl _) _).setCell (Nat.le_refl _) _).trans (below_draws _ _ _)

set_option maxRecDepth 100000 in
set_option maxHeartbeats 8000000 in
theorem oparseImage_calls (s : ByteArray) (te : TypeId) (pe : Value) (w : World) (hv : w.cell? ⟨3, 0, none⟩ = some (.iface te pe)) (hg3 : 3 < w.heap.size) :
    Calls Tryz.prog 57 #[.string s] w (ParsePost s te pe w) := by
  obtain ⟨mk, hmk⟩ : ∃ x, tOut s 3 = x := ⟨_, rfl⟩
  obtain ⟨r1, hr1⟩ : ∃ x, tRest s 3 = x := ⟨_, rfl⟩
  obtain ⟨s1, hs1⟩ : ∃ x, tShort s false 3 = x := ⟨_, rfl⟩
  obtain ⟨m, hm⟩ : ∃ x, tNum r1 = x := ⟨_, rfl⟩
  obtain ⟨r2, hr2⟩ : ∃ x, tRest r1 1 = x := ⟨_, rfl⟩
  obtain ⟨s2, hs2⟩ : ∃ x, tShort r1 s1 1 = x := ⟨_, rfl⟩
  obtain ⟨bl, hbl⟩ : ∃ x, tNum r2 = x := ⟨_, rfl⟩
  obtain ⟨r3, hr3⟩ : ∃ x, tRest r2 1 = x := ⟨_, rfl⟩
  obtain ⟨s3, hs3⟩ : ∃ x, tShort r2 s2 1 = x := ⟨_, rfl⟩
  obtain ⟨bk, hbk⟩ : ∃ x, tOut r3 bl = x := ⟨_, rfl⟩
  obtain ⟨r4, hr4⟩ : ∃ x, tRest r3 bl = x := ⟨_, rfl⟩
  obtain ⟨s4, hs4⟩ : ∃ x, tShort r3 s3 bl = x := ⟨_, rfl⟩
  obtain ⟨en, hen⟩ : ∃ x, tOut r4 m = x := ⟨_, rfl⟩
  obtain ⟨r5, hr5⟩ : ∃ x, tRest r4 m = x := ⟨_, rfl⟩
  obtain ⟨s5, hs5⟩ : ∃ x, tShort r4 s4 m = x := ⟨_, rfl⟩
  obtain ⟨n, hn⟩ : ∃ x, tNum r5 = x := ⟨_, rfl⟩
  obtain ⟨r6, hr6⟩ : ∃ x, tRest r5 1 = x := ⟨_, rfl⟩
  obtain ⟨s6, hs6⟩ : ∃ x, tShort r5 s5 1 = x := ⟨_, rfl⟩
  obtain ⟨dt, hdt⟩ : ∃ x, tOut r6 (n * 8) = x := ⟨_, rfl⟩
  obtain ⟨r7, hr7⟩ : ∃ x, tRest r6 (n * 8) = x := ⟨_, rfl⟩
  obtain ⟨s7, hs7⟩ : ∃ x, tShort r6 s6 (n * 8) = x := ⟨_, rfl⟩
  have HP : Hid (parts s = ⟨mk, m, bk, en, n, dt, r7, s7⟩) := by
    unfold parts; simp only [hmk, hr1, hs1, hm, hr2, hs2, hbl, hr3, hs3, hbk, hr4, hs4, hen, hr5, hs5, hn, hr6, hs6, hdt, hr7, hs7]; exact trivial
  have hm256 : m < 256 := by rw [← hm]; exact tNum_lt _
  have hn256 : n < 256 := by rw [← hn]; exact tNum_lt _
  have C1 := hide (fun X => otext_at (r := X) hmk hr1 hs1)
  have C2 := hide (fun X => onumber_at (r := X) hm hr2 hs2)
  have C3 := hide (fun X => onumber_at (r := X) hbl hr3 hs3)
  have C4 := hide (fun X => otext_at (r := X) hbk hr4 hs4)
  have C5 := hide (fun X => otext_at (r := X) hen hr5 hs5)
  have C6 := hide (fun X => onumber_at (r := X) hn hr6 hs6)
  have C7 := hide (fun X => otext_at (r := X) hdt hr7 hs7)
  clear hmk hr1 hs1 hm hr2 hs2 hbl hr3 hs3 hbk hr4 hs4 hen hr5 hs5 hn hr6 hs6 hdt hr7 hs7
  have HNo : Hid (¬ headB s → ¬ Ov.isImage s) := fun h1 h2 => h1 ((head_iff s).2 h2.1)
  by_cases hgood : headB s
  · have hh : Ov.headOk s := (head_iff s).1 hgood
    have hf : fits s := ⟨hh.2.2.2.2.2.2.2.1, by have := hh.2.2.2.2.2.2.2.2.2.2; omega⟩
    have hpf := parts_fit hf
    have hpe := unhide HP
    rw [hpf] at hpe
    unfold headB at hgood
    rw [unhide HP] at hgood
    simp only at hgood
    obtain ⟨g1, g2, g3, g4, g5, g6, g7⟩ := hgood
    injection hpe with e1 e2 e3 e4 e5 e6 e7 e8
    subst g1
    have k1 : r7.toList.isEmpty = true := by rw [ByteArray.toList_eq, List.isEmpty_iff_length_eq_zero]; simpa using g2
    have k2 : (mk.toList == [79, 86, 1]) = true := beq_iff_eq.2 g3
    have hfb := hf.1
    unfold Ov.base at hfb
    have hE : en.size = m := by rw [← e4, ← e2, ByteArray.size_extract]; omega
    have hEb : ∀ i, i < m → Ov.byteAt en i = Ov.ent s i := fun i hi => by rw [← e4, byteAt_extract _ _ _ _ (by omega)]; rfl
    have hD : dt.size = n * 8 := by rw [← e6, ← e5, ByteArray.size_extract]; have := hf.2; omega
    have HL : Hid (Ov.goodTo s m → Ov.lost s = (n : Int) - (namedTo s m : Nat)) := fun hg => by have := lost_eq hh.2.2.2.2.2.2.2.2.2.1 (by rw [e2]; exact hg); rw [e2, e5] at this; exact this
    have hnd := namedTo_le s m
    have C8 := hide (fun w' hv hg => oparseClusters_calls s en dt te pe m n w' hh e5 hE hEb hD (fun e x1 x2 x3 => block_bytes hh x1 (by omega) x3 e6.symm) hv hg g5 g7)
    have E2 := hide e2
    have E3 := hide e3
    have HH := hide hh
    have hx : (bk.toList.isEmpty = true) ∨ (bk.toList.isEmpty = false ∧ Ov.nameB bk = true) := by
      cases hb : bk.toList.isEmpty with
      | true => exact Or.inl rfl
      | false =>
        refine Or.inr ⟨rfl, g6.resolve_left fun h0 => ?_⟩
        have : bk.toList.isEmpty = true := by rw [ByteArray.toList_eq, List.isEmpty_iff_length_eq_zero]; simpa using h0
        rw [this] at hb; cases hb
    clear hf hpf e1 e2 e3 e4 e5 e6 e7 e8 g2 g3 g6 hfb hE hEb hD hh
    by_cases hgt : Ov.goodTo s m
    · have Him : Hid (Ov.isImage s) := ⟨unhide HH, by rw [unhide E2]; exact hgt⟩
      have HLe := hide (unhide HL hgt)
      have HC : Hid (∀ w' : World, w'.cell? ⟨3, 0, none⟩ = some (.iface te pe) → 3 < w'.heap.size → Calls Tryz.prog 101 #[.string en, .string dt] w' fun e w2 => Below w'.heap.size w' w2 ∧ ∃ g, e = .returned (.tuple #[.slice (some ⟨g, 0, none⟩) m m, .int .i64 (namedTo s m : Nat), .nilIface]) ∧ w'.heap.size ≤ g ∧ w2.heap[g]? = some (.cells (rowTo s m).toArray 160 (0, 0))) := fun w' a1 a2 => (unhide C8 w' a1 a2).mono (fun e w2 ⟨b1, b2⟩ => ⟨b1, by rcases b2 with ⟨_, b2⟩ | ⟨b2, _⟩; exact b2; exact absurd hgt b2⟩)
      clear hgt
      rcases hx with k5 | ⟨k5, k6⟩
      all_goals (go_enter Tryz.func57, Tryz.ntmps57)
      all_goals (go_wp2_with (first | (go_at_call 64; refine (oisName_calls bk _).mono ?_; rintro e w' ⟨rfl, rfl⟩) | (go_at_call 101; refine (unhide HC _ hv7 (Nat.lt_of_lt_of_le hg3 (unhide HB).size)).mono ?_; first | (rintro e w8 ⟨hb8, rfl⟩; have H8 := hide ((hb8.block _ (blk_lt (unhide H0))).trans (unhide H0)); have HB8 := hide ((unhide HB).trans (hb8.mono (unhide HB).size)); clear hb8; have d0 := im_c0 (unhide H8); have d1 := im_c1 (unhide H8); have d2 := im_c2 (unhide H8); have df := blk_frozen (unhide H8)) | (rintro e w8 ⟨hb8, g, rfl, hg8, hr8⟩; have H8 := hide ((hb8.block _ (blk_lt (unhide H0))).trans (unhide H0)); have HB8 := hide ((unhide HB).trans (hb8.mono (unhide HB).size)); have HG := hide hg8; have HR := hide hr8; clear hb8 hg8 hr8; have d0 := im_c0 (unhide H8); have d1 := im_c1 (unhide H8); have d2 := im_c2 (unhide H8); have df := blk_frozen (unhide H8))) | (go_at_call 99; refine (unhide C7 (w.heap.size + 1) _ (unhide H6).blk).mono ?_; rintro e w7 ⟨rfl, h7⟩; have H7 := hide h7; clear h7; have c0 := (unhide H7).c0; have c1 := (unhide H7).c1; have H0 := hide (parse_blk (unhide H1) (unhide H2) (unhide H3) (unhide H4) (unhide H5) (unhide H6) (unhide H7)); have d0 := im_c0 (unhide H0); have d1 := im_c1 (unhide H0); have d2 := im_c2 (unhide H0); have df := blk_frozen (unhide H0); have HB := hide (parse_below (unhide H1) (unhide H2) (unhide H3) (unhide H4) (unhide H5) (unhide H6) (unhide H7)); have hv7 : w7.cell? ⟨3, 0, none⟩ = some (.iface te pe) := ((unhide HB).cell (p := ⟨3, 0, none⟩) hg3).trans hv) | (go_at_call 100; refine (unhide C6 (w.heap.size + 1) _ (unhide H5).blk).mono ?_; rintro e w6 ⟨rfl, h6⟩; have H6 := hide h6; clear h6) | (go_at_call 99; refine (unhide C5 (w.heap.size + 1) _ (unhide H4).blk).mono ?_; rintro e w5 ⟨rfl, h5⟩; have H5 := hide h5; clear h5) | (go_at_call 99; refine (unhide C4 (w.heap.size + 1) _ (unhide H3).blk).mono ?_; rintro e w4 ⟨rfl, h4⟩; have H4 := hide h4; clear h4) | (go_at_call 100; refine (unhide C3 (w.heap.size + 1) _ (unhide H2).blk).mono ?_; rintro e w3 ⟨rfl, h3⟩; have H3 := hide h3; clear h3) | (go_at_call 100; refine (unhide C2 (w.heap.size + 1) _ (unhide H1).blk).mono ?_; rintro e w2 ⟨rfl, h2⟩; have H2 := hide h2; clear h2) | (go_at_call 99; refine (unhide C1 (w.heap.size + 1) _ RD.start).mono ?_; rintro e w1 ⟨rfl, h1⟩; have H1 := hide h1; clear h1)))
      all_goals (have q0 := im_s0 (unhide H8); have q1 := im_s1 (unhide H8); have q2 := im_s2 (unhide H8))
      all_goals exact bodyPost_ret (v := .tuple #[.agg #[.string bk, .slice (some ⟨g, 0, none⟩) m m, .int .i64 ((n : Int) - (namedTo s m : Nat))], .nilIface]) (by simp [results, Tryz.results57, go_sem, q0, q1, q2]) rfl ⟨im_below' (unhide HB8) _ _ _, Or.inl ⟨unhide Him, g, by rw [unhide E2, unhide E3, unhide HLe], Nat.le_trans (unhide HB).size (unhide HG), by rw [unhide E2]; exact im_other (Nat.lt_of_lt_of_le (blk_lt (unhide H0)) (unhide HG)) (unhide HR) _ _ _⟩⟩
    · have Hno : Hid (¬ Ov.isImage s) := fun h => hgt (by rw [← unhide E2]; exact h.2)
      have HC : Hid (∀ w' : World, w'.cell? ⟨3, 0, none⟩ = some (.iface te pe) → 3 < w'.heap.size → Calls Tryz.prog 101 #[.string en, .string dt] w' fun e w2 => Below w'.heap.size w' w2 ∧ e = .returned (.tuple #[.slice none 0 0, .int .i64 0, .iface te pe])) := fun w' a1 a2 => (unhide C8 w' a1 a2).mono (fun e w2 ⟨b1, b2⟩ => ⟨b1, by rcases b2 with ⟨b2, _⟩ | ⟨_, b2⟩; exact absurd b2 hgt; exact b2⟩)
      clear hgt
      rcases hx with k5 | ⟨k5, k6⟩
      all_goals (go_enter Tryz.func57, Tryz.ntmps57)
      all_goals (go_wp2_with (first | (go_at_call 64; refine (oisName_calls bk _).mono ?_; rintro e w' ⟨rfl, rfl⟩) | (go_at_call 101; refine (unhide HC _ hv7 (Nat.lt_of_lt_of_le hg3 (unhide HB).size)).mono ?_; first | (rintro e w8 ⟨hb8, rfl⟩; have H8 := hide ((hb8.block _ (blk_lt (unhide H0))).trans (unhide H0)); have HB8 := hide ((unhide HB).trans (hb8.mono (unhide HB).size)); clear hb8; have d0 := im_c0 (unhide H8); have d1 := im_c1 (unhide H8); have d2 := im_c2 (unhide H8); have df := blk_frozen (unhide H8)) | (rintro e w8 ⟨hb8, g, rfl, hg8, hr8⟩; have H8 := hide ((hb8.block _ (blk_lt (unhide H0))).trans (unhide H0)); have HB8 := hide ((unhide HB).trans (hb8.mono (unhide HB).size)); have HG := hide hg8; have HR := hide hr8; clear hb8 hg8 hr8; have d0 := im_c0 (unhide H8); have d1 := im_c1 (unhide H8); have d2 := im_c2 (unhide H8); have df := blk_frozen (unhide H8))) | (go_at_call 99; refine (unhide C7 (w.heap.size + 1) _ (unhide H6).blk).mono ?_; rintro e w7 ⟨rfl, h7⟩; have H7 := hide h7; clear h7; have c0 := (unhide H7).c0; have c1 := (unhide H7).c1; have H0 := hide (parse_blk (unhide H1) (unhide H2) (unhide H3) (unhide H4) (unhide H5) (unhide H6) (unhide H7)); have d0 := im_c0 (unhide H0); have d1 := im_c1 (unhide H0); have d2 := im_c2 (unhide H0); have df := blk_frozen (unhide H0); have HB := hide (parse_below (unhide H1) (unhide H2) (unhide H3) (unhide H4) (unhide H5) (unhide H6) (unhide H7)); have hv7 : w7.cell? ⟨3, 0, none⟩ = some (.iface te pe) := ((unhide HB).cell (p := ⟨3, 0, none⟩) hg3).trans hv) | (go_at_call 100; refine (unhide C6 (w.heap.size + 1) _ (unhide H5).blk).mono ?_; rintro e w6 ⟨rfl, h6⟩; have H6 := hide h6; clear h6) | (go_at_call 99; refine (unhide C5 (w.heap.size + 1) _ (unhide H4).blk).mono ?_; rintro e w5 ⟨rfl, h5⟩; have H5 := hide h5; clear h5) | (go_at_call 99; refine (unhide C4 (w.heap.size + 1) _ (unhide H3).blk).mono ?_; rintro e w4 ⟨rfl, h4⟩; have H4 := hide h4; clear h4) | (go_at_call 100; refine (unhide C3 (w.heap.size + 1) _ (unhide H2).blk).mono ?_; rintro e w3 ⟨rfl, h3⟩; have H3 := hide h3; clear h3) | (go_at_call 100; refine (unhide C2 (w.heap.size + 1) _ (unhide H1).blk).mono ?_; rintro e w2 ⟨rfl, h2⟩; have H2 := hide h2; clear h2) | (go_at_call 99; refine (unhide C1 (w.heap.size + 1) _ RD.start).mono ?_; rintro e w1 ⟨rfl, h1⟩; have H1 := hide h1; clear h1)))
      all_goals (have q0 := im_s0 (unhide H8); have q1 := im_s1 (unhide H8); have q2 := im_s2 (unhide H8))
      all_goals exact bodyPost_ret (v := .tuple #[.agg #[.string ⟨#[]⟩, .slice none 0 0, .int .i64 0], .iface te pe]) (by simp [results, Tryz.results57, go_sem, q0, q1, q2]) rfl ⟨im_below' (unhide HB8) _ _ _, Or.inr ⟨unhide Hno, rfl⟩⟩
  · have Hno := hide (unhide HNo hgood)
    have hx : s7 = true ∨ (s7 = false ∧ r7.toList.isEmpty = false) ∨ (s7 = false ∧ r7.toList.isEmpty = true ∧ (mk.toList == [79, 86, 1]) = false) ∨ (s7 = false ∧ r7.toList.isEmpty = true ∧ (mk.toList == [79, 86, 1]) = true ∧ m < 1) ∨ (s7 = false ∧ r7.toList.isEmpty = true ∧ (mk.toList == [79, 86, 1]) = true ∧ 30 < m)
      ∨ (s7 = false ∧ r7.toList.isEmpty = true ∧ (mk.toList == [79, 86, 1]) = true ∧ 1 ≤ m ∧ m ≤ 30 ∧ bk.toList.isEmpty = false ∧ Ov.nameB bk = false) ∨ (s7 = false ∧ r7.toList.isEmpty = true ∧ (mk.toList == [79, 86, 1]) = true ∧ 1 ≤ m ∧ m ≤ 30 ∧ bk.toList.isEmpty = true ∧ 60 < n)
      ∨ (s7 = false ∧ r7.toList.isEmpty = true ∧ (mk.toList == [79, 86, 1]) = true ∧ 1 ≤ m ∧ m ≤ 30 ∧ bk.toList.isEmpty = false ∧ Ov.nameB bk = true ∧ 60 < n) := by
      unfold headB at hgood
      rw [unhide HP] at hgood
      simp only at hgood
      have e7 : r7.toList.isEmpty = true ↔ r7.size = 0 := by rw [ByteArray.toList_eq, List.isEmpty_iff_length_eq_zero]; simp
      have eb : bk.toList.isEmpty = true ↔ bk.size = 0 := by rw [ByteArray.toList_eq, List.isEmpty_iff_length_eq_zero]; simp
      have em : (mk.toList == [79, 86, 1]) = true ↔ mk.toList = [79, 86, 1] := beq_iff_eq
      rw [← e7, ← eb, ← em] at hgood
      generalize r7.toList.isEmpty = x7 at *
      generalize bk.toList.isEmpty = xb at *
      generalize (mk.toList == [79, 86, 1]) = xm at *
      generalize Ov.nameB bk = xn at *
      clear HP C1 C2 C3 C4 C5 C6 C7 e7 eb em
      cases s7 <;> cases x7 <;> cases xm <;> cases xb <;> cases xn <;> simp at hgood ⊢ <;> omega
    clear hgood
    rcases hx with rfl | ⟨rfl, k1⟩ | ⟨rfl, k1, k2⟩ | ⟨rfl, k1, k2, k3⟩ | ⟨rfl, k1, k2, k3⟩ | ⟨rfl, k1, k2, k3, k4, k5, k6⟩ | ⟨rfl, k1, k2, k3, k4, k5, k6⟩ | ⟨rfl, k1, k2, k3, k4, k5, k6, k7⟩
    all_goals (go_enter Tryz.func57, Tryz.ntmps57)
    all_goals (go_wp2_with (first | (go_at_call 64; refine (oisName_calls bk _).mono ?_; rintro e w' ⟨rfl, rfl⟩) | (go_at_call 99; refine (unhide C7 (w.heap.size + 1) _ (unhide H6).blk).mono ?_; rintro e w7 ⟨rfl, h7⟩; have H7 := hide h7; clear h7; have c0 := (unhide H7).c0; have c1 := (unhide H7).c1; have H0 := hide (parse_blk (unhide H1) (unhide H2) (unhide H3) (unhide H4) (unhide H5) (unhide H6) (unhide H7)); have d0 := im_c0 (unhide H0); have d1 := im_c1 (unhide H0); have d2 := im_c2 (unhide H0); have df := blk_frozen (unhide H0); have HB := hide (parse_below (unhide H1) (unhide H2) (unhide H3) (unhide H4) (unhide H5) (unhide H6) (unhide H7)); have hv7 : w7.cell? ⟨3, 0, none⟩ = some (.iface te pe) := ((unhide HB).cell (p := ⟨3, 0, none⟩) hg3).trans hv) | (go_at_call 100; refine (unhide C6 (w.heap.size + 1) _ (unhide H5).blk).mono ?_; rintro e w6 ⟨rfl, h6⟩; have H6 := hide h6; clear h6) | (go_at_call 99; refine (unhide C5 (w.heap.size + 1) _ (unhide H4).blk).mono ?_; rintro e w5 ⟨rfl, h5⟩; have H5 := hide h5; clear h5) | (go_at_call 99; refine (unhide C4 (w.heap.size + 1) _ (unhide H3).blk).mono ?_; rintro e w4 ⟨rfl, h4⟩; have H4 := hide h4; clear h4) | (go_at_call 100; refine (unhide C3 (w.heap.size + 1) _ (unhide H2).blk).mono ?_; rintro e w3 ⟨rfl, h3⟩; have H3 := hide h3; clear h3) | (go_at_call 100; refine (unhide C2 (w.heap.size + 1) _ (unhide H1).blk).mono ?_; rintro e w2 ⟨rfl, h2⟩; have H2 := hide h2; clear h2) | (go_at_call 99; refine (unhide C1 (w.heap.size + 1) _ RD.start).mono ?_; rintro e w1 ⟨rfl, h1⟩; have H1 := hide h1; clear h1)))
    all_goals (go_region)
    all_goals (go_wp2_with fail)
    all_goals (have q0 := im_s0 (unhide H0); have q1 := im_s1 (unhide H0); have q2 := im_s2 (unhide H0))
    all_goals exact bodyPost_ret (v := .tuple #[.agg #[.string ⟨#[]⟩, .slice none 0 0, .int .i64 0], .iface te pe]) (by simp [results, Tryz.results57, go_sem, q0, q1, q2]) rfl ⟨im_below (unhide HB) _ _ _, Or.inr ⟨unhide Hno, rfl⟩⟩

end Go.Proofs.YtomiepknmmpflaaGreatDoor

