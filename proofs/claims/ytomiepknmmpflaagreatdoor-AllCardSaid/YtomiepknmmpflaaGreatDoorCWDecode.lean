/- The walk of the reference's Decode. -/
import Derived.Test.YtomiepknmmpflaaGreatDoorCPDecode
namespace Go.Proofs.YtomiepknmmpflaaGreatDoor
open Go.RowKit Go.Joins

theorem made_used {s : ByteArray} {w : World} {X n : Nat} (Hd : Ov.datas s = n) (h : w.ownsRow X 3 1 (.slice (some ⟨X, 0, none⟩) n n) n (madeCells (Value.int .i64 0).cells (n * 1)).toList) :
    w.ownsRow X 3 1 (.slice (some ⟨X, 0, none⟩) (Ov.datas s) (Ov.datas s)) (Ov.datas s) ((Ov.usedTo s 0).map (Value.int .i64)) := by
  subst Hd
  have e : (madeCells (Value.int .i64 0).cells (Ov.datas s * 1)).toList = (Ov.usedTo s 0).map (Value.int .i64) := by
    have := toList_madeCells_one (.int .i64 0) (Ov.datas s)
    rw [Nat.mul_one]
    refine this.trans ?_
    refine List.ext_getElem (by simp [Ov.usedTo]) fun j h1 h2 => ?_
    simp [Ov.usedTo, Ov.usedAt]
  rw [e] at h; exact h

theorem dec_start {s : ByteArray} {w wm : World} {l n : Nat} (Hd : Ov.datas s = n) (Hb : Ov.backing s = s.extract 5 (5 + l))
    (hown : wm.ownsRow (w.heap.size + 1 + 1) 3 1 (.slice (some ⟨w.heap.size + 1 + 1, 0, none⟩) n n) n (madeCells (Value.int .i64 0).cells (n * 1)).toList)
    (hgrow : ((w.alloc (.cells #[.string ⟨#[]⟩, .slice none 0 0, .slice none 0 0, .int .i64 0] 240)).alloc (.cells #[.string (s.extract 5 (5 + l)), .slice none 0 0, .slice none 0 0, .int .i64 0] 240)).grownBy wm none) :
    DI s w w.heap.size 0 0 (.slice none 0 0) (.slice none 0 0) wm := by
  have sz := hgrow.size
  simp only [World.size_alloc] at sz
  have hlt := (hown.lt (w.heap.size + 1 + 1) rfl).2
  refine ⟨fun i hi => by omega, ?_, ?_, made_used Hd hown, World.ownsRow_nil _ _ _ _, World.ownsRow_nil _ _ _ _, by omega, ?_⟩
  · rw [hgrow.block _ (by simp; omega) (by simp), Below.heap_alloc _ _ _ (by simp)]
    show (w.heap.push _)[w.heap.size]? = _
    simp
  · rw [hgrow.block _ (by simp) (by simp), Hb]
    show ((w.alloc _).heap.push _)[w.heap.size + 1]? = _
    rw [Array.getElem?_push, if_pos (by simp)]
  · exact (below_alloc2 w _ _).grown hgrow (by simp; omega) (fun k hk => by cases hk)
theorem below_fail {X : Nat} {w wr : World} (h : Below X w wr) (a b c d : Value) : Below X w ((((wr.setCell ⟨X, 0, none⟩ a).setCell ⟨X, 1, none⟩ b).setCell ⟨X, 2, none⟩ c).setCell ⟨X, 3, none⟩ d) :=
  (((h.setCell (Nat.le_refl _) a).setCell (Nat.le_refl _) b).setCell (Nat.le_refl _) c).setCell (Nat.le_refl _) d

theorem owns_fail {X e n : Nat} {wr : World} {v : Value} {xs : List Value} (h : wr.ownsRow (X + 1 + 1 + 1) e 1 v n xs) (a b c d : Value) : ((((wr.setCell ⟨X, 0, none⟩ a).setCell ⟨X, 1, none⟩ b).setCell ⟨X, 2, none⟩ c).setCell ⟨X, 3, none⟩ d).ownsRow X e 1 v n xs := by
  have ne : some X ≠ v.ownBlock := owns_ne h (by omega)
  exact ownsRow_le (owns_set (owns_set (owns_set (owns_set h (a := ⟨X, 0, none⟩) ne a) (a := ⟨X, 1, none⟩) ne b) (a := ⟨X, 2, none⟩) ne c) (a := ⟨X, 3, none⟩) ne d) (by omega)

set_option maxRecDepth 100000 in
set_option maxHeartbeats 2000000 in
theorem rDecode_head (s : ByteArray) (w : World) (hs : s.size ≤ 1000) (hhead : Ov.headOk s) (h5 : 5 ≤ s.size) (hov : (s.extract 0 2).toList = [79, 86]) (h2 : Ov.byteAt s 2 = 1) (m l n : Nat) (hm : Ov.byteAt s 3 = m) (hl : Ov.byteAt s 4 = l) (hn : Ov.byteAt s (5 + l + m) = n)
   (hm1 : 1 ≤ m) (hm30 : m ≤ 30) (hl8 : l ≤ 8) (hb : 5 + l + m + 1 ≤ s.size) (hl0 : decide (0 < l) = false ∨ (0 < l ∧ Ov.nameB (s.extract 5 (5 + l)) = true)) (hn60 : n ≤ 60) (hse : 5 + l + m + 1 + 8 * n = s.size) (hsz : ((s.size : Int) != 5 + (l : Int) + (m : Int) + 1 + 8 * (n : Int)) = false)  :
    Calls Tryz.prog 169 #[.string s] w (DecodePost s w) := by
  have hby := Ov.byteAt_eq s
  have Hd : Hid (Ov.datas s = n) := by unfold Ov.datas Ov.long Ov.many; rw [hm, hl, hn]; exact rfl
  have Hmany : Hid (Ov.many s = m) := by unfold Ov.many; rw [hm]; exact rfl
  have Hb : Hid (Ov.backing s = s.extract 5 (5 + l)) := by unfold Ov.backing Ov.long; rw [hl]; exact rfl
  have Hbase : Hid (Ov.base s = 5 + l + m + 1) := by unfold Ov.base Ov.long Ov.many; rw [hl, hm]; exact rfl
  have Hent : Hid (∀ k, Ov.byteAt s (5 + l + k) = Ov.ent s k) := fun k => by unfold Ov.ent Ov.long; rw [hl]
  have Hhead := hide hhead
  have hle : 5 + l + m + 1 + 8 * n ≤ s.size := by omega
  clear hhead hse
  obtain ⟨i0, hi, hz0, hz1, hz2⟩ := info_parts Tryz.infoInt
  obtain ⟨i9, gi, gz0, gz1, gz2⟩ := info_parts Tryz.infoString
  rcases hl0 with hl0 | ⟨hl0, hnm⟩
  all_goals
   go_enter Tryz.func169, Tryz.ntmps169
   go_wp2_with (first | (go_at_call 168; refine (rIsName_calls _ _).mono ?_; rintro e w' ⟨rfl, rfl⟩) | (at_make; refine wpList_make_full _ rfl _ _ 238 rfl (w.heap.size + 1 + 1) 3 i0 (.int .i64 0) 1 Tryz.underlying238 hi hz0 hz1 _ _ _ _ n rfl rfl rfl rfl (by rw [hz2]; omega) (by unfold maxLen; omega) (by simp) ?_; intro wm hown hgrow))
   go_loopw [12, 13, 14] (fun i _ _ wr => ∃ k ev bv, k ≤ m ∧ i = .int .i64 (k : Nat) ∧ DI s w w.heap.size k k ev bv wr) (fun i _ _ _ => m - (intOf i).toNat)
   case atStart =>
    exact ⟨0, _, _, Nat.zero_le _, rfl, dec_start (unhide Hd) (unhide Hb) (by simpa only [World.size_alloc] using hown) hgrow⟩
   case round =>
    obtain ⟨k, ev, bv, hk, rfl, hI⟩ := hrel
    obtain ⟨ea, ec, rfl⟩ := owns_slice hI.evs
    obtain ⟨ba, bc, rfl⟩ := owns_slice hI.bvs
    by_cases hlt : k < m
    · obtain ⟨e, he⟩ : ∃ e, Ov.byteAt s (5 + l + k) = e := ⟨_, rfl⟩
      have he256 : e < 256 := by rw [← he]; exact Ov.byteAt_lt _ _
      by_cases he0 : e = 0
      · subst he0
        have HI := hide (hI.plain (by rw [← unhide Hent k, he]; exact Or.inl rfl) (by rw [unhide Hd]; exact hn60))
        have c1 : wr.cell? ⟨w.heap.size + 1, 1, none⟩ = some (.slice ea k ec) := blk_cell hI.x rfl
        clear hI
        have hsz3 := (unhide HI).size
        go_wp2_with (first | (at_builtin; refine wpList_append_own _ rfl (.tmp 144) (.tmp 146) 238 rfl (w.heap.size + 1 + 1 + 1) 3 i0 (.int .i64 0) 1 8 Tryz.underlying238 hi hz0 hz1 hz2 rfl (by decide) _ k _ rfl ((unhide HI).evs.alloc _) ⟨wr.heap.size, 0, none⟩ 1 1 [.int .i64 0] rfl rfl (one_new (by simp)) (one_int _ _) (by unfold maxLen; omega) (by omega) (by simp; omega) ?_; intro v1 w1 ho1 hg1 _; obtain ⟨g1, p1, rfl⟩ := ownsRow_form ho1 (by omega); have c1 : w1.cell? ⟨w.heap.size + 1, 1, none⟩ = some (.slice ea k ec) := blk_cell ((unhide HI).x1 hg1) rfl; have c2 : w1.cell? ⟨w.heap.size + 1, 2, none⟩ = some (.slice ba k bc) := blk_cell ((unhide HI).x1 hg1) rfl; have f1 := blk_frozen ((unhide HI).x1 hg1); have G1 := hide hg1; have O1 := hide ho1; have S1 := hg1.size; simp only [World.size_alloc] at S1; clear hg1 ho1) | (at_builtin; refine wpList_append_own _ rfl (.tmp 150) (.tmp 152) 30 rfl (w.heap.size + 1 + 1 + 1) 9 i9 (.string ⟨#[]⟩) 1 16 Tryz.underlying30 gi gz0 gz1 gz2 rfl (by decide) _ k _ rfl (((unhide HI).b1 (unhide G1) _).alloc _) ⟨w1.heap.size, 0, none⟩ 1 1 [.string ⟨#[]⟩] rfl rfl (one_new (by simp)) (one_string _) (by unfold maxLen; omega) (by omega) (by simp; omega) ?_; intro v2 w2 ho2 hg2 _; obtain ⟨g2, p2, rfl⟩ := ownsRow_form ho2 (by omega); have c3 : w2.cell? ⟨w.heap.size + 1, 2, none⟩ = some (.slice ba k bc) := blk_cell ((unhide HI).x2 (unhide G1) hg2) rfl; have f2 := blk_frozen ((unhide HI).x2 (unhide G1) hg2); have G2 := hide hg2; have O2 := hide ho2; clear hg2 ho2))
        go_roundw
        case rel => exact ⟨k + 1, _, _, by omega, by go_num, (unhide HI).step (by rw [← unhide Hent k, he]; rfl) (by rw [← unhide Hent k, he]; rfl) (unhide O1) (unhide G1) (unhide O2) (unhide G2)⟩
        case measure => simp [intOf]; omega
      by_cases he255 : e = 255
      · subst he255
        have HI := hide (hI.plain (by rw [← unhide Hent k, he]; exact Or.inr rfl) (by rw [unhide Hd]; exact hn60))
        have c1 : wr.cell? ⟨w.heap.size + 1, 1, none⟩ = some (.slice ea k ec) := blk_cell hI.x rfl
        clear hI
        have hsz3 := (unhide HI).size
        go_wp2_with (first | (at_builtin; refine wpList_append_own _ rfl (.tmp 144) (.tmp 146) 238 rfl (w.heap.size + 1 + 1 + 1) 3 i0 (.int .i64 0) 1 8 Tryz.underlying238 hi hz0 hz1 hz2 rfl (by decide) _ k _ rfl ((unhide HI).evs.alloc _) ⟨wr.heap.size, 0, none⟩ 1 1 [.int .i64 255] rfl rfl (one_new (by simp)) (one_int _ _) (by unfold maxLen; omega) (by omega) (by simp; omega) ?_; intro v1 w1 ho1 hg1 _; obtain ⟨g1, p1, rfl⟩ := ownsRow_form ho1 (by omega); have c1 : w1.cell? ⟨w.heap.size + 1, 1, none⟩ = some (.slice ea k ec) := blk_cell ((unhide HI).x1 hg1) rfl; have c2 : w1.cell? ⟨w.heap.size + 1, 2, none⟩ = some (.slice ba k bc) := blk_cell ((unhide HI).x1 hg1) rfl; have f1 := blk_frozen ((unhide HI).x1 hg1); have G1 := hide hg1; have O1 := hide ho1; have S1 := hg1.size; simp only [World.size_alloc] at S1; clear hg1 ho1) | (at_builtin; refine wpList_append_own _ rfl (.tmp 150) (.tmp 152) 30 rfl (w.heap.size + 1 + 1 + 1) 9 i9 (.string ⟨#[]⟩) 1 16 Tryz.underlying30 gi gz0 gz1 gz2 rfl (by decide) _ k _ rfl (((unhide HI).b1 (unhide G1) _).alloc _) ⟨w1.heap.size, 0, none⟩ 1 1 [.string ⟨#[]⟩] rfl rfl (one_new (by simp)) (one_string _) (by unfold maxLen; omega) (by omega) (by simp; omega) ?_; intro v2 w2 ho2 hg2 _; obtain ⟨g2, p2, rfl⟩ := ownsRow_form ho2 (by omega); have c3 : w2.cell? ⟨w.heap.size + 1, 2, none⟩ = some (.slice ba k bc) := blk_cell ((unhide HI).x2 (unhide G1) hg2) rfl; have f2 := blk_frozen ((unhide HI).x2 (unhide G1) hg2); have G2 := hide hg2; have O2 := hide ho2; clear hg2 ho2))
        go_roundw
        case rel => exact ⟨k + 1, _, _, by omega, by go_num, (unhide HI).step (by rw [← unhide Hent k, he]; rfl) (by rw [← unhide Hent k, he]; rfl) (unhide O1) (unhide G1) (unhide O2) (unhide G2)⟩
        case measure => simp [intOf]; omega
      have he1 : 1 ≤ e := by omega
      have he254 : e ≤ 254 := by omega
      have Hek : Hid (Ov.ent s k = e - 1 + 1) := by rw [← unhide Hent k, he]; show e = _; omega
      have hb0 : ((e : Int) != 0) = true := by rw [bne_iff_ne]; omega
      have hb255 : ((e : Int) != 255) = true := by rw [bne_iff_ne]; omega
      clear he0 he255 he256
      have x0 : wr.cell? ⟨w.heap.size + 1, 0, none⟩ = some (.string (Ov.backing s)) := blk_cell hI.x rfl
      have c1 : wr.cell? ⟨w.heap.size + 1, 1, none⟩ = some (.slice ea k ec) := blk_cell hI.x rfl
      have c2 : wr.cell? ⟨w.heap.size + 1, 2, none⟩ = some (.slice ba k bc) := blk_cell hI.x rfl
      have x3 : wr.cell? ⟨w.heap.size + 1, 3, none⟩ = some (.int .i64 0) := blk_cell hI.x rfl
      have r0 : wr.cell? ⟨w.heap.size, 0, none⟩ = some (.string ⟨#[]⟩) := blk_cell hI.res rfl
      have r1 : wr.cell? ⟨w.heap.size, 1, none⟩ = some (.slice none 0 0) := blk_cell hI.res rfl
      have r2 : wr.cell? ⟨w.heap.size, 2, none⟩ = some (.slice none 0 0) := blk_cell hI.res rfl
      have r3 : wr.cell? ⟨w.heap.size, 3, none⟩ = some (.int .i64 0) := blk_cell hI.res rfl
      have rf := blk_frozen hI.res
      by_cases hgt : n < e
      · have Hno := hide (Ov.not_isImage_of (s := s) (k := k) (by rw [unhide Hmany]; exact hlt) (Ov.not_entOk_high (by rw [unhide Hek]; omega) (by rw [unhide Hek, unhide Hd]; omega)))
        have HI := hide hI
        have hgb : decide ((n : Int) < (e : Int)) = true := decide_eq_true (by omega)
        clear hI
        go_wp2_with fail
        exact bodyPost_ret (v := .tuple #[.agg #[.string (Ov.backing s), .slice ea k ec, .slice ba k bc, .int .i64 0], .bool false]) (by simp [results, Tryz.results169, go_sem, r0, r1, r2, r3]) rfl ⟨below_fail (unhide HI).below _ _ _ _, Or.inl ⟨unhide Hno, _, _, _, _, _, _, _, _, rfl⟩⟩
      have hgb : decide ((n : Int) < (e : Int)) = false := decide_eq_false (by omega)
      have uc := used_cell hI.used (e := e - 1) (by rw [unhide Hd]; omega)
      have u01 := Ov.usedAt_01 s k (e - 1)
      by_cases hus : 0 < Ov.usedAt s k (e - 1)
      · have Hno := hide (Ov.not_isImage_of (s := s) (k := k) (by rw [unhide Hmany]; exact hlt) (Ov.not_entOk_used (unhide Hek) (by omega) hus))
        have HI := hide hI
        have hub : decide (0 < Ov.usedAt s k (e - 1)) = true := decide_eq_true hus
        clear hI u01
        go_wp2_with fail
        exact bodyPost_ret (v := .tuple #[.agg #[.string (Ov.backing s), .slice ea k ec, .slice ba k bc, .int .i64 0], .bool false]) (by simp [results, Tryz.results169, go_sem, r0, r1, r2, r3]) rfl ⟨below_fail (unhide HI).below _ _ _ _, Or.inl ⟨unhide Hno, _, _, _, _, _, _, _, _, rfl⟩⟩
      have hub : decide (0 < Ov.usedAt s k (e - 1)) = false := decide_eq_false hus
      have uf := hI.used.frozenAt (e - 1)
      have Hd2 := hide (hI.mark (unhide Hek) (Ov.entOk_free (unhide Hek) (by rw [unhide Hd]; omega) (by omega)))
      have HI := Hd2
      clear hI Hd2
      have hsz3 := (unhide HI).size
      simp only [World.size_setCell] at hsz3
      go_wp2_with (first | (at_builtin; refine wpList_append_own _ rfl (.tmp 144) (.tmp 146) 238 rfl (w.heap.size + 1 + 1 + 1) 3 i0 (.int .i64 0) 1 8 Tryz.underlying238 hi hz0 hz1 hz2 rfl (by decide) _ k _ rfl ((unhide HI).evs.alloc _) ⟨wr.heap.size, 0, none⟩ 1 1 [.int .i64 1] rfl rfl (one_new (by simp)) (one_int _ _) (by unfold maxLen; omega) (by omega) (by simp; omega) ?_; intro v1 w1 ho1 hg1 _; obtain ⟨g1, p1, rfl⟩ := ownsRow_form ho1 (by omega); have c1 : w1.cell? ⟨w.heap.size + 1, 1, none⟩ = some (.slice ea k ec) := blk_cell ((unhide HI).x1 hg1) rfl; have c2 : w1.cell? ⟨w.heap.size + 1, 2, none⟩ = some (.slice ba k bc) := blk_cell ((unhide HI).x1 hg1) rfl; have f1 := blk_frozen ((unhide HI).x1 hg1); have G1 := hide hg1; have O1 := hide ho1; have S1 := hg1.size; simp only [World.size_alloc, World.size_setCell] at S1; clear hg1 ho1) | (at_builtin; refine wpList_append_own _ rfl (.tmp 150) (.tmp 152) 30 rfl (w.heap.size + 1 + 1 + 1) 9 i9 (.string ⟨#[]⟩) 1 16 Tryz.underlying30 gi gz0 gz1 gz2 rfl (by decide) _ k _ rfl (((unhide HI).b1 (unhide G1) _).alloc _) ⟨w1.heap.size, 0, none⟩ 1 1 [.string (s.extract (5 + l + m + 1 + 8 * (e - 1)) (5 + l + m + 1 + 8 * e))] rfl rfl (one_new (by simp)) (one_string _) (by unfold maxLen; omega) (by omega) (by simp; omega) ?_; intro v2 w2 ho2 hg2 _; obtain ⟨g2, p2, rfl⟩ := ownsRow_form ho2 (by omega); have c3 : w2.cell? ⟨w.heap.size + 1, 2, none⟩ = some (.slice ba k bc) := blk_cell ((unhide HI).x2 (unhide G1) hg2) rfl; have f2 := blk_frozen ((unhide HI).x2 (unhide G1) hg2); have G2 := hide hg2; have O2 := hide ho2; clear hg2 ho2))
      go_roundw
      case rel => exact ⟨k + 1, _, _, by omega, by go_num, (unhide HI).step (by rw [unhide Hek, Ov.kindOf_data (by omega) (by omega)]) (by rw [unhide Hek, Ov.blockOf_data (by omega) (by omega), unhide Hbase, show e - 1 + 1 = e from by omega]) (unhide O1) (unhide G1) (unhide O2) (unhide G2)⟩
      case measure => simp [intOf]; omega
    · obtain rfl : k = m := by omega
      have HL := hide (DI.count (by rw [unhide Hmany]; exact hI))
      have Himg : Hid (Ov.isImage s) := ⟨unhide Hhead, by rw [unhide Hmany]; exact hI.good⟩
      clear hI
      go_wp2_with fail
      go_loopw [15] (fun i wr2 => ∃ j, j ≤ n ∧ i = .int .i64 (j : Nat) ∧ DL s w w.heap.size j (.slice ea k ec) (.slice ba k bc) wr2) (fun i _ => n - (intOf i).toNat)
      case atStart => exact ⟨0, Nat.zero_le _, rfl, unhide HL⟩
      case round =>
        obtain ⟨j, hj, rfl, hJ⟩ := hrel
        clear HL
        by_cases hjn : j < n
        · have uc := used_cell hJ.used (e := j) (by rw [unhide Hd]; exact hjn)
          have x3 : wr.cell? ⟨w.heap.size + 1, 3, none⟩ = some (.int .i64 (Ov.lostTo s j)) := blk_cell hJ.x rfl
          have xf := blk_frozen hJ.x
          have u01 : 0 ≤ Ov.usedAt s (Ov.many s) j ∧ Ov.usedAt s (Ov.many s) j ≤ 1 := by have := Ov.usedAt_01 s (Ov.many s) j; omega
          have hlb := Ov.lostTo_bd s j
          have HJ := hide hJ
          clear hJ
          go_wp2_with fail
          go_region
          all_goals go_wp2_with fail
          all_goals go_roundw
          case rel => exact ⟨j + 1, by omega, by go_num, ((unhide HJ).step rfl).drew⟩
          case measure => simp [intOf]; omega
        · obtain rfl : j = n := by omega
          have x0 : wr.cell? ⟨w.heap.size + 1, 0, none⟩ = some (.string (Ov.backing s)) := blk_cell hJ.x rfl
          have c1 : wr.cell? ⟨w.heap.size + 1, 1, none⟩ = some (.slice ea k ec) := blk_cell hJ.x rfl
          have c2 : wr.cell? ⟨w.heap.size + 1, 2, none⟩ = some (.slice ba k bc) := blk_cell hJ.x rfl
          have x3 : wr.cell? ⟨w.heap.size + 1, 3, none⟩ = some (.int .i64 (Ov.lostTo s j)) := blk_cell hJ.x rfl
          have r0 : wr.cell? ⟨w.heap.size, 0, none⟩ = some (.string ⟨#[]⟩) := blk_cell hJ.res rfl
          have r1 : wr.cell? ⟨w.heap.size, 1, none⟩ = some (.slice none 0 0) := blk_cell hJ.res rfl
          have r2 : wr.cell? ⟨w.heap.size, 2, none⟩ = some (.slice none 0 0) := blk_cell hJ.res rfl
          have r3 : wr.cell? ⟨w.heap.size, 3, none⟩ = some (.int .i64 0) := blk_cell hJ.res rfl
          have rf := blk_frozen hJ.res
          have HJ := hide hJ
          clear hJ
          go_wp2_with fail
          refine bodyPost_ret (v := .tuple #[.agg #[.string (Ov.backing s), .slice ea k ec, .slice ba k bc, .int .i64 (Ov.lostTo s j)], .bool true]) (by simp [results, Tryz.results169, go_sem, r0, r1, r2, r3]) rfl ⟨below_fail (unhide HJ).below _ _ _ _, Or.inr ⟨unhide Himg, .slice ea k ec, .slice ba k bc, by rw [Ov.lost, unhide Hd], owns_fail (unhide HJ).evs _ _ _ _, owns_fail (unhide HJ).bvs _ _ _ _⟩⟩

end Go.Proofs.YtomiepknmmpflaaGreatDoor

