/- The walk of the reference's block. -/
import Derived.Test.YtdcmmmggiokbhaaGreatDoorCPBytes
import Derived.Test.YtdcmmmggiokbhaaGreatDoorCWSpan
namespace Go.Proofs.YtdcmmmggiokbhaaGreatDoor
open Go.RowKit Go.Joins

theorem LI_names {room : Nat} {l : Ov.Files} (hi : Ov.LI room l) : ∀ y, Ov.place l y < l.length → 1 ≤ y.size := fun y hy => by
  have := hi.names _ hy
  rw [Ov.place_name hy] at this
  unfold Ov.nameB Ov.isName at this
  simp only [Bool.and_eq_true, decide_eq_true_eq] at this
  simpa using this.1

set_option maxRecDepth 100000 in
set_option maxHeartbeats 2000000 in
theorem rblock_calls (l : Ov.Files) (x d : ByteArray) (ns : List ByteArray) (n f b room : Nat) (w : World) (hi : Ov.LI room l) (h : RefRep w b room l) (hc : Ov.Chn l ns x) (hn : n < 30) (hf : f ≤ 240) (hd : d.size ≤ 240) :
    Calls Tryz.prog 52 #[.pointer (some ⟨b, 0, none⟩), .string x, .int .i64 (n : Nat), .int .i64 (f : Nat), .string d] w fun e w' => e = .returned (.string (blockW l ns f d n)) ∧ Below w.heap.size w w' := by
  obtain ⟨v, h1, h2, h3⟩ := h
  obtain ⟨g, c, rfl⟩ := ownsRow_form h2 (by have := hc.here; omega)
  have hbl := blk_lt h1
  have c1 : w.cell? ⟨b, 1, none⟩ = some (.slice (some ⟨g, 0, none⟩) l.length c) := blk_cell h1 rfl
  obtain ⟨i0, hi0, hz0, hz1, hz2⟩ := info_parts (show (Tryz.prog.info? 5).map (fun i => (i.zero, i.size, i.bytes)) = some (some (.int .u8 0), 1, 1) by kernel_rfl)
  have HO := hide h2
  have HC := hide hc
  have HC1 := hide c1
  have hl8 := hi.len
  have HSZ := hide hi.size
  have HNM := hide (LI_names hi)
  clear h1 h2 h3 hc hi c1
  go_enter Tryz.func52, Tryz.ntmps52
  go_wp2_with fail
  go_loopw [11, 12] (fun bv i wr => ∃ (j : Nat) (a : Option Addr) (cc : Nat), j ≤ 8 ∧ i = .int .i64 ((8 * n + j : Nat) : Int) ∧ bv = .slice a j cc ∧ wr.ownsRow w.heap.size 5 1 (.slice a j cc) j ((blockTo l ns f d n j).map (Value.int .u8)) ∧ Below w.heap.size w wr) (fun _ i _ => 8 * n + 8 - (intOf i).toNat)
  case atStart => exact ⟨0, none, 0, by omega, by simp, rfl, World.ownsRow_nil _ _ _ _, Below.refl _ _⟩
  case round =>
    obtain ⟨j, a, cc, hj, rfl, rfl, how, hbel⟩ := hrel
    have HW := hide how
    have HBL := hide hbel
    have hwz := hbel.size
    have HOr := hide (owns_all (unhide HO) hbel)
    have c1 : wr.cell? ⟨b, 1, none⟩ = some (.slice (some ⟨g, 0, none⟩) l.length c) := (hbel.cell (p := ⟨b, 1, none⟩) hbl).trans (unhide HC1)
    clear how hbel
    by_cases hlt : j < 8
    · obtain ⟨p, hp⟩ : ∃ p, 8 * n + j = p := ⟨_, rfl⟩
      have hpb : p < 240 := by omega
      obtain ⟨T, hT⟩ : ∃ T, Ov.atTo l ns p = T := ⟨_, rfl⟩
      have hT2 : T < 256 := by rw [← hT]; exact Ov.atTo_lt _ _ _
      have HT := hide hT
      have HBW : Hid (byteW l ns f d (8 * n + j) = if f ≤ p ∧ p < f + d.size then Ov.byteAt d (p - f) else T) := by rw [hp, ← hT]; exact rfl
      have hp9 : p < 8 * n + 8 := by omega
      have HP := hide hp
      have hnext : ∀ (v2 : Option Addr) (c2 : Nat) (w1 w2 : World) (R : Nat), byteW l ns f d (8 * n + j) = R → Below wr.heap.size wr w1 → (w1.alloc (.cells #[.int .u8 (R : Nat)] 5)).grownBy w2 (Value.slice a j cc).ownBlock → w2.ownsRow w.heap.size 5 1 (.slice v2 (j + 1) c2) (j + 1) ((blockTo l ns f d n j).map (Value.int .u8) ++ [.int .u8 (R : Nat)]) →
          ∃ (j' : Nat) (a : Option Addr) (cc : Nat), j' ≤ 8 ∧ Value.int .i64 ((p + 1 : Nat) : Int) = .int .i64 ((8 * n + j' : Nat) : Int) ∧ Value.slice v2 (j + 1) c2 = .slice a j' cc ∧ w2.ownsRow w.heap.size 5 1 (.slice a j' cc) j' ((blockTo l ns f d n j').map (Value.int .u8)) ∧ Below w.heap.size w w2 := by
        intro v2 c2 w1 w2 R hR hb1 hg2 ho2
        refine ⟨j + 1, v2, c2, by omega, by rw [← unhide HP]; congr 1, rfl, ?_, ?_⟩
        · rw [blockTo, List.map_append, hR]; exact ho2
        · exact (((unhide HBL).trans (hb1.mono hwz)).alloc (Nat.le_trans hwz hb1.size) _).grown hg2 (by simp; have := hb1.size; omega) (fun q hq => ((unhide HW).lt q hq).1)
      have HNX := hide hnext
      clear hnext hT
      rw [hp]
      clear hp
      by_cases h1 : f ≤ p
      · by_cases h2 : p < f + d.size
        · have hpd : p - f < d.size := by omega
          obtain ⟨R, hR⟩ : ∃ R, Ov.byteAt d (p - f) = R := ⟨_, rfl⟩
          have hR2 : R < 256 := by rw [← hR]; exact Ov.byteAt_lt _ _
          have hby : (d[p - f]'hpd).toNat = R := by rw [Ov.byteAt_eq, hR]
          have HR : Hid (byteW l ns f d (8 * n + j) = R) := by rw [unhide HBW, if_pos ⟨h1, h2⟩]; exact hR
          clear hR
          go_wp2_with (first
            | (at_builtin; refine wpList_append_own _ rfl (.tmp 46) (.tmp 48) 88 rfl w.heap.size 5 i0 (.int .u8 0) 1 1 Tryz.underlying88 hi0 hz0 hz1 hz2 rfl (by decide) (.slice a j cc) j _ rfl ((owns_all (unhide HW) (unhide HB1)).alloc _) ⟨w1.heap.size, 0, none⟩ 1 1 [.int .u8 (R : Nat)] rfl rfl (one_new rfl) (by intro u hu; simp at hu; subst hu; rfl) (by unfold maxLen; omega) (by omega) (by simp; omega) ?_; intro v2 w2 ho2 hg2 _; obtain ⟨g2, c2, rfl⟩ := ownsRow_form ho2 (by omega))
            | (go_at_call 61; refine (rAt_calls l _ x ns p 0 _ hl8 (unhide HSZ) (unhide HOr) (unhide HC) (unhide HNM) (by omega)).mono ?_; rintro e w1 ⟨he, hb1⟩; rw [unhide HT] at he; subst he; have HB1 := hide hb1; have hz1' := hb1.size; clear hb1))
          go_roundw
          case rel =>
            obtain ⟨j', a', cc', q1, q2, q3, q4, q5⟩ := unhide HNX _ c2 w1 w2 R (unhide HR) (unhide HB1) hg2 ho2
            exact ⟨j', a', cc', q1, Eq.trans (by go_num) q2, q3, q4, q5⟩
          case measure => simp [intOf]; omega
        · have HR : Hid (byteW l ns f d (8 * n + j) = T) := by rw [unhide HBW, if_neg (by omega)]; exact rfl
          go_wp2_with (first
            | (at_builtin; refine wpList_append_own _ rfl (.tmp 46) (.tmp 48) 88 rfl w.heap.size 5 i0 (.int .u8 0) 1 1 Tryz.underlying88 hi0 hz0 hz1 hz2 rfl (by decide) (.slice a j cc) j _ rfl ((owns_all (unhide HW) (unhide HB1)).alloc _) ⟨w1.heap.size, 0, none⟩ 1 1 [.int .u8 (T : Nat)] rfl rfl (one_new rfl) (by intro u hu; simp at hu; subst hu; rfl) (by unfold maxLen; omega) (by omega) (by simp; omega) ?_; intro v2 w2 ho2 hg2 _; obtain ⟨g2, c2, rfl⟩ := ownsRow_form ho2 (by omega))
            | (go_at_call 61; refine (rAt_calls l _ x ns p 0 _ hl8 (unhide HSZ) (unhide HOr) (unhide HC) (unhide HNM) (by omega)).mono ?_; rintro e w1 ⟨he, hb1⟩; rw [unhide HT] at he; subst he; have HB1 := hide hb1; have hz1' := hb1.size; clear hb1))
          go_roundw
          case rel =>
            obtain ⟨j', a', cc', q1, q2, q3, q4, q5⟩ := unhide HNX _ c2 w1 w2 T (unhide HR) (unhide HB1) hg2 ho2
            exact ⟨j', a', cc', q1, Eq.trans (by go_num) q2, q3, q4, q5⟩
          case measure => simp [intOf]; omega
      · have HR : Hid (byteW l ns f d (8 * n + j) = T) := by rw [unhide HBW, if_neg (by omega)]; exact rfl
        go_wp2_with (first
          | (at_builtin; refine wpList_append_own _ rfl (.tmp 46) (.tmp 48) 88 rfl w.heap.size 5 i0 (.int .u8 0) 1 1 Tryz.underlying88 hi0 hz0 hz1 hz2 rfl (by decide) (.slice a j cc) j _ rfl ((owns_all (unhide HW) (unhide HB1)).alloc _) ⟨w1.heap.size, 0, none⟩ 1 1 [.int .u8 (T : Nat)] rfl rfl (one_new rfl) (by intro u hu; simp at hu; subst hu; rfl) (by unfold maxLen; omega) (by omega) (by simp; omega) ?_; intro v2 w2 ho2 hg2 _; obtain ⟨g2, c2, rfl⟩ := ownsRow_form ho2 (by omega))
          | (go_at_call 61; refine (rAt_calls l _ x ns p 0 _ hl8 (unhide HSZ) (unhide HOr) (unhide HC) (unhide HNM) (by omega)).mono ?_; rintro e w1 ⟨he, hb1⟩; rw [unhide HT] at he; subst he; have HB1 := hide hb1; have hz1' := hb1.size; clear hb1))
        go_roundw
        case rel =>
          obtain ⟨j', a', cc', q1, q2, q3, q4, q5⟩ := unhide HNX _ c2 w1 w2 T (unhide HR) (unhide HB1) hg2 ho2
          exact ⟨j', a', cc', q1, Eq.trans (by go_num) q2, q3, q4, q5⟩
        case measure => simp [intOf]; omega
    · obtain rfl : j = 8 := by omega
      have hcv := conv_own (unhide HW)
      go_wp2_with fail
      go_ret
      exact ⟨rfl, unhide HBL⟩

end Go.Proofs.YtdcmmmggiokbhaaGreatDoor

/- An image of the reference's in memory. -/
namespace Go.Proofs.YtdcmmmggiokbhaaGreatDoor
open Go.RowKit Go.Joins

theorem sound_here {l : Ov.Files} {x : ByteArray} (h : Ov.soundF l x = 0) : Ov.place l x < l.length ∧ Ov.Chn l (Ov.downOf l x).1 x := by
  by_cases hp : Ov.place l x < l.length
  · unfold Ov.soundF at h
    rw [if_pos hp] at h
    exact ⟨hp, Ov.downOf_chn hp h⟩
  · unfold Ov.soundF at h
    rw [if_neg hp] at h
    omega
/-- An image at block X, all of it new since w. -/
structure RIm (w : World) (bk : ByteArray) (lo : Int) (m : Nat) (ks : List Int) (bs : List ByteArray) (X : Nat) (ea ba : Option Addr) (ec bc : Nat) (W : World) : Prop where
  lt : w.heap.size ≤ X
  x : W.heap[X]? = some (.cells #[.string bk, .slice ea m ec, .slice ba m bc, .int .i64 lo] 98 (0, 0))
  below : Below w.heap.size w W
  ks : W.ownsRow w.heap.size 3 1 (.slice ea m ec) m (ks.map (Value.int .i64))
  bs : W.ownsRow w.heap.size 9 1 (.slice ba m bc) m (bs.map Value.string)
section
variable {w w1 : World} {bk : ByteArray} {lo : Int} {m : Nat} {ks : List Int} {bs : List ByteArray} {X : Nat} {ea ba : Option Addr} {ec bc : Nat}
/-- The image's call first, then the block of x. -/
theorem RIm.late (h : Below w.heap.size w w1) (h1 : w1.ownsRow (w.heap.size + 1) 3 1 (.slice ea m ec) m (ks.map (Value.int .i64))) (h2 : w1.ownsRow (w.heap.size + 1) 9 1 (.slice ba m bc) m (bs.map Value.string)) :
    RIm w bk lo m ks bs w1.heap.size ea ba ec bc (w1.alloc (.cells #[.string bk, .slice ea m ec, .slice ba m bc, .int .i64 lo] 98)) :=
  ⟨h.size, new_at _ _, h.alloc h.size _, ownsRow_le (h1.alloc _) (by omega), ownsRow_le (h2.alloc _) (by omega)⟩
/-- The block of x first. -/
theorem RIm.early (h : Below (w.alloc img0).heap.size (w.alloc img0) w1) (h1 : w1.ownsRow ((w.alloc img0).heap.size + 1) 3 1 (.slice ea m ec) m (ks.map (Value.int .i64))) (h2 : w1.ownsRow ((w.alloc img0).heap.size + 1) 9 1 (.slice ba m bc) m (bs.map Value.string)) :
    RIm w bk lo m ks bs w.heap.size ea ba ec bc ((((w1.setCell ⟨w.heap.size, 0, none⟩ (.string bk)).setCell ⟨w.heap.size, 1, none⟩ (.slice ea m ec)).setCell ⟨w.heap.size, 2, none⟩ (.slice ba m bc)).setCell ⟨w.heap.size, 3, none⟩ (.int .i64 lo)) := by
  have sz : (w.alloc img0).heap.size = w.heap.size + 1 := by simp
  have hs := h.size
  rw [sz] at hs h1 h2
  have hb : Below w.heap.size w w1 := ((Below.refl w.heap.size w).alloc (Nat.le_refl _) img0).trans (h.mono (by omega))
  have n1 : some w.heap.size ≠ (Value.slice ea m ec).ownBlock := owns_ne h1 (by omega)
  have n2 : some w.heap.size ≠ (Value.slice ba m bc).ownBlock := owns_ne h2 (by omega)
  have hx : w1.heap[w.heap.size]? = some img0 := (h.block w.heap.size (by simp)).trans (new_at w img0)
  have b1 := blk_set_same (i := 3) (blk_set_same (i := 2) (blk_set_same (i := 1) (blk_set_same (i := 0) hx (.string bk)) (.slice ea m ec)) (.slice ba m bc)) (.int .i64 lo)
  exact ⟨Nat.le_refl _, by simpa using b1, (((hb.setCell (p := ⟨w.heap.size, 0, none⟩) (Nat.le_refl _) _).setCell (p := ⟨w.heap.size, 1, none⟩) (Nat.le_refl _) _).setCell (p := ⟨w.heap.size, 2, none⟩) (Nat.le_refl _) _).setCell (p := ⟨w.heap.size, 3, none⟩) (Nat.le_refl _) _,
    ownsRow_le (owns_set (owns_set (owns_set (owns_set h1 (a := ⟨w.heap.size, 0, none⟩) n1 _) (a := ⟨w.heap.size, 1, none⟩) n1 _) (a := ⟨w.heap.size, 2, none⟩) n1 _) (a := ⟨w.heap.size, 3, none⟩) n1 _) (by omega), ownsRow_le (owns_set (owns_set (owns_set (owns_set h2 (a := ⟨w.heap.size, 0, none⟩) n2 _) (a := ⟨w.heap.size, 1, none⟩) n2 _) (a := ⟨w.heap.size, 2, none⟩) n2 _) (a := ⟨w.heap.size, 3, none⟩) n2 _) (by omega)⟩
theorem RIm.kept {W W' : World} (h : RIm w bk lo m ks bs X ea ba ec bc W) (hb : Below W.heap.size W W') : RIm w bk lo m ks bs X ea ba ec bc W' :=
  ⟨h.lt, (hb.block X (blk_lt h.x)).trans h.x, h.below.trans (hb.mono h.below.size), owns_all h.ks hb, owns_all h.bs hb⟩
theorem row_ne {W : World} {base e size n X : Nat} {v : Value} {xs : List Value} {cs : Array Value} {t : TypeId} (hx : W.heap[X]? = some (.cells cs t (0, 0))) (h : W.ownsRow base e size v n xs) (hne : t ≠ e) : some X ≠ v.ownBlock := by
  obtain ⟨_, h⟩ := h
  rcases h with ⟨rfl, _⟩ | ⟨g, c, cur, rfl, _, hh, _⟩
  · simp [Value.ownBlock]
  · simp only [Value.ownBlock, ne_eq, Option.some.injEq]
    rintro rfl
    rw [hx] at hh
    simp only [Option.some.injEq, Obj.cells.injEq] at hh
    exact hne hh.2.1
theorem RIm.setK {W : World} {ge : Nat} (h : RIm w bk lo m ks bs X (some ⟨ge, 0, none⟩) ba ec bc W) (j : Nat) (n : Int) : RIm w bk lo m (ks.set j n) bs X (some ⟨ge, 0, none⟩) ba ec bc (W.setCell ⟨ge, j, none⟩ (.int .i64 n)) := by
  have n1 := row_ne h.x h.ks (by decide)
  have n2 := owns_apart h.bs h.ks (by decide)
  have hs := (h.ks.stored j (.int .i64 n)).1
  refine ⟨h.lt, blk_set_other h.x (fun e => n1 (by rw [e]; rfl)) _, h.below.setCell (p := ⟨ge, j, none⟩) (h.ks.lt ge rfl).1 _, ?_, owns_set h.bs (a := ⟨ge, j, none⟩) ?_ _⟩
  · rw [List.map_set]; exact hs
  · rcases n2 with e | e
    · rw [e]; simp
    · exact fun q => e q.symm
theorem RIm.setB {W : World} {gb : Nat} (h : RIm w bk lo m ks bs X ea (some ⟨gb, 0, none⟩) ec bc W) (j : Nat) (u : ByteArray) : RIm w bk lo m ks (bs.set j u) X ea (some ⟨gb, 0, none⟩) ec bc (W.setCell ⟨gb, j, none⟩ (.string u)) := by
  have n1 := row_ne h.x h.bs (by decide)
  have n2 := owns_apart h.ks h.bs (by decide)
  have hs := (h.bs.stored j (.string u)).1
  refine ⟨h.lt, blk_set_other h.x (fun e => n1 (by rw [e]; rfl)) _, h.below.setCell (p := ⟨gb, j, none⟩) (h.bs.lt gb rfl).1 _, owns_set h.ks (a := ⟨gb, j, none⟩) ?_ _, ?_⟩
  · rcases n2 with e | e
    · rw [e]; simp
    · exact fun q => e q.symm
  · rw [List.map_set]; exact hs
/-- Its cells, and that none is frozen: what the walk reads. -/
theorem RIm.read {W : World} (h : RIm w bk lo m ks bs X ea ba ec bc W) : W.cell? ⟨X, 0, none⟩ = some (.string bk) ∧ W.cell? ⟨X, 1, none⟩ = some (.slice ea m ec) ∧ W.cell? ⟨X, 2, none⟩ = some (.slice ba m bc) ∧ W.cell? ⟨X, 3, none⟩ = some (.int .i64 lo) :=
  ⟨blk_cell h.x rfl, blk_cell h.x rfl, blk_cell h.x rfl, blk_cell h.x rfl⟩
theorem RIm.old {W : World} (h : RIm w bk lo m ks bs X ea ba ec bc W) {p : Addr} {v : Value} (hp : p.block < w.heap.size) (hc : w.cell? p = some v) : W.cell? p = some v := (h.below.cell (p := p) hp).trans hc
end

end Go.Proofs.YtdcmmmggiokbhaaGreatDoor
