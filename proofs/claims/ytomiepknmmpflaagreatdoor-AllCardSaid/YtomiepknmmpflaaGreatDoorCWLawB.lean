/- The program's Discard, whole. -/
import Derived.Test.YtomiepknmmpflaaGreatDoorCWODiscard
import Derived.Test.YtomiepknmmpflaaGreatDoorCWRow
import Derived.Test.YtomiepknmmpflaaGreatDoorCWDiscard
import Derived.Test.YtomiepknmmpflaaGreatDoorCWTake
import Derived.Test.YtomiepknmmpflaaGreatDoorCWViewOver
import Derived.Test.YtomiepknmmpflaaGreatDoorCWCommit
namespace Go.Proofs.YtomiepknmmpflaaGreatDoor
open Go.RowKit Go.Joins

open Go.MuLone in
set_option maxRecDepth 100000 in
set_option maxHeartbeats 2000000 in
theorem ovDiscard_calls (l : Ov.Files) (x : ByteArray) (f k : Int) (b B : Nat) (r : Option Nat) (room : Nat) (s0 s1 s2 s3 : Addr) (w : World) (hi : Ov.LI room l) (h : OvRep w b r room l) (hs : Sents w B s0 s1 s2 s3) (hB : B ≤ b) (hf1 : -9223372036854775808 ≤ f) (hf2 : f ≤ 9223372036854775807) (hk1 : -9223372036854775808 ≤ k) (hk2 : k ≤ 9223372036854775807) :
    Calls Tryz.prog 32 #[.pointer (some ⟨b, 0, none⟩), .string x, .int .i64 f, .int .i64 k] w fun e w' => e = .returned (.int .i64 (discardF room l x f k).1) ∧ OvLeft w b r room (discardF room l x f k).2 w' := by
  by_cases hq : rangedF l x f k = 0
  · obtain ⟨_, _, _, hf0, hk0, _⟩ := ranged_ok hq
    obtain ⟨f, rfl⟩ := Int.eq_ofNat_of_zero_le hf0
    obtain ⟨k, rfl⟩ := Int.eq_ofNat_of_zero_le hk0
    exact oDiscard_go l x f k b B r room s0 s1 s2 s3 w hi h hs hB hq
  · have HF : Hid (discardF room l x f k = (rangedF l x f k, l)) := by unfold discardF; rw [if_pos hq]; exact rfl
    obtain ⟨v, h1, h2, h3, h4⟩ := id h
    have HR := hide h
    have c0 : w.cell? ⟨b, 0, none⟩ = some (.int .i32 0) := blk_cell h1 rfl
    have f0 := blk_frozen h1 0
    have hbl := blk_lt h1
    have HB := hide (blk_set_same (i := 0) h1 (.int .i32 1))
    have HC : Hid (ChainAt (w.setCell ⟨b, 0, none⟩ (.int .i32 1)) b B r room l s0 s1 s2 s3) := ⟨h.lock, hi, hs.kept ((Below.refl B w).setCell (p := ⟨b, 0, none⟩) hB (.int .i32 1))⟩
    have hno : ∀ W, Below (w.setCell ⟨b, 0, none⟩ (.int .i32 1)).heap.size (w.setCell ⟨b, 0, none⟩ (.int .i32 1)) W → Calls Tryz.prog 59 #[.pointer (some ⟨b, 0, none⟩), .string x, .agg #[.int .i64 f, .int .i64 k]] W (AtNo (rangedF l x f k) W) := fun W hW => oopenAt_no x f k W b B r room l s0 s1 s2 s3 ((unhide HC).kept hW) hq hf1 hf2 hk1 hk2
    have HNO := hide hno
    obtain ⟨q, hqe⟩ : ∃ q, rangedF l x f k = q := ⟨_, rfl⟩
    rw [hqe] at HNO HF hq
    have hqn : (q != 0) = true := by rw [bne_iff_ne]; exact hq
    clear h h1 h2 h3 h4 hs hi hno hqe hq
    go_enter_defers Tryz.func32, Tryz.ntmps32
    go_wp2_with (first
      | (go_at_call 59; refine (unhide HNO _ (below_alloc1 _ _)).mono ?_; rintro e w2 ⟨hb2, rfl⟩; have HB2 := hide hb2; clear hb2)
      | (go_at_call 43; refine (lock_free muLib ⟨b, 0, none⟩ _ c0 f0).mono ?_; rintro e w1 ⟨rfl, rfl⟩))
    have hb5 : ∀ p, Below (w.setCell ⟨b, 0, none⟩ (.int .i32 1)).heap.size (w.setCell ⟨b, 0, none⟩ (.int .i32 1)) (w2.alloc p).drew := fun p => (((below_alloc1 _ _).trans ((unhide HB2).mono (le_alloc _ _))).alloc (by have := (unhide HB2).size; simp at this; simp; omega) _).drew
    refine wp_calm ?_
    go_region
    all_goals
      simp only [NQ]
      go_wp2_with fail
      refine leaves_cons (f := 44) (args := #[.pointer (some ⟨b, 0, none⟩)]) (by simp) (by simp [go_sem]) ?_
      refine (unlock_deferred muLib ⟨b, 0, none⟩ .returning _ ?_ ?_).mono ?_
      · exact ((hb5 _).cell (p := ⟨b, 0, none⟩) (by simpa using hbl)).trans (blk_cell (unhide HB) rfl)
      · exact ((hb5 _).frozen (p := ⟨b, 0, none⟩) (by simpa using hbl)).trans (blk_frozen (unhide HB) 0)
      rintro e u' w'' ⟨rfl, rfl, rfl⟩
      refine ⟨_, results_tmp rfl _ _ _, ?_, by rw [unhide HF]; exact OvLeft.quiet (unhide HR) (hb5 _)⟩
      rw [unhide HF]; rfl


end Go.Proofs.YtomiepknmmpflaaGreatDoor

namespace Go.Proofs.YtomiepknmmpflaaGreatDoor
open Go.RowKit Go.Joins

theorem rangedF_small (l : Ov.Files) (x : ByteArray) (f k : Int) : Small (rangedF l x f k) := by
  unfold rangedF
  split
  · exact soundF_small _ _
  · split <;> exact ⟨by simp, by simp⟩
theorem readF_small (l : Ov.Files) (x : ByteArray) (f k : Int) : Small (readF l x f k).2 := by
  unfold readF
  split
  · exact rangedF_small _ _ _ _
  · exact ⟨by simp, by simp⟩
theorem writeF_small (room : Nat) (l : Ov.Files) (x : ByteArray) (f : Int) (d : ByteArray) : Small (writeF room l x f d).1 := by
  unfold writeF newF
  split
  · exact rangedF_small _ _ _ _
  · split
    · exact ⟨by simp, by simp⟩
    · exact putF_small _ _ _
theorem zeroF_small (room : Nat) (l : Ov.Files) (x : ByteArray) (f k : Int) : Small (zeroF room l x f k).1 := by
  unfold zeroF newF
  split
  · exact rangedF_small _ _ _ _
  · split
    · exact ⟨by simp, by simp⟩
    · exact putF_small _ _ _
theorem discardF_small (room : Nat) (l : Ov.Files) (x : ByteArray) (f k : Int) : Small (discardF room l x f k).1 := by
  unfold discardF newF
  split
  · exact rangedF_small _ _ _ _
  · split
    · exact ⟨by simp, by simp⟩
    · exact putF_small _ _ _
theorem LI.new {room : Nat} {l : Ov.Files} (h : Ov.LI room l) {x : ByteArray} {f k : Int} (hq : ¬ rangedF l x f k ≠ 0) {ks : List Int} {bs : List ByteArray} (hk : ks.length = Ov.many (fileOf l x)) (hb : ∀ i, i < Ov.many (fileOf l x) → (bs.getD i ⟨#[]⟩).size ≤ 8) : Ov.LI room (newF room l x ks bs).2 := by
  obtain ⟨_, hp, hc, _⟩ := ranged_ok (show rangedF l x f k = 0 by omega)
  have hm := hc.many_le
  have hbk := backing_size hc
  have hn := h.names _ hp
  rw [Ov.place_name hp] at hn
  have hl := h.len
  have he := encode_size (Ov.backing (fileOf l x)) ks bs (fun j hj => hb j (by omega))
  unfold newF
  refine h.put ?_ (Ov.withF_size h.size (by omega)) (Ov.withF_names h.names hn) (Ov.withF_nodup h.nodup)
  rw [Ov.withF_length, if_pos hp]; exact hl
theorem LI.write {room : Nat} {l : Ov.Files} (h : Ov.LI room l) (x : ByteArray) (f : Int) (d : ByteArray) : Ov.LI room (writeF room l x f d).2 := by
  unfold writeF
  split
  · exact h
  · rename_i hq
    split
    · exact h
    · refine LI.new h hq (allTo_length ..) fun i hi => ?_
      rw [allTo_getD hi]
      split
      · rw [blockW_size]; omega
      · exact bOld_size i
theorem LI.zero {room : Nat} {l : Ov.Files} (h : Ov.LI room l) (x : ByteArray) (f k : Int) : Ov.LI room (zeroF room l x f k).2 := by
  unfold zeroF
  split
  · exact h
  · rename_i hq
    split
    · exact h
    · refine LI.new h hq (allTo_length ..) fun i hi => ?_
      rw [allTo_getD hi]
      split
      · split
        · exact Nat.zero_le _
        · rw [blockW_size]; omega
      · exact bOld_size i
theorem LI.discard {room : Nat} {l : Ov.Files} (h : Ov.LI room l) (x : ByteArray) (f k : Int) : Ov.LI room (discardF room l x f k).2 := by
  unfold discardF
  split
  · exact h
  · rename_i hq
    split
    · exact h
    · refine LI.new h hq (allTo_length ..) fun i hi => ?_
      rw [allTo_getD hi]
      split
      · exact Nat.zero_le _
      · exact bOld_size i
set_option maxRecDepth 100000 in
set_option maxHeartbeats 2000000 in
theorem lbytes_read (w : World) (B wb i : Nat) (s0 s1 s2 s3 : Addr) (v : Value) (S : List St) (s : St) (W n m : Int) (nm ot tx : ByteArray) (h : LW w B wb s0 s1 s2 s3 v S) (hs : S[i]? = some s) (hok : OpOk W n m tx) :
    Calls Tryz.prog 76 #[.agg #[.pointer (some ⟨s.bx, 0, none⟩), .pointer (some ⟨s.ry, 0, none⟩)], .agg #[.int .i64 8, .int .i64 W, .int .i64 n, .int .i64 m, .string nm, .string ot, .string tx]] w fun e w' => e = .returned (.bool true) ∧ ∃ S', LW w' B wb s0 s1 s2 s3 v S' ∧ S'.length = S.length ∧ Below B w w' := by
  have HW := hide (h.kept (below_alloc2 w (.cells #[.pointer (some ⟨s.bx, 0, none⟩), .pointer (some ⟨s.ry, 0, none⟩)] 127) (.cells #[.int .i64 8, .int .i64 W, .int .i64 n, .int .i64 m, .string nm, .string ot, .string tx] 63)))
  have HS := hide hs
  have HST := hide ((unhide HW).each s (List.mem_of_getElem? hs))
  have HB := hide (unhide HST).bx
  have hBz := h.un.se.size
  have HCS := hide (readF_small s.l nm n m)
  have HOK := hide hok
  clear h hs hok
  go_enter Tryz.func76, Tryz.ntmps76
  go_wp2_with (first
    | (go_at_call 75; refine (lnum_calls _ _ (unhide HCS)).mono ?_; rintro e w3 ⟨rfl, rfl⟩)
    | (go_at_call 111; refine (rRead_calls s.l nm n m s.ry s.room _ (unhide HST).li (unhide HM) (unhide HOK).n1 (unhide HOK).n2 (unhide HOK).m1 (unhide HOK).m2).mono ?_; rintro e w2 ⟨rfl, hr⟩; have HR := hide ((unhide HM).same hr); clear hr)
    | (go_at_call 33; refine (oRead_calls s.l nm n m s.bx B s.rx s.room s0 s1 s2 s3 _ (unhide HST).li (unhide HST).ov (unhide HW).un.se (unhide HB) (unhide HOK).n1 (unhide HOK).n2 (unhide HOK).m1 (unhide HOK).m2).mono ?_; rintro e w1 ⟨rfl, hl⟩; have HL := hide hl; have kp := pair_kept hl (unhide HST).ov (blk_alloc (blk_new w _) _) (by decide) (by decide); have ko := pair_kept hl (unhide HST).ov (blk_new1 w _ _) (by decide) (by decide); have p1 := blk_cell (i := 1) kp rfl; have o4 := blk_cell (i := 4) ko rfl; have o3 := blk_cell (i := 3) ko rfl; have o6 := blk_cell (i := 6) ko rfl; have o2 := blk_cell (i := 2) ko rfl; have HM := hide ((unhide HST).mid hl); clear hl kp ko))
  go_ret
  obtain ⟨S', t1, t2, t3⟩ := (unhide HW).turn (unhide HS) (unhide HL) (unhide HR) ((unhide HST).li)
  exact ⟨rfl, S', t1, t2, ((below_alloc2 w _ _).mono hBz).trans t3⟩

set_option maxRecDepth 100000 in
set_option maxHeartbeats 2000000 in
theorem lbytes_write (w : World) (B wb i : Nat) (s0 s1 s2 s3 : Addr) (v : Value) (S : List St) (s : St) (W n m : Int) (nm ot tx : ByteArray) (h : LW w B wb s0 s1 s2 s3 v S) (hs : S[i]? = some s) (hok : OpOk W n m tx) :
    Calls Tryz.prog 76 #[.agg #[.pointer (some ⟨s.bx, 0, none⟩), .pointer (some ⟨s.ry, 0, none⟩)], .agg #[.int .i64 9, .int .i64 W, .int .i64 n, .int .i64 m, .string nm, .string ot, .string tx]] w fun e w' => e = .returned (.bool true) ∧ ∃ S', LW w' B wb s0 s1 s2 s3 v S' ∧ S'.length = S.length ∧ Below B w w' := by
  have HW := hide (h.kept (below_alloc2 w (.cells #[.pointer (some ⟨s.bx, 0, none⟩), .pointer (some ⟨s.ry, 0, none⟩)] 127) (.cells #[.int .i64 9, .int .i64 W, .int .i64 n, .int .i64 m, .string nm, .string ot, .string tx] 63)))
  have HS := hide hs
  have HST := hide ((unhide HW).each s (List.mem_of_getElem? hs))
  have HB := hide (unhide HST).bx
  have hBz := h.un.se.size
  have HCS := hide (writeF_small s.room s.l nm n tx)
  have HOK := hide hok
  clear h hs hok
  go_enter Tryz.func76, Tryz.ntmps76
  go_wp2_with (first
    | (go_at_call 75; refine (lnum_calls _ _ (unhide HCS)).mono ?_; rintro e w3 ⟨rfl, rfl⟩)
    | (go_at_call 112; refine (rWrite_calls s.l nm tx n s.ry s.room _ (unhide HST).li (unhide HM) (unhide HOK).n1 (unhide HOK).n2 (unhide HOK).t).mono ?_; rintro e w2 ⟨rfl, hr⟩; have HR := hide (hr); clear hr)
    | (go_at_call 29; refine (ovWrite_calls s.l nm tx n s.bx B s.rx s.room s0 s1 s2 s3 _ (unhide HST).li (unhide HST).ov (unhide HW).un.se (unhide HB) (unhide HOK).n1 (unhide HOK).n2 (unhide HOK).t).mono ?_; rintro e w1 ⟨rfl, hl⟩; have HL := hide hl; have kp := pair_kept hl (unhide HST).ov (blk_alloc (blk_new w _) _) (by decide) (by decide); have ko := pair_kept hl (unhide HST).ov (blk_new1 w _ _) (by decide) (by decide); have p1 := blk_cell (i := 1) kp rfl; have o4 := blk_cell (i := 4) ko rfl; have o3 := blk_cell (i := 3) ko rfl; have o6 := blk_cell (i := 6) ko rfl; have o2 := blk_cell (i := 2) ko rfl; have HM := hide ((unhide HST).mid hl); clear hl kp ko))
  go_ret
  obtain ⟨S', t1, t2, t3⟩ := (unhide HW).turn (unhide HS) (unhide HL) (unhide HR) (LI.write (unhide HST).li nm n tx)
  exact ⟨rfl, S', t1, t2, ((below_alloc2 w _ _).mono hBz).trans t3⟩

set_option maxRecDepth 100000 in
set_option maxHeartbeats 2000000 in
theorem lbytes_zero (w : World) (B wb i : Nat) (s0 s1 s2 s3 : Addr) (v : Value) (S : List St) (s : St) (W n m : Int) (nm ot tx : ByteArray) (h : LW w B wb s0 s1 s2 s3 v S) (hs : S[i]? = some s) (hok : OpOk W n m tx) :
    Calls Tryz.prog 76 #[.agg #[.pointer (some ⟨s.bx, 0, none⟩), .pointer (some ⟨s.ry, 0, none⟩)], .agg #[.int .i64 10, .int .i64 W, .int .i64 n, .int .i64 m, .string nm, .string ot, .string tx]] w fun e w' => e = .returned (.bool true) ∧ ∃ S', LW w' B wb s0 s1 s2 s3 v S' ∧ S'.length = S.length ∧ Below B w w' := by
  have HW := hide (h.kept (below_alloc2 w (.cells #[.pointer (some ⟨s.bx, 0, none⟩), .pointer (some ⟨s.ry, 0, none⟩)] 127) (.cells #[.int .i64 10, .int .i64 W, .int .i64 n, .int .i64 m, .string nm, .string ot, .string tx] 63)))
  have HS := hide hs
  have HST := hide ((unhide HW).each s (List.mem_of_getElem? hs))
  have HB := hide (unhide HST).bx
  have hBz := h.un.se.size
  have HCS := hide (zeroF_small s.room s.l nm n m)
  have HOK := hide hok
  clear h hs hok
  go_enter Tryz.func76, Tryz.ntmps76
  go_wp2_with (first
    | (go_at_call 75; refine (lnum_calls _ _ (unhide HCS)).mono ?_; rintro e w3 ⟨rfl, rfl⟩)
    | (go_at_call 113; refine (rZero_calls s.l nm n m s.ry s.room _ (unhide HST).li (unhide HM) (unhide HOK).n1 (unhide HOK).n2 (unhide HOK).m1 (unhide HOK).m2).mono ?_; rintro e w2 ⟨rfl, hr⟩; have HR := hide (hr); clear hr)
    | (go_at_call 30; refine (ovZero_calls s.l nm n m s.bx B s.rx s.room s0 s1 s2 s3 _ (unhide HST).li (unhide HST).ov (unhide HW).un.se (unhide HB) (unhide HOK).n1 (unhide HOK).n2 (unhide HOK).m1 (unhide HOK).m2).mono ?_; rintro e w1 ⟨rfl, hl⟩; have HL := hide hl; have kp := pair_kept hl (unhide HST).ov (blk_alloc (blk_new w _) _) (by decide) (by decide); have ko := pair_kept hl (unhide HST).ov (blk_new1 w _ _) (by decide) (by decide); have p1 := blk_cell (i := 1) kp rfl; have o4 := blk_cell (i := 4) ko rfl; have o3 := blk_cell (i := 3) ko rfl; have o6 := blk_cell (i := 6) ko rfl; have o2 := blk_cell (i := 2) ko rfl; have HM := hide ((unhide HST).mid hl); clear hl kp ko))
  go_ret
  obtain ⟨S', t1, t2, t3⟩ := (unhide HW).turn (unhide HS) (unhide HL) (unhide HR) (LI.zero (unhide HST).li nm n m)
  exact ⟨rfl, S', t1, t2, ((below_alloc2 w _ _).mono hBz).trans t3⟩

set_option maxRecDepth 100000 in
set_option maxHeartbeats 2000000 in
theorem lbytes_discard (w : World) (B wb i : Nat) (s0 s1 s2 s3 : Addr) (v : Value) (S : List St) (s : St) (W n m : Int) (nm ot tx : ByteArray) (h : LW w B wb s0 s1 s2 s3 v S) (hs : S[i]? = some s) (hok : OpOk W n m tx) :
    Calls Tryz.prog 76 #[.agg #[.pointer (some ⟨s.bx, 0, none⟩), .pointer (some ⟨s.ry, 0, none⟩)], .agg #[.int .i64 11, .int .i64 W, .int .i64 n, .int .i64 m, .string nm, .string ot, .string tx]] w fun e w' => e = .returned (.bool true) ∧ ∃ S', LW w' B wb s0 s1 s2 s3 v S' ∧ S'.length = S.length ∧ Below B w w' := by
  have HW := hide (h.kept (below_alloc2 w (.cells #[.pointer (some ⟨s.bx, 0, none⟩), .pointer (some ⟨s.ry, 0, none⟩)] 127) (.cells #[.int .i64 11, .int .i64 W, .int .i64 n, .int .i64 m, .string nm, .string ot, .string tx] 63)))
  have HS := hide hs
  have HST := hide ((unhide HW).each s (List.mem_of_getElem? hs))
  have HB := hide (unhide HST).bx
  have hBz := h.un.se.size
  have HCS := hide (discardF_small s.room s.l nm n m)
  have HOK := hide hok
  clear h hs hok
  go_enter Tryz.func76, Tryz.ntmps76
  go_wp2_with (first
    | (go_at_call 75; refine (lnum_calls _ _ (unhide HCS)).mono ?_; rintro e w3 ⟨rfl, rfl⟩)
    | (go_at_call 114; refine (rDiscard_calls s.l nm n m s.ry s.room _ (unhide HST).li (unhide HM) (unhide HOK).n1 (unhide HOK).n2 (unhide HOK).m1 (unhide HOK).m2).mono ?_; rintro e w2 ⟨rfl, hr⟩; have HR := hide (hr); clear hr)
    | (go_at_call 32; refine (ovDiscard_calls s.l nm n m s.bx B s.rx s.room s0 s1 s2 s3 _ (unhide HST).li (unhide HST).ov (unhide HW).un.se (unhide HB) (unhide HOK).n1 (unhide HOK).n2 (unhide HOK).m1 (unhide HOK).m2).mono ?_; rintro e w1 ⟨rfl, hl⟩; have HL := hide hl; have kp := pair_kept hl (unhide HST).ov (blk_alloc (blk_new w _) _) (by decide) (by decide); have ko := pair_kept hl (unhide HST).ov (blk_new1 w _ _) (by decide) (by decide); have p1 := blk_cell (i := 1) kp rfl; have o4 := blk_cell (i := 4) ko rfl; have o3 := blk_cell (i := 3) ko rfl; have o6 := blk_cell (i := 6) ko rfl; have o2 := blk_cell (i := 2) ko rfl; have HM := hide ((unhide HST).mid hl); clear hl kp ko))
  go_ret
  obtain ⟨S', t1, t2, t3⟩ := (unhide HW).turn (unhide HS) (unhide HL) (unhide HR) (LI.discard (unhide HST).li nm n m)
  exact ⟨rfl, S', t1, t2, ((below_alloc2 w _ _).mono hBz).trans t3⟩

theorem lbytes_calls (w : World) (B wb i : Nat) (s0 s1 s2 s3 : Addr) (v : Value) (S : List St) (s : St) (k W n m : Int) (nm ot tx : ByteArray) (hk8 : 8 ≤ k) (hk11 : k ≤ 11) (h : LW w B wb s0 s1 s2 s3 v S) (hs : S[i]? = some s) (hok : OpOk W n m tx) :
    Calls Tryz.prog 76 #[.agg #[.pointer (some ⟨s.bx, 0, none⟩), .pointer (some ⟨s.ry, 0, none⟩)], .agg #[.int .i64 k, .int .i64 W, .int .i64 n, .int .i64 m, .string nm, .string ot, .string tx]] w fun e w' => e = .returned (.bool true) ∧ ∃ S', LW w' B wb s0 s1 s2 s3 v S' ∧ S'.length = S.length ∧ Below B w w' := by
  have hk : k = 8 ∨ k = 9 ∨ k = 10 ∨ k = 11 := by omega
  rcases hk with rfl | rfl | rfl | rfl
  · exact lbytes_read w B wb i s0 s1 s2 s3 v S s W n m nm ot tx h hs hok
  · exact lbytes_write w B wb i s0 s1 s2 s3 v S s W n m nm ot tx h hs hok
  · exact lbytes_zero w B wb i s0 s1 s2 s3 v S s W n m nm ot tx h hs hok
  · exact lbytes_discard w B wb i s0 s1 s2 s3 v S s W n m nm ot tx h hs hok

end Go.Proofs.YtomiepknmmpflaaGreatDoor

namespace Go.Proofs.YtomiepknmmpflaaGreatDoor
open Go.RowKit Go.Joins Go.Shelf

attribute [local go_sem] Oper.semAt_some

def takQ (m : Nat) (qa q : Nat → Int) (i : Nat) : Int := if cAtQ m qa i ≠ 0 then cAtQ m qa i else q i
def takD (m : Nat) (qa : Nat → Int) (da d : Nat → Eight) (i : Nat) : Eight := if cAtQ m qa i ≠ 0 then cAtD m da i else d i
abbrev OwnsCl (w : World) (base : Nat) (s : Value) (n : Nat) (q : Nat → Int) (d : Nat → Eight) : Prop := w.ownsRow base 160 9 s n (clRow q d n)
structure TI (w : World) (V B1 B2 : Nat) (u1 u2 : Value) (q : Nat → Int) (d : Nat → Eight) (k : Nat) (W : World) : Prop where
  row : ∃ a c, Boxed W V 88 (.slice a k c) ∧ OwnsCl W w.heap.size (.slice a k c) k q d
  below : Below w.heap.size w W
  b1 : Boxed W B1 88 u1
  b2 : Boxed W B2 88 u2
theorem TI.own (w : World) (V B1 B2 : Nat) (u1 u2 : Value) (q : Nat → Int) (d : Nat → Eight) (n : Nat) (hn : w.heap.size ≤ n) : OwnFrom n (TI w V B1 B2 u1 u2 q d) := by
  intro k W W' row h hg hr
  obtain ⟨a, c, h1, h2⟩ := h.row
  have ne : ∀ {B : Nat} {t : TypeId} {v : Value}, Boxed W B t v → some B ≠ row := fun {B t v} hb e => by
    obtain ⟨_, o, ho, hc⟩ := hr B e.symm
    rw [show W.heap[B]? = _ from hb] at ho; cases ho; cases hc
  refine ⟨⟨a, c, h1.kept hg (ne h1), owns_grown h2 hg ?_⟩, h.below.grown hg h.below.size (fun r e => by have := (hr r e).1; omega), h.b1.kept hg (ne h.b1), h.b2.kept hg (ne h.b2)⟩
  by_cases hv : (Value.slice a k c).ownBlock = none
  · exact Or.inl hv
  · refine Or.inr fun e => ?_
    obtain ⟨g, hgq⟩ := Option.ne_none_iff_exists'.1 hv
    obtain ⟨cs, hcs⟩ := own_blk h2 hgq
    obtain ⟨_, o, ho, hc⟩ := hr g (by rw [← e]; exact hgq)
    rw [hcs] at ho; cases ho; cases hc
theorem TI.step {w W2 w1 : World} {V B1 B2 : Nat} {u1 u2 : Value} {q : Nat → Int} {d : Nat → Eight} {k : Nat} {a : Option Addr} {c : Nat} {v' : Value} {tmp : Obj} {R : Nat → Prop} {x : Int} {e : Eight} (h2 : TI w V B1 B2 u1 u2 q d k W2) (hV : w.heap.size ≤ V) (n1 : B1 ≠ V) (n2 : B2 ≠ V) (hR : ∀ i, R i → i = B1 ∨ i = B2 ∨ i < w.heap.size)
    (hv : Boxed W2 V 88 (.slice a k c)) (hrow : OwnsCl W2 w.heap.size (.slice a k c) k q d) (hs : clRow q d (k + 1) = clRow q d k ++ cl9 x e)
    (ho : w1.ownsRow w.heap.size 160 9 v' (k + 1) (clRow q d k ++ cl9 x e)) (hg : (W2.alloc tmp).grownBy w1 (Value.slice a k c).ownBlock) (hsl : ∃ a' c', v' = .slice a' (k + 1) c') (n : Nat) :
    (Boxed w1 V 88 (.slice a k c)) ∧ LetsW R n W2 (w1.setCell ⟨V, 0, none⟩ v') ∧ TI w V B1 B2 u1 u2 q d (k + 1) (w1.setCell ⟨V, 0, none⟩ v') := by
  obtain ⟨q1, q2, q3, q4, q5⟩ := hv.appended (n₀ := w.heap.size) (by decide) hrow h2.below.size hV ho hg
  obtain ⟨a', c', rfl⟩ := hsl
  have k1 : Boxed w1 B1 88 u1 := (h2.b1.alloc tmp).kept hg (h2.b1.not_row (by decide) hrow)
  have k2 : Boxed w1 B2 88 u2 := (h2.b2.alloc tmp).kept hg (h2.b2.not_row (by decide) hrow)
  have k1' : Boxed (w1.setCell ⟨V, 0, none⟩ (.slice a' (k + 1) c')) B1 88 u1 := k1.kept (grownBy_setCell' w1 V _) (by simp; exact n1)
  have k2' : Boxed (w1.setCell ⟨V, 0, none⟩ (.slice a' (k + 1) c')) B2 88 u2 := k2.kept (grownBy_setCell' w1 V _) (by simp; exact n2)
  refine ⟨q1, ⟨q5.size, fun i _ hr => ?_, fun i o _ ho hc => q4.same i o ho hc⟩, ⟨⟨a', c', q2, by rw [OwnsCl, hs]; exact q3⟩, h2.below.trans q5, k1', k2'⟩⟩
  rcases hR i hr with rfl | rfl | hl
  · exact (show _ = _ from k1').trans (show _ = _ from h2.b1).symm
  · exact (show _ = _ from k2').trans (show _ = _ from h2.b2).symm
  · exact q5.block i hl
theorem cl_owned {w : World} {base g n c : Nat} {q : Nat → Int} {d : Nat → Eight} (h : OwnsCl w base (.slice (some ⟨g, 0, none⟩) n c) n q d) : Cl w g n q d :=
  ⟨fun k hk => by rw [h.cellAt _ (by omega), clRow_get (by omega), clCell_kind], fun k hk j hj => by rw [h.cellAt _ (by omega), clRow_get (by omega), clCell_byte q d k hj], (h.lt g rfl).2⟩
abbrev set9 (W : World) (b : Nat) (v0 v1 v2 v3 v4 v5 v6 v7 v8 : Value) : World := (set8 W b v0 v1 v2 v3 v4 v5 v6 v7).setCell ⟨b, 8, none⟩ v8
theorem set9_grown (W : World) (b : Nat) (v0 v1 v2 v3 v4 v5 v6 v7 v8 : Value) : W.grownBy (set9 W b v0 v1 v2 v3 v4 v5 v6 v7 v8) (some b) := grown_trans (set8_grown W b v0 v1 v2 v3 v4 v5 v6 v7) (grown_set _ b 8 v8)
theorem set9_size (W : World) (b : Nat) (v0 v1 v2 v3 v4 v5 v6 v7 v8 : Value) : (set9 W b v0 v1 v2 v3 v4 v5 v6 v7 v8).heap.size = W.heap.size := by simp [set9, set8]
theorem row_new {W : World} {L : List Value} {t : TypeId} {b : Nat} (hb : b = W.heap.size) : ∀ (j : Nat) (u : Value), L[j]? = some u → (W.alloc (.cells L.toArray t)).cell? ((⟨b, 0, none⟩ : Addr).add j) = some u := by
  subst hb; exact row_src (blk_new W _)

set_option maxRecDepth 100000 in
set_option maxHeartbeats 4000000 in
theorem otake_calls (bk : ByteArray) (t : Int) (I g k ga m ca : Nat) (q : Nat → Int) (d : Nat → Eight) (qa : Nat → Int) (da : Nat → Eight) (w : World) (hI : w.heap[I]? = some (.cells #[.string bk, .slice (some ⟨g, 0, none⟩) k k, .int .i64 t] 90 (0, 0))) (hg : w.heap[g]? = some (.cells (clRow q d k).toArray 160 (0, 0))) (hc : Cl w ga m qa da) (hgI : ga ≠ I) (hk : k ≤ 30) (hm : m ≤ 30) (hn1 : 1 ≤ k) :
    Calls Tryz.prog 51 #[.pointer (some ⟨I, 0, none⟩), .slice (some ⟨ga, 0, none⟩) m ca] w fun e w' => (∃ u, e = .returned u) ∧ ∃ a c, w'.heap[I]? = some (.cells #[.string bk, .slice a (max k m) c, .int .i64 t] 90 (0, 0)) ∧ OwnsCl w' 0 (.slice a (max k m) c) (max k m) (takQ m qa (growQ bk k q)) (takD m qa da (growD k d)) ∧ OFr w w' I none ∧ ∀ i, (Value.slice a (max k m) c).ownBlock = some i → w.heap.size ≤ i := by
  obtain ⟨i0, hi, hz0, hz1, hz2⟩ := info_parts Tryz.infoClus
  have HGR := hide (ogrow_calls bk t I g k m q d w hI hg hk hm)
  have HC := hide hc
  have hIl := blk_lt hI
  clear hI hg hc
  refine (callsIn_wide (n := 6)).1 ?_
  have hro : Fence.wide.round = none := rfl
  refine callsIn_of_wp_marks Tryz.func51 rfl trivial ?_ hro
  simp only [Tryz.ntmps51, List.size_toArray, List.length_cons, List.length_nil, Nat.reduceAdd, Nat.reduceSub, Array.replicate_succ, Array.replicate_zero, List.push_toArray, List.append_toArray, List.nil_append, List.cons_append]
  have hfA : Fence.wide.fn 91 := trivial
  have hfB : Fence.wide.fn 143 := trivial
  have hfG : Fence.wide.fn 90 := trivial
  gi_wp2_with (first
    | (gi_at_call 91; refine (oalongC_in _ _ _ _ _ _ _ _).mono ?_; rintro e w' ⟨rfl, rfl⟩)
    | (gi_at_call 90; refine ((callsIn_wide (n := _)).2 (unhide HGR)).mono ?_; rintro e w1 ⟨⟨u1, rfl⟩, g2, c2, hG⟩; have j1 : ∀ o, (w1.alloc o).cell? ⟨I, 1, none⟩ = some (.slice (some ⟨g2, 0, none⟩) (max k m) c2) := (fun o => blk_cell (blk_alloc hG.img o) rfl); have HG := hide hG; clear hG))
  have hG := unhide HG
  have hgl : g2 < w1.heap.size := (hG.row.lt g2 rfl).2
  have HCA : Hid (Cl w1 ga m qa da) := (unhide HC).same (hG.fr.block ga (unhide HC).lt hgI (by simp)) hG.fr.size
  have HCB : Hid (Cl w1 g2 (max k m) (growQ bk k q) (growD k d)) := cl_owned hG.row
  have hal : ga < w1.heap.size := (unhide HCA).lt
  have hK30 : max k m ≤ 30 := by omega
  have hK1 : 1 ≤ max k m := by omega
  clear hG
  have hB0 : Below w1.heap.size w1 (((w1.alloc (.cells #[.slice none 0 0] 88)).alloc (.cells #[.slice (some ⟨g2, 0, none⟩) (max k m) c2] 88)).alloc (.cells #[.slice (some ⟨ga, 0, none⟩) m ca] 88)) := (below_alloc1 w1 _).trans ((below_alloc2 _ _ _).mono (by simp))
  have bV : Boxed (((w1.alloc (.cells #[.slice none 0 0] 88)).alloc (.cells #[.slice (some ⟨g2, 0, none⟩) (max k m) c2] 88)).alloc (.cells #[.slice (some ⟨ga, 0, none⟩) m ca] 88)) w1.heap.size 88 (.slice none 0 0) := ((Boxed.new w1 88 (.slice none 0 0)).alloc _).alloc _
  have b1 : Boxed (((w1.alloc (.cells #[.slice none 0 0] 88)).alloc (.cells #[.slice (some ⟨g2, 0, none⟩) (max k m) c2] 88)).alloc (.cells #[.slice (some ⟨ga, 0, none⟩) m ca] 88)) (w1.heap.size + 1) 88 (.slice (some ⟨g2, 0, none⟩) (max k m) c2) := by
    have := Boxed.new (w1.alloc (.cells #[.slice none 0 0] 88)) 88 (.slice (some ⟨g2, 0, none⟩) (max k m) c2)
    rw [World.size_alloc] at this
    exact this.alloc _
  have b2 : Boxed (((w1.alloc (.cells #[.slice none 0 0] 88)).alloc (.cells #[.slice (some ⟨g2, 0, none⟩) (max k m) c2] 88)).alloc (.cells #[.slice (some ⟨ga, 0, none⟩) m ca] 88)) (w1.heap.size + 1 + 1) 88 (.slice (some ⟨ga, 0, none⟩) m ca) := by
    have := Boxed.new ((w1.alloc (.cells #[.slice none 0 0] 88)).alloc (.cells #[.slice (some ⟨g2, 0, none⟩) (max k m) c2] 88)) 88 (.slice (some ⟨ga, 0, none⟩) m ca)
    rw [World.size_alloc, World.size_alloc] at this
    exact this
  obtain ⟨w4, hw4⟩ : ∃ w4, w4 = ((w1.alloc (.cells #[.slice none 0 0] 88)).alloc (.cells #[.slice (some ⟨g2, 0, none⟩) (max k m) c2] 88)).alloc (.cells #[.slice (some ⟨ga, 0, none⟩) m ca] 88) := ⟨_, rfl⟩
  have hsz4 : w4.heap.size = w1.heap.size + 1 + 1 + 1 := by rw [hw4]; simp
  rw [← hw4] at hB0 bV b1 b2
  rw [← hw4]
  clear hw4 j1
  have HR : Hid (∀ i, (fun i => i = w1.heap.size + 1 ∨ i = w1.heap.size + 1 + 1 ∨ i = g2 ∨ i = ga) i → i = w1.heap.size + 1 ∨ i = w1.heap.size + 1 + 1 ∨ i < w1.heap.size) := fun i hi => by
    rcases hi with e | e | e | e
    · exact Or.inl e
    · exact Or.inr (Or.inl e)
    · exact Or.inr (Or.inr (by omega))
    · exact Or.inr (Or.inr (by omega))
  have hgv := oalongC1_gives 5 (by decide) (w1.heap.size + 1) (w1.heap.size + 1 + 1) g2 (max k m) c2 m ga ca (growQ bk k q) (growD k d) qa da w4 hK30 (fun i => i = w1.heap.size + 1 ∨ i = w1.heap.size + 1 + 1 ∨ i = g2 ∨ i = ga) (Or.inl rfl) (Or.inr (Or.inl rfl)) (Or.inr (Or.inr (Or.inl rfl))) (Or.inr (Or.inr (Or.inr rfl))) b1.cell b2.cell ((unhide HCB).same (hB0.block g2 hgl) hB0.size) ((unhide HCA).same (hB0.block ga hal) hB0.size)
  refine wp_givesW hro (by decide) (gf := 143) (lb := #[.pointer (some ⟨w1.heap.size + 1, 0, none⟩), .pointer (some ⟨w1.heap.size + 1 + 1, 0, none⟩)]) rfl hfB (enters_of Tryz.func143 (by kernel_rfl) rfl)
    hgv (Below.refl _ _) (fun k hk => by rcases unhide HR k hk with e | e | e <;> omega) (fun _ => rfl)
    (TI w1 w1.heap.size (w1.heap.size + 1) (w1.heap.size + 1 + 1) (.slice (some ⟨g2, 0, none⟩) (max k m) c2) (.slice (some ⟨ga, 0, none⟩) m ca) (takQ m qa (growQ bk k q)) (takD m qa da (growD k d))) (TI.own _ _ _ _ _ _ _ _ _ (by omega)) ⟨⟨none, 0, bV, World.ownsRow_nil _ _ _ _⟩, hB0, b1, b2⟩
    (fun k1 W => { tmps := #[.pointer (some ⟨I, 0, none⟩), .slice (some ⟨ga, 0, none⟩) m ca, undef, undef, .pointer (some ⟨w1.heap.size, 0, none⟩), .pointer (some ⟨W.heap.size, 0, none⟩), .pointer (some ⟨W.heap.size + 1, 0, none⟩), .pointer (some ⟨I, 0, none⟩), .slice (some ⟨ga, 0, none⟩) m ca, .int .i64 (m : Nat), u1, .pointer (some ⟨I, 0, none⟩), .pointer (some ⟨I, 0, none⟩), .pointer (some ⟨I, 1, none⟩), .slice (some ⟨g2, 0, none⟩) (max k m) c2, .slice (some ⟨ga, 0, none⟩) m ca, .func (.func 143) #[] #[.pointer (some ⟨w1.heap.size + 1, 0, none⟩), .pointer (some ⟨w1.heap.size + 1 + 1, 0, none⟩)], clVal (growQ bk k q k1) (growD k d k1), clVal (cAtQ m qa k1) (cAtD m da k1), undef, undef, undef, undef, undef, undef, undef, undef, undef, undef, undef, undef], defers := [] })
    (fun k1 W => (W.alloc (.cells #[.int .i64 (growQ bk k q k1), .int .u8 (growD k d k1 0 : Nat), .int .u8 (growD k d k1 1 : Nat), .int .u8 (growD k d k1 2 : Nat), .int .u8 (growD k d k1 3 : Nat), .int .u8 (growD k d k1 4 : Nat), .int .u8 (growD k d k1 5 : Nat), .int .u8 (growD k d k1 6 : Nat), .int .u8 (growD k d k1 7 : Nat)] 160)).alloc (.cells #[.int .i64 (cAtQ m qa k1), .int .u8 (cAtD m da k1 0 : Nat), .int .u8 (cAtD m da k1 1 : Nat), .int .u8 (cAtD m da k1 2 : Nat), .int .u8 (cAtD m da k1 3 : Nat), .int .u8 (cAtD m da k1 4 : Nat), .int .u8 (cAtD m da k1 5 : Nat), .int .u8 (cAtD m da k1 6 : Nat), .int .u8 (cAtD m da k1 7 : Nat)] 160))
    (fun k1 W => below_alloc2 W _ _) ?assign ?body ?done
  case assign =>
    intro y k1 W K hK
    unfold pairC
    unfold clVal at hK ⊢
    gi_wp2
    exact hK
  case body =>
    intro l k1 x W o o' hl ho hoc hx hI
    have hkm : k1 < max k m ∧ x = k1 := by
      obtain ⟨h1, h2⟩ := List.getElem?_eq_some_iff.1 hx
      rw [List.getElem_range] at h2
      rw [List.length_range] at h1
      exact ⟨h1, h2.symm⟩
    obtain ⟨hkm, rfl⟩ := hkm
    have hll : l < W.heap.size := blk_lt ho
    have hWz := hI.below.size
    have hW4 : w1.heap.size + 1 + 1 < W.heap.size := hI.b2.lt
    have ne0 : W.heap.size ≠ l := by omega
    have ne1 : W.heap.size + 1 ≠ l := by omega
    obtain ⟨C, hCd⟩ : ∃ C : Obj, C = .cells #[.int .i64 (growQ bk k q x), .int .u8 (growD k d x 0 : Nat), .int .u8 (growD k d x 1 : Nat), .int .u8 (growD k d x 2 : Nat), .int .u8 (growD k d x 3 : Nat), .int .u8 (growD k d x 4 : Nat), .int .u8 (growD k d x 5 : Nat), .int .u8 (growD k d x 6 : Nat), .int .u8 (growD k d x 7 : Nat)] 160 (0, 0) := ⟨_, rfl⟩
    obtain ⟨S, hSd⟩ : ∃ S : Obj, S = .cells #[.int .i64 (cAtQ m qa x), .int .u8 (cAtD m da x 0 : Nat), .int .u8 (cAtD m da x 1 : Nat), .int .u8 (cAtD m da x 2 : Nat), .int .u8 (cAtD m da x 3 : Nat), .int .u8 (cAtD m da x 4 : Nat), .int .u8 (cAtD m da x 5 : Nat), .int .u8 (cAtD m da x 6 : Nat), .int .u8 (cAtD m da x 7 : Nat)] 160 (0, 0) := ⟨_, rfl⟩
    rw [← hCd, ← hSd]
    have hcC : (((W.alloc C).alloc S).putObj l o).heap[W.heap.size]? = some C := (World.putObj_heap_other ne0).trans (blk_alloc (blk_new W C) S)
    have hcS : (((W.alloc C).alloc S).putObj l o).heap[W.heap.size + 1]? = some S := (World.putObj_heap_other ne1).trans (by have := blk_new (W.alloc C) S; rwa [World.size_alloc] at this)
    have hgr : W.grownBy (((W.alloc C).alloc S).putObj l o) (some l) := ⟨rfl, rfl, rfl, by simp; omega, fun i hi hne => (World.putObj_heap_other (fun e => hne (by rw [e]))).trans ((below_alloc2 W C S).block i hi)⟩
    obtain ⟨W1, hW1⟩ : ∃ W1, W1 = ((W.alloc C).alloc S).putObj l o := ⟨_, rfl⟩
    have hs1 : W1.heap.size = W.heap.size + 1 + 1 := by rw [hW1]; simp
    rw [← hW1] at hcC hcS hgr
    rw [← hW1]
    clear hW1
    have hVI : ∀ W2, W.grownBy W2 (some l) → TI w1 w1.heap.size (w1.heap.size + 1) (w1.heap.size + 1 + 1) (.slice (some ⟨g2, 0, none⟩) (max k m) c2) (.slice (some ⟨ga, 0, none⟩) m ca) (takQ m qa (growQ bk k q)) (takD m qa da (growD k d)) x W2 := fun W2 h => TI.own w1 _ _ _ _ _ _ _ w4.heap.size (by omega) x W W2 (some l) hI h (fun r e => by cases e; exact ⟨by omega, o', ho, hoc⟩)
    have hR8 : ∀ i, (fun i => i = w1.heap.size + 1 ∨ i = w1.heap.size + 1 + 1 ∨ i = g2 ∨ i = ga) i → i < W.heap.size := fun i hi => by rcases unhide HR i hi with e | e | e <;> omega
    have HR8 := hide hR8
    have HVI := hide hVI
    have HGR2 := hide hgr
    have HCC : Hid (W1.heap[W.heap.size]? = some C) := hcC
    have HCS : Hid (W1.heap[W.heap.size + 1]? = some S) := hcS
    clear hR8 hVI hgr hI hx ho hgv bV b1 b2 hB0
    rw [hCd] at HCC
    rw [hSd] at HCS
    clear hCd hSd hcC hcS
    obtain ⟨uq, huq⟩ : ∃ e, cAtQ m qa x = e := ⟨_, rfl⟩
    obtain ⟨ud, hud⟩ : ∃ e, cAtD m da x = e := ⟨_, rfl⟩
    obtain ⟨oq, hoq⟩ : ∃ e, growQ bk k q x = e := ⟨_, rfl⟩
    obtain ⟨od, hod⟩ : ∃ e, growD k d x = e := ⟨_, rfl⟩
    rw [huq, hud] at HCS
    rw [hoq, hod] at HCC
    have HUQ := hide huq
    have HUD := hide hud
    have HOQ := hide hoq
    have HOD := hide hod
    have HCQ : Hid (clVal (growQ bk k q x) (growD k d x) = clVal oq od) := by rw [hoq, hod]; exact rfl
    have HCU : Hid (clVal (cAtQ m qa x) (cAtD m da x) = clVal uq ud) := by rw [huq, hud]; exact rfl
    clear huq hud hoq hod
    rw [unhide HCQ, unhide HCU]
    have f0 := blk_cell (i := 0) (unhide HCC) rfl
    have f1 := blk_cell (i := 1) (unhide HCC) rfl
    have f2 := blk_cell (i := 2) (unhide HCC) rfl
    have f3 := blk_cell (i := 3) (unhide HCC) rfl
    have f4 := blk_cell (i := 4) (unhide HCC) rfl
    have f5 := blk_cell (i := 5) (unhide HCC) rfl
    have f6 := blk_cell (i := 6) (unhide HCC) rfl
    have f7 := blk_cell (i := 7) (unhide HCC) rfl
    have f8 := blk_cell (i := 8) (unhide HCC) rfl
    have p0 := blk_cell (i := 0) (unhide HCS) rfl
    have p1 := blk_cell (i := 1) (unhide HCS) rfl
    have p2 := blk_cell (i := 2) (unhide HCS) rfl
    have p3 := blk_cell (i := 3) (unhide HCS) rfl
    have p4 := blk_cell (i := 4) (unhide HCS) rfl
    have p5 := blk_cell (i := 5) (unhide HCS) rfl
    have p6 := blk_cell (i := 6) (unhide HCS) rfl
    have p7 := blk_cell (i := 7) (unhide HCS) rfl
    have p8 := blk_cell (i := 8) (unhide HCS) rfl
    have pf := blk_frozen (unhide HCC)
    by_cases hq : uq = 0
    · have hv2 := unhide HVI W1 (unhide HGR2)
      obtain ⟨a, c, hv, hrow⟩ := hv2.row
      have HSC : Hid (clRow (takQ m qa (growQ bk k q)) (takD m qa da (growD k d)) (x + 1) = clRow (takQ m qa (growQ bk k q)) (takD m qa da (growD k d)) x ++ cl9 oq od) := by rw [clRow_snoc, show takQ m qa (growQ bk k q) x = oq from by unfold takQ; rw [unhide HUQ, if_neg (fun h => h hq)]; exact unhide HOQ, show takD m qa da (growD k d) x = od from by unfold takD; rw [unhide HUQ, if_neg (fun h => h hq)]; exact unhide HOD]; exact rfl
      have HV2 := hide hv2
      have HVB := hide hv
      have HROW := hide hrow
      have hcv := hv.cell
      have hws := hv2.below.size
      have HSR : Hid (∀ (j : Nat) (u : Value), (cl9 oq od)[j]? = some u → (W1.alloc (.cells (cl9 oq od).toArray 160)).cell? ((⟨W.heap.size + 1 + 1, 0, none⟩ : Addr).add j) = some u) := row_new (by omega)
      subst hq
      clear hv2 hv hrow
      gi_wp2_with (gi_at_builtin; refine wpListIn_append_own _ rfl _ _ 88 rfl w1.heap.size 160 i0 _ 9 16 Tryz.underlying88 hi hz0 hz1 hz2 rfl (by decide) (.slice a x c) x _ rfl (by exact (unhide HROW).alloc _) ⟨W.heap.size + 1 + 1, 0, none⟩ 1 1 (cl9 oq od) rfl rfl (unhide HSR) (cl9_one _ _) (by unfold maxLen; omega) (by omega) (by simp; omega) ?_; intro v' w5 hown' hgrow _; obtain ⟨g', cap', rfl⟩ := ownsRow_succ hown'; obtain ⟨hv1, hl1, hi1⟩ := TI.step (n := w4.heap.size) (R := (fun i => i = w1.heap.size + 1 ∨ i = w1.heap.size + 1 + 1 ∨ i = g2 ∨ i = ga)) (unhide HV2) (Nat.le_refl _) (by omega) (by omega) (unhide HR) (unhide HVB) (unhide HROW) (unhide HSC) hown' hgrow ⟨_, _, rfl⟩; have hc1 := hv1.cell; have hf1 := hv1.frozen; have HL1 := hide hl1; have HI1 := hide hi1; clear hv1 hl1 hi1 hown' hgrow)
      exact ⟨(unhide HL1).weak (by omega), unhide HI1⟩
    · have hqn : (uq != 0) = true := by rw [bne_iff_ne]; exact hq
      obtain ⟨W2, hW2⟩ : ∃ W2, W2 = set9 W1 W.heap.size (.int .i64 uq) (.int .u8 (ud 0 : Nat)) (.int .u8 (ud 1 : Nat)) (.int .u8 (ud 2 : Nat)) (.int .u8 (ud 3 : Nat)) (.int .u8 (ud 4 : Nat)) (.int .u8 (ud 5 : Nat)) (.int .u8 (ud 6 : Nat)) (.int .u8 (ud 7 : Nat)) := ⟨_, rfl⟩
      have hg2 : W1.grownBy W2 (some W.heap.size) := by rw [hW2]; exact set9_grown _ _ _ _ _ _ _ _ _ _ _
      have hs2 : W2.heap.size = W.heap.size + 1 + 1 := by rw [hW2, set9_size]; exact hs1
      have hv2 := unhide HVI W2 (grown_new (unhide HGR2) hg2 (Nat.le_refl _))
      obtain ⟨a, c, hv, hrow⟩ := hv2.row
      have HSC : Hid (clRow (takQ m qa (growQ bk k q)) (takD m qa da (growD k d)) (x + 1) = clRow (takQ m qa (growQ bk k q)) (takD m qa da (growD k d)) x ++ cl9 uq ud) := by rw [clRow_snoc, show takQ m qa (growQ bk k q) x = uq from by unfold takQ; rw [unhide HUQ, if_pos hq], show takD m qa da (growD k d) x = ud from by unfold takD; rw [unhide HUQ, if_pos hq]; exact unhide HUD]; exact rfl
      have HLW : Hid (LetsW (fun i => i = w1.heap.size + 1 ∨ i = w1.heap.size + 1 + 1 ∨ i = g2 ∨ i = ga) w4.heap.size W1 W2) := LetsW.of_grown hg2 (fun h => by have := unhide HR8 _ h; omega) ⟨_, _, unhide HCC⟩
      have HSR : Hid (∀ (j : Nat) (u : Value), (cl9 uq ud)[j]? = some u → (W2.alloc (.cells (cl9 uq ud).toArray 160)).cell? ((⟨W.heap.size + 1 + 1, 0, none⟩ : Addr).add j) = some u) := row_new (by omega)
      have hws := hv2.below.size
      have HV2 := hide hv2
      have HVB := hide hv
      have HROW := hide hrow
      have hcv := hv.cell
      clear hv2 hv hrow hg2 hq
      subst hW2
      gi_wp2_with (gi_at_builtin; refine wpListIn_append_own _ rfl _ _ 88 rfl w1.heap.size 160 i0 _ 9 16 Tryz.underlying88 hi hz0 hz1 hz2 rfl (by decide) (.slice a x c) x _ rfl (by exact (unhide HROW).alloc _) ⟨W.heap.size + 1 + 1, 0, none⟩ 1 1 (cl9 uq ud) rfl rfl (unhide HSR) (cl9_one _ _) (by unfold maxLen; omega) (by omega) (by simp; omega) ?_; intro v' w5 hown' hgrow _; obtain ⟨g', cap', rfl⟩ := ownsRow_succ hown'; obtain ⟨hv1, hl1, hi1⟩ := TI.step (n := w4.heap.size) (R := (fun i => i = w1.heap.size + 1 ∨ i = w1.heap.size + 1 + 1 ∨ i = g2 ∨ i = ga)) (unhide HV2) (Nat.le_refl _) (by omega) (by omega) (unhide HR) (unhide HVB) (unhide HROW) (unhide HSC) hown' hgrow ⟨_, _, rfl⟩; have hc1 := hv1.cell; have hf1 := hv1.frozen; have HL1 := hide hl1; have HI1 := hide hi1; clear hv1 hl1 hi1 hown' hgrow)
      exact ⟨((unhide HLW).trans (unhide HL1)).weak (by omega), unhide HI1⟩
  case done =>
    intro D W hD hI hK
    rw [List.length_range] at hI
    obtain ⟨⟨a, c, hv, hrow⟩, hB, _, _⟩ := hI
    have hc := hv.cell
    have hi1 : W.heap[I]? = some (.cells #[.string bk, .slice (some ⟨g2, 0, none⟩) (max k m) c2, .int .i64 t] 90 (0, 0)) := (hB.block I (blk_lt (unhide HG).img)).trans (unhide HG).img
    have c1 := blk_cell (i := 1) hi1 rfl
    have f1 := blk_frozen hi1 1
    have HRW := hide hrow
    have HBW := hide hB
    have HI1 := hide hi1
    clear hrow hB hi1
    gi_wp2
    have hlI : I < w1.heap.size := blk_lt (unhide HG).img
    have hne : some I ≠ (Value.slice a (max k m) c).ownBlock := owns_ne (unhide HRW) hlI
    have hK3 : (W.setCell ⟨I, 1, none⟩ (.slice a (max k m) c)).heap[D]? = some _ := (Below.heap_setCell _ _ _ _ (show D ≠ I by omega)).trans hK
    have hi3 : (W.setCell ⟨I, 1, none⟩ (.slice a (max k m) c)).heap[I]? = some (.cells #[.string bk, .slice a (max k m) c, .int .i64 t] 90 (0, 0)) := by
      have := blk_set_same (i := 1) (unhide HI1) (.slice a (max k m) c)
      simpa using this
    have ho3 : OwnsCl (W.setCell ⟨I, 1, none⟩ (.slice a (max k m) c)) w1.heap.size (.slice a (max k m) c) (max k m) (takQ m qa (growQ bk k q)) (takD m qa da (growD k d)) := owns_set (unhide HRW) (a := ⟨I, 1, none⟩) hne _
    have hw1s := (unhide HG).fr.size
    refine ⟨by simp, .inl ⟨_, _, rfl, run_takeDeferred hK3, ?_⟩⟩
    refine ⟨_, results_none rfl _ _ _, ⟨_, rfl⟩, a, c, (World.putObj_heap_other (show I ≠ D by omega)).trans hi3, ownsRow_le (ownsRow_putObj ho3 _ hK3 rfl) (Nat.zero_le _), ?_, fun i hi => ?_⟩
    · have f1 : OFr w (W.setCell ⟨I, 1, none⟩ (.slice a (max k m) c)) I none := ((unhide HG).fr.trans (OFr.of_below (unhide HBW) _ _)).trans (OFr.set_blk W I 1 _ _)
      exact ⟨f1.os, f1.tape, f1.output, by simpa using f1.size, fun i hi q1 q2 => (World.putObj_heap_other (show i ≠ D by omega)).trans (f1.block i hi q1 q2)⟩
    · have := ((unhide HRW).lt i hi).1
      omega

end Go.Proofs.YtomiepknmmpflaaGreatDoor

namespace Go.Proofs.YtomiepknmmpflaaGreatDoor
open Go.RowKit Go.Joins

theorem chn_unique {l : Ov.Files} : ∀ {ns ms : List ByteArray} {x : ByteArray}, Ov.Chn l ns x → Ov.Chn l ms x → ns = ms
  | [], _, _, h, _ => h.elim
  | _ :: _, [], _, _, k => k.elim
  | y :: ns, z :: ms, x, ⟨h1, _, _, h4⟩, ⟨k1, _, _, k4⟩ => by
    subst h1; subst k1
    rcases h4 with ⟨h5, h6⟩ | ⟨h5, h6⟩
    · rcases k4 with ⟨_, k6⟩ | ⟨k5, _⟩
      · rw [h6, k6]
      · exact absurd h5 k5
    · rcases k4 with ⟨k5, _⟩ | ⟨_, k6⟩
      · exact absurd k5 h5
      · rw [chn_unique h6 k6]
theorem chn_ne {l : Ov.Files} {x bk : ByteArray} {ms : List ByteArray} (h : Ov.Chn l (x :: ms) x) (hb : Ov.Chn l ms bk) : x ≠ bk := fun e => by
  subst e
  have := chn_unique h hb
  have := congrArg List.length this
  simp at this
theorem opened_below {l : Ov.Files} {x bk : ByteArray} {L : Ims} {cb : Nat} {r : Option Nat} {w : World} (hs : Ov.soundF l x = 0) (hch : Ch w cb r l L) (hns : L.map Prod.fst = (Ov.downOf l x).1) (hb : Ov.backing (fOf l x) = bk) (hk : bk.size ≠ 0) :
    1 < L.length ∧ Ov.place (fl L) bk = 1 ∧ x ≠ bk ∧ Ov.place l bk < l.length ∧ ∃ gq, cb ≤ gq ∧ Ov.isImage (fOf l bk) ∧ imAt L 1 = imOf (fOf l bk) gq ∧ w.heap[gq]? = some (.cells (rowTo (fOf l bk) (Ov.many (fOf l bk))).toArray 160 (0, 0)) := by
  obtain ⟨hp, hc⟩ := sound_here hs
  obtain ⟨ms, hms, hcb⟩ := chn_below hc rfl hb hk
  obtain ⟨rest, hr⟩ := chn_head hcb
  rw [hms] at hc
  have hne := chn_ne hc hcb
  have hnl : L.map Prod.fst = x :: bk :: rest := by rw [hns, hms, hr]
  have hlen : 1 < L.length := by
    have := congrArg List.length hnl
    simp at this; omega
  obtain ⟨y, gq, hy, hcg, him, hmp, hgp⟩ := lies_at hch.2 hnl (p := 1) hlen
  have hyb : y = bk := by rw [← hy]; rfl
  subst hyb
  have hna : ∀ j, Ov.nameAt (fl L) j = ((fl L).map Prod.fst).getD j ⟨#[]⟩ := fun j => by
    unfold Ov.nameAt
    rw [List.getD_eq_getElem?_getD, List.getD_eq_getElem?_getD, List.getElem?_map]
    cases (fl L)[j]? <;> rfl
  refine ⟨hlen, Ov.place_eq (fun j hj => ?_) (by rw [fl_length]; omega) ?_, hne, hcb.here, gq, hcg, him, hmp, hgp⟩
  · obtain rfl : j = 0 := by omega
    rw [hna, fl_fst, hnl]; exact hne
  · rw [hna, fl_fst, hnl]; rfl
theorem place_names : ∀ {l m : Ov.Files} {x : ByteArray}, l.map Prod.fst = m.map Prod.fst → Ov.place l x = Ov.place m x
  | [], [], _, _ => rfl
  | [], _ :: _, _, h => by simp at h
  | _ :: _, [], _, h => by simp at h
  | f :: l, g :: m, x, h => by
    simp only [List.map_cons, List.cons.injEq] at h
    rw [Ov.place, Ov.place, h.1, place_names h.2]
theorem withF_here {l : Ov.Files} {x e : ByteArray} (h : Ov.place l x < l.length) : Ov.withF l x e = l.set (Ov.place l x) (x, e) := by unfold Ov.withF; rw [if_pos h]
theorem place_withF {l : Ov.Files} {x y e : ByteArray} (h : Ov.place l x < l.length) : Ov.place (Ov.withF l x e) y = Ov.place l y := place_names (by rw [Ov.withF_fst, if_pos h])
theorem withF_comm {l : Ov.Files} {x y e f : ByteArray} (hx : Ov.place l x < l.length) (hy : Ov.place l y < l.length) (hne : x ≠ y) : Ov.withF (Ov.withF l x e) y f = Ov.withF (Ov.withF l y f) x e := by
  have hpn : Ov.place l x ≠ Ov.place l y := fun q => hne (by rw [← Ov.place_name hx, ← Ov.place_name hy, q])
  rw [withF_here (place_with hy), withF_here (place_with hx), place_withF hx, place_withF hy, withF_here hx, withF_here hy]
  exact List.set_comm _ _ hpn

theorem kindP_zero {s : ByteArray} {i : Nat} : kOld s i = 0 ↔ qOf s i = 0 := by
  rw [← kindP_old]
  rcases kOld_known s i with h | h | h <;> rw [h] <;> decide
theorem says_commit {s t : ByteArray} {m k : Nat} (hs : Ov.isImage s) (ht : Ov.isImage t) (hm : Ov.many s = m) (hk : Ov.many t = k) :
    Says (max k m) (takQ m (qOf s) (growQ (Ov.backing t) k (qOf t))) (takD m (qOf s) (dOf s) (growD k (dOf t))) (comKs s t m) (comBs s t m) := by
  subst hm; subst hk
  have hc : ∀ i, (i < Ov.many s ∧ kOld s i ≠ 0) ↔ cAtQ (Ov.many s) (qOf s) i ≠ 0 := fun i => by
    unfold cAtQ
    by_cases h : i < Ov.many s
    · rw [if_pos h]; exact ⟨fun q e => q.2 (kindP_zero.2 e), fun q => ⟨h, fun e => q (kindP_zero.1 e)⟩⟩
    · rw [if_neg h]; exact ⟨fun q => absurd q.1 h, fun q => absurd rfl q⟩
  refine ⟨comKs_length, fun i hi => ?_, fun i hi => ?_, fun i hi h1 => ?_, fun i hi j hj => ?_⟩
  · rw [comKs_getD hi]
    unfold comK takQ
    by_cases h : i < Ov.many s ∧ kOld s i ≠ 0
    · rw [if_pos h, if_pos ((hc i).1 h), kindP_old]; unfold cAtQ; rw [if_pos h.1]
    · rw [if_neg h, if_neg (fun q => h ((hc i).2 q))]
      unfold growQ
      by_cases h2 : i < Ov.many t
      · rw [if_pos h2, if_pos h2, kindP_old]
      · rw [if_neg h2, if_neg h2]; unfold comEx discKind; split <;> rfl
  · rw [comKs_getD hi]
    unfold comK
    split
    · exact kOld_known s i
    · split
      · exact kOld_known t i
      · unfold comEx; split
        · exact Or.inl rfl
        · exact Or.inr (Or.inr rfl)
  · rw [comKs_getD hi] at h1
    rw [comBs_getD hi]
    unfold comK at h1
    unfold comB takD
    by_cases h : i < Ov.many s ∧ kOld s i ≠ 0
    · rw [if_pos h] at h1 ⊢
      rw [if_pos ((hc i).1 h)]; unfold cAtD; rw [if_pos h.1]
      exact old_data hs h.1 h1
    · rw [if_neg h] at h1 ⊢
      rw [if_neg (fun q => h ((hc i).2 q))]
      unfold growD
      by_cases h2 : i < Ov.many t
      · rw [if_pos h2] at h1 ⊢; rw [if_pos h2]; exact old_data ht h2 h1
      · rw [if_neg h2] at h1; exfalso; unfold comEx at h1; split at h1 <;> cases h1
  · unfold takD cAtD growD
    split
    · split
      · exact dOf_lt _ _ _
      · exact Nat.zero_lt_succ _
    · split
      · exact dOf_lt _ _ _
      · exact Nat.zero_lt_succ _

theorem below_ofr {n b : Nat} {w w1 w2 : World} (h : Below n w w1) (f : OFr w1 w2 b none) (hb : n ≤ b) (hn : n ≤ w1.heap.size) : Below n w w2 :=
  ⟨f.os.trans h.os, f.tape.trans h.tape, f.output.trans h.output, Nat.le_trans h.size f.size, fun k hk => (f.block k (by omega) (by omega) (by simp)).trans (h.block k hk)⟩

set_option maxRecDepth 100000 in
set_option maxHeartbeats 1000000 in
theorem oopenAll_calls (bk : ByteArray) (t : Int) (I n c : Nat) (a : Option Addr) (w : World) (hI : w.heap[I]? = some (.cells #[.string bk, .slice a n c, .int .i64 t] 90 (0, 0))) (hn : n ≤ 30) :
    Calls Tryz.prog 52 #[.pointer (some ⟨I, 0, none⟩)] w fun e w' => (∃ u, e = .returned u) ∧ (w.alloc (.cells (zClus n) 160)).setCell ⟨I, 1, none⟩ (.slice (some ⟨w.heap.size, 0, none⟩) n n) = w' := by
  have mk := make_clus n hn
  have c1 := blk_cell (i := 1) hI rfl
  have d1 := blk_cell (i := 1) (blk_alloc hI (.cells (zClus n) 160)) rfl
  have f1 := blk_frozen (blk_alloc hI (.cells (zClus n) 160)) 1
  clear hI
  go_enter Tryz.func52, Tryz.ntmps52
  go_wp2
  first | go_end0 | refine bodyPost_ret (results_none rfl _ _ _) rfl ?_
  exact ⟨⟨_, rfl⟩, rfl⟩
theorem two_rows (w : World) (x f y e : ByteArray) : OwnsRows (w.alloc (.cells #[.string x, .string f, .string y, .string e] 97)) 0 (.slice (some ⟨w.heap.size, 0, none⟩) [(x, f), (y, e)].length [(x, f), (y, e)].length) [(x, f), (y, e)] :=
  World.ownsRow_lit w #[.string x, .string f, .string y, .string e] 2 (Nat.zero_le _) (by unfold maxLen; omega) rfl
theorem okeep_two (l : Ov.Files) (v : Value) (x f y e : ByteArray) (b room : Nat) (w : World) (hi : Ov.LI room l) (hx : Ov.place l x < l.length) (hy : Ov.place l y < l.length) (hf : f.size ≤ 1000) (he : e.size ≤ 1000) (hblk : w.heap[b]? = some (.cells #[.int .i32 1, .int .u32 0, .int .i64 room, v] 77 (0, 0))) (hown : OwnsRows w 0 v l) :
    Calls Tryz.prog 53 #[.pointer (some ⟨b, 0, none⟩), .slice (some ⟨w.heap.size, 0, none⟩) 2 2] (w.alloc (.cells #[.string x, .string f, .string y, .string e] 97)) fun r w' => r = .returned (.int .i64 (Ov.putF room l (Ov.withF (Ov.withF l x f) y e)).1) ∧ ((Ov.putF room l (Ov.withF (Ov.withF l x f) y e)).2 = l ∧ Below w.heap.size w w' ∨ ∃ v', PutLeft w b 3 #[.int .i32 1, .int .u32 0, .int .i64 room, v] 77 v (Ov.putF room l (Ov.withF (Ov.withF l x f) y e)).2 v' w') := by
  have hy2 := place_with (x := x) (f := f) hy
  have hl : (Ov.withF (Ov.withF l x f) y e).length = l.length := by rw [Ov.withF_length, if_pos hy2, Ov.withF_length, if_pos hx]
  have hl8 := hi.len
  refine (okeep_in l [(x, f), (y, e)] v w.heap.size b room _ (by show (Ov.withF (Ov.withF l x f) y e).length ≤ 8; omega) (by simp) (blk_alloc hblk _) (hown.alloc _) (two_rows w x f y e) (fun q hq => by
    have h1 := hi.name_size hx
    have h2 := hi.name_size hy
    simp at hq
    rcases hq with rfl | rfl
    · exact Nat.le_trans h1 (by omega)
    · exact Nat.le_trans h2 (by omega))).mono ?_
  have ht : addLens (withAll l [(x, f), (y, e)]) = (Ov.total (Ov.withF (Ov.withF l x f) y e) : Int) := addLens_total (Ov.withF_size (Ov.withF_size hi.size hf) he) (by show (Ov.withF (Ov.withF l x f) y e).length ≤ 10; omega)
  rw [ht]
  unfold Ov.putF
  rintro r w' (⟨h1, h2, h3⟩ | ⟨h1, h2, v', h3⟩)
  · rw [if_pos (by omega)]; exact ⟨h2, Or.inl ⟨rfl, (below_alloc1 w _).trans (h3.mono (by simp))⟩⟩
  · rw [if_neg (by omega)]; exact ⟨h2, Or.inr ⟨v', h3.before⟩⟩

end Go.Proofs.YtomiepknmmpflaaGreatDoor

