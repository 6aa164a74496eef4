/- The law's steps: files. -/
import Derived.Test.YtomiepknmmpflaaGreatDoorCPLaw
import Derived.Test.YtomiepknmmpflaaGreatDoorCWRefA
import Derived.Test.YtomiepknmmpflaaGreatDoorCWMake
import Derived.Test.YtomiepknmmpflaaGreatDoorCWDown
import Derived.Test.YtomiepknmmpflaaGreatDoorCWONew
namespace Go.Proofs.YtomiepknmmpflaaGreatDoor
open Go.RowKit Go.Joins

theorem LI.make {room : Nat} {l : Ov.Files} (h : Ov.LI room l) (x bk : ByteArray) (n : Int) : Ov.LI room (makeF room l x n bk).2 := by
  unfold makeF
  split
  · exact h
  · split
    · exact h
    · split
      · exact h
      · split
        · exact h
        · rename_i h1 h2 h3 h4
          have hl := h.len
          have hb8 : bk.size ≤ 8 := by
            by_cases hb : bk.size = 0
            · omega
            · by_cases hso : Ov.soundF l bk = 0
              · by_cases hpb : Ov.place l bk < l.length
                · exact h.name_size hpb
                · unfold Ov.soundF at hso; rw [if_neg hpb] at hso; omega
              · exact absurd ⟨hb, hso⟩ h4
          have hsz := blank_size (bk := bk) (n := n.toNat) hb8 (by omega)
          refine h.put ?_ (Ov.withF_size h.size hsz) (Ov.withF_names h.names (by simpa using h1)) (Ov.withF_nodup h.nodup)
          rw [Ov.withF_length]; split <;> omega
/-- The pair's own variable, and the step's, behind the program's call. -/
theorem pair_kept {w w1 : World} {b room k : Nat} {r : Option Nat} {l l' : Ov.Files} {cs : Array Value} {t : TypeId} (hl : OvLeft w b r room l' w1) (hov : OvRep w b r room l) (hk : w.heap[k]? = some (.cells cs t (0, 0))) (h1 : t ≠ 77) (h2 : t ≠ 97) : w1.heap[k]? = some (.cells cs t (0, 0)) := (hl.fr.other hov hk h1 h2).trans hk

/-- A code is a small number. -/
def Small (c : Int) : Prop := 0 ≤ c ∧ c ≤ 9
theorem putF_small (room : Nat) (l m : Ov.Files) : Small (Ov.putF room l m).1 := by unfold Ov.putF; split <;> exact ⟨by simp, by simp⟩
theorem loadF_small (room : Nat) (l : Ov.Files) (x f : ByteArray) : Small (Ov.loadF room l x f).1 := by
  unfold Ov.loadF
  split
  · exact ⟨by simp, by simp⟩
  · split
    · exact ⟨by simp, by simp⟩
    · exact putF_small _ _ _
theorem dumpF_small (l : Ov.Files) (x : ByteArray) : Small (Ov.dumpF l x).2 := by unfold Ov.dumpF; split <;> exact ⟨by simp, by simp⟩
theorem dropF_small (l : Ov.Files) (x : ByteArray) : Small (Ov.dropF l x).1 := by unfold Ov.dropF; split <;> exact ⟨by simp, by simp⟩
theorem down_small (l : Ov.Files) (f : Nat) : ∀ (seen : List ByteArray) (x : ByteArray), Small (Ov.down l f seen x).2.1 := by
  induction f with
  | zero => intro seen x; exact ⟨by simp [Ov.down], by simp [Ov.down]⟩
  | succ f ih =>
    intro seen x
    unfold Ov.down
    repeat' split
    · exact ⟨by simp, by simp⟩
    · exact ⟨by simp, by simp⟩
    · exact ⟨by simp, by simp⟩
    · exact ⟨by simp, by simp⟩
    · exact ih _ _
theorem soundF_small (l : Ov.Files) (x : ByteArray) : Small (Ov.soundF l x) := by
  unfold Ov.soundF
  split
  · exact down_small _ _ _ _
  · exact ⟨by decide, by decide⟩
theorem chainF_small (l : Ov.Files) (x : ByteArray) : Small (Ov.chainF l x).2.2 := by
  unfold Ov.chainF
  split
  · exact down_small _ _ _ _
  · exact ⟨by simp, by simp⟩
theorem checkF_small (l : Ov.Files) (x : ByteArray) : Small (checkF l x).2 := by 
  unfold checkF
  split
  · split <;> exact ⟨by simp, by simp⟩
  · exact ⟨by simp, by simp⟩
theorem makeF_small (room : Nat) (l : Ov.Files) (x : ByteArray) (n : Int) (bk : ByteArray) : Small (makeF room l x n bk).1 := by
  unfold makeF
  split
  · exact ⟨by simp, by simp⟩
  · split
    · exact ⟨by simp, by simp⟩
    · split
      · exact ⟨by simp, by simp⟩
      · split
        · exact soundF_small _ _
        · exact putF_small _ _ _
set_option maxRecDepth 100000 in
set_option maxHeartbeats 400000 in
theorem lnum_calls (c : Int) (w : World) (h : Small c) : Calls Tryz.prog 75 #[.int .i64 c] w fun e w' => e = .returned (.int .i64 c) ∧ w = w' := by
  obtain ⟨h1, h2⟩ := h
  go_enter Tryz.func75, Tryz.ntmps75
  go_wp2
  go_ret
  exact ⟨rfl, rfl⟩

set_option maxRecDepth 100000 in
set_option maxHeartbeats 2000000 in
theorem lfiles_load (w : World) (B wb i : Nat) (s0 s1 s2 s3 : Addr) (v : Value) (S : List St) (s : St) (W n m : Int) (nm ot tx : ByteArray) (h : LW w B wb s0 s1 s2 s3 v S) (hs : S[i]? = some s) :
    Calls Tryz.prog 78 #[.agg #[.pointer (some ⟨s.bx, 0, none⟩), .pointer (some ⟨s.ry, 0, none⟩)], .agg #[.int .i64 2, .int .i64 W, .int .i64 n, .int .i64 m, .string nm, .string ot, .string tx]] w fun e w' => e = .returned (.bool true) ∧ ∃ S', LW w' B wb s0 s1 s2 s3 v S' ∧ S'.length = S.length ∧ Below B w w' := by
  have HW := hide (h.kept (below_alloc2 w (.cells #[.pointer (some ⟨s.bx, 0, none⟩), .pointer (some ⟨s.ry, 0, none⟩)] 127) (.cells #[.int .i64 2, .int .i64 W, .int .i64 n, .int .i64 m, .string nm, .string ot, .string tx] 63)))
  have HS := hide hs
  have HST := hide ((unhide HW).each s (List.mem_of_getElem? hs))
  have hl8 := (unhide HST).li.len
  have HB := hide (unhide HST).bx
  have hBz := h.un.se.size
  have HCS := hide (loadF_small s.room s.l nm tx)
  clear h hs
  go_enter Tryz.func78, Tryz.ntmps78
  go_wp2_with (first
    | (go_at_call 75; refine (lnum_calls _ _ (unhide HCS)).mono ?_; rintro e w3 ⟨rfl, rfl⟩)
    | (go_at_call 118; refine (rLoad_calls s.l nm tx s.ry s.room _ (unhide HST).li (unhide HM)).mono ?_; rintro e w2 ⟨rfl, hr⟩; have HR := hide (hr); clear hr)
    | (go_at_call 35; refine (oLoad_calls s.l nm tx s.bx s.rx s.room _ (unhide HST).li (unhide HST).ov).mono ?_; rintro e w1 ⟨rfl, hl⟩; have HL := hide hl; have kp := pair_kept hl (unhide HST).ov (blk_alloc (blk_new w _) _) (by decide) (by decide); have ko := pair_kept hl (unhide HST).ov (blk_new1 w _ _) (by decide) (by decide); have p1 := blk_cell (i := 1) kp rfl; have o4 := blk_cell (i := 4) ko rfl; have o5 := blk_cell (i := 5) ko rfl; have o6 := blk_cell (i := 6) ko rfl; have o2 := blk_cell (i := 2) ko rfl; have HM := hide ((unhide HST).mid hl); clear hl kp ko))
  go_ret
  obtain ⟨S', t1, t2, t3⟩ := (unhide HW).turn (unhide HS) (unhide HL) (unhide HR) ((unhide HST).li.load nm tx)
  exact ⟨rfl, S', t1, t2, ((below_alloc2 w _ _).mono hBz).trans t3⟩

set_option maxRecDepth 100000 in
set_option maxHeartbeats 2000000 in
theorem lfiles_dump (w : World) (B wb i : Nat) (s0 s1 s2 s3 : Addr) (v : Value) (S : List St) (s : St) (W n m : Int) (nm ot tx : ByteArray) (h : LW w B wb s0 s1 s2 s3 v S) (hs : S[i]? = some s) :
    Calls Tryz.prog 78 #[.agg #[.pointer (some ⟨s.bx, 0, none⟩), .pointer (some ⟨s.ry, 0, none⟩)], .agg #[.int .i64 3, .int .i64 W, .int .i64 n, .int .i64 m, .string nm, .string ot, .string tx]] w fun e w' => e = .returned (.bool true) ∧ ∃ S', LW w' B wb s0 s1 s2 s3 v S' ∧ S'.length = S.length ∧ Below B w w' := by
  have HW := hide (h.kept (below_alloc2 w (.cells #[.pointer (some ⟨s.bx, 0, none⟩), .pointer (some ⟨s.ry, 0, none⟩)] 127) (.cells #[.int .i64 3, .int .i64 W, .int .i64 n, .int .i64 m, .string nm, .string ot, .string tx] 63)))
  have HS := hide hs
  have HST := hide ((unhide HW).each s (List.mem_of_getElem? hs))
  have hl8 := (unhide HST).li.len
  have HB := hide (unhide HST).bx
  have hBz := h.un.se.size
  have HCS := hide (dumpF_small s.l nm)
  clear h hs
  go_enter Tryz.func78, Tryz.ntmps78
  go_wp2_with (first
    | (go_at_call 75; refine (lnum_calls _ _ (unhide HCS)).mono ?_; rintro e w3 ⟨rfl, rfl⟩)
    | (go_at_call 119; refine (rDump_calls s.l nm s.ry s.room _ hl8 (unhide HM)).mono ?_; rintro e w2 ⟨rfl, rfl⟩; have hr := (unhide HM).here; have HR := hide (hr); clear hr)
    | (go_at_call 34; refine (oDump_calls s.l nm s.bx s.rx s.room _ hl8 (unhide HST).ov).mono ?_; rintro e w1 ⟨rfl, hl⟩; have HL := hide hl; have kp := pair_kept hl (unhide HST).ov (blk_alloc (blk_new w _) _) (by decide) (by decide); have ko := pair_kept hl (unhide HST).ov (blk_new1 w _ _) (by decide) (by decide); have p1 := blk_cell (i := 1) kp rfl; have o4 := blk_cell (i := 4) ko rfl; have o5 := blk_cell (i := 5) ko rfl; have o6 := blk_cell (i := 6) ko rfl; have o2 := blk_cell (i := 2) ko rfl; have HM := hide ((unhide HST).mid hl); clear hl kp ko))
  go_ret
  obtain ⟨S', t1, t2, t3⟩ := (unhide HW).turn (unhide HS) (unhide HL) (unhide HR) ((unhide HST).li)
  exact ⟨rfl, S', t1, t2, ((below_alloc2 w _ _).mono hBz).trans t3⟩

set_option maxRecDepth 100000 in
set_option maxHeartbeats 2000000 in
theorem lfiles_drop (w : World) (B wb i : Nat) (s0 s1 s2 s3 : Addr) (v : Value) (S : List St) (s : St) (W n m : Int) (nm ot tx : ByteArray) (h : LW w B wb s0 s1 s2 s3 v S) (hs : S[i]? = some s) :
    Calls Tryz.prog 78 #[.agg #[.pointer (some ⟨s.bx, 0, none⟩), .pointer (some ⟨s.ry, 0, none⟩)], .agg #[.int .i64 4, .int .i64 W, .int .i64 n, .int .i64 m, .string nm, .string ot, .string tx]] w fun e w' => e = .returned (.bool true) ∧ ∃ S', LW w' B wb s0 s1 s2 s3 v S' ∧ S'.length = S.length ∧ Below B w w' := by
  have HW := hide (h.kept (below_alloc2 w (.cells #[.pointer (some ⟨s.bx, 0, none⟩), .pointer (some ⟨s.ry, 0, none⟩)] 127) (.cells #[.int .i64 4, .int .i64 W, .int .i64 n, .int .i64 m, .string nm, .string ot, .string tx] 63)))
  have HS := hide hs
  have HST := hide ((unhide HW).each s (List.mem_of_getElem? hs))
  have hl8 := (unhide HST).li.len
  have HB := hide (unhide HST).bx
  have hBz := h.un.se.size
  have HCS := hide (dropF_small s.l nm)
  clear h hs
  go_enter Tryz.func78, Tryz.ntmps78
  go_wp2_with (first
    | (go_at_call 75; refine (lnum_calls _ _ (unhide HCS)).mono ?_; rintro e w3 ⟨rfl, rfl⟩)
    | (go_at_call 120; refine (rDrop_calls s.l nm s.ry s.room _ hl8 (unhide HM)).mono ?_; rintro e w2 ⟨rfl, hr⟩; have HR := hide (hr); clear hr)
    | (go_at_call 37; refine (oDrop_calls s.l nm s.bx s.rx s.room _ (unhide HST).li (unhide HST).ov).mono ?_; rintro e w1 ⟨rfl, hl⟩; have HL := hide hl; have kp := pair_kept hl (unhide HST).ov (blk_alloc (blk_new w _) _) (by decide) (by decide); have ko := pair_kept hl (unhide HST).ov (blk_new1 w _ _) (by decide) (by decide); have p1 := blk_cell (i := 1) kp rfl; have o4 := blk_cell (i := 4) ko rfl; have o5 := blk_cell (i := 5) ko rfl; have o6 := blk_cell (i := 6) ko rfl; have o2 := blk_cell (i := 2) ko rfl; have HM := hide ((unhide HST).mid hl); clear hl kp ko))
  go_ret
  obtain ⟨S', t1, t2, t3⟩ := (unhide HW).turn (unhide HS) (unhide HL) (unhide HR) ((unhide HST).li.drop nm)
  exact ⟨rfl, S', t1, t2, ((below_alloc2 w _ _).mono hBz).trans t3⟩

set_option maxRecDepth 100000 in
set_option maxHeartbeats 2000000 in
theorem lfiles_make (w : World) (B wb i : Nat) (s0 s1 s2 s3 : Addr) (v : Value) (S : List St) (s : St) (W n m : Int) (nm ot tx : ByteArray) (h : LW w B wb s0 s1 s2 s3 v S) (hs : S[i]? = some s) :
    Calls Tryz.prog 78 #[.agg #[.pointer (some ⟨s.bx, 0, none⟩), .pointer (some ⟨s.ry, 0, none⟩)], .agg #[.int .i64 5, .int .i64 W, .int .i64 n, .int .i64 m, .string nm, .string ot, .string tx]] w fun e w' => e = .returned (.bool true) ∧ ∃ S', LW w' B wb s0 s1 s2 s3 v S' ∧ S'.length = S.length ∧ Below B w w' := by
  have HW := hide (h.kept (below_alloc2 w (.cells #[.pointer (some ⟨s.bx, 0, none⟩), .pointer (some ⟨s.ry, 0, none⟩)] 127) (.cells #[.int .i64 5, .int .i64 W, .int .i64 n, .int .i64 m, .string nm, .string ot, .string tx] 63)))
  have HS := hide hs
  have HST := hide ((unhide HW).each s (List.mem_of_getElem? hs))
  have hl8 := (unhide HST).li.len
  have HB := hide (unhide HST).bx
  have hBz := h.un.se.size
  have HCS := hide (makeF_small s.room s.l nm n ot)
  clear h hs
  go_enter Tryz.func78, Tryz.ntmps78
  go_wp2_with (first
    | (go_at_call 75; refine (lnum_calls _ _ (unhide HCS)).mono ?_; rintro e w3 ⟨rfl, rfl⟩)
    | (go_at_call 121; refine (rMake_calls s.l nm ot n s.ry s.room _ (unhide HST).li (unhide HM)).mono ?_; rintro e w2 ⟨rfl, hr⟩; have HR := hide (hr); clear hr)
    | (go_at_call 38; refine (oMake_calls s.l nm ot n s.bx B s.rx s.room s0 s1 s2 s3 _ (unhide HST).li (unhide HST).ov (unhide HW).un.se (unhide HB)).mono ?_; rintro e w1 ⟨rfl, hl⟩; have HL := hide hl; have kp := pair_kept hl (unhide HST).ov (blk_alloc (blk_new w _) _) (by decide) (by decide); have ko := pair_kept hl (unhide HST).ov (blk_new1 w _ _) (by decide) (by decide); have p1 := blk_cell (i := 1) kp rfl; have o4 := blk_cell (i := 4) ko rfl; have o5 := blk_cell (i := 5) ko rfl; have o6 := blk_cell (i := 6) ko rfl; have o2 := blk_cell (i := 2) ko rfl; have HM := hide ((unhide HST).mid hl); clear hl kp ko))
  go_ret
  obtain ⟨S', t1, t2, t3⟩ := (unhide HW).turn (unhide HS) (unhide HL) (unhide HR) (LI.make (unhide HST).li nm ot n)
  exact ⟨rfl, S', t1, t2, ((below_alloc2 w _ _).mono hBz).trans t3⟩

set_option maxRecDepth 100000 in
set_option maxHeartbeats 2000000 in
theorem lfiles_chain (w : World) (B wb i : Nat) (s0 s1 s2 s3 : Addr) (v : Value) (S : List St) (s : St) (W n m : Int) (nm ot tx : ByteArray) (h : LW w B wb s0 s1 s2 s3 v S) (hs : S[i]? = some s) :
    Calls Tryz.prog 78 #[.agg #[.pointer (some ⟨s.bx, 0, none⟩), .pointer (some ⟨s.ry, 0, none⟩)], .agg #[.int .i64 6, .int .i64 W, .int .i64 n, .int .i64 m, .string nm, .string ot, .string tx]] w fun e w' => e = .returned (.bool true) ∧ ∃ S', LW w' B wb s0 s1 s2 s3 v S' ∧ S'.length = S.length ∧ Below B w w' := by
  have HW := hide (h.kept (below_alloc2 w (.cells #[.pointer (some ⟨s.bx, 0, none⟩), .pointer (some ⟨s.ry, 0, none⟩)] 127) (.cells #[.int .i64 6, .int .i64 W, .int .i64 n, .int .i64 m, .string nm, .string ot, .string tx] 63)))
  have HS := hide hs
  have HST := hide ((unhide HW).each s (List.mem_of_getElem? hs))
  have hl8 := (unhide HST).li.len
  have HB := hide (unhide HST).bx
  have hBz := h.un.se.size
  have HCS := hide (chainF_small s.l nm)
  clear h hs
  go_enter Tryz.func78, Tryz.ntmps78
  go_wp2_with (first
    | (go_at_call 75; refine (lnum_calls _ _ (unhide HCS)).mono ?_; rintro e w3 ⟨rfl, rfl⟩)
    | (go_at_call 122; refine (rChain_calls s.l nm s.ry s.room _ (unhide HST).li (unhide HM)).mono ?_; rintro e w2 ⟨rfl, hr⟩; have HR := hide ((unhide HM).same hr); clear hr)
    | (go_at_call 17; refine (oChain_calls s.l nm s.bx B s.rx s.room s0 s1 s2 s3 _ (unhide HST).li (unhide HST).ov (unhide HW).un.se (unhide HB) (unhide HW).un.g4).mono ?_; rintro e w1 ⟨rfl, hl⟩; have HL := hide hl; have kp := pair_kept hl (unhide HST).ov (blk_alloc (blk_new w _) _) (by decide) (by decide); have ko := pair_kept hl (unhide HST).ov (blk_new1 w _ _) (by decide) (by decide); have p1 := blk_cell (i := 1) kp rfl; have o4 := blk_cell (i := 4) ko rfl; have o5 := blk_cell (i := 5) ko rfl; have o6 := blk_cell (i := 6) ko rfl; have o2 := blk_cell (i := 2) ko rfl; have HM := hide ((unhide HST).mid hl); clear hl kp ko))
  go_ret
  obtain ⟨S', t1, t2, t3⟩ := (unhide HW).turn (unhide HS) (unhide HL) (unhide HR) ((unhide HST).li)
  exact ⟨rfl, S', t1, t2, ((below_alloc2 w _ _).mono hBz).trans t3⟩

set_option maxRecDepth 100000 in
set_option maxHeartbeats 2000000 in
theorem lfiles_check (w : World) (B wb i : Nat) (s0 s1 s2 s3 : Addr) (v : Value) (S : List St) (s : St) (W n m : Int) (nm ot tx : ByteArray) (h : LW w B wb s0 s1 s2 s3 v S) (hs : S[i]? = some s) :
    Calls Tryz.prog 78 #[.agg #[.pointer (some ⟨s.bx, 0, none⟩), .pointer (some ⟨s.ry, 0, none⟩)], .agg #[.int .i64 7, .int .i64 W, .int .i64 n, .int .i64 m, .string nm, .string ot, .string tx]] w fun e w' => e = .returned (.bool true) ∧ ∃ S', LW w' B wb s0 s1 s2 s3 v S' ∧ S'.length = S.length ∧ Below B w w' := by
  have HW := hide (h.kept (below_alloc2 w (.cells #[.pointer (some ⟨s.bx, 0, none⟩), .pointer (some ⟨s.ry, 0, none⟩)] 127) (.cells #[.int .i64 7, .int .i64 W, .int .i64 n, .int .i64 m, .string nm, .string ot, .string tx] 63)))
  have HS := hide hs
  have HST := hide ((unhide HW).each s (List.mem_of_getElem? hs))
  have hl8 := (unhide HST).li.len
  have HB := hide (unhide HST).bx
  have hBz := h.un.se.size
  have HCS := hide (checkF_small s.l nm)
  clear h hs
  go_enter Tryz.func78, Tryz.ntmps78
  go_wp2_with (first
    | (go_at_call 75; refine (lnum_calls _ _ (unhide HCS)).mono ?_; rintro e w3 ⟨rfl, rfl⟩)
    | (go_at_call 123; refine (rCheck_calls s.l nm s.ry s.room _ (unhide HST).li (unhide HM)).mono ?_; rintro e w2 ⟨rfl, hr⟩; have HR := hide ((unhide HM).same hr); clear hr)
    | (go_at_call 27; refine (oCheck_calls s.l nm s.bx B s.rx s.room s0 s1 s2 s3 _ hl8 (unhide HST).ov (unhide HW).un.se (unhide HB)).mono ?_; rintro e w1 ⟨rfl, hl⟩; have HL := hide hl; have kp := pair_kept hl (unhide HST).ov (blk_alloc (blk_new w _) _) (by decide) (by decide); have ko := pair_kept hl (unhide HST).ov (blk_new1 w _ _) (by decide) (by decide); have p1 := blk_cell (i := 1) kp rfl; have o4 := blk_cell (i := 4) ko rfl; have o5 := blk_cell (i := 5) ko rfl; have o6 := blk_cell (i := 6) ko rfl; have o2 := blk_cell (i := 2) ko rfl; have HM := hide ((unhide HST).mid hl); clear hl kp ko))
  go_ret
  obtain ⟨S', t1, t2, t3⟩ := (unhide HW).turn (unhide HS) (unhide HL) (unhide HR) ((unhide HST).li)
  exact ⟨rfl, S', t1, t2, ((below_alloc2 w _ _).mono hBz).trans t3⟩

end Go.Proofs.YtomiepknmmpflaaGreatDoor
