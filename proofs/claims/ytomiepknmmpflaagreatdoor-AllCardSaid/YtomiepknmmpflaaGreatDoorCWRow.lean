/- The law's steps: files. -/
import Derived.Test.YtomiepknmmpflaaGreatDoorCWOWrite
import Derived.Test.YtomiepknmmpflaaGreatDoorCPParse
import Derived.Test.YtomiepknmmpflaaGreatDoorCPFile
import Derived.Test.YtomiepknmmpflaaGreatDoorCWDown
import Derived.Test.YtomiepknmmpflaaGreatDoorCWONew
import Derived.Test.YtomiepknmmpflaaGreatDoorRows
import Derived.ChangeSame
import Derived.ChangeVars
import Derived.JoinedOf
import Derived.RowKit
import Derived.RowKitTokens
import Derived.ProofKit
import Derived.LaidLaws
import Derived.LaidMore
import Derived.LaidHandle
import Derived.OpenShut
import Derived.SizedLaws
import Derived.Deep.Slices
import Derived.Stop.LaidErr
import Derived.Stop.Joined
namespace Go.Proofs.YtomiepknmmpflaaGreatDoor
open Go.RowKit Go.Joins

theorem LI.make {room : Nat} {l : Ov.Files} (h : Ov.LI room l) (x bk : ByteArray) (n : Int) : Ov.LI room (makeF room l x n bk).2 := by
  unfold makeF
  split
  · exact h
  · split
    · exact h
    · split
      · exact h
      · split
        · exact h
        · rename_i h1 h2 h3 h4
          have hl := h.len
          have hb8 : bk.size ≤ 8 := by
            by_cases hb : bk.size = 0
            · omega
            · by_cases hso : Ov.soundF l bk = 0
              · by_cases hpb : Ov.place l bk < l.length
                · exact h.name_size hpb
                · unfold Ov.soundF at hso; rw [if_neg hpb] at hso; omega
              · exact absurd ⟨hb, hso⟩ h4
          have hsz := blank_size (bk := bk) (n := n.toNat) hb8 (by omega)
          refine h.put ?_ (Ov.withF_size h.size hsz) (Ov.withF_names h.names (by simpa using h1)) (Ov.withF_nodup h.nodup)
          rw [Ov.withF_length]; split <;> omega
theorem pair_kept {w w1 : World} {b room k : Nat} {r : Option Nat} {l l' : Ov.Files} {cs : Array Value} {t : TypeId} (hl : OvLeft w b r room l' w1) (hov : OvRep w b r room l) (hk : w.heap[k]? = some (.cells cs t (0, 0))) (h1 : t ≠ 77) (h2 : t ≠ 97) : w1.heap[k]? = some (.cells cs t (0, 0)) := (hl.fr.other hov hk h1 h2).trans hk

def Small (c : Int) : Prop := 0 ≤ c ∧ c ≤ 9
theorem putF_small (room : Nat) (l m : Ov.Files) : Small (Ov.putF room l m).1 := by unfold Ov.putF; split <;> exact ⟨by simp, by simp⟩
theorem loadF_small (room : Nat) (l : Ov.Files) (x f : ByteArray) : Small (Ov.loadF room l x f).1 := by
  unfold Ov.loadF
  split
  · exact ⟨by simp, by simp⟩
  · split
    · exact ⟨by simp, by simp⟩
    · exact putF_small _ _ _
theorem dumpF_small (l : Ov.Files) (x : ByteArray) : Small (Ov.dumpF l x).2 := by unfold Ov.dumpF; split <;> exact ⟨by simp, by simp⟩
theorem dropF_small (l : Ov.Files) (x : ByteArray) : Small (Ov.dropF l x).1 := by unfold Ov.dropF; split <;> exact ⟨by simp, by simp⟩
theorem down_small (l : Ov.Files) (f : Nat) : ∀ (seen : List ByteArray) (x : ByteArray), Small (Ov.down l f seen x).2.1 := by
  induction f with
  | zero => intro seen x; exact ⟨by simp [Ov.down], by simp [Ov.down]⟩
  | succ f ih =>
    intro seen x
    unfold Ov.down
    repeat' split
    · exact ⟨by simp, by simp⟩
    · exact ⟨by simp, by simp⟩
    · exact ⟨by simp, by simp⟩
    · exact ⟨by simp, by simp⟩
    · exact ih _ _
theorem soundF_small (l : Ov.Files) (x : ByteArray) : Small (Ov.soundF l x) := by
  unfold Ov.soundF
  split
  · exact down_small _ _ _ _
  · exact ⟨by decide, by decide⟩
theorem chainF_small (l : Ov.Files) (x : ByteArray) : Small (Ov.chainF l x).2.2 := by
  unfold Ov.chainF
  split
  · exact down_small _ _ _ _
  · exact ⟨by simp, by simp⟩
theorem checkF_small (l : Ov.Files) (x : ByteArray) : Small (checkF l x).2 := by 
  unfold checkF
  split
  · split <;> exact ⟨by simp, by simp⟩
  · exact ⟨by simp, by simp⟩
theorem makeF_small (room : Nat) (l : Ov.Files) (x : ByteArray) (n : Int) (bk : ByteArray) : Small (makeF room l x n bk).1 := by
  unfold makeF
  split
  · exact ⟨by simp, by simp⟩
  · split
    · exact ⟨by simp, by simp⟩
    · split
      · exact ⟨by simp, by simp⟩
      · split
        · exact soundF_small _ _
        · exact putF_small _ _ _
set_option maxRecDepth 100000 in
set_option maxHeartbeats 400000 in
theorem lnum_calls (c : Int) (w : World) (h : Small c) : Calls Tryz.prog 75 #[.int .i64 c] w fun e w' => e = .returned (.int .i64 c) ∧ w = w' := by
  obtain ⟨h1, h2⟩ := h
  go_enter Tryz.func75, Tryz.ntmps75
  go_wp2
  go_ret
  exact ⟨rfl, rfl⟩

set_option maxRecDepth 100000 in
set_option maxHeartbeats 2000000 in
theorem lfiles_load (w : World) (B wb i : Nat) (s0 s1 s2 s3 : Addr) (v : Value) (S : List St) (s : St) (W n m : Int) (nm ot tx : ByteArray) (h : LW w B wb s0 s1 s2 s3 v S) (hs : S[i]? = some s) :
    Calls Tryz.prog 78 #[.agg #[.pointer (some ⟨s.bx, 0, none⟩), .pointer (some ⟨s.ry, 0, none⟩)], .agg #[.int .i64 2, .int .i64 W, .int .i64 n, .int .i64 m, .string nm, .string ot, .string tx]] w fun e w' => e = .returned (.bool true) ∧ ∃ S', LW w' B wb s0 s1 s2 s3 v S' ∧ S'.length = S.length ∧ Below B w w' := by
  have HW := hide (h.kept (below_alloc2 w (.cells #[.pointer (some ⟨s.bx, 0, none⟩), .pointer (some ⟨s.ry, 0, none⟩)] 127) (.cells #[.int .i64 2, .int .i64 W, .int .i64 n, .int .i64 m, .string nm, .string ot, .string tx] 63)))
  have HS := hide hs
  have HST := hide ((unhide HW).each s (List.mem_of_getElem? hs))
  have hl8 := (unhide HST).li.len
  have HB := hide (unhide HST).bx
  have hBz := h.un.se.size
  have HCS := hide (loadF_small s.room s.l nm tx)
  clear h hs
  go_enter Tryz.func78, Tryz.ntmps78
  go_wp2_with (first
    | (go_at_call 75; refine (lnum_calls _ _ (unhide HCS)).mono ?_; rintro e w3 ⟨rfl, rfl⟩)
    | (go_at_call 118; refine (rLoad_calls s.l nm tx s.ry s.room _ (unhide HST).li (unhide HM)).mono ?_; rintro e w2 ⟨rfl, hr⟩; have HR := hide (hr); clear hr)
    | (go_at_call 35; refine (oLoad_calls s.l nm tx s.bx s.rx s.room _ (unhide HST).li (unhide HST).ov).mono ?_; rintro e w1 ⟨rfl, hl⟩; have HL := hide hl; have kp := pair_kept hl (unhide HST).ov (blk_alloc (blk_new w _) _) (by decide) (by decide); have ko := pair_kept hl (unhide HST).ov (blk_new1 w _ _) (by decide) (by decide); have p1 := blk_cell (i := 1) kp rfl; have o4 := blk_cell (i := 4) ko rfl; have o5 := blk_cell (i := 5) ko rfl; have o6 := blk_cell (i := 6) ko rfl; have o2 := blk_cell (i := 2) ko rfl; have HM := hide ((unhide HST).mid hl); clear hl kp ko))
  go_ret
  obtain ⟨S', t1, t2, t3⟩ := (unhide HW).turn (unhide HS) (unhide HL) (unhide HR) ((unhide HST).li.load nm tx)
  exact ⟨rfl, S', t1, t2, ((below_alloc2 w _ _).mono hBz).trans t3⟩

set_option maxRecDepth 100000 in
set_option maxHeartbeats 2000000 in
theorem lfiles_dump (w : World) (B wb i : Nat) (s0 s1 s2 s3 : Addr) (v : Value) (S : List St) (s : St) (W n m : Int) (nm ot tx : ByteArray) (h : LW w B wb s0 s1 s2 s3 v S) (hs : S[i]? = some s) :
    Calls Tryz.prog 78 #[.agg #[.pointer (some ⟨s.bx, 0, none⟩), .pointer (some ⟨s.ry, 0, none⟩)], .agg #[.int .i64 3, .int .i64 W, .int .i64 n, .int .i64 m, .string nm, .string ot, .string tx]] w fun e w' => e = .returned (.bool true) ∧ ∃ S', LW w' B wb s0 s1 s2 s3 v S' ∧ S'.length = S.length ∧ Below B w w' := by
  have HW := hide (h.kept (below_alloc2 w (.cells #[.pointer (some ⟨s.bx, 0, none⟩), .pointer (some ⟨s.ry, 0, none⟩)] 127) (.cells #[.int .i64 3, .int .i64 W, .int .i64 n, .int .i64 m, .string nm, .string ot, .string tx] 63)))
  have HS := hide hs
  have HST := hide ((unhide HW).each s (List.mem_of_getElem? hs))
  have hl8 := (unhide HST).li.len
  have HB := hide (unhide HST).bx
  have hBz := h.un.se.size
  have HCS := hide (dumpF_small s.l nm)
  clear h hs
  go_enter Tryz.func78, Tryz.ntmps78
  go_wp2_with (first
    | (go_at_call 75; refine (lnum_calls _ _ (unhide HCS)).mono ?_; rintro e w3 ⟨rfl, rfl⟩)
    | (go_at_call 119; refine (rDump_calls s.l nm s.ry s.room _ hl8 (unhide HM)).mono ?_; rintro e w2 ⟨rfl, rfl⟩; have hr := (unhide HM).here; have HR := hide (hr); clear hr)
    | (go_at_call 34; refine (oDump_calls s.l nm s.bx s.rx s.room _ hl8 (unhide HST).ov).mono ?_; rintro e w1 ⟨rfl, hl⟩; have HL := hide hl; have kp := pair_kept hl (unhide HST).ov (blk_alloc (blk_new w _) _) (by decide) (by decide); have ko := pair_kept hl (unhide HST).ov (blk_new1 w _ _) (by decide) (by decide); have p1 := blk_cell (i := 1) kp rfl; have o4 := blk_cell (i := 4) ko rfl; have o5 := blk_cell (i := 5) ko rfl; have o6 := blk_cell (i := 6) ko rfl; have o2 := blk_cell (i := 2) ko rfl; have HM := hide ((unhide HST).mid hl); clear hl kp ko))
  go_ret
  obtain ⟨S', t1, t2, t3⟩ := (unhide HW).turn (unhide HS) (unhide HL) (unhide HR) ((unhide HST).li)
  exact ⟨rfl, S', t1, t2, ((below_alloc2 w _ _).mono hBz).trans t3⟩

set_option maxRecDepth 100000 in
set_option maxHeartbeats 2000000 in
theorem lfiles_drop (w : World) (B wb i : Nat) (s0 s1 s2 s3 : Addr) (v : Value) (S : List St) (s : St) (W n m : Int) (nm ot tx : ByteArray) (h : LW w B wb s0 s1 s2 s3 v S) (hs : S[i]? = some s) :
    Calls Tryz.prog 78 #[.agg #[.pointer (some ⟨s.bx, 0, none⟩), .pointer (some ⟨s.ry, 0, none⟩)], .agg #[.int .i64 4, .int .i64 W, .int .i64 n, .int .i64 m, .string nm, .string ot, .string tx]] w fun e w' => e = .returned (.bool true) ∧ ∃ S', LW w' B wb s0 s1 s2 s3 v S' ∧ S'.length = S.length ∧ Below B w w' := by
  have HW := hide (h.kept (below_alloc2 w (.cells #[.pointer (some ⟨s.bx, 0, none⟩), .pointer (some ⟨s.ry, 0, none⟩)] 127) (.cells #[.int .i64 4, .int .i64 W, .int .i64 n, .int .i64 m, .string nm, .string ot, .string tx] 63)))
  have HS := hide hs
  have HST := hide ((unhide HW).each s (List.mem_of_getElem? hs))
  have hl8 := (unhide HST).li.len
  have HB := hide (unhide HST).bx
  have hBz := h.un.se.size
  have HCS := hide (dropF_small s.l nm)
  clear h hs
  go_enter Tryz.func78, Tryz.ntmps78
  go_wp2_with (first
    | (go_at_call 75; refine (lnum_calls _ _ (unhide HCS)).mono ?_; rintro e w3 ⟨rfl, rfl⟩)
    | (go_at_call 120; refine (rDrop_calls s.l nm s.ry s.room _ hl8 (unhide HM)).mono ?_; rintro e w2 ⟨rfl, hr⟩; have HR := hide (hr); clear hr)
    | (go_at_call 37; refine (oDrop_calls s.l nm s.bx s.rx s.room _ (unhide HST).li (unhide HST).ov).mono ?_; rintro e w1 ⟨rfl, hl⟩; have HL := hide hl; have kp := pair_kept hl (unhide HST).ov (blk_alloc (blk_new w _) _) (by decide) (by decide); have ko := pair_kept hl (unhide HST).ov (blk_new1 w _ _) (by decide) (by decide); have p1 := blk_cell (i := 1) kp rfl; have o4 := blk_cell (i := 4) ko rfl; have o5 := blk_cell (i := 5) ko rfl; have o6 := blk_cell (i := 6) ko rfl; have o2 := blk_cell (i := 2) ko rfl; have HM := hide ((unhide HST).mid hl); clear hl kp ko))
  go_ret
  obtain ⟨S', t1, t2, t3⟩ := (unhide HW).turn (unhide HS) (unhide HL) (unhide HR) ((unhide HST).li.drop nm)
  exact ⟨rfl, S', t1, t2, ((below_alloc2 w _ _).mono hBz).trans t3⟩

set_option maxRecDepth 100000 in
set_option maxHeartbeats 2000000 in
theorem lfiles_make (w : World) (B wb i : Nat) (s0 s1 s2 s3 : Addr) (v : Value) (S : List St) (s : St) (W n m : Int) (nm ot tx : ByteArray) (h : LW w B wb s0 s1 s2 s3 v S) (hs : S[i]? = some s) :
    Calls Tryz.prog 78 #[.agg #[.pointer (some ⟨s.bx, 0, none⟩), .pointer (some ⟨s.ry, 0, none⟩)], .agg #[.int .i64 5, .int .i64 W, .int .i64 n, .int .i64 m, .string nm, .string ot, .string tx]] w fun e w' => e = .returned (.bool true) ∧ ∃ S', LW w' B wb s0 s1 s2 s3 v S' ∧ S'.length = S.length ∧ Below B w w' := by
  have HW := hide (h.kept (below_alloc2 w (.cells #[.pointer (some ⟨s.bx, 0, none⟩), .pointer (some ⟨s.ry, 0, none⟩)] 127) (.cells #[.int .i64 5, .int .i64 W, .int .i64 n, .int .i64 m, .string nm, .string ot, .string tx] 63)))
  have HS := hide hs
  have HST := hide ((unhide HW).each s (List.mem_of_getElem? hs))
  have hl8 := (unhide HST).li.len
  have HB := hide (unhide HST).bx
  have hBz := h.un.se.size
  have HCS := hide (makeF_small s.room s.l nm n ot)
  clear h hs
  go_enter Tryz.func78, Tryz.ntmps78
  go_wp2_with (first
    | (go_at_call 75; refine (lnum_calls _ _ (unhide HCS)).mono ?_; rintro e w3 ⟨rfl, rfl⟩)
    | (go_at_call 121; refine (rMake_calls s.l nm ot n s.ry s.room _ (unhide HST).li (unhide HM)).mono ?_; rintro e w2 ⟨rfl, hr⟩; have HR := hide (hr); clear hr)
    | (go_at_call 38; refine (oMake_calls s.l nm ot n s.bx B s.rx s.room s0 s1 s2 s3 _ (unhide HST).li (unhide HST).ov (unhide HW).un.se (unhide HB)).mono ?_; rintro e w1 ⟨rfl, hl⟩; have HL := hide hl; have kp := pair_kept hl (unhide HST).ov (blk_alloc (blk_new w _) _) (by decide) (by decide); have ko := pair_kept hl (unhide HST).ov (blk_new1 w _ _) (by decide) (by decide); have p1 := blk_cell (i := 1) kp rfl; have o4 := blk_cell (i := 4) ko rfl; have o5 := blk_cell (i := 5) ko rfl; have o6 := blk_cell (i := 6) ko rfl; have o2 := blk_cell (i := 2) ko rfl; have HM := hide ((unhide HST).mid hl); clear hl kp ko))
  go_ret
  obtain ⟨S', t1, t2, t3⟩ := (unhide HW).turn (unhide HS) (unhide HL) (unhide HR) (LI.make (unhide HST).li nm ot n)
  exact ⟨rfl, S', t1, t2, ((below_alloc2 w _ _).mono hBz).trans t3⟩

set_option maxRecDepth 100000 in
set_option maxHeartbeats 2000000 in
theorem lfiles_chain (w : World) (B wb i : Nat) (s0 s1 s2 s3 : Addr) (v : Value) (S : List St) (s : St) (W n m : Int) (nm ot tx : ByteArray) (h : LW w B wb s0 s1 s2 s3 v S) (hs : S[i]? = some s) :
    Calls Tryz.prog 78 #[.agg #[.pointer (some ⟨s.bx, 0, none⟩), .pointer (some ⟨s.ry, 0, none⟩)], .agg #[.int .i64 6, .int .i64 W, .int .i64 n, .int .i64 m, .string nm, .string ot, .string tx]] w fun e w' => e = .returned (.bool true) ∧ ∃ S', LW w' B wb s0 s1 s2 s3 v S' ∧ S'.length = S.length ∧ Below B w w' := by
  have HW := hide (h.kept (below_alloc2 w (.cells #[.pointer (some ⟨s.bx, 0, none⟩), .pointer (some ⟨s.ry, 0, none⟩)] 127) (.cells #[.int .i64 6, .int .i64 W, .int .i64 n, .int .i64 m, .string nm, .string ot, .string tx] 63)))
  have HS := hide hs
  have HST := hide ((unhide HW).each s (List.mem_of_getElem? hs))
  have hl8 := (unhide HST).li.len
  have HB := hide (unhide HST).bx
  have hBz := h.un.se.size
  have HCS := hide (chainF_small s.l nm)
  clear h hs
  go_enter Tryz.func78, Tryz.ntmps78
  go_wp2_with (first
    | (go_at_call 75; refine (lnum_calls _ _ (unhide HCS)).mono ?_; rintro e w3 ⟨rfl, rfl⟩)
    | (go_at_call 122; refine (rChain_calls s.l nm s.ry s.room _ (unhide HST).li (unhide HM)).mono ?_; rintro e w2 ⟨rfl, hr⟩; have HR := hide ((unhide HM).same hr); clear hr)
    | (go_at_call 17; refine (oChain_calls s.l nm s.bx B s.rx s.room s0 s1 s2 s3 _ (unhide HST).li (unhide HST).ov (unhide HW).un.se (unhide HB) (unhide HW).un.g4).mono ?_; rintro e w1 ⟨rfl, hl⟩; have HL := hide hl; have kp := pair_kept hl (unhide HST).ov (blk_alloc (blk_new w _) _) (by decide) (by decide); have ko := pair_kept hl (unhide HST).ov (blk_new1 w _ _) (by decide) (by decide); have p1 := blk_cell (i := 1) kp rfl; have o4 := blk_cell (i := 4) ko rfl; have o5 := blk_cell (i := 5) ko rfl; have o6 := blk_cell (i := 6) ko rfl; have o2 := blk_cell (i := 2) ko rfl; have HM := hide ((unhide HST).mid hl); clear hl kp ko))
  go_ret
  obtain ⟨S', t1, t2, t3⟩ := (unhide HW).turn (unhide HS) (unhide HL) (unhide HR) ((unhide HST).li)
  exact ⟨rfl, S', t1, t2, ((below_alloc2 w _ _).mono hBz).trans t3⟩

set_option maxRecDepth 100000 in
set_option maxHeartbeats 2000000 in
theorem lfiles_check (w : World) (B wb i : Nat) (s0 s1 s2 s3 : Addr) (v : Value) (S : List St) (s : St) (W n m : Int) (nm ot tx : ByteArray) (h : LW w B wb s0 s1 s2 s3 v S) (hs : S[i]? = some s) :
    Calls Tryz.prog 78 #[.agg #[.pointer (some ⟨s.bx, 0, none⟩), .pointer (some ⟨s.ry, 0, none⟩)], .agg #[.int .i64 7, .int .i64 W, .int .i64 n, .int .i64 m, .string nm, .string ot, .string tx]] w fun e w' => e = .returned (.bool true) ∧ ∃ S', LW w' B wb s0 s1 s2 s3 v S' ∧ S'.length = S.length ∧ Below B w w' := by
  have HW := hide (h.kept (below_alloc2 w (.cells #[.pointer (some ⟨s.bx, 0, none⟩), .pointer (some ⟨s.ry, 0, none⟩)] 127) (.cells #[.int .i64 7, .int .i64 W, .int .i64 n, .int .i64 m, .string nm, .string ot, .string tx] 63)))
  have HS := hide hs
  have HST := hide ((unhide HW).each s (List.mem_of_getElem? hs))
  have hl8 := (unhide HST).li.len
  have HB := hide (unhide HST).bx
  have hBz := h.un.se.size
  have HCS := hide (checkF_small s.l nm)
  clear h hs
  go_enter Tryz.func78, Tryz.ntmps78
  go_wp2_with (first
    | (go_at_call 75; refine (lnum_calls _ _ (unhide HCS)).mono ?_; rintro e w3 ⟨rfl, rfl⟩)
    | (go_at_call 123; refine (rCheck_calls s.l nm s.ry s.room _ (unhide HST).li (unhide HM)).mono ?_; rintro e w2 ⟨rfl, hr⟩; have HR := hide ((unhide HM).same hr); clear hr)
    | (go_at_call 27; refine (oCheck_calls s.l nm s.bx B s.rx s.room s0 s1 s2 s3 _ hl8 (unhide HST).ov (unhide HW).un.se (unhide HB)).mono ?_; rintro e w1 ⟨rfl, hl⟩; have HL := hide hl; have kp := pair_kept hl (unhide HST).ov (blk_alloc (blk_new w _) _) (by decide) (by decide); have ko := pair_kept hl (unhide HST).ov (blk_new1 w _ _) (by decide) (by decide); have p1 := blk_cell (i := 1) kp rfl; have o4 := blk_cell (i := 4) ko rfl; have o5 := blk_cell (i := 5) ko rfl; have o6 := blk_cell (i := 6) ko rfl; have o2 := blk_cell (i := 2) ko rfl; have HM := hide ((unhide HST).mid hl); clear hl kp ko))
  go_ret
  obtain ⟨S', t1, t2, t3⟩ := (unhide HW).turn (unhide HS) (unhide HL) (unhide HR) ((unhide HST).li)
  exact ⟨rfl, S', t1, t2, ((below_alloc2 w _ _).mono hBz).trans t3⟩

end Go.Proofs.YtomiepknmmpflaaGreatDoor

namespace Go.Proofs.YtomiepknmmpflaaGreatDoor
open Go.RowKit Go.Joins

theorem StOk.same {w w' : World} {B : Nat} {s : St} (h : StOk w B s) (hk : ∀ (k : Nat) (cs : Array Value) (t : TypeId), w.heap[k]? = some (Obj.cells cs t (0, 0)) → t ≠ 127 → t ≠ 60 → w'.heap[k]? = w.heap[k]?) : StOk w' B s := by
  obtain ⟨c, hc⟩ := h.ov.blk
  obtain ⟨d, hd⟩ := h.ref.blk
  exact ⟨h.ov.of_blocks (hk _ _ _ hc (by decide) (by decide)) (fun k e => by
    obtain ⟨f, hf⟩ := h.ov.row e
    exact hk _ _ _ hf (by decide) (by decide)), h.ref.of_blocks (hk _ _ _ hd (by decide) (by decide)) (fun k cs e => hk _ _ _ e (by decide) (by decide)), h.li, h.bx, h.ry, h.rx⟩
theorem st_new (w : World) (B n : Nat) (hB : B ≤ w.heap.size) (hn : n ≤ 4000) : StOk ((w.alloc (.cells #[.int .i32 0, .int .u32 0, .int .i64 n, .slice none 0 0] 77)).alloc (.cells #[.int .i64 n, .slice none 0 0] 180)) B ⟨w.heap.size, none, w.heap.size + 1, n, []⟩ := by
  refine ⟨⟨.slice none 0 0, blk_alloc (blk_new w _) _, World.ownsRow_nil _ _ _ _, by simp [Value.ownBlock], rfl⟩, ⟨.slice none 0 0, blk_new1 w _ _, World.ownsRow_nil _ _ _ _, by simp [Value.ownBlock]⟩, ⟨by simp, fun j hj => by simp at hj, hn, fun j hj => by simp at hj, List.nodup_nil⟩, hB, by show B ≤ w.heap.size + 1; omega, fun k hk => by cases hk⟩
theorem LW.add {w w3 : World} {B wb n : Nat} {s0 s1 s2 s3 : Addr} {v v' : Value} {S : List St} {o : Obj} (h : LW w B wb s0 s1 s2 s3 v S) (hn : n ≤ 4000)
    (hg : (((w.alloc (.cells #[.int .i32 0, .int .u32 0, .int .i64 n, .slice none 0 0] 77)).alloc (.cells #[.int .i64 n, .slice none 0 0] 180)).alloc o).grownBy w3 v.ownBlock)
    (ho : w3.ownsRow B 127 2 v' (S.length + 1) (prCells S ++ [.pointer (some ⟨w.heap.size, 0, none⟩), .pointer (some ⟨w.heap.size + 1, 0, none⟩)])) :
    LW (w3.setCell ⟨wb, 0, none⟩ v') B wb s0 s1 s2 s3 v' (S ++ [⟨w.heap.size, none, w.heap.size + 1, n, []⟩]) ∧ w3.heap[wb]? = some (.cells #[v] 60 (0, 0)) ∧ Below B w (w3.setCell ⟨wb, 0, none⟩ v') := by
  have hBs := h.un.se.size
  have hb3 : Below w.heap.size w (((w.alloc (.cells #[.int .i32 0, .int .u32 0, .int .i64 n, .slice none 0 0] 77)).alloc (.cells #[.int .i64 n, .slice none 0 0] 180)).alloc o) := below_alloc3 w _ _ _
  have h3 := h.kept hb3
  have hwb : w3.heap[wb]? = some (.cells #[v] 60 (0, 0)) := by
    rw [hg.block wb (blk_lt h3.blk) (own_ne h3.own h3.blk (by decide))]; exact h3.blk
  have bB : Below B (((w.alloc (.cells #[.int .i32 0, .int .u32 0, .int .i64 n, .slice none 0 0] 77)).alloc (.cells #[.int .i64 n, .slice none 0 0] 180)).alloc o) (w3.setCell ⟨wb, 0, none⟩ v') :=
    ((Below.refl B _).grown hg h3.un.se.size (fun k hk => (h3.own.lt k hk).1)).setCell (p := ⟨wb, 0, none⟩) h.wb _
  have same : ∀ (k : Nat) (cs : Array Value) (t : TypeId), (((w.alloc (.cells #[.int .i32 0, .int .u32 0, .int .i64 n, .slice none 0 0] 77)).alloc (.cells #[.int .i64 n, .slice none 0 0] 180)).alloc o).heap[k]? = some (Obj.cells cs t (0, 0)) → t ≠ 127 → t ≠ 60 → (w3.setCell ⟨wb, 0, none⟩ v').heap[k]? = (((w.alloc (.cells #[.int .i32 0, .int .u32 0, .int .i64 n, .slice none 0 0] 77)).alloc (.cells #[.int .i64 n, .slice none 0 0] 180)).alloc o).heap[k]? := fun k cs t hk t1 t2 => by
    have e1 := hg.block k (blk_lt hk) (own_ne h3.own hk t1)
    rw [Below.heap_setCell _ _ _ _ (fun e => blk_two (e1.trans hk) hwb t2 e)]
    exact e1
  refine ⟨⟨h3.un.kept bB, blk_set_same (i := 0) hwb v', ?_, ?_, ?_, h.wb⟩, hwb, (hb3.mono hBs).trans bB⟩
  · rw [prCells_append, List.length_append]
    exact owns_set ho (own_ne ho hwb (by decide)) v'
  · intro s hs
    rw [List.mem_append] at hs
    rcases hs with hs | hs
    · exact (h3.each s hs).same same
    · simp only [List.mem_singleton] at hs
      subst hs
      exact ((st_new w B n hBs hn).kept (below_alloc1 _ _)).same same
  · rw [List.pairwise_append]
    refine ⟨h.apart, List.pairwise_singleton _ _, fun s hs t ht => ?_⟩
    simp only [List.mem_singleton] at ht
    subst ht
    obtain ⟨c, hc⟩ := (h.each s hs).ov.blk
    obtain ⟨d, hd⟩ := (h.each s hs).ref.blk
    have l1 := blk_lt hc
    have l2 := blk_lt hd
    refine ⟨fun e => by simp only at e; omega, fun e => by simp only at e; omega, ?_⟩
    by_cases hr : s.rx = none
    · exact Or.inl hr
    · exact Or.inr hr

def pickN (c : Int) (n : Nat) : Nat := if c < 0 then (-(c + 1)).toNat % n else c.toNat % n
theorem pickN_lt (c : Int) {n : Nat} (h : 1 ≤ n) : pickN c n < n := by unfold pickN; split <;> exact Nat.mod_lt _ h
set_option maxRecDepth 100000 in
set_option maxHeartbeats 400000 in
theorem lpick_calls (c : Int) (n : Nat) (w : World) (hc1 : -9223372036854775808 ≤ c) (hc2 : c ≤ 9223372036854775807) (hn : 1 ≤ n) (hn2 : n ≤ 1000000000000000) :
    Calls Tryz.prog 40 #[.int .i64 c, .int .i64 n] w fun e w' => e = .returned (.int .i64 (pickN c n : Nat)) ∧ w = w' := by
  by_cases h0 : c < 0
  · have Hp : Hid (pickN c n = (-(c + 1)).toNat % n) := by unfold pickN; exact if_pos h0
    go_enter Tryz.func40, Tryz.ntmps40
    go_wp2
    go_ret
    obtain ⟨m, hm⟩ : ∃ m : Nat, c + 1 = -(m : Int) := ⟨(-(c + 1)).toNat, by omega⟩
    refine ⟨?_, rfl⟩
    have e : -((c + 1).tmod (n : Int)) = ((m % n : Nat) : Int) := by rw [hm, Int.neg_tmod, Int.neg_neg]; rfl
    show Ending.returned (Value.int IntKind.i64 (-((c + 1).tmod (n : Int)))) = _
    rw [e, unhide Hp, hm, Int.neg_neg, Int.toNat_natCast]
  · have Hp : Hid (pickN c n = c.toNat % n) := by unfold pickN; exact if_neg h0
    go_enter Tryz.func40, Tryz.ntmps40
    go_wp2
    go_ret
    obtain ⟨m, rfl⟩ : ∃ m : Nat, c = (m : Int) := ⟨c.toNat, by omega⟩
    exact ⟨by rw [unhide Hp, Int.toNat_natCast]; rfl, rfl⟩

theorem Tryz.infoPair : (Tryz.prog.info? 127).map (fun i => (i.zero, i.size, i.bytes)) = some (some (.agg #[.pointer none, .pointer none]), 2, 16) := by kernel_rfl

set_option maxRecDepth 100000 in
set_option maxHeartbeats 1000000 in
theorem lmade_no (n : Int) (w : World) (wb : Nat) (h : n < 0 ∨ 4000 < n) : Calls Tryz.prog 39 #[.pointer (some ⟨wb, 0, none⟩), .int .i64 n] w fun e w' => e = .returned (.bool true) ∧ w = w' := by
  have HN := hide h
  clear h
  go_enter Tryz.func39, Tryz.ntmps39
  go_wp2_with (first
    | (go_at_call 75; refine (lnum_calls 1 _ ⟨by decide, by decide⟩).mono ?_; rintro e w3 ⟨rfl, rfl⟩)
    | (go_at_call 74; refine (rNew_no n _ (unhide HN)).mono ?_; rintro e w2 ⟨rfl, rfl⟩)
    | (go_at_call 73; refine (oNew_no n _ (unhide HN)).mono ?_; rintro e w1 ⟨rfl, rfl⟩))
  go_ret
  exact ⟨rfl, rfl⟩

set_option maxRecDepth 100000 in
set_option maxHeartbeats 2000000 in
theorem lmade_yes (n : Nat) (w : World) (B wb : Nat) (s0 s1 s2 s3 : Addr) (v : Value) (S : List St) (h : LW w B wb s0 s1 s2 s3 v S) (hn : n ≤ 4000) (hS : S.length ≤ 5000000000000) : Calls Tryz.prog 39 #[.pointer (some ⟨wb, 0, none⟩), .int .i64 n] w fun e w' => e = .returned (.bool true) ∧ ∃ v' S', LW w' B wb s0 s1 s2 s3 v' S' ∧ S'.length = S.length + 1 ∧ Below B w w' := by
  obtain ⟨i0, hi, hz0, hz1, hz2⟩ := info_parts Tryz.infoPair
  obtain ⟨a, c, rfl⟩ := owns_slice h.own
  have HW := hide h
  have c0 : ∀ o1 o2, ((w.alloc o1).alloc o2).cell? ⟨wb, 0, none⟩ = some (.slice a S.length c) := fun o1 o2 => blk_cell (blk_alloc (blk_alloc h.blk _) _) rfl
  have hBs := h.un.se.size
  clear h
  go_enter Tryz.func39, Tryz.ntmps39
  go_wp2_with (first
    | (at_builtin; refine wpList_append_own _ rfl (.tmp 36) (.tmp 40) 58 rfl B 127 i0 (.agg #[.pointer none, .pointer none]) 2 16 Tryz.underlying58 hi hz0 hz1 hz2 rfl (by decide) (.slice a S.length c) S.length _ rfl ((((unhide HW).own.alloc _).alloc _).alloc _) ⟨w.heap.size + 1 + 1, 0, none⟩ 1 1 [.pointer (some ⟨w.heap.size, 0, none⟩), .pointer (some ⟨w.heap.size + 1, 0, none⟩)] rfl rfl (two_new (by simp)) (by intro u hu; simp at hu; rcases hu with rfl | rfl <;> rfl) (by unfold maxLen; omega) (by omega) (by simp; omega) ?_; intro v3 w3 ho3 hg3 _; obtain ⟨g3, c3, rfl⟩ := ownsRow_form ho3 (by omega); have HA := hide ((unhide HW).add hn hg3 ho3); have d0 := blk_cell (i := 0) (unhide HA).2.1 rfl; have f0 := blk_frozen (unhide HA).2.1 0; clear ho3 hg3)
    | (go_at_call 75; refine (lnum_calls 0 _ ⟨by decide, by decide⟩).mono ?_; rintro e w3 ⟨rfl, rfl⟩)
    | (go_at_call 74; refine (rNew_yes n _ hn).mono ?_; rintro e w2 ⟨rfl, rfl⟩)
    | (go_at_call 73; refine (oNew_yes n _ hn).mono ?_; rintro e w1 ⟨rfl, rfl⟩))
  go_ret
  exact ⟨rfl, _, _, (unhide HA).1, by simp, (unhide HA).2.2⟩

end Go.Proofs.YtomiepknmmpflaaGreatDoor

namespace Go.Proofs.YtomiepknmmpflaaGreatDoor
open Go.RowKit Go.Joins

def StepPost (B wb : Nat) (s0 s1 s2 s3 : Addr) (N : Nat) (w : World) (e : Ending) (w' : World) : Prop := e = .returned (.bool true) ∧ ∃ v' S', LW w' B wb s0 s1 s2 s3 v' S' ∧ S'.length ≤ N + 1 ∧ Below B w w'
theorem add_next (b : Addr) (m t : Nat) (h : 1 ≤ t) : (⟨(b.add m).block, (b.add m).off + t, none⟩ : Addr) = b.add (m + t) := by
  unfold Addr.add
  by_cases hm : m = 0
  · subst hm
    simp
    omega
  · rw [if_neg hm, if_neg (by omega)]
    simp; omega
def Script (w : World) (a : Addr) (n : Nat) : Prop := ∀ i, i < n → ∃ (k W x y : Int) (nm ot tx : ByteArray), OpOk W x y tx ∧
  w.cell? (a.add (i * 7)) = some (.int .i64 k) ∧ w.cell? (a.add (i * 7 + 1)) = some (.int .i64 W) ∧ w.cell? (a.add (i * 7 + 2)) = some (.int .i64 x) ∧ w.cell? (a.add (i * 7 + 3)) = some (.int .i64 y) ∧
  w.cell? (a.add (i * 7 + 4)) = some (.string nm) ∧ w.cell? (a.add (i * 7 + 5)) = some (.string ot) ∧ w.cell? (a.add (i * 7 + 6)) = some (.string tx)

set_option maxRecDepth 100000 in
set_option maxHeartbeats 2000000 in
theorem lplays_calls (top : Int) (w : World) (a : Option Addr) (n c : Nat) (room : Int) (s0 s1 s2 s3 : Addr) (hu : Under w w.heap.size s0 s1 s2 s3) (hr1 : -9223372036854775808 ≤ room) (hr2 : room ≤ 9223372036854775807) (hn : n ≤ 2000000000000) (hsc : ∀ b, a = some b → (1 ≤ n → b.block < w.heap.size) ∧ Script w b n) (ha : a = none → n = 0)
    (step : ∀ (B wb : Nat) (v : Value) (S : List St) (k W x y : Int) (nm ot tx : ByteArray) (w1 : World), LW w1 B wb s0 s1 s2 s3 v S → k ≤ top → S.length ≤ 5000000000000 → OpOk W x y tx → Calls Tryz.prog 41 #[.pointer (some ⟨wb, 0, none⟩), .agg #[.int .i64 k, .int .i64 W, .int .i64 x, .int .i64 y, .string nm, .string ot, .string tx]] w1 (StepPost B wb s0 s1 s2 s3 S.length w1)) :
    Calls Tryz.prog 14 #[.slice a n c, .int .i64 room, .int .i64 top] w fun e w' => e = .returned (.bool true) ∧ Below w.heap.size w w' := by
  have HU := hide hu
  have HST := hide step
  have HSC := hide hsc
  have hp := pickN_lt room (n := 4001) (by omega)
  obtain ⟨p, hpe⟩ : ∃ p, pickN room 4001 = p := ⟨_, rfl⟩
  rw [hpe] at hp
  have hpick : ∀ w', Calls Tryz.prog 40 #[.int .i64 room, .int .i64 4001] w' fun e w'' => e = .returned (.int .i64 (p : Nat)) ∧ w' = w'' := fun w' => by
    have := lpick_calls room 4001 w' hr1 hr2 (by omega) (by omega)
    rw [hpe] at this
    exact this
  have HP := hide hpick
  have H0 : Hid (LW (w.alloc (.cells #[.slice none 0 0] 60)) w.heap.size w.heap.size s0 s1 s2 s3 (.slice none 0 0) []) :=
    ⟨hu.kept (below_alloc1 w _), blk_new _ _, World.ownsRow_nil _ _ _ _, fun s hs => absurd hs List.not_mem_nil, List.Pairwise.nil, Nat.le_refl _⟩
  clear hu step hpe hpick hsc
  go_enter Tryz.func14, Tryz.ntmps14
  go_wp2_with (first
    | (go_at_call 39; refine (lmade_yes p _ _ _ s0 s1 s2 s3 _ _ (unhide H0) (by omega) (by simp)).mono ?_; rintro e w1 ⟨rfl, v1, S1, h1, hl1, hb1⟩)
    | (go_at_call 40; refine (unhide HP _).mono ?_; rintro e w' ⟨rfl, rfl⟩))
  go_loopw [9] (fun i wr => ∃ (k : Nat) (v : Value) (S : List St), k ≤ n ∧ i = .int .i64 k ∧ LW wr w.heap.size w.heap.size s0 s1 s2 s3 v S ∧ S.length ≤ k + 1 ∧ Below w.heap.size w wr) (fun i _ => n - (intOf i).toNat)
  case atStart => exact ⟨0, v1, S1, Nat.zero_le _, rfl, h1, by rw [hl1]; exact Nat.le_refl _, (below_alloc1 w _).trans hb1⟩
  case round =>
    obtain ⟨k, v, S, hk, rfl, hlw, hSl, hbel⟩ := hrel
    have HLW := hide hlw
    have HBL := hide hbel
    have hsz := hbel.size
    clear hlw h1 hl1 hb1
    by_cases hlt : k < n
    · obtain ⟨b, rfl⟩ : ∃ b, a = some b := by
        cases a with
        | none => have := ha rfl; omega
        | some b => exact ⟨b, rfl⟩
      obtain ⟨hbb0, hscr⟩ := unhide HSC b rfl
      have hbb := hbb0 (by omega)
      obtain ⟨kd, W, x, y, nm, ot, tx, hok, d0, d1, d2, d3, d4, d5, d6⟩ := hscr k hlt
      have hc : ∀ t, wr.cell? (b.add t) = w.cell? (b.add t) := fun t => hbel.cell (p := b.add t) (by rw [add_block]; exact hbb)
      rw [← hc] at d0 d1 d2 d3 d4 d5 d6
      rw [← add_next b (k * 7) _ (by omega)] at d1 d2 d3 d4 d5 d6
      clear hc hscr hbel
      have HOK := hide hok
      clear hok
      by_cases h7 : top < kd
      · go_wp2_with fail
        go_roundw
        case rel => exact ⟨k + 1, v, S, by omega, by go_num, (unhide HLW).kept (below_alloc1 wr _), by omega, (unhide HBL).alloc hsz _⟩
        case measure => simp [intOf]; omega
      · have hk7 : kd ≤ top := by omega
        have HLA := hide ((unhide HLW).kept (below_alloc1 wr (.cells #[.int .i64 kd, .int .i64 W, .int .i64 x, .int .i64 y, .string nm, .string ot, .string tx] 63)))
        go_wp2_with (go_at_call 41; refine (unhide HST _ _ v S kd W x y nm ot tx _ (unhide HLA) hk7 (by omega) (unhide HOK)).mono ?_; rintro e w2 ⟨rfl, v2, S2, l2, n2, b2⟩)
        go_roundw
        case rel => exact ⟨k + 1, v2, S2, by omega, by go_num, l2, by omega, ((unhide HBL).alloc hsz _).trans b2⟩
        case measure => simp [intOf]; omega
    · go_wp2_with fail
      go_ret
      exact ⟨rfl, unhide HBL⟩

end Go.Proofs.YtomiepknmmpflaaGreatDoor

namespace Go.Proofs.YtomiepknmmpflaaGreatDoor
open Go.ChangeShapes Go.WideShapes Go.ChangeAt Go.RowKit

theorem Tryz.own : ownKnob Tryz.prog.godebug = none := by kernel_rfl
theorem Tryz.g0 : Tryz.prog.globalNamed "overlay/overlay.errNone" = some 0 := by kernel_rfl
theorem Tryz.g1 : Tryz.prog.globalNamed "overlay/overlay.errMissing" = some 1 := by kernel_rfl
theorem Tryz.g2 : Tryz.prog.globalNamed "overlay/overlay.errCycle" = some 2 := by kernel_rfl
theorem Tryz.g3 : Tryz.prog.globalNamed "overlay/overlay.errCorrupt" = some 3 := by kernel_rfl
theorem Tryz.g4 : Tryz.prog.globalNamed "errors.errorType" = some 4 := by kernel_rfl
theorem Tryz.gt0 : (Tryz.prog.globals[0]?).map (·.type) = some 80 := by kernel_rfl
theorem Tryz.gt1 : (Tryz.prog.globals[1]?).map (·.type) = some 80 := by kernel_rfl
theorem Tryz.gt2 : (Tryz.prog.globals[2]?).map (·.type) = some 80 := by kernel_rfl
theorem Tryz.gt3 : (Tryz.prog.globals[3]?).map (·.type) = some 80 := by kernel_rfl
theorem Tryz.cellsES : Tryz.prog.cellsOf 312 = 1 := by kernel_rfl
theorem Tryz.cellsS : Tryz.prog.cellsOf 9 = 1 := by kernel_rfl
theorem Tryz.rt : (Tryz.prog.cutTypes.find? (·.1 == "internal/reflectlite.rtype")).map (·.2) = some 259 := by kernel_rfl
theorem Tryz.tsize : Tryz.prog.types.size = 324 := by kernel_rfl
theorem Tryz.oneRow : ((List.range 324).filter fun t => Tryz.prog.rowNamed t [101, 114, 114, 111, 114]) = [80] := by kernel_rfl
theorem Tryz.star : "*" ++ "errors.errorString" = "*errors.errorString" := by decide
theorem Tryz.rowES (u : TypeId) (h : Tryz.prog.typeName? 3 u = some "*errors.errorString") : u = 293 :=
  typeName_ptr_named (nm := "errors.errorString") (by rw [Tryz.star]; kernel_rfl) (by kernel_rfl) (by decide) u (by rw [Tryz.star]; exact h)
theorem door_met (os : Os) (args : Array Value) : laidMetH Tryz.prog Rows.filesRow.laid ((World.doorLaid Tryz.prog 4000 os).forCall (fun _ _ => 0) ⟨#[], args, []⟩).memory :=
  laidMetH_of_parts3 (fuel := 8) (laidMet_of_run' 8 (by kernel_rfl) (by kernel_rfl)) (by kernel_rfl) (by kernel_rfl)

theorem laid_four {P : Program} {n0 n1 n2 n3 nm : String} {x0 x1 x2 x3 : List UInt8} {W : World} {g0 g1 g2 g3 : Nat} {ti tp te ts : TypeId} {ms : Array (String × TypeId)} {f : Field}
    (h : laidMet P [(n0, .iface nm (.ptr (.agg [.lit (.string x0)]))), (n3, .iface nm (.ptr (.agg [.lit (.string x3)]))), (n1, .iface nm (.ptr (.agg [.lit (.string x1)]))), (n2, .iface nm (.ptr (.agg [.lit (.string x2)])))] W)
    (k0 : P.globalNamed n0 = some g0) (k1 : P.globalNamed n1 = some g1) (k2 : P.globalNamed n2 = some g2) (k3 : P.globalNamed n3 = some g3)
    (j0 : (P.globals[g0]?).map (·.type) = some ti) (j1 : (P.globals[g1]?).map (·.type) = some ti) (j2 : (P.globals[g2]?).map (·.type) = some ti) (j3 : (P.globals[g3]?).map (·.type) = some ti)
    (hi : P.underlying ti = some (.interface ms)) (hrow : ∀ u, P.typeName? 3 u = some nm → u = tp) (hp : P.underlying tp = some (.pointer te)) (he : P.underlying te = some (.struct #[f])) (hft : f.type = ts) (hfo : f.offset = 0) (hs : P.underlying ts = some .string) (hc : P.cellsOf te = 1) (hcs : P.cellsOf ts = 1) :
    ∃ a0 a1 a2 a3 : Addr, (W.cell? ⟨g0, 0, none⟩ = some (.iface tp (.pointer (some a0))) ∧ W.cell? ⟨g1, 0, none⟩ = some (.iface tp (.pointer (some a1))) ∧ W.cell? ⟨g2, 0, none⟩ = some (.iface tp (.pointer (some a2))) ∧ W.cell? ⟨g3, 0, none⟩ = some (.iface tp (.pointer (some a3)))) ∧
      ((∃ c t, W.heap[a0.block]? = some (.cells c t (0, 0))) ∧ (∃ c t, W.heap[a1.block]? = some (.cells c t (0, 0))) ∧ (∃ c t, W.heap[a2.block]? = some (.cells c t (0, 0))) ∧ (∃ c t, W.heap[a3.block]? = some (.cells c t (0, 0)))) ∧
      a0 ≠ a1 ∧ a0 ≠ a2 ∧ a0 ≠ a3 ∧ a1 ≠ a2 ∧ a1 ≠ a3 ∧ a2 ≠ a3 := by
  obtain ⟨ps, ⟨g0', t0', cs0, f0, p0, q0, hg0, ht0, hv0, hd0, ⟨g3', t3', cs3, f3, p3, q3, hg3, ht3, hv3, hd3, ⟨g1', t1', cs1, f1, p1, q1, hg1, ht1, hv1, hd1, ⟨g2', t2', cs2, f2, p2, q2, hg2, ht2, hv2, hd2, _, e2⟩, e1⟩, e3⟩, e0⟩, hnd, hrows⟩ := h
  obtain rfl := Option.some.inj (k0.symm.trans hg0)
  obtain rfl := Option.some.inj (k1.symm.trans hg1)
  obtain rfl := Option.some.inj (k2.symm.trans hg2)
  obtain rfl := Option.some.inj (k3.symm.trans hg3)
  obtain rfl := Option.some.inj (j0.symm.trans ht0)
  obtain rfl := Option.some.inj (j1.symm.trans ht1)
  obtain rfl := Option.some.inj (j2.symm.trans ht2)
  obtain rfl := Option.some.inj (j3.symm.trans ht3)
  subst e2; subst e1; subst e3; subst e0
  obtain ⟨l0⟩ := cs0
  obtain ⟨l1⟩ := cs1
  obtain ⟨l2⟩ := cs2
  obtain ⟨l3⟩ := cs3
  have ok0 : ∀ u v, l0 = [.iface u v] → Value.okWide P W .any 0 u v := fun u v e => by
    subst e
    exact (hrows g0 0 (by simp [MemPlace.row])).2 u v (by simpa using World.var?_cell hg0 hv0 0)
  have ok1 : ∀ u v, l1 = [.iface u v] → Value.okWide P W .any 0 u v := fun u v e => by
    subst e
    exact (hrows g1 0 (by simp [MemPlace.row])).2 u v (by simpa using World.var?_cell hg1 hv1 0)
  have ok2 : ∀ u v, l2 = [.iface u v] → Value.okWide P W .any 0 u v := fun u v e => by
    subst e
    exact (hrows g2 0 (by simp [MemPlace.row])).2 u v (by simpa using World.var?_cell hg2 hv2 0)
  have ok3 : ∀ u v, l3 = [.iface u v] → Value.okWide P W .any 0 u v := fun u v e => by
    subst e
    exact (hrows g3 0 (by simp [MemPlace.row])).2 u v (by simpa using World.var?_cell hg3 hv3 0)
  obtain ⟨a0, y0, rfl, _, _, _, rfl⟩ := errorString_of_trod hi hrow hp he hft hfo hs hc hcs hd0 ok0
  obtain ⟨a1, y1, rfl, _, _, _, rfl⟩ := errorString_of_trod hi hrow hp he hft hfo hs hc hcs hd1 ok1
  obtain ⟨a2, y2, rfl, _, _, _, rfl⟩ := errorString_of_trod hi hrow hp he hft hfo hs hc hcs hd2 ok2
  obtain ⟨a3, y3, rfl, _, _, _, rfl⟩ := errorString_of_trod hi hrow hp he hft hfo hs hc hcs hd3 ok3
  have b0 := (hrows a0.block a0.off (by simp [MemPlace.row])).1
  have b1 := (hrows a1.block a1.off (by simp [MemPlace.row])).1
  have b2 := (hrows a2.block a2.off (by simp [MemPlace.row])).1
  have b3 := (hrows a3.block a3.off (by simp [MemPlace.row])).1
  refine ⟨a0, a1, a2, a3, ⟨by simpa using World.var?_cell hg0 hv0 0, by simpa using World.var?_cell hg1 hv1 0, by simpa using World.var?_cell hg2 hv2 0, by simpa using World.var?_cell hg3 hv3 0⟩, ⟨b0, b1, b2, b3⟩, ?_, ?_, ?_, ?_, ?_, ?_⟩
  all_goals (rintro rfl; simp [MemPlace.row] at hnd)

theorem sents_of_laid {W : World} (h : laidMet Tryz.prog [("overlay/overlay.errNone", Rows.laid_overlay_overlay_errNone), ("overlay/overlay.errCorrupt", Rows.laid_overlay_overlay_errCorrupt), ("overlay/overlay.errMissing", Rows.laid_overlay_overlay_errMissing), ("overlay/overlay.errCycle", Rows.laid_overlay_overlay_errCycle)] W) (h4 : 4 < W.heap.size) :
    ∃ s0 s1 s2 s3, Sents W W.heap.size s0 s1 s2 s3 := by
  obtain ⟨a0, a1, a2, a3, ⟨c0, c1, c2, c3⟩, ⟨b0, b1, b2, b3⟩, n01, n02, n03, n12, n13, n23⟩ := laid_four h Tryz.g0 Tryz.g1 Tryz.g2 Tryz.g3 Tryz.gt0 Tryz.gt1 Tryz.gt2 Tryz.gt3 Tryz.underlying80 Tryz.rowES Tryz.underlying293 Tryz.underlying312 rfl rfl Tryz.underlying9 Tryz.cellsES Tryz.cellsS
  exact ⟨a0, a1, a2, a3, { g0 := c0, g1 := c1, g2 := c2, g3 := c3, b0 := b0, b1 := b1, b2 := b2, b3 := b3, n01 := n01, n02 := n02, n03 := n03, n12 := n12, n13 := n13, n23 := n23, l := h4, l0 := by obtain ⟨c, t, e⟩ := b0; exact blk_lt e, l1 := by obtain ⟨c, t, e⟩ := b1; exact blk_lt e, l2 := by obtain ⟨c, t, e⟩ := b2; exact blk_lt e, l3 := by obtain ⟨c, t, e⟩ := b3; exact blk_lt e, size := Nat.le_refl _ }⟩

theorem under_of_laid {W : World} (h : laidMetH Tryz.prog Rows.filesRow.laid W) : ∃ s0 s1 s2 s3, Under W W.heap.size s0 s1 s2 s3 := by
  have h' : laidMet Tryz.prog [("math/bits.deBruijn32tab", Rows.laid_math_bits_deBruijn32tab), ("math/bits.deBruijn64tab", Rows.laid_math_bits_deBruijn64tab), ("internal/strconv.uint64pow10", Rows.laid_internal_strconv_uint64pow10), ("overlay/overlay.errNone", Rows.laid_overlay_overlay_errNone), ("overlay/overlay.errCorrupt", Rows.laid_overlay_overlay_errCorrupt), ("overlay/overlay.errMissing", Rows.laid_overlay_overlay_errMissing), ("overlay/overlay.errCycle", Rows.laid_overlay_overlay_errCycle)] W ∧ handlesMet Tryz.prog [("errors.errorType", Rows.laid_errors_errorType)] W := h
  obtain ⟨name, u, ty, e1, e2, e3, e4, e5⟩ := h'.2 _ (List.mem_singleton.2 rfl)
  have en : name = [101, 114, 114, 111, 114] := (Option.some.inj e1).symm
  subst en
  obtain rfl := Option.some.inj (Tryz.rt.symm.trans e2)
  have hm : ty ∈ (List.range 324).filter fun t => Tryz.prog.rowNamed t [101, 114, 114, 111, 114] := List.mem_filter.2 ⟨List.mem_range.2 (by rw [← Tryz.tsize]; exact e3), e4⟩
  rw [Tryz.oneRow] at hm
  obtain rfl := List.mem_singleton.1 hm
  have hh : typeHandle Tryz.prog 80 = .pointer (some ⟨8, 80, none⟩) := by kernel_rfl
  rw [hh] at e5
  have g4 : W.cell? ⟨4, 0, none⟩ = some (.iface 259 (.agg #[.pointer (some ⟨8, 80, none⟩)])) := by simpa using World.var?_cell Tryz.g4 e5 0
  obtain ⟨s0, s1, s2, s3, hs⟩ := sents_of_laid h'.1.tail.tail.tail (cell_lt g4)
  exact ⟨s0, s1, s2, s3, hs, g4⟩

end Go.Proofs.YtomiepknmmpflaaGreatDoor

