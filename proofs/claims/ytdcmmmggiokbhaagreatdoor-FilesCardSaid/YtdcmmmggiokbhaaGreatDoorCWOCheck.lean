/- The program's whereOf. -/
import Derived.Test.YtdcmmmggiokbhaaGreatDoorCWAs
import Derived.Test.YtdcmmmggiokbhaaGreatDoorCWTally
import Derived.Test.YtdcmmmggiokbhaaGreatDoorCWOLoad
import Derived.Test.YtdcmmmggiokbhaaGreatDoorCWIs
namespace Go.Proofs.YtdcmmmggiokbhaaGreatDoor
open Go.RowKit Go.Joins

/-- The fault's place, or nothing. -/
def whOf : Option ByteArray → ByteArray
  | some wh => wh
  | none => ⟨#[]⟩
theorem Er.deep {w : World} {b : Addr} {d : Nat} {t : TypeId} {a : Addr} {wh : Option ByteArray} (h : Er w b d wh t a) : 1 ≤ d → ∃ x, wh = some x := by
  induction d generalizing t a with
  | zero => intro h; omega
  | succ d ih =>
    rcases h.parts with ⟨e, _⟩ | ⟨f, x, e, rfl, rfl, rfl, hf⟩ | ⟨p, n, nm, t', a', e, he, rfl, rfl, hp⟩
    · omega
    · exact fun _ => ⟨_, rfl⟩
    · obtain rfl : d = n + 1 := by omega
      exact fun _ => ih he (by omega)
theorem Er.shallow {w : World} {b : Addr} {d : Nat} {t : TypeId} {a : Addr} (h : Er w b d none t a) : t = 257 ∧ a = b := by
  rcases h.parts with ⟨_, _, e, f⟩ | ⟨f, x, _, e, _⟩ | ⟨p, n, nm, t', a', e, he, rfl, rfl, hp⟩
  · exact ⟨e.symm, f.symm⟩
  · cases e
  · obtain ⟨x, hx⟩ := he.deep (by omega)
    cases hx

set_option maxRecDepth 100000 in
set_option maxHeartbeats 2000000 in
theorem owhereOf_calls (b : Addr) (d : Nat) (wh : Option ByteArray) (t : TypeId) (a : Addr) (w : World) (he : Er w b d wh t a) (hwh : (whOf wh).size ≤ 1000) (hg : w.cell? ⟨4, 0, none⟩ = some (.iface 224 (.agg #[.pointer (some ⟨8, 120, none⟩)]))) :
    Calls Tryz.prog 71 #[.iface t (.pointer (some a))] w fun e w' => e = .returned (.string (whOf wh)) ∧ Below w.heap.size w w' := by
  have HG : Hid ((w.alloc (.cells #[.pointer none] 163)).cell? ⟨4, 0, none⟩ = some (.iface 224 (.agg #[.pointer (some ⟨8, 120, none⟩)]))) := (World.cell?_alloc_past _ _ _ (cell_lt hg)).trans hg
  have HE := hide (he.kept (below_alloc1 w (.cells #[.pointer none] 163)))
  clear hg
  cases wh with
  | none =>
    obtain ⟨rfl, rfl⟩ := he.shallow
    clear he
    go_enter Tryz.func71, Tryz.ntmps71
    go_wp2_with (go_at_call 96; refine (As_bare _ w.heap.size _ (unhide HG)).mono ?_; rintro e w1 ⟨rfl, hb1⟩)
    go_ret
    exact ⟨rfl, (below_alloc1 w _).trans (hb1.mono (by simp))⟩
  | some wh =>
    clear he
    go_enter Tryz.func71, Tryz.ntmps71
    go_wp2_with (first | (go_at_call 65; refine (oClone_calls wh _ hwh).mono ?_; rintro e w2 ⟨rfl, hb2⟩) | (go_at_call 96; refine (As_found b d wh t a w.heap.size (.pointer none) _ (unhide HE) (blk_new _ _) (unhide HG)).mono ?_; rintro e w1 ⟨rfl, f', h1, h2, hb1⟩))
    go_ret
    exact ⟨rfl, ((below_alloc1 w _).trans hb1).trans (hb2.mono (by have := hb1.size; simp at this; omega))⟩

end Go.Proofs.YtdcmmmggiokbhaaGreatDoor

/- The program's Check. -/
namespace Go.Proofs.YtdcmmmggiokbhaaGreatDoor
open Go.RowKit Go.Joins

theorem oparse_yes (s : ByteArray) (te : TypeId) (pe : Value) (w : World) (hi : Ov.isImage s) (hv : w.cell? ⟨3, 0, none⟩ = some (.iface te pe)) (hg3 : 3 < w.heap.size) :
    Calls Tryz.prog 73 #[.string s] w fun e w' => Below w.heap.size w w' ∧ ∃ g, e = .returned (.tuple #[.agg #[.string (Ov.backing s), .slice (some ⟨g, 0, none⟩) (Ov.many s) (Ov.many s), .int .i64 (Ov.lost s)], .nilIface]) ∧ w.heap.size ≤ g ∧ w'.heap[g]? = some (.cells (rowTo s (Ov.many s)).toArray 142 (0, 0)) :=
  (oparseImage_calls s te pe w hv hg3).mono fun _ _ h => ⟨h.1, h.2.elim (fun k => k.2) (fun k => absurd hi k.1)⟩
theorem oparse_no (s : ByteArray) (te : TypeId) (pe : Value) (w : World) (hi : ¬ Ov.isImage s) (hv : w.cell? ⟨3, 0, none⟩ = some (.iface te pe)) (hg3 : 3 < w.heap.size) :
    Calls Tryz.prog 73 #[.string s] w fun e w' => Below w.heap.size w w' ∧ e = .returned (.tuple #[.agg #[.string ⟨#[]⟩, .slice none 0 0, .int .i64 0], .iface te pe]) :=
  (oparseImage_calls s te pe w hv hg3).mono fun _ _ h => ⟨h.1, h.2.elim (fun k => absurd k.1 hi) (fun k => k.2)⟩
theorem lost_nat {s : ByteArray} : ∃ t : Nat, Ov.lost s = (t : Int) := ⟨(Ov.lost s).toNat, by have := Ov.lostTo_bd s (Ov.datas s); unfold Ov.lost; omega⟩
theorem get_here {l : Ov.Files} {x : ByteArray} {s : ByteArray} {v : Value} {b off base : Nat} {w : World} (hl : l.length ≤ 8) (hp : Ov.place l x < l.length) (hs : Ov.fileAt l (Ov.place l x) = s) (h : OwnsRows w base v l) (hc : w.cell? ⟨b, off, none⟩ = some v) (hb : b < w.heap.size) :
    Calls Tryz.prog 67 #[.pointer (some ⟨b, off, none⟩), .string x] w fun e w' => e = .returned (.tuple #[.string s, .bool true]) ∧ Below w.heap.size w w' := by
  have h1 : (Ov.dumpF l x).1 = s := by unfold Ov.dumpF; rw [if_pos hp]; exact hs
  have h2 : Ov.has l x = true := by unfold Ov.has; exact decide_eq_true hp
  have := oSget_calls l v x b off base w hl h hc hb
  rw [h1, h2] at this
  exact this
theorem get_gone {l : Ov.Files} {x : ByteArray} {v : Value} {b off base : Nat} {w : World} (hl : l.length ≤ 8) (hp : ¬ Ov.place l x < l.length) (h : OwnsRows w base v l) (hc : w.cell? ⟨b, off, none⟩ = some v) (hb : b < w.heap.size) :
    Calls Tryz.prog 67 #[.pointer (some ⟨b, off, none⟩), .string x] w fun e w' => e = .returned (.tuple #[.string ⟨#[]⟩, .bool false]) ∧ Below w.heap.size w w' := by
  have h1 : (Ov.dumpF l x).1 = ⟨#[]⟩ := by unfold Ov.dumpF; rw [if_neg hp]
  have h2 : Ov.has l x = false := by unfold Ov.has; exact decide_eq_false hp
  have := oSget_calls l v x b off base w hl h hc hb
  rw [h1, h2] at this
  exact this

open Go.MuLone in
set_option maxRecDepth 100000 in
set_option maxHeartbeats 1000000 in
theorem oCheck_calls (l : Ov.Files) (x : ByteArray) (b B : Nat) (r : Option Nat) (room : Nat) (s0 s1 s2 s3 : Addr) (w : World) (hl8 : l.length ≤ 8) (h : OvRep w b r room l) (hs : Sents w B s0 s1 s2 s3) (hB : B ≤ b) :
    Calls Tryz.prog 40 #[.pointer (some ⟨b, 0, none⟩), .string x] w fun e w' => e = .returned (.tuple #[.string (checkF l x).1, .int .i64 (checkF l x).2]) ∧ OvLeft w b r room l w' := by
  obtain ⟨v, h1, h2, h3, h4⟩ := id h
  have HR := hide h
  have c0 : w.cell? ⟨b, 0, none⟩ = some (.int .i32 0) := blk_cell h1 rfl
  have f0 := blk_frozen h1 0
  have hbl := blk_lt h1
  have HB := hide (blk_set_same (i := 0) h1 (.int .i32 1))
  have HO := hide (owns_set h2 h3 (a := ⟨b, 0, none⟩) (.int .i32 1))
  have HS := hide (hs.kept ((Below.refl B w).setCell (p := ⟨b, 0, none⟩) hB (.int .i32 1)))
  have hl4 := hs.l
  have hsz := hs.size
  clear h h1 h2 h3 h4 hs
  by_cases hp : Ov.place l x < l.length
  · obtain ⟨s, hse⟩ : ∃ s, Ov.fileAt l (Ov.place l x) = s := ⟨_, rfl⟩
    have HP := hide hp
    have HSE := hide hse
    by_cases him : Ov.isImage s
    · have HI := hide him
      have HD : Hid (checkF l x = (tally s, 0)) := by unfold checkF; rw [if_pos hp, hse, if_pos ((Ov.imageB_iff s).2 him)]; exact rfl
      obtain ⟨t, ht⟩ := lost_nat (s := s)
      obtain ⟨m, hm⟩ : ∃ m, Ov.many s = m := ⟨_, rfl⟩
      have HLT := hide ht
      have HM := hide hm
      clear hp hse him ht hm
      go_enter_defers Tryz.func40, Tryz.ntmps40
      go_wp2_with (first
        | (go_at_call 74; refine (otally_calls s g m t _ (unhide HI) (unhide HM) (unhide HLT) (blk_alloc (unhide HG) _)).mono ?_; rintro e w4 ⟨rfl, hb4⟩)
        | (go_at_call 73; refine (oparse_yes s _ _ _ (unhide HI) (unhide HS2).g3 (by have := (unhide HS2).l; have := (unhide HS2).size; omega)).mono ?_; rintro e w3 ⟨hb3, g, he, hg, hrow⟩; rw [unhide HM, unhide HLT] at he; rw [unhide HM] at hrow; have HG := hide hrow; subst he; clear hrow)
        | (go_at_call 67; refine (get_here hl8 (unhide HP) (unhide HSE) (unhide HO) (blk_cell (unhide HB) rfl) (by simpa using hbl)).mono ?_; rintro e w2 ⟨rfl, hb2⟩; have HS2 := hide ((unhide HS).keptAll hb2))
        | (go_at_call 42; refine (lock_free muLib ⟨b, 0, none⟩ _ c0 f0).mono ?_; rintro e w1 ⟨rfl, rfl⟩))
      have hb5 : Below (w.setCell ⟨b, 0, none⟩ (.int .i32 1)).heap.size (w.setCell ⟨b, 0, none⟩ (.int .i32 1)) w4 := ((hb2.trans (hb3.mono hb2.size)).alloc (Nat.le_trans hb2.size hb3.size) _).trans (hb4.mono (by have h5 := hb2.size; have h6 := hb3.size; simp at h5 h6 ⊢; omega))
      refine leaves_cons (f := 43) (args := #[.pointer (some ⟨b, 0, none⟩)]) (by simp) (by simp [go_sem]) ?_
      refine (unlock_deferred muLib ⟨b, 0, none⟩ .returning _ ?_ ?_).mono ?_
      · exact (hb5.cell (p := ⟨b, 0, none⟩) (by simpa using hbl)).trans (blk_cell (unhide HB) rfl)
      · exact (hb5.frozen (p := ⟨b, 0, none⟩) (by simpa using hbl)).trans (blk_frozen (unhide HB) 0)
      rintro e u' w'' ⟨rfl, rfl, rfl⟩
      refine ⟨_, results_tmp2 rfl _ _ _, ?_, OvLeft.quiet (unhide HR) hb5⟩
      rw [unhide HD]; rfl
    · have HI := hide him
      have HD : Hid (checkF l x = (⟨#[]⟩, 5)) := by unfold checkF; rw [if_pos hp, hse, if_neg (fun k => him ((Ov.imageB_iff s).1 k))]; exact rfl
      clear hp hse him
      go_enter_defers Tryz.func40, Tryz.ntmps40
      go_wp2_with (first
        | (go_at_call 70; refine (oerrnoOf_calls s0 s1 s2 s3 s3 5 B 0 none _ s3 _ .corrupt .bare ((unhide HS3).keptAll (below_alloc1 _ _))).mono ?_; rintro e w4 ⟨rfl, rfl⟩)
        | (go_at_call 73; refine (oparse_no s _ _ _ (unhide HI) (unhide HS2).g3 (by have := (unhide HS2).l; have := (unhide HS2).size; omega)).mono ?_; rintro e w3 ⟨hb3, rfl⟩; have HS3 := hide ((unhide HS2).keptAll hb3))
        | (go_at_call 67; refine (get_here hl8 (unhide HP) (unhide HSE) (unhide HO) (blk_cell (unhide HB) rfl) (by simpa using hbl)).mono ?_; rintro e w2 ⟨rfl, hb2⟩; have HS2 := hide ((unhide HS).keptAll hb2))
        | (go_at_call 42; refine (lock_free muLib ⟨b, 0, none⟩ _ c0 f0).mono ?_; rintro e w1 ⟨rfl, rfl⟩))
      have hb5 := (hb2.trans (hb3.mono hb2.size)).alloc (Nat.le_trans hb2.size hb3.size) (.cells #[.string ⟨#[]⟩, .slice none 0 0, .int .i64 0] 87)
      refine leaves_cons (f := 43) (args := #[.pointer (some ⟨b, 0, none⟩)]) (by simp) (by simp [go_sem]) ?_
      refine (unlock_deferred muLib ⟨b, 0, none⟩ .returning _ ?_ ?_).mono ?_
      · exact (hb5.cell (p := ⟨b, 0, none⟩) (by simpa using hbl)).trans (blk_cell (unhide HB) rfl)
      · exact (hb5.frozen (p := ⟨b, 0, none⟩) (by simpa using hbl)).trans (blk_frozen (unhide HB) 0)
      rintro e u' w'' ⟨rfl, rfl, rfl⟩
      refine ⟨_, results_tmp2 rfl _ _ _, ?_, OvLeft.quiet (unhide HR) hb5⟩
      rw [unhide HD]; rfl
  · have HP := hide hp
    have HD : Hid (checkF l x = (⟨#[]⟩, 4)) := by unfold checkF; rw [if_neg hp]; exact rfl
    clear hp
    go_enter_defers Tryz.func40, Tryz.ntmps40
    go_wp2_with (first | (go_at_call 67; refine (get_gone hl8 (unhide HP) (unhide HO) (blk_cell (unhide HB) rfl) (by simpa using hbl)).mono ?_; rintro e w2 ⟨rfl, hb2⟩) | (go_at_call 42; refine (lock_free muLib ⟨b, 0, none⟩ _ c0 f0).mono ?_; rintro e w1 ⟨rfl, rfl⟩))
    refine leaves_cons (f := 43) (args := #[.pointer (some ⟨b, 0, none⟩)]) (by simp) (by simp [go_sem]) ?_
    refine (unlock_deferred muLib ⟨b, 0, none⟩ .returning _ ?_ ?_).mono ?_
    · exact (hb2.cell (p := ⟨b, 0, none⟩) (by simpa using hbl)).trans (blk_cell (unhide HB) rfl)
    · exact (hb2.frozen (p := ⟨b, 0, none⟩) (by simpa using hbl)).trans (blk_frozen (unhide HB) 0)
    rintro e u' w'' ⟨rfl, rfl, rfl⟩
    refine ⟨_, results_tmp2 rfl _ _ _, ?_, OvLeft.quiet (unhide HR) hb2⟩
    rw [unhide HD]; rfl

end Go.Proofs.YtdcmmmggiokbhaaGreatDoor
