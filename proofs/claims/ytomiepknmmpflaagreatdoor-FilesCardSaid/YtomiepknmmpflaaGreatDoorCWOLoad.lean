/- The program's Load. -/
import Derived.Test.YtomiepknmmpflaaGreatDoorCPLoad
import Derived.Test.YtomiepknmmpflaaGreatDoorCWODrop2
namespace Go.Proofs.YtomiepknmmpflaaGreatDoor
open Go.RowKit Go.Joins

open Go.MuLone in
set_option maxRecDepth 100000 in
set_option maxHeartbeats 1000000 in
theorem oLoad_calls (l : Ov.Files) (x f : ByteArray) (b : Nat) (r : Option Nat) (room : Nat) (w : World) (hi : Ov.LI room l) (h : OvRep w b r room l) :
    Calls Tryz.prog 35 #[.pointer (some ⟨b, 0, none⟩), .string x, .string f] w fun e w' => e = .returned (.int .i64 (Ov.loadF room l x f).1) ∧ OvLeft w b r room (Ov.loadF room l x f).2 w' := by
  obtain ⟨v, h1, h2, h3, h4⟩ := id h
  have HR := hide h
  obtain ⟨a, c, rfl⟩ := owns_slice h2
  have c0 : w.cell? ⟨b, 0, none⟩ = some (.int .i32 0) := blk_cell h1 rfl
  have f0 := blk_frozen h1 0
  have hbl := blk_lt h1
  have HB := hide (blk_set_same (i := 0) h1 (.int .i32 1))
  have HO := hide (owns_set h2 h3 (a := ⟨b, 0, none⟩) (.int .i32 1))
  have H3 := hide h3
  have H4 := hide h4
  have hl8 := hi.len
  have HI := hide hi
  clear h h1 h2 h3 h4 hi
  cases hn : Ov.nameB x
  · have HL : Hid (Ov.loadF room l x f = (2, l)) := by unfold Ov.loadF; rw [if_pos hn]; exact rfl
    go_enter_defers Tryz.func35, Tryz.ntmps35
    go_wp2_with (first | (go_at_call 43; refine (lock_free muLib ⟨b, 0, none⟩ _ c0 f0).mono ?_; rintro e w1 ⟨rfl, rfl⟩) | (go_at_call 64; refine (oisName_calls _ _).mono ?_; rintro e w' ⟨rfl, hw⟩; obtain rfl := hw.symm))
    refine leaves_cons (f := 44) (args := #[.pointer (some ⟨b, 0, none⟩)]) (by simp) (by simp [go_sem]) ?_
    refine (unlock_deferred muLib ⟨b, 0, none⟩ .returning _ ?_ ?_).mono ?_
    · exact ((Below.refl (w.setCell ⟨b, 0, none⟩ (.int .i32 1)).heap.size (w.setCell ⟨b, 0, none⟩ (.int .i32 1))).cell (p := ⟨b, 0, none⟩) (by simpa using hbl)).trans (blk_cell (unhide HB) rfl)
    · exact ((Below.refl (w.setCell ⟨b, 0, none⟩ (.int .i32 1)).heap.size (w.setCell ⟨b, 0, none⟩ (.int .i32 1))).frozen (p := ⟨b, 0, none⟩) (by simpa using hbl)).trans (blk_frozen (unhide HB) 0)
    rintro e u' w'' ⟨rfl, rfl, rfl⟩
    refine ⟨_, results_tmp rfl _ _ _, ?_, ?_⟩
    · rw [unhide HL]; rfl
    · rw [unhide HL]; exact OvLeft.quiet (unhide HR) (Below.refl (w.setCell ⟨b, 0, none⟩ (.int .i32 1)).heap.size (w.setCell ⟨b, 0, none⟩ (.int .i32 1)))
  have hx1000 : x.size ≤ 1000 := Nat.le_trans (Ov.nameB_size hn) (by omega)
  by_cases hf : 1000 < f.size
  · have HL : Hid (Ov.loadF room l x f = (1, l)) := by unfold Ov.loadF; rw [if_neg (by rw [hn]; simp), if_pos (Or.inl hf)]; exact rfl
    go_enter_defers Tryz.func35, Tryz.ntmps35
    go_wp2_with (first | (go_at_call 43; refine (lock_free muLib ⟨b, 0, none⟩ _ c0 f0).mono ?_; rintro e w1 ⟨rfl, rfl⟩) | (go_at_call 64; refine (oisName_calls _ _).mono ?_; rintro e w' ⟨rfl, hw⟩; obtain rfl := hw.symm))
    refine leaves_cons (f := 44) (args := #[.pointer (some ⟨b, 0, none⟩)]) (by simp) (by simp [go_sem]) ?_
    refine (unlock_deferred muLib ⟨b, 0, none⟩ .returning _ ?_ ?_).mono ?_
    · exact ((Below.refl (w.setCell ⟨b, 0, none⟩ (.int .i32 1)).heap.size (w.setCell ⟨b, 0, none⟩ (.int .i32 1))).cell (p := ⟨b, 0, none⟩) (by simpa using hbl)).trans (blk_cell (unhide HB) rfl)
    · exact ((Below.refl (w.setCell ⟨b, 0, none⟩ (.int .i32 1)).heap.size (w.setCell ⟨b, 0, none⟩ (.int .i32 1))).frozen (p := ⟨b, 0, none⟩) (by simpa using hbl)).trans (blk_frozen (unhide HB) 0)
    rintro e u' w'' ⟨rfl, rfl, rfl⟩
    refine ⟨_, results_tmp rfl _ _ _, ?_, ?_⟩
    · rw [unhide HL]; rfl
    · rw [unhide HL]; exact OvLeft.quiet (unhide HR) (Below.refl (w.setCell ⟨b, 0, none⟩ (.int .i32 1)).heap.size (w.setCell ⟨b, 0, none⟩ (.int .i32 1)))
  have hf1000 : f.size ≤ 1000 := by omega
  by_cases h8 : 8 ≤ l.length
  · have hd8 : decide ((8 : Int) ≤ (l.length : Int)) = true := decide_eq_true (by omega)
    by_cases hp : Ov.place l x < l.length
    · have Hh : Ov.has l x = true := by unfold Ov.has; exact decide_eq_true hp
      have h9 := withF_eight (f := f) hl8 (Or.inl hp)
      have HLP : Hid (Ov.loadF room l x f = Ov.putF room l (Ov.withF l x f)) := by unfold Ov.loadF; rw [if_neg (by rw [hn]; simp), if_neg (by omega)]; exact rfl
      by_cases hrm : (room : Int) < addUp x f l
      · have h1 := hrm
        have HRM := hide hrm
        have HL : Hid (Ov.loadF room l x f = (9, l)) := by
          rw [unhide HLP]; unfold Ov.putF; rw [if_pos (by rw [addUp_total (unhide HI) x f hf1000] at h1; omega)]; exact rfl
        clear h1 hrm
        go_enter_defers Tryz.func35, Tryz.ntmps35
        go_wp2_with (first | (go_at_call 43; refine (lock_free muLib ⟨b, 0, none⟩ _ c0 f0).mono ?_; rintro e w1 ⟨rfl, rfl⟩) | (go_at_call 64; refine (oisName_calls _ _).mono ?_; rintro e w' ⟨rfl, hw⟩; obtain rfl := hw.symm) | (go_at_call 65; refine (oScount_calls l.length a c b 3 _ (blk_cell (unhide HB) rfl)).mono ?_; rintro e w' ⟨rfl, rfl⟩) | (go_at_call 66; refine (oShas_calls l _ x b 3 0 _ hl8 (unhide HO) (blk_cell (unhide HB) rfl) (by simpa using hbl)).mono ?_; rintro e w2 ⟨rfl, hb2⟩; have HB2 := hide hb2; clear hb2) | (go_at_call 67; refine (oClone_calls f _ hf1000).mono ?_; rintro e w3 ⟨rfl, hb3⟩; have HB3 : Hid (Below (w.setCell ⟨b, 0, none⟩ (.int .i32 1)).heap.size (w.setCell ⟨b, 0, none⟩ (.int .i32 1)) w3) := (unhide HB2).trans (hb3.mono (unhide HB2).size); clear hb3) | (go_at_call 53; refine (okeep_no l (.slice a l.length c) x f b room _ h9 (((unhide HB3).block b (by simpa using hbl)).trans (unhide HB)) (owns_all (unhide HO) (unhide HB3)) (unhide H3) hx1000 (unhide HRM)).mono ?_; rintro e w4 ⟨rfl, hb4⟩))
        have hb5 := (unhide HB3).trans (hb4.mono (unhide HB3).size)
        refine leaves_cons (f := 44) (args := #[.pointer (some ⟨b, 0, none⟩)]) (by simp) (by simp [go_sem]) ?_
        refine (unlock_deferred muLib ⟨b, 0, none⟩ .returning _ ?_ ?_).mono ?_
        · exact (hb5.cell (p := ⟨b, 0, none⟩) (by simpa using hbl)).trans (blk_cell (unhide HB) rfl)
        · exact (hb5.frozen (p := ⟨b, 0, none⟩) (by simpa using hbl)).trans (blk_frozen (unhide HB) 0)
        rintro e u' w'' ⟨rfl, rfl, rfl⟩
        refine ⟨_, results_tmp rfl _ _ _, ?_, ?_⟩
        · rw [unhide HL]; rfl
        · rw [unhide HL]; exact OvLeft.quiet (unhide HR) hb5
      · have h1 : addUp x f l ≤ (room : Int) := by omega
        have HRM := hide h1
        have HL : Hid (Ov.loadF room l x f = (0, Ov.withF l x f)) := by
          rw [unhide HLP]; unfold Ov.putF; rw [if_neg (by rw [addUp_total (unhide HI) x f hf1000] at h1; omega)]; exact rfl
        clear h1 hrm
        go_enter_defers Tryz.func35, Tryz.ntmps35
        go_wp2_with (first | (go_at_call 43; refine (lock_free muLib ⟨b, 0, none⟩ _ c0 f0).mono ?_; rintro e w1 ⟨rfl, rfl⟩) | (go_at_call 64; refine (oisName_calls _ _).mono ?_; rintro e w' ⟨rfl, hw⟩; obtain rfl := hw.symm) | (go_at_call 65; refine (oScount_calls l.length a c b 3 _ (blk_cell (unhide HB) rfl)).mono ?_; rintro e w' ⟨rfl, rfl⟩) | (go_at_call 66; refine (oShas_calls l _ x b 3 0 _ hl8 (unhide HO) (blk_cell (unhide HB) rfl) (by simpa using hbl)).mono ?_; rintro e w2 ⟨rfl, hb2⟩; have HB2 := hide hb2; clear hb2) | (go_at_call 67; refine (oClone_calls f _ hf1000).mono ?_; rintro e w3 ⟨rfl, hb3⟩; have HB3 : Hid (Below (w.setCell ⟨b, 0, none⟩ (.int .i32 1)).heap.size (w.setCell ⟨b, 0, none⟩ (.int .i32 1)) w3) := (unhide HB2).trans (hb3.mono (unhide HB2).size); clear hb3) | (go_at_call 53; refine (okeep_yes l (.slice a l.length c) x f b room _ h9 (((unhide HB3).block b (by simpa using hbl)).trans (unhide HB)) (owns_all (unhide HO) (unhide HB3)) (unhide H3) hx1000 (unhide HRM)).mono ?_; rintro e w4 ⟨rfl, v4, hp4⟩))
        refine leaves_cons (f := 44) (args := #[.pointer (some ⟨b, 0, none⟩)]) (by simp) (by simp [go_sem]) ?_
        refine (unlock_deferred muLib ⟨b, 0, none⟩ .returning _ ?_ ?_).mono ?_
        · exact blk_cell hp4.blk rfl
        · exact blk_frozen hp4.blk 0
        rintro e u' w'' ⟨rfl, rfl, rfl⟩
        refine ⟨_, results_tmp rfl _ _ _, ?_, ?_⟩
        · rw [unhide HL]; rfl
        · rw [unhide HL]; exact OvLeft.turn (unhide HR) (unhide HB3) (unhide H4) hp4
    · have Hh : Ov.has l x = false := by unfold Ov.has; exact decide_eq_false hp
      have HL : Hid (Ov.loadF room l x f = (1, l)) := by unfold Ov.loadF; rw [if_neg (by rw [hn]; simp), if_pos (Or.inr ⟨by omega, hp⟩)]; exact rfl
      go_enter_defers Tryz.func35, Tryz.ntmps35
      go_wp2_with (first | (go_at_call 43; refine (lock_free muLib ⟨b, 0, none⟩ _ c0 f0).mono ?_; rintro e w1 ⟨rfl, rfl⟩) | (go_at_call 64; refine (oisName_calls _ _).mono ?_; rintro e w' ⟨rfl, hw⟩; obtain rfl := hw.symm) | (go_at_call 65; refine (oScount_calls l.length a c b 3 _ (blk_cell (unhide HB) rfl)).mono ?_; rintro e w' ⟨rfl, rfl⟩) | (go_at_call 66; refine (oShas_calls l _ x b 3 0 _ hl8 (unhide HO) (blk_cell (unhide HB) rfl) (by simpa using hbl)).mono ?_; rintro e w2 ⟨rfl, hb2⟩; have HB2 := hide hb2; clear hb2))
      refine leaves_cons (f := 44) (args := #[.pointer (some ⟨b, 0, none⟩)]) (by simp) (by simp [go_sem]) ?_
      refine (unlock_deferred muLib ⟨b, 0, none⟩ .returning _ ?_ ?_).mono ?_
      · exact ((unhide HB2).cell (p := ⟨b, 0, none⟩) (by simpa using hbl)).trans (blk_cell (unhide HB) rfl)
      · exact ((unhide HB2).frozen (p := ⟨b, 0, none⟩) (by simpa using hbl)).trans (blk_frozen (unhide HB) 0)
      rintro e u' w'' ⟨rfl, rfl, rfl⟩
      refine ⟨_, results_tmp rfl _ _ _, ?_, ?_⟩
      · rw [unhide HL]; rfl
      · rw [unhide HL]; exact OvLeft.quiet (unhide HR) (unhide HB2)
  · have hd8 : decide ((8 : Int) ≤ (l.length : Int)) = false := decide_eq_false (by omega)
    have h9 := withF_eight (x := x) (f := f) hl8 (Or.inr (by omega))
    have HLP : Hid (Ov.loadF room l x f = Ov.putF room l (Ov.withF l x f)) := by unfold Ov.loadF; rw [if_neg (by rw [hn]; simp), if_neg (by omega)]; exact rfl
    by_cases hrm : (room : Int) < addUp x f l
    · have h1 := hrm
      have HRM := hide hrm
      have HL : Hid (Ov.loadF room l x f = (9, l)) := by
        rw [unhide HLP]; unfold Ov.putF; rw [if_pos (by rw [addUp_total (unhide HI) x f hf1000] at h1; omega)]; exact rfl
      clear h1 hrm
      go_enter_defers Tryz.func35, Tryz.ntmps35
      go_wp2_with (first | (go_at_call 43; refine (lock_free muLib ⟨b, 0, none⟩ _ c0 f0).mono ?_; rintro e w1 ⟨rfl, rfl⟩) | (go_at_call 64; refine (oisName_calls _ _).mono ?_; rintro e w' ⟨rfl, hw⟩; obtain rfl := hw.symm) | (go_at_call 65; refine (oScount_calls l.length a c b 3 _ (blk_cell (unhide HB) rfl)).mono ?_; rintro e w' ⟨rfl, rfl⟩) | (go_at_call 67; refine (oClone_calls f _ hf1000).mono ?_; rintro e w3 ⟨rfl, hb3⟩; have HB3 : Hid (Below (w.setCell ⟨b, 0, none⟩ (.int .i32 1)).heap.size (w.setCell ⟨b, 0, none⟩ (.int .i32 1)) w3) := hb3; clear hb3) | (go_at_call 53; refine (okeep_no l (.slice a l.length c) x f b room _ h9 (((unhide HB3).block b (by simpa using hbl)).trans (unhide HB)) (owns_all (unhide HO) (unhide HB3)) (unhide H3) hx1000 (unhide HRM)).mono ?_; rintro e w4 ⟨rfl, hb4⟩))
      have hb5 := (unhide HB3).trans (hb4.mono (unhide HB3).size)
      refine leaves_cons (f := 44) (args := #[.pointer (some ⟨b, 0, none⟩)]) (by simp) (by simp [go_sem]) ?_
      refine (unlock_deferred muLib ⟨b, 0, none⟩ .returning _ ?_ ?_).mono ?_
      · exact (hb5.cell (p := ⟨b, 0, none⟩) (by simpa using hbl)).trans (blk_cell (unhide HB) rfl)
      · exact (hb5.frozen (p := ⟨b, 0, none⟩) (by simpa using hbl)).trans (blk_frozen (unhide HB) 0)
      rintro e u' w'' ⟨rfl, rfl, rfl⟩
      refine ⟨_, results_tmp rfl _ _ _, ?_, ?_⟩
      · rw [unhide HL]; rfl
      · rw [unhide HL]; exact OvLeft.quiet (unhide HR) hb5
    · have h1 : addUp x f l ≤ (room : Int) := by omega
      have HRM := hide h1
      have HL : Hid (Ov.loadF room l x f = (0, Ov.withF l x f)) := by
        rw [unhide HLP]; unfold Ov.putF; rw [if_neg (by rw [addUp_total (unhide HI) x f hf1000] at h1; omega)]; exact rfl
      clear h1 hrm
      go_enter_defers Tryz.func35, Tryz.ntmps35
      go_wp2_with (first | (go_at_call 43; refine (lock_free muLib ⟨b, 0, none⟩ _ c0 f0).mono ?_; rintro e w1 ⟨rfl, rfl⟩) | (go_at_call 64; refine (oisName_calls _ _).mono ?_; rintro e w' ⟨rfl, hw⟩; obtain rfl := hw.symm) | (go_at_call 65; refine (oScount_calls l.length a c b 3 _ (blk_cell (unhide HB) rfl)).mono ?_; rintro e w' ⟨rfl, rfl⟩) | (go_at_call 67; refine (oClone_calls f _ hf1000).mono ?_; rintro e w3 ⟨rfl, hb3⟩; have HB3 : Hid (Below (w.setCell ⟨b, 0, none⟩ (.int .i32 1)).heap.size (w.setCell ⟨b, 0, none⟩ (.int .i32 1)) w3) := hb3; clear hb3) | (go_at_call 53; refine (okeep_yes l (.slice a l.length c) x f b room _ h9 (((unhide HB3).block b (by simpa using hbl)).trans (unhide HB)) (owns_all (unhide HO) (unhide HB3)) (unhide H3) hx1000 (unhide HRM)).mono ?_; rintro e w4 ⟨rfl, v4, hp4⟩))
      refine leaves_cons (f := 44) (args := #[.pointer (some ⟨b, 0, none⟩)]) (by simp) (by simp [go_sem]) ?_
      refine (unlock_deferred muLib ⟨b, 0, none⟩ .returning _ ?_ ?_).mono ?_
      · exact blk_cell hp4.blk rfl
      · exact blk_frozen hp4.blk 0
      rintro e u' w'' ⟨rfl, rfl, rfl⟩
      refine ⟨_, results_tmp rfl _ _ _, ?_, ?_⟩
      · rw [unhide HL]; rfl
      · rw [unhide HL]; exact OvLeft.turn (unhide HR) (unhide HB3) (unhide H4) hp4
end Go.Proofs.YtomiepknmmpflaaGreatDoor
