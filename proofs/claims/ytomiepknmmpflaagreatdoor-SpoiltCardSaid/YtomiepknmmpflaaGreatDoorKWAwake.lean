/- The program's Compare, whole. -/
import Derived.Test.YtomiepknmmpflaaGreatDoorKWORebase
import Derived.Test.YtomiepknmmpflaaGreatDoorKWORebase2
import Derived.Test.YtomiepknmmpflaaGreatDoorKWLawB
import Derived.Test.YtomiepknmmpflaaGreatDoorKWCommit2
import Derived.Test.YtomiepknmmpflaaGreatDoorKWCommit
import Derived.Test.YtomiepknmmpflaaGreatDoorKWOCommit2
import Derived.Test.YtomiepknmmpflaaGreatDoorKWMany
namespace Go.Proofs.YtomiepknmmpflaaGreatDoor
open Go.RowKit Go.Joins

open Go.MuLone in
set_option maxRecDepth 100000 in
set_option maxHeartbeats 2000000 in
theorem oCompare_badx (l : Ov.Files) (x y : ByteArray) (b B : Nat) (r : Option Nat) (room : Nat) (s0 s1 s2 s3 : Addr) (w : World) (hi : Ov.LI room l) (h : OvRep w b r room l) (hs : Sents w B s0 s1 s2 s3) (hB : B ≤ b) (hx : Ov.place l x < l.length) (hy : Ov.place l y < l.length) (hso : Ov.soundF l x ≠ 0) :
    Calls Tryz.prog 36 #[.pointer (some ⟨b, 0, none⟩), .string x, .string y] w fun e w' => e = .returned (.tuple #[.int .i64 (compareF l x y).1, .int .i64 (compareF l x y).2]) ∧ OvLeft w b r room l w' := by
  obtain ⟨v, h1, h2, h3, h4⟩ := id h
  have HR := hide h
  have c0 : w.cell? ⟨b, 0, none⟩ = some (.int .i32 0) := blk_cell h1 rfl
  have f0 := blk_frozen h1 0
  have hbl := blk_lt h1
  have HB0 := hide h1
  have HB := hide (blk_set_same (i := 0) h1 (.int .i32 1))
  have HO := hide (owns_set h2 h3 (a := ⟨b, 0, none⟩) (.int .i32 1))
  have H4 := hide h4
  have HI := hide hi
  have HC : Hid (ChainAt (w.setCell ⟨b, 0, none⟩ (.int .i32 1)) b B r room l s0 s1 s2 s3) := ⟨h.lock, hi, hs.kept ((Below.refl B w).setCell (p := ⟨b, 0, none⟩) hB (.int .i32 1))⟩
  have HF : Hid (compareF l x y = (0, Ov.soundF l x)) := by unfold compareF; rw [if_neg (by rintro (q | q) <;> exact q (by assumption)), if_pos hso]; exact rfl
  have HX : Hid (Ov.has l x = true) := by unfold Ov.has; exact decide_eq_true hx
  have HY : Hid (Ov.has l y = true) := by unfold Ov.has; exact decide_eq_true hy
  have hl8 := hi.len
  have HSO := hide hso
  clear h h1 h2 h3 h4 hi hs hx hy hso
  go_enter_defers Tryz.func36, Tryz.ntmps36
  go_wp2_with (first
    | (go_at_call 47; refine (oerrnoOf_calls s0 s1 s2 s3 eb _ B ed wh et ea _ hc5 (unhide HE5) ((unhide HC3).kept (unhide HB5)).se).mono ?_; rintro e w6 ⟨rfl, rfl⟩)
    | (go_at_call_of 45 x; obtain ⟨wh, hop⟩ := openChain_no (unhide HSO) (unhide HC3); refine hop.mono ?_; rintro e w5 ⟨hb5, eb, ed, et, ea, rfl, he5, hc5⟩; have HE5 := hide he5; have HB5 := hide hb5; clear he5 hb5 hop)
    | (go_at_call_of 66 y; refine (oShas_calls l _ y b 3 0 _ hl8 (owns_all (unhide HO) (unhide HB2)) (blk_cell (((unhide HB2).block b (by simpa using hbl)).trans (unhide HB)) rfl) (Nat.lt_of_lt_of_le (by simpa using hbl) (unhide HB2).size)).mono ?_; rintro e w3 ⟨he, hb3⟩; rw [unhide HY] at he; subst he; have HB3 := hide ((unhide HB2).trans (hb3.mono (unhide HB2).size)); have HC3 := hide ((unhide HC).kept (unhide HB3)); clear hb3)
    | (go_at_call_of 66 x; refine (oShas_calls l _ x b 3 0 _ hl8 (unhide HO) (blk_cell (unhide HB) rfl) (by simpa using hbl)).mono ?_; rintro e w2 ⟨he, hb2⟩; rw [unhide HX] at he; subst he; have HB2 := hide hb2; clear hb2)
    | (go_at_call 43; refine (lock_free muLib ⟨b, 0, none⟩ _ c0 f0).mono ?_; rintro e w1 ⟨rfl, rfl⟩))
  have hb9 := (unhide HB3).trans ((unhide HB5).mono (unhide HB3).size)
  refine leaves_cons (f := 44) (args := #[.pointer (some ⟨b, 0, none⟩)]) (by simp) (by simp [go_sem]) ?_
  refine (unlock_deferred muLib ⟨b, 0, none⟩ .returning _ ?_ ?_).mono ?_
  · exact (hb9.cell (p := ⟨b, 0, none⟩) (by simpa using hbl)).trans (blk_cell (unhide HB) rfl)
  · exact (hb9.frozen (p := ⟨b, 0, none⟩) (by simpa using hbl)).trans (blk_frozen (unhide HB) 0)
  rintro e u' w'' ⟨rfl, rfl, rfl⟩
  exact ⟨_, results_tmp2 rfl _ _ _, by rw [unhide HF]; rfl, OvLeft.quiet (unhide HR) hb9⟩

open Go.MuLone in
set_option maxRecDepth 100000 in
set_option maxHeartbeats 2000000 in
theorem oCompare_bady (l : Ov.Files) (x y : ByteArray) (b B : Nat) (r : Option Nat) (room : Nat) (s0 s1 s2 s3 : Addr) (w : World) (hi : Ov.LI room l) (h : OvRep w b r room l) (hs : Sents w B s0 s1 s2 s3) (hB : B ≤ b) (hx : Ov.place l x < l.length) (hy : Ov.place l y < l.length) (hsx : Ov.soundF l x = 0) (hso : Ov.soundF l y ≠ 0) :
    Calls Tryz.prog 36 #[.pointer (some ⟨b, 0, none⟩), .string x, .string y] w fun e w' => e = .returned (.tuple #[.int .i64 (compareF l x y).1, .int .i64 (compareF l x y).2]) ∧ OvLeft w b r room l w' := by
  obtain ⟨v, h1, h2, h3, h4⟩ := id h
  have HR := hide h
  have c0 : w.cell? ⟨b, 0, none⟩ = some (.int .i32 0) := blk_cell h1 rfl
  have f0 := blk_frozen h1 0
  have hbl := blk_lt h1
  have HB0 := hide h1
  have HB := hide (blk_set_same (i := 0) h1 (.int .i32 1))
  have HO := hide (owns_set h2 h3 (a := ⟨b, 0, none⟩) (.int .i32 1))
  have H4 := hide h4
  have HI := hide hi
  have HC : Hid (ChainAt (w.setCell ⟨b, 0, none⟩ (.int .i32 1)) b B r room l s0 s1 s2 s3) := ⟨h.lock, hi, hs.kept ((Below.refl B w).setCell (p := ⟨b, 0, none⟩) hB (.int .i32 1))⟩
  have HF : Hid (compareF l x y = (0, Ov.soundF l y)) := by unfold compareF; rw [if_neg (by rintro (q | q) <;> exact q (by assumption)), if_neg (by omega), if_pos hso]; exact rfl
  have HX : Hid (Ov.has l x = true) := by unfold Ov.has; exact decide_eq_true hx
  have HY : Hid (Ov.has l y = true) := by unfold Ov.has; exact decide_eq_true hy
  have hl8 := hi.len
  have HSO := hide hso
  have HPX := hide hx
  have HDX : Hid ((Ov.downOf l x).2.1 = 0) := by unfold Ov.soundF at hsx; rwa [if_pos hx] at hsx
  clear h h1 h2 h3 h4 hi hs hx hy hso hsx
  go_enter_defers Tryz.func36, Tryz.ntmps36
  go_wp2_with (first
    | (go_at_call 47; refine (oerrnoOf_calls s0 s1 s2 s3 eb _ B ed wh et ea _ hc5 (unhide HE5) ((unhide HC4).kept (unhide HB5)).se).mono ?_; rintro e w6 ⟨rfl, rfl⟩)
    | (go_at_call_of 45 y; obtain ⟨wh, hop⟩ := openChain_no (unhide HSO) (unhide HC4); refine hop.mono ?_; rintro e w5 ⟨hb5, eb, ed, et, ea, rfl, he5, hc5⟩; have HE5 := hide he5; have HB5 := hide hb5; clear he5 hb5 hop)
    | (go_at_call_of 45 x; refine (oopenChain_yes x _ b B r room l s0 s1 s2 s3 (unhide HC3) (unhide HPX) (unhide HDX)).mono ?_; rintro e w4 ⟨hb4, cb, r2, L, rfl, hcb, hch, hnL, hL8, _⟩; have HC4 := hide ((unhide HC3).kept hb4); have HB4 := hide ((unhide HB3).trans (hb4.mono (unhide HB3).size)); clear hb4 hcb hch hnL)
    | (go_at_call_of 66 y; refine (oShas_calls l _ y b 3 0 _ hl8 (owns_all (unhide HO) (unhide HB2)) (blk_cell (((unhide HB2).block b (by simpa using hbl)).trans (unhide HB)) rfl) (Nat.lt_of_lt_of_le (by simpa using hbl) (unhide HB2).size)).mono ?_; rintro e w3 ⟨he, hb3⟩; rw [unhide HY] at he; subst he; have HB3 := hide ((unhide HB2).trans (hb3.mono (unhide HB2).size)); have HC3 := hide ((unhide HC).kept (unhide HB3)); clear hb3)
    | (go_at_call_of 66 x; refine (oShas_calls l _ x b 3 0 _ hl8 (unhide HO) (blk_cell (unhide HB) rfl) (by simpa using hbl)).mono ?_; rintro e w2 ⟨he, hb2⟩; rw [unhide HX] at he; subst he; have HB2 := hide hb2; clear hb2)
    | (go_at_call 43; refine (lock_free muLib ⟨b, 0, none⟩ _ c0 f0).mono ?_; rintro e w1 ⟨rfl, rfl⟩))
  have hb9 := (unhide HB4).trans ((unhide HB5).mono (unhide HB4).size)
  refine leaves_cons (f := 44) (args := #[.pointer (some ⟨b, 0, none⟩)]) (by simp) (by simp [go_sem]) ?_
  refine (unlock_deferred muLib ⟨b, 0, none⟩ .returning _ ?_ ?_).mono ?_
  · exact (hb9.cell (p := ⟨b, 0, none⟩) (by simpa using hbl)).trans (blk_cell (unhide HB) rfl)
  · exact (hb9.frozen (p := ⟨b, 0, none⟩) (by simpa using hbl)).trans (blk_frozen (unhide HB) 0)
  rintro e u' w'' ⟨rfl, rfl, rfl⟩
  exact ⟨_, results_tmp2 rfl _ _ _, by rw [unhide HF]; rfl, OvLeft.quiet (unhide HR) hb9⟩

open Go.MuLone in
set_option maxRecDepth 100000 in
set_option maxHeartbeats 4000000 in
theorem oCompare_go (l : Ov.Files) (x y : ByteArray) (b B : Nat) (r : Option Nat) (room : Nat) (s0 s1 s2 s3 : Addr) (w : World) (hi : Ov.LI room l) (h : OvRep w b r room l) (hs : Sents w B s0 s1 s2 s3) (hB : B ≤ b) (hx : Ov.place l x < l.length) (hy : Ov.place l y < l.length) (hsx : Ov.soundF l x = 0) (hsy : Ov.soundF l y = 0) :
    Calls Tryz.prog 36 #[.pointer (some ⟨b, 0, none⟩), .string x, .string y] w fun e w' => e = .returned (.tuple #[.int .i64 (compareF l x y).1, .int .i64 (compareF l x y).2]) ∧ OvLeft w b r room l w' := by
  obtain ⟨v, h1, h2, h3, h4⟩ := id h
  have HR := hide h
  have c0 : w.cell? ⟨b, 0, none⟩ = some (.int .i32 0) := blk_cell h1 rfl
  have f0 := blk_frozen h1 0
  have hbl := blk_lt h1
  have HB0 := hide h1
  have HB := hide (blk_set_same (i := 0) h1 (.int .i32 1))
  have HO := hide (owns_set h2 h3 (a := ⟨b, 0, none⟩) (.int .i32 1))
  have H4 := hide h4
  have HI := hide hi
  have HC : Hid (ChainAt (w.setCell ⟨b, 0, none⟩ (.int .i32 1)) b B r room l s0 s1 s2 s3) := ⟨h.lock, hi, hs.kept ((Below.refl B w).setCell (p := ⟨b, 0, none⟩) hB (.int .i32 1))⟩
  obtain ⟨_, hcx⟩ := sound_here hsx
  obtain ⟨_, hcy⟩ := sound_here hsy
  have HF : Hid (compareF l x y = (diffFrom (Ov.atTo l (Ov.downOf l x).1) (Ov.atTo l (Ov.downOf l y).1) 240 0, 0)) := by unfold compareF; rw [if_neg (by rintro (q | q) <;> exact q (by assumption)), if_neg (by omega), if_neg (by omega)]; exact rfl
  have HX : Hid (Ov.has l x = true) := by unfold Ov.has; exact decide_eq_true hx
  have HY : Hid (Ov.has l y = true) := by unfold Ov.has; exact decide_eq_true hy
  have hl8 := hi.len
  have HPX := hide hx
  have HPY := hide hy
  have HDX : Hid ((Ov.downOf l x).2.1 = 0) := by have := hsx; unfold Ov.soundF at this; rwa [if_pos hx] at this
  have HDY : Hid ((Ov.downOf l y).2.1 = 0) := by have := hsy; unfold Ov.soundF at this; rwa [if_pos hy] at this
  have HOX := hide (fun (L : Ims) (cb : Nat) (r : Option Nat) (W : World) => opened (L := L) (cb := cb) (r := r) (w := W) hsx)
  have HOY := hide (fun (L : Ims) (cb : Nat) (r : Option Nat) (W : World) => opened (L := L) (cb := cb) (r := r) (w := W) hsy)
  have hmx : 1 ≤ Ov.many (fOf l x) ∧ Ov.many (fOf l x) ≤ 30 := hcx.many_le
  have hmy : 1 ≤ Ov.many (fOf l y) ∧ Ov.many (fOf l y) ≤ 30 := hcy.many_le
  have HEX := hide (view_end hcx)
  have HEY := hide (view_end hcy)
  obtain ⟨u, hu⟩ : ∃ u, Ov.atTo l (Ov.downOf l x).1 = u := ⟨_, rfl⟩
  obtain ⟨v2, hv2⟩ : ∃ u, Ov.atTo l (Ov.downOf l y).1 = u := ⟨_, rfl⟩
  obtain ⟨m, hm⟩ : ∃ m, Ov.many (fOf l x) = m := ⟨_, rfl⟩
  obtain ⟨n, hn⟩ : ∃ n, Ov.many (fOf l y) = n := ⟨_, rfl⟩
  rw [hm] at hmx
  rw [hn] at hmy
  rw [hu, hm] at HEX
  rw [hv2, hn] at HEY
  rw [hu, hv2] at HF
  obtain ⟨hm1, hm30⟩ := hmx
  obtain ⟨hn1, hn30⟩ := hmy
  have HU := hide hu
  have HV := hide hv2
  have HM := hide hm
  have HN := hide hn
  obtain ⟨df, hdf⟩ : ∃ df, diffFrom u v2 240 0 = df := ⟨_, rfl⟩
  rw [hdf] at HF
  have HDF := hide hdf
  clear h h1 h2 h3 h4 hi hs hx hy hsx hsy hcx hcy hu hv2 hm hn hdf
  go_enter_defers Tryz.func36, Tryz.ntmps36
  go_wp2_with (first
    | (go_at_call 68; refine (ofirst_calls m n 0 0 u v2 _ _ _ (unhide HBX9) (unhide HBY9) hm1 hm30 hn1 hn30 (unhide HEX) (unhide HEY)).mono ?_; rintro e w10 ⟨he, hb10⟩; rw [unhide HDF] at he; subst he; have HB10 := hide ((unhide HB9).trans (hb10.mono (unhide HB9).size)); clear hb10)
    | (go_at_call 69; refine (obytesOf_calls n 0 v2 _ _ (unhide HVY8) hn30).mono ?_; rintro e w9 ⟨a9, c9, rfl, hb9, ho9⟩; have HB9 := hide ((unhide HB8).trans (hb9.mono (unhide HB8).size)); have HBX9 := hide (owns_all (unhide HBX8) hb9); have HBY9 := hide (ownsRow_le ho9 (Nat.zero_le _)); clear hb9 ho9)
    | (go_at_call 70; refine (oviewOf_calls l L2 cb2 r3 _ (unhide HCY7) hLy1 hL2).mono ?_; rintro e w8 ⟨a8, c8, he, hb8, ho8⟩; rw [unhide HNY] at he ho8; rw [unhide HVY] at ho8; subst he; have HB8 := hide ((unhide HB7).trans (hb8.mono (unhide HB7).size)); have HVY8 := hide ho8; have HBX8 := hide (owns_all (unhide HBX7) hb8); clear hb8 ho8)
    | (go_at_call 69; refine (obytesOf_calls m 0 u _ _ (unhide HVX6) hm30).mono ?_; rintro e w7 ⟨a7, c7, rfl, hb7, ho7⟩; have HB7 := hide ((unhide HB6).trans (hb7.mono (unhide HB6).size)); have HBX7 := hide (ownsRow_le ho7 (Nat.zero_le _)); have HCY7 := hide ((unhide HCY6).kept hb7); clear hb7 ho7)
    | (go_at_call 70; refine (oviewOf_calls l L cb r2 _ (unhide HCX5) hLx1 hL8).mono ?_; rintro e w6 ⟨a6, c6, he, hb6, ho6⟩; rw [unhide HNX] at he ho6; rw [unhide HVX] at ho6; subst he; have HB6 := hide ((unhide HB5).trans (hb6.mono (unhide HB5).size)); have HVX6 := hide ho6; have HCY6 := hide ((unhide HCY5).kept hb6); clear hb6 ho6)
    | (go_at_call_of 45 y; refine (oopenChain_yes y _ b B r room l s0 s1 s2 s3 (unhide HC4) (unhide HPY) (unhide HDY)).mono ?_; rintro e w5 ⟨hb5, cb2, r3, L2, rfl, hcb2, hch2, hnL2, hL2, _⟩; obtain ⟨hLy1, _, hsNy, hsVy, _⟩ := unhide HOY L2 cb2 r3 w5 hch2 hnL2; rw [unhide HN] at hsNy; rw [unhide HV] at hsVy; have HNY := hide hsNy; have HVY := hide hsVy; have HCY5 := hide hch2; have HCX5 := hide ((unhide HCX4).kept hb5); have HB5 := hide ((unhide HB4).trans (hb5.mono (unhide HB4).size)); clear hb5 hcb2 hch2 hnL2 hsNy hsVy)
    | (go_at_call_of 45 x; refine (oopenChain_yes x _ b B r room l s0 s1 s2 s3 (unhide HC3) (unhide HPX) (unhide HDX)).mono ?_; rintro e w4 ⟨hb4, cb, r2, L, rfl, hcb, hch, hnL, hL8, _⟩; obtain ⟨hLx1, _, hsN, hsV, _⟩ := unhide HOX L cb r2 w4 hch hnL; rw [unhide HM] at hsN; rw [unhide HU] at hsV; have HNX := hide hsN; have HVX := hide hsV; have HCX4 := hide hch; clear hsN hsV; have HC4 := hide ((unhide HC3).kept hb4); have HB4 := hide ((unhide HB3).trans (hb4.mono (unhide HB3).size)); clear hb4 hcb hch hnL)
    | (go_at_call_of 66 y; refine (oShas_calls l _ y b 3 0 _ hl8 (owns_all (unhide HO) (unhide HB2)) (blk_cell (((unhide HB2).block b (by simpa using hbl)).trans (unhide HB)) rfl) (Nat.lt_of_lt_of_le (by simpa using hbl) (unhide HB2).size)).mono ?_; rintro e w3 ⟨he, hb3⟩; rw [unhide HY] at he; subst he; have HB3 := hide ((unhide HB2).trans (hb3.mono (unhide HB2).size)); have HC3 := hide ((unhide HC).kept (unhide HB3)); clear hb3)
    | (go_at_call_of 66 x; refine (oShas_calls l _ x b 3 0 _ hl8 (unhide HO) (blk_cell (unhide HB) rfl) (by simpa using hbl)).mono ?_; rintro e w2 ⟨he, hb2⟩; rw [unhide HX] at he; subst he; have HB2 := hide hb2; clear hb2)
    | (go_at_call 43; refine (lock_free muLib ⟨b, 0, none⟩ _ c0 f0).mono ?_; rintro e w1 ⟨rfl, rfl⟩))
  have hb9 := unhide HB10
  refine leaves_cons (f := 44) (args := #[.pointer (some ⟨b, 0, none⟩)]) (by simp) (by simp [go_sem]) ?_
  refine (unlock_deferred muLib ⟨b, 0, none⟩ .returning _ ?_ ?_).mono ?_
  · exact (hb9.cell (p := ⟨b, 0, none⟩) (by simpa using hbl)).trans (blk_cell (unhide HB) rfl)
  · exact (hb9.frozen (p := ⟨b, 0, none⟩) (by simpa using hbl)).trans (blk_frozen (unhide HB) 0)
  rintro e u' w'' ⟨rfl, rfl, rfl⟩
  exact ⟨_, results_tmp2 rfl _ _ _, by rw [unhide HF]; rfl, OvLeft.quiet (unhide HR) hb9⟩

theorem ovCompare_calls (l : Ov.Files) (x y : ByteArray) (b B : Nat) (r : Option Nat) (room : Nat) (s0 s1 s2 s3 : Addr) (w : World) (hi : Ov.LI room l) (h : OvRep w b r room l) (hs : Sents w B s0 s1 s2 s3) (hB : B ≤ b) :
    Calls Tryz.prog 36 #[.pointer (some ⟨b, 0, none⟩), .string x, .string y] w fun e w' => e = .returned (.tuple #[.int .i64 (compareF l x y).1, .int .i64 (compareF l x y).2]) ∧ OvLeft w b r room l w' := by
  by_cases hx : Ov.place l x < l.length
  · by_cases hy : Ov.place l y < l.length
    · by_cases h1 : Ov.soundF l x = 0
      · by_cases h2 : Ov.soundF l y = 0
        · exact oCompare_go l x y b B r room s0 s1 s2 s3 w hi h hs hB hx hy h1 h2
        · exact oCompare_bady l x y b B r room s0 s1 s2 s3 w hi h hs hB hx hy h1 h2
      · exact oCompare_badx l x y b B r room s0 s1 s2 s3 w hi h hs hB hx hy h1
    · exact oCompare_noy l x y b B r room s0 s1 s2 s3 w hi h hs hB hx hy
  · exact oCompare_nox l x y b B r room s0 s1 s2 s3 w hi h hs hB hx

end Go.Proofs.YtomiepknmmpflaaGreatDoor

namespace Go.Proofs.YtomiepknmmpflaaGreatDoor
open Go.RowKit Go.Joins

open Go.MuLone in
set_option maxRecDepth 100000 in
set_option maxHeartbeats 2000000 in
theorem ovRebase_calls (l : Ov.Files) (x bk : ByteArray) (b B : Nat) (r : Option Nat) (room : Nat) (s0 s1 s2 s3 : Addr) (w : World) (hi : Ov.LI room l) (h : OvRep w b r room l) (hs : Sents w B s0 s1 s2 s3) (hB : B ≤ b) :
    Calls Tryz.prog 24 #[.pointer (some ⟨b, 0, none⟩), .string x, .string bk] w fun e w' => e = .returned (.int .i64 (rebaseF room l x bk).1) ∧ OvLeft w b r room (rebaseF room l x bk).2 w' := by
  obtain ⟨v, h1, h2, h3, h4⟩ := id h
  have HR := hide h
  have c0 : w.cell? ⟨b, 0, none⟩ = some (.int .i32 0) := blk_cell h1 rfl
  have f0 := blk_frozen h1 0
  have hbl := blk_lt h1
  have HB0 := hide h1
  have HB := hide (blk_set_same (i := 0) h1 (.int .i32 1))
  have HO := hide (owns_set h2 h3 (a := ⟨b, 0, none⟩) (.int .i32 1))
  have H4 := hide h4
  have HI := hide hi
  have HC : Hid (ChainAt (w.setCell ⟨b, 0, none⟩ (.int .i32 1)) b B r room l s0 s1 s2 s3) := ⟨h.lock, hi, hs.kept ((Below.refl B w).setCell (p := ⟨b, 0, none⟩) hB (.int .i32 1))⟩
  have HRB := hide (orebase_calls l x bk b B r room s0 s1 s2 s3 v _ (unhide HC) (unhide HB) (unhide HO))
  clear h h1 h2 h3 h4 hi hs
  go_enter_defers Tryz.func24, Tryz.ntmps24
  go_wp2_with (first
    | (go_at_call 55; refine (unhide HRB).mono ?_; rintro e w2 ⟨rfl, hk2⟩; have HK2 := hide hk2; clear hk2)
    | (go_at_call 43; refine (lock_free muLib ⟨b, 0, none⟩ _ c0 f0).mono ?_; rintro e w1 ⟨rfl, rfl⟩))
  obtain ⟨z1, z2, z3⟩ := OvLeft.kept (unhide HR) (unhide HB0) (unhide H4) (Below.refl _ _) (unhide HK2)
  refine leaves_cons (f := 44) (args := #[.pointer (some ⟨b, 0, none⟩)]) (by simp) (by simp [go_sem]) ?_
  refine (unlock_deferred muLib ⟨b, 0, none⟩ .returning _ z1 z2).mono ?_
  rintro e u' w'' ⟨rfl, rfl, rfl⟩
  exact ⟨_, results_tmp rfl _ _ _, rfl, z3⟩

open Go.MuLone in
set_option maxRecDepth 100000 in
set_option maxHeartbeats 2000000 in
theorem ovFlatten_calls (l : Ov.Files) (x : ByteArray) (b B : Nat) (r : Option Nat) (room : Nat) (s0 s1 s2 s3 : Addr) (w : World) (hi : Ov.LI room l) (h : OvRep w b r room l) (hs : Sents w B s0 s1 s2 s3) (hB : B ≤ b) :
    Calls Tryz.prog 25 #[.pointer (some ⟨b, 0, none⟩), .string x] w fun e w' => e = .returned (.int .i64 (rebaseF room l x ⟨#[]⟩).1) ∧ OvLeft w b r room (rebaseF room l x ⟨#[]⟩).2 w' := by
  obtain ⟨v, h1, h2, h3, h4⟩ := id h
  have HR := hide h
  have c0 : w.cell? ⟨b, 0, none⟩ = some (.int .i32 0) := blk_cell h1 rfl
  have f0 := blk_frozen h1 0
  have hbl := blk_lt h1
  have HB0 := hide h1
  have HB := hide (blk_set_same (i := 0) h1 (.int .i32 1))
  have HO := hide (owns_set h2 h3 (a := ⟨b, 0, none⟩) (.int .i32 1))
  have H4 := hide h4
  have HI := hide hi
  have HC : Hid (ChainAt (w.setCell ⟨b, 0, none⟩ (.int .i32 1)) b B r room l s0 s1 s2 s3) := ⟨h.lock, hi, hs.kept ((Below.refl B w).setCell (p := ⟨b, 0, none⟩) hB (.int .i32 1))⟩
  have HRB := hide (orebase_calls l x ⟨#[]⟩ b B r room s0 s1 s2 s3 v _ (unhide HC) (unhide HB) (unhide HO))
  clear h h1 h2 h3 h4 hi hs
  go_enter_defers Tryz.func25, Tryz.ntmps25
  go_wp2_with (first
    | (go_at_call 55; refine (unhide HRB).mono ?_; rintro e w2 ⟨rfl, hk2⟩; have HK2 := hide hk2; clear hk2)
    | (go_at_call 43; refine (lock_free muLib ⟨b, 0, none⟩ _ c0 f0).mono ?_; rintro e w1 ⟨rfl, rfl⟩))
  obtain ⟨z1, z2, z3⟩ := OvLeft.kept (unhide HR) (unhide HB0) (unhide H4) (Below.refl _ _) (unhide HK2)
  refine leaves_cons (f := 44) (args := #[.pointer (some ⟨b, 0, none⟩)]) (by simp) (by simp [go_sem]) ?_
  refine (unlock_deferred muLib ⟨b, 0, none⟩ .returning _ z1 z2).mono ?_
  rintro e u' w'' ⟨rfl, rfl, rfl⟩
  exact ⟨_, results_tmp rfl _ _ _, rfl, z3⟩

end Go.Proofs.YtomiepknmmpflaaGreatDoor

namespace Go.Proofs.YtomiepknmmpflaaGreatDoor
open Go.RowKit Go.Joins

theorem LI.commit {room : Nat} {l : Ov.Files} (h : Ov.LI room l) (x : ByteArray) : Ov.LI room (commitF room l x).2 := by
  unfold commitF
  split
  · exact h
  · rename_i hso
    split
    · exact h
    · rename_i hbn
      obtain ⟨hp, hc⟩ := sound_here (show Ov.soundF l x = 0 by omega)
      have hm := hc.many_le
      have hbk := backing_size hc
      obtain ⟨ms, _, hcb⟩ := chn_below hc rfl rfl hbn
      have hpb := hcb.here
      have hmb := hcb.many_le
      have hbz := backing_size hcb
      have hn := h.names _ hp
      rw [Ov.place_name hp] at hn
      have hnb := h.names _ hpb
      rw [Ov.place_name hpb] at hnb
      have hl := h.len
      have h1 := encode_size (Ov.backing (fileOf l x)) (noKinds (Ov.many (fileOf l x))) (noBlocks (Ov.many (fileOf l x))) (fun j hj => by rw [noBlocks_getD]; exact Nat.zero_le _)
      have hln : (noKinds (Ov.many (fileOf l x))).length = Ov.many (fileOf l x) := by simp [noKinds]
      have h2 := encode_size (Ov.backing (fileOf l (Ov.backing (fileOf l x)))) (comKs (fileOf l x) (fileOf l (Ov.backing (fileOf l x))) (Ov.many (fileOf l x))) (comBs (fileOf l x) (fileOf l (Ov.backing (fileOf l x))) (Ov.many (fileOf l x))) (fun j hj => comBs_bd (by rw [comKs_length] at hj; exact hj))
      rw [comKs_length] at h2
      have hmb' : Ov.many (fileOf l (Ov.backing (fileOf l x))) ≤ 30 := hmb.2
      have hbz' : (Ov.backing (fileOf l (Ov.backing (fileOf l x)))).size ≤ 8 := hbz
      refine h.put ?_ (Ov.withF_size (Ov.withF_size h.size (by omega)) (by omega)) (Ov.withF_names (Ov.withF_names h.names hn) hnb) (Ov.withF_nodup (Ov.withF_nodup h.nodup))
      rw [Ov.withF_length, if_pos (place_with hpb), Ov.withF_length, if_pos hp]; exact hl
theorem LI.rebase {room : Nat} {l : Ov.Files} (h : Ov.LI room l) (x bk : ByteArray) : Ov.LI room (rebaseF room l x bk).2 := by
  unfold rebaseF
  split
  · exact h
  · rename_i hso
    split
    · exact h
    · rename_i hsb
      split
      · exact h
      · obtain ⟨hp, hc⟩ := sound_here (show Ov.soundF l x = 0 by omega)
        have hm := hc.many_le
        have hn := h.names _ hp
        rw [Ov.place_name hp] at hn
        have hl := h.len
        have hbk : bk.size ≤ 8 := by
          by_cases hb0 : bk.size = 0
          · omega
          · by_cases hs : Ov.soundF l bk = 0
            · exact h.name_size (sound_here hs).1
            · exact absurd ⟨hb0, hs⟩ hsb
        have h1 := encode_size bk (allTo (Ov.many (fileOf l x)) (kOld (fileOf l x)) (rebK l (Ov.downOf l x).1) (rebC l (fileOf l x) (Ov.downOf l x).1 (overN l bk))) (allTo (Ov.many (fileOf l x)) (bOld (fileOf l x)) (fun i => viewF l (Ov.downOf l x).1 (8 * i) 8) (rebD l (fileOf l x) (Ov.downOf l x).1 (overN l bk))) (fun j hj => by
          rw [allTo_length] at hj
          rw [allTo_getD hj]
          split
          · rw [viewF_size]; omega
          · exact bOld_size j)
        rw [allTo_length] at h1
        refine h.put ?_ (Ov.withF_size h.size (by omega)) (Ov.withF_names h.names hn) (Ov.withF_nodup h.nodup)
        rw [Ov.withF_length, if_pos hp]; exact hl

end Go.Proofs.YtomiepknmmpflaaGreatDoor

namespace Go.Proofs.YtomiepknmmpflaaGreatDoor
open Go.RowKit Go.Joins

section
variable {w : World} {B b : Nat} {P : List Nat} {s0 s1 s2 s3 : Addr} {room : Nat} {l : Ov.Files}
theorem kCommit (h : KW w B b P s0 s1 s2 s3 room l) (x : ByteArray)  : Calls Tryz.prog 23 #[.pointer (some ⟨b, 0, none⟩), .string x] w (KPost (.int .i64 (commitF room l x).1) B b P s0 s1 s2 s3 room (commitF room l x).2 w) := by
  obtain ⟨r, h1, h2⟩ := h.ov
  refine (ovCommit_calls l x b B r room s0 s1 s2 s3 w h.li h1 h.un.se h.hB).mono ?_
  rintro e w' ⟨rfl, hl⟩
  exact ⟨rfl, h.left h2 hl (LI.commit h.li x)⟩
theorem kRebase (h : KW w B b P s0 s1 s2 s3 room l) (x bk : ByteArray)  : Calls Tryz.prog 24 #[.pointer (some ⟨b, 0, none⟩), .string x, .string bk] w (KPost (.int .i64 (rebaseF room l x bk).1) B b P s0 s1 s2 s3 room (rebaseF room l x bk).2 w) := by
  obtain ⟨r, h1, h2⟩ := h.ov
  refine (ovRebase_calls l x bk b B r room s0 s1 s2 s3 w h.li h1 h.un.se h.hB).mono ?_
  rintro e w' ⟨rfl, hl⟩
  exact ⟨rfl, h.left h2 hl (LI.rebase h.li x bk)⟩
theorem kFlatten (h : KW w B b P s0 s1 s2 s3 room l) (x : ByteArray)  : Calls Tryz.prog 25 #[.pointer (some ⟨b, 0, none⟩), .string x] w (KPost (.int .i64 (rebaseF room l x ⟨#[]⟩).1) B b P s0 s1 s2 s3 room (rebaseF room l x ⟨#[]⟩).2 w) := by
  obtain ⟨r, h1, h2⟩ := h.ov
  refine (ovFlatten_calls l x b B r room s0 s1 s2 s3 w h.li h1 h.un.se h.hB).mono ?_
  rintro e w' ⟨rfl, hl⟩
  exact ⟨rfl, h.left h2 hl (LI.rebase h.li x ⟨#[]⟩)⟩
theorem kCompare (h : KW w B b P s0 s1 s2 s3 room l) (x y : ByteArray)  : Calls Tryz.prog 36 #[.pointer (some ⟨b, 0, none⟩), .string x, .string y] w (KPost (.tuple #[.int .i64 (compareF l x y).1, .int .i64 (compareF l x y).2]) B b P s0 s1 s2 s3 room l w) := by
  obtain ⟨r, h1, h2⟩ := h.ov
  refine (ovCompare_calls l x y b B r room s0 s1 s2 s3 w h.li h1 h.un.se h.hB).mono ?_
  rintro e w' ⟨rfl, hl⟩
  exact ⟨rfl, h.left h2 hl h.li⟩
end

end Go.Proofs.YtomiepknmmpflaaGreatDoor

namespace Go.Proofs.YtomiepknmmpflaaGreatDoor
open Go.RowKit Go.Joins
def exA0 : ByteArray := ⟨#[79, 86, 1, 2, 0, 0, 0, 0]⟩
def exB0 : ByteArray := ⟨#[79, 86, 1, 3, 1, 97, 0, 0, 0, 0]⟩
def exA1 : ByteArray := ⟨#[79, 86, 1, 2, 0, 1, 0, 1, 0, 0, 0, 120, 121, 122, 0, 0]⟩
def exB1 : ByteArray := ⟨#[79, 86, 1, 3, 1, 97, 1, 2, 0, 2, 0, 0, 0, 120, 121, 122, 112, 113, 51, 52, 0, 0, 0, 0, 0, 0]⟩
theorem ex_make1 : makeF 200 [] ⟨#[97]⟩ 2 ⟨#[]⟩ = (0, [(⟨#[97]⟩, exA0)]) := by rfl
theorem ex_make2 : makeF 200 [(⟨#[97]⟩, exA0)] ⟨#[98]⟩ 3 ⟨#[97]⟩ = (0, [(⟨#[97]⟩, exA0), (⟨#[98]⟩, exB0)]) := by rfl
theorem ex_write1 : writeF 200 [(⟨#[97]⟩, exA0), (⟨#[98]⟩, exB0)] ⟨#[97]⟩ 3 ⟨#[120,121,122]⟩ = (0, [(⟨#[97]⟩, exA1), (⟨#[98]⟩, exB0)]) := by rfl
theorem ex_write2 : writeF 200 [(⟨#[97]⟩, exA1), (⟨#[98]⟩, exB0)] ⟨#[98]⟩ 6 ⟨#[112,113,51,52]⟩ = (0, [(⟨#[97]⟩, exA1), (⟨#[98]⟩, exB1)]) := by rfl
theorem ex_dump : Ov.dumpF [(⟨#[97]⟩, exA1), (⟨#[98]⟩, exB1)] ⟨#[98]⟩ = (exB1, 0) := by rfl
theorem ex_chain : Ov.chainF [(⟨#[97]⟩, exA1), (⟨#[98]⟩, exB1)] ⟨#[98]⟩ = (⟨#[98, 44, 97]⟩, ⟨#[]⟩, 0) := by rfl
theorem ex_compare : compareF [(⟨#[97]⟩, exA1), (⟨#[98]⟩, exB1)] ⟨#[97]⟩ ⟨#[98]⟩ = (6, 0) := by rfl
theorem LI_nil (room : Nat) (h : room ≤ 4000) : Ov.LI room [] := by
  exact ⟨Nat.zero_le _, fun j hj => absurd hj (Nat.not_lt_zero _), h, fun j hj => absurd hj (Nat.not_lt_zero _), List.nodup_nil⟩
set_option maxRecDepth 100000 in
set_option maxHeartbeats 4000000 in
theorem kawake_calls (B : Nat) (P : List Nat) (s0 s1 s2 s3 : Addr) (w : World) (h : Under w B s0 s1 s2 s3) (hP : ∀ k ∈ P, k < w.heap.size) :
    Calls Tryz.prog 42 #[] w fun e w' => ∃ b, e = .returned (.pointer (some ⟨b, 0, none⟩)) ∧ KW w' B b P s0 s1 s2 s3 4000 [] ∧ KFr B P w w' := by
  have hz := h.se.size
  have HN : Hid (∀ (n : Nat) (w : World), n ≤ 4000 → Calls Tryz.prog 73 #[.int .i64 n] w fun e w' => e = .returned (.tuple #[.pointer (some ⟨w.heap.size, 0, none⟩), .int .i64 0]) ∧ w' = w.alloc (.cells #[.int .i32 0, .int .u32 0, .int .i64 n, .slice none 0 0] 77)) := fun n w hn => oNew_yes n w hn
  have hb1 := below_alloc1 w (.cells #[.int .i32 0, .int .u32 0, .int .i64 (200 : Nat), .slice none 0 0] 77)
  have k1 : KW (w.alloc (.cells #[.int .i32 0, .int .u32 0, .int .i64 (200 : Nat), .slice none 0 0] 77)) B w.heap.size P s0 s1 s2 s3 200 [] := ⟨h.kept (hb1.mono hz), ⟨none, OvRep.new w 200, fun k hk => by cases hk⟩, LI_nil 200 (by omega), hz, fun k hk => ⟨Nat.lt_of_lt_of_le (hP k hk) hb1.size, by have := hP k hk; omega⟩⟩
  obtain ⟨wa, hwa⟩ : ∃ wa, w.alloc (.cells #[.int .i32 0, .int .u32 0, .int .i64 (200 : Nat), .slice none 0 0] 77) = wa := ⟨_, rfl⟩
  have c1 : Calls Tryz.prog 73 #[.int .i64 200] w fun e w' => e = .returned (.tuple #[.pointer (some ⟨w.heap.size, 0, none⟩), .int .i64 0]) ∧ wa = w' := (oNew_yes 200 w (by omega)).mono (fun e w' hh => ⟨hh.1, by rw [hh.2, ← hwa]⟩)
  rw [hwa] at k1 hb1
  have hsz : wa.heap.size = w.heap.size + 1 := by rw [← hwa]; simp
  clear hwa
  have hb2 := below_alloc1 wa (.cells #[.int .i32 0, .int .u32 0, .int .i64 (4000 : Nat), .slice none 0 0] 77)
  obtain ⟨k2, f2⟩ := k1.take hb2 (p := wa.heap.size) (Nat.le_refl _) (by simp)
  have o2 := OvRep.new wa 4000
  obtain ⟨wb, hwb⟩ : ∃ wb, wa.alloc (.cells #[.int .i32 0, .int .u32 0, .int .i64 (4000 : Nat), .slice none 0 0] 77) = wb := ⟨_, rfl⟩
  have c2 : Calls Tryz.prog 73 #[.int .i64 4000] wa fun e w' => e = .returned (.tuple #[.pointer (some ⟨wa.heap.size, 0, none⟩), .int .i64 0]) ∧ wb = w' := (oNew_yes 4000 wa (by omega)).mono (fun e w' hh => ⟨hh.1, by rw [hh.2, ← hwb]⟩)
  rw [hwb] at k2 f2 o2 hb2
  clear hwb
  have HC1 := hide c1
  have HC2 := hide c2
  have HK2 := hide k2
  have HO2 := hide o2
  have HFA : Hid (KFr B P w wb) := KFr.trans ⟨hb1.mono hz, fun k hk => hb1.block k (hP k hk)⟩ f2
  have HM1 : Hid (∀ w1, KW w1 B w.heap.size (wa.heap.size :: P) s0 s1 s2 s3 200 [] → Calls Tryz.prog 38 #[.pointer (some ⟨w.heap.size, 0, none⟩), .string ⟨#[97]⟩, .int .i64 2, .string ⟨#[]⟩] w1 (KPost (.int .i64 0) B w.heap.size (wa.heap.size :: P) s0 s1 s2 s3 200 [(⟨#[97]⟩, exA0)] w1)) := fun w1 hk => by
    have := kMake hk ⟨#[97]⟩ ⟨#[]⟩ 2
    rwa [ex_make1] at this
  have HM2 : Hid (∀ w1, KW w1 B w.heap.size (wa.heap.size :: P) s0 s1 s2 s3 200 [(⟨#[97]⟩, exA0)] → Calls Tryz.prog 38 #[.pointer (some ⟨w.heap.size, 0, none⟩), .string ⟨#[98]⟩, .int .i64 3, .string ⟨#[97]⟩] w1 (KPost (.int .i64 0) B w.heap.size (wa.heap.size :: P) s0 s1 s2 s3 200 [(⟨#[97]⟩, exA0), (⟨#[98]⟩, exB0)] w1)) := fun w1 hk => by
    have := kMake hk ⟨#[98]⟩ ⟨#[97]⟩ 3
    rwa [ex_make2] at this
  have HW1 : Hid (∀ w1, KW w1 B w.heap.size (wa.heap.size :: P) s0 s1 s2 s3 200 [(⟨#[97]⟩, exA0), (⟨#[98]⟩, exB0)] → Calls Tryz.prog 29 #[.pointer (some ⟨w.heap.size, 0, none⟩), .string ⟨#[97]⟩, .int .i64 3, .string ⟨#[120, 121, 122]⟩] w1 (KPost (.int .i64 0) B w.heap.size (wa.heap.size :: P) s0 s1 s2 s3 200 [(⟨#[97]⟩, exA1), (⟨#[98]⟩, exB0)] w1)) := fun w1 hk => by
    have := kWrite hk ⟨#[97]⟩ ⟨#[120, 121, 122]⟩ 3 ⟨by omega, by omega⟩ (by decide)
    rwa [ex_write1] at this
  have HW2 : Hid (∀ w1, KW w1 B w.heap.size (wa.heap.size :: P) s0 s1 s2 s3 200 [(⟨#[97]⟩, exA1), (⟨#[98]⟩, exB0)] → Calls Tryz.prog 29 #[.pointer (some ⟨w.heap.size, 0, none⟩), .string ⟨#[98]⟩, .int .i64 6, .string ⟨#[112, 113, 51, 52]⟩] w1 (KPost (.int .i64 0) B w.heap.size (wa.heap.size :: P) s0 s1 s2 s3 200 [(⟨#[97]⟩, exA1), (⟨#[98]⟩, exB1)] w1)) := fun w1 hk => by
    have := kWrite hk ⟨#[98]⟩ ⟨#[112, 113, 51, 52]⟩ 6 ⟨by omega, by omega⟩ (by decide)
    rwa [ex_write2] at this
  have HD : Hid (∀ w1, KW w1 B w.heap.size (wa.heap.size :: P) s0 s1 s2 s3 200 [(⟨#[97]⟩, exA1), (⟨#[98]⟩, exB1)] → Calls Tryz.prog 34 #[.pointer (some ⟨w.heap.size, 0, none⟩), .string ⟨#[98]⟩] w1 (KPost (.tuple #[.string ⟨#[79, 86, 1, 3, 1, 97, 1, 2, 0, 2, 0, 0, 0, 120, 121, 122, 112, 113, 51, 52, 0, 0, 0, 0, 0, 0]⟩, .int .i64 0]) B w.heap.size (wa.heap.size :: P) s0 s1 s2 s3 200 [(⟨#[97]⟩, exA1), (⟨#[98]⟩, exB1)] w1)) := fun w1 hk => by
    have := kDump hk ⟨#[98]⟩
    rwa [ex_dump] at this
  have HCH : Hid (∀ w1, KW w1 B w.heap.size (wa.heap.size :: P) s0 s1 s2 s3 200 [(⟨#[97]⟩, exA1), (⟨#[98]⟩, exB1)] → Calls Tryz.prog 17 #[.pointer (some ⟨w.heap.size, 0, none⟩), .string ⟨#[98]⟩] w1 (KPost (.tuple #[.string ⟨#[98, 44, 97]⟩, .string ⟨#[]⟩, .int .i64 0]) B w.heap.size (wa.heap.size :: P) s0 s1 s2 s3 200 [(⟨#[97]⟩, exA1), (⟨#[98]⟩, exB1)] w1)) := fun w1 hk => by
    have := kChain hk ⟨#[98]⟩
    rwa [ex_chain] at this
  have HCM : Hid (∀ w1, KW w1 B w.heap.size (wa.heap.size :: P) s0 s1 s2 s3 200 [(⟨#[97]⟩, exA1), (⟨#[98]⟩, exB1)] → Calls Tryz.prog 36 #[.pointer (some ⟨w.heap.size, 0, none⟩), .string ⟨#[97]⟩, .string ⟨#[98]⟩] w1 (KPost (.tuple #[.int .i64 6, .int .i64 0]) B w.heap.size (wa.heap.size :: P) s0 s1 s2 s3 200 [(⟨#[97]⟩, exA1), (⟨#[98]⟩, exB1)] w1)) := fun w1 hk => by
    have := kCompare hk ⟨#[97]⟩ ⟨#[98]⟩
    rwa [ex_compare] at this
  have HH := hide h
  clear h k1 k2 f2 o2 hb1 hb2 c1 c2 HN
  go_enter Tryz.func42, Tryz.ntmps42
  go_wp2_with (first
    | (go_at_call 36; refine (unhide HCM _ (unhide HK8).1).mono ?_; rintro e w9 ⟨rfl, hk⟩; have HK9 := hide hk; clear hk)
    | (go_at_call 17; refine (unhide HCH _ (unhide HK7).1).mono ?_; rintro e w8 ⟨rfl, hk⟩; have HK8 := hide hk; clear hk)
    | (go_at_call 34; refine (unhide HD _ (unhide HK6).1).mono ?_; rintro e w7 ⟨rfl, hk⟩; have HK7 := hide hk; clear hk)
    | (go_at_call 29; refine (unhide HW2 _ (unhide HK5).1).mono ?_; rintro e w6 ⟨rfl, hk⟩; have HK6 := hide hk; clear hk)
    | (go_at_call 29; refine (unhide HW1 _ (unhide HK4).1).mono ?_; rintro e w5 ⟨rfl, hk⟩; have HK5 := hide hk; clear hk)
    | (go_at_call 38; refine (unhide HM2 _ (unhide HK3).1).mono ?_; rintro e w4 ⟨rfl, hk⟩; have HK4 := hide hk; clear hk)
    | (go_at_call 38; refine (unhide HM1 _ (unhide HK2)).mono ?_; rintro e w3 ⟨rfl, hk⟩; have HK3 := hide hk; clear hk)
    | (go_at_call_of 73 (Value.int IntKind.i64 4000); refine (unhide HC2).mono ?_; rintro e w2 ⟨rfl, rfl⟩)
    | (go_at_call_of 73 (Value.int IntKind.i64 200); refine (unhide HC1).mono ?_; rintro e w2 ⟨rfl, rfl⟩))
  go_ret
  have f9 := (((((((unhide HK3).2.trans (unhide HK4).2).trans (unhide HK5).2).trans (unhide HK6).2).trans (unhide HK7).2).trans (unhide HK8).2).trans (unhide HK9).2)
  have o9 : OvRep w9 wa.heap.size none 4000 [] := (unhide HO2).of_blocks (f9.own _ List.mem_cons_self) (fun k hk => by cases hk)
  have hB9 := (unhide HFA).trans (f9.less (fun k hk => List.mem_cons_of_mem _ hk))
  exact ⟨wa.heap.size, by rw [hsz]; rfl, ⟨(unhide HH).kept hB9.below, ⟨none, o9, fun k hk => by cases hk⟩, LI_nil 4000 (by omega), by omega, fun k hk => ⟨Nat.lt_of_lt_of_le (hP k hk) hB9.below.size, by have := hP k hk; omega⟩⟩, hB9⟩

end Go.Proofs.YtomiepknmmpflaaGreatDoor

