/- The program's Compare, whole. -/
import Derived.Test.YtomiepknmmpflaaGreatDoorCWORebase
import Derived.Test.YtomiepknmmpflaaGreatDoorCWORebase2
import Derived.Test.YtomiepknmmpflaaGreatDoorCWLawB
import Derived.Test.YtomiepknmmpflaaGreatDoorCWCommit2
import Derived.Test.YtomiepknmmpflaaGreatDoorCWCommit
import Derived.Test.YtomiepknmmpflaaGreatDoorCWOCommit2
namespace Go.Proofs.YtomiepknmmpflaaGreatDoor
open Go.RowKit Go.Joins

open Go.MuLone in
set_option maxRecDepth 100000 in
set_option maxHeartbeats 2000000 in
theorem oCompare_badx (l : Ov.Files) (x y : ByteArray) (b B : Nat) (r : Option Nat) (room : Nat) (s0 s1 s2 s3 : Addr) (w : World) (hi : Ov.LI room l) (h : OvRep w b r room l) (hs : Sents w B s0 s1 s2 s3) (hB : B ≤ b) (hx : Ov.place l x < l.length) (hy : Ov.place l y < l.length) (hso : Ov.soundF l x ≠ 0) :
    Calls Tryz.prog 36 #[.pointer (some ⟨b, 0, none⟩), .string x, .string y] w fun e w' => e = .returned (.tuple #[.int .i64 (compareF l x y).1, .int .i64 (compareF l x y).2]) ∧ OvLeft w b r room l w' := by
  obtain ⟨v, h1, h2, h3, h4⟩ := id h
  have HR := hide h
  have c0 : w.cell? ⟨b, 0, none⟩ = some (.int .i32 0) := blk_cell h1 rfl
  have f0 := blk_frozen h1 0
  have hbl := blk_lt h1
  have HB0 := hide h1
  have HB := hide (blk_set_same (i := 0) h1 (.int .i32 1))
  have HO := hide (owns_set h2 h3 (a := ⟨b, 0, none⟩) (.int .i32 1))
  have H4 := hide h4
  have HI := hide hi
  have HC : Hid (ChainAt (w.setCell ⟨b, 0, none⟩ (.int .i32 1)) b B r room l s0 s1 s2 s3) := ⟨h.lock, hi, hs.kept ((Below.refl B w).setCell (p := ⟨b, 0, none⟩) hB (.int .i32 1))⟩
  have HF : Hid (compareF l x y = (0, Ov.soundF l x)) := by unfold compareF; rw [if_neg (by rintro (q | q) <;> exact q (by assumption)), if_pos hso]; exact rfl
  have HX : Hid (Ov.has l x = true) := by unfold Ov.has; exact decide_eq_true hx
  have HY : Hid (Ov.has l y = true) := by unfold Ov.has; exact decide_eq_true hy
  have hl8 := hi.len
  have HSO := hide hso
  clear h h1 h2 h3 h4 hi hs hx hy hso
  go_enter_defers Tryz.func36, Tryz.ntmps36
  go_wp2_with (first
    | (go_at_call 47; refine (oerrnoOf_calls s0 s1 s2 s3 eb _ B ed wh et ea _ hc5 (unhide HE5) ((unhide HC3).kept (unhide HB5)).se).mono ?_; rintro e w6 ⟨rfl, rfl⟩)
    | (go_at_call_of 45 x; obtain ⟨wh, hop⟩ := openChain_no (unhide HSO) (unhide HC3); refine hop.mono ?_; rintro e w5 ⟨hb5, eb, ed, et, ea, rfl, he5, hc5⟩; have HE5 := hide he5; have HB5 := hide hb5; clear he5 hb5 hop)
    | (go_at_call_of 66 y; refine (oShas_calls l _ y b 3 0 _ hl8 (owns_all (unhide HO) (unhide HB2)) (blk_cell (((unhide HB2).block b (by simpa using hbl)).trans (unhide HB)) rfl) (Nat.lt_of_lt_of_le (by simpa using hbl) (unhide HB2).size)).mono ?_; rintro e w3 ⟨he, hb3⟩; rw [unhide HY] at he; subst he; have HB3 := hide ((unhide HB2).trans (hb3.mono (unhide HB2).size)); have HC3 := hide ((unhide HC).kept (unhide HB3)); clear hb3)
    | (go_at_call_of 66 x; refine (oShas_calls l _ x b 3 0 _ hl8 (unhide HO) (blk_cell (unhide HB) rfl) (by simpa using hbl)).mono ?_; rintro e w2 ⟨he, hb2⟩; rw [unhide HX] at he; subst he; have HB2 := hide hb2; clear hb2)
    | (go_at_call 43; refine (lock_free muLib ⟨b, 0, none⟩ _ c0 f0).mono ?_; rintro e w1 ⟨rfl, rfl⟩))
  have hb9 := (unhide HB3).trans ((unhide HB5).mono (unhide HB3).size)
  refine leaves_cons (f := 44) (args := #[.pointer (some ⟨b, 0, none⟩)]) (by simp) (by simp [go_sem]) ?_
  refine (unlock_deferred muLib ⟨b, 0, none⟩ .returning _ ?_ ?_).mono ?_
  · exact (hb9.cell (p := ⟨b, 0, none⟩) (by simpa using hbl)).trans (blk_cell (unhide HB) rfl)
  · exact (hb9.frozen (p := ⟨b, 0, none⟩) (by simpa using hbl)).trans (blk_frozen (unhide HB) 0)
  rintro e u' w'' ⟨rfl, rfl, rfl⟩
  exact ⟨_, results_tmp2 rfl _ _ _, by rw [unhide HF]; rfl, OvLeft.quiet (unhide HR) hb9⟩

open Go.MuLone in
set_option maxRecDepth 100000 in
set_option maxHeartbeats 2000000 in
theorem oCompare_bady (l : Ov.Files) (x y : ByteArray) (b B : Nat) (r : Option Nat) (room : Nat) (s0 s1 s2 s3 : Addr) (w : World) (hi : Ov.LI room l) (h : OvRep w b r room l) (hs : Sents w B s0 s1 s2 s3) (hB : B ≤ b) (hx : Ov.place l x < l.length) (hy : Ov.place l y < l.length) (hsx : Ov.soundF l x = 0) (hso : Ov.soundF l y ≠ 0) :
    Calls Tryz.prog 36 #[.pointer (some ⟨b, 0, none⟩), .string x, .string y] w fun e w' => e = .returned (.tuple #[.int .i64 (compareF l x y).1, .int .i64 (compareF l x y).2]) ∧ OvLeft w b r room l w' := by
  obtain ⟨v, h1, h2, h3, h4⟩ := id h
  have HR := hide h
  have c0 : w.cell? ⟨b, 0, none⟩ = some (.int .i32 0) := blk_cell h1 rfl
  have f0 := blk_frozen h1 0
  have hbl := blk_lt h1
  have HB0 := hide h1
  have HB := hide (blk_set_same (i := 0) h1 (.int .i32 1))
  have HO := hide (owns_set h2 h3 (a := ⟨b, 0, none⟩) (.int .i32 1))
  have H4 := hide h4
  have HI := hide hi
  have HC : Hid (ChainAt (w.setCell ⟨b, 0, none⟩ (.int .i32 1)) b B r room l s0 s1 s2 s3) := ⟨h.lock, hi, hs.kept ((Below.refl B w).setCell (p := ⟨b, 0, none⟩) hB (.int .i32 1))⟩
  have HF : Hid (compareF l x y = (0, Ov.soundF l y)) := by unfold compareF; rw [if_neg (by rintro (q | q) <;> exact q (by assumption)), if_neg (by omega), if_pos hso]; exact rfl
  have HX : Hid (Ov.has l x = true) := by unfold Ov.has; exact decide_eq_true hx
  have HY : Hid (Ov.has l y = true) := by unfold Ov.has; exact decide_eq_true hy
  have hl8 := hi.len
  have HSO := hide hso
  have HPX := hide hx
  have HDX : Hid ((Ov.downOf l x).2.1 = 0) := by unfold Ov.soundF at hsx; rwa [if_pos hx] at hsx
  clear h h1 h2 h3 h4 hi hs hx hy hso hsx
  go_enter_defers Tryz.func36, Tryz.ntmps36
  go_wp2_with (first
    | (go_at_call 47; refine (oerrnoOf_calls s0 s1 s2 s3 eb _ B ed wh et ea _ hc5 (unhide HE5) ((unhide HC4).kept (unhide HB5)).se).mono ?_; rintro e w6 ⟨rfl, rfl⟩)
    | (go_at_call_of 45 y; obtain ⟨wh, hop⟩ := openChain_no (unhide HSO) (unhide HC4); refine hop.mono ?_; rintro e w5 ⟨hb5, eb, ed, et, ea, rfl, he5, hc5⟩; have HE5 := hide he5; have HB5 := hide hb5; clear he5 hb5 hop)
    | (go_at_call_of 45 x; refine (oopenChain_yes x _ b B r room l s0 s1 s2 s3 (unhide HC3) (unhide HPX) (unhide HDX)).mono ?_; rintro e w4 ⟨hb4, cb, r2, L, rfl, hcb, hch, hnL, hL8, _⟩; have HC4 := hide ((unhide HC3).kept hb4); have HB4 := hide ((unhide HB3).trans (hb4.mono (unhide HB3).size)); clear hb4 hcb hch hnL)
    | (go_at_call_of 66 y; refine (oShas_calls l _ y b 3 0 _ hl8 (owns_all (unhide HO) (unhide HB2)) (blk_cell (((unhide HB2).block b (by simpa using hbl)).trans (unhide HB)) rfl) (Nat.lt_of_lt_of_le (by simpa using hbl) (unhide HB2).size)).mono ?_; rintro e w3 ⟨he, hb3⟩; rw [unhide HY] at he; subst he; have HB3 := hide ((unhide HB2).trans (hb3.mono (unhide HB2).size)); have HC3 := hide ((unhide HC).kept (unhide HB3)); clear hb3)
    | (go_at_call_of 66 x; refine (oShas_calls l _ x b 3 0 _ hl8 (unhide HO) (blk_cell (unhide HB) rfl) (by simpa using hbl)).mono ?_; rintro e w2 ⟨he, hb2⟩; rw [unhide HX] at he; subst he; have HB2 := hide hb2; clear hb2)
    | (go_at_call 43; refine (lock_free muLib ⟨b, 0, none⟩ _ c0 f0).mono ?_; rintro e w1 ⟨rfl, rfl⟩))
  have hb9 := (unhide HB4).trans ((unhide HB5).mono (unhide HB4).size)
  refine leaves_cons (f := 44) (args := #[.pointer (some ⟨b, 0, none⟩)]) (by simp) (by simp [go_sem]) ?_
  refine (unlock_deferred muLib ⟨b, 0, none⟩ .returning _ ?_ ?_).mono ?_
  · exact (hb9.cell (p := ⟨b, 0, none⟩) (by simpa using hbl)).trans (blk_cell (unhide HB) rfl)
  · exact (hb9.frozen (p := ⟨b, 0, none⟩) (by simpa using hbl)).trans (blk_frozen (unhide HB) 0)
  rintro e u' w'' ⟨rfl, rfl, rfl⟩
  exact ⟨_, results_tmp2 rfl _ _ _, by rw [unhide HF]; rfl, OvLeft.quiet (unhide HR) hb9⟩

open Go.MuLone in
set_option maxRecDepth 100000 in
set_option maxHeartbeats 4000000 in
theorem oCompare_go (l : Ov.Files) (x y : ByteArray) (b B : Nat) (r : Option Nat) (room : Nat) (s0 s1 s2 s3 : Addr) (w : World) (hi : Ov.LI room l) (h : OvRep w b r room l) (hs : Sents w B s0 s1 s2 s3) (hB : B ≤ b) (hx : Ov.place l x < l.length) (hy : Ov.place l y < l.length) (hsx : Ov.soundF l x = 0) (hsy : Ov.soundF l y = 0) :
    Calls Tryz.prog 36 #[.pointer (some ⟨b, 0, none⟩), .string x, .string y] w fun e w' => e = .returned (.tuple #[.int .i64 (compareF l x y).1, .int .i64 (compareF l x y).2]) ∧ OvLeft w b r room l w' := by
  obtain ⟨v, h1, h2, h3, h4⟩ := id h
  have HR := hide h
  have c0 : w.cell? ⟨b, 0, none⟩ = some (.int .i32 0) := blk_cell h1 rfl
  have f0 := blk_frozen h1 0
  have hbl := blk_lt h1
  have HB0 := hide h1
  have HB := hide (blk_set_same (i := 0) h1 (.int .i32 1))
  have HO := hide (owns_set h2 h3 (a := ⟨b, 0, none⟩) (.int .i32 1))
  have H4 := hide h4
  have HI := hide hi
  have HC : Hid (ChainAt (w.setCell ⟨b, 0, none⟩ (.int .i32 1)) b B r room l s0 s1 s2 s3) := ⟨h.lock, hi, hs.kept ((Below.refl B w).setCell (p := ⟨b, 0, none⟩) hB (.int .i32 1))⟩
  obtain ⟨_, hcx⟩ := sound_here hsx
  obtain ⟨_, hcy⟩ := sound_here hsy
  have HF : Hid (compareF l x y = (diffFrom (Ov.atTo l (Ov.downOf l x).1) (Ov.atTo l (Ov.downOf l y).1) 240 0, 0)) := by unfold compareF; rw [if_neg (by rintro (q | q) <;> exact q (by assumption)), if_neg (by omega), if_neg (by omega)]; exact rfl
  have HX : Hid (Ov.has l x = true) := by unfold Ov.has; exact decide_eq_true hx
  have HY : Hid (Ov.has l y = true) := by unfold Ov.has; exact decide_eq_true hy
  have hl8 := hi.len
  have HPX := hide hx
  have HPY := hide hy
  have HDX : Hid ((Ov.downOf l x).2.1 = 0) := by have := hsx; unfold Ov.soundF at this; rwa [if_pos hx] at this
  have HDY : Hid ((Ov.downOf l y).2.1 = 0) := by have := hsy; unfold Ov.soundF at this; rwa [if_pos hy] at this
  have HOX := hide (fun (L : Ims) (cb : Nat) (r : Option Nat) (W : World) => opened (L := L) (cb := cb) (r := r) (w := W) hsx)
  have HOY := hide (fun (L : Ims) (cb : Nat) (r : Option Nat) (W : World) => opened (L := L) (cb := cb) (r := r) (w := W) hsy)
  have hmx : 1 ≤ Ov.many (fOf l x) ∧ Ov.many (fOf l x) ≤ 30 := hcx.many_le
  have hmy : 1 ≤ Ov.many (fOf l y) ∧ Ov.many (fOf l y) ≤ 30 := hcy.many_le
  have HEX := hide (view_end hcx)
  have HEY := hide (view_end hcy)
  obtain ⟨u, hu⟩ : ∃ u, Ov.atTo l (Ov.downOf l x).1 = u := ⟨_, rfl⟩
  obtain ⟨v2, hv2⟩ : ∃ u, Ov.atTo l (Ov.downOf l y).1 = u := ⟨_, rfl⟩
  obtain ⟨m, hm⟩ : ∃ m, Ov.many (fOf l x) = m := ⟨_, rfl⟩
  obtain ⟨n, hn⟩ : ∃ n, Ov.many (fOf l y) = n := ⟨_, rfl⟩
  rw [hm] at hmx
  rw [hn] at hmy
  rw [hu, hm] at HEX
  rw [hv2, hn] at HEY
  rw [hu, hv2] at HF
  obtain ⟨hm1, hm30⟩ := hmx
  obtain ⟨hn1, hn30⟩ := hmy
  have HU := hide hu
  have HV := hide hv2
  have HM := hide hm
  have HN := hide hn
  obtain ⟨df, hdf⟩ : ∃ df, diffFrom u v2 240 0 = df := ⟨_, rfl⟩
  rw [hdf] at HF
  have HDF := hide hdf
  clear h h1 h2 h3 h4 hi hs hx hy hsx hsy hcx hcy hu hv2 hm hn hdf
  go_enter_defers Tryz.func36, Tryz.ntmps36
  go_wp2_with (first
    | (go_at_call 68; refine (ofirst_calls m n 0 0 u v2 _ _ _ (unhide HBX9) (unhide HBY9) hm1 hm30 hn1 hn30 (unhide HEX) (unhide HEY)).mono ?_; rintro e w10 ⟨he, hb10⟩; rw [unhide HDF] at he; subst he; have HB10 := hide ((unhide HB9).trans (hb10.mono (unhide HB9).size)); clear hb10)
    | (go_at_call 69; refine (obytesOf_calls n 0 v2 _ _ (unhide HVY8) hn30).mono ?_; rintro e w9 ⟨a9, c9, rfl, hb9, ho9⟩; have HB9 := hide ((unhide HB8).trans (hb9.mono (unhide HB8).size)); have HBX9 := hide (owns_all (unhide HBX8) hb9); have HBY9 := hide (ownsRow_le ho9 (Nat.zero_le _)); clear hb9 ho9)
    | (go_at_call 70; refine (oviewOf_calls l L2 cb2 r3 _ (unhide HCY7) hLy1 hL2).mono ?_; rintro e w8 ⟨a8, c8, he, hb8, ho8⟩; rw [unhide HNY] at he ho8; rw [unhide HVY] at ho8; subst he; have HB8 := hide ((unhide HB7).trans (hb8.mono (unhide HB7).size)); have HVY8 := hide ho8; have HBX8 := hide (owns_all (unhide HBX7) hb8); clear hb8 ho8)
    | (go_at_call 69; refine (obytesOf_calls m 0 u _ _ (unhide HVX6) hm30).mono ?_; rintro e w7 ⟨a7, c7, rfl, hb7, ho7⟩; have HB7 := hide ((unhide HB6).trans (hb7.mono (unhide HB6).size)); have HBX7 := hide (ownsRow_le ho7 (Nat.zero_le _)); have HCY7 := hide ((unhide HCY6).kept hb7); clear hb7 ho7)
    | (go_at_call 70; refine (oviewOf_calls l L cb r2 _ (unhide HCX5) hLx1 hL8).mono ?_; rintro e w6 ⟨a6, c6, he, hb6, ho6⟩; rw [unhide HNX] at he ho6; rw [unhide HVX] at ho6; subst he; have HB6 := hide ((unhide HB5).trans (hb6.mono (unhide HB5).size)); have HVX6 := hide ho6; have HCY6 := hide ((unhide HCY5).kept hb6); clear hb6 ho6)
    | (go_at_call_of 45 y; refine (oopenChain_yes y _ b B r room l s0 s1 s2 s3 (unhide HC4) (unhide HPY) (unhide HDY)).mono ?_; rintro e w5 ⟨hb5, cb2, r3, L2, rfl, hcb2, hch2, hnL2, hL2, _⟩; obtain ⟨hLy1, _, hsNy, hsVy, _⟩ := unhide HOY L2 cb2 r3 w5 hch2 hnL2; rw [unhide HN] at hsNy; rw [unhide HV] at hsVy; have HNY := hide hsNy; have HVY := hide hsVy; have HCY5 := hide hch2; have HCX5 := hide ((unhide HCX4).kept hb5); have HB5 := hide ((unhide HB4).trans (hb5.mono (unhide HB4).size)); clear hb5 hcb2 hch2 hnL2 hsNy hsVy)
    | (go_at_call_of 45 x; refine (oopenChain_yes x _ b B r room l s0 s1 s2 s3 (unhide HC3) (unhide HPX) (unhide HDX)).mono ?_; rintro e w4 ⟨hb4, cb, r2, L, rfl, hcb, hch, hnL, hL8, _⟩; obtain ⟨hLx1, _, hsN, hsV, _⟩ := unhide HOX L cb r2 w4 hch hnL; rw [unhide HM] at hsN; rw [unhide HU] at hsV; have HNX := hide hsN; have HVX := hide hsV; have HCX4 := hide hch; clear hsN hsV; have HC4 := hide ((unhide HC3).kept hb4); have HB4 := hide ((unhide HB3).trans (hb4.mono (unhide HB3).size)); clear hb4 hcb hch hnL)
    | (go_at_call_of 66 y; refine (oShas_calls l _ y b 3 0 _ hl8 (owns_all (unhide HO) (unhide HB2)) (blk_cell (((unhide HB2).block b (by simpa using hbl)).trans (unhide HB)) rfl) (Nat.lt_of_lt_of_le (by simpa using hbl) (unhide HB2).size)).mono ?_; rintro e w3 ⟨he, hb3⟩; rw [unhide HY] at he; subst he; have HB3 := hide ((unhide HB2).trans (hb3.mono (unhide HB2).size)); have HC3 := hide ((unhide HC).kept (unhide HB3)); clear hb3)
    | (go_at_call_of 66 x; refine (oShas_calls l _ x b 3 0 _ hl8 (unhide HO) (blk_cell (unhide HB) rfl) (by simpa using hbl)).mono ?_; rintro e w2 ⟨he, hb2⟩; rw [unhide HX] at he; subst he; have HB2 := hide hb2; clear hb2)
    | (go_at_call 43; refine (lock_free muLib ⟨b, 0, none⟩ _ c0 f0).mono ?_; rintro e w1 ⟨rfl, rfl⟩))
  have hb9 := unhide HB10
  refine leaves_cons (f := 44) (args := #[.pointer (some ⟨b, 0, none⟩)]) (by simp) (by simp [go_sem]) ?_
  refine (unlock_deferred muLib ⟨b, 0, none⟩ .returning _ ?_ ?_).mono ?_
  · exact (hb9.cell (p := ⟨b, 0, none⟩) (by simpa using hbl)).trans (blk_cell (unhide HB) rfl)
  · exact (hb9.frozen (p := ⟨b, 0, none⟩) (by simpa using hbl)).trans (blk_frozen (unhide HB) 0)
  rintro e u' w'' ⟨rfl, rfl, rfl⟩
  exact ⟨_, results_tmp2 rfl _ _ _, by rw [unhide HF]; rfl, OvLeft.quiet (unhide HR) hb9⟩

theorem ovCompare_calls (l : Ov.Files) (x y : ByteArray) (b B : Nat) (r : Option Nat) (room : Nat) (s0 s1 s2 s3 : Addr) (w : World) (hi : Ov.LI room l) (h : OvRep w b r room l) (hs : Sents w B s0 s1 s2 s3) (hB : B ≤ b) :
    Calls Tryz.prog 36 #[.pointer (some ⟨b, 0, none⟩), .string x, .string y] w fun e w' => e = .returned (.tuple #[.int .i64 (compareF l x y).1, .int .i64 (compareF l x y).2]) ∧ OvLeft w b r room l w' := by
  by_cases hx : Ov.place l x < l.length
  · by_cases hy : Ov.place l y < l.length
    · by_cases h1 : Ov.soundF l x = 0
      · by_cases h2 : Ov.soundF l y = 0
        · exact oCompare_go l x y b B r room s0 s1 s2 s3 w hi h hs hB hx hy h1 h2
        · exact oCompare_bady l x y b B r room s0 s1 s2 s3 w hi h hs hB hx hy h1 h2
      · exact oCompare_badx l x y b B r room s0 s1 s2 s3 w hi h hs hB hx hy h1
    · exact oCompare_noy l x y b B r room s0 s1 s2 s3 w hi h hs hB hx hy
  · exact oCompare_nox l x y b B r room s0 s1 s2 s3 w hi h hs hB hx

end Go.Proofs.YtomiepknmmpflaaGreatDoor

namespace Go.Proofs.YtomiepknmmpflaaGreatDoor
open Go.RowKit Go.Joins

open Go.MuLone in
set_option maxRecDepth 100000 in
set_option maxHeartbeats 2000000 in
theorem ovRebase_calls (l : Ov.Files) (x bk : ByteArray) (b B : Nat) (r : Option Nat) (room : Nat) (s0 s1 s2 s3 : Addr) (w : World) (hi : Ov.LI room l) (h : OvRep w b r room l) (hs : Sents w B s0 s1 s2 s3) (hB : B ≤ b) :
    Calls Tryz.prog 24 #[.pointer (some ⟨b, 0, none⟩), .string x, .string bk] w fun e w' => e = .returned (.int .i64 (rebaseF room l x bk).1) ∧ OvLeft w b r room (rebaseF room l x bk).2 w' := by
  obtain ⟨v, h1, h2, h3, h4⟩ := id h
  have HR := hide h
  have c0 : w.cell? ⟨b, 0, none⟩ = some (.int .i32 0) := blk_cell h1 rfl
  have f0 := blk_frozen h1 0
  have hbl := blk_lt h1
  have HB0 := hide h1
  have HB := hide (blk_set_same (i := 0) h1 (.int .i32 1))
  have HO := hide (owns_set h2 h3 (a := ⟨b, 0, none⟩) (.int .i32 1))
  have H4 := hide h4
  have HI := hide hi
  have HC : Hid (ChainAt (w.setCell ⟨b, 0, none⟩ (.int .i32 1)) b B r room l s0 s1 s2 s3) := ⟨h.lock, hi, hs.kept ((Below.refl B w).setCell (p := ⟨b, 0, none⟩) hB (.int .i32 1))⟩
  have HRB := hide (orebase_calls l x bk b B r room s0 s1 s2 s3 v _ (unhide HC) (unhide HB) (unhide HO))
  clear h h1 h2 h3 h4 hi hs
  go_enter_defers Tryz.func24, Tryz.ntmps24
  go_wp2_with (first
    | (go_at_call 55; refine (unhide HRB).mono ?_; rintro e w2 ⟨rfl, hk2⟩; have HK2 := hide hk2; clear hk2)
    | (go_at_call 43; refine (lock_free muLib ⟨b, 0, none⟩ _ c0 f0).mono ?_; rintro e w1 ⟨rfl, rfl⟩))
  obtain ⟨z1, z2, z3⟩ := OvLeft.kept (unhide HR) (unhide HB0) (unhide H4) (Below.refl _ _) (unhide HK2)
  refine leaves_cons (f := 44) (args := #[.pointer (some ⟨b, 0, none⟩)]) (by simp) (by simp [go_sem]) ?_
  refine (unlock_deferred muLib ⟨b, 0, none⟩ .returning _ z1 z2).mono ?_
  rintro e u' w'' ⟨rfl, rfl, rfl⟩
  exact ⟨_, results_tmp rfl _ _ _, rfl, z3⟩

open Go.MuLone in
set_option maxRecDepth 100000 in
set_option maxHeartbeats 2000000 in
theorem ovFlatten_calls (l : Ov.Files) (x : ByteArray) (b B : Nat) (r : Option Nat) (room : Nat) (s0 s1 s2 s3 : Addr) (w : World) (hi : Ov.LI room l) (h : OvRep w b r room l) (hs : Sents w B s0 s1 s2 s3) (hB : B ≤ b) :
    Calls Tryz.prog 25 #[.pointer (some ⟨b, 0, none⟩), .string x] w fun e w' => e = .returned (.int .i64 (rebaseF room l x ⟨#[]⟩).1) ∧ OvLeft w b r room (rebaseF room l x ⟨#[]⟩).2 w' := by
  obtain ⟨v, h1, h2, h3, h4⟩ := id h
  have HR := hide h
  have c0 : w.cell? ⟨b, 0, none⟩ = some (.int .i32 0) := blk_cell h1 rfl
  have f0 := blk_frozen h1 0
  have hbl := blk_lt h1
  have HB0 := hide h1
  have HB := hide (blk_set_same (i := 0) h1 (.int .i32 1))
  have HO := hide (owns_set h2 h3 (a := ⟨b, 0, none⟩) (.int .i32 1))
  have H4 := hide h4
  have HI := hide hi
  have HC : Hid (ChainAt (w.setCell ⟨b, 0, none⟩ (.int .i32 1)) b B r room l s0 s1 s2 s3) := ⟨h.lock, hi, hs.kept ((Below.refl B w).setCell (p := ⟨b, 0, none⟩) hB (.int .i32 1))⟩
  have HRB := hide (orebase_calls l x ⟨#[]⟩ b B r room s0 s1 s2 s3 v _ (unhide HC) (unhide HB) (unhide HO))
  clear h h1 h2 h3 h4 hi hs
  go_enter_defers Tryz.func25, Tryz.ntmps25
  go_wp2_with (first
    | (go_at_call 55; refine (unhide HRB).mono ?_; rintro e w2 ⟨rfl, hk2⟩; have HK2 := hide hk2; clear hk2)
    | (go_at_call 43; refine (lock_free muLib ⟨b, 0, none⟩ _ c0 f0).mono ?_; rintro e w1 ⟨rfl, rfl⟩))
  obtain ⟨z1, z2, z3⟩ := OvLeft.kept (unhide HR) (unhide HB0) (unhide H4) (Below.refl _ _) (unhide HK2)
  refine leaves_cons (f := 44) (args := #[.pointer (some ⟨b, 0, none⟩)]) (by simp) (by simp [go_sem]) ?_
  refine (unlock_deferred muLib ⟨b, 0, none⟩ .returning _ z1 z2).mono ?_
  rintro e u' w'' ⟨rfl, rfl, rfl⟩
  exact ⟨_, results_tmp rfl _ _ _, rfl, z3⟩

end Go.Proofs.YtomiepknmmpflaaGreatDoor

namespace Go.Proofs.YtomiepknmmpflaaGreatDoor
open Go.RowKit Go.Joins

theorem commitF_small (room : Nat) (l : Ov.Files) (x : ByteArray) : Small (commitF room l x).1 := by
  unfold commitF
  split
  · exact soundF_small _ _
  · split
    · exact ⟨by simp, by simp⟩
    · exact putF_small _ _ _
theorem rebaseF_small (room : Nat) (l : Ov.Files) (x bk : ByteArray) : Small (rebaseF room l x bk).1 := by
  unfold rebaseF
  split
  · exact soundF_small _ _
  · split
    · exact soundF_small _ _
    · split
      · exact ⟨by simp, by simp⟩
      · exact putF_small _ _ _
theorem compareF_small (l : Ov.Files) (x y : ByteArray) : Small (compareF l x y).2 := by
  unfold compareF
  split
  · exact ⟨by simp, by simp⟩
  · split
    · exact soundF_small _ _
    · split
      · exact soundF_small _ _
      · exact ⟨by simp, by simp⟩
theorem LI.commit {room : Nat} {l : Ov.Files} (h : Ov.LI room l) (x : ByteArray) : Ov.LI room (commitF room l x).2 := by
  unfold commitF
  split
  · exact h
  · rename_i hso
    split
    · exact h
    · rename_i hbn
      obtain ⟨hp, hc⟩ := sound_here (show Ov.soundF l x = 0 by omega)
      have hm := hc.many_le
      have hbk := backing_size hc
      obtain ⟨ms, _, hcb⟩ := chn_below hc rfl rfl hbn
      have hpb := hcb.here
      have hmb := hcb.many_le
      have hbz := backing_size hcb
      have hn := h.names _ hp
      rw [Ov.place_name hp] at hn
      have hnb := h.names _ hpb
      rw [Ov.place_name hpb] at hnb
      have hl := h.len
      have h1 := encode_size (Ov.backing (fileOf l x)) (noKinds (Ov.many (fileOf l x))) (noBlocks (Ov.many (fileOf l x))) (fun j hj => by rw [noBlocks_getD]; exact Nat.zero_le _)
      have hln : (noKinds (Ov.many (fileOf l x))).length = Ov.many (fileOf l x) := by simp [noKinds]
      have h2 := encode_size (Ov.backing (fileOf l (Ov.backing (fileOf l x)))) (comKs (fileOf l x) (fileOf l (Ov.backing (fileOf l x))) (Ov.many (fileOf l x))) (comBs (fileOf l x) (fileOf l (Ov.backing (fileOf l x))) (Ov.many (fileOf l x))) (fun j hj => comBs_bd (by rw [comKs_length] at hj; exact hj))
      rw [comKs_length] at h2
      have hmb' : Ov.many (fileOf l (Ov.backing (fileOf l x))) ≤ 30 := hmb.2
      have hbz' : (Ov.backing (fileOf l (Ov.backing (fileOf l x)))).size ≤ 8 := hbz
      refine h.put ?_ (Ov.withF_size (Ov.withF_size h.size (by omega)) (by omega)) (Ov.withF_names (Ov.withF_names h.names hn) hnb) (Ov.withF_nodup (Ov.withF_nodup h.nodup))
      rw [Ov.withF_length, if_pos (place_with hpb), Ov.withF_length, if_pos hp]; exact hl
theorem LI.rebase {room : Nat} {l : Ov.Files} (h : Ov.LI room l) (x bk : ByteArray) : Ov.LI room (rebaseF room l x bk).2 := by
  unfold rebaseF
  split
  · exact h
  · rename_i hso
    split
    · exact h
    · rename_i hsb
      split
      · exact h
      · obtain ⟨hp, hc⟩ := sound_here (show Ov.soundF l x = 0 by omega)
        have hm := hc.many_le
        have hn := h.names _ hp
        rw [Ov.place_name hp] at hn
        have hl := h.len
        have hbk : bk.size ≤ 8 := by
          by_cases hb0 : bk.size = 0
          · omega
          · by_cases hs : Ov.soundF l bk = 0
            · exact h.name_size (sound_here hs).1
            · exact absurd ⟨hb0, hs⟩ hsb
        have h1 := encode_size bk (allTo (Ov.many (fileOf l x)) (kOld (fileOf l x)) (rebK l (Ov.downOf l x).1) (rebC l (fileOf l x) (Ov.downOf l x).1 (overN l bk))) (allTo (Ov.many (fileOf l x)) (bOld (fileOf l x)) (fun i => viewF l (Ov.downOf l x).1 (8 * i) 8) (rebD l (fileOf l x) (Ov.downOf l x).1 (overN l bk))) (fun j hj => by
          rw [allTo_length] at hj
          rw [allTo_getD hj]
          split
          · rw [viewF_size]; omega
          · exact bOld_size j)
        rw [allTo_length] at h1
        refine h.put ?_ (Ov.withF_size h.size (by omega)) (Ov.withF_names h.names hn) (Ov.withF_nodup h.nodup)
        rw [Ov.withF_length, if_pos hp]; exact hl

set_option maxRecDepth 100000 in
set_option maxHeartbeats 2000000 in
theorem ltools_commit (w : World) (B wb i : Nat) (s0 s1 s2 s3 : Addr) (v : Value) (S : List St) (s : St) (W n m : Int) (nm ot tx : ByteArray) (h : LW w B wb s0 s1 s2 s3 v S) (hs : S[i]? = some s) (_ : OpOk W n m tx) :
    Calls Tryz.prog 77 #[.agg #[.pointer (some ⟨s.bx, 0, none⟩), .pointer (some ⟨s.ry, 0, none⟩)], .agg #[.int .i64 12, .int .i64 W, .int .i64 n, .int .i64 m, .string nm, .string ot, .string tx]] w fun e w' => e = .returned (.bool true) ∧ ∃ S', LW w' B wb s0 s1 s2 s3 v S' ∧ S'.length = S.length ∧ Below B w w' := by
  have HW := hide (h.kept (below_alloc2 w (.cells #[.pointer (some ⟨s.bx, 0, none⟩), .pointer (some ⟨s.ry, 0, none⟩)] 127) (.cells #[.int .i64 12, .int .i64 W, .int .i64 n, .int .i64 m, .string nm, .string ot, .string tx] 63)))
  have HS := hide hs
  have HST := hide ((unhide HW).each s (List.mem_of_getElem? hs))
  have HB := hide (unhide HST).bx
  have hBz := h.un.se.size
  have HCS := hide (commitF_small s.room s.l nm)
  clear h hs
  go_enter Tryz.func77, Tryz.ntmps77
  go_wp2_with (first
    | (go_at_call 75; refine (lnum_calls _ _ (unhide HCS)).mono ?_; rintro e w3 ⟨rfl, rfl⟩)
    | (go_at_call 115; refine (rCommit_calls s.l nm s.ry s.room _ (unhide HST).li (unhide HM)).mono ?_; rintro e w2 ⟨rfl, hr⟩; have HR := hide (hr); clear hr)
    | (go_at_call 23; refine (ovCommit_calls s.l nm s.bx B s.rx s.room s0 s1 s2 s3 _ (unhide HST).li (unhide HST).ov (unhide HW).un.se (unhide HB)).mono ?_; rintro e w1 ⟨rfl, hl⟩; have HL := hide hl; have kp := pair_kept hl (unhide HST).ov (blk_alloc (blk_new w _) _) (by decide) (by decide); have ko := pair_kept hl (unhide HST).ov (blk_new1 w _ _) (by decide) (by decide); have p1 := blk_cell (i := 1) kp rfl; have o4 := blk_cell (i := 4) ko rfl; have o5 := blk_cell (i := 5) ko rfl; have HM := hide ((unhide HST).mid hl); clear hl kp ko))
  go_ret
  obtain ⟨S', t1, t2, t3⟩ := (unhide HW).turn (unhide HS) (unhide HL) (unhide HR) (LI.commit (unhide HST).li nm)
  exact ⟨rfl, S', t1, t2, ((below_alloc2 w _ _).mono hBz).trans t3⟩

set_option maxRecDepth 100000 in
set_option maxHeartbeats 2000000 in
theorem ltools_rebase (w : World) (B wb i : Nat) (s0 s1 s2 s3 : Addr) (v : Value) (S : List St) (s : St) (W n m : Int) (nm ot tx : ByteArray) (h : LW w B wb s0 s1 s2 s3 v S) (hs : S[i]? = some s) (_ : OpOk W n m tx) :
    Calls Tryz.prog 77 #[.agg #[.pointer (some ⟨s.bx, 0, none⟩), .pointer (some ⟨s.ry, 0, none⟩)], .agg #[.int .i64 13, .int .i64 W, .int .i64 n, .int .i64 m, .string nm, .string ot, .string tx]] w fun e w' => e = .returned (.bool true) ∧ ∃ S', LW w' B wb s0 s1 s2 s3 v S' ∧ S'.length = S.length ∧ Below B w w' := by
  have HW := hide (h.kept (below_alloc2 w (.cells #[.pointer (some ⟨s.bx, 0, none⟩), .pointer (some ⟨s.ry, 0, none⟩)] 127) (.cells #[.int .i64 13, .int .i64 W, .int .i64 n, .int .i64 m, .string nm, .string ot, .string tx] 63)))
  have HS := hide hs
  have HST := hide ((unhide HW).each s (List.mem_of_getElem? hs))
  have HB := hide (unhide HST).bx
  have hBz := h.un.se.size
  have HCS := hide (rebaseF_small s.room s.l nm ot)
  clear h hs
  go_enter Tryz.func77, Tryz.ntmps77
  go_wp2_with (first
    | (go_at_call 75; refine (lnum_calls _ _ (unhide HCS)).mono ?_; rintro e w3 ⟨rfl, rfl⟩)
    | (go_at_call 116; refine (rRebase_calls s.l nm ot s.ry s.room _ (unhide HST).li (unhide HM)).mono ?_; rintro e w2 ⟨rfl, hr⟩; have HR := hide (hr); clear hr)
    | (go_at_call 24; refine (ovRebase_calls s.l nm ot s.bx B s.rx s.room s0 s1 s2 s3 _ (unhide HST).li (unhide HST).ov (unhide HW).un.se (unhide HB)).mono ?_; rintro e w1 ⟨rfl, hl⟩; have HL := hide hl; have kp := pair_kept hl (unhide HST).ov (blk_alloc (blk_new w _) _) (by decide) (by decide); have ko := pair_kept hl (unhide HST).ov (blk_new1 w _ _) (by decide) (by decide); have p1 := blk_cell (i := 1) kp rfl; have o4 := blk_cell (i := 4) ko rfl; have o5 := blk_cell (i := 5) ko rfl; have HM := hide ((unhide HST).mid hl); clear hl kp ko))
  go_ret
  obtain ⟨S', t1, t2, t3⟩ := (unhide HW).turn (unhide HS) (unhide HL) (unhide HR) (LI.rebase (unhide HST).li nm ot)
  exact ⟨rfl, S', t1, t2, ((below_alloc2 w _ _).mono hBz).trans t3⟩

set_option maxRecDepth 100000 in
set_option maxHeartbeats 2000000 in
theorem ltools_flatten (w : World) (B wb i : Nat) (s0 s1 s2 s3 : Addr) (v : Value) (S : List St) (s : St) (W n m : Int) (nm ot tx : ByteArray) (h : LW w B wb s0 s1 s2 s3 v S) (hs : S[i]? = some s) (_ : OpOk W n m tx) :
    Calls Tryz.prog 77 #[.agg #[.pointer (some ⟨s.bx, 0, none⟩), .pointer (some ⟨s.ry, 0, none⟩)], .agg #[.int .i64 14, .int .i64 W, .int .i64 n, .int .i64 m, .string nm, .string ot, .string tx]] w fun e w' => e = .returned (.bool true) ∧ ∃ S', LW w' B wb s0 s1 s2 s3 v S' ∧ S'.length = S.length ∧ Below B w w' := by
  have HW := hide (h.kept (below_alloc2 w (.cells #[.pointer (some ⟨s.bx, 0, none⟩), .pointer (some ⟨s.ry, 0, none⟩)] 127) (.cells #[.int .i64 14, .int .i64 W, .int .i64 n, .int .i64 m, .string nm, .string ot, .string tx] 63)))
  have HS := hide hs
  have HST := hide ((unhide HW).each s (List.mem_of_getElem? hs))
  have HB := hide (unhide HST).bx
  have hBz := h.un.se.size
  have HCS := hide (rebaseF_small s.room s.l nm ⟨#[]⟩)
  clear h hs
  go_enter Tryz.func77, Tryz.ntmps77
  go_wp2_with (first
    | (go_at_call 75; refine (lnum_calls _ _ (unhide HCS)).mono ?_; rintro e w3 ⟨rfl, rfl⟩)
    | (go_at_call 116; refine (rRebase_calls s.l nm ⟨#[]⟩ s.ry s.room _ (unhide HST).li (unhide HM)).mono ?_; rintro e w2 ⟨rfl, hr⟩; have HR := hide (hr); clear hr)
    | (go_at_call 25; refine (ovFlatten_calls s.l nm s.bx B s.rx s.room s0 s1 s2 s3 _ (unhide HST).li (unhide HST).ov (unhide HW).un.se (unhide HB)).mono ?_; rintro e w1 ⟨rfl, hl⟩; have HL := hide hl; have kp := pair_kept hl (unhide HST).ov (blk_alloc (blk_new w _) _) (by decide) (by decide); have ko := pair_kept hl (unhide HST).ov (blk_new1 w _ _) (by decide) (by decide); have p1 := blk_cell (i := 1) kp rfl; have o4 := blk_cell (i := 4) ko rfl; have o5 := blk_cell (i := 5) ko rfl; have HM := hide ((unhide HST).mid hl); clear hl kp ko))
  go_ret
  obtain ⟨S', t1, t2, t3⟩ := (unhide HW).turn (unhide HS) (unhide HL) (unhide HR) (LI.rebase (unhide HST).li nm ⟨#[]⟩)
  exact ⟨rfl, S', t1, t2, ((below_alloc2 w _ _).mono hBz).trans t3⟩

set_option maxRecDepth 100000 in
set_option maxHeartbeats 2000000 in
theorem ltools_compare (w : World) (B wb i : Nat) (s0 s1 s2 s3 : Addr) (v : Value) (S : List St) (s : St) (W n m : Int) (nm ot tx : ByteArray) (h : LW w B wb s0 s1 s2 s3 v S) (hs : S[i]? = some s) (_ : OpOk W n m tx) :
    Calls Tryz.prog 77 #[.agg #[.pointer (some ⟨s.bx, 0, none⟩), .pointer (some ⟨s.ry, 0, none⟩)], .agg #[.int .i64 15, .int .i64 W, .int .i64 n, .int .i64 m, .string nm, .string ot, .string tx]] w fun e w' => e = .returned (.bool true) ∧ ∃ S', LW w' B wb s0 s1 s2 s3 v S' ∧ S'.length = S.length ∧ Below B w w' := by
  have HW := hide (h.kept (below_alloc2 w (.cells #[.pointer (some ⟨s.bx, 0, none⟩), .pointer (some ⟨s.ry, 0, none⟩)] 127) (.cells #[.int .i64 15, .int .i64 W, .int .i64 n, .int .i64 m, .string nm, .string ot, .string tx] 63)))
  have HS := hide hs
  have HST := hide ((unhide HW).each s (List.mem_of_getElem? hs))
  have HB := hide (unhide HST).bx
  have hBz := h.un.se.size
  have HCS := hide (compareF_small s.l nm ot)
  clear h hs
  go_enter Tryz.func77, Tryz.ntmps77
  go_wp2_with (first
    | (go_at_call 75; refine (lnum_calls _ _ (unhide HCS)).mono ?_; rintro e w3 ⟨rfl, rfl⟩)
    | (go_at_call 117; refine (rCompare_calls s.l nm ot s.ry s.room _ (unhide HST).li (unhide HM)).mono ?_; rintro e w2 ⟨rfl, hr⟩; have HR := hide ((unhide HM).same hr); clear hr)
    | (go_at_call 36; refine (ovCompare_calls s.l nm ot s.bx B s.rx s.room s0 s1 s2 s3 _ (unhide HST).li (unhide HST).ov (unhide HW).un.se (unhide HB)).mono ?_; rintro e w1 ⟨rfl, hl⟩; have HL := hide hl; have kp := pair_kept hl (unhide HST).ov (blk_alloc (blk_new w _) _) (by decide) (by decide); have ko := pair_kept hl (unhide HST).ov (blk_new1 w _ _) (by decide) (by decide); have p1 := blk_cell (i := 1) kp rfl; have o4 := blk_cell (i := 4) ko rfl; have o5 := blk_cell (i := 5) ko rfl; have HM := hide ((unhide HST).mid hl); clear hl kp ko))
  go_ret
  obtain ⟨S', t1, t2, t3⟩ := (unhide HW).turn (unhide HS) (unhide HL) (unhide HR) ((unhide HST).li)
  exact ⟨rfl, S', t1, t2, ((below_alloc2 w _ _).mono hBz).trans t3⟩

theorem ltools_calls (w : World) (B wb i : Nat) (s0 s1 s2 s3 : Addr) (v : Value) (S : List St) (s : St) (k W n m : Int) (nm ot tx : ByteArray) (hk12 : 12 ≤ k) (hk15 : k ≤ 15) (h : LW w B wb s0 s1 s2 s3 v S) (hs : S[i]? = some s) (hok : OpOk W n m tx) :
    Calls Tryz.prog 77 #[.agg #[.pointer (some ⟨s.bx, 0, none⟩), .pointer (some ⟨s.ry, 0, none⟩)], .agg #[.int .i64 k, .int .i64 W, .int .i64 n, .int .i64 m, .string nm, .string ot, .string tx]] w fun e w' => e = .returned (.bool true) ∧ ∃ S', LW w' B wb s0 s1 s2 s3 v S' ∧ S'.length = S.length ∧ Below B w w' := by
  have hk : k = 12 ∨ k = 13 ∨ k = 14 ∨ k = 15 := by omega
  rcases hk with rfl | rfl | rfl | rfl
  · exact ltools_commit w B wb i s0 s1 s2 s3 v S s W n m nm ot tx h hs hok
  · exact ltools_rebase w B wb i s0 s1 s2 s3 v S s W n m nm ot tx h hs hok
  · exact ltools_flatten w B wb i s0 s1 s2 s3 v S s W n m nm ot tx h hs hok
  · exact ltools_compare w B wb i s0 s1 s2 s3 v S s W n m nm ot tx h hs hok

end Go.Proofs.YtomiepknmmpflaaGreatDoor

