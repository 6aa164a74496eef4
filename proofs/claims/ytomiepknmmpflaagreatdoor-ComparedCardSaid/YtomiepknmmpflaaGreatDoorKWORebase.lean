/- The program's Commit. -/
import Derived.Test.YtomiepknmmpflaaGreatDoorKWUnlike
import Derived.Test.YtomiepknmmpflaaGreatDoorKWFirst
import Derived.Test.YtomiepknmmpflaaGreatDoorKWViewOf0
namespace Go.Proofs.YtomiepknmmpflaaGreatDoor
open Go.RowKit Go.Joins

theorem openChain_no {l : Ov.Files} {x : ByteArray} {w2 : World} {b B : Nat} {r : Option Nat} {room : Nat} {s0 s1 s2 s3 : Addr} (hso : Ov.soundF l x ≠ 0) (hc : ChainAt w2 b B r room l s0 s1 s2 s3) : ∃ wh, Calls Tryz.prog 45 #[.pointer (some ⟨b, 0, none⟩), .string x] w2 (ChainNo s0 s1 s2 s3 (Ov.soundF l x) wh w2) := by
  by_cases hpb : Ov.place l x < l.length
  · have e : Ov.soundF l x = (Ov.downOf l x).2.1 := by unfold Ov.soundF; rw [if_pos hpb]
    exact ⟨_, by rw [e]; exact oopenChain_down x w2 b B r room l s0 s1 s2 s3 hc hpb (by rw [← e]; exact hso)⟩
  · have e : Ov.soundF l x = 4 := by unfold Ov.soundF; rw [if_neg hpb]
    exact ⟨none, by rw [e]; exact oopenChain_none x w2 b B r room l s0 s1 s2 s3 hc hpb⟩

open Go.MuLone in
set_option maxRecDepth 100000 in
set_option maxHeartbeats 2000000 in
theorem oCommit_bad (l : Ov.Files) (x : ByteArray) (b B : Nat) (r : Option Nat) (room : Nat) (s0 s1 s2 s3 : Addr) (w : World) (hi : Ov.LI room l) (h : OvRep w b r room l) (hs : Sents w B s0 s1 s2 s3) (hB : B ≤ b) (hso : Ov.soundF l x ≠ 0) :
    Calls Tryz.prog 23 #[.pointer (some ⟨b, 0, none⟩), .string x] w fun e w' => e = .returned (.int .i64 (commitF room l x).1) ∧ OvLeft w b r room (commitF room l x).2 w' := by
  obtain ⟨v, h1, h2, h3, h4⟩ := id h
  have HR := hide h
  have c0 : w.cell? ⟨b, 0, none⟩ = some (.int .i32 0) := blk_cell h1 rfl
  have f0 := blk_frozen h1 0
  have hbl := blk_lt h1
  have HB0 := hide h1
  have HB := hide (blk_set_same (i := 0) h1 (.int .i32 1))
  have HO := hide (owns_set h2 h3 (a := ⟨b, 0, none⟩) (.int .i32 1))
  have H4 := hide h4
  have HI := hide hi
  have HC : Hid (ChainAt (w.setCell ⟨b, 0, none⟩ (.int .i32 1)) b B r room l s0 s1 s2 s3) := ⟨h.lock, hi, hs.kept ((Below.refl B w).setCell (p := ⟨b, 0, none⟩) hB (.int .i32 1))⟩
  have HF : Hid (commitF room l x = (Ov.soundF l x, l)) := by unfold commitF; rw [if_pos hso]; exact rfl
  obtain ⟨wh, hop⟩ := openChain_no hso (unhide HC)
  have HOP := hide hop
  clear h h1 h2 h3 h4 hi hs hop hso
  go_enter_defers Tryz.func23, Tryz.ntmps23
  go_wp2_with (first
    | (go_at_call 47; refine (oerrnoOf_calls s0 s1 s2 s3 eb _ B ed wh et ea _ hc3 (unhide HE3) ((unhide HC).kept (unhide HB3)).se).mono ?_; rintro e w4 ⟨rfl, rfl⟩)
    | (go_at_call 45; refine (unhide HOP).mono ?_; rintro e w3 ⟨hb3, eb, ed, et, ea, rfl, he3, hc3⟩; have HE3 := hide he3; have HB3 := hide hb3; clear he3 hb3)
    | (go_at_call 43; refine (lock_free muLib ⟨b, 0, none⟩ _ c0 f0).mono ?_; rintro e w1 ⟨rfl, rfl⟩))
  have hb9 := unhide HB3
  refine leaves_cons (f := 44) (args := #[.pointer (some ⟨b, 0, none⟩)]) (by simp) (by simp [go_sem]) ?_
  refine (unlock_deferred muLib ⟨b, 0, none⟩ .returning _ ?_ ?_).mono ?_
  · exact (hb9.cell (p := ⟨b, 0, none⟩) (by simpa using hbl)).trans (blk_cell (unhide HB) rfl)
  · exact (hb9.frozen (p := ⟨b, 0, none⟩) (by simpa using hbl)).trans (blk_frozen (unhide HB) 0)
  rintro e u' w'' ⟨rfl, rfl, rfl⟩
  exact ⟨_, results_tmp rfl _ _ _, by rw [unhide HF]; rfl, by rw [unhide HF]; exact OvLeft.quiet (unhide HR) hb9⟩

open Go.MuLone in
set_option maxRecDepth 100000 in
set_option maxHeartbeats 2000000 in
theorem oCommit_none (l : Ov.Files) (x : ByteArray) (b B : Nat) (r : Option Nat) (room : Nat) (s0 s1 s2 s3 : Addr) (w : World) (hi : Ov.LI room l) (h : OvRep w b r room l) (hs : Sents w B s0 s1 s2 s3) (hB : B ≤ b) (hso : Ov.soundF l x = 0) (hbn : (Ov.backing (fileOf l x)).size = 0) :
    Calls Tryz.prog 23 #[.pointer (some ⟨b, 0, none⟩), .string x] w fun e w' => e = .returned (.int .i64 (commitF room l x).1) ∧ OvLeft w b r room (commitF room l x).2 w' := by
  obtain ⟨v, h1, h2, h3, h4⟩ := id h
  have HR := hide h
  have c0 : w.cell? ⟨b, 0, none⟩ = some (.int .i32 0) := blk_cell h1 rfl
  have f0 := blk_frozen h1 0
  have hbl := blk_lt h1
  have HB0 := hide h1
  have HB := hide (blk_set_same (i := 0) h1 (.int .i32 1))
  have HO := hide (owns_set h2 h3 (a := ⟨b, 0, none⟩) (.int .i32 1))
  have H4 := hide h4
  have HI := hide hi
  have HC : Hid (ChainAt (w.setCell ⟨b, 0, none⟩ (.int .i32 1)) b B r room l s0 s1 s2 s3) := ⟨h.lock, hi, hs.kept ((Below.refl B w).setCell (p := ⟨b, 0, none⟩) hB (.int .i32 1))⟩
  have HF : Hid (commitF room l x = (8, l)) := by unfold commitF; rw [if_neg (by omega), if_pos hbn]; exact rfl
  obtain ⟨hp, hc⟩ := sound_here hso
  have hd0 : (Ov.downOf l x).2.1 = 0 := by unfold Ov.soundF at hso; rwa [if_pos hp] at hso
  have HCA := hide (oopenChain_yes x _ b B r room l s0 s1 s2 s3 (unhide HC) hp hd0)
  have HOPE := hide (fun (L : Ims) (cb : Nat) (r : Option Nat) (W : World) => opened (L := L) (cb := cb) (r := r) (w := W) hso)
  obtain ⟨s, hse⟩ : ∃ s, fOf l x = s := ⟨_, rfl⟩
  obtain ⟨m, hme⟩ : ∃ m, Ov.many s = m := ⟨_, rfl⟩
  obtain ⟨bk, hbk⟩ : ∃ bk, Ov.backing s = bk := ⟨_, rfl⟩
  obtain ⟨t, ht⟩ : ∃ t, Ov.lost s = t := ⟨_, rfl⟩
  have hbe := isE_of (show bk.size = 0 from by rw [← hbk, ← hse]; exact hbn)
  have HSE := hide hse
  have HME := hide hme
  have HBK := hide hbk
  have HLT := hide ht
  clear h h1 h2 h3 h4 hi hs hso hp hc hd0 hse hme hbk ht hbn
  go_enter_defers Tryz.func23, Tryz.ntmps23
  go_wp2_with (first
    | (go_at_call 50; refine (oIget_calls L vv x cb 0 0 _ hL8 (unhide HOW) (unhide HCV) (unhide HPL) (by omega)).mono ?_; rintro e w4 ⟨he, hb4⟩; rw [unhide HIM] at he; subst he; have HB4 := hide ((unhide HB3).trans (hb4.mono (unhide HB3).size)); clear hb4)
    | (go_at_call 45; refine (unhide HCA).mono ?_; rintro e w3 ⟨hb3, cb, r2, L, rfl, hcb, hch, hnL, hL8, _⟩; obtain ⟨hL1, hpl, _, _, gp, hcg, himp, hgp⟩ := unhide HOPE L cb r2 w3 hch hnL; rw [unhide HSE] at himp; obtain ⟨⟨vv, hv1, hv2, _⟩, _⟩ := id hch; have HB3 := hide hb3; have HOW := hide hv2; have HCV : Hid (w3.cell? ⟨cb, 0, none⟩ = some vv) := blk_cell hv1 rfl; have HPL := hide hpl; have HIM : Hid (imVal (imAt L 0) = .agg #[.string bk, .slice (some ⟨gp, 0, none⟩) m m, .int .i64 t]) := (by rw [himp]; unfold imVal imOf; dsimp only; rw [unhide HME, unhide HBK, unhide HLT]; exact rfl); clear hb3 hch hnL hpl himp hgp hv1 hv2)
    | (go_at_call 43; refine (lock_free muLib ⟨b, 0, none⟩ _ c0 f0).mono ?_; rintro e w1 ⟨rfl, rfl⟩))
  have hb9 := (unhide HB4).alloc (unhide HB4).size (.cells #[.string bk, .slice (some ⟨gp, 0, none⟩) m m, .int .i64 t] 90)
  refine leaves_cons (f := 44) (args := #[.pointer (some ⟨b, 0, none⟩)]) (by simp) (by simp [go_sem]) ?_
  refine (unlock_deferred muLib ⟨b, 0, none⟩ .returning _ ?_ ?_).mono ?_
  · exact (hb9.cell (p := ⟨b, 0, none⟩) (by simpa using hbl)).trans (blk_cell (unhide HB) rfl)
  · exact (hb9.frozen (p := ⟨b, 0, none⟩) (by simpa using hbl)).trans (blk_frozen (unhide HB) 0)
  rintro e u' w'' ⟨rfl, rfl, rfl⟩
  exact ⟨_, results_tmp rfl _ _ _, by rw [unhide HF]; rfl, by rw [unhide HF]; exact OvLeft.quiet (unhide HR) hb9⟩

end Go.Proofs.YtomiepknmmpflaaGreatDoor

namespace Go.Proofs.YtomiepknmmpflaaGreatDoor
open Go.RowKit Go.Joins

theorem diff_walk {p q : Nat → Nat} {x : Nat} (hx : x ≤ 240) (h : ∀ j, j < x → p j = q j) : diffFrom p q 240 0 = diffFrom p q (240 - x) x := by
  induction x with
  | zero => rfl
  | succ x ih => rw [ih (by omega) (fun j hj => h j (by omega)), diffFrom_next (by omega) (h x (by omega))]
theorem diff_first {p q : Nat → Nat} {x : Nat} (hx : x < 240) (h : ∀ j, j < x → p j = q j) (hd : p x ≠ q x) : diffFrom p q 240 0 = (x : Nat) := by rw [diff_walk (by omega) h, diffFrom_hit hx hd]
theorem diff_none {p q : Nat → Nat} (h : ∀ j, j < 240 → p j = q j) : diffFrom p q 240 0 = -1 := by rw [diff_walk (Nat.le_refl _) h, Nat.sub_self]; rfl
theorem diff_swap (p q : Nat → Nat) : ∀ (f i : Nat), diffFrom p q f i = diffFrom q p f i
  | 0, _ => rfl
  | f + 1, i => by
    rw [diffFrom, diffFrom, diff_swap p q f (i + 1)]
    by_cases h : p i = q i
    · rw [if_neg (by omega), if_neg (by omega)]
    · rw [if_pos h, if_pos (fun e => h e.symm)]
theorem sel_nil {p : Nat → Bool} {n : Nat} (h : sel p n = []) : ∀ j, j < n → p j = false := fun j hj => by
  cases hp : p j
  · rfl
  · have : j ∈ sel p n := by unfold sel; rw [List.mem_filter, List.mem_range]; exact ⟨hj, hp⟩
    rw [h] at this; cases this
theorem unb_false {u v : Nat → Nat} {nl i : Nat} (h : unb u nl v i = false) : u i = byAt nl v i := by
  unfold unb at h
  have := of_decide_eq_false h
  omega
theorem diff_sel {u v : Nat → Nat} {m nl : Nat} (hnl : nl ≤ m) (hm : m ≤ 30) (hu : ∀ i, m * 8 ≤ i → u i = 0) (hv : ∀ i, nl * 8 ≤ i → v i = 0) : headOr (sel (unb u nl v) (m * 8)) = diffFrom u v 240 0 := by
  have hb : ∀ i, byAt nl v i = v i := fun i => by
    unfold byAt
    split
    · rfl
    · exact (hv i (by omega)).symm
  cases hs : sel (unb u nl v) (m * 8) with
  | nil =>
    refine (diff_none fun j _ => ?_).symm
    by_cases hj : j < m * 8
    · rw [unb_false (sel_nil hs j hj), hb]
    · rw [hu j (by omega), hv j (by omega)]
  | cons x L =>
    have h0 : (sel (unb u nl v) (m * 8))[0]? = some x := by rw [hs]; rfl
    obtain ⟨h1, h2⟩ := sel_is h0
    have hx : unb u nl v x = true := by
      have : x ∈ sel (unb u nl v) (m * 8) := by rw [hs]; simp
      exact (sel_lt this).2
    refine (diff_first (by omega) (fun j hj => ?_) ?_).symm
    · rw [unb_false (sel_nil h2.symm j hj), hb]
    · unfold unb at hx
      have := of_decide_eq_true hx
      rwa [hb] at this
theorem ofirst_calls (m nl base base2 : Nat) (u v : Nat → Nat) (s1 s2 : Value) (w : World) (h1 : OwnsBy w base s1 m u) (h2 : OwnsBy w base2 s2 nl v) (hm1 : 1 ≤ m) (hm : m ≤ 30) (hn1 : 1 ≤ nl) (hn : nl ≤ 30) (hu : ∀ i, m * 8 ≤ i → u i = 0) (hv : ∀ i, nl * 8 ≤ i → v i = 0) :
    Calls Tryz.prog 68 #[s1, s2] w fun e w' => e = .returned (.int .i64 (diffFrom u v 240 0)) ∧ Below w.heap.size w w' := by
  obtain ⟨g1, c1, rfl⟩ := ownsRow_form h1 (by omega)
  obtain ⟨g2, c2, rfl⟩ := ownsRow_form h2 (by omega)
  by_cases h : nl ≤ m
  · rw [← diff_sel h hm hu hv]
    exact ofirst_up m nl g1 c1 base2 base u v _ w h1 h2 hm h
  · rw [diff_swap, ← diff_sel (by omega) hn hv hu]
    exact ofirst_down nl m g2 c2 base base2 v u _ w h2 h1 hn (by omega)
theorem view_end {l : Ov.Files} {x : ByteArray} (h : Ov.Chn l (Ov.downOf l x).1 x) : ∀ i, Ov.many (fOf l x) * 8 ≤ i → Ov.atTo l (Ov.downOf l x).1 i = 0 := fun i hi => by
  obtain ⟨rest, hr⟩ := chn_head h
  rw [hr]
  unfold Ov.atTo
  rw [if_pos (by show Ov.many (fOf l x) ≤ i / 8; omega)]

open Go.MuLone in
set_option maxRecDepth 100000 in
set_option maxHeartbeats 2000000 in
theorem oCompare_nox (l : Ov.Files) (x y : ByteArray) (b B : Nat) (r : Option Nat) (room : Nat) (s0 s1 s2 s3 : Addr) (w : World) (hi : Ov.LI room l) (h : OvRep w b r room l) (hs : Sents w B s0 s1 s2 s3) (hB : B ≤ b) (hx : ¬ Ov.place l x < l.length) :
    Calls Tryz.prog 36 #[.pointer (some ⟨b, 0, none⟩), .string x, .string y] w fun e w' => e = .returned (.tuple #[.int .i64 (compareF l x y).1, .int .i64 (compareF l x y).2]) ∧ OvLeft w b r room l w' := by
  obtain ⟨v, h1, h2, h3, h4⟩ := id h
  have HR := hide h
  have c0 : w.cell? ⟨b, 0, none⟩ = some (.int .i32 0) := blk_cell h1 rfl
  have f0 := blk_frozen h1 0
  have hbl := blk_lt h1
  have HB0 := hide h1
  have HB := hide (blk_set_same (i := 0) h1 (.int .i32 1))
  have HO := hide (owns_set h2 h3 (a := ⟨b, 0, none⟩) (.int .i32 1))
  have H4 := hide h4
  have HI := hide hi
  have HC : Hid (ChainAt (w.setCell ⟨b, 0, none⟩ (.int .i32 1)) b B r room l s0 s1 s2 s3) := ⟨h.lock, hi, hs.kept ((Below.refl B w).setCell (p := ⟨b, 0, none⟩) hB (.int .i32 1))⟩
  have HF : Hid (compareF l x y = (0, 4)) := by unfold compareF; rw [if_pos (Or.inl hx)]; exact rfl
  have HX : Hid (Ov.has l x = false) := by unfold Ov.has; exact decide_eq_false hx
  have hl8 := hi.len
  clear h h1 h2 h3 h4 hi hs hx
  go_enter_defers Tryz.func36, Tryz.ntmps36
  go_wp2_with (first
    | (go_at_call_of 66 x; refine (oShas_calls l _ x b 3 0 _ hl8 (unhide HO) (blk_cell (unhide HB) rfl) (by simpa using hbl)).mono ?_; rintro e w2 ⟨he, hb2⟩; rw [unhide HX] at he; subst he; have HB2 := hide hb2; clear hb2)
    | (go_at_call 43; refine (lock_free muLib ⟨b, 0, none⟩ _ c0 f0).mono ?_; rintro e w1 ⟨rfl, rfl⟩))
  have hb9 := unhide HB2
  refine leaves_cons (f := 44) (args := #[.pointer (some ⟨b, 0, none⟩)]) (by simp) (by simp [go_sem]) ?_
  refine (unlock_deferred muLib ⟨b, 0, none⟩ .returning _ ?_ ?_).mono ?_
  · exact (hb9.cell (p := ⟨b, 0, none⟩) (by simpa using hbl)).trans (blk_cell (unhide HB) rfl)
  · exact (hb9.frozen (p := ⟨b, 0, none⟩) (by simpa using hbl)).trans (blk_frozen (unhide HB) 0)
  rintro e u' w'' ⟨rfl, rfl, rfl⟩
  exact ⟨_, results_tmp2 rfl _ _ _, by rw [unhide HF]; rfl, OvLeft.quiet (unhide HR) hb9⟩

open Go.MuLone in
set_option maxRecDepth 100000 in
set_option maxHeartbeats 2000000 in
theorem oCompare_noy (l : Ov.Files) (x y : ByteArray) (b B : Nat) (r : Option Nat) (room : Nat) (s0 s1 s2 s3 : Addr) (w : World) (hi : Ov.LI room l) (h : OvRep w b r room l) (hs : Sents w B s0 s1 s2 s3) (hB : B ≤ b) (hx : Ov.place l x < l.length) (hy : ¬ Ov.place l y < l.length) :
    Calls Tryz.prog 36 #[.pointer (some ⟨b, 0, none⟩), .string x, .string y] w fun e w' => e = .returned (.tuple #[.int .i64 (compareF l x y).1, .int .i64 (compareF l x y).2]) ∧ OvLeft w b r room l w' := by
  obtain ⟨v, h1, h2, h3, h4⟩ := id h
  have HR := hide h
  have c0 : w.cell? ⟨b, 0, none⟩ = some (.int .i32 0) := blk_cell h1 rfl
  have f0 := blk_frozen h1 0
  have hbl := blk_lt h1
  have HB0 := hide h1
  have HB := hide (blk_set_same (i := 0) h1 (.int .i32 1))
  have HO := hide (owns_set h2 h3 (a := ⟨b, 0, none⟩) (.int .i32 1))
  have H4 := hide h4
  have HI := hide hi
  have HC : Hid (ChainAt (w.setCell ⟨b, 0, none⟩ (.int .i32 1)) b B r room l s0 s1 s2 s3) := ⟨h.lock, hi, hs.kept ((Below.refl B w).setCell (p := ⟨b, 0, none⟩) hB (.int .i32 1))⟩
  have HF : Hid (compareF l x y = (0, 4)) := by unfold compareF; rw [if_pos (Or.inr hy)]; exact rfl
  have HX : Hid (Ov.has l x = true) := by unfold Ov.has; exact decide_eq_true hx
  have HY : Hid (Ov.has l y = false) := by unfold Ov.has; exact decide_eq_false hy
  have hl8 := hi.len
  clear h h1 h2 h3 h4 hi hs hx hy
  go_enter_defers Tryz.func36, Tryz.ntmps36
  go_wp2_with (first
    | (go_at_call_of 66 y; refine (oShas_calls l _ y b 3 0 _ hl8 (owns_all (unhide HO) (unhide HB2)) (blk_cell (((unhide HB2).block b (by simpa using hbl)).trans (unhide HB)) rfl) (Nat.lt_of_lt_of_le (by simpa using hbl) (unhide HB2).size)).mono ?_; rintro e w3 ⟨he, hb3⟩; rw [unhide HY] at he; subst he; have HB3 := hide ((unhide HB2).trans (hb3.mono (unhide HB2).size)); clear hb3)
    | (go_at_call_of 66 x; refine (oShas_calls l _ x b 3 0 _ hl8 (unhide HO) (blk_cell (unhide HB) rfl) (by simpa using hbl)).mono ?_; rintro e w2 ⟨he, hb2⟩; rw [unhide HX] at he; subst he; have HB2 := hide hb2; clear hb2)
    | (go_at_call 43; refine (lock_free muLib ⟨b, 0, none⟩ _ c0 f0).mono ?_; rintro e w1 ⟨rfl, rfl⟩))
  have hb9 := unhide HB3
  refine leaves_cons (f := 44) (args := #[.pointer (some ⟨b, 0, none⟩)]) (by simp) (by simp [go_sem]) ?_
  refine (unlock_deferred muLib ⟨b, 0, none⟩ .returning _ ?_ ?_).mono ?_
  · exact (hb9.cell (p := ⟨b, 0, none⟩) (by simpa using hbl)).trans (blk_cell (unhide HB) rfl)
  · exact (hb9.frozen (p := ⟨b, 0, none⟩) (by simpa using hbl)).trans (blk_frozen (unhide HB) 0)
  rintro e u' w'' ⟨rfl, rfl, rfl⟩
  exact ⟨_, results_tmp2 rfl _ _ _, by rw [unhide HF]; rfl, OvLeft.quiet (unhide HR) hb9⟩

end Go.Proofs.YtomiepknmmpflaaGreatDoor

namespace Go.Proofs.YtomiepknmmpflaaGreatDoor
open Go.RowKit Go.Joins

theorem viewTo_get (l : Ov.Files) (ns : List ByteArray) (f : Nat) {k j : Nat} (h : j < k) : (viewTo l ns f k).getD j 0 = ((Ov.atTo l ns (f + j) : Nat) : Int) := by
  induction k with
  | zero => omega
  | succ k ih =>
    rw [viewTo]
    by_cases e : j < k
    · rw [List.getD_eq_getElem?_getD, List.getElem?_append_left (by rw [viewTo_length]; exact e), ← List.getD_eq_getElem?_getD]; exact ih e
    · obtain rfl : j = k := by omega
      rw [List.getD_eq_getElem?_getD, List.getElem?_append_right (by rw [viewTo_length]; omega), viewTo_length, Nat.sub_self]; rfl
theorem viewF_get (l : Ov.Files) (ns : List ByteArray) (f : Nat) {k j : Nat} (hj : j < k) : Ov.byteAt (viewF l ns f k) j = Ov.atTo l ns (f + j) := by
  unfold Ov.byteAt viewF
  rw [strOfNums_data]
  have h1 := viewTo_get l ns f hj
  have hl := viewTo_length l ns f k
  rw [List.getD_eq_getElem?_getD, List.getElem?_eq_getElem (by omega)] at h1
  rw [List.getD_eq_getElem?_getD, List.getElem?_map, List.getElem?_eq_getElem (by omega)]
  simp only [Option.getD_some, Option.map_some] at h1 ⊢
  rw [h1, Int.toNat_natCast, UInt8.toNat_ofNat']
  exact Nat.mod_eq_of_lt (Ov.atTo_lt _ _ _)
theorem viewF_eq {l : Ov.Files} {a b : List ByteArray} {f k : Nat} : viewF l a f k = viewF l b f k ↔ ∀ j, j < k → Ov.atTo l a (f + j) = Ov.atTo l b (f + j) := by
  constructor
  · intro h j hj
    rw [← viewF_get l a f hj, ← viewF_get l b f hj, h]
  · intro h
    unfold viewF
    congr 1
    refine List.ext_getElem (by rw [viewTo_length, viewTo_length]) fun j h1 h2 => ?_
    have hj : j < k := by rw [viewTo_length] at h1; exact h1
    have e1 := viewTo_get l a f hj
    have e2 := viewTo_get l b f hj
    rw [List.getD_eq_getElem?_getD, List.getElem?_eq_getElem h1] at e1
    rw [List.getD_eq_getElem?_getD, List.getElem?_eq_getElem h2] at e2
    simp only [Option.getD_some] at e1 e2
    rw [e1, e2, h j hj]
theorem viewF_none (l : Ov.Files) (f k : Nat) : viewF l [] f k = noughtsF k := by
  rw [← noughts_str]
  unfold viewF
  congr 1
  induction k with
  | zero => rfl
  | succ k ih => rw [viewTo, ih, List.replicate_succ']; rfl
theorem viewF_nought {l : Ov.Files} {a : List ByteArray} {f k : Nat} : viewF l a f k = noughtsF k ↔ ∀ j, j < k → Ov.atTo l a (f + j) = 0 := by
  rw [← viewF_none l f k, viewF_eq]
  rfl
def overM (l : Ov.Files) (bk : ByteArray) : Nat := if bk.size = 0 then 0 else Ov.many (fOf l bk)
theorem over_at {l : Ov.Files} {bk : ByteArray} (h : bk.size ≠ 0 → Ov.Chn l (Ov.downOf l bk).1 bk) (i j : Nat) (hj : j < 8) : runAt (overM l bk) (Ov.atTo l (overN l bk)) i j = Ov.atTo l (overN l bk) (8 * i + j) := by
  unfold runAt overM overN
  by_cases hb : bk.size = 0
  · rw [if_pos hb, if_pos hb, if_neg (by omega)]; rfl
  · rw [if_neg hb, if_neg hb]
    by_cases hi : i < Ov.many (fOf l bk)
    · rw [if_pos hi]
    · rw [if_neg hi]
      obtain ⟨rest, hr⟩ := chn_head (h hb)
      rw [hr]
      unfold Ov.atTo
      rw [if_pos (by show Ov.many (fOf l bk) ≤ (8 * i + j) / 8; omega)]
theorem says_rebase {l : Ov.Files} {s bk : ByteArray} {nx : List ByteArray} {m : Nat} (hs : Ov.isImage s) (hm : Ov.many s = m) (hb : bk.size ≠ 0 → Ov.Chn l (Ov.downOf l bk).1 bk) :
    Says m (pinQ (sel (unl (Ov.atTo l nx) (overM l bk) (Ov.atTo l (overN l bk))) m) (Ov.atTo l nx) (qOf s)) (pinD (sel (unl (Ov.atTo l nx) (overM l bk) (Ov.atTo l (overN l bk))) m) (Ov.atTo l nx) (qOf s) (dOf s))
      (allTo m (kOld s) (rebK l nx) (rebC l s nx (overN l bk))) (allTo m (bOld s) (fun i => viewF l nx (8 * i) 8) (rebD l s nx (overN l bk))) := by
  subst hm
  have hu : ∀ i, unl (Ov.atTo l nx) (overM l bk) (Ov.atTo l (overN l bk)) i = true ↔ viewF l nx (8 * i) 8 ≠ viewF l (overN l bk) (8 * i) 8 := fun i => by
    unfold unl
    rw [Ne, viewF_eq, Bool.not_eq_true', ← Bool.not_eq_true, sameB_iff (fun j _ => Ov.atTo_lt _ _ _) (fun j _ => runAt_lt (fun i => Ov.atTo_lt _ _ _) _ _)]
    refine not_congr ⟨fun h j hj => ?_, fun h j hj => ?_⟩
    · rw [h j hj, over_at hb i j hj]
    · rw [h j hj, over_at hb i j hj]
  have hz : ∀ i, sameB (fun j => Ov.atTo l nx (8 * i + j)) (fun _ => 0) = true ↔ viewF l nx (8 * i) 8 = noughtsF 8 := fun i => by
    rw [viewF_nought, sameB_iff (fun j _ => Ov.atTo_lt _ _ _) (fun j _ => Nat.zero_lt_succ _)]
  have hc : ∀ i, i < Ov.many s → ((i ∈ sel (unl (Ov.atTo l nx) (overM l bk) (Ov.atTo l (overN l bk))) (Ov.many s) ∧ qOf s i = 0) ↔ rebC l s nx (overN l bk) i) := fun i hi => by
    unfold sel
    rw [List.mem_filter, List.mem_range]
    exact ⟨fun q => ⟨kindP_zero.2 q.2, (hu i).1 q.1.2⟩, fun q => ⟨⟨hi, (hu i).2 q.2⟩, kindP_zero.1 q.1⟩⟩
  refine ⟨allTo_length, fun i hi => ?_, fun i hi => ?_, fun i hi h1 => ?_, fun i hi j hj => ?_⟩
  · rw [allTo_getD hi]
    unfold pinQ
    by_cases h : rebC l s nx (overN l bk) i
    · rw [if_pos h, if_pos ((hc i hi).2 h)]
      unfold rebK sayQ
      by_cases h0 : viewF l nx (8 * i) 8 = noughtsF 8
      · rw [if_pos h0, if_pos ((hz i).2 h0)]; rfl
      · rw [if_neg h0, if_neg (fun q => h0 ((hz i).1 q))]; rfl
    · rw [if_neg h, if_neg (fun q => h ((hc i hi).1 q))]; exact kindP_old s i
  · rw [allTo_getD hi]
    split
    · unfold rebK; split
      · exact Or.inr (Or.inr rfl)
      · exact Or.inr (Or.inl rfl)
    · exact kOld_known s i
  · rw [allTo_getD hi] at h1 ⊢
    unfold pinD
    by_cases h : rebC l s nx (overN l bk) i
    · rw [if_pos h] at h1
      have h0 : viewF l nx (8 * i) 8 ≠ noughtsF 8 := fun q => by unfold rebK at h1; rw [if_pos q] at h1; cases h1
      rw [if_pos (show rebD l s nx (overN l bk) i from ⟨h, h0⟩), if_pos ((hc i hi).2 h)]
      refine ⟨viewF_size _ _ _ _, fun j hj => ?_⟩
      rw [viewF_get _ _ _ hj]
      unfold sayD
      rw [if_neg (fun q => h0 ((hz i).1 q))]
    · rw [if_neg h] at h1
      rw [if_neg (fun q : rebD l s nx (overN l bk) i => h q.1), if_neg (fun q => h ((hc i hi).1 q))]
      exact old_data hs hi h1
  · unfold pinD
    split
    · unfold sayD
      split
      · exact Nat.zero_lt_succ _
      · exact Ov.atTo_lt _ _ _
    · exact dOf_lt _ _ _
theorem has_names {L : Ims} {ns : List ByteArray} (h : L.map Prod.fst = ns) (x : ByteArray) : Ov.has (fl L) x = Ov.metB ns x := by
  have h1 : Ov.has (fl L) x = true ↔ Ov.metB ns x = true := by
    unfold Ov.has
    rw [decide_eq_true_iff, Ov.place_mem, fl_fst, h, Ov.metB_iff]
  cases h2 : Ov.metB ns x
  · rw [h2] at h1
    cases h3 : Ov.has (fl L) x
    · rfl
    · exact absurd (h1.1 h3) (by simp)
  · exact h1.2 h2

end Go.Proofs.YtomiepknmmpflaaGreatDoor

namespace Go.Proofs.YtomiepknmmpflaaGreatDoor
open Go.RowKit Go.Joins

set_option maxRecDepth 100000 in
set_option maxHeartbeats 2000000 in
theorem orebase_bad1 (l : Ov.Files) (x bk : ByteArray) (b B : Nat) (r : Option Nat) (room : Nat) (s0 s1 s2 s3 : Addr) (v : Value) (w : World) (hC : ChainAt w b B r room l s0 s1 s2 s3) (_hblk : w.heap[b]? = some (.cells #[.int .i32 1, .int .u32 0, .int .i64 room, v] 77 (0, 0))) (_hown : OwnsRows w 0 v l) (hso : Ov.soundF l x ≠ 0) :
    Calls Tryz.prog 55 #[.pointer (some ⟨b, 0, none⟩), .string x, .string bk] w fun e w' => e = .returned (.int .i64 (rebaseF room l x bk).1) ∧ ((rebaseF room l x bk).2 = l ∧ Below w.heap.size w w' ∨ ∃ v', PutLeft w b 3 #[.int .i32 1, .int .u32 0, .int .i64 room, v] 77 v (rebaseF room l x bk).2 v' w') := by
  have HF : Hid (rebaseF room l x bk = (Ov.soundF l x, l)) := by unfold rebaseF; rw [if_pos hso]; exact rfl
  obtain ⟨wh, hop⟩ := openChain_no hso hC
  have HOP := hide hop
  have HC := hide hC
  clear hop hso hC
  go_enter Tryz.func55, Tryz.ntmps55
  go_wp2_with (first
    | (go_at_call 47; refine (oerrnoOf_calls s0 s1 s2 s3 eb _ B ed wh et ea _ hc3 (unhide HE3) ((unhide HC).kept (unhide HB3)).se).mono ?_; rintro e w4 ⟨rfl, rfl⟩)
    | (go_at_call 45; refine (unhide HOP).mono ?_; rintro e w3 ⟨hb3, eb, ed, et, ea, rfl, he3, hc3⟩; have HE3 := hide he3; have HB3 := hide hb3; clear he3 hb3))
  go_ret
  exact ⟨by rw [unhide HF]; rfl, Or.inl ⟨by rw [unhide HF], unhide HB3⟩⟩

set_option maxRecDepth 100000 in
set_option maxHeartbeats 2000000 in
theorem orebase_bad2 (l : Ov.Files) (x bk : ByteArray) (b B : Nat) (r : Option Nat) (room : Nat) (s0 s1 s2 s3 : Addr) (v : Value) (w : World) (hC : ChainAt w b B r room l s0 s1 s2 s3) (_hblk : w.heap[b]? = some (.cells #[.int .i32 1, .int .u32 0, .int .i64 room, v] 77 (0, 0))) (_hown : OwnsRows w 0 v l) (hso : Ov.soundF l x = 0) (hbn : bk.size ≠ 0) (hsb : Ov.soundF l bk ≠ 0) :
    Calls Tryz.prog 55 #[.pointer (some ⟨b, 0, none⟩), .string x, .string bk] w fun e w' => e = .returned (.int .i64 (rebaseF room l x bk).1) ∧ ((rebaseF room l x bk).2 = l ∧ Below w.heap.size w w' ∨ ∃ v', PutLeft w b 3 #[.int .i32 1, .int .u32 0, .int .i64 room, v] 77 v (rebaseF room l x bk).2 v' w') := by
  have HF : Hid (rebaseF room l x bk = (Ov.soundF l bk, l)) := by unfold rebaseF; rw [if_neg (by omega), if_pos ⟨hbn, hsb⟩]; exact rfl
  obtain ⟨hp, hc⟩ := sound_here hso
  have hd0 : (Ov.downOf l x).2.1 = 0 := by unfold Ov.soundF at hso; rwa [if_pos hp] at hso
  have HCA := hide (oopenChain_yes x _ b B r room l s0 s1 s2 s3 hC hp hd0)
  have hbe := nonempty_of hbn
  have HSB := hide hsb
  have HC := hide hC
  clear hso hC hp hc hd0 hbn hsb
  go_enter Tryz.func55, Tryz.ntmps55
  go_wp2_with (first
    | (go_at_call 47; refine (oerrnoOf_calls s0 s1 s2 s3 eb _ B ed wh et ea _ hc3 (unhide HE3) ((unhide HC3).kept (unhide HB4)).se).mono ?_; rintro e w5 ⟨rfl, rfl⟩)
    | (go_at_call 72; obtain ⟨wh, hop⟩ := openChain_no (unhide HSB) (unhide HC3); refine (oopenBacking_no bk b _ s0 s1 s2 s3 _ wh hbe hop).mono ?_; rintro e w4 ⟨hb4, eb, ed, et, ea, rfl, he3, hc3⟩; have HE3 := hide he3; have HB4 := hide hb4; clear he3 hb4 hop)
    | (go_at_call 45; refine (unhide HCA).mono ?_; rintro e w3 ⟨hb3, cb, r2, L, rfl, _⟩; have HB3 := hide hb3; have HC3 := hide ((unhide HC).kept hb3); clear hb3))
  go_ret
  exact ⟨by rw [unhide HF]; rfl, Or.inl ⟨by rw [unhide HF], (unhide HB3).trans ((unhide HB4).mono (unhide HB3).size)⟩⟩

set_option maxRecDepth 100000 in
set_option maxHeartbeats 2000000 in
theorem orebase_met (l : Ov.Files) (x bk : ByteArray) (b B : Nat) (r : Option Nat) (room : Nat) (s0 s1 s2 s3 : Addr) (v : Value) (w : World) (hC : ChainAt w b B r room l s0 s1 s2 s3) (_hblk : w.heap[b]? = some (.cells #[.int .i32 1, .int .u32 0, .int .i64 room, v] 77 (0, 0))) (_hown : OwnsRows w 0 v l) (hso : Ov.soundF l x = 0) (hbn : bk.size ≠ 0) (hsb : Ov.soundF l bk = 0) (hmet : Ov.metB (overN l bk) x = true) :
    Calls Tryz.prog 55 #[.pointer (some ⟨b, 0, none⟩), .string x, .string bk] w fun e w' => e = .returned (.int .i64 (rebaseF room l x bk).1) ∧ ((rebaseF room l x bk).2 = l ∧ Below w.heap.size w w' ∨ ∃ v', PutLeft w b 3 #[.int .i32 1, .int .u32 0, .int .i64 room, v] 77 v (rebaseF room l x bk).2 v' w') := by
  have HF : Hid (rebaseF room l x bk = (8, l)) := by unfold rebaseF; rw [if_neg (by omega), if_neg (fun q => q.2 hsb), if_pos hmet]; exact rfl
  obtain ⟨hp, hc⟩ := sound_here hso
  have hd0 : (Ov.downOf l x).2.1 = 0 := by unfold Ov.soundF at hso; rwa [if_pos hp] at hso
  have HCA := hide (oopenChain_yes x _ b B r room l s0 s1 s2 s3 hC hp hd0)
  obtain ⟨hpb, hcb⟩ := sound_here hsb
  have hd1 : (Ov.downOf l bk).2.1 = 0 := by unfold Ov.soundF at hsb; rwa [if_pos hpb] at hsb
  have HPB := hide hpb
  have HD1 := hide hd1
  have HMT : Hid (Ov.metB (Ov.downOf l bk).1 x = true) := by unfold overN at hmet; rwa [if_neg hbn] at hmet
  have hbe := nonempty_of hbn
  have HC := hide hC
  clear hso hsb hC hp hc hd0 hbn hpb hcb hd1 hmet
  go_enter Tryz.func55, Tryz.ntmps55
  go_wp2_with (first
    | (go_at_call 96; refine (oIhas_calls L2 v2 x cb2 0 0 _ hL2 (unhide HOW) (unhide HCV) (cell_lt (unhide HCV))).mono ?_; rintro e w5 ⟨he, hb5⟩; rw [unhide HHN] at he; subst he; have HB5 := hide ((unhide HB4).trans (hb5.mono (unhide HB4).size)); clear hb5)
    | (go_at_call 72; refine (oopenBacking_yes bk b _ l _ hbe (oopenChain_yes bk _ b B r room l s0 s1 s2 s3 (unhide HC3) (unhide HPB) (unhide HD1))).mono ?_; rintro e w4 ⟨hb4, cb2, r3, L2, rfl, hcb2, hch2, hnL2, hL2, _⟩; obtain ⟨⟨v2, hv1, hv2, _⟩, _⟩ := id hch2; have HOW := hide hv2; have HCV : Hid (w4.cell? ⟨cb2, 0, none⟩ = some v2) := blk_cell hv1 rfl; have HHN : Hid (Ov.has (fl L2) x = true) := (has_names hnL2 x).trans (unhide HMT); have HB4 := hide ((unhide HB3).trans (hb4.mono (unhide HB3).size)); clear hb4 hcb2 hch2 hnL2 hv1 hv2)
    | (go_at_call 45; refine (unhide HCA).mono ?_; rintro e w3 ⟨hb3, cb, r2, L, rfl, _⟩; have HB3 := hide hb3; have HC3 := hide ((unhide HC).kept hb3); clear hb3))
  go_ret
  exact ⟨by rw [unhide HF]; rfl, Or.inl ⟨by rw [unhide HF], unhide HB5⟩⟩

end Go.Proofs.YtomiepknmmpflaaGreatDoor

