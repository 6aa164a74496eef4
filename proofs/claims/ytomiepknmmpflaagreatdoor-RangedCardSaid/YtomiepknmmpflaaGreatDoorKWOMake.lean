/- The program's Make. -/
import Derived.Test.YtomiepknmmpflaaGreatDoorKWOChain
import Derived.Test.YtomiepknmmpflaaGreatDoorKWFile
namespace Go.Proofs.YtomiepknmmpflaaGreatDoor
open Go.RowKit Go.Joins

theorem cls_new {w : World} {g n : Nat} (h : w.heap[g]? = some (.cells (zClus n) 160 (0, 0))) : Cls w g n (noKinds n) (fun _ => List.replicate 8 0) := by
  have hl := blk_lt h
  rw [zClus_list] at h
  refine ⟨by simp [noKinds], fun k hk => ?_, fun k hk j hj => ?_, fun k _ => Or.inl (noKinds_getD n k), fun _ _ => by simp, hl⟩
  · refine blk_cell h ?_
    rw [List.getElem?_toArray, noneTo_get n _ (by omega), show k * 9 % 9 = 0 from by omega, noKinds_getD]
    rfl
  · refine blk_cell h ?_
    rw [List.getElem?_toArray, noneTo_get n _ (by omega), show (k * 9 + (j + 1)) % 9 = j + 1 from by omega]
    match j, hj with
    | 0, _ | 1, _ | 2, _ | 3, _ | 4, _ | 5, _ | 6, _ | 7, _ => rfl

open Go.MuLone in
set_option maxRecDepth 100000 in
set_option maxHeartbeats 2000000 in
theorem oMake_name (l : Ov.Files) (x bk : ByteArray) (n : Int) (b : Nat) (r : Option Nat) (room : Nat) (w : World) (hi : Ov.LI room l) (h : OvRep w b r room l) (hn : Ov.nameB x = false) :
    Calls Tryz.prog 38 #[.pointer (some ⟨b, 0, none⟩), .string x, .int .i64 n, .string bk] w fun e w' => e = .returned (.int .i64 2) ∧ OvLeft w b r room l w' := by
  obtain ⟨v, h1, h2, h3, h4⟩ := id h
  have HR := hide h
  obtain ⟨a, c, rfl⟩ := owns_slice h2
  have c0 : w.cell? ⟨b, 0, none⟩ = some (.int .i32 0) := blk_cell h1 rfl
  have f0 := blk_frozen h1 0
  have hbl := blk_lt h1
  have HB := hide (blk_set_same (i := 0) h1 (.int .i32 1))
  have HO := hide (owns_set h2 h3 (a := ⟨b, 0, none⟩) (.int .i32 1))
  have H3 := hide h3
  have H4 := hide h4
  have hl8 := hi.len
  clear h h1 h2 h3 h4 hi
  go_enter_defers Tryz.func38, Tryz.ntmps38
  go_wp2_with (first
    | (go_at_call 65; refine (oScount_calls l.length a c b 3 _ (blk_cell (unhide HB) rfl)).mono ?_; rintro e w' ⟨rfl, rfl⟩)
    | (go_at_call 64; refine (oisName_calls _ _).mono ?_; rintro e w' ⟨rfl, hw⟩; obtain rfl := hw.symm)
    | (go_at_call 43; refine (lock_free muLib ⟨b, 0, none⟩ _ c0 f0).mono ?_; rintro e w1 ⟨rfl, rfl⟩))
  have hb9 := Below.refl (w.setCell ⟨b, 0, none⟩ (.int .i32 1)).heap.size (w.setCell ⟨b, 0, none⟩ (.int .i32 1))
  refine leaves_cons (f := 44) (args := #[.pointer (some ⟨b, 0, none⟩)]) (by simp) (by simp [go_sem]) ?_
  refine (unlock_deferred muLib ⟨b, 0, none⟩ .returning _ ?_ ?_).mono ?_
  · exact (hb9.cell (p := ⟨b, 0, none⟩) (by simpa using hbl)).trans (blk_cell (unhide HB) rfl)
  · exact (hb9.frozen (p := ⟨b, 0, none⟩) (by simpa using hbl)).trans (blk_frozen (unhide HB) 0)
  rintro e u' w'' ⟨rfl, rfl, rfl⟩
  exact ⟨_, results_tmp rfl _ _ _, rfl, OvLeft.quiet (unhide HR) hb9⟩

open Go.MuLone in
set_option maxRecDepth 100000 in
set_option maxHeartbeats 2000000 in
theorem oMake_few (l : Ov.Files) (x bk : ByteArray) (n : Int) (b : Nat) (r : Option Nat) (room : Nat) (w : World) (hi : Ov.LI room l) (h : OvRep w b r room l) (hn : Ov.nameB x = true) (hnn : n < 1) :
    Calls Tryz.prog 38 #[.pointer (some ⟨b, 0, none⟩), .string x, .int .i64 n, .string bk] w fun e w' => e = .returned (.int .i64 1) ∧ OvLeft w b r room l w' := by
  obtain ⟨v, h1, h2, h3, h4⟩ := id h
  have HR := hide h
  obtain ⟨a, c, rfl⟩ := owns_slice h2
  have c0 : w.cell? ⟨b, 0, none⟩ = some (.int .i32 0) := blk_cell h1 rfl
  have f0 := blk_frozen h1 0
  have hbl := blk_lt h1
  have HB := hide (blk_set_same (i := 0) h1 (.int .i32 1))
  have HO := hide (owns_set h2 h3 (a := ⟨b, 0, none⟩) (.int .i32 1))
  have H3 := hide h3
  have H4 := hide h4
  have hl8 := hi.len
  clear h h1 h2 h3 h4 hi
  go_enter_defers Tryz.func38, Tryz.ntmps38
  go_wp2_with (first
    | (go_at_call 65; refine (oScount_calls l.length a c b 3 _ (blk_cell (unhide HB) rfl)).mono ?_; rintro e w' ⟨rfl, rfl⟩)
    | (go_at_call 64; refine (oisName_calls _ _).mono ?_; rintro e w' ⟨rfl, hw⟩; obtain rfl := hw.symm)
    | (go_at_call 43; refine (lock_free muLib ⟨b, 0, none⟩ _ c0 f0).mono ?_; rintro e w1 ⟨rfl, rfl⟩))
  have hb9 := Below.refl (w.setCell ⟨b, 0, none⟩ (.int .i32 1)).heap.size (w.setCell ⟨b, 0, none⟩ (.int .i32 1))
  refine leaves_cons (f := 44) (args := #[.pointer (some ⟨b, 0, none⟩)]) (by simp) (by simp [go_sem]) ?_
  refine (unlock_deferred muLib ⟨b, 0, none⟩ .returning _ ?_ ?_).mono ?_
  · exact (hb9.cell (p := ⟨b, 0, none⟩) (by simpa using hbl)).trans (blk_cell (unhide HB) rfl)
  · exact (hb9.frozen (p := ⟨b, 0, none⟩) (by simpa using hbl)).trans (blk_frozen (unhide HB) 0)
  rintro e u' w'' ⟨rfl, rfl, rfl⟩
  exact ⟨_, results_tmp rfl _ _ _, rfl, OvLeft.quiet (unhide HR) hb9⟩

open Go.MuLone in
set_option maxRecDepth 100000 in
set_option maxHeartbeats 2000000 in
theorem oMake_many (l : Ov.Files) (x bk : ByteArray) (n : Int) (b : Nat) (r : Option Nat) (room : Nat) (w : World) (hi : Ov.LI room l) (h : OvRep w b r room l) (hn : Ov.nameB x = true) (hn1 : 1 ≤ n) (hnn : 30 < n) :
    Calls Tryz.prog 38 #[.pointer (some ⟨b, 0, none⟩), .string x, .int .i64 n, .string bk] w fun e w' => e = .returned (.int .i64 1) ∧ OvLeft w b r room l w' := by
  obtain ⟨v, h1, h2, h3, h4⟩ := id h
  have HR := hide h
  obtain ⟨a, c, rfl⟩ := owns_slice h2
  have c0 : w.cell? ⟨b, 0, none⟩ = some (.int .i32 0) := blk_cell h1 rfl
  have f0 := blk_frozen h1 0
  have hbl := blk_lt h1
  have HB := hide (blk_set_same (i := 0) h1 (.int .i32 1))
  have HO := hide (owns_set h2 h3 (a := ⟨b, 0, none⟩) (.int .i32 1))
  have H3 := hide h3
  have H4 := hide h4
  have hl8 := hi.len
  clear h h1 h2 h3 h4 hi
  go_enter_defers Tryz.func38, Tryz.ntmps38
  go_wp2_with (first
    | (go_at_call 65; refine (oScount_calls l.length a c b 3 _ (blk_cell (unhide HB) rfl)).mono ?_; rintro e w' ⟨rfl, rfl⟩)
    | (go_at_call 64; refine (oisName_calls _ _).mono ?_; rintro e w' ⟨rfl, hw⟩; obtain rfl := hw.symm)
    | (go_at_call 43; refine (lock_free muLib ⟨b, 0, none⟩ _ c0 f0).mono ?_; rintro e w1 ⟨rfl, rfl⟩))
  have hb9 := Below.refl (w.setCell ⟨b, 0, none⟩ (.int .i32 1)).heap.size (w.setCell ⟨b, 0, none⟩ (.int .i32 1))
  refine leaves_cons (f := 44) (args := #[.pointer (some ⟨b, 0, none⟩)]) (by simp) (by simp [go_sem]) ?_
  refine (unlock_deferred muLib ⟨b, 0, none⟩ .returning _ ?_ ?_).mono ?_
  · exact (hb9.cell (p := ⟨b, 0, none⟩) (by simpa using hbl)).trans (blk_cell (unhide HB) rfl)
  · exact (hb9.frozen (p := ⟨b, 0, none⟩) (by simpa using hbl)).trans (blk_frozen (unhide HB) 0)
  rintro e u' w'' ⟨rfl, rfl, rfl⟩
  exact ⟨_, results_tmp rfl _ _ _, rfl, OvLeft.quiet (unhide HR) hb9⟩

open Go.MuLone in
set_option maxRecDepth 100000 in
set_option maxHeartbeats 2000000 in
theorem oMake_files (l : Ov.Files) (x bk : ByteArray) (n : Int) (b : Nat) (r : Option Nat) (room : Nat) (w : World) (hi : Ov.LI room l) (h : OvRep w b r room l) (hn : Ov.nameB x = true) (hn1 : 1 ≤ n) (hn30 : n ≤ 30) (h8 : l.length = 8) :
    Calls Tryz.prog 38 #[.pointer (some ⟨b, 0, none⟩), .string x, .int .i64 n, .string bk] w fun e w' => e = .returned (.int .i64 1) ∧ OvLeft w b r room l w' := by
  obtain ⟨v, h1, h2, h3, h4⟩ := id h
  have HR := hide h
  obtain ⟨a, c, rfl⟩ := owns_slice h2
  have c0 : w.cell? ⟨b, 0, none⟩ = some (.int .i32 0) := blk_cell h1 rfl
  have f0 := blk_frozen h1 0
  have hbl := blk_lt h1
  have HB := hide (blk_set_same (i := 0) h1 (.int .i32 1))
  have HO := hide (owns_set h2 h3 (a := ⟨b, 0, none⟩) (.int .i32 1))
  have H3 := hide h3
  have H4 := hide h4
  have hl8 := hi.len
  have hd8 : decide ((8 : Int) ≤ (l.length : Int)) = true := decide_eq_true (by omega)
  have hdd : (decide (n < 1) || decide (30 < n)) = false := by simp; omega
  clear h h1 h2 h3 h4 hi
  go_enter_defers Tryz.func38, Tryz.ntmps38
  go_wp2_with (first
    | (go_at_call 65; refine (oScount_calls l.length a c b 3 _ (blk_cell (unhide HB) rfl)).mono ?_; rintro e w' ⟨rfl, rfl⟩)
    | (go_at_call 64; refine (oisName_calls _ _).mono ?_; rintro e w' ⟨rfl, hw⟩; obtain rfl := hw.symm)
    | (go_at_call 43; refine (lock_free muLib ⟨b, 0, none⟩ _ c0 f0).mono ?_; rintro e w1 ⟨rfl, rfl⟩))
  have hb9 := Below.refl (w.setCell ⟨b, 0, none⟩ (.int .i32 1)).heap.size (w.setCell ⟨b, 0, none⟩ (.int .i32 1))
  refine leaves_cons (f := 44) (args := #[.pointer (some ⟨b, 0, none⟩)]) (by simp) (by simp [go_sem]) ?_
  refine (unlock_deferred muLib ⟨b, 0, none⟩ .returning _ ?_ ?_).mono ?_
  · exact (hb9.cell (p := ⟨b, 0, none⟩) (by simpa using hbl)).trans (blk_cell (unhide HB) rfl)
  · exact (hb9.frozen (p := ⟨b, 0, none⟩) (by simpa using hbl)).trans (blk_frozen (unhide HB) 0)
  rintro e u' w'' ⟨rfl, rfl, rfl⟩
  exact ⟨_, results_tmp rfl _ _ _, rfl, OvLeft.quiet (unhide HR) hb9⟩

open Go.MuLone in
set_option maxRecDepth 100000 in
set_option maxHeartbeats 2000000 in
theorem oMake_here (l : Ov.Files) (x bk : ByteArray) (n : Int) (b : Nat) (r : Option Nat) (room : Nat) (w : World) (hi : Ov.LI room l) (h : OvRep w b r room l) (hn : Ov.nameB x = true) (hn1 : 1 ≤ n) (hn30 : n ≤ 30) (h8 : ¬ 8 ≤ l.length) (hp : Ov.place l x < l.length) :
    Calls Tryz.prog 38 #[.pointer (some ⟨b, 0, none⟩), .string x, .int .i64 n, .string bk] w fun e w' => e = .returned (.int .i64 3) ∧ OvLeft w b r room l w' := by
  obtain ⟨v, h1, h2, h3, h4⟩ := id h
  have HR := hide h
  obtain ⟨a, c, rfl⟩ := owns_slice h2
  have c0 : w.cell? ⟨b, 0, none⟩ = some (.int .i32 0) := blk_cell h1 rfl
  have f0 := blk_frozen h1 0
  have hbl := blk_lt h1
  have HB := hide (blk_set_same (i := 0) h1 (.int .i32 1))
  have HO := hide (owns_set h2 h3 (a := ⟨b, 0, none⟩) (.int .i32 1))
  have H3 := hide h3
  have H4 := hide h4
  have hl8 := hi.len
  have hd8 : decide ((8 : Int) ≤ (l.length : Int)) = false := decide_eq_false (by omega)
  have hdd : (decide (n < 1) || decide (30 < n)) = false := by simp; omega
  have Hh : Ov.has l x = true := by unfold Ov.has; exact decide_eq_true hp
  clear h h1 h2 h3 h4 hi hp
  go_enter_defers Tryz.func38, Tryz.ntmps38
  go_wp2_with (first
    | (go_at_call 66; refine (oShas_calls l _ x b 3 0 _ hl8 (unhide HO) (blk_cell (unhide HB) rfl) (by simpa using hbl)).mono ?_; rintro e w2 ⟨rfl, hb2⟩; have HB2 := hide hb2; clear hb2)
    | (go_at_call 65; refine (oScount_calls l.length a c b 3 _ (blk_cell (unhide HB) rfl)).mono ?_; rintro e w' ⟨rfl, rfl⟩)
    | (go_at_call 64; refine (oisName_calls _ _).mono ?_; rintro e w' ⟨rfl, hw⟩; obtain rfl := hw.symm)
    | (go_at_call 43; refine (lock_free muLib ⟨b, 0, none⟩ _ c0 f0).mono ?_; rintro e w1 ⟨rfl, rfl⟩))
  have hb9 := unhide HB2
  refine leaves_cons (f := 44) (args := #[.pointer (some ⟨b, 0, none⟩)]) (by simp) (by simp [go_sem]) ?_
  refine (unlock_deferred muLib ⟨b, 0, none⟩ .returning _ ?_ ?_).mono ?_
  · exact (hb9.cell (p := ⟨b, 0, none⟩) (by simpa using hbl)).trans (blk_cell (unhide HB) rfl)
  · exact (hb9.frozen (p := ⟨b, 0, none⟩) (by simpa using hbl)).trans (blk_frozen (unhide HB) 0)
  rintro e u' w'' ⟨rfl, rfl, rfl⟩
  exact ⟨_, results_tmp rfl _ _ _, rfl, OvLeft.quiet (unhide HR) hb9⟩

open Go.MuLone in
set_option maxRecDepth 100000 in
set_option maxHeartbeats 2000000 in
theorem oMake_unsound (l : Ov.Files) (x bk : ByteArray) (n : Int) (b : Nat) (r : Option Nat) (room : Nat) (w : World) (hi : Ov.LI room l) (h : OvRep w b r room l) (B : Nat) (s0 s1 s2 s3 : Addr) (hs : Sents w B s0 s1 s2 s3) (hB : B ≤ b) (hn : Ov.nameB x = true) (hn1 : 1 ≤ n) (hn30 : n ≤ 30) (h8 : ¬ 8 ≤ l.length) (hp : ¬ Ov.place l x < l.length) (hb0 : bk.toList.isEmpty = false) (hso : Ov.soundF l bk ≠ 0) :
    Calls Tryz.prog 38 #[.pointer (some ⟨b, 0, none⟩), .string x, .int .i64 n, .string bk] w fun e w' => e = .returned (.int .i64 (Ov.soundF l bk)) ∧ OvLeft w b r room l w' := by
  obtain ⟨v, h1, h2, h3, h4⟩ := id h
  have HR := hide h
  obtain ⟨a, c, rfl⟩ := owns_slice h2
  have c0 : w.cell? ⟨b, 0, none⟩ = some (.int .i32 0) := blk_cell h1 rfl
  have f0 := blk_frozen h1 0
  have hbl := blk_lt h1
  have HB := hide (blk_set_same (i := 0) h1 (.int .i32 1))
  have HO := hide (owns_set h2 h3 (a := ⟨b, 0, none⟩) (.int .i32 1))
  have H3 := hide h3
  have H4 := hide h4
  have hl8 := hi.len
  have hck : ∀ {w2 : World}, Below (w.setCell ⟨b, 0, none⟩ (.int .i32 1)).heap.size (w.setCell ⟨b, 0, none⟩ (.int .i32 1)) w2 → Hid (ChainAt w2 b B r room l s0 s1 s2 s3) := fun hb => (ChainAt.mk h.lock hi (hs.kept ((Below.refl B w).setCell (p := ⟨b, 0, none⟩) hB (.int .i32 1)))).kept hb
  have hd8 : decide ((8 : Int) ≤ (l.length : Int)) = false := decide_eq_false (by omega)
  have Hh : Ov.has l x = false := by unfold Ov.has; exact decide_eq_false hp
  have hdd : (decide (n < 1) || decide (30 < n)) = false := by simp; omega
  have HK : Hid (∀ w2, ChainAt w2 b B r room l s0 s1 s2 s3 → ∃ wh, Calls Tryz.prog 45 #[.pointer (some ⟨b, 0, none⟩), .string bk] w2 (ChainNo s0 s1 s2 s3 (Ov.soundF l bk) wh w2)) := fun w2 hc => by
    by_cases hpb : Ov.place l bk < l.length
    · have e : Ov.soundF l bk = (Ov.downOf l bk).2.1 := by unfold Ov.soundF; rw [if_pos hpb]
      exact ⟨_, by rw [e]; exact oopenChain_down bk w2 b B r room l s0 s1 s2 s3 hc hpb (by rw [← e]; exact hso)⟩
    · have e : Ov.soundF l bk = 4 := by unfold Ov.soundF; rw [if_neg hpb]
      exact ⟨none, by rw [e]; exact oopenChain_none bk w2 b B r room l s0 s1 s2 s3 hc hpb⟩
  clear h h1 h2 h3 h4 hi hp h8 hs
  go_enter_defers Tryz.func38, Tryz.ntmps38
  go_wp2_with (first
    | (go_at_call 47; refine (oerrnoOf_calls s0 s1 s2 s3 eb _ B ed wh et ea _ hc3 (unhide HE3) ((unhide HC2).kept (unhide HB3)).se).mono ?_; rintro e w4 ⟨rfl, rfl⟩)
    | (go_at_call 72; obtain ⟨wh, hop⟩ := unhide HK _ (unhide HC2); refine (oopenBacking_no bk b _ s0 s1 s2 s3 _ wh hb0 hop).mono ?_; rintro e w3 ⟨hb3, eb, ed, et, ea, rfl, he3, hc3⟩; have HE3 := hide he3; have HB3 := hide hb3; clear he3 hb3 hop)
    | (go_at_call 66; refine (oShas_calls l _ x b 3 0 _ hl8 (unhide HO) (blk_cell (unhide HB) rfl) (by simpa using hbl)).mono ?_; rintro e w2 ⟨rfl, hb2⟩; have HB2 := hide hb2; have HC2 := hck hb2; clear hb2)
    | (go_at_call 65; refine (oScount_calls l.length a c b 3 _ (blk_cell (unhide HB) rfl)).mono ?_; rintro e w' ⟨rfl, rfl⟩)
    | (go_at_call 64; refine (oisName_calls _ _).mono ?_; rintro e w' ⟨rfl, hw⟩; obtain rfl := hw.symm)
    | (go_at_call 43; refine (lock_free muLib ⟨b, 0, none⟩ _ c0 f0).mono ?_; rintro e w1 ⟨rfl, rfl⟩))
  have hb9 := (unhide HB2).trans ((unhide HB3).mono (unhide HB2).size)
  refine leaves_cons (f := 44) (args := #[.pointer (some ⟨b, 0, none⟩)]) (by simp) (by simp [go_sem]) ?_
  refine (unlock_deferred muLib ⟨b, 0, none⟩ .returning _ ?_ ?_).mono ?_
  · exact (hb9.cell (p := ⟨b, 0, none⟩) (by simpa using hbl)).trans (blk_cell (unhide HB) rfl)
  · exact (hb9.frozen (p := ⟨b, 0, none⟩) (by simpa using hbl)).trans (blk_frozen (unhide HB) 0)
  rintro e u' w'' ⟨rfl, rfl, rfl⟩
  exact ⟨_, results_tmp rfl _ _ _, rfl, OvLeft.quiet (unhide HR) hb9⟩

open Go.MuLone in
set_option maxRecDepth 100000 in
set_option maxHeartbeats 2000000 in
theorem oMake_alone (l : Ov.Files) (x bk : ByteArray) (n : Nat) (b : Nat) (r : Option Nat) (room : Nat) (w : World) (hi : Ov.LI room l) (h : OvRep w b r room l) (hn : Ov.nameB x = true) (hn1 : 1 ≤ n) (hn30 : n ≤ 30) (h8 : ¬ 8 ≤ l.length) (hp : ¬ Ov.place l x < l.length) (hb0 : bk.toList.isEmpty = true) (hb8 : bk.size ≤ 8) (hrm : addUp x (encode bk (noKinds n) (noBlocks n)) l ≤ (room : Int)) :
    Calls Tryz.prog 38 #[.pointer (some ⟨b, 0, none⟩), .string x, .int .i64 n, .string bk] w fun e w' => e = .returned (.int .i64 0) ∧ OvLeft w b r room (Ov.withF l x (encode bk (noKinds n) (noBlocks n))) w' := by
  obtain ⟨v, h1, h2, h3, h4⟩ := id h
  have HR := hide h
  obtain ⟨a, c, rfl⟩ := owns_slice h2
  have c0 : w.cell? ⟨b, 0, none⟩ = some (.int .i32 0) := blk_cell h1 rfl
  have f0 := blk_frozen h1 0
  have hbl := blk_lt h1
  have HB := hide (blk_set_same (i := 0) h1 (.int .i32 1))
  have HO := hide (owns_set h2 h3 (a := ⟨b, 0, none⟩) (.int .i32 1))
  have H3 := hide h3
  have H4 := hide h4
  have hl8 := hi.len
  have hd8 : decide ((8 : Int) ≤ (l.length : Int)) = false := decide_eq_false (by omega)
  have Hh : Ov.has l x = false := by unfold Ov.has; exact decide_eq_false hp
  have hdd : (decide ((n : Int) < 1) || decide (30 < (n : Int))) = false := by simp; omega
  have hx1000 : x.size ≤ 1000 := Nat.le_trans (Ov.nameB_size hn) (by omega)
  have HRM := hide hrm
  have mk := make_clus n hn30
  have h9 := withF_eight (x := x) (f := encode bk (noKinds n) (noBlocks n)) hl8 (Or.inr (by omega))
  have HNB : Hid (∀ k, k < n → (noKinds n).getD k 0 = 1 → (noBlocks n).getD k ⟨#[]⟩ = ⟨(List.replicate 8 (0 : UInt8)).toArray⟩) := fun k _ e => by rw [noKinds_getD] at e; cases e
  clear h h1 h2 h3 h4 hi hp h8 hrm
  go_enter_defers Tryz.func38, Tryz.ntmps38
  go_wp2_with (first
    | (go_at_call 53; refine (okeep_yes l (.slice a l.length c) x (encode bk (noKinds n) (noBlocks n)) b room _ h9 (((unhide HB3).block b (by simpa using hbl)).trans (unhide HB)) (owns_all (unhide HO) (unhide HB3)) (unhide H3) hx1000 (unhide HRM)).mono ?_; rintro e w4 ⟨rfl, v4, hp4⟩)
    | (go_at_call 54; refine (ofile_calls bk w5.heap.size n 0 (noKinds n) (noBlocks n) (fun _ => List.replicate 8 0) _ (cls_new (blk_alloc (blk_new w5 _) _)) (unhide HNB) hn1 hn30 hb8).mono ?_; rintro e w3 ⟨rfl, hb3⟩; have HB3 : Hid (Below (w.setCell ⟨b, 0, none⟩ (.int .i32 1)).heap.size (w.setCell ⟨b, 0, none⟩ (.int .i32 1)) w3) := ((((unhide HB5).alloc (unhide HB5).size _).alloc (Nat.le_trans (unhide HB5).size (le_alloc _ _)) _)).trans (hb3.mono (Nat.le_trans (Nat.le_trans (unhide HB5).size (le_alloc _ _)) (le_alloc _ _))); clear hb3)
    | (go_at_call 72; refine (oopenBacking_none bk b _ hb0).mono ?_; rintro e w5 ⟨rfl, hw5⟩; have HB5 : Hid (Below (w.setCell ⟨b, 0, none⟩ (.int .i32 1)).heap.size (w.setCell ⟨b, 0, none⟩ (.int .i32 1)) w5) := (by rw [← hw5]; exact (unhide HB2).alloc (unhide HB2).size _); clear hw5)
    | (go_at_call 66; refine (oShas_calls l _ x b 3 0 _ hl8 (unhide HO) (blk_cell (unhide HB) rfl) (by simpa using hbl)).mono ?_; rintro e w2 ⟨rfl, hb2⟩; have HB2 := hide hb2; clear hb2)
    | (go_at_call 65; refine (oScount_calls l.length a c b 3 _ (blk_cell (unhide HB) rfl)).mono ?_; rintro e w' ⟨rfl, rfl⟩)
    | (go_at_call 64; refine (oisName_calls _ _).mono ?_; rintro e w' ⟨rfl, hw⟩; obtain rfl := hw.symm)
    | (go_at_call 43; refine (lock_free muLib ⟨b, 0, none⟩ _ c0 f0).mono ?_; rintro e w1 ⟨rfl, rfl⟩))
  refine leaves_cons (f := 44) (args := #[.pointer (some ⟨b, 0, none⟩)]) (by simp) (by simp [go_sem]) ?_
  refine (unlock_deferred muLib ⟨b, 0, none⟩ .returning _ ?_ ?_).mono ?_
  · exact blk_cell hp4.blk rfl
  · exact blk_frozen hp4.blk 0
  rintro e u' w'' ⟨rfl, rfl, rfl⟩
  exact ⟨_, results_tmp rfl _ _ _, rfl, OvLeft.turn (unhide HR) (unhide HB3) (unhide H4) hp4⟩

open Go.MuLone in
set_option maxRecDepth 100000 in
set_option maxHeartbeats 2000000 in
theorem oMake_alone_full (l : Ov.Files) (x bk : ByteArray) (n : Nat) (b : Nat) (r : Option Nat) (room : Nat) (w : World) (hi : Ov.LI room l) (h : OvRep w b r room l) (hn : Ov.nameB x = true) (hn1 : 1 ≤ n) (hn30 : n ≤ 30) (h8 : ¬ 8 ≤ l.length) (hp : ¬ Ov.place l x < l.length) (hb0 : bk.toList.isEmpty = true) (hb8 : bk.size ≤ 8) (hrm : (room : Int) < addUp x (encode bk (noKinds n) (noBlocks n)) l) :
    Calls Tryz.prog 38 #[.pointer (some ⟨b, 0, none⟩), .string x, .int .i64 n, .string bk] w fun e w' => e = .returned (.int .i64 9) ∧ OvLeft w b r room l w' := by
  obtain ⟨v, h1, h2, h3, h4⟩ := id h
  have HR := hide h
  obtain ⟨a, c, rfl⟩ := owns_slice h2
  have c0 : w.cell? ⟨b, 0, none⟩ = some (.int .i32 0) := blk_cell h1 rfl
  have f0 := blk_frozen h1 0
  have hbl := blk_lt h1
  have HB := hide (blk_set_same (i := 0) h1 (.int .i32 1))
  have HO := hide (owns_set h2 h3 (a := ⟨b, 0, none⟩) (.int .i32 1))
  have H3 := hide h3
  have H4 := hide h4
  have hl8 := hi.len
  have hd8 : decide ((8 : Int) ≤ (l.length : Int)) = false := decide_eq_false (by omega)
  have Hh : Ov.has l x = false := by unfold Ov.has; exact decide_eq_false hp
  have hdd : (decide ((n : Int) < 1) || decide (30 < (n : Int))) = false := by simp; omega
  have hx1000 : x.size ≤ 1000 := Nat.le_trans (Ov.nameB_size hn) (by omega)
  have HRM := hide hrm
  have mk := make_clus n hn30
  have h9 := withF_eight (x := x) (f := encode bk (noKinds n) (noBlocks n)) hl8 (Or.inr (by omega))
  have HNB : Hid (∀ k, k < n → (noKinds n).getD k 0 = 1 → (noBlocks n).getD k ⟨#[]⟩ = ⟨(List.replicate 8 (0 : UInt8)).toArray⟩) := fun k _ e => by rw [noKinds_getD] at e; cases e
  clear h h1 h2 h3 h4 hi hp h8 hrm
  go_enter_defers Tryz.func38, Tryz.ntmps38
  go_wp2_with (first
    | (go_at_call 53; refine (okeep_no l (.slice a l.length c) x (encode bk (noKinds n) (noBlocks n)) b room _ h9 (((unhide HB3).block b (by simpa using hbl)).trans (unhide HB)) (owns_all (unhide HO) (unhide HB3)) (unhide H3) hx1000 (unhide HRM)).mono ?_; rintro e w4 ⟨rfl, hb4⟩)
    | (go_at_call 54; refine (ofile_calls bk w5.heap.size n 0 (noKinds n) (noBlocks n) (fun _ => List.replicate 8 0) _ (cls_new (blk_alloc (blk_new w5 _) _)) (unhide HNB) hn1 hn30 hb8).mono ?_; rintro e w3 ⟨rfl, hb3⟩; have HB3 : Hid (Below (w.setCell ⟨b, 0, none⟩ (.int .i32 1)).heap.size (w.setCell ⟨b, 0, none⟩ (.int .i32 1)) w3) := ((((unhide HB5).alloc (unhide HB5).size _).alloc (Nat.le_trans (unhide HB5).size (le_alloc _ _)) _)).trans (hb3.mono (Nat.le_trans (Nat.le_trans (unhide HB5).size (le_alloc _ _)) (le_alloc _ _))); clear hb3)
    | (go_at_call 72; refine (oopenBacking_none bk b _ hb0).mono ?_; rintro e w5 ⟨rfl, hw5⟩; have HB5 : Hid (Below (w.setCell ⟨b, 0, none⟩ (.int .i32 1)).heap.size (w.setCell ⟨b, 0, none⟩ (.int .i32 1)) w5) := (by rw [← hw5]; exact (unhide HB2).alloc (unhide HB2).size _); clear hw5)
    | (go_at_call 66; refine (oShas_calls l _ x b 3 0 _ hl8 (unhide HO) (blk_cell (unhide HB) rfl) (by simpa using hbl)).mono ?_; rintro e w2 ⟨rfl, hb2⟩; have HB2 := hide hb2; clear hb2)
    | (go_at_call 65; refine (oScount_calls l.length a c b 3 _ (blk_cell (unhide HB) rfl)).mono ?_; rintro e w' ⟨rfl, rfl⟩)
    | (go_at_call 64; refine (oisName_calls _ _).mono ?_; rintro e w' ⟨rfl, hw⟩; obtain rfl := hw.symm)
    | (go_at_call 43; refine (lock_free muLib ⟨b, 0, none⟩ _ c0 f0).mono ?_; rintro e w1 ⟨rfl, rfl⟩))
  have hb9 := (unhide HB3).trans (hb4.mono (unhide HB3).size)
  refine leaves_cons (f := 44) (args := #[.pointer (some ⟨b, 0, none⟩)]) (by simp) (by simp [go_sem]) ?_
  refine (unlock_deferred muLib ⟨b, 0, none⟩ .returning _ ?_ ?_).mono ?_
  · exact (hb9.cell (p := ⟨b, 0, none⟩) (by simpa using hbl)).trans (blk_cell (unhide HB) rfl)
  · exact (hb9.frozen (p := ⟨b, 0, none⟩) (by simpa using hbl)).trans (blk_frozen (unhide HB) 0)
  rintro e u' w'' ⟨rfl, rfl, rfl⟩
  exact ⟨_, results_tmp rfl _ _ _, rfl, OvLeft.quiet (unhide HR) hb9⟩

open Go.MuLone in
set_option maxRecDepth 100000 in
set_option maxHeartbeats 2000000 in
theorem oMake_over (l : Ov.Files) (x bk : ByteArray) (n : Nat) (b : Nat) (r : Option Nat) (room : Nat) (w : World) (hi : Ov.LI room l) (h : OvRep w b r room l) (B : Nat) (s0 s1 s2 s3 : Addr) (hs : Sents w B s0 s1 s2 s3) (hB : B ≤ b) (hn : Ov.nameB x = true) (hn1 : 1 ≤ n) (hn30 : n ≤ 30) (h8 : ¬ 8 ≤ l.length) (hp : ¬ Ov.place l x < l.length) (hb0 : bk.toList.isEmpty = false) (hpb : Ov.place l bk < l.length) (hso : (Ov.downOf l bk).2.1 = 0) (hb8 : bk.size ≤ 8) (hrm : addUp x (encode bk (noKinds n) (noBlocks n)) l ≤ (room : Int)) :
    Calls Tryz.prog 38 #[.pointer (some ⟨b, 0, none⟩), .string x, .int .i64 n, .string bk] w fun e w' => e = .returned (.int .i64 0) ∧ OvLeft w b r room (Ov.withF l x (encode bk (noKinds n) (noBlocks n))) w' := by
  obtain ⟨v, h1, h2, h3, h4⟩ := id h
  have HR := hide h
  obtain ⟨a, c, rfl⟩ := owns_slice h2
  have c0 : w.cell? ⟨b, 0, none⟩ = some (.int .i32 0) := blk_cell h1 rfl
  have f0 := blk_frozen h1 0
  have hbl := blk_lt h1
  have HB := hide (blk_set_same (i := 0) h1 (.int .i32 1))
  have HO := hide (owns_set h2 h3 (a := ⟨b, 0, none⟩) (.int .i32 1))
  have H3 := hide h3
  have H4 := hide h4
  have hl8 := hi.len
  have hck : ∀ {w2 : World}, Below (w.setCell ⟨b, 0, none⟩ (.int .i32 1)).heap.size (w.setCell ⟨b, 0, none⟩ (.int .i32 1)) w2 → Hid (ChainAt w2 b B r room l s0 s1 s2 s3) := fun hb => (ChainAt.mk h.lock hi (hs.kept ((Below.refl B w).setCell (p := ⟨b, 0, none⟩) hB (.int .i32 1)))).kept hb
  have hd8 : decide ((8 : Int) ≤ (l.length : Int)) = false := decide_eq_false (by omega)
  have Hh : Ov.has l x = false := by unfold Ov.has; exact decide_eq_false hp
  have hdd : (decide ((n : Int) < 1) || decide (30 < (n : Int))) = false := by simp; omega
  have hx1000 : x.size ≤ 1000 := Nat.le_trans (Ov.nameB_size hn) (by omega)
  have HRM := hide hrm
  have mk := make_clus n hn30
  have h9 := withF_eight (x := x) (f := encode bk (noKinds n) (noBlocks n)) hl8 (Or.inr (by omega))
  have HNB : Hid (∀ k, k < n → (noKinds n).getD k 0 = 1 → (noBlocks n).getD k ⟨#[]⟩ = ⟨(List.replicate 8 (0 : UInt8)).toArray⟩) := fun k _ e => by rw [noKinds_getD] at e; cases e
  have HPB := hide hpb
  have HSO := hide hso
  clear h h1 h2 h3 h4 hi hp h8 hrm hs hpb hso
  go_enter_defers Tryz.func38, Tryz.ntmps38
  go_wp2_with (first
    | (go_at_call 53; refine (okeep_yes l (.slice a l.length c) x (encode bk (noKinds n) (noBlocks n)) b room _ h9 (((unhide HB3).block b (by simpa using hbl)).trans (unhide HB)) (owns_all (unhide HO) (unhide HB3)) (unhide H3) hx1000 (unhide HRM)).mono ?_; rintro e w4 ⟨rfl, v4, hp4⟩)
    | (go_at_call 54; refine (ofile_calls bk w5.heap.size n 0 (noKinds n) (noBlocks n) (fun _ => List.replicate 8 0) _ (cls_new (blk_alloc (blk_new w5 _) _)) (unhide HNB) hn1 hn30 hb8).mono ?_; rintro e w3 ⟨rfl, hb3⟩; have HB3 : Hid (Below (w.setCell ⟨b, 0, none⟩ (.int .i32 1)).heap.size (w.setCell ⟨b, 0, none⟩ (.int .i32 1)) w3) := ((((unhide HB5).alloc (unhide HB5).size _).alloc (Nat.le_trans (unhide HB5).size (le_alloc _ _)) _)).trans (hb3.mono (Nat.le_trans (Nat.le_trans (unhide HB5).size (le_alloc _ _)) (le_alloc _ _))); clear hb3)
    | (go_at_call 72; refine (oopenBacking_yes bk b _ l _ hb0 (oopenChain_yes bk _ b B r room l s0 s1 s2 s3 (unhide HC2) (unhide HPB) (unhide HSO))).mono ?_; rintro e w5 ⟨hb5, cb, r2, L, rfl, _⟩; have HB5 : Hid (Below (w.setCell ⟨b, 0, none⟩ (.int .i32 1)).heap.size (w.setCell ⟨b, 0, none⟩ (.int .i32 1)) w5) := (unhide HB2).trans (hb5.mono (unhide HB2).size); clear hb5)
    | (go_at_call 66; refine (oShas_calls l _ x b 3 0 _ hl8 (unhide HO) (blk_cell (unhide HB) rfl) (by simpa using hbl)).mono ?_; rintro e w2 ⟨rfl, hb2⟩; have HB2 := hide hb2; have HC2 := hck hb2; clear hb2)
    | (go_at_call 65; refine (oScount_calls l.length a c b 3 _ (blk_cell (unhide HB) rfl)).mono ?_; rintro e w' ⟨rfl, rfl⟩)
    | (go_at_call 64; refine (oisName_calls _ _).mono ?_; rintro e w' ⟨rfl, hw⟩; obtain rfl := hw.symm)
    | (go_at_call 43; refine (lock_free muLib ⟨b, 0, none⟩ _ c0 f0).mono ?_; rintro e w1 ⟨rfl, rfl⟩))
  refine leaves_cons (f := 44) (args := #[.pointer (some ⟨b, 0, none⟩)]) (by simp) (by simp [go_sem]) ?_
  refine (unlock_deferred muLib ⟨b, 0, none⟩ .returning _ ?_ ?_).mono ?_
  · exact blk_cell hp4.blk rfl
  · exact blk_frozen hp4.blk 0
  rintro e u' w'' ⟨rfl, rfl, rfl⟩
  exact ⟨_, results_tmp rfl _ _ _, rfl, OvLeft.turn (unhide HR) (unhide HB3) (unhide H4) hp4⟩

open Go.MuLone in
set_option maxRecDepth 100000 in
set_option maxHeartbeats 2000000 in
theorem oMake_over_full (l : Ov.Files) (x bk : ByteArray) (n : Nat) (b : Nat) (r : Option Nat) (room : Nat) (w : World) (hi : Ov.LI room l) (h : OvRep w b r room l) (B : Nat) (s0 s1 s2 s3 : Addr) (hs : Sents w B s0 s1 s2 s3) (hB : B ≤ b) (hn : Ov.nameB x = true) (hn1 : 1 ≤ n) (hn30 : n ≤ 30) (h8 : ¬ 8 ≤ l.length) (hp : ¬ Ov.place l x < l.length) (hb0 : bk.toList.isEmpty = false) (hpb : Ov.place l bk < l.length) (hso : (Ov.downOf l bk).2.1 = 0) (hb8 : bk.size ≤ 8) (hrm : (room : Int) < addUp x (encode bk (noKinds n) (noBlocks n)) l) :
    Calls Tryz.prog 38 #[.pointer (some ⟨b, 0, none⟩), .string x, .int .i64 n, .string bk] w fun e w' => e = .returned (.int .i64 9) ∧ OvLeft w b r room l w' := by
  obtain ⟨v, h1, h2, h3, h4⟩ := id h
  have HR := hide h
  obtain ⟨a, c, rfl⟩ := owns_slice h2
  have c0 : w.cell? ⟨b, 0, none⟩ = some (.int .i32 0) := blk_cell h1 rfl
  have f0 := blk_frozen h1 0
  have hbl := blk_lt h1
  have HB := hide (blk_set_same (i := 0) h1 (.int .i32 1))
  have HO := hide (owns_set h2 h3 (a := ⟨b, 0, none⟩) (.int .i32 1))
  have H3 := hide h3
  have H4 := hide h4
  have hl8 := hi.len
  have hck : ∀ {w2 : World}, Below (w.setCell ⟨b, 0, none⟩ (.int .i32 1)).heap.size (w.setCell ⟨b, 0, none⟩ (.int .i32 1)) w2 → Hid (ChainAt w2 b B r room l s0 s1 s2 s3) := fun hb => (ChainAt.mk h.lock hi (hs.kept ((Below.refl B w).setCell (p := ⟨b, 0, none⟩) hB (.int .i32 1)))).kept hb
  have hd8 : decide ((8 : Int) ≤ (l.length : Int)) = false := decide_eq_false (by omega)
  have Hh : Ov.has l x = false := by unfold Ov.has; exact decide_eq_false hp
  have hdd : (decide ((n : Int) < 1) || decide (30 < (n : Int))) = false := by simp; omega
  have hx1000 : x.size ≤ 1000 := Nat.le_trans (Ov.nameB_size hn) (by omega)
  have HRM := hide hrm
  have mk := make_clus n hn30
  have h9 := withF_eight (x := x) (f := encode bk (noKinds n) (noBlocks n)) hl8 (Or.inr (by omega))
  have HNB : Hid (∀ k, k < n → (noKinds n).getD k 0 = 1 → (noBlocks n).getD k ⟨#[]⟩ = ⟨(List.replicate 8 (0 : UInt8)).toArray⟩) := fun k _ e => by rw [noKinds_getD] at e; cases e
  have HPB := hide hpb
  have HSO := hide hso
  clear h h1 h2 h3 h4 hi hp h8 hrm hs hpb hso
  go_enter_defers Tryz.func38, Tryz.ntmps38
  go_wp2_with (first
    | (go_at_call 53; refine (okeep_no l (.slice a l.length c) x (encode bk (noKinds n) (noBlocks n)) b room _ h9 (((unhide HB3).block b (by simpa using hbl)).trans (unhide HB)) (owns_all (unhide HO) (unhide HB3)) (unhide H3) hx1000 (unhide HRM)).mono ?_; rintro e w4 ⟨rfl, hb4⟩)
    | (go_at_call 54; refine (ofile_calls bk w5.heap.size n 0 (noKinds n) (noBlocks n) (fun _ => List.replicate 8 0) _ (cls_new (blk_alloc (blk_new w5 _) _)) (unhide HNB) hn1 hn30 hb8).mono ?_; rintro e w3 ⟨rfl, hb3⟩; have HB3 : Hid (Below (w.setCell ⟨b, 0, none⟩ (.int .i32 1)).heap.size (w.setCell ⟨b, 0, none⟩ (.int .i32 1)) w3) := ((((unhide HB5).alloc (unhide HB5).size _).alloc (Nat.le_trans (unhide HB5).size (le_alloc _ _)) _)).trans (hb3.mono (Nat.le_trans (Nat.le_trans (unhide HB5).size (le_alloc _ _)) (le_alloc _ _))); clear hb3)
    | (go_at_call 72; refine (oopenBacking_yes bk b _ l _ hb0 (oopenChain_yes bk _ b B r room l s0 s1 s2 s3 (unhide HC2) (unhide HPB) (unhide HSO))).mono ?_; rintro e w5 ⟨hb5, cb, r2, L, rfl, _⟩; have HB5 : Hid (Below (w.setCell ⟨b, 0, none⟩ (.int .i32 1)).heap.size (w.setCell ⟨b, 0, none⟩ (.int .i32 1)) w5) := (unhide HB2).trans (hb5.mono (unhide HB2).size); clear hb5)
    | (go_at_call 66; refine (oShas_calls l _ x b 3 0 _ hl8 (unhide HO) (blk_cell (unhide HB) rfl) (by simpa using hbl)).mono ?_; rintro e w2 ⟨rfl, hb2⟩; have HB2 := hide hb2; have HC2 := hck hb2; clear hb2)
    | (go_at_call 65; refine (oScount_calls l.length a c b 3 _ (blk_cell (unhide HB) rfl)).mono ?_; rintro e w' ⟨rfl, rfl⟩)
    | (go_at_call 64; refine (oisName_calls _ _).mono ?_; rintro e w' ⟨rfl, hw⟩; obtain rfl := hw.symm)
    | (go_at_call 43; refine (lock_free muLib ⟨b, 0, none⟩ _ c0 f0).mono ?_; rintro e w1 ⟨rfl, rfl⟩))
  have hb9 := (unhide HB3).trans (hb4.mono (unhide HB3).size)
  refine leaves_cons (f := 44) (args := #[.pointer (some ⟨b, 0, none⟩)]) (by simp) (by simp [go_sem]) ?_
  refine (unlock_deferred muLib ⟨b, 0, none⟩ .returning _ ?_ ?_).mono ?_
  · exact (hb9.cell (p := ⟨b, 0, none⟩) (by simpa using hbl)).trans (blk_cell (unhide HB) rfl)
  · exact (hb9.frozen (p := ⟨b, 0, none⟩) (by simpa using hbl)).trans (blk_frozen (unhide HB) 0)
  rintro e u' w'' ⟨rfl, rfl, rfl⟩
  exact ⟨_, results_tmp rfl _ _ _, rfl, OvLeft.quiet (unhide HR) hb9⟩

end Go.Proofs.YtomiepknmmpflaaGreatDoor

