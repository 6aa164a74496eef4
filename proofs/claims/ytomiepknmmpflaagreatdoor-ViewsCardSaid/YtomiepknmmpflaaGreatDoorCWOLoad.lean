/- What keep adds up is what the files would have together. -/
import Derived.Test.YtomiepknmmpflaaGreatDoorCWOKeep
import Derived.Test.YtomiepknmmpflaaGreatDoorCWODrop2
namespace Go.Proofs.YtomiepknmmpflaaGreatDoor
open Go.RowKit Go.Joins

theorem addLens_eq : ∀ (l : Ov.Files) (s : Nat), (∀ f ∈ l, f.2.size ≤ 1000) → s + 1000 * l.length ≤ 1000000 → l.foldl (fun t f => wrap64 (t + (f.2.size : Int))) (s : Int) = ((s + Ov.total l : Nat) : Int)
  | [], s, _, _ => by simp [Ov.total]
  | f :: l, s, hl, hs => by
    have hf := hl f (by simp)
    simp only [List.length_cons] at hs
    have h2 : wrap64 ((s : Int) + (f.2.size : Int)) = ((s + f.2.size : Nat) : Int) := by
      rw [IntWalk.wrap64_in _ ⟨by omega, by omega⟩]; omega
    have := addLens_eq l (s + f.2.size) (fun g hg => hl g (by simp [hg])) (by omega)
    rw [List.foldl_cons, h2, this]
    simp only [Ov.total]
    omega
theorem file_size_of {l : Ov.Files} (h : ∀ i, i < l.length → (Ov.fileAt l i).size ≤ 1000) : ∀ f ∈ l, f.2.size ≤ 1000 := fun f hf => by
  obtain ⟨i, hi, e⟩ := List.mem_iff_getElem.1 hf
  have := h i hi
  rw [show Ov.fileAt l i = f.2 from by simp [Ov.fileAt, hi, e]] at this
  exact this
theorem addLens_total {l : Ov.Files} (h : ∀ i, i < l.length → (Ov.fileAt l i).size ≤ 1000) (hl : l.length ≤ 10) : addLens l = (Ov.total l : Int) := by
  have := addLens_eq l 0 (file_size_of h) (by omega)
  unfold addLens
  simpa using this
/-- What the files would have together. -/
def addUp (x f : ByteArray) (l : Ov.Files) : Int := addLens (Ov.withF l x f)
theorem LI.file_size {room : Nat} {l : Ov.Files} (h : Ov.LI room l) : ∀ f ∈ l, f.2.size ≤ 1000 := fun f hf => by
  obtain ⟨i, hi, e⟩ := List.mem_iff_getElem.1 hf
  have := h.size i hi
  rw [show Ov.fileAt l i = f.2 from by simp [Ov.fileAt, hi, e]] at this
  exact this
theorem addUp_total {room : Nat} {l : Ov.Files} (h : Ov.LI room l) (x f : ByteArray) (hf : f.size ≤ 1000) : addUp x f l = (Ov.total (Ov.withF l x f) : Int) := by
  have hl := h.len
  unfold addUp
  refine addLens_total (Ov.withF_size h.size hf) ?_
  rw [Ov.withF_length]; split <;> omega
theorem withF_eight {l : Ov.Files} {x f : ByteArray} (hl : l.length ≤ 8) (h : Ov.place l x < l.length ∨ l.length < 8) : (Ov.withF l x f).length ≤ 8 := by
  rw [Ov.withF_length]; split <;> omega

/-- The one row that keep is called with. -/
theorem one_row (w : World) (x f : ByteArray) : OwnsRows (w.alloc (.cells #[.string x, .string f] 97)) 0 (.slice (some ⟨w.heap.size, 0, none⟩) [(x, f)].length [(x, f)].length) [(x, f)] :=
  World.ownsRow_lit w #[.string x, .string f] 1 (Nat.zero_le _) (by unfold maxLen; omega) rfl
theorem PutLeft.before {w w' : World} {b off : Nat} {cs : Array Value} {t : TypeId} {v v' : Value} {l : Ov.Files} {o : Obj} (h : PutLeft (w.alloc o) b off cs t v l v' w') : PutLeft w b off cs t v l v' w' :=
  ⟨h.blk, h.own, h.ne, (OFr.of_below (below_alloc1 w o) _ _).trans h.fr, h.row.imp id fun e k hk => Nat.le_trans (by simp) (e k hk)⟩
theorem okeep_one (l : Ov.Files) (v : Value) (x f : ByteArray) (b room : Nat) (w : World) (h9 : (Ov.withF l x f).length ≤ 8) (hblk : w.heap[b]? = some (.cells #[.int .i32 1, .int .u32 0, .int .i64 room, v] 77 (0, 0))) (hown : OwnsRows w 0 v l) (hx : x.size ≤ 1000) :
    Calls Tryz.prog 53 #[.pointer (some ⟨b, 0, none⟩), .slice (some ⟨w.heap.size, 0, none⟩) 1 1] (w.alloc (.cells #[.string x, .string f] 97)) fun e w' => ((room : Int) < addUp x f l ∧ e = .returned (.int .i64 9) ∧ Below w.heap.size w w') ∨ (addUp x f l ≤ (room : Int) ∧ e = .returned (.int .i64 0) ∧ ∃ v', PutLeft w b 3 #[.int .i32 1, .int .u32 0, .int .i64 room, v] 77 v (Ov.withF l x f) v' w') := by
  refine (okeep_in l [(x, f)] v w.heap.size b room _ h9 (by simp) (blk_alloc hblk _) (hown.alloc _) (one_row w x f) (fun q hq => by simp at hq; subst hq; exact hx)).mono ?_
  rintro e w' (⟨h1, h2, h3⟩ | ⟨h1, h2, v', h3⟩)
  · exact Or.inl ⟨h1, h2, (below_alloc1 w _).trans (h3.mono (by simp))⟩
  · exact Or.inr ⟨h1, h2, v', h3.before⟩
/-- keep where there is no room. -/
theorem okeep_no (l : Ov.Files) (v : Value) (x f : ByteArray) (b room : Nat) (w : World) (h9 : (Ov.withF l x f).length ≤ 8) (hblk : w.heap[b]? = some (.cells #[.int .i32 1, .int .u32 0, .int .i64 room, v] 77 (0, 0))) (hown : OwnsRows w 0 v l) (_ : some b ≠ v.ownBlock) (hx : x.size ≤ 1000) (h : (room : Int) < addUp x f l) : Calls Tryz.prog 53 #[.pointer (some ⟨b, 0, none⟩), .slice (some ⟨w.heap.size, 0, none⟩) 1 1] (w.alloc (.cells #[.string x, .string f] 97)) fun e w' => e = .returned (.int .i64 9) ∧ Below w.heap.size w w' := by
  refine (okeep_one l v x f b room w h9 hblk hown hx).mono ?_
  rintro e w' (⟨_, rfl, hb⟩ | ⟨h1, _⟩)
  · exact ⟨rfl, hb⟩
  · omega
/-- keep where there is. -/
theorem okeep_yes (l : Ov.Files) (v : Value) (x f : ByteArray) (b room : Nat) (w : World) (h9 : (Ov.withF l x f).length ≤ 8) (hblk : w.heap[b]? = some (.cells #[.int .i32 1, .int .u32 0, .int .i64 room, v] 77 (0, 0))) (hown : OwnsRows w 0 v l) (_ : some b ≠ v.ownBlock) (hx : x.size ≤ 1000) (h : addUp x f l ≤ (room : Int)) : Calls Tryz.prog 53 #[.pointer (some ⟨b, 0, none⟩), .slice (some ⟨w.heap.size, 0, none⟩) 1 1] (w.alloc (.cells #[.string x, .string f] 97)) fun e w' => e = .returned (.int .i64 0) ∧ ∃ v', PutLeft w b 3 #[.int .i32 1, .int .u32 0, .int .i64 room, v] 77 v (Ov.withF l x f) v' w' := by
  refine (okeep_one l v x f b room w h9 hblk hown hx).mono ?_
  rintro e w' (⟨h1, _⟩ | ⟨_, rfl, v', hp⟩)
  · omega
  · exact ⟨rfl, v', hp⟩

end Go.Proofs.YtomiepknmmpflaaGreatDoor

/- The program's Load. -/
namespace Go.Proofs.YtomiepknmmpflaaGreatDoor
open Go.RowKit Go.Joins

open Go.MuLone in
set_option maxRecDepth 100000 in
set_option maxHeartbeats 1000000 in
theorem oLoad_calls (l : Ov.Files) (x f : ByteArray) (b : Nat) (r : Option Nat) (room : Nat) (w : World) (hi : Ov.LI room l) (h : OvRep w b r room l) :
    Calls Tryz.prog 35 #[.pointer (some ⟨b, 0, none⟩), .string x, .string f] w fun e w' => e = .returned (.int .i64 (Ov.loadF room l x f).1) ∧ OvLeft w b r room (Ov.loadF room l x f).2 w' := by
  obtain ⟨v, h1, h2, h3, h4⟩ := id h
  have HR := hide h
  obtain ⟨a, c, rfl⟩ := owns_slice h2
  have c0 : w.cell? ⟨b, 0, none⟩ = some (.int .i32 0) := blk_cell h1 rfl
  have f0 := blk_frozen h1 0
  have hbl := blk_lt h1
  have HB := hide (blk_set_same (i := 0) h1 (.int .i32 1))
  have HO := hide (owns_set h2 h3 (a := ⟨b, 0, none⟩) (.int .i32 1))
  have H3 := hide h3
  have H4 := hide h4
  have hl8 := hi.len
  have HI := hide hi
  clear h h1 h2 h3 h4 hi
  cases hn : Ov.nameB x
  · have HL : Hid (Ov.loadF room l x f = (2, l)) := by unfold Ov.loadF; rw [if_pos hn]; exact rfl
    go_enter_defers Tryz.func35, Tryz.ntmps35
    go_wp2_with (first | (go_at_call 43; refine (lock_free muLib ⟨b, 0, none⟩ _ c0 f0).mono ?_; rintro e w1 ⟨rfl, rfl⟩) | (go_at_call 64; refine (oisName_calls _ _).mono ?_; rintro e w' ⟨rfl, hw⟩; obtain rfl := hw.symm))
    refine leaves_cons (f := 44) (args := #[.pointer (some ⟨b, 0, none⟩)]) (by simp) (by simp [go_sem]) ?_
    refine (unlock_deferred muLib ⟨b, 0, none⟩ .returning _ ?_ ?_).mono ?_
    · exact ((Below.refl (w.setCell ⟨b, 0, none⟩ (.int .i32 1)).heap.size (w.setCell ⟨b, 0, none⟩ (.int .i32 1))).cell (p := ⟨b, 0, none⟩) (by simpa using hbl)).trans (blk_cell (unhide HB) rfl)
    · exact ((Below.refl (w.setCell ⟨b, 0, none⟩ (.int .i32 1)).heap.size (w.setCell ⟨b, 0, none⟩ (.int .i32 1))).frozen (p := ⟨b, 0, none⟩) (by simpa using hbl)).trans (blk_frozen (unhide HB) 0)
    rintro e u' w'' ⟨rfl, rfl, rfl⟩
    refine ⟨_, results_tmp rfl _ _ _, ?_, ?_⟩
    · rw [unhide HL]; rfl
    · rw [unhide HL]; exact OvLeft.quiet (unhide HR) (Below.refl (w.setCell ⟨b, 0, none⟩ (.int .i32 1)).heap.size (w.setCell ⟨b, 0, none⟩ (.int .i32 1)))
  have hx1000 : x.size ≤ 1000 := Nat.le_trans (Ov.nameB_size hn) (by omega)
  by_cases hf : 1000 < f.size
  · have HL : Hid (Ov.loadF room l x f = (1, l)) := by unfold Ov.loadF; rw [if_neg (by rw [hn]; simp), if_pos (Or.inl hf)]; exact rfl
    go_enter_defers Tryz.func35, Tryz.ntmps35
    go_wp2_with (first | (go_at_call 43; refine (lock_free muLib ⟨b, 0, none⟩ _ c0 f0).mono ?_; rintro e w1 ⟨rfl, rfl⟩) | (go_at_call 64; refine (oisName_calls _ _).mono ?_; rintro e w' ⟨rfl, hw⟩; obtain rfl := hw.symm))
    refine leaves_cons (f := 44) (args := #[.pointer (some ⟨b, 0, none⟩)]) (by simp) (by simp [go_sem]) ?_
    refine (unlock_deferred muLib ⟨b, 0, none⟩ .returning _ ?_ ?_).mono ?_
    · exact ((Below.refl (w.setCell ⟨b, 0, none⟩ (.int .i32 1)).heap.size (w.setCell ⟨b, 0, none⟩ (.int .i32 1))).cell (p := ⟨b, 0, none⟩) (by simpa using hbl)).trans (blk_cell (unhide HB) rfl)
    · exact ((Below.refl (w.setCell ⟨b, 0, none⟩ (.int .i32 1)).heap.size (w.setCell ⟨b, 0, none⟩ (.int .i32 1))).frozen (p := ⟨b, 0, none⟩) (by simpa using hbl)).trans (blk_frozen (unhide HB) 0)
    rintro e u' w'' ⟨rfl, rfl, rfl⟩
    refine ⟨_, results_tmp rfl _ _ _, ?_, ?_⟩
    · rw [unhide HL]; rfl
    · rw [unhide HL]; exact OvLeft.quiet (unhide HR) (Below.refl (w.setCell ⟨b, 0, none⟩ (.int .i32 1)).heap.size (w.setCell ⟨b, 0, none⟩ (.int .i32 1)))
  have hf1000 : f.size ≤ 1000 := by omega
  by_cases h8 : 8 ≤ l.length
  · have hd8 : decide ((8 : Int) ≤ (l.length : Int)) = true := decide_eq_true (by omega)
    by_cases hp : Ov.place l x < l.length
    · have Hh : Ov.has l x = true := by unfold Ov.has; exact decide_eq_true hp
      have h9 := withF_eight (f := f) hl8 (Or.inl hp)
      have HLP : Hid (Ov.loadF room l x f = Ov.putF room l (Ov.withF l x f)) := by unfold Ov.loadF; rw [if_neg (by rw [hn]; simp), if_neg (by omega)]; exact rfl
      by_cases hrm : (room : Int) < addUp x f l
      · have h1 := hrm
        have HRM := hide hrm
        have HL : Hid (Ov.loadF room l x f = (9, l)) := by
          rw [unhide HLP]; unfold Ov.putF; rw [if_pos (by rw [addUp_total (unhide HI) x f hf1000] at h1; omega)]; exact rfl
        clear h1 hrm
        go_enter_defers Tryz.func35, Tryz.ntmps35
        go_wp2_with (first | (go_at_call 43; refine (lock_free muLib ⟨b, 0, none⟩ _ c0 f0).mono ?_; rintro e w1 ⟨rfl, rfl⟩) | (go_at_call 64; refine (oisName_calls _ _).mono ?_; rintro e w' ⟨rfl, hw⟩; obtain rfl := hw.symm) | (go_at_call 65; refine (oScount_calls l.length a c b 3 _ (blk_cell (unhide HB) rfl)).mono ?_; rintro e w' ⟨rfl, rfl⟩) | (go_at_call 66; refine (oShas_calls l _ x b 3 0 _ hl8 (unhide HO) (blk_cell (unhide HB) rfl) (by simpa using hbl)).mono ?_; rintro e w2 ⟨rfl, hb2⟩; have HB2 := hide hb2; clear hb2) | (go_at_call 67; refine (oClone_calls f _ hf1000).mono ?_; rintro e w3 ⟨rfl, hb3⟩; have HB3 : Hid (Below (w.setCell ⟨b, 0, none⟩ (.int .i32 1)).heap.size (w.setCell ⟨b, 0, none⟩ (.int .i32 1)) w3) := (unhide HB2).trans (hb3.mono (unhide HB2).size); clear hb3) | (go_at_call 53; refine (okeep_no l (.slice a l.length c) x f b room _ h9 (((unhide HB3).block b (by simpa using hbl)).trans (unhide HB)) (owns_all (unhide HO) (unhide HB3)) (unhide H3) hx1000 (unhide HRM)).mono ?_; rintro e w4 ⟨rfl, hb4⟩))
        have hb5 := (unhide HB3).trans (hb4.mono (unhide HB3).size)
        refine leaves_cons (f := 44) (args := #[.pointer (some ⟨b, 0, none⟩)]) (by simp) (by simp [go_sem]) ?_
        refine (unlock_deferred muLib ⟨b, 0, none⟩ .returning _ ?_ ?_).mono ?_
        · exact (hb5.cell (p := ⟨b, 0, none⟩) (by simpa using hbl)).trans (blk_cell (unhide HB) rfl)
        · exact (hb5.frozen (p := ⟨b, 0, none⟩) (by simpa using hbl)).trans (blk_frozen (unhide HB) 0)
        rintro e u' w'' ⟨rfl, rfl, rfl⟩
        refine ⟨_, results_tmp rfl _ _ _, ?_, ?_⟩
        · rw [unhide HL]; rfl
        · rw [unhide HL]; exact OvLeft.quiet (unhide HR) hb5
      · have h1 : addUp x f l ≤ (room : Int) := by omega
        have HRM := hide h1
        have HL : Hid (Ov.loadF room l x f = (0, Ov.withF l x f)) := by
          rw [unhide HLP]; unfold Ov.putF; rw [if_neg (by rw [addUp_total (unhide HI) x f hf1000] at h1; omega)]; exact rfl
        clear h1 hrm
        go_enter_defers Tryz.func35, Tryz.ntmps35
        go_wp2_with (first | (go_at_call 43; refine (lock_free muLib ⟨b, 0, none⟩ _ c0 f0).mono ?_; rintro e w1 ⟨rfl, rfl⟩) | (go_at_call 64; refine (oisName_calls _ _).mono ?_; rintro e w' ⟨rfl, hw⟩; obtain rfl := hw.symm) | (go_at_call 65; refine (oScount_calls l.length a c b 3 _ (blk_cell (unhide HB) rfl)).mono ?_; rintro e w' ⟨rfl, rfl⟩) | (go_at_call 66; refine (oShas_calls l _ x b 3 0 _ hl8 (unhide HO) (blk_cell (unhide HB) rfl) (by simpa using hbl)).mono ?_; rintro e w2 ⟨rfl, hb2⟩; have HB2 := hide hb2; clear hb2) | (go_at_call 67; refine (oClone_calls f _ hf1000).mono ?_; rintro e w3 ⟨rfl, hb3⟩; have HB3 : Hid (Below (w.setCell ⟨b, 0, none⟩ (.int .i32 1)).heap.size (w.setCell ⟨b, 0, none⟩ (.int .i32 1)) w3) := (unhide HB2).trans (hb3.mono (unhide HB2).size); clear hb3) | (go_at_call 53; refine (okeep_yes l (.slice a l.length c) x f b room _ h9 (((unhide HB3).block b (by simpa using hbl)).trans (unhide HB)) (owns_all (unhide HO) (unhide HB3)) (unhide H3) hx1000 (unhide HRM)).mono ?_; rintro e w4 ⟨rfl, v4, hp4⟩))
        refine leaves_cons (f := 44) (args := #[.pointer (some ⟨b, 0, none⟩)]) (by simp) (by simp [go_sem]) ?_
        refine (unlock_deferred muLib ⟨b, 0, none⟩ .returning _ ?_ ?_).mono ?_
        · exact blk_cell hp4.blk rfl
        · exact blk_frozen hp4.blk 0
        rintro e u' w'' ⟨rfl, rfl, rfl⟩
        refine ⟨_, results_tmp rfl _ _ _, ?_, ?_⟩
        · rw [unhide HL]; rfl
        · rw [unhide HL]; exact OvLeft.turn (unhide HR) (unhide HB3) (unhide H4) hp4
    · have Hh : Ov.has l x = false := by unfold Ov.has; exact decide_eq_false hp
      have HL : Hid (Ov.loadF room l x f = (1, l)) := by unfold Ov.loadF; rw [if_neg (by rw [hn]; simp), if_pos (Or.inr ⟨by omega, hp⟩)]; exact rfl
      go_enter_defers Tryz.func35, Tryz.ntmps35
      go_wp2_with (first | (go_at_call 43; refine (lock_free muLib ⟨b, 0, none⟩ _ c0 f0).mono ?_; rintro e w1 ⟨rfl, rfl⟩) | (go_at_call 64; refine (oisName_calls _ _).mono ?_; rintro e w' ⟨rfl, hw⟩; obtain rfl := hw.symm) | (go_at_call 65; refine (oScount_calls l.length a c b 3 _ (blk_cell (unhide HB) rfl)).mono ?_; rintro e w' ⟨rfl, rfl⟩) | (go_at_call 66; refine (oShas_calls l _ x b 3 0 _ hl8 (unhide HO) (blk_cell (unhide HB) rfl) (by simpa using hbl)).mono ?_; rintro e w2 ⟨rfl, hb2⟩; have HB2 := hide hb2; clear hb2))
      refine leaves_cons (f := 44) (args := #[.pointer (some ⟨b, 0, none⟩)]) (by simp) (by simp [go_sem]) ?_
      refine (unlock_deferred muLib ⟨b, 0, none⟩ .returning _ ?_ ?_).mono ?_
      · exact ((unhide HB2).cell (p := ⟨b, 0, none⟩) (by simpa using hbl)).trans (blk_cell (unhide HB) rfl)
      · exact ((unhide HB2).frozen (p := ⟨b, 0, none⟩) (by simpa using hbl)).trans (blk_frozen (unhide HB) 0)
      rintro e u' w'' ⟨rfl, rfl, rfl⟩
      refine ⟨_, results_tmp rfl _ _ _, ?_, ?_⟩
      · rw [unhide HL]; rfl
      · rw [unhide HL]; exact OvLeft.quiet (unhide HR) (unhide HB2)
  · have hd8 : decide ((8 : Int) ≤ (l.length : Int)) = false := decide_eq_false (by omega)
    have h9 := withF_eight (x := x) (f := f) hl8 (Or.inr (by omega))
    have HLP : Hid (Ov.loadF room l x f = Ov.putF room l (Ov.withF l x f)) := by unfold Ov.loadF; rw [if_neg (by rw [hn]; simp), if_neg (by omega)]; exact rfl
    by_cases hrm : (room : Int) < addUp x f l
    · have h1 := hrm
      have HRM := hide hrm
      have HL : Hid (Ov.loadF room l x f = (9, l)) := by
        rw [unhide HLP]; unfold Ov.putF; rw [if_pos (by rw [addUp_total (unhide HI) x f hf1000] at h1; omega)]; exact rfl
      clear h1 hrm
      go_enter_defers Tryz.func35, Tryz.ntmps35
      go_wp2_with (first | (go_at_call 43; refine (lock_free muLib ⟨b, 0, none⟩ _ c0 f0).mono ?_; rintro e w1 ⟨rfl, rfl⟩) | (go_at_call 64; refine (oisName_calls _ _).mono ?_; rintro e w' ⟨rfl, hw⟩; obtain rfl := hw.symm) | (go_at_call 65; refine (oScount_calls l.length a c b 3 _ (blk_cell (unhide HB) rfl)).mono ?_; rintro e w' ⟨rfl, rfl⟩) | (go_at_call 67; refine (oClone_calls f _ hf1000).mono ?_; rintro e w3 ⟨rfl, hb3⟩; have HB3 : Hid (Below (w.setCell ⟨b, 0, none⟩ (.int .i32 1)).heap.size (w.setCell ⟨b, 0, none⟩ (.int .i32 1)) w3) := hb3; clear hb3) | (go_at_call 53; refine (okeep_no l (.slice a l.length c) x f b room _ h9 (((unhide HB3).block b (by simpa using hbl)).trans (unhide HB)) (owns_all (unhide HO) (unhide HB3)) (unhide H3) hx1000 (unhide HRM)).mono ?_; rintro e w4 ⟨rfl, hb4⟩))
      have hb5 := (unhide HB3).trans (hb4.mono (unhide HB3).size)
      refine leaves_cons (f := 44) (args := #[.pointer (some ⟨b, 0, none⟩)]) (by simp) (by simp [go_sem]) ?_
      refine (unlock_deferred muLib ⟨b, 0, none⟩ .returning _ ?_ ?_).mono ?_
      · exact (hb5.cell (p := ⟨b, 0, none⟩) (by simpa using hbl)).trans (blk_cell (unhide HB) rfl)
      · exact (hb5.frozen (p := ⟨b, 0, none⟩) (by simpa using hbl)).trans (blk_frozen (unhide HB) 0)
      rintro e u' w'' ⟨rfl, rfl, rfl⟩
      refine ⟨_, results_tmp rfl _ _ _, ?_, ?_⟩
      · rw [unhide HL]; rfl
      · rw [unhide HL]; exact OvLeft.quiet (unhide HR) hb5
    · have h1 : addUp x f l ≤ (room : Int) := by omega
      have HRM := hide h1
      have HL : Hid (Ov.loadF room l x f = (0, Ov.withF l x f)) := by
        rw [unhide HLP]; unfold Ov.putF; rw [if_neg (by rw [addUp_total (unhide HI) x f hf1000] at h1; omega)]; exact rfl
      clear h1 hrm
      go_enter_defers Tryz.func35, Tryz.ntmps35
      go_wp2_with (first | (go_at_call 43; refine (lock_free muLib ⟨b, 0, none⟩ _ c0 f0).mono ?_; rintro e w1 ⟨rfl, rfl⟩) | (go_at_call 64; refine (oisName_calls _ _).mono ?_; rintro e w' ⟨rfl, hw⟩; obtain rfl := hw.symm) | (go_at_call 65; refine (oScount_calls l.length a c b 3 _ (blk_cell (unhide HB) rfl)).mono ?_; rintro e w' ⟨rfl, rfl⟩) | (go_at_call 67; refine (oClone_calls f _ hf1000).mono ?_; rintro e w3 ⟨rfl, hb3⟩; have HB3 : Hid (Below (w.setCell ⟨b, 0, none⟩ (.int .i32 1)).heap.size (w.setCell ⟨b, 0, none⟩ (.int .i32 1)) w3) := hb3; clear hb3) | (go_at_call 53; refine (okeep_yes l (.slice a l.length c) x f b room _ h9 (((unhide HB3).block b (by simpa using hbl)).trans (unhide HB)) (owns_all (unhide HO) (unhide HB3)) (unhide H3) hx1000 (unhide HRM)).mono ?_; rintro e w4 ⟨rfl, v4, hp4⟩))
      refine leaves_cons (f := 44) (args := #[.pointer (some ⟨b, 0, none⟩)]) (by simp) (by simp [go_sem]) ?_
      refine (unlock_deferred muLib ⟨b, 0, none⟩ .returning _ ?_ ?_).mono ?_
      · exact blk_cell hp4.blk rfl
      · exact blk_frozen hp4.blk 0
      rintro e u' w'' ⟨rfl, rfl, rfl⟩
      refine ⟨_, results_tmp rfl _ _ _, ?_, ?_⟩
      · rw [unhide HL]; rfl
      · rw [unhide HL]; exact OvLeft.turn (unhide HR) (unhide HB3) (unhide H4) hp4
end Go.Proofs.YtomiepknmmpflaaGreatDoor
