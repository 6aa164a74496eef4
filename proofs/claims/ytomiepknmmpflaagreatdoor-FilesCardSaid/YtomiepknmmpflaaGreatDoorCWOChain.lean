/- The program's Chain. -/
import Derived.Test.YtomiepknmmpflaaGreatDoorCWNames
import Derived.Test.YtomiepknmmpflaaGreatDoorCWBacking
namespace Go.Proofs.YtomiepknmmpflaaGreatDoor
open Go.RowKit Go.Joins

namespace Ov
theorem down_ends {l : Files} (f : Nat) : ∀ {seen : List ByteArray} {x : ByteArray}, Met l seen → x ∉ seen → place l x < l.length → l.length ≤ seen.length + f →
    ((down l f seen x).2.1 = 0 → (down l f seen x).2.2 = ⟨#[]⟩) ∧ ((down l f seen x).2.1 ≠ 0 → (down l f seen x).1 = [] ∧ place l (down l f seen x).2.2 < l.length) := by
  induction f with
  | zero =>
    intro seen x h hx hp hf
    have := (h.snoc hx hp).length
    simp at this
    omega
  | succ f ih =>
    intro seen x h hx hp hf
    unfold down
    split
    · exact ⟨fun k => absurd k (by simp), fun _ => ⟨rfl, hp⟩⟩
    · split
      · exact ⟨fun _ => rfl, fun k => absurd rfl k⟩
      · split
        · exact ⟨fun k => absurd k (by simp), fun _ => ⟨rfl, hp⟩⟩
        · split
          · exact ⟨fun k => absurd k (by simp), fun _ => ⟨rfl, hp⟩⟩
          · rename_i _ _ hm hq
            exact ih (h.snoc hx hp) (fun k => hm (metB_iff.2 k)) (by simpa using hq) (by simp; omega)
theorem downOf_ends {l : Files} {x : ByteArray} (hp : place l x < l.length) : ((downOf l x).2.1 = 0 → (downOf l x).2.2 = ⟨#[]⟩) ∧ ((downOf l x).2.1 ≠ 0 → (downOf l x).1 = [] ∧ place l (downOf l x).2.2 < l.length) :=
  down_ends l.length (seen := []) ⟨List.nodup_nil, fun y hy => by cases hy⟩ (by simp) hp (by simp)
theorem nameB_pos {x : ByteArray} (h : nameB x = true) : 1 ≤ x.size := by
  unfold nameB isName at h
  simp only [Bool.and_eq_true, decide_eq_true_eq] at h
  simpa using h.1
theorem LI.name_pos {room : Nat} {l : Files} (h : LI room l) {x : ByteArray} (hx : place l x < l.length) : 1 ≤ x.size := by
  have := h.names _ hx
  rw [place_name hx] at this
  exact nameB_pos this
end Ov

open Go.MuLone in
set_option maxRecDepth 100000 in
set_option maxHeartbeats 1000000 in
theorem oChain_calls (l : Ov.Files) (x : ByteArray) (b B : Nat) (r : Option Nat) (room : Nat) (s0 s1 s2 s3 : Addr) (w : World) (hi : Ov.LI room l) (h : OvRep w b r room l) (hs : Sents w B s0 s1 s2 s3) (hB : B ≤ b) (hg4 : w.cell? ⟨4, 0, none⟩ = some (.iface 259 (.agg #[.pointer (some ⟨8, 80, none⟩)]))) :
    Calls Tryz.prog 17 #[.pointer (some ⟨b, 0, none⟩), .string x] w fun e w' => e = .returned (.tuple #[.string (Ov.chainF l x).1, .string (Ov.chainF l x).2.1, .int .i64 (Ov.chainF l x).2.2]) ∧ OvLeft w b r room l w' := by
  obtain ⟨v, h1, h2, h3, h4⟩ := id h
  have HR := hide h
  have c0 : w.cell? ⟨b, 0, none⟩ = some (.int .i32 0) := blk_cell h1 rfl
  have f0 := blk_frozen h1 0
  have hbl := blk_lt h1
  have HB := hide (blk_set_same (i := 0) h1 (.int .i32 1))
  have HC : Hid (ChainAt (w.setCell ⟨b, 0, none⟩ (.int .i32 1)) b B r room l s0 s1 s2 s3) := ⟨h.lock, hi, hs.kept ((Below.refl B w).setCell (p := ⟨b, 0, none⟩) hB (.int .i32 1))⟩
  have HG : Hid ((w.setCell ⟨b, 0, none⟩ (.int .i32 1)).cell? ⟨4, 0, none⟩ = some (.iface 259 (.agg #[.pointer (some ⟨8, 80, none⟩)]))) := (((Below.refl B w).setCell (p := ⟨b, 0, none⟩) hB (.int .i32 1)).cell (p := ⟨4, 0, none⟩) hs.l).trans hg4
  have hl4 := hs.l
  have hsz := hs.size
  clear h h1 h2 h3 h4 hs hg4
  by_cases hp : Ov.place l x < l.length
  · obtain ⟨e0, e1⟩ := Ov.downOf_ends hp
    have HP := hide hp
    by_cases hk : (Ov.downOf l x).2.1 = 0
    · have HD : Hid (Ov.chainF l x = (Ov.joinTo (Ov.downOf l x).1 (Ov.downOf l x).1.length, ⟨#[]⟩, 0)) := by unfold Ov.chainF; rw [if_pos hp, hk, e0 hk]; exact rfl
      have HK := hide hk
      have H8 : Hid (∀ y ∈ (Ov.downOf l x).1, 1 ≤ y.size ∧ y.size ≤ 8) := fun y hy => by
        have := Ov.down_here l.length (seen := []) (by simp) hp y hy
        exact ⟨hi.name_pos this, hi.name_size this⟩
      clear hp hk e0 e1 hi
      go_enter_defers Tryz.func17, Tryz.ntmps17
      go_wp2_with (first
        | (go_at_call 48; refine (ochainNames_calls l L cb r2 _ hch hL8 (by rw [hns]; exact unhide H8)).mono ?_; rw [hns]; rintro e w3 ⟨rfl, hb3⟩)
        | (go_at_call 45; refine (oopenChain_yes x _ b B r room l s0 s1 s2 s3 (unhide HC) (unhide HP) (unhide HK)).mono ?_; rintro e w2 ⟨hb2, cb, r2, L, rfl, hcb, hch, hns, hL8, hr2⟩)
        | (go_at_call 43; refine (lock_free muLib ⟨b, 0, none⟩ _ c0 f0).mono ?_; rintro e w1 ⟨rfl, rfl⟩))
      have hb5 := hb2.trans (hb3.mono hb2.size)
      refine leaves_cons (f := 44) (args := #[.pointer (some ⟨b, 0, none⟩)]) (by simp) (by simp [go_sem]) ?_
      refine (unlock_deferred muLib ⟨b, 0, none⟩ .returning _ ?_ ?_).mono ?_
      · exact (hb5.cell (p := ⟨b, 0, none⟩) (by simpa using hbl)).trans (blk_cell (unhide HB) rfl)
      · exact (hb5.frozen (p := ⟨b, 0, none⟩) (by simpa using hbl)).trans (blk_frozen (unhide HB) 0)
      rintro e u' w'' ⟨rfl, rfl, rfl⟩
      refine ⟨_, results_tmp3 rfl _ _ _, ?_, OvLeft.quiet (unhide HR) hb5⟩
      rw [unhide HD]; rfl
    · have HD : Hid (Ov.chainF l x = (⟨#[]⟩, (Ov.downOf l x).2.2, (Ov.downOf l x).2.1)) := by unfold Ov.chainF; rw [if_pos hp, (e1 hk).1]; exact rfl
      have HK := hide hk
      have H8 : Hid ((whOf (some (Ov.downOf l x).2.2)).size ≤ 1000) := Nat.le_trans (hi.name_size (e1 hk).2) (by omega)
      clear hp hk e0 e1 hi
      go_enter_defers Tryz.func17, Tryz.ntmps17
      go_wp2_with (first
        | (go_at_call 47; refine (oerrnoOf_calls s0 s1 s2 s3 eb (Ov.downOf l x).2.1 B ed (some (Ov.downOf l x).2.2) et ea _ hc2 (unhide HE3) (unhide HS3)).mono ?_; rintro e w4 ⟨rfl, rfl⟩)
        | (go_at_call 46; refine (owhereOf_calls eb ed (some (Ov.downOf l x).2.2) et ea _ (unhide HE2) (unhide H8) ((hb2.cell (p := ⟨4, 0, none⟩) (by show 4 < (w.setCell ⟨b, 0, none⟩ (.int .i32 1)).heap.size; simp; omega)).trans (unhide HG))).mono ?_; rintro e w3 ⟨rfl, hb3⟩; have HE3 := hide ((unhide HE2).kept hb3); have HS3 := hide (((unhide HC).se.keptAll hb2).keptAll hb3))
        | (go_at_call 45; refine (oopenChain_down x _ b B r room l s0 s1 s2 s3 (unhide HC) (unhide HP) (unhide HK)).mono ?_; rintro e w2 ⟨hb2, eb, ed, et, ea, rfl, he2, hc2⟩; have HE2 := hide he2; clear he2)
        | (go_at_call 43; refine (lock_free muLib ⟨b, 0, none⟩ _ c0 f0).mono ?_; rintro e w1 ⟨rfl, rfl⟩))
      have hb5 := hb2.trans (hb3.mono hb2.size)
      refine leaves_cons (f := 44) (args := #[.pointer (some ⟨b, 0, none⟩)]) (by simp) (by simp [go_sem]) ?_
      refine (unlock_deferred muLib ⟨b, 0, none⟩ .returning _ ?_ ?_).mono ?_
      · exact (hb5.cell (p := ⟨b, 0, none⟩) (by simpa using hbl)).trans (blk_cell (unhide HB) rfl)
      · exact (hb5.frozen (p := ⟨b, 0, none⟩) (by simpa using hbl)).trans (blk_frozen (unhide HB) 0)
      rintro e u' w'' ⟨rfl, rfl, rfl⟩
      refine ⟨_, results_tmp3 rfl _ _ _, ?_, OvLeft.quiet (unhide HR) hb5⟩
      rw [unhide HD]; rfl
  · have HP := hide hp
    have HD : Hid (Ov.chainF l x = (⟨#[]⟩, ⟨#[]⟩, 4)) := by unfold Ov.chainF; rw [if_neg hp]; exact rfl
    have H8 : Hid ((whOf none).size ≤ 1000) := Nat.zero_le _
    clear hp hi
    go_enter_defers Tryz.func17, Tryz.ntmps17
    go_wp2_with (first
      | (go_at_call 47; refine (oerrnoOf_calls s0 s1 s2 s3 eb 4 B ed none et ea _ hc2 (unhide HE3) (unhide HS3)).mono ?_; rintro e w4 ⟨rfl, rfl⟩)
      | (go_at_call 46; refine (owhereOf_calls eb ed none et ea _ (unhide HE2) (unhide H8) ((hb2.cell (p := ⟨4, 0, none⟩) (by show 4 < (w.setCell ⟨b, 0, none⟩ (.int .i32 1)).heap.size; simp; omega)).trans (unhide HG))).mono ?_; rintro e w3 ⟨rfl, hb3⟩; have HE3 := hide ((unhide HE2).kept hb3); have HS3 := hide (((unhide HC).se.keptAll hb2).keptAll hb3))
      | (go_at_call 45; refine (oopenChain_none x _ b B r room l s0 s1 s2 s3 (unhide HC) (unhide HP)).mono ?_; rintro e w2 ⟨hb2, eb, ed, et, ea, rfl, he2, hc2⟩; have HE2 := hide he2; clear he2)
      | (go_at_call 43; refine (lock_free muLib ⟨b, 0, none⟩ _ c0 f0).mono ?_; rintro e w1 ⟨rfl, rfl⟩))
    have hb5 := hb2.trans (hb3.mono hb2.size)
    refine leaves_cons (f := 44) (args := #[.pointer (some ⟨b, 0, none⟩)]) (by simp) (by simp [go_sem]) ?_
    refine (unlock_deferred muLib ⟨b, 0, none⟩ .returning _ ?_ ?_).mono ?_
    · exact (hb5.cell (p := ⟨b, 0, none⟩) (by simpa using hbl)).trans (blk_cell (unhide HB) rfl)
    · exact (hb5.frozen (p := ⟨b, 0, none⟩) (by simpa using hbl)).trans (blk_frozen (unhide HB) 0)
    rintro e u' w'' ⟨rfl, rfl, rfl⟩
    refine ⟨_, results_tmp3 rfl _ _ _, ?_, OvLeft.quiet (unhide HR) hb5⟩
    rw [unhide HD]; rfl

end Go.Proofs.YtomiepknmmpflaaGreatDoor
