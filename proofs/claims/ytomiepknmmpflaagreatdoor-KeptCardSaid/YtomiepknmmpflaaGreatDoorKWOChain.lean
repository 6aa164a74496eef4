/- The program's openDown, whole; openChain. -/
import Derived.Test.YtomiepknmmpflaaGreatDoorKWDownO
import Derived.Test.YtomiepknmmpflaaGreatDoorKWNames
namespace Go.Proofs.YtomiepknmmpflaaGreatDoor
open Go.RowKit Go.Joins

theorem oopenDown_calls (b B cb : Nat) (r0 : Option Nat) (room : Nat) (l : Ov.Files) (s0 s1 s2 s3 : Addr) (f : Nat) : ∀ (x : ByteArray) (w : World) (r : Option Nat) (L : Ims), DownAt w b B cb r0 r room l L s0 s1 s2 s3 → Ov.place l x < l.length → x ∉ L.map Prod.fst → l.length ≤ L.length + f →
    ((Ov.down l f (L.map Prod.fst) x).2.1 = 0 → Calls Tryz.prog 81 #[.pointer (some ⟨b, 0, none⟩), .string x, .pointer (some ⟨cb, 0, none⟩)] w (DownYes l (Ov.down l f (L.map Prod.fst) x).1 cb r w)) ∧
    ((Ov.down l f (L.map Prod.fst) x).2.1 ≠ 0 → Calls Tryz.prog 81 #[.pointer (some ⟨b, 0, none⟩), .string x, .pointer (some ⟨cb, 0, none⟩)] w (DownNo s0 s1 s2 s3 (Ov.down l f (L.map Prod.fst) x).2.1 (Ov.down l f (L.map Prod.fst) x).2.2 cb r w)) := by
  induction f with
  | zero =>
    intro x w r L h hp hx hf
    have := (h.met.snoc hx hp).length
    simp at this
    omega
  | succ f ih =>
    intro x w r L h hp hx hf
    unfold Ov.down
    by_cases hi : Ov.isImage (Ov.fileAt l (Ov.place l x))
    · have hib := (Ov.imageB_iff _).2 hi
      rw [if_neg (by rw [hib]; decide)]
      by_cases hk : (Ov.backing (Ov.fileAt l (Ov.place l x))).size = 0
      · rw [if_pos hk]
        exact ⟨fun _ => odown_last x w b B cb r0 r room l L s0 s1 s2 s3 h hp hi hx hk, fun k => absurd rfl k⟩
      · rw [if_neg hk]
        by_cases hm : Ov.metB (L.map Prod.fst ++ [x]) (Ov.backing (Ov.fileAt l (Ov.place l x))) = true
        · rw [if_pos hm]
          exact ⟨fun k => absurd k (by simp), fun _ => odown_cycle x w b B cb r0 r room l L s0 s1 s2 s3 h hp hi hx hk hm⟩
        · rw [if_neg hm]
          have hm' : Ov.metB (L.map Prod.fst ++ [x]) (Ov.backing (Ov.fileAt l (Ov.place l x))) = false := by simpa using hm
          by_cases hq : Ov.place l (Ov.backing (Ov.fileAt l (Ov.place l x))) < l.length
          · rw [if_neg (by simpa using hq)]
            have hh : Ov.has l (Ov.backing (Ov.fileAt l (Ov.place l x))) = true := by unfold Ov.has; exact decide_eq_true hq
            have hnot : Ov.backing (Ov.fileAt l (Ov.place l x)) ∉ L.map Prod.fst ++ [x] := fun k => hm (Ov.metB_iff.2 k)
            have hlen : ∀ L' : Ims, L'.map Prod.fst = L.map Prod.fst ++ [x] → L'.length = L.length + 1 := fun L' e => by
              have := congrArg List.length e
              simpa using this
            refine ⟨fun k => odown_on x w b B cb r0 r room l L s0 s1 s2 s3 h hp hi hx hk hm' hh _ fun r' w' L' h' e => ?_, fun k => odown_up x w b B cb r0 r room l L s0 s1 s2 s3 h hp hi hx hk hm' hh _ _ fun r' w' L' h' e => ?_⟩
            · have := (ih (Ov.backing (Ov.fileAt l (Ov.place l x))) w' r' L' h' hq (by rw [e]; exact hnot) (by rw [hlen L' e]; omega)).1
              rw [e] at this
              exact this k
            · have := (ih (Ov.backing (Ov.fileAt l (Ov.place l x))) w' r' L' h' hq (by rw [e]; exact hnot) (by rw [hlen L' e]; omega)).2
              rw [e] at this
              exact this k
          · rw [if_pos (by simpa using hq)]
            have hh : Ov.has l (Ov.backing (Ov.fileAt l (Ov.place l x))) = false := by unfold Ov.has; exact decide_eq_false hq
            exact ⟨fun k => absurd k (by simp), fun _ => odown_missing x w b B cb r0 r room l L s0 s1 s2 s3 h hp hi hx hk hm' hh⟩
    · have hib : Ov.imageB (Ov.fileAt l (Ov.place l x)) = false := by
        rw [← Bool.not_eq_true]
        exact fun k => hi ((Ov.imageB_iff _).1 k)
      rw [if_pos hib]
      exact ⟨fun k => absurd k (by simp), fun _ => odown_bad x w b B cb r0 r room l L s0 s1 s2 s3 h hp hi⟩

structure ChainYes (l : Ov.Files) (ns : List ByteArray) (w : World) (e : Ending) (w' : World) : Prop where
  below : Below w.heap.size w w'
  ret : ∃ cb r L, e = .returned (.tuple #[.pointer (some ⟨cb, 0, none⟩), .nilIface]) ∧ w.heap.size ≤ cb ∧ Ch w' cb r l L ∧ L.map Prod.fst = ns ∧ L.length ≤ 8 ∧ (∀ k, r = some k → w.heap.size ≤ k)
structure ChainNo (s0 s1 s2 s3 : Addr) (n : Int) (wh : Option ByteArray) (w : World) (e : Ending) (w' : World) : Prop where
  below : Below w.heap.size w w'
  ret : ∃ b d t a, e = .returned (.tuple #[.pointer none, .iface t (.pointer (some a))]) ∧ Er w' b d wh t a ∧ Code s0 s1 s2 s3 b n

theorem ch_new (w : World) (l : Ov.Files) : Ch (w.alloc (.cells #[.slice none 0 0] 132)) w.heap.size none l [] :=
  ⟨⟨.slice none 0 0, blk_new _ _, World.ownsRow_nil _ _ _ _, rfl⟩, fun q hq => by cases hq⟩
structure ChainAt (w : World) (b B : Nat) (r0 : Option Nat) (room : Nat) (l : Ov.Files) (s0 s1 s2 s3 : Addr) : Prop where
  ov : OvAt 1 w b r0 room l
  li : Ov.LI room l
  se : Sents w B s0 s1 s2 s3
theorem ChainAt.kept {w w' : World} {b B : Nat} {r0 : Option Nat} {room : Nat} {l : Ov.Files} {s0 s1 s2 s3 : Addr} (h : ChainAt w b B r0 room l s0 s1 s2 s3) (hb : Below w.heap.size w w') : ChainAt w' b B r0 room l s0 s1 s2 s3 := ⟨h.ov.kept hb, h.li, h.se.keptAll hb⟩
theorem ChainAt.down {w : World} {b B : Nat} {r0 : Option Nat} {room : Nat} {l : Ov.Files} {s0 s1 s2 s3 : Addr} (h : ChainAt w b B r0 room l s0 s1 s2 s3) :
    DownAt (w.alloc (.cells #[.slice none 0 0] 132)) b B w.heap.size r0 none room l [] s0 s1 s2 s3 := by
  obtain ⟨v, o1, o2, o3, o4⟩ := h.ov
  exact ⟨h.ov.kept (below_alloc1 w _), h.li, h.se.keptAll (below_alloc1 w _), ch_new w l, ⟨List.nodup_nil, fun x hx => by cases hx⟩, h.se.size, blk_lt o1, fun k hk => by
    obtain ⟨c, hc⟩ := own_blk o2 (o4.trans hk)
    exact blk_lt hc, fun k hk => by cases hk⟩

set_option maxRecDepth 100000 in
set_option maxHeartbeats 1000000 in
theorem oopenChain_yes (x : ByteArray) (w : World) (b B : Nat) (r0 : Option Nat) (room : Nat) (l : Ov.Files) (s0 s1 s2 s3 : Addr) (h : ChainAt w b B r0 room l s0 s1 s2 s3) (hp : Ov.place l x < l.length) (hok : (Ov.downOf l x).2.1 = 0) :
    Calls Tryz.prog 45 #[.pointer (some ⟨b, 0, none⟩), .string x] w (ChainYes l (Ov.downOf l x).1 w) := by
  obtain ⟨v, o1, o2, _, _⟩ := id h.ov
  have c3 : w.cell? ⟨b, 3, none⟩ = some v := blk_cell o1 rfl
  have hbl := blk_lt o1
  have hl8 := h.li.len
  have hh : Ov.has l x = true := by unfold Ov.has; exact decide_eq_true hp
  have HO := hide o2
  have HH := hide h
  have HP := hide hp
  have HK := hide hok
  clear h o1 o2 hp hok
  go_enter Tryz.func45, Tryz.ntmps45
  go_wp2_with (first
    | (go_at_call 81; refine ((oopenDown_calls b B w1.heap.size r0 room l s0 s1 s2 s3 l.length x _ none [] (unhide HH1).down (unhide HP) (by simp) (by simp)).1 (unhide HK)).mono ?_; rintro e w2 hd2; obtain ⟨rfl, f2, L2, r2, h2, n2, q2⟩ := hd2)
    | (go_at_call 66; refine (oShas_calls l v x b 3 0 _ hl8 (unhide HO) c3 hbl).mono ?_; rintro e w1 ⟨rfl, hb1⟩; have HH1 := hide ((unhide HH).kept hb1)))
  go_ret2
  have hf2 : Below w1.heap.size w1 w2 := (below_alloc1 w1 _).trans (f2.below (fun k hk => by cases hk) (by simp))
  refine ⟨hb1.trans (hf2.mono hb1.size), _, r2, L2, rfl, hb1.size, h2, n2, ?_, fun k hk => ?_⟩
  · have := Ov.down_length (l := l) l.length (seen := []) (x := x)
    have e := congrArg List.length n2
    rw [List.length_map] at e
    rw [e]
    exact Nat.le_trans this (by simpa using hl8)
  · have z1 := hb1.size
    rcases q2 with q | q
    · rw [q] at hk; cases hk
    · have := q k hk
      simp at this; omega

set_option maxRecDepth 100000 in
set_option maxHeartbeats 1000000 in
theorem oopenChain_down (x : ByteArray) (w : World) (b B : Nat) (r0 : Option Nat) (room : Nat) (l : Ov.Files) (s0 s1 s2 s3 : Addr) (h : ChainAt w b B r0 room l s0 s1 s2 s3) (hp : Ov.place l x < l.length) (hok : (Ov.downOf l x).2.1 ≠ 0) :
    Calls Tryz.prog 45 #[.pointer (some ⟨b, 0, none⟩), .string x] w (ChainNo s0 s1 s2 s3 (Ov.downOf l x).2.1 (some (Ov.downOf l x).2.2) w) := by
  obtain ⟨v, o1, o2, _, _⟩ := id h.ov
  have c3 : w.cell? ⟨b, 3, none⟩ = some v := blk_cell o1 rfl
  have hbl := blk_lt o1
  have hl8 := h.li.len
  have hh : Ov.has l x = true := by unfold Ov.has; exact decide_eq_true hp
  have HO := hide o2
  have HH := hide h
  have HP := hide hp
  have HK := hide hok
  clear h o1 o2 hp hok
  go_enter Tryz.func45, Tryz.ntmps45
  go_wp2_with (first
    | (go_at_call 81; refine ((oopenDown_calls b B w1.heap.size r0 room l s0 s1 s2 s3 l.length x _ none [] (unhide HH1).down (unhide HP) (by simp) (by simp)).2 (unhide HK)).mono ?_; rintro e w2 hd2; obtain ⟨⟨eb, ed, et, ea, rfl, he2, hc2⟩, f2⟩ := hd2; have HE2 := hide he2; clear he2)
    | (go_at_call 66; refine (oShas_calls l v x b 3 0 _ hl8 (unhide HO) c3 hbl).mono ?_; rintro e w1 ⟨rfl, hb1⟩; have HH1 := hide ((unhide HH).kept hb1)))
  go_ret2
  have hf2 : Below w1.heap.size w1 w2 := (below_alloc1 w1 _).trans (f2.below (fun k hk => by cases hk) (by simp))
  exact ⟨hb1.trans (hf2.mono hb1.size), _, _, _, _, rfl, unhide HE2, hc2⟩

set_option maxRecDepth 100000 in
set_option maxHeartbeats 1000000 in
theorem oopenChain_none (x : ByteArray) (w : World) (b B : Nat) (r0 : Option Nat) (room : Nat) (l : Ov.Files) (s0 s1 s2 s3 : Addr) (h : ChainAt w b B r0 room l s0 s1 s2 s3) (hp : ¬ Ov.place l x < l.length) :
    Calls Tryz.prog 45 #[.pointer (some ⟨b, 0, none⟩), .string x] w (ChainNo s0 s1 s2 s3 4 none w) := by
  obtain ⟨v, o1, o2, _, _⟩ := id h.ov
  have c3 : w.cell? ⟨b, 3, none⟩ = some v := blk_cell o1 rfl
  have hbl := blk_lt o1
  have hl8 := h.li.len
  have hh : Ov.has l x = false := by unfold Ov.has; exact decide_eq_false hp
  have HO := hide o2
  have HH := hide h
  clear h o1 o2 hp
  go_enter Tryz.func45, Tryz.ntmps45
  go_wp2_with (go_at_call 66; refine (oShas_calls l v x b 3 0 _ hl8 (unhide HO) c3 hbl).mono ?_; rintro e w1 ⟨rfl, hb1⟩; have g0 := ((unhide HH).kept hb1).se.g0)
  go_region
  all_goals (go_wp2; go_ret2; exact ⟨hb1.drew, s0, 0, _, _, rfl, .bare, .none⟩)

end Go.Proofs.YtomiepknmmpflaaGreatDoor

namespace Go.Proofs.YtomiepknmmpflaaGreatDoor
open Go.RowKit Go.Joins

set_option maxRecDepth 100000 in
set_option maxHeartbeats 1000000 in
theorem oopenBacking_none (bk : ByteArray) (b : Nat) (w : World) (h : bk.toList.isEmpty = true) :
    Calls Tryz.prog 72 #[.pointer (some ⟨b, 0, none⟩), .string bk] w fun e w' => e = .returned (.tuple #[.pointer (some ⟨w.heap.size, 0, none⟩), Value.nilIface]) ∧ w.alloc (.cells #[.slice none 0 0] 132) = w' := by
  go_enter Tryz.func72, Tryz.ntmps72
  go_wp2
  go_ret2
  exact ⟨rfl, rfl⟩
set_option maxRecDepth 100000 in
set_option maxHeartbeats 1000000 in
theorem oopenBacking_yes (bk : ByteArray) (b : Nat) (w : World) (l : Ov.Files) (ns : List ByteArray) (h : bk.toList.isEmpty = false) (hk : Calls Tryz.prog 45 #[.pointer (some ⟨b, 0, none⟩), .string bk] w (ChainYes l ns w)) :
    Calls Tryz.prog 72 #[.pointer (some ⟨b, 0, none⟩), .string bk] w (ChainYes l ns w) := by
  have HK := hide hk
  clear hk
  go_enter Tryz.func72, Tryz.ntmps72
  go_wp2_with (go_at_call 45; refine (unhide HK).mono ?_; rintro e w1 ⟨h1, cb, r2, L, rfl, h2⟩)
  go_ret2
  exact ⟨h1, cb, r2, L, rfl, h2⟩
set_option maxRecDepth 100000 in
set_option maxHeartbeats 1000000 in
theorem oopenBacking_no (bk : ByteArray) (b : Nat) (w : World) (s0 s1 s2 s3 : Addr) (n : Int) (wh : Option ByteArray) (h : bk.toList.isEmpty = false) (hk : Calls Tryz.prog 45 #[.pointer (some ⟨b, 0, none⟩), .string bk] w (ChainNo s0 s1 s2 s3 n wh w)) :
    Calls Tryz.prog 72 #[.pointer (some ⟨b, 0, none⟩), .string bk] w (ChainNo s0 s1 s2 s3 n wh w) := by
  have HK := hide hk
  clear hk
  go_enter Tryz.func72, Tryz.ntmps72
  go_wp2_with (go_at_call 45; refine (unhide HK).mono ?_; rintro e w1 ⟨h1, eb, ed, et, ea, rfl, h2, h3⟩)
  go_ret2
  exact ⟨h1, eb, ed, et, ea, rfl, h2, h3⟩

end Go.Proofs.YtomiepknmmpflaaGreatDoor

namespace Go.Proofs.YtomiepknmmpflaaGreatDoor
open Go.RowKit Go.Joins

namespace Ov
theorem down_ends {l : Files} (f : Nat) : ∀ {seen : List ByteArray} {x : ByteArray}, Met l seen → x ∉ seen → place l x < l.length → l.length ≤ seen.length + f →
    ((down l f seen x).2.1 = 0 → (down l f seen x).2.2 = ⟨#[]⟩) ∧ ((down l f seen x).2.1 ≠ 0 → (down l f seen x).1 = [] ∧ place l (down l f seen x).2.2 < l.length) := by
  induction f with
  | zero =>
    intro seen x h hx hp hf
    have := (h.snoc hx hp).length
    simp at this
    omega
  | succ f ih =>
    intro seen x h hx hp hf
    unfold down
    split
    · exact ⟨fun k => absurd k (by simp), fun _ => ⟨rfl, hp⟩⟩
    · split
      · exact ⟨fun _ => rfl, fun k => absurd rfl k⟩
      · split
        · exact ⟨fun k => absurd k (by simp), fun _ => ⟨rfl, hp⟩⟩
        · split
          · exact ⟨fun k => absurd k (by simp), fun _ => ⟨rfl, hp⟩⟩
          · rename_i _ _ hm hq
            exact ih (h.snoc hx hp) (fun k => hm (metB_iff.2 k)) (by simpa using hq) (by simp; omega)
theorem downOf_ends {l : Files} {x : ByteArray} (hp : place l x < l.length) : ((downOf l x).2.1 = 0 → (downOf l x).2.2 = ⟨#[]⟩) ∧ ((downOf l x).2.1 ≠ 0 → (downOf l x).1 = [] ∧ place l (downOf l x).2.2 < l.length) :=
  down_ends l.length (seen := []) ⟨List.nodup_nil, fun y hy => by cases hy⟩ (by simp) hp (by simp)
theorem nameB_pos {x : ByteArray} (h : nameB x = true) : 1 ≤ x.size := by
  unfold nameB isName at h
  simp only [Bool.and_eq_true, decide_eq_true_eq] at h
  simpa using h.1
theorem LI.name_pos {room : Nat} {l : Files} (h : LI room l) {x : ByteArray} (hx : place l x < l.length) : 1 ≤ x.size := by
  have := h.names _ hx
  rw [place_name hx] at this
  exact nameB_pos this
end Ov

open Go.MuLone in
set_option maxRecDepth 100000 in
set_option maxHeartbeats 1000000 in
theorem oChain_calls (l : Ov.Files) (x : ByteArray) (b B : Nat) (r : Option Nat) (room : Nat) (s0 s1 s2 s3 : Addr) (w : World) (hi : Ov.LI room l) (h : OvRep w b r room l) (hs : Sents w B s0 s1 s2 s3) (hB : B ≤ b) (hg4 : w.cell? ⟨4, 0, none⟩ = some (.iface 259 (.agg #[.pointer (some ⟨8, 80, none⟩)]))) :
    Calls Tryz.prog 17 #[.pointer (some ⟨b, 0, none⟩), .string x] w fun e w' => e = .returned (.tuple #[.string (Ov.chainF l x).1, .string (Ov.chainF l x).2.1, .int .i64 (Ov.chainF l x).2.2]) ∧ OvLeft w b r room l w' := by
  obtain ⟨v, h1, h2, h3, h4⟩ := id h
  have HR := hide h
  have c0 : w.cell? ⟨b, 0, none⟩ = some (.int .i32 0) := blk_cell h1 rfl
  have f0 := blk_frozen h1 0
  have hbl := blk_lt h1
  have HB := hide (blk_set_same (i := 0) h1 (.int .i32 1))
  have HC : Hid (ChainAt (w.setCell ⟨b, 0, none⟩ (.int .i32 1)) b B r room l s0 s1 s2 s3) := ⟨h.lock, hi, hs.kept ((Below.refl B w).setCell (p := ⟨b, 0, none⟩) hB (.int .i32 1))⟩
  have HG : Hid ((w.setCell ⟨b, 0, none⟩ (.int .i32 1)).cell? ⟨4, 0, none⟩ = some (.iface 259 (.agg #[.pointer (some ⟨8, 80, none⟩)]))) := (((Below.refl B w).setCell (p := ⟨b, 0, none⟩) hB (.int .i32 1)).cell (p := ⟨4, 0, none⟩) hs.l).trans hg4
  have hl4 := hs.l
  have hsz := hs.size
  clear h h1 h2 h3 h4 hs hg4
  by_cases hp : Ov.place l x < l.length
  · obtain ⟨e0, e1⟩ := Ov.downOf_ends hp
    have HP := hide hp
    by_cases hk : (Ov.downOf l x).2.1 = 0
    · have HD : Hid (Ov.chainF l x = (Ov.joinTo (Ov.downOf l x).1 (Ov.downOf l x).1.length, ⟨#[]⟩, 0)) := by unfold Ov.chainF; rw [if_pos hp, hk, e0 hk]; exact rfl
      have HK := hide hk
      have H8 : Hid (∀ y ∈ (Ov.downOf l x).1, 1 ≤ y.size ∧ y.size ≤ 8) := fun y hy => by
        have := Ov.down_here l.length (seen := []) (by simp) hp y hy
        exact ⟨hi.name_pos this, hi.name_size this⟩
      clear hp hk e0 e1 hi
      go_enter_defers Tryz.func17, Tryz.ntmps17
      go_wp2_with (first
        | (go_at_call 48; refine (ochainNames_calls l L cb r2 _ hch hL8 (by rw [hns]; exact unhide H8)).mono ?_; rw [hns]; rintro e w3 ⟨rfl, hb3⟩)
        | (go_at_call 45; refine (oopenChain_yes x _ b B r room l s0 s1 s2 s3 (unhide HC) (unhide HP) (unhide HK)).mono ?_; rintro e w2 ⟨hb2, cb, r2, L, rfl, hcb, hch, hns, hL8, hr2⟩)
        | (go_at_call 43; refine (lock_free muLib ⟨b, 0, none⟩ _ c0 f0).mono ?_; rintro e w1 ⟨rfl, rfl⟩))
      have hb5 := hb2.trans (hb3.mono hb2.size)
      refine leaves_cons (f := 44) (args := #[.pointer (some ⟨b, 0, none⟩)]) (by simp) (by simp [go_sem]) ?_
      refine (unlock_deferred muLib ⟨b, 0, none⟩ .returning _ ?_ ?_).mono ?_
      · exact (hb5.cell (p := ⟨b, 0, none⟩) (by simpa using hbl)).trans (blk_cell (unhide HB) rfl)
      · exact (hb5.frozen (p := ⟨b, 0, none⟩) (by simpa using hbl)).trans (blk_frozen (unhide HB) 0)
      rintro e u' w'' ⟨rfl, rfl, rfl⟩
      refine ⟨_, results_tmp3 rfl _ _ _, ?_, OvLeft.quiet (unhide HR) hb5⟩
      rw [unhide HD]; rfl
    · have HD : Hid (Ov.chainF l x = (⟨#[]⟩, (Ov.downOf l x).2.2, (Ov.downOf l x).2.1)) := by unfold Ov.chainF; rw [if_pos hp, (e1 hk).1]; exact rfl
      have HK := hide hk
      have H8 : Hid ((whOf (some (Ov.downOf l x).2.2)).size ≤ 1000) := Nat.le_trans (hi.name_size (e1 hk).2) (by omega)
      clear hp hk e0 e1 hi
      go_enter_defers Tryz.func17, Tryz.ntmps17
      go_wp2_with (first
        | (go_at_call 47; refine (oerrnoOf_calls s0 s1 s2 s3 eb (Ov.downOf l x).2.1 B ed (some (Ov.downOf l x).2.2) et ea _ hc2 (unhide HE3) (unhide HS3)).mono ?_; rintro e w4 ⟨rfl, rfl⟩)
        | (go_at_call 46; refine (owhereOf_calls eb ed (some (Ov.downOf l x).2.2) et ea _ (unhide HE2) (unhide H8) ((hb2.cell (p := ⟨4, 0, none⟩) (by show 4 < (w.setCell ⟨b, 0, none⟩ (.int .i32 1)).heap.size; simp; omega)).trans (unhide HG))).mono ?_; rintro e w3 ⟨rfl, hb3⟩; have HE3 := hide ((unhide HE2).kept hb3); have HS3 := hide (((unhide HC).se.keptAll hb2).keptAll hb3))
        | (go_at_call 45; refine (oopenChain_down x _ b B r room l s0 s1 s2 s3 (unhide HC) (unhide HP) (unhide HK)).mono ?_; rintro e w2 ⟨hb2, eb, ed, et, ea, rfl, he2, hc2⟩; have HE2 := hide he2; clear he2)
        | (go_at_call 43; refine (lock_free muLib ⟨b, 0, none⟩ _ c0 f0).mono ?_; rintro e w1 ⟨rfl, rfl⟩))
      have hb5 := hb2.trans (hb3.mono hb2.size)
      refine leaves_cons (f := 44) (args := #[.pointer (some ⟨b, 0, none⟩)]) (by simp) (by simp [go_sem]) ?_
      refine (unlock_deferred muLib ⟨b, 0, none⟩ .returning _ ?_ ?_).mono ?_
      · exact (hb5.cell (p := ⟨b, 0, none⟩) (by simpa using hbl)).trans (blk_cell (unhide HB) rfl)
      · exact (hb5.frozen (p := ⟨b, 0, none⟩) (by simpa using hbl)).trans (blk_frozen (unhide HB) 0)
      rintro e u' w'' ⟨rfl, rfl, rfl⟩
      refine ⟨_, results_tmp3 rfl _ _ _, ?_, OvLeft.quiet (unhide HR) hb5⟩
      rw [unhide HD]; rfl
  · have HP := hide hp
    have HD : Hid (Ov.chainF l x = (⟨#[]⟩, ⟨#[]⟩, 4)) := by unfold Ov.chainF; rw [if_neg hp]; exact rfl
    have H8 : Hid ((whOf none).size ≤ 1000) := Nat.zero_le _
    clear hp hi
    go_enter_defers Tryz.func17, Tryz.ntmps17
    go_wp2_with (first
      | (go_at_call 47; refine (oerrnoOf_calls s0 s1 s2 s3 eb 4 B ed none et ea _ hc2 (unhide HE3) (unhide HS3)).mono ?_; rintro e w4 ⟨rfl, rfl⟩)
      | (go_at_call 46; refine (owhereOf_calls eb ed none et ea _ (unhide HE2) (unhide H8) ((hb2.cell (p := ⟨4, 0, none⟩) (by show 4 < (w.setCell ⟨b, 0, none⟩ (.int .i32 1)).heap.size; simp; omega)).trans (unhide HG))).mono ?_; rintro e w3 ⟨rfl, hb3⟩; have HE3 := hide ((unhide HE2).kept hb3); have HS3 := hide (((unhide HC).se.keptAll hb2).keptAll hb3))
      | (go_at_call 45; refine (oopenChain_none x _ b B r room l s0 s1 s2 s3 (unhide HC) (unhide HP)).mono ?_; rintro e w2 ⟨hb2, eb, ed, et, ea, rfl, he2, hc2⟩; have HE2 := hide he2; clear he2)
      | (go_at_call 43; refine (lock_free muLib ⟨b, 0, none⟩ _ c0 f0).mono ?_; rintro e w1 ⟨rfl, rfl⟩))
    have hb5 := hb2.trans (hb3.mono hb2.size)
    refine leaves_cons (f := 44) (args := #[.pointer (some ⟨b, 0, none⟩)]) (by simp) (by simp [go_sem]) ?_
    refine (unlock_deferred muLib ⟨b, 0, none⟩ .returning _ ?_ ?_).mono ?_
    · exact (hb5.cell (p := ⟨b, 0, none⟩) (by simpa using hbl)).trans (blk_cell (unhide HB) rfl)
    · exact (hb5.frozen (p := ⟨b, 0, none⟩) (by simpa using hbl)).trans (blk_frozen (unhide HB) 0)
    rintro e u' w'' ⟨rfl, rfl, rfl⟩
    refine ⟨_, results_tmp3 rfl _ _ _, ?_, OvLeft.quiet (unhide HR) hb5⟩
    rw [unhide HD]; rfl

end Go.Proofs.YtomiepknmmpflaaGreatDoor

