/- The program's openDown, whole; openChain. -/
import Derived.Test.YtomiepknmmpflaaGreatDoorCWDownO
namespace Go.Proofs.YtomiepknmmpflaaGreatDoor
open Go.RowKit Go.Joins

theorem oopenDown_calls (b B cb : Nat) (r0 : Option Nat) (room : Nat) (l : Ov.Files) (s0 s1 s2 s3 : Addr) (f : Nat) : ∀ (x : ByteArray) (w : World) (r : Option Nat) (L : Ims), DownAt w b B cb r0 r room l L s0 s1 s2 s3 → Ov.place l x < l.length → x ∉ L.map Prod.fst → l.length ≤ L.length + f →
    ((Ov.down l f (L.map Prod.fst) x).2.1 = 0 → Calls Tryz.prog 81 #[.pointer (some ⟨b, 0, none⟩), .string x, .pointer (some ⟨cb, 0, none⟩)] w (DownYes l (Ov.down l f (L.map Prod.fst) x).1 cb r w)) ∧
    ((Ov.down l f (L.map Prod.fst) x).2.1 ≠ 0 → Calls Tryz.prog 81 #[.pointer (some ⟨b, 0, none⟩), .string x, .pointer (some ⟨cb, 0, none⟩)] w (DownNo s0 s1 s2 s3 (Ov.down l f (L.map Prod.fst) x).2.1 (Ov.down l f (L.map Prod.fst) x).2.2 cb r w)) := by
  induction f with
  | zero =>
    intro x w r L h hp hx hf
    have := (h.met.snoc hx hp).length
    simp at this
    omega
  | succ f ih =>
    intro x w r L h hp hx hf
    unfold Ov.down
    by_cases hi : Ov.isImage (Ov.fileAt l (Ov.place l x))
    · have hib := (Ov.imageB_iff _).2 hi
      rw [if_neg (by rw [hib]; decide)]
      by_cases hk : (Ov.backing (Ov.fileAt l (Ov.place l x))).size = 0
      · rw [if_pos hk]
        exact ⟨fun _ => odown_last x w b B cb r0 r room l L s0 s1 s2 s3 h hp hi hx hk, fun k => absurd rfl k⟩
      · rw [if_neg hk]
        by_cases hm : Ov.metB (L.map Prod.fst ++ [x]) (Ov.backing (Ov.fileAt l (Ov.place l x))) = true
        · rw [if_pos hm]
          exact ⟨fun k => absurd k (by simp), fun _ => odown_cycle x w b B cb r0 r room l L s0 s1 s2 s3 h hp hi hx hk hm⟩
        · rw [if_neg hm]
          have hm' : Ov.metB (L.map Prod.fst ++ [x]) (Ov.backing (Ov.fileAt l (Ov.place l x))) = false := by simpa using hm
          by_cases hq : Ov.place l (Ov.backing (Ov.fileAt l (Ov.place l x))) < l.length
          · rw [if_neg (by simpa using hq)]
            have hh : Ov.has l (Ov.backing (Ov.fileAt l (Ov.place l x))) = true := by unfold Ov.has; exact decide_eq_true hq
            have hnot : Ov.backing (Ov.fileAt l (Ov.place l x)) ∉ L.map Prod.fst ++ [x] := fun k => hm (Ov.metB_iff.2 k)
            have hlen : ∀ L' : Ims, L'.map Prod.fst = L.map Prod.fst ++ [x] → L'.length = L.length + 1 := fun L' e => by
              have := congrArg List.length e
              simpa using this
            refine ⟨fun k => odown_on x w b B cb r0 r room l L s0 s1 s2 s3 h hp hi hx hk hm' hh _ fun r' w' L' h' e => ?_, fun k => odown_up x w b B cb r0 r room l L s0 s1 s2 s3 h hp hi hx hk hm' hh _ _ fun r' w' L' h' e => ?_⟩
            · have := (ih (Ov.backing (Ov.fileAt l (Ov.place l x))) w' r' L' h' hq (by rw [e]; exact hnot) (by rw [hlen L' e]; omega)).1
              rw [e] at this
              exact this k
            · have := (ih (Ov.backing (Ov.fileAt l (Ov.place l x))) w' r' L' h' hq (by rw [e]; exact hnot) (by rw [hlen L' e]; omega)).2
              rw [e] at this
              exact this k
          · rw [if_pos (by simpa using hq)]
            have hh : Ov.has l (Ov.backing (Ov.fileAt l (Ov.place l x))) = false := by unfold Ov.has; exact decide_eq_false hq
            exact ⟨fun k => absurd k (by simp), fun _ => odown_missing x w b B cb r0 r room l L s0 s1 s2 s3 h hp hi hx hk hm' hh⟩
    · have hib : Ov.imageB (Ov.fileAt l (Ov.place l x)) = false := by
        rw [← Bool.not_eq_true]
        exact fun k => hi ((Ov.imageB_iff _).1 k)
      rw [if_pos hib]
      exact ⟨fun k => absurd k (by simp), fun _ => odown_bad x w b B cb r0 r room l L s0 s1 s2 s3 h hp hi⟩

/-- What openChain answers, and leaves. -/
structure ChainYes (l : Ov.Files) (ns : List ByteArray) (w : World) (e : Ending) (w' : World) : Prop where
  below : Below w.heap.size w w'
  ret : ∃ cb r L, e = .returned (.tuple #[.pointer (some ⟨cb, 0, none⟩), .nilIface]) ∧ w.heap.size ≤ cb ∧ Ch w' cb r l L ∧ L.map Prod.fst = ns ∧ L.length ≤ 8 ∧ (∀ k, r = some k → w.heap.size ≤ k)
structure ChainNo (s0 s1 s2 s3 : Addr) (n : Int) (wh : Option ByteArray) (w : World) (e : Ending) (w' : World) : Prop where
  below : Below w.heap.size w w'
  ret : ∃ b d t a, e = .returned (.tuple #[.pointer none, .iface t (.pointer (some a))]) ∧ Er w' b d wh t a ∧ Code s0 s1 s2 s3 b n

theorem ch_new (w : World) (l : Ov.Files) : Ch (w.alloc (.cells #[.slice none 0 0] 132)) w.heap.size none l [] :=
  ⟨⟨.slice none 0 0, blk_new _ _, World.ownsRow_nil _ _ _ _, rfl⟩, fun q hq => by cases hq⟩
/-- What stands when openChain is called. -/
structure ChainAt (w : World) (b B : Nat) (r0 : Option Nat) (room : Nat) (l : Ov.Files) (s0 s1 s2 s3 : Addr) : Prop where
  ov : OvAt 1 w b r0 room l
  li : Ov.LI room l
  se : Sents w B s0 s1 s2 s3
theorem ChainAt.kept {w w' : World} {b B : Nat} {r0 : Option Nat} {room : Nat} {l : Ov.Files} {s0 s1 s2 s3 : Addr} (h : ChainAt w b B r0 room l s0 s1 s2 s3) (hb : Below w.heap.size w w') : ChainAt w' b B r0 room l s0 s1 s2 s3 := ⟨h.ov.kept hb, h.li, h.se.keptAll hb⟩
theorem ChainAt.down {w : World} {b B : Nat} {r0 : Option Nat} {room : Nat} {l : Ov.Files} {s0 s1 s2 s3 : Addr} (h : ChainAt w b B r0 room l s0 s1 s2 s3) :
    DownAt (w.alloc (.cells #[.slice none 0 0] 132)) b B w.heap.size r0 none room l [] s0 s1 s2 s3 := by
  obtain ⟨v, o1, o2, o3, o4⟩ := h.ov
  exact ⟨h.ov.kept (below_alloc1 w _), h.li, h.se.keptAll (below_alloc1 w _), ch_new w l, ⟨List.nodup_nil, fun x hx => by cases hx⟩, h.se.size, blk_lt o1, fun k hk => by
    obtain ⟨c, hc⟩ := own_blk o2 (o4.trans hk)
    exact blk_lt hc, fun k hk => by cases hk⟩

set_option maxRecDepth 100000 in
set_option maxHeartbeats 1000000 in
theorem oopenChain_yes (x : ByteArray) (w : World) (b B : Nat) (r0 : Option Nat) (room : Nat) (l : Ov.Files) (s0 s1 s2 s3 : Addr) (h : ChainAt w b B r0 room l s0 s1 s2 s3) (hp : Ov.place l x < l.length) (hok : (Ov.downOf l x).2.1 = 0) :
    Calls Tryz.prog 45 #[.pointer (some ⟨b, 0, none⟩), .string x] w (ChainYes l (Ov.downOf l x).1 w) := by
  obtain ⟨v, o1, o2, _, _⟩ := id h.ov
  have c3 : w.cell? ⟨b, 3, none⟩ = some v := blk_cell o1 rfl
  have hbl := blk_lt o1
  have hl8 := h.li.len
  have hh : Ov.has l x = true := by unfold Ov.has; exact decide_eq_true hp
  have HO := hide o2
  have HH := hide h
  have HP := hide hp
  have HK := hide hok
  clear h o1 o2 hp hok
  go_enter Tryz.func45, Tryz.ntmps45
  go_wp2_with (first
    | (go_at_call 81; refine ((oopenDown_calls b B w1.heap.size r0 room l s0 s1 s2 s3 l.length x _ none [] (unhide HH1).down (unhide HP) (by simp) (by simp)).1 (unhide HK)).mono ?_; rintro e w2 hd2; obtain ⟨rfl, f2, L2, r2, h2, n2, q2⟩ := hd2)
    | (go_at_call 66; refine (oShas_calls l v x b 3 0 _ hl8 (unhide HO) c3 hbl).mono ?_; rintro e w1 ⟨rfl, hb1⟩; have HH1 := hide ((unhide HH).kept hb1)))
  go_ret2
  have hf2 : Below w1.heap.size w1 w2 := (below_alloc1 w1 _).trans (f2.below (fun k hk => by cases hk) (by simp))
  refine ⟨hb1.trans (hf2.mono hb1.size), _, r2, L2, rfl, hb1.size, h2, n2, ?_, fun k hk => ?_⟩
  · have := Ov.down_length (l := l) l.length (seen := []) (x := x)
    have e := congrArg List.length n2
    rw [List.length_map] at e
    rw [e]
    exact Nat.le_trans this (by simpa using hl8)
  · have z1 := hb1.size
    rcases q2 with q | q
    · rw [q] at hk; cases hk
    · have := q k hk
      simp at this; omega

set_option maxRecDepth 100000 in
set_option maxHeartbeats 1000000 in
theorem oopenChain_down (x : ByteArray) (w : World) (b B : Nat) (r0 : Option Nat) (room : Nat) (l : Ov.Files) (s0 s1 s2 s3 : Addr) (h : ChainAt w b B r0 room l s0 s1 s2 s3) (hp : Ov.place l x < l.length) (hok : (Ov.downOf l x).2.1 ≠ 0) :
    Calls Tryz.prog 45 #[.pointer (some ⟨b, 0, none⟩), .string x] w (ChainNo s0 s1 s2 s3 (Ov.downOf l x).2.1 (some (Ov.downOf l x).2.2) w) := by
  obtain ⟨v, o1, o2, _, _⟩ := id h.ov
  have c3 : w.cell? ⟨b, 3, none⟩ = some v := blk_cell o1 rfl
  have hbl := blk_lt o1
  have hl8 := h.li.len
  have hh : Ov.has l x = true := by unfold Ov.has; exact decide_eq_true hp
  have HO := hide o2
  have HH := hide h
  have HP := hide hp
  have HK := hide hok
  clear h o1 o2 hp hok
  go_enter Tryz.func45, Tryz.ntmps45
  go_wp2_with (first
    | (go_at_call 81; refine ((oopenDown_calls b B w1.heap.size r0 room l s0 s1 s2 s3 l.length x _ none [] (unhide HH1).down (unhide HP) (by simp) (by simp)).2 (unhide HK)).mono ?_; rintro e w2 hd2; obtain ⟨⟨eb, ed, et, ea, rfl, he2, hc2⟩, f2⟩ := hd2; have HE2 := hide he2; clear he2)
    | (go_at_call 66; refine (oShas_calls l v x b 3 0 _ hl8 (unhide HO) c3 hbl).mono ?_; rintro e w1 ⟨rfl, hb1⟩; have HH1 := hide ((unhide HH).kept hb1)))
  go_ret2
  have hf2 : Below w1.heap.size w1 w2 := (below_alloc1 w1 _).trans (f2.below (fun k hk => by cases hk) (by simp))
  exact ⟨hb1.trans (hf2.mono hb1.size), _, _, _, _, rfl, unhide HE2, hc2⟩

set_option maxRecDepth 100000 in
set_option maxHeartbeats 1000000 in
theorem oopenChain_none (x : ByteArray) (w : World) (b B : Nat) (r0 : Option Nat) (room : Nat) (l : Ov.Files) (s0 s1 s2 s3 : Addr) (h : ChainAt w b B r0 room l s0 s1 s2 s3) (hp : ¬ Ov.place l x < l.length) :
    Calls Tryz.prog 45 #[.pointer (some ⟨b, 0, none⟩), .string x] w (ChainNo s0 s1 s2 s3 4 none w) := by
  obtain ⟨v, o1, o2, _, _⟩ := id h.ov
  have c3 : w.cell? ⟨b, 3, none⟩ = some v := blk_cell o1 rfl
  have hbl := blk_lt o1
  have hl8 := h.li.len
  have hh : Ov.has l x = false := by unfold Ov.has; exact decide_eq_false hp
  have HO := hide o2
  have HH := hide h
  clear h o1 o2 hp
  go_enter Tryz.func45, Tryz.ntmps45
  go_wp2_with (go_at_call 66; refine (oShas_calls l v x b 3 0 _ hl8 (unhide HO) c3 hbl).mono ?_; rintro e w1 ⟨rfl, hb1⟩; have g0 := ((unhide HH).kept hb1).se.g0)
  go_region
  all_goals (go_wp2; go_ret2; exact ⟨hb1.drew, s0, 0, _, _, rfl, .bare, .none⟩)

end Go.Proofs.YtomiepknmmpflaaGreatDoor

/- The program's openBacking. -/
namespace Go.Proofs.YtomiepknmmpflaaGreatDoor
open Go.RowKit Go.Joins

set_option maxRecDepth 100000 in
set_option maxHeartbeats 1000000 in
theorem oopenBacking_none (bk : ByteArray) (b : Nat) (w : World) (h : bk.toList.isEmpty = true) :
    Calls Tryz.prog 72 #[.pointer (some ⟨b, 0, none⟩), .string bk] w fun e w' => e = .returned (.tuple #[.pointer (some ⟨w.heap.size, 0, none⟩), Value.nilIface]) ∧ w.alloc (.cells #[.slice none 0 0] 132) = w' := by
  go_enter Tryz.func72, Tryz.ntmps72
  go_wp2
  go_ret2
  exact ⟨rfl, rfl⟩
set_option maxRecDepth 100000 in
set_option maxHeartbeats 1000000 in
theorem oopenBacking_yes (bk : ByteArray) (b : Nat) (w : World) (l : Ov.Files) (ns : List ByteArray) (h : bk.toList.isEmpty = false) (hk : Calls Tryz.prog 45 #[.pointer (some ⟨b, 0, none⟩), .string bk] w (ChainYes l ns w)) :
    Calls Tryz.prog 72 #[.pointer (some ⟨b, 0, none⟩), .string bk] w (ChainYes l ns w) := by
  have HK := hide hk
  clear hk
  go_enter Tryz.func72, Tryz.ntmps72
  go_wp2_with (go_at_call 45; refine (unhide HK).mono ?_; rintro e w1 ⟨h1, cb, r2, L, rfl, h2⟩)
  go_ret2
  exact ⟨h1, cb, r2, L, rfl, h2⟩
set_option maxRecDepth 100000 in
set_option maxHeartbeats 1000000 in
theorem oopenBacking_no (bk : ByteArray) (b : Nat) (w : World) (s0 s1 s2 s3 : Addr) (n : Int) (wh : Option ByteArray) (h : bk.toList.isEmpty = false) (hk : Calls Tryz.prog 45 #[.pointer (some ⟨b, 0, none⟩), .string bk] w (ChainNo s0 s1 s2 s3 n wh w)) :
    Calls Tryz.prog 72 #[.pointer (some ⟨b, 0, none⟩), .string bk] w (ChainNo s0 s1 s2 s3 n wh w) := by
  have HK := hide hk
  clear hk
  go_enter Tryz.func72, Tryz.ntmps72
  go_wp2_with (go_at_call 45; refine (unhide HK).mono ?_; rintro e w1 ⟨h1, eb, ed, et, ea, rfl, h2, h3⟩)
  go_ret2
  exact ⟨h1, eb, ed, et, ea, rfl, h2, h3⟩

end Go.Proofs.YtomiepknmmpflaaGreatDoor
