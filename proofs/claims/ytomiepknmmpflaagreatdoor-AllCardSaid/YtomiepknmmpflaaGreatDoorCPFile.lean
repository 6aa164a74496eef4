/- The walks of the reference's sound and Chain. -/
import Derived.Test.YtomiepknmmpflaaGreatDoorCPParse
import Derived.Test.YtomiepknmmpflaaGreatDoorCWDown
import Derived.Deep.CutRange
import Derived.Test.YtomiepknmmpflaaGreatDoorCWBuild
import Derived.Maps.AppendAt
import Derived.Handy
namespace Go.Proofs.YtomiepknmmpflaaGreatDoor
open Go.RowKit Go.Joins

set_option maxRecDepth 100000 in
set_option maxHeartbeats 400000 in
theorem rsound_calls (l : Ov.Files) (x : ByteArray) (b room : Nat) (w : World) (hi : Ov.LI room l) (h : RefRep w b room l) :
    Calls Tryz.prog 164 #[.pointer (some ⟨b, 0, none⟩), .string x] w fun e w' => e = .returned (.int .i64 (Ov.soundF l x)) ∧ Below w.heap.size w w' := by
  obtain ⟨v, h1, h2, h3⟩ := h
  obtain ⟨a, c, rfl⟩ := owns_slice h2
  have c1 : w.cell? ⟨b, 1, none⟩ = some (.slice a l.length c) := blk_cell h1 rfl
  have HO := hide h2
  have HI := hide hi
  have hl8 := hi.len
  clear h1 h2 h3 hi
  by_cases hp : Ov.place l x < l.length
  · have hfd : Ov.find l x = (Ov.place l x : Int) := Ov.find_yes hp
    have HL : Hid (Ov.soundF l x = (Ov.downOf l x).2.1) := by unfold Ov.soundF; rw [if_pos hp]; exact rfl
    go_enter Tryz.func164, Tryz.ntmps164
    go_wp2_with (first | (go_at_call 166; refine (rFind_calls l _ x 0 _ hl8 (unhide HO)).mono ?_; rintro e w' ⟨rfl, rfl⟩) | (go_at_call 165; refine (rDown_calls l _ x 0 _ hl8 (unhide HO) (unhide HI).size hp).mono ?_; rintro e w1 ⟨nv, rfl, hb1, hn1⟩))
    go_ret
    exact ⟨by rw [unhide HL]; rfl, hb1⟩
  · have hfd : Ov.find l x = -1 := Ov.find_no hp
    have HL : Hid (Ov.soundF l x = 4) := by unfold Ov.soundF; rw [if_neg hp]; exact rfl
    go_enter Tryz.func164, Tryz.ntmps164
    go_wp2_with (go_at_call 166; refine (rFind_calls l _ x 0 _ hl8 (unhide HO)).mono ?_; rintro e w' ⟨rfl, rfl⟩)
    go_ret
    exact ⟨by rw [unhide HL]; rfl, Below.refl _ _⟩

set_option maxRecDepth 100000 in
set_option maxHeartbeats 400000 in
theorem rChain_calls (l : Ov.Files) (x : ByteArray) (b room : Nat) (w : World) (hi : Ov.LI room l) (h : RefRep w b room l) :
    Calls Tryz.prog 122 #[.pointer (some ⟨b, 0, none⟩), .string x] w fun e w' => e = .returned (.tuple #[.string (Ov.chainF l x).1, .string (Ov.chainF l x).2.1, .int .i64 (Ov.chainF l x).2.2]) ∧ Below w.heap.size w w' := by
  obtain ⟨v, h1, h2, h3⟩ := h
  obtain ⟨a, c, rfl⟩ := owns_slice h2
  have c1 : w.cell? ⟨b, 1, none⟩ = some (.slice a l.length c) := blk_cell h1 rfl
  have HO := hide h2
  have HI := hide hi
  have hl8 := hi.len
  clear h1 h2 h3 hi
  by_cases hp : Ov.place l x < l.length
  · have hfd : Ov.find l x = (Ov.place l x : Int) := Ov.find_yes hp
    have HL : Hid (Ov.chainF l x = (Ov.joinTo (Ov.downOf l x).1 (Ov.downOf l x).1.length, (Ov.downOf l x).2.2, (Ov.downOf l x).2.1)) := by unfold Ov.chainF; rw [if_pos hp]; exact rfl
    have HJ := hide (fun k hk => Ov.joinTo_size ((unhide HI).down_size hp) k hk)
    have HNS := hide ((unhide HI).down_size hp)
    have hdl : (Ov.downOf l x).1.length ≤ l.length := by have := Ov.down_length (l := l) l.length (seen := []) (x := x); unfold Ov.downOf; simpa using this
    go_enter Tryz.func122, Tryz.ntmps122
    go_wp2_with (first | (go_at_call 166; refine (rFind_calls l _ x 0 _ hl8 (unhide HO)).mono ?_; rintro e w' ⟨rfl, rfl⟩) | (go_at_call 165; refine (rDown_calls l _ x 0 _ hl8 (unhide HO) (unhide HI).size hp).mono ?_; rintro e w1 ⟨nv, rfl, hb1, hn1⟩; obtain ⟨na, nc, rfl⟩ := owns_slice hn1; have HN := hide hn1; have HB1 := hide hb1; clear hn1 hb1))
    generalize hD : (Ov.downOf l x).1 = ns at *
    go_loop [10, 11] (fun t i => ∃ k : Nat, k ≤ ns.length ∧ i = .int .i64 k ∧ t = .string (Ov.joinTo ns k)) (fun _ i => ns.length - (intOf i).toNat)
    case atStart => exact ⟨0, Nat.zero_le _, rfl, rfl⟩
    case round =>
      obtain ⟨k, hk, rfl, rfl⟩ := hrel
      have hjs := unhide HJ k hk
      by_cases hlt : k < ns.length
      · obtain ⟨g, cc, hv⟩ := ownsRow_form (unhide HN) (by omega)
        obtain ⟨rfl, rfl⟩ : na = some ⟨g, 0, none⟩ ∧ nc = cc := by simpa using hv
        have cn := texts_cell (unhide HN) hlt
        have hz8 : (ns.getD k ⟨#[]⟩).size ≤ 8 := by
          rw [List.getD_eq_getElem?_getD, List.getElem?_eq_getElem hlt]
          exact unhide HNS _ (List.getElem_mem hlt)
        obtain ⟨z, hz⟩ : ∃ z, ns.getD k ⟨#[]⟩ = z := ⟨_, rfl⟩
        rw [hz] at cn hz8
        have HZ := hide hz
        clear hv hz
        by_cases h0 : 0 < k
        · go_wp2
          go_round
          case rel => exact ⟨k + 1, by omega, by go_num, by rw [Ov.joinTo, if_pos h0, unhide HZ]⟩
          case measure => simp [intOf]; omega
        · go_wp2
          go_round
          case rel => exact ⟨k + 1, by omega, by go_num, by rw [Ov.joinTo, if_neg h0, unhide HZ]⟩
          case measure => simp [intOf]; omega
      · obtain rfl : k = ns.length := by omega
        go_wp2
        go_ret3
        exact ⟨by rw [unhide HL]; rfl, unhide HB1⟩
  · have hfd : Ov.find l x = -1 := Ov.find_no hp
    have HL : Hid (Ov.chainF l x = (⟨#[]⟩, ⟨#[]⟩, 4)) := by unfold Ov.chainF; rw [if_neg hp]; exact rfl
    go_enter Tryz.func122, Tryz.ntmps122
    go_wp2_with (go_at_call 166; refine (rFind_calls l _ x 0 _ hl8 (unhide HO)).mono ?_; rintro e w' ⟨rfl, rfl⟩)
    go_ret3
    exact ⟨by rw [unhide HL]; rfl, Below.refl _ _⟩

end Go.Proofs.YtomiepknmmpflaaGreatDoor

namespace Go.Proofs.YtomiepknmmpflaaGreatDoor
open Go.RowKit Go.Joins

structure MK (bk : ByteArray) (n : Nat) (w : World) (p : Value) (W : World) (X ge gb : Nat) : Prop where
  ptr : p = .pointer (some ⟨X, 0, none⟩)
  below : Below w.heap.size w W
  x : W.heap[X]? = some (.cells #[.string bk, .slice (some ⟨ge, 0, none⟩) n n, .slice (some ⟨gb, 0, none⟩) n n, .int .i64 0] 240 (0, 0))
  e : W.heap[ge]? = some (.cells (zInts n) 3 (0, 0))
  b : W.heap[gb]? = some (.cells (zTexts n) 9 (0, 0))

theorem make_below {w wc w2 w3 : World} (h1 : Below w.heap.size w wc) (h2 : Below wc.heap.size wc w2) (h3 : Below w2.heap.size w2 w3) : Below w.heap.size w w3 :=
  (h1.trans (h2.mono h1.size)).trans (h3.mono (Nat.le_trans h1.size h2.size))
theorem make_blk {w wc w2 w3 : World} {b : Nat} {o : Obj} (hb : w.heap[b]? = some o) (h1 : Below w.heap.size w wc) (h2 : Below wc.heap.size wc w2) (h3 : Below w2.heap.size w2 w3) : w3.heap[b]? = some o := by
  rw [(make_below h1 h2 h3).block b (blk_lt hb)]; exact hb
theorem make_own {w wc w2 w3 : World} {v : Value} {l : Ov.Files} (ho : OwnsFiles w3 w2.heap.size v l) (h1 : Below w.heap.size w wc) (h2 : Below wc.heap.size wc w2) : OwnsFiles w3 w.heap.size v l := ownsRow_le ho (Nat.le_trans h1.size h2.size)
theorem three0 (w : World) (A B C : Obj) : (((w.alloc A).alloc B).alloc C).drew.heap[w.heap.size]? = some A := by
  show (((w.alloc A).alloc B).alloc C).heap[w.heap.size]? = some A
  rw [Below.heap_alloc _ _ _ (by simp; omega), Below.heap_alloc _ _ _ (by simp)]
  show (w.heap.push A)[w.heap.size]? = some A
  simp
theorem three1 (w : World) (A B C : Obj) : (((w.alloc A).alloc B).alloc C).drew.heap[w.heap.size + 1]? = some B := by
  show (((w.alloc A).alloc B).alloc C).heap[w.heap.size + 1]? = some B
  rw [Below.heap_alloc _ _ _ (by simp)]
  show ((w.alloc A).heap.push B)[w.heap.size + 1]? = some B
  rw [Array.getElem?_push, if_pos (by simp)]
theorem three2 (w : World) (A B C : Obj) : (((w.alloc A).alloc B).alloc C).drew.heap[w.heap.size + 1 + 1]? = some C := by
  show (((w.alloc A).alloc B).heap.push C)[w.heap.size + 1 + 1]? = some C
  rw [Array.getElem?_push, if_pos (by simp)]

set_option maxRecDepth 100000 in
set_option maxHeartbeats 2000000 in
theorem rMake_tail (l : Ov.Files) (x bk : ByteArray) (n b room : Nat) (w : World) (hi : Ov.LI room l) (h : RefRep w b room l) (hn : Ov.nameB x = true) (hn1 : 1 ≤ n) (hn30 : n ≤ 30) (h8 : ((l.length : Int) == 8) = false) (hp : ¬ Ov.place l x < l.length) (hb0 : bk.toList.isEmpty = true) (hbk8 : bk.size ≤ 8) (hF : makeF room l x n bk = Ov.putF room l (Ov.withF l x (encode bk (noKinds n) (noBlocks n)))) :
    Calls Tryz.prog 121 #[.pointer (some ⟨b, 0, none⟩), .string x, .int .i64 n, .string bk] w fun e w' => e = .returned (.int .i64 (makeF room l x n bk).1) ∧ RefLeft w b room (makeF room l x n bk).2 w' := by
  obtain ⟨v, h1, h2, h3⟩ := id h
  have HR := hide h
  obtain ⟨a, c, rfl⟩ := owns_slice h2
  have c1 : w.cell? ⟨b, 1, none⟩ = some (.slice a l.length c) := blk_cell h1 rfl
  have HO := hide h2
  have HB := hide h1
  have HI := hide hi
  have hl8 := hi.len
  have hbl0 := blk_lt h1
  clear h h1 h2 h3 hi
  have hfd : Ov.find l x = -1 := Ov.find_no hp
  have hwl : (Ov.withF l x (encode bk (noKinds n) (noBlocks n))).length ≤ 9 := by rw [Ov.withF_length, if_neg hp]; omega
  have HWS := hide (Ov.withF_size (x := x) (b := encode bk (noKinds n) (noBlocks n)) (unhide HI).size (blank_size hbk8 hn30))
  have hroom := (unhide HI).room
  have HF := hide hF
  clear hF
  have mi := make_ints n hn30
  have mt := make_texts n hn30
  go_enter Tryz.func121, Tryz.ntmps121
  go_upto_region 12 with (first | (go_at_call 168; refine (rIsName_calls _ _).mono ?_; rintro e w' ⟨rfl, hw⟩; obtain rfl := hw.symm) | (go_at_call 166; refine (rFind_calls l _ x 0 _ hl8 (unhide HO)).mono ?_; rintro e w' ⟨rfl, rfl⟩))
  go_cut [11] from 45 (fun p W => ∃ X ge gb, MK bk n w p W X ge gb)
  case first =>
    go_region
    all_goals (go_wp2_with fail; go_meet)
    all_goals (clear mi mt)
    all_goals first
      | exact ⟨w.heap.size, w.heap.size + 1, w.heap.size + 1 + 1, rfl, (below_alloc3 w _ _ _).drew, three0 w _ _ _, three1 w _ _ _, three2 w _ _ _⟩
      | exact ⟨w.heap.size, w.heap.size + 1 + 1, w.heap.size + 1, rfl, (below_alloc3 w _ _ _).drew, three0 w _ _ _, three2 w _ _ _, three1 w _ _ _⟩
      | exact ⟨w.heap.size + 1, w.heap.size, w.heap.size + 1 + 1, rfl, (below_alloc3 w _ _ _).drew, three1 w _ _ _, three0 w _ _ _, three2 w _ _ _⟩
      | exact ⟨w.heap.size + 1, w.heap.size + 1 + 1, w.heap.size, rfl, (below_alloc3 w _ _ _).drew, three1 w _ _ _, three2 w _ _ _, three0 w _ _ _⟩
      | exact ⟨w.heap.size + 1 + 1, w.heap.size, w.heap.size + 1, rfl, (below_alloc3 w _ _ _).drew, three2 w _ _ _, three0 w _ _ _, three1 w _ _ _⟩
      | exact ⟨w.heap.size + 1 + 1, w.heap.size + 1, w.heap.size, rfl, (below_alloc3 w _ _ _).drew, three2 w _ _ _, three1 w _ _ _, three0 w _ _ _⟩
  case rest =>
    obtain ⟨X, ge, gb, hK⟩ := hcut
    obtain rfl := hK.ptr
    have HK := hide hK
    have x0 : wc.cell? ⟨X, 0, none⟩ = some (.string bk) := blk_cell hK.x rfl
    have x1 : wc.cell? ⟨X, 1, none⟩ = some (.slice (some ⟨ge, 0, none⟩) n n) := blk_cell hK.x rfl
    have x2 : wc.cell? ⟨X, 2, none⟩ = some (.slice (some ⟨gb, 0, none⟩) n n) := blk_cell hK.x rfl
    have x3 : wc.cell? ⟨X, 3, none⟩ = some (.int .i64 0) := blk_cell hK.x rfl
    have cb : wc.cell? ⟨b, 1, none⟩ = some (.slice a l.length c) := blk_cell ((hK.below.block b (blk_lt (unhide HB))).trans (unhide HB)) rfl
    have hn9 : n ≤ 30 := hn30
    have hbl : b < wc.heap.size := Nat.lt_of_lt_of_le hbl0 hK.below.size
    clear hK mi mt c1
    go_wp2_with fail
    go_region_with (first | (go_at_call 163; refine (rEncode_calls bk (noKinds n) (noBlocks n) (some ⟨ge, 0, none⟩) (some ⟨gb, 0, none⟩) n n 0 n 0 _ hbk8 hn9 (by exact owns_ints hn9 (Nat.zero_le _) (unhide HK).e) (by exact owns_texts hn9 (Nat.zero_le _) (unhide HK).b) (fun k _ => by rw [noKinds_getD]; omega) (fun k _ => by rw [noBlocks_getD]; exact Nat.zero_le _)).mono ?_; rintro e w2 ⟨rfl, hb2a⟩; have hb2 : Below wc.heap.size wc w2 := ((Below.refl wc.heap.size wc).drew).trans hb2a; have cb2 : w2.cell? ⟨b, 1, none⟩ = some (.slice a l.length c) := (hb2.cell (p := ⟨b, 1, none⟩) hbl).trans cb) | (go_at_call 162; refine (rwith_calls l _ x (encode bk (noKinds n) (noBlocks n)) 0 _ hl8 (by exact owns_all (owns_all (unhide HO) (unhide HK).below) hb2)).mono ?_; rintro e w3 ⟨v3, rfl, hb3, ho3⟩) | (go_at_call 161; refine (rput_calls (Ov.withF l x (encode bk (noKinds n) (noBlocks n))) v3 (.slice a l.length c) b room w2.heap.size _ hwl hroom (by exact make_blk (unhide HB) (unhide HK).below hb2 hb3) ho3 (unhide HWS)).mono ?_; intro e w4 hp4; obtain ⟨rfl, hleft⟩ := (unhide HR).put (make_below (unhide HK).below hb2 hb3) (make_own ho3 (unhide HK).below hb2) hp4))
    all_goals (go_wp2_with fail; go_ret; exact ⟨by rw [unhide HF]; rfl, by rw [unhide HF]; exact hleft⟩)

end Go.Proofs.YtomiepknmmpflaaGreatDoor

namespace Go.Proofs.YtomiepknmmpflaaGreatDoor
open Go.RowKit Go.Joins

set_option maxRecDepth 100000 in
set_option maxHeartbeats 2000000 in
theorem rMake_over (l : Ov.Files) (x bk : ByteArray) (n b room : Nat) (w : World) (hi : Ov.LI room l) (h : RefRep w b room l) (hn : Ov.nameB x = true) (hn1 : 1 ≤ n) (hn30 : n ≤ 30) (h8 : ((l.length : Int) == 8) = false) (hp : ¬ Ov.place l x < l.length) (hb0 : bk.toList.isEmpty = false) (hso : Ov.soundF l bk = 0) (hbk8 : bk.size ≤ 8) (hF : makeF room l x n bk = Ov.putF room l (Ov.withF l x (encode bk (noKinds n) (noBlocks n)))) :
    Calls Tryz.prog 121 #[.pointer (some ⟨b, 0, none⟩), .string x, .int .i64 n, .string bk] w fun e w' => e = .returned (.int .i64 (makeF room l x n bk).1) ∧ RefLeft w b room (makeF room l x n bk).2 w' := by
  obtain ⟨v, h1, h2, h3⟩ := id h
  have HR := hide h
  obtain ⟨a, c, rfl⟩ := owns_slice h2
  have c1 : w.cell? ⟨b, 1, none⟩ = some (.slice a l.length c) := blk_cell h1 rfl
  have HO := hide h2
  have HB := hide h1
  have HI := hide hi
  have hl8 := hi.len
  have hbl0 := blk_lt h1
  clear h h1 h2 h3 hi
  have hfd : Ov.find l x = -1 := Ov.find_no hp
  have hwl : (Ov.withF l x (encode bk (noKinds n) (noBlocks n))).length ≤ 9 := by rw [Ov.withF_length, if_neg hp]; omega
  have HWS := hide (Ov.withF_size (x := x) (b := encode bk (noKinds n) (noBlocks n)) (unhide HI).size (blank_size hbk8 hn30))
  have hroom := (unhide HI).room
  have HF := hide hF
  clear hF
  have mi := make_ints n hn30
  have mt := make_texts n hn30
  go_enter Tryz.func121, Tryz.ntmps121
  go_upto_region 12 with (first | (go_at_call 164; refine (rsound_calls l bk b room _ (unhide HI) (unhide HR)).mono ?_; rintro e w1 ⟨rfl, hbs⟩; have HBS := hide hbs; clear hbs) | (go_at_call 168; refine (rIsName_calls _ _).mono ?_; rintro e w' ⟨rfl, hw⟩; obtain rfl := hw.symm) | (go_at_call 166; refine (rFind_calls l _ x 0 _ hl8 (unhide HO)).mono ?_; rintro e w' ⟨rfl, rfl⟩))
  have HO1 := hide (owns_all (unhide HO) (unhide HBS))
  have HB1 : Hid (w1.heap[b]? = some (.cells #[.int .i64 room, .slice a l.length c] 180 (0, 0))) := ((unhide HBS).block b hbl0).trans (unhide HB)
  have HR1 := hide ((unhide HR).kept (unhide HBS))
  have hbl1 : b < w1.heap.size := Nat.lt_of_lt_of_le hbl0 (unhide HBS).size
  go_cut [11] from 45 (fun p W => ∃ X ge gb, MK bk n w1 p W X ge gb)
  case first =>
    go_region
    all_goals (go_wp2_with fail; go_meet)
    all_goals (clear mi mt)
    all_goals first
      | exact ⟨w1.heap.size, w1.heap.size + 1, w1.heap.size + 1 + 1, rfl, (below_alloc3 w1 _ _ _).drew, three0 w1 _ _ _, three1 w1 _ _ _, three2 w1 _ _ _⟩
      | exact ⟨w1.heap.size, w1.heap.size + 1 + 1, w1.heap.size + 1, rfl, (below_alloc3 w1 _ _ _).drew, three0 w1 _ _ _, three2 w1 _ _ _, three1 w1 _ _ _⟩
      | exact ⟨w1.heap.size + 1, w1.heap.size, w1.heap.size + 1 + 1, rfl, (below_alloc3 w1 _ _ _).drew, three1 w1 _ _ _, three0 w1 _ _ _, three2 w1 _ _ _⟩
      | exact ⟨w1.heap.size + 1, w1.heap.size + 1 + 1, w1.heap.size, rfl, (below_alloc3 w1 _ _ _).drew, three1 w1 _ _ _, three2 w1 _ _ _, three0 w1 _ _ _⟩
      | exact ⟨w1.heap.size + 1 + 1, w1.heap.size, w1.heap.size + 1, rfl, (below_alloc3 w1 _ _ _).drew, three2 w1 _ _ _, three0 w1 _ _ _, three1 w1 _ _ _⟩
      | exact ⟨w1.heap.size + 1 + 1, w1.heap.size + 1, w1.heap.size, rfl, (below_alloc3 w1 _ _ _).drew, three2 w1 _ _ _, three1 w1 _ _ _, three0 w1 _ _ _⟩
  case rest =>
    obtain ⟨X, ge, gb, hK⟩ := hcut
    obtain rfl := hK.ptr
    have HK := hide hK
    have x0 : wc.cell? ⟨X, 0, none⟩ = some (.string bk) := blk_cell hK.x rfl
    have x1 : wc.cell? ⟨X, 1, none⟩ = some (.slice (some ⟨ge, 0, none⟩) n n) := blk_cell hK.x rfl
    have x2 : wc.cell? ⟨X, 2, none⟩ = some (.slice (some ⟨gb, 0, none⟩) n n) := blk_cell hK.x rfl
    have x3 : wc.cell? ⟨X, 3, none⟩ = some (.int .i64 0) := blk_cell hK.x rfl
    have cb : wc.cell? ⟨b, 1, none⟩ = some (.slice a l.length c) := blk_cell ((hK.below.block b (blk_lt (unhide HB1))).trans (unhide HB1)) rfl
    have hn9 : n ≤ 30 := hn30
    have hbl : b < wc.heap.size := Nat.lt_of_lt_of_le hbl1 hK.below.size
    clear hK mi mt c1
    go_wp2_with fail
    go_region_with (first | (go_at_call 163; refine (rEncode_calls bk (noKinds n) (noBlocks n) (some ⟨ge, 0, none⟩) (some ⟨gb, 0, none⟩) n n 0 n 0 _ hbk8 hn9 (by exact owns_ints hn9 (Nat.zero_le _) (unhide HK).e) (by exact owns_texts hn9 (Nat.zero_le _) (unhide HK).b) (fun k _ => by rw [noKinds_getD]; omega) (fun k _ => by rw [noBlocks_getD]; exact Nat.zero_le _)).mono ?_; rintro e w2 ⟨rfl, hb2a⟩; have hb2 : Below wc.heap.size wc w2 := ((Below.refl wc.heap.size wc).drew).trans hb2a; have cb2 : w2.cell? ⟨b, 1, none⟩ = some (.slice a l.length c) := (hb2.cell (p := ⟨b, 1, none⟩) hbl).trans cb) | (go_at_call 162; refine (rwith_calls l _ x (encode bk (noKinds n) (noBlocks n)) 0 _ hl8 (by exact owns_all (owns_all (unhide HO1) (unhide HK).below) hb2)).mono ?_; rintro e w3 ⟨v3, rfl, hb3, ho3⟩) | (go_at_call 161; refine (rput_calls (Ov.withF l x (encode bk (noKinds n) (noBlocks n))) v3 (.slice a l.length c) b room w2.heap.size _ hwl hroom (by exact make_blk (unhide HB1) (unhide HK).below hb2 hb3) ho3 (unhide HWS)).mono ?_; intro e w4 hp4; obtain ⟨rfl, hleft⟩ := (unhide HR1).put (make_below (unhide HK).below hb2 hb3) (make_own ho3 (unhide HK).below hb2) hp4))
    all_goals (go_wp2_with fail; go_ret; exact ⟨by rw [unhide HF]; rfl, by rw [unhide HF]; exact ⟨hleft.rep, grown_trans (grown_of_below (unhide HBS) _) hleft.grown⟩⟩)

set_option maxRecDepth 100000 in
set_option maxHeartbeats 400000 in
theorem rMake_no (l : Ov.Files) (x bk : ByteArray) (n : Int) (b room : Nat) (w : World) (hi : Ov.LI room l) (h : RefRep w b room l)
    (hcase : Ov.nameB x = false ∨ (Ov.nameB x = true ∧ (n < 1 ∨ (1 ≤ n ∧ 30 < n) ∨ (1 ≤ n ∧ n ≤ 30 ∧ l.length = 8))) ∨ (Ov.nameB x = true ∧ 1 ≤ n ∧ n ≤ 30 ∧ l.length ≠ 8 ∧ Ov.place l x < l.length) ∨ (Ov.nameB x = true ∧ 1 ≤ n ∧ n ≤ 30 ∧ l.length ≠ 8 ∧ ¬ Ov.place l x < l.length ∧ bk.size ≠ 0 ∧ Ov.soundF l bk ≠ 0)) :
    Calls Tryz.prog 121 #[.pointer (some ⟨b, 0, none⟩), .string x, .int .i64 n, .string bk] w fun e w' => e = .returned (.int .i64 (makeF room l x n bk).1) ∧ RefLeft w b room (makeF room l x n bk).2 w' := by
  obtain ⟨v, h1, h2, h3⟩ := id h
  have HR := hide h
  obtain ⟨a, c, rfl⟩ := owns_slice h2
  have c1 : w.cell? ⟨b, 1, none⟩ = some (.slice a l.length c) := blk_cell h1 rfl
  have HO := hide h2
  have HI := hide hi
  have hl8 := hi.len
  clear h h1 h2 h3 hi
  rcases hcase with hn | ⟨hn, hx | ⟨hn1, hx⟩ | ⟨hn1, hn30, h8⟩⟩ | ⟨hn, hn1, hn30, h8, hp⟩ | ⟨hn, hn1, hn30, h8, hp, hb0, hso⟩
  · have HF : Hid (makeF room l x n bk = (2, l)) := by unfold makeF; rw [if_pos hn]; exact rfl
    go_enter Tryz.func121, Tryz.ntmps121
    go_wp2_with (go_at_call 168; refine (rIsName_calls _ _).mono ?_; rintro e w' ⟨rfl, hw⟩; obtain rfl := hw.symm)
    go_ret
    exact ⟨by rw [unhide HF]; rfl, by rw [unhide HF]; exact (unhide HR).here⟩
  · have HF : Hid (makeF room l x n bk = (1, l)) := by unfold makeF; rw [if_neg (by rw [hn]; simp), if_pos (Or.inl hx)]; exact rfl
    go_enter Tryz.func121, Tryz.ntmps121
    go_wp2_with (go_at_call 168; refine (rIsName_calls _ _).mono ?_; rintro e w' ⟨rfl, hw⟩; obtain rfl := hw.symm)
    go_ret
    exact ⟨by rw [unhide HF]; rfl, by rw [unhide HF]; exact (unhide HR).here⟩
  · have HF : Hid (makeF room l x n bk = (1, l)) := by unfold makeF; rw [if_neg (by rw [hn]; simp), if_pos (Or.inr (Or.inl hx))]; exact rfl
    go_enter Tryz.func121, Tryz.ntmps121
    go_wp2_with (go_at_call 168; refine (rIsName_calls _ _).mono ?_; rintro e w' ⟨rfl, hw⟩; obtain rfl := hw.symm)
    go_ret
    exact ⟨by rw [unhide HF]; rfl, by rw [unhide HF]; exact (unhide HR).here⟩
  · have HF : Hid (makeF room l x n bk = (1, l)) := by unfold makeF; rw [if_neg (by rw [hn]; simp), if_pos (Or.inr (Or.inr h8))]; exact rfl
    have hq : ((l.length : Int) == 8) = true := beq_iff_eq.2 (by omega)
    clear h8
    go_enter Tryz.func121, Tryz.ntmps121
    go_wp2_with (go_at_call 168; refine (rIsName_calls _ _).mono ?_; rintro e w' ⟨rfl, hw⟩; obtain rfl := hw.symm)
    go_ret
    exact ⟨by rw [unhide HF]; rfl, by rw [unhide HF]; exact (unhide HR).here⟩
  · have HF : Hid (makeF room l x n bk = (3, l)) := by unfold makeF; rw [if_neg (by rw [hn]; simp), if_neg (by omega), if_pos hp]; exact rfl
    have hq : ((l.length : Int) == 8) = false := beq_eq_false_iff_ne.2 (by omega)
    have hfd : Ov.find l x = (Ov.place l x : Int) := Ov.find_yes hp
    clear h8
    go_enter Tryz.func121, Tryz.ntmps121
    go_wp2_with (first | (go_at_call 168; refine (rIsName_calls _ _).mono ?_; rintro e w' ⟨rfl, hw⟩; obtain rfl := hw.symm) | (go_at_call 166; refine (rFind_calls l _ x 0 _ hl8 (unhide HO)).mono ?_; rintro e w' ⟨rfl, rfl⟩))
    go_ret
    exact ⟨by rw [unhide HF]; rfl, by rw [unhide HF]; exact (unhide HR).here⟩
  · have HF : Hid (makeF room l x n bk = (Ov.soundF l bk, l)) := by unfold makeF; rw [if_neg (by rw [hn]; simp), if_neg (by omega), if_neg hp, if_pos ⟨hb0, hso⟩]; exact rfl
    have hq : ((l.length : Int) == 8) = false := beq_eq_false_iff_ne.2 (by omega)
    have hfd : Ov.find l x = -1 := Ov.find_no hp
    have hbe : bk.toList.isEmpty = false := by rw [ByteArray.toList_eq, ← Bool.not_eq_true, List.isEmpty_iff_length_eq_zero]; simpa using hb0
    obtain ⟨q, hqe⟩ : ∃ q, Ov.soundF l bk = q := ⟨_, rfl⟩
    rw [hqe] at HF hso
    have hqn : (q != 0) = true := by rw [bne_iff_ne]; exact hso
    clear h8 hb0
    go_enter Tryz.func121, Tryz.ntmps121
    go_wp2_with (first | (go_at_call 168; refine (rIsName_calls _ _).mono ?_; rintro e w' ⟨rfl, hw⟩; obtain rfl := hw.symm) | (go_at_call 166; refine (rFind_calls l _ x 0 _ hl8 (unhide HO)).mono ?_; rintro e w' ⟨rfl, rfl⟩) | (go_at_call 164; refine (rsound_calls l bk b room _ (unhide HI) (unhide HR)).mono ?_; rintro e w1 ⟨rfl, hbs⟩))
    go_ret
    exact ⟨by rw [unhide HF]; rfl, by rw [unhide HF]; exact (unhide HR).same hbs⟩

theorem rMake_calls (l : Ov.Files) (x bk : ByteArray) (n : Int) (b room : Nat) (w : World) (hi : Ov.LI room l) (h : RefRep w b room l) :
    Calls Tryz.prog 121 #[.pointer (some ⟨b, 0, none⟩), .string x, .int .i64 n, .string bk] w fun e w' => e = .returned (.int .i64 (makeF room l x n bk).1) ∧ RefLeft w b room (makeF room l x n bk).2 w' := by
  cases hn : Ov.nameB x
  · exact rMake_no l x bk n b room w hi h (Or.inl hn)
  by_cases hn1 : n < 1
  · exact rMake_no l x bk n b room w hi h (Or.inr (Or.inl ⟨hn, Or.inl hn1⟩))
  by_cases hn30 : 30 < n
  · exact rMake_no l x bk n b room w hi h (Or.inr (Or.inl ⟨hn, Or.inr (Or.inl ⟨by omega, hn30⟩)⟩))
  by_cases h8 : l.length = 8
  · exact rMake_no l x bk n b room w hi h (Or.inr (Or.inl ⟨hn, Or.inr (Or.inr ⟨by omega, by omega, h8⟩)⟩))
  by_cases hp : Ov.place l x < l.length
  · exact rMake_no l x bk n b room w hi h (Or.inr (Or.inr (Or.inl ⟨hn, by omega, by omega, h8, hp⟩)))
  obtain ⟨m, rfl⟩ := Int.eq_ofNat_of_zero_le (show 0 ≤ n by omega)
  have hq : ((l.length : Int) == 8) = false := beq_eq_false_iff_ne.2 (by omega)
  by_cases hb0 : bk.size = 0
  · have hbe : bk.toList.isEmpty = true := by rw [ByteArray.toList_eq, List.isEmpty_iff_length_eq_zero]; simpa using hb0
    exact rMake_tail l x bk m b room w hi h hn (by omega) (by omega) hq hp hbe (by omega) (by unfold makeF blank; rw [if_neg (by rw [hn]; simp), if_neg (by omega), if_neg hp, if_neg (by omega), Int.toNat_natCast])
  have hbe : bk.toList.isEmpty = false := by rw [ByteArray.toList_eq, ← Bool.not_eq_true, List.isEmpty_iff_length_eq_zero]; simpa using hb0
  by_cases hso : Ov.soundF l bk = 0
  · have hpb : Ov.place l bk < l.length := by
      by_cases hpb : Ov.place l bk < l.length
      · exact hpb
      · unfold Ov.soundF at hso; rw [if_neg hpb] at hso; omega
    exact rMake_over l x bk m b room w hi h hn (by omega) (by omega) hq hp hbe hso (hi.name_size hpb) (by unfold makeF blank; rw [if_neg (by rw [hn]; simp), if_neg (by omega), if_neg hp, if_neg (by omega), Int.toNat_natCast])
  · exact rMake_no l x bk m b room w hi h (Or.inr (Or.inr (Or.inr ⟨hn, by omega, by omega, h8, hp, hb0, hso⟩)))

end Go.Proofs.YtomiepknmmpflaaGreatDoor

namespace Go.Proofs.YtomiepknmmpflaaGreatDoor
open Go.RowKit Go.Joins

def kindP (k : Int) : Int := if k = 1 then 2 else if k = 255 then 1 else 0
structure Cls (w : World) (g n : Nat) (ks : List Int) (dk : Nat → List UInt8) : Prop where
  len : ks.length = n
  kind : ∀ k, k < n → w.cell? ⟨g, k * 9, none⟩ = some (.int .i64 (kindP (ks.getD k 0)))
  byte : ∀ k, k < n → ∀ j, j < 8 → w.cell? ⟨g, k * 9 + (j + 1), none⟩ = some (.int .u8 (((dk k).getD j 0).toNat : Nat))
  known : ∀ k, k < n → ks.getD k 0 = 0 ∨ ks.getD k 0 = 1 ∨ ks.getD k 0 = 255
  eight : ∀ k, k < n → (dk k).length = 8
  lt : g < w.heap.size
def encEs (ks : List Int) : Nat → List UInt8
  | 0 => []
  | k + 1 => encEs ks k ++ [(encE ks k).toNat.toUInt8]
def encDs (ks : List Int) (dk : Nat → List UInt8) : Nat → List UInt8
  | 0 => []
  | k + 1 => if ks.getD k 0 = 1 then encDs ks dk k ++ dk k else encDs ks dk k
theorem encEs_length (ks : List Int) (k : Nat) : (encEs ks k).length = k := by
  induction k with
  | zero => rfl
  | succ k ih => simp [encEs, ih]
theorem encDs_length (ks : List Int) (dk : Nat → List UInt8) (k : Nat) (h : ∀ j, j < k → (dk j).length = 8) : (encDs ks dk k).length = encN ks k * 8 := by
  induction k with
  | zero => rfl
  | succ k ih =>
    have := ih (fun j hj => h j (by omega))
    simp only [encDs, encN]
    split
    · rw [List.length_append, this, h k (by omega)]; omega
    · rw [this]; omega
structure FI (w : World) (ks : List Int) (dk : Nat → List UInt8) (k : Nat) (ve vd : Value) (wr : World) : Prop where
  e : wr.ownsRow w.heap.size 5 1 ve k (Lib.byteCells (encEs ks k))
  d : wr.ownsRow w.heap.size 5 1 vd (encN ks k * 8) (Lib.byteCells (encDs ks dk k))
  ap : ve.ownBlock = none ∨ ve.ownBlock ≠ vd.ownBlock
  below : Below w.heap.size w wr
theorem FI.alloc {w wr : World} {ks : List Int} {dk : Nat → List UInt8} {k : Nat} {ve vd : Value} (h : FI w ks dk k ve vd wr) (o : Obj) : FI w ks dk k ve vd (wr.alloc o) := ⟨h.e.alloc o, h.d.alloc o, h.ap, h.below.alloc h.below.size o⟩
theorem own_lt {w : World} {base e size n : Nat} {v : Value} {xs : List Value} (h : w.ownsRow base e size v n xs) : v.ownBlock ≠ some w.heap.size := fun e1 => by
  obtain ⟨c, hc⟩ := own_blk h e1
  have := blk_lt hc
  omega
theorem FI.entry {w wr w' : World} {ks : List Int} {dk : Nat → List UInt8} {k : Nat} {ve vd v' : Value} {x : Nat} (h : FI w ks dk k ve vd wr) (hx : x < 256) (hg : wr.grownBy w' ve.ownBlock) (ho : w'.ownsRow w.heap.size 5 1 v' (k + 1) (Lib.byteCells (encEs ks k) ++ [.int .u8 (x : Nat)])) (hw : v'.ownBlock = ve.ownBlock ∨ v'.ownBlock = some wr.heap.size) :
    w'.ownsRow w.heap.size 5 1 v' (k + 1) (Lib.byteCells (encEs ks k ++ [x.toUInt8])) ∧ w'.ownsRow w.heap.size 5 1 vd (encN ks k * 8) (Lib.byteCells (encDs ks dk k)) ∧ (v'.ownBlock = none ∨ v'.ownBlock ≠ vd.ownBlock) ∧ Below w.heap.size w w' := by
  refine ⟨by rw [Lib.byteCells_append, byte_one hx]; exact ho, owns_grown h.d hg ?_, ?_, h.below.grown hg h.below.size (fun k hk => (h.e.lt k hk).1)⟩
  · by_cases hv : vd.ownBlock = none
    · exact Or.inl hv
    · refine Or.inr fun e => ?_
      rcases h.ap with a | a
      · rw [a] at e; exact hv e
      · exact a e.symm
  · rcases hw with e | e
    · rw [e]; exact h.ap
    · refine Or.inr fun e2 => ?_
      rw [e] at e2
      exact own_lt h.d e2.symm
theorem FI.plain {w wr w' : World} {ks : List Int} {dk : Nat → List UInt8} {k : Nat} {ve vd v' : Value} {x : Nat} (h : FI w ks dk k ve vd wr) (hx : x < 256) (hk : ks.getD k 0 = (x : Int)) (h1 : x ≠ 1) (hg : wr.grownBy w' ve.ownBlock) (ho : w'.ownsRow w.heap.size 5 1 v' (k + 1) (Lib.byteCells (encEs ks k) ++ [.int .u8 (x : Nat)])) (hw : v'.ownBlock = ve.ownBlock ∨ v'.ownBlock = some wr.heap.size) : FI w ks dk (k + 1) v' vd w' := by
  obtain ⟨a, b, c, d⟩ := h.entry hx hg ho hw
  have hne : ¬ ks.getD k 0 = 1 := by rw [hk]; omega
  have he : encEs ks (k + 1) = encEs ks k ++ [x.toUInt8] := by
    rw [encEs, encE, if_neg hne, hk, Int.toNat_natCast]
  exact ⟨by rw [he]; exact a, by rw [encDs, if_neg hne, encN, if_neg hne]; exact b, c, d⟩
theorem FI.data {w wr w1 w2 : World} {ks : List Int} {dk : Nat → List UInt8} {k : Nat} {ve vd v1 v2 : Value} (h : FI w ks dk k ve vd wr) (hk : ks.getD k 0 = 1) (hx : encN ks k + 1 < 256) (hg : wr.grownBy w1 ve.ownBlock) (ho : w1.ownsRow w.heap.size 5 1 v1 (k + 1) (Lib.byteCells (encEs ks k) ++ [.int .u8 ((encN ks k + 1 : Nat) : Nat)])) (hw : v1.ownBlock = ve.ownBlock ∨ v1.ownBlock = some wr.heap.size)
    (hg2 : w1.grownBy w2 vd.ownBlock) (ho2 : w2.ownsRow w.heap.size 5 1 v2 (encN ks k * 8 + 8) (Lib.byteCells (encDs ks dk k) ++ Lib.byteCells (dk k))) (hw2 : v2.ownBlock = vd.ownBlock ∨ v2.ownBlock = some w1.heap.size) : FI w ks dk (k + 1) v1 v2 w2 := by
  obtain ⟨a, b, c, d⟩ := h.entry hx hg ho hw
  have he : encEs ks (k + 1) = encEs ks k ++ [(encN ks k + 1).toUInt8] := by
    rw [encEs, encE, if_pos hk, Int.toNat_natCast]
  refine ⟨by rw [he]; exact owns_grown a hg2 c, ?_, ?_, d.grown hg2 d.size (fun k hk => (b.lt k hk).1)⟩
  · rw [encDs, if_pos hk, encN, if_pos hk, Lib.byteCells_append, Nat.add_mul]; exact ho2
  · rcases hw2 with e | e
    · rw [e]; exact c
    · rw [e]; exact Or.inr (own_lt a)
theorem Cls.nine {w wr : World} {g n : Nat} {ks : List Int} {dk : Nat → List UInt8} (h : Cls w g n ks dk) (hb : Below w.heap.size w wr) {k : Nat} (hk : k < n) : ∃ d0 d1 d2 d3 d4 d5 d6 d7 : UInt8, dk k = [d0, d1, d2, d3, d4, d5, d6, d7] ∧
    wr.cell? ⟨g, k * 9, none⟩ = some (.int .i64 (kindP (ks.getD k 0))) ∧ wr.cell? ⟨g, k * 9 + 1, none⟩ = some (.int .u8 (d0.toNat : Nat)) ∧ wr.cell? ⟨g, k * 9 + 2, none⟩ = some (.int .u8 (d1.toNat : Nat)) ∧ wr.cell? ⟨g, k * 9 + 3, none⟩ = some (.int .u8 (d2.toNat : Nat)) ∧ wr.cell? ⟨g, k * 9 + 4, none⟩ = some (.int .u8 (d3.toNat : Nat)) ∧
    wr.cell? ⟨g, k * 9 + 5, none⟩ = some (.int .u8 (d4.toNat : Nat)) ∧ wr.cell? ⟨g, k * 9 + 6, none⟩ = some (.int .u8 (d5.toNat : Nat)) ∧ wr.cell? ⟨g, k * 9 + 7, none⟩ = some (.int .u8 (d6.toNat : Nat)) ∧ wr.cell? ⟨g, k * 9 + 8, none⟩ = some (.int .u8 (d7.toNat : Nat)) := by
  have h8 := h.eight k hk
  match hd : dk k, h8 with
  | [d0, d1, d2, d3, d4, d5, d6, d7], _ =>
    have hc : ∀ o, wr.cell? ⟨g, o, none⟩ = w.cell? ⟨g, o, none⟩ := fun o => hb.cell (p := ⟨g, o, none⟩) h.lt
    have hy := h.byte k hk
    rw [hd] at hy
    exact ⟨d0, d1, d2, d3, d4, d5, d6, d7, rfl, (hc _).trans (h.kind k hk), (hc _).trans (hy 0 (by omega)), (hc _).trans (hy 1 (by omega)), (hc _).trans (hy 2 (by omega)), (hc _).trans (hy 3 (by omega)), (hc _).trans (hy 4 (by omega)), (hc _).trans (hy 5 (by omega)), (hc _).trans (hy 6 (by omega)), (hc _).trans (hy 7 (by omega))⟩
theorem file_bytes (bk : ByteArray) (ks : List Int) (bs : List ByteArray) (dk : Nat → List UInt8) (n : Nat) (hn : ks.length = n) (hd : ∀ k, k < n → ks.getD k 0 = 1 → bs.getD k ⟨#[]⟩ = ⟨(dk k).toArray⟩) :
    (⟨([79, 86, 1] ++ [n.toUInt8] ++ [bk.size.toUInt8] ++ bk.data.toList ++ encEs ks n ++ [(encN ks n).toUInt8] ++ encDs ks dk n).toArray⟩ : ByteArray) = encode bk ks bs := by
  have hB : ∀ k, k ≤ n → encB ks bs k = ⟨(encDs ks dk k).toArray⟩ := by
    intro k
    induction k with
    | zero => intro _; rfl
    | succ k ih =>
      intro hk
      have := ih (by omega)
      simp only [encB, encDs]
      split
      · rename_i h1
        rw [this, hd k (by omega) h1]
        apply ByteArray.ext; simp
      · exact this
  have hF : ∀ k, encF bk ks n k = ⟨([79, 86, 1] ++ [n.toUInt8] ++ [bk.size.toUInt8] ++ bk.data.toList ++ encEs ks k).toArray⟩ := by
    intro k
    induction k with
    | zero =>
      apply ByteArray.ext
      simp [encF, encHead, strOfNums, encEs]
    | succ k ih =>
      rw [encF, ih]
      apply ByteArray.ext
      simp [strOfNums, encEs]
  unfold encode
  rw [hn, hF n, hB n (Nat.le_refl _)]
  apply ByteArray.ext
  simp [strOfNums]

end Go.Proofs.YtomiepknmmpflaaGreatDoor

namespace Go.Proofs.YtomiepknmmpflaaGreatDoor
open Go.RowKit Go.Joins

namespace Ov
def Chn (l : Files) : List ByteArray → ByteArray → Prop
  | [], _ => False
  | y :: ns, x => x = y ∧ place l x < l.length ∧ isImage (fileAt l (place l x)) ∧ ((backing (fileAt l (place l x))).size = 0 ∧ ns = [] ∨ (backing (fileAt l (place l x))).size ≠ 0 ∧ Chn l ns (backing (fileAt l (place l x))))
theorem Chn.last {l : Files} (x : ByteArray) (h1 : place l x < l.length) (h2 : isImage (fileAt l (place l x))) (h3 : (backing (fileAt l (place l x))).size = 0) : Chn l [x] x := ⟨rfl, h1, h2, Or.inl ⟨h3, rfl⟩⟩
theorem Chn.over {l : Files} (x : ByteArray) (ns : List ByteArray) (h1 : place l x < l.length) (h2 : isImage (fileAt l (place l x))) (h3 : (backing (fileAt l (place l x))).size ≠ 0) (h4 : Chn l ns (backing (fileAt l (place l x)))) : Chn l (x :: ns) x := ⟨rfl, h1, h2, Or.inr ⟨h3, h4⟩⟩
theorem down_chn {l : Files} (f : Nat) : ∀ {seen : List ByteArray} {x : ByteArray}, Met l seen → x ∉ seen → place l x < l.length → l.length ≤ seen.length + f → (down l f seen x).2.1 = 0 → ∃ ns, (down l f seen x).1 = seen ++ ns ∧ Chn l ns x := by
  induction f with
  | zero =>
    intro seen x h hx hp hf
    have := (h.snoc hx hp).length
    simp at this
    omega
  | succ f ih =>
    intro seen x h hx hp hf
    unfold down
    split
    · intro k; exact absurd k (by simp)
    · rename_i him
      have hi : isImage (fileAt l (place l x)) := (imageB_iff _).1 (by simpa using him)
      split
      · rename_i hk
        exact fun _ => ⟨[x], rfl, .last x hp hi hk⟩
      · rename_i hk
        split
        · intro k; exact absurd k (by simp)
        · split
          · intro k; exact absurd k (by simp)
          · rename_i hm hq
            intro k
            obtain ⟨ns, h1, h2⟩ := ih (h.snoc hx hp) (fun q => hm (metB_iff.2 q)) (by simpa using hq) (by simp; omega) k
            exact ⟨x :: ns, by rw [h1, List.append_assoc]; rfl, .over x ns hp hi hk h2⟩
theorem downOf_chn {l : Files} {x : ByteArray} (hp : place l x < l.length) (h : (downOf l x).2.1 = 0) : Chn l (downOf l x).1 x := by
  obtain ⟨ns, h1, h2⟩ := down_chn l.length (seen := []) ⟨List.nodup_nil, fun y hy => by cases hy⟩ (by simp) hp (by simp) h
  have : (downOf l x).1 = ns := h1
  rw [this]; exact h2
theorem Chn.here {l : Files} {ns : List ByteArray} {x : ByteArray} (h : Chn l ns x) : place l x < l.length := by
  cases ns with
  | nil => exact h.elim
  | cons y ns => exact h.2.1
theorem Chn.image {l : Files} {ns : List ByteArray} {x : ByteArray} (h : Chn l ns x) : isImage (fileAt l (place l x)) := by
  cases ns with
  | nil => exact h.elim
  | cons y ns => exact h.2.2.1
def atTo (l : Files) : List ByteArray → Nat → Nat
  | [], _ => 0
  | y :: ns, i =>
    if many (fileAt l (place l y)) ≤ i / 8 then 0
    else if kindOf (ent (fileAt l (place l y)) (i / 8)) = 255 then 0
    else if kindOf (ent (fileAt l (place l y)) (i / 8)) = 1 then byteAt (blockOf (fileAt l (place l y)) (ent (fileAt l (place l y)) (i / 8))) (i % 8)
    else atTo l ns i
theorem atTo_lt (l : Files) (ns : List ByteArray) (i : Nat) : atTo l ns i < 256 := by
  induction ns with
  | nil => simp [atTo]
  | cons y ns ih =>
    unfold atTo
    split
    · omega
    · split
      · omega
      · split
        · exact byteAt_lt _ _
        · exact ih
theorem atTo_cons (l : Files) (y : ByteArray) (ns : List ByteArray) (i : Nat) : atTo l (y :: ns) i = if many (fileAt l (place l y)) ≤ i / 8 then 0 else if kindOf (ent (fileAt l (place l y)) (i / 8)) = 255 then 0 else if kindOf (ent (fileAt l (place l y)) (i / 8)) = 1 then byteAt (blockOf (fileAt l (place l y)) (ent (fileAt l (place l y)) (i / 8))) (i % 8) else atTo l ns i := rfl
theorem Chn.cons {l : Files} {ms : List ByteArray} {y : ByteArray} (h : Chn l ms y) : ∃ ns, ms = y :: ns ∧ (ns = [] ∧ (backing (fileAt l (place l y))).size = 0 ∨ Chn l ns (backing (fileAt l (place l y)))) := by
  cases ms with
  | nil => exact h.elim
  | cons x ns =>
    obtain ⟨rfl, _, _, h | h⟩ := h
    · obtain ⟨h3, rfl⟩ := h
      exact ⟨[], rfl, Or.inl ⟨rfl, h3⟩⟩
    · exact ⟨ns, rfl, Or.inr h.2⟩
theorem atTo_short {l : Files} {ms : List ByteArray} {y s : ByteArray} {i : Nat} (h : Chn l ms y) (hs : fileAt l (place l y) = s) (hq : many s ≤ i / 8) : atTo l ms i = 0 := by
  obtain ⟨ns, rfl, _⟩ := h.cons
  rw [atTo_cons, hs, if_pos hq]
theorem atTo_zero {l : Files} {ms : List ByteArray} {y s : ByteArray} {i : Nat} (h : Chn l ms y) (hs : fileAt l (place l y) = s) (hk : kindOf (ent s (i / 8)) = 255) : atTo l ms i = 0 := by
  obtain ⟨ns, rfl, _⟩ := h.cons
  rw [atTo_cons, hs, if_pos hk]
  split <;> rfl
theorem atTo_data {l : Files} {ms : List ByteArray} {y s : ByteArray} {i : Nat} (h : Chn l ms y) (hs : fileAt l (place l y) = s) (hq : ¬ many s ≤ i / 8) (hk : kindOf (ent s (i / 8)) = 1) : atTo l ms i = byteAt (blockOf s (ent s (i / 8))) (i % 8) := by
  obtain ⟨ns, rfl, _⟩ := h.cons
  rw [atTo_cons, hs, if_neg hq, if_neg (by rw [hk]; decide), if_pos hk]
theorem atTo_open {l : Files} {ms : List ByteArray} {y s : ByteArray} {i : Nat} (h : Chn l ms y) (hs : fileAt l (place l y) = s) (hq : ¬ many s ≤ i / 8) (hk : kindOf (ent s (i / 8)) = 0) : ∃ ns, ms.length = ns.length + 1 ∧ atTo l ns i = atTo l ms i ∧ (ns = [] ∧ (backing s).size = 0 ∨ Chn l ns (backing s)) := by
  obtain ⟨ns, rfl, hn⟩ := h.cons
  rw [hs] at hn
  refine ⟨ns, rfl, ?_, hn⟩
  rw [atTo_cons, hs, if_neg hq, if_neg (by rw [hk]; decide), if_neg (by rw [hk]; decide)]
end Ov

end Go.Proofs.YtomiepknmmpflaaGreatDoor

