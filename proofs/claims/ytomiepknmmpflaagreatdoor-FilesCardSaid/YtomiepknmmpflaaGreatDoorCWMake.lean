/- The walks of the reference's sound and Chain. -/
import Derived.Test.YtomiepknmmpflaaGreatDoorCWDrop
import Derived.Test.YtomiepknmmpflaaGreatDoorCWDown
import Derived.Deep.CutRange
namespace Go.Proofs.YtomiepknmmpflaaGreatDoor
open Go.RowKit Go.Joins

set_option maxRecDepth 100000 in
set_option maxHeartbeats 400000 in
theorem rsound_calls (l : Ov.Files) (x : ByteArray) (b room : Nat) (w : World) (hi : Ov.LI room l) (h : RefRep w b room l) :
    Calls Tryz.prog 164 #[.pointer (some ⟨b, 0, none⟩), .string x] w fun e w' => e = .returned (.int .i64 (Ov.soundF l x)) ∧ Below w.heap.size w w' := by
  obtain ⟨v, h1, h2, h3⟩ := h
  obtain ⟨a, c, rfl⟩ := owns_slice h2
  have c1 : w.cell? ⟨b, 1, none⟩ = some (.slice a l.length c) := blk_cell h1 rfl
  have HO := hide h2
  have HI := hide hi
  have hl8 := hi.len
  clear h1 h2 h3 hi
  by_cases hp : Ov.place l x < l.length
  · have hfd : Ov.find l x = (Ov.place l x : Int) := Ov.find_yes hp
    have HL : Hid (Ov.soundF l x = (Ov.downOf l x).2.1) := by unfold Ov.soundF; rw [if_pos hp]; exact rfl
    go_enter Tryz.func164, Tryz.ntmps164
    go_wp2_with (first | (go_at_call 166; refine (rFind_calls l _ x 0 _ hl8 (unhide HO)).mono ?_; rintro e w' ⟨rfl, rfl⟩) | (go_at_call 165; refine (rDown_calls l _ x 0 _ hl8 (unhide HO) (unhide HI).size hp).mono ?_; rintro e w1 ⟨nv, rfl, hb1, hn1⟩))
    go_ret
    exact ⟨by rw [unhide HL]; rfl, hb1⟩
  · have hfd : Ov.find l x = -1 := Ov.find_no hp
    have HL : Hid (Ov.soundF l x = 4) := by unfold Ov.soundF; rw [if_neg hp]; exact rfl
    go_enter Tryz.func164, Tryz.ntmps164
    go_wp2_with (go_at_call 166; refine (rFind_calls l _ x 0 _ hl8 (unhide HO)).mono ?_; rintro e w' ⟨rfl, rfl⟩)
    go_ret
    exact ⟨by rw [unhide HL]; rfl, Below.refl _ _⟩

set_option maxRecDepth 100000 in
set_option maxHeartbeats 400000 in
theorem rChain_calls (l : Ov.Files) (x : ByteArray) (b room : Nat) (w : World) (hi : Ov.LI room l) (h : RefRep w b room l) :
    Calls Tryz.prog 122 #[.pointer (some ⟨b, 0, none⟩), .string x] w fun e w' => e = .returned (.tuple #[.string (Ov.chainF l x).1, .string (Ov.chainF l x).2.1, .int .i64 (Ov.chainF l x).2.2]) ∧ Below w.heap.size w w' := by
  obtain ⟨v, h1, h2, h3⟩ := h
  obtain ⟨a, c, rfl⟩ := owns_slice h2
  have c1 : w.cell? ⟨b, 1, none⟩ = some (.slice a l.length c) := blk_cell h1 rfl
  have HO := hide h2
  have HI := hide hi
  have hl8 := hi.len
  clear h1 h2 h3 hi
  by_cases hp : Ov.place l x < l.length
  · have hfd : Ov.find l x = (Ov.place l x : Int) := Ov.find_yes hp
    have HL : Hid (Ov.chainF l x = (Ov.joinTo (Ov.downOf l x).1 (Ov.downOf l x).1.length, (Ov.downOf l x).2.2, (Ov.downOf l x).2.1)) := by unfold Ov.chainF; rw [if_pos hp]; exact rfl
    have HJ := hide (fun k hk => Ov.joinTo_size ((unhide HI).down_size hp) k hk)
    have HNS := hide ((unhide HI).down_size hp)
    have hdl : (Ov.downOf l x).1.length ≤ l.length := by have := Ov.down_length (l := l) l.length (seen := []) (x := x); unfold Ov.downOf; simpa using this
    go_enter Tryz.func122, Tryz.ntmps122
    go_wp2_with (first | (go_at_call 166; refine (rFind_calls l _ x 0 _ hl8 (unhide HO)).mono ?_; rintro e w' ⟨rfl, rfl⟩) | (go_at_call 165; refine (rDown_calls l _ x 0 _ hl8 (unhide HO) (unhide HI).size hp).mono ?_; rintro e w1 ⟨nv, rfl, hb1, hn1⟩; obtain ⟨na, nc, rfl⟩ := owns_slice hn1; have HN := hide hn1; have HB1 := hide hb1; clear hn1 hb1))
    generalize hD : (Ov.downOf l x).1 = ns at *
    go_loop [10, 11] (fun t i => ∃ k : Nat, k ≤ ns.length ∧ i = .int .i64 k ∧ t = .string (Ov.joinTo ns k)) (fun _ i => ns.length - (intOf i).toNat)
    case atStart => exact ⟨0, Nat.zero_le _, rfl, rfl⟩
    case round =>
      obtain ⟨k, hk, rfl, rfl⟩ := hrel
      have hjs := unhide HJ k hk
      by_cases hlt : k < ns.length
      · obtain ⟨g, cc, hv⟩ := ownsRow_form (unhide HN) (by omega)
        obtain ⟨rfl, rfl⟩ : na = some ⟨g, 0, none⟩ ∧ nc = cc := by simpa using hv
        have cn := texts_cell (unhide HN) hlt
        have hz8 : (ns.getD k ⟨#[]⟩).size ≤ 8 := by
          rw [List.getD_eq_getElem?_getD, List.getElem?_eq_getElem hlt]
          exact unhide HNS _ (List.getElem_mem hlt)
        obtain ⟨z, hz⟩ : ∃ z, ns.getD k ⟨#[]⟩ = z := ⟨_, rfl⟩
        rw [hz] at cn hz8
        have HZ := hide hz
        clear hv hz
        by_cases h0 : 0 < k
        · go_wp2
          go_round
          case rel => exact ⟨k + 1, by omega, by go_num, by rw [Ov.joinTo, if_pos h0, unhide HZ]⟩
          case measure => simp [intOf]; omega
        · go_wp2
          go_round
          case rel => exact ⟨k + 1, by omega, by go_num, by rw [Ov.joinTo, if_neg h0, unhide HZ]⟩
          case measure => simp [intOf]; omega
      · obtain rfl : k = ns.length := by omega
        go_wp2
        go_ret3
        exact ⟨by rw [unhide HL]; rfl, unhide HB1⟩
  · have hfd : Ov.find l x = -1 := Ov.find_no hp
    have HL : Hid (Ov.chainF l x = (⟨#[]⟩, ⟨#[]⟩, 4)) := by unfold Ov.chainF; rw [if_neg hp]; exact rfl
    go_enter Tryz.func122, Tryz.ntmps122
    go_wp2_with (go_at_call 166; refine (rFind_calls l _ x 0 _ hl8 (unhide HO)).mono ?_; rintro e w' ⟨rfl, rfl⟩)
    go_ret3
    exact ⟨by rw [unhide HL]; rfl, Below.refl _ _⟩

end Go.Proofs.YtomiepknmmpflaaGreatDoor

/- The walk of the reference's Make. -/
namespace Go.Proofs.YtomiepknmmpflaaGreatDoor
open Go.RowKit Go.Joins

/-- Behind the making of the new image. -/
structure MK (bk : ByteArray) (n : Nat) (w : World) (p : Value) (W : World) (X ge gb : Nat) : Prop where
  ptr : p = .pointer (some ⟨X, 0, none⟩)
  below : Below w.heap.size w W
  x : W.heap[X]? = some (.cells #[.string bk, .slice (some ⟨ge, 0, none⟩) n n, .slice (some ⟨gb, 0, none⟩) n n, .int .i64 0] 240 (0, 0))
  e : W.heap[ge]? = some (.cells (zInts n) 3 (0, 0))
  b : W.heap[gb]? = some (.cells (zTexts n) 9 (0, 0))

theorem make_below {w wc w2 w3 : World} (h1 : Below w.heap.size w wc) (h2 : Below wc.heap.size wc w2) (h3 : Below w2.heap.size w2 w3) : Below w.heap.size w w3 :=
  (h1.trans (h2.mono h1.size)).trans (h3.mono (Nat.le_trans h1.size h2.size))
theorem make_blk {w wc w2 w3 : World} {b : Nat} {o : Obj} (hb : w.heap[b]? = some o) (h1 : Below w.heap.size w wc) (h2 : Below wc.heap.size wc w2) (h3 : Below w2.heap.size w2 w3) : w3.heap[b]? = some o := by
  rw [(make_below h1 h2 h3).block b (blk_lt hb)]; exact hb
theorem make_own {w wc w2 w3 : World} {v : Value} {l : Ov.Files} (ho : OwnsFiles w3 w2.heap.size v l) (h1 : Below w.heap.size w wc) (h2 : Below wc.heap.size wc w2) : OwnsFiles w3 w.heap.size v l := ownsRow_le ho (Nat.le_trans h1.size h2.size)
theorem three0 (w : World) (A B C : Obj) : (((w.alloc A).alloc B).alloc C).drew.heap[w.heap.size]? = some A := by
  show (((w.alloc A).alloc B).alloc C).heap[w.heap.size]? = some A
  rw [Below.heap_alloc _ _ _ (by simp; omega), Below.heap_alloc _ _ _ (by simp)]
  show (w.heap.push A)[w.heap.size]? = some A
  simp
theorem three1 (w : World) (A B C : Obj) : (((w.alloc A).alloc B).alloc C).drew.heap[w.heap.size + 1]? = some B := by
  show (((w.alloc A).alloc B).alloc C).heap[w.heap.size + 1]? = some B
  rw [Below.heap_alloc _ _ _ (by simp)]
  show ((w.alloc A).heap.push B)[w.heap.size + 1]? = some B
  rw [Array.getElem?_push, if_pos (by simp)]
theorem three2 (w : World) (A B C : Obj) : (((w.alloc A).alloc B).alloc C).drew.heap[w.heap.size + 1 + 1]? = some C := by
  show (((w.alloc A).alloc B).heap.push C)[w.heap.size + 1 + 1]? = some C
  rw [Array.getElem?_push, if_pos (by simp)]

set_option maxRecDepth 100000 in
set_option maxHeartbeats 2000000 in
theorem rMake_tail (l : Ov.Files) (x bk : ByteArray) (n b room : Nat) (w : World) (hi : Ov.LI room l) (h : RefRep w b room l) (hn : Ov.nameB x = true) (hn1 : 1 ≤ n) (hn30 : n ≤ 30) (h8 : ((l.length : Int) == 8) = false) (hp : ¬ Ov.place l x < l.length) (hb0 : bk.toList.isEmpty = true) (hbk8 : bk.size ≤ 8) (hF : makeF room l x n bk = Ov.putF room l (Ov.withF l x (encode bk (noKinds n) (noBlocks n)))) :
    Calls Tryz.prog 121 #[.pointer (some ⟨b, 0, none⟩), .string x, .int .i64 n, .string bk] w fun e w' => e = .returned (.int .i64 (makeF room l x n bk).1) ∧ RefLeft w b room (makeF room l x n bk).2 w' := by
  obtain ⟨v, h1, h2, h3⟩ := id h
  have HR := hide h
  obtain ⟨a, c, rfl⟩ := owns_slice h2
  have c1 : w.cell? ⟨b, 1, none⟩ = some (.slice a l.length c) := blk_cell h1 rfl
  have HO := hide h2
  have HB := hide h1
  have HI := hide hi
  have hl8 := hi.len
  have hbl0 := blk_lt h1
  clear h h1 h2 h3 hi
  have hfd : Ov.find l x = -1 := Ov.find_no hp
  have hwl : (Ov.withF l x (encode bk (noKinds n) (noBlocks n))).length ≤ 9 := by rw [Ov.withF_length, if_neg hp]; omega
  have HWS := hide (Ov.withF_size (x := x) (b := encode bk (noKinds n) (noBlocks n)) (unhide HI).size (blank_size hbk8 hn30))
  have hroom := (unhide HI).room
  have HF := hide hF
  clear hF
  have mi := make_ints n hn30
  have mt := make_texts n hn30
  go_enter Tryz.func121, Tryz.ntmps121
  go_upto_region 12 with (first | (go_at_call 168; refine (rIsName_calls _ _).mono ?_; rintro e w' ⟨rfl, hw⟩; obtain rfl := hw.symm) | (go_at_call 166; refine (rFind_calls l _ x 0 _ hl8 (unhide HO)).mono ?_; rintro e w' ⟨rfl, rfl⟩))
  go_cut [11] from 45 (fun p W => ∃ X ge gb, MK bk n w p W X ge gb)
  case first =>
    go_region
    all_goals (go_wp2_with fail; go_meet)
    all_goals (clear mi mt)
    all_goals first
      | exact ⟨w.heap.size, w.heap.size + 1, w.heap.size + 1 + 1, rfl, (below_alloc3 w _ _ _).drew, three0 w _ _ _, three1 w _ _ _, three2 w _ _ _⟩
      | exact ⟨w.heap.size, w.heap.size + 1 + 1, w.heap.size + 1, rfl, (below_alloc3 w _ _ _).drew, three0 w _ _ _, three2 w _ _ _, three1 w _ _ _⟩
      | exact ⟨w.heap.size + 1, w.heap.size, w.heap.size + 1 + 1, rfl, (below_alloc3 w _ _ _).drew, three1 w _ _ _, three0 w _ _ _, three2 w _ _ _⟩
      | exact ⟨w.heap.size + 1, w.heap.size + 1 + 1, w.heap.size, rfl, (below_alloc3 w _ _ _).drew, three1 w _ _ _, three2 w _ _ _, three0 w _ _ _⟩
      | exact ⟨w.heap.size + 1 + 1, w.heap.size, w.heap.size + 1, rfl, (below_alloc3 w _ _ _).drew, three2 w _ _ _, three0 w _ _ _, three1 w _ _ _⟩
      | exact ⟨w.heap.size + 1 + 1, w.heap.size + 1, w.heap.size, rfl, (below_alloc3 w _ _ _).drew, three2 w _ _ _, three1 w _ _ _, three0 w _ _ _⟩
  case rest =>
    obtain ⟨X, ge, gb, hK⟩ := hcut
    obtain rfl := hK.ptr
    have HK := hide hK
    have x0 : wc.cell? ⟨X, 0, none⟩ = some (.string bk) := blk_cell hK.x rfl
    have x1 : wc.cell? ⟨X, 1, none⟩ = some (.slice (some ⟨ge, 0, none⟩) n n) := blk_cell hK.x rfl
    have x2 : wc.cell? ⟨X, 2, none⟩ = some (.slice (some ⟨gb, 0, none⟩) n n) := blk_cell hK.x rfl
    have x3 : wc.cell? ⟨X, 3, none⟩ = some (.int .i64 0) := blk_cell hK.x rfl
    have cb : wc.cell? ⟨b, 1, none⟩ = some (.slice a l.length c) := blk_cell ((hK.below.block b (blk_lt (unhide HB))).trans (unhide HB)) rfl
    have hn9 : n ≤ 30 := hn30
    have hbl : b < wc.heap.size := Nat.lt_of_lt_of_le hbl0 hK.below.size
    clear hK mi mt c1
    go_wp2_with fail
    go_region_with (first | (go_at_call 163; refine (rEncode_calls bk (noKinds n) (noBlocks n) (some ⟨ge, 0, none⟩) (some ⟨gb, 0, none⟩) n n 0 n 0 _ hbk8 hn9 (by exact owns_ints hn9 (Nat.zero_le _) (unhide HK).e) (by exact owns_texts hn9 (Nat.zero_le _) (unhide HK).b) (fun k _ => by rw [noKinds_getD]; omega) (fun k _ => by rw [noBlocks_getD]; exact Nat.zero_le _)).mono ?_; rintro e w2 ⟨rfl, hb2a⟩; have hb2 : Below wc.heap.size wc w2 := ((Below.refl wc.heap.size wc).drew).trans hb2a; have cb2 : w2.cell? ⟨b, 1, none⟩ = some (.slice a l.length c) := (hb2.cell (p := ⟨b, 1, none⟩) hbl).trans cb) | (go_at_call 162; refine (rwith_calls l _ x (encode bk (noKinds n) (noBlocks n)) 0 _ hl8 (by exact owns_all (owns_all (unhide HO) (unhide HK).below) hb2)).mono ?_; rintro e w3 ⟨v3, rfl, hb3, ho3⟩) | (go_at_call 161; refine (rput_calls (Ov.withF l x (encode bk (noKinds n) (noBlocks n))) v3 (.slice a l.length c) b room w2.heap.size _ hwl hroom (by exact make_blk (unhide HB) (unhide HK).below hb2 hb3) ho3 (unhide HWS)).mono ?_; intro e w4 hp4; obtain ⟨rfl, hleft⟩ := (unhide HR).put (make_below (unhide HK).below hb2 hb3) (make_own ho3 (unhide HK).below hb2) hp4))
    all_goals (go_wp2_with fail; go_ret; exact ⟨by rw [unhide HF]; rfl, by rw [unhide HF]; exact hleft⟩)

end Go.Proofs.YtomiepknmmpflaaGreatDoor
