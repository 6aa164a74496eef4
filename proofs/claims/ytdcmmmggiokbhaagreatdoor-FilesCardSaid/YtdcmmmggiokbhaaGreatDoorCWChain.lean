/- The walks of the reference's sound and Chain. -/
import Derived.Test.YtdcmmmggiokbhaaGreatDoorCPStore
import Derived.Test.YtdcmmmggiokbhaaGreatDoorCWDown
namespace Go.Proofs.YtdcmmmggiokbhaaGreatDoor
open Go.RowKit Go.Joins

set_option maxRecDepth 100000 in
set_option maxHeartbeats 400000 in
theorem rsound_calls (l : Ov.Files) (x : ByteArray) (b room : Nat) (w : World) (hi : Ov.LI room l) (h : RefRep w b room l) :
    Calls Tryz.prog 58 #[.pointer (some ⟨b, 0, none⟩), .string x] w fun e w' => e = .returned (.int .i64 (Ov.soundF l x)) ∧ Below w.heap.size w w' := by
  obtain ⟨v, h1, h2, h3⟩ := h
  obtain ⟨a, c, rfl⟩ := owns_slice h2
  have c1 : w.cell? ⟨b, 1, none⟩ = some (.slice a l.length c) := blk_cell h1 rfl
  have HO := hide h2
  have HI := hide hi
  have hl8 := hi.len
  clear h1 h2 h3 hi
  by_cases hp : Ov.place l x < l.length
  · have hfd : Ov.find l x = (Ov.place l x : Int) := Ov.find_yes hp
    have HL : Hid (Ov.soundF l x = (Ov.downOf l x).2.1) := by unfold Ov.soundF; rw [if_pos hp]; exact rfl
    go_enter Tryz.func58, Tryz.ntmps58
    go_wp2_with (first | (go_at_call 60; refine (rFind_calls l _ x 0 _ hl8 (unhide HO)).mono ?_; rintro e w' ⟨rfl, rfl⟩) | (go_at_call 59; refine (rDown_calls l _ x 0 _ hl8 (unhide HO) (unhide HI).size hp).mono ?_; rintro e w1 ⟨nv, rfl, hb1, hn1⟩))
    go_ret
    exact ⟨by rw [unhide HL]; rfl, hb1⟩
  · have hfd : Ov.find l x = -1 := Ov.find_no hp
    have HL : Hid (Ov.soundF l x = 4) := by unfold Ov.soundF; rw [if_neg hp]; exact rfl
    go_enter Tryz.func58, Tryz.ntmps58
    go_wp2_with (go_at_call 60; refine (rFind_calls l _ x 0 _ hl8 (unhide HO)).mono ?_; rintro e w' ⟨rfl, rfl⟩)
    go_ret
    exact ⟨by rw [unhide HL]; rfl, Below.refl _ _⟩

set_option maxRecDepth 100000 in
set_option maxHeartbeats 400000 in
theorem rChain_calls (l : Ov.Files) (x : ByteArray) (b room : Nat) (w : World) (hi : Ov.LI room l) (h : RefRep w b room l) :
    Calls Tryz.prog 39 #[.pointer (some ⟨b, 0, none⟩), .string x] w fun e w' => e = .returned (.tuple #[.string (Ov.chainF l x).1, .string (Ov.chainF l x).2.1, .int .i64 (Ov.chainF l x).2.2]) ∧ Below w.heap.size w w' := by
  obtain ⟨v, h1, h2, h3⟩ := h
  obtain ⟨a, c, rfl⟩ := owns_slice h2
  have c1 : w.cell? ⟨b, 1, none⟩ = some (.slice a l.length c) := blk_cell h1 rfl
  have HO := hide h2
  have HI := hide hi
  have hl8 := hi.len
  clear h1 h2 h3 hi
  by_cases hp : Ov.place l x < l.length
  · have hfd : Ov.find l x = (Ov.place l x : Int) := Ov.find_yes hp
    have HL : Hid (Ov.chainF l x = (Ov.joinTo (Ov.downOf l x).1 (Ov.downOf l x).1.length, (Ov.downOf l x).2.2, (Ov.downOf l x).2.1)) := by unfold Ov.chainF; rw [if_pos hp]; exact rfl
    have HJ := hide (fun k hk => Ov.joinTo_size ((unhide HI).down_size hp) k hk)
    have HNS := hide ((unhide HI).down_size hp)
    have hdl : (Ov.downOf l x).1.length ≤ l.length := by have := Ov.down_length (l := l) l.length (seen := []) (x := x); unfold Ov.downOf; simpa using this
    go_enter Tryz.func39, Tryz.ntmps39
    go_wp2_with (first | (go_at_call 60; refine (rFind_calls l _ x 0 _ hl8 (unhide HO)).mono ?_; rintro e w' ⟨rfl, rfl⟩) | (go_at_call 59; refine (rDown_calls l _ x 0 _ hl8 (unhide HO) (unhide HI).size hp).mono ?_; rintro e w1 ⟨nv, rfl, hb1, hn1⟩; obtain ⟨na, nc, rfl⟩ := owns_slice hn1; have HN := hide hn1; have HB1 := hide hb1; clear hn1 hb1))
    generalize hD : (Ov.downOf l x).1 = ns at *
    go_loop [10, 11] (fun t i => ∃ k : Nat, k ≤ ns.length ∧ i = .int .i64 k ∧ t = .string (Ov.joinTo ns k)) (fun _ i => ns.length - (intOf i).toNat)
    case atStart => exact ⟨0, Nat.zero_le _, rfl, rfl⟩
    case round =>
      obtain ⟨k, hk, rfl, rfl⟩ := hrel
      have hjs := unhide HJ k hk
      by_cases hlt : k < ns.length
      · obtain ⟨g, cc, hv⟩ := ownsRow_form (unhide HN) (by omega)
        obtain ⟨rfl, rfl⟩ : na = some ⟨g, 0, none⟩ ∧ nc = cc := by simpa using hv
        have cn := texts_cell (unhide HN) hlt
        have hz8 : (ns.getD k ⟨#[]⟩).size ≤ 8 := by
          rw [List.getD_eq_getElem?_getD, List.getElem?_eq_getElem hlt]
          exact unhide HNS _ (List.getElem_mem hlt)
        obtain ⟨z, hz⟩ : ∃ z, ns.getD k ⟨#[]⟩ = z := ⟨_, rfl⟩
        rw [hz] at cn hz8
        have HZ := hide hz
        clear hv hz
        by_cases h0 : 0 < k
        · go_wp2
          go_round
          case rel => exact ⟨k + 1, by omega, by go_num, by rw [Ov.joinTo, if_pos h0, unhide HZ]⟩
          case measure => simp [intOf]; omega
        · go_wp2
          go_round
          case rel => exact ⟨k + 1, by omega, by go_num, by rw [Ov.joinTo, if_neg h0, unhide HZ]⟩
          case measure => simp [intOf]; omega
      · obtain rfl : k = ns.length := by omega
        go_wp2
        go_ret3
        exact ⟨by rw [unhide HL]; rfl, unhide HB1⟩
  · have hfd : Ov.find l x = -1 := Ov.find_no hp
    have HL : Hid (Ov.chainF l x = (⟨#[]⟩, ⟨#[]⟩, 4)) := by unfold Ov.chainF; rw [if_neg hp]; exact rfl
    go_enter Tryz.func39, Tryz.ntmps39
    go_wp2_with (go_at_call 60; refine (rFind_calls l _ x 0 _ hl8 (unhide HO)).mono ?_; rintro e w' ⟨rfl, rfl⟩)
    go_ret3
    exact ⟨by rw [unhide HL]; rfl, Below.refl _ _⟩

end Go.Proofs.YtdcmmmggiokbhaaGreatDoor
