/- The walks of the reference's Load and Dump. -/
import Derived.Test.YtomiepknmmpflaaGreatDoorCWDrop
namespace Go.Proofs.YtomiepknmmpflaaGreatDoor
open Go.RowKit Go.Joins

set_option maxRecDepth 100000 in
set_option maxHeartbeats 400000 in
theorem rLoad_calls (l : Ov.Files) (x f : ByteArray) (b room : Nat) (w : World) (hi : Ov.LI room l) (h : RefRep w b room l) :
    Calls Tryz.prog 118 #[.pointer (some ⟨b, 0, none⟩), .string x, .string f] w fun e w' => e = .returned (.int .i64 (Ov.loadF room l x f).1) ∧ RefLeft w b room (Ov.loadF room l x f).2 w' := by
  obtain ⟨v, h1, h2, h3⟩ := id h
  have HR := hide h
  obtain ⟨a, c, rfl⟩ := owns_slice h2
  have c1 : w.cell? ⟨b, 1, none⟩ = some (.slice a l.length c) := blk_cell h1 rfl
  have HO := hide h2
  have HB := hide h1
  have HI := hide hi
  have hl8 := hi.len
  clear h h1 h2 h3 hi
  cases hn : Ov.nameB x
  · have HL : Hid (Ov.loadF room l x f = (2, l)) := by unfold Ov.loadF; rw [if_pos hn]; exact rfl
    go_enter Tryz.func118, Tryz.ntmps118
    go_wp2_with (go_at_call 168; refine (rIsName_calls _ _).mono ?_; rintro e w' ⟨rfl, hw⟩; obtain rfl := hw.symm)
    go_ret
    exact ⟨by rw [unhide HL]; rfl, by rw [unhide HL]; exact (unhide HR).here⟩
  by_cases hf : 1000 < f.size
  · have HL : Hid (Ov.loadF room l x f = (1, l)) := by unfold Ov.loadF; rw [if_neg (by rw [hn]; simp), if_pos (Or.inl hf)]; exact rfl
    have hfb : decide ((1000 : Int) < (f.size : Int)) = true := decide_eq_true (by omega)
    go_enter Tryz.func118, Tryz.ntmps118
    go_wp2_with (go_at_call 168; refine (rIsName_calls _ _).mono ?_; rintro e w' ⟨rfl, hw⟩; obtain rfl := hw.symm)
    go_ret
    exact ⟨by rw [unhide HL]; rfl, by rw [unhide HL]; exact (unhide HR).here⟩
  have hfb : decide ((1000 : Int) < (f.size : Int)) = false := decide_eq_false (by omega)
  by_cases hp : Ov.place l x < l.length
  · have hfd : Ov.find l x = (Ov.place l x : Int) := Ov.find_yes hp
    have HL : Hid (Ov.loadF room l x f = Ov.putF room l (Ov.withF l x f)) := by unfold Ov.loadF; rw [if_neg (by rw [hn]; simp), if_neg (by omega)]; exact rfl
    have hwl : (Ov.withF l x f).length ≤ 9 := by rw [Ov.withF_length, if_pos hp]; omega
    have HWS := hide (Ov.withF_size (x := x) (b := f) (unhide HI).size (by omega))
    have hroom := (unhide HI).room
    by_cases h8 : l.length = 8
    · have hq : ((l.length : Int) == 8) = true := beq_iff_eq.2 (by omega)
      clear h8
      go_enter Tryz.func118, Tryz.ntmps118
      go_wp2_with (first | (go_at_call 168; refine (rIsName_calls _ _).mono ?_; rintro e w' ⟨rfl, hw⟩; obtain rfl := hw.symm) | (go_at_call 166; refine (rFind_calls l _ x 0 _ hl8 (unhide HO)).mono ?_; rintro e w' ⟨rfl, rfl⟩) | (go_at_call 162; refine (rwith_calls l _ x f 0 _ hl8 (unhide HO)).mono ?_; rintro e w1 ⟨v1, rfl, hb1, ho1⟩) | (go_at_call 161; refine (rput_calls (Ov.withF l x f) v1 (.slice a l.length c) b room w.heap.size _ hwl hroom (by rw [hb1.block b (blk_lt (unhide HB))]; exact unhide HB) ho1 (unhide HWS)).mono ?_; intro e w2 hp; obtain ⟨rfl, hleft⟩ := (unhide HR).put hb1 ho1 hp))
      go_ret
      exact ⟨by rw [unhide HL]; rfl, by rw [unhide HL]; exact hleft⟩
    · have hq : ((l.length : Int) == 8) = false := beq_eq_false_iff_ne.2 (by omega)
      clear h8
      go_enter Tryz.func118, Tryz.ntmps118
      go_wp2_with (first | (go_at_call 168; refine (rIsName_calls _ _).mono ?_; rintro e w' ⟨rfl, hw⟩; obtain rfl := hw.symm) | (go_at_call 166; refine (rFind_calls l _ x 0 _ hl8 (unhide HO)).mono ?_; rintro e w' ⟨rfl, rfl⟩) | (go_at_call 162; refine (rwith_calls l _ x f 0 _ hl8 (unhide HO)).mono ?_; rintro e w1 ⟨v1, rfl, hb1, ho1⟩) | (go_at_call 161; refine (rput_calls (Ov.withF l x f) v1 (.slice a l.length c) b room w.heap.size _ hwl hroom (by rw [hb1.block b (blk_lt (unhide HB))]; exact unhide HB) ho1 (unhide HWS)).mono ?_; intro e w2 hp; obtain ⟨rfl, hleft⟩ := (unhide HR).put hb1 ho1 hp))
      go_ret
      exact ⟨by rw [unhide HL]; rfl, by rw [unhide HL]; exact hleft⟩
  · have hfd : Ov.find l x = -1 := Ov.find_no hp
    by_cases h8 : l.length = 8
    · have HL : Hid (Ov.loadF room l x f = (1, l)) := by unfold Ov.loadF; rw [if_neg (by rw [hn]; simp), if_pos (Or.inr ⟨h8, hp⟩)]; exact rfl
      have hq : ((l.length : Int) == 8) = true := beq_iff_eq.2 (by omega)
      clear h8
      go_enter Tryz.func118, Tryz.ntmps118
      go_wp2_with (first | (go_at_call 168; refine (rIsName_calls _ _).mono ?_; rintro e w' ⟨rfl, hw⟩; obtain rfl := hw.symm) | (go_at_call 166; refine (rFind_calls l _ x 0 _ hl8 (unhide HO)).mono ?_; rintro e w' ⟨rfl, rfl⟩))
      go_ret
      exact ⟨by rw [unhide HL]; rfl, by rw [unhide HL]; exact (unhide HR).here⟩
    · have hq : ((l.length : Int) == 8) = false := beq_eq_false_iff_ne.2 (by omega)
      have HL : Hid (Ov.loadF room l x f = Ov.putF room l (Ov.withF l x f)) := by unfold Ov.loadF; rw [if_neg (by rw [hn]; simp), if_neg (by omega)]; exact rfl
      have hwl : (Ov.withF l x f).length ≤ 9 := by rw [Ov.withF_length, if_neg hp]; omega
      have HWS := hide (Ov.withF_size (x := x) (b := f) (unhide HI).size (by omega))
      have hroom := (unhide HI).room
      clear h8
      go_enter Tryz.func118, Tryz.ntmps118
      go_wp2_with (first | (go_at_call 168; refine (rIsName_calls _ _).mono ?_; rintro e w' ⟨rfl, hw⟩; obtain rfl := hw.symm) | (go_at_call 166; refine (rFind_calls l _ x 0 _ hl8 (unhide HO)).mono ?_; rintro e w' ⟨rfl, rfl⟩) | (go_at_call 162; refine (rwith_calls l _ x f 0 _ hl8 (unhide HO)).mono ?_; rintro e w1 ⟨v1, rfl, hb1, ho1⟩) | (go_at_call 161; refine (rput_calls (Ov.withF l x f) v1 (.slice a l.length c) b room w.heap.size _ hwl hroom (by rw [hb1.block b (blk_lt (unhide HB))]; exact unhide HB) ho1 (unhide HWS)).mono ?_; intro e w2 hp; obtain ⟨rfl, hleft⟩ := (unhide HR).put hb1 ho1 hp))
      go_ret
      exact ⟨by rw [unhide HL]; rfl, by rw [unhide HL]; exact hleft⟩

set_option maxRecDepth 100000 in
set_option maxHeartbeats 400000 in
theorem rDump_calls (l : Ov.Files) (x : ByteArray) (b room : Nat) (w : World) (hl8 : l.length ≤ 8) (h : RefRep w b room l) :
    Calls Tryz.prog 119 #[.pointer (some ⟨b, 0, none⟩), .string x] w fun e w' => e = .returned (.tuple #[.string (Ov.dumpF l x).1, .int .i64 (Ov.dumpF l x).2]) ∧ w = w' := by
  obtain ⟨v, h1, h2, h3⟩ := h
  obtain ⟨a, c, rfl⟩ := owns_slice h2
  have c1 : w.cell? ⟨b, 1, none⟩ = some (.slice a l.length c) := blk_cell h1 rfl
  have HO := hide h2
  clear h1 h2 h3
  by_cases hp : Ov.place l x < l.length
  · have hfd : Ov.find l x = (Ov.place l x : Int) := Ov.find_yes hp
    have HL : Hid (Ov.dumpF l x = (Ov.fileAt l (Ov.place l x), 0)) := by unfold Ov.dumpF; rw [if_pos hp]; exact rfl
    obtain ⟨g, cc, hv⟩ := ownsRow_form (unhide HO) (by omega)
    obtain ⟨rfl, rfl⟩ : a = some ⟨g, 0, none⟩ ∧ c = cc := by simpa using hv
    have cb := files_bytes (unhide HO) hp
    clear hv
    go_enter Tryz.func119, Tryz.ntmps119
    go_wp2_with (go_at_call 166; refine (rFind_calls l _ x 0 _ hl8 (unhide HO)).mono ?_; rintro e w' ⟨rfl, rfl⟩)
    go_ret2
    exact ⟨by rw [unhide HL]; rfl, rfl⟩
  · have hfd : Ov.find l x = -1 := Ov.find_no hp
    have HL : Hid (Ov.dumpF l x = (⟨#[]⟩, 4)) := by unfold Ov.dumpF; rw [if_neg hp]; exact rfl
    go_enter Tryz.func119, Tryz.ntmps119
    go_wp2_with (go_at_call 166; refine (rFind_calls l _ x 0 _ hl8 (unhide HO)).mono ?_; rintro e w' ⟨rfl, rfl⟩)
    go_ret2
    exact ⟨by rw [unhide HL]; rfl, rfl⟩

end Go.Proofs.YtomiepknmmpflaaGreatDoor
