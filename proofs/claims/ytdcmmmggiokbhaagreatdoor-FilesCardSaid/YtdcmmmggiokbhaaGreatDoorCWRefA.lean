/- The walks of the reference's Load and Dump. -/
import Derived.Test.YtdcmmmggiokbhaaGreatDoorCPStore
namespace Go.Proofs.YtdcmmmggiokbhaaGreatDoor
open Go.RowKit Go.Joins

set_option maxRecDepth 100000 in
set_option maxHeartbeats 400000 in
theorem rLoad_calls (l : Ov.Files) (x f : ByteArray) (b room : Nat) (w : World) (hi : Ov.LI room l) (h : RefRep w b room l) :
    Calls Tryz.prog 31 #[.pointer (some ⟨b, 0, none⟩), .string x, .string f] w fun e w' => e = .returned (.int .i64 (Ov.loadF room l x f).1) ∧ RefLeft w b room (Ov.loadF room l x f).2 w' := by
  obtain ⟨v, h1, h2, h3⟩ := id h
  have HR := hide h
  obtain ⟨a, c, rfl⟩ := owns_slice h2
  have c1 : w.cell? ⟨b, 1, none⟩ = some (.slice a l.length c) := blk_cell h1 rfl
  have HO := hide h2
  have HB := hide h1
  have HI := hide hi
  have hl8 := hi.len
  clear h h1 h2 h3 hi
  cases hn : Ov.nameB x
  · have HL : Hid (Ov.loadF room l x f = (2, l)) := by unfold Ov.loadF; rw [if_pos hn]; exact rfl
    go_enter Tryz.func31, Tryz.ntmps31
    go_wp2_with (go_at_call 66; refine (rIsName_calls _ _).mono ?_; rintro e w' ⟨rfl, hw⟩; obtain rfl := hw.symm)
    go_ret
    exact ⟨by rw [unhide HL]; rfl, by rw [unhide HL]; exact (unhide HR).here⟩
  by_cases hf : 1000 < f.size
  · have HL : Hid (Ov.loadF room l x f = (1, l)) := by unfold Ov.loadF; rw [if_neg (by rw [hn]; simp), if_pos (Or.inl hf)]; exact rfl
    have hfb : decide ((1000 : Int) < (f.size : Int)) = true := decide_eq_true (by omega)
    go_enter Tryz.func31, Tryz.ntmps31
    go_wp2_with (go_at_call 66; refine (rIsName_calls _ _).mono ?_; rintro e w' ⟨rfl, hw⟩; obtain rfl := hw.symm)
    go_ret
    exact ⟨by rw [unhide HL]; rfl, by rw [unhide HL]; exact (unhide HR).here⟩
  have hfb : decide ((1000 : Int) < (f.size : Int)) = false := decide_eq_false (by omega)
  by_cases hp : Ov.place l x < l.length
  · have hfd : Ov.find l x = (Ov.place l x : Int) := Ov.find_yes hp
    have HL : Hid (Ov.loadF room l x f = Ov.putF room l (Ov.withF l x f)) := by unfold Ov.loadF; rw [if_neg (by rw [hn]; simp), if_neg (by omega)]; exact rfl
    have hwl : (Ov.withF l x f).length ≤ 9 := by rw [Ov.withF_length, if_pos hp]; omega
    have HWS := hide (Ov.withF_size (x := x) (b := f) (unhide HI).size (by omega))
    have hroom := (unhide HI).room
    by_cases h8 : l.length = 8
    · have hq : ((l.length : Int) == 8) = true := beq_iff_eq.2 (by omega)
      clear h8
      go_enter Tryz.func31, Tryz.ntmps31
      go_wp2_with (first | (go_at_call 66; refine (rIsName_calls _ _).mono ?_; rintro e w' ⟨rfl, hw⟩; obtain rfl := hw.symm) | (go_at_call 60; refine (rFind_calls l _ x 0 _ hl8 (unhide HO)).mono ?_; rintro e w' ⟨rfl, rfl⟩) | (go_at_call 54; refine (rwith_calls l _ x f 0 _ hl8 (unhide HO)).mono ?_; rintro e w1 ⟨v1, rfl, hb1, ho1⟩) | (go_at_call 53; refine (rput_calls (Ov.withF l x f) v1 (.slice a l.length c) b room w.heap.size _ hwl hroom (by rw [hb1.block b (blk_lt (unhide HB))]; exact unhide HB) ho1 (unhide HWS)).mono ?_; intro e w2 hp; obtain ⟨rfl, hleft⟩ := (unhide HR).put hb1 ho1 hp))
      go_ret
      exact ⟨by rw [unhide HL]; rfl, by rw [unhide HL]; exact hleft⟩
    · have hq : ((l.length : Int) == 8) = false := beq_eq_false_iff_ne.2 (by omega)
      clear h8
      go_enter Tryz.func31, Tryz.ntmps31
      go_wp2_with (first | (go_at_call 66; refine (rIsName_calls _ _).mono ?_; rintro e w' ⟨rfl, hw⟩; obtain rfl := hw.symm) | (go_at_call 60; refine (rFind_calls l _ x 0 _ hl8 (unhide HO)).mono ?_; rintro e w' ⟨rfl, rfl⟩) | (go_at_call 54; refine (rwith_calls l _ x f 0 _ hl8 (unhide HO)).mono ?_; rintro e w1 ⟨v1, rfl, hb1, ho1⟩) | (go_at_call 53; refine (rput_calls (Ov.withF l x f) v1 (.slice a l.length c) b room w.heap.size _ hwl hroom (by rw [hb1.block b (blk_lt (unhide HB))]; exact unhide HB) ho1 (unhide HWS)).mono ?_; intro e w2 hp; obtain ⟨rfl, hleft⟩ := (unhide HR).put hb1 ho1 hp))
      go_ret
      exact ⟨by rw [unhide HL]; rfl, by rw [unhide HL]; exact hleft⟩
  · have hfd : Ov.find l x = -1 := Ov.find_no hp
    by_cases h8 : l.length = 8
    · have HL : Hid (Ov.loadF room l x f = (1, l)) := by unfold Ov.loadF; rw [if_neg (by rw [hn]; simp), if_pos (Or.inr ⟨h8, hp⟩)]; exact rfl
      have hq : ((l.length : Int) == 8) = true := beq_iff_eq.2 (by omega)
      clear h8
      go_enter Tryz.func31, Tryz.ntmps31
      go_wp2_with (first | (go_at_call 66; refine (rIsName_calls _ _).mono ?_; rintro e w' ⟨rfl, hw⟩; obtain rfl := hw.symm) | (go_at_call 60; refine (rFind_calls l _ x 0 _ hl8 (unhide HO)).mono ?_; rintro e w' ⟨rfl, rfl⟩))
      go_ret
      exact ⟨by rw [unhide HL]; rfl, by rw [unhide HL]; exact (unhide HR).here⟩
    · have hq : ((l.length : Int) == 8) = false := beq_eq_false_iff_ne.2 (by omega)
      have HL : Hid (Ov.loadF room l x f = Ov.putF room l (Ov.withF l x f)) := by unfold Ov.loadF; rw [if_neg (by rw [hn]; simp), if_neg (by omega)]; exact rfl
      have hwl : (Ov.withF l x f).length ≤ 9 := by rw [Ov.withF_length, if_neg hp]; omega
      have HWS := hide (Ov.withF_size (x := x) (b := f) (unhide HI).size (by omega))
      have hroom := (unhide HI).room
      clear h8
      go_enter Tryz.func31, Tryz.ntmps31
      go_wp2_with (first | (go_at_call 66; refine (rIsName_calls _ _).mono ?_; rintro e w' ⟨rfl, hw⟩; obtain rfl := hw.symm) | (go_at_call 60; refine (rFind_calls l _ x 0 _ hl8 (unhide HO)).mono ?_; rintro e w' ⟨rfl, rfl⟩) | (go_at_call 54; refine (rwith_calls l _ x f 0 _ hl8 (unhide HO)).mono ?_; rintro e w1 ⟨v1, rfl, hb1, ho1⟩) | (go_at_call 53; refine (rput_calls (Ov.withF l x f) v1 (.slice a l.length c) b room w.heap.size _ hwl hroom (by rw [hb1.block b (blk_lt (unhide HB))]; exact unhide HB) ho1 (unhide HWS)).mono ?_; intro e w2 hp; obtain ⟨rfl, hleft⟩ := (unhide HR).put hb1 ho1 hp))
      go_ret
      exact ⟨by rw [unhide HL]; rfl, by rw [unhide HL]; exact hleft⟩

set_option maxRecDepth 100000 in
set_option maxHeartbeats 400000 in
theorem rDump_calls (l : Ov.Files) (x : ByteArray) (b room : Nat) (w : World) (hl8 : l.length ≤ 8) (h : RefRep w b room l) :
    Calls Tryz.prog 33 #[.pointer (some ⟨b, 0, none⟩), .string x] w fun e w' => e = .returned (.tuple #[.string (Ov.dumpF l x).1, .int .i64 (Ov.dumpF l x).2]) ∧ w = w' := by
  obtain ⟨v, h1, h2, h3⟩ := h
  obtain ⟨a, c, rfl⟩ := owns_slice h2
  have c1 : w.cell? ⟨b, 1, none⟩ = some (.slice a l.length c) := blk_cell h1 rfl
  have HO := hide h2
  clear h1 h2 h3
  by_cases hp : Ov.place l x < l.length
  · have hfd : Ov.find l x = (Ov.place l x : Int) := Ov.find_yes hp
    have HL : Hid (Ov.dumpF l x = (Ov.fileAt l (Ov.place l x), 0)) := by unfold Ov.dumpF; rw [if_pos hp]; exact rfl
    obtain ⟨g, cc, hv⟩ := ownsRow_form (unhide HO) (by omega)
    obtain ⟨rfl, rfl⟩ : a = some ⟨g, 0, none⟩ ∧ c = cc := by simpa using hv
    have cb := files_bytes (unhide HO) hp
    clear hv
    go_enter Tryz.func33, Tryz.ntmps33
    go_wp2_with (go_at_call 60; refine (rFind_calls l _ x 0 _ hl8 (unhide HO)).mono ?_; rintro e w' ⟨rfl, rfl⟩)
    go_ret2
    exact ⟨by rw [unhide HL]; rfl, rfl⟩
  · have hfd : Ov.find l x = -1 := Ov.find_no hp
    have HL : Hid (Ov.dumpF l x = (⟨#[]⟩, 4)) := by unfold Ov.dumpF; rw [if_neg hp]; exact rfl
    go_enter Tryz.func33, Tryz.ntmps33
    go_wp2_with (go_at_call 60; refine (rFind_calls l _ x 0 _ hl8 (unhide HO)).mono ?_; rintro e w' ⟨rfl, rfl⟩)
    go_ret2
    exact ⟨by rw [unhide HL]; rfl, rfl⟩

end Go.Proofs.YtdcmmmggiokbhaaGreatDoor

/- The walk of the reference's Drop, and of its New. -/
namespace Go.Proofs.YtdcmmmggiokbhaaGreatDoor
open Go.RowKit Go.Joins

def keepF (l : Ov.Files) (x : ByteArray) : Ov.Files := l.filter fun f => !decide (f.1 = x)
theorem keepF_take {l : Ov.Files} {x : ByteArray} {k : Nat} (hk : k < l.length) : keepF (l.take (k + 1)) x = keepF (l.take k) x ++ if Ov.nameAt l k = x then [] else [(Ov.nameAt l k, Ov.fileAt l k)] := by
  unfold keepF
  rw [List.take_succ_eq_append_getElem hk, List.filter_append]
  have e : Ov.nameAt l k = l[k].1 := by simp [Ov.nameAt, hk]
  have e2 : Ov.fileAt l k = l[k].2 := by simp [Ov.fileAt, hk]
  rw [e, e2]
  by_cases h : l[k].1 = x <;> simp [h]
theorem keepF_le (l : Ov.Files) (x : ByteArray) (k : Nat) : (keepF (l.take k) x).length ≤ k := by
  have := List.length_filter_le (fun f : ByteArray × ByteArray => !decide (f.1 = x)) (l.take k)
  have h2 := List.length_take_le k l
  unfold keepF; omega

set_option maxRecDepth 100000 in
set_option maxHeartbeats 400000 in
theorem rDrop_calls (l : Ov.Files) (x : ByteArray) (b room : Nat) (w : World) (hl8 : l.length ≤ 8) (h : RefRep w b room l) :
    Calls Tryz.prog 35 #[.pointer (some ⟨b, 0, none⟩), .string x] w fun e w' => e = .returned (.int .i64 (Ov.dropF l x).1) ∧ RefLeft w b room (Ov.dropF l x).2 w' := by
  obtain ⟨v, h1, h2, h3⟩ := id h
  have HR := hide h
  obtain ⟨a, c, rfl⟩ := owns_slice h2
  have c1 : w.cell? ⟨b, 1, none⟩ = some (.slice a l.length c) := blk_cell h1 rfl
  have HO := hide h2
  have HB := hide h1
  have hbl := blk_lt h1
  clear h h1 h2 h3
  by_cases hp : Ov.place l x < l.length
  · have hfd : Ov.find l x = (Ov.place l x : Int) := Ov.find_yes hp
    have HL : Hid (Ov.dropF l x = (0, keepF l x)) := by unfold Ov.dropF; rw [if_pos hp]; exact rfl
    obtain ⟨g, cc, hv⟩ := ownsRow_form (unhide HO) (by omega)
    obtain ⟨rfl, rfl⟩ : a = some ⟨g, 0, none⟩ ∧ c = cc := by simpa using hv
    obtain ⟨i0, hi, hz0, hz1, hz2⟩ := info_parts Tryz.infoFile
    clear hv
    go_enter Tryz.func35, Tryz.ntmps35
    go_wp2_with (go_at_call 60; refine (rFind_calls l _ x 0 _ hl8 (unhide HO)).mono ?_; rintro e w' ⟨rfl, rfl⟩)
    clear c1
    go_loopw [5, 6] (fun mv i wr => ∃ k, k ≤ l.length ∧ i = .int .i64 (k : Nat) ∧ Below w.heap.size w wr ∧ OwnsFiles wr w.heap.size mv (keepF (l.take k) x)) (fun _ i _ => l.length - (intOf i).toNat)
    case atStart => exact ⟨0, Nat.zero_le _, rfl, Below.refl _ _, World.ownsRow_nil _ _ _ _⟩
    case round =>
      obtain ⟨k, hk, rfl, hbel, hown⟩ := hrel
      obtain ⟨ma, mc, rfl⟩ := owns_slice hown
      have hbk : wr.heap[b]? = _ := (hbel.block b hbl).trans (unhide HB)
      have c1 : wr.cell? ⟨b, 1, none⟩ = some (.slice (some ⟨g, 0, none⟩) l.length c) := blk_cell hbk rfl
      have f1 := blk_frozen hbk
      have HOr := hide (owns_below (unhide HO) (fun k hk => ((unhide HO).lt k hk).2) hbel)
      have hmk := keepF_le l x k
      have HM := hide hown
      have HBL := hide hbel
      have hsz := hbel.size
      clear hbk hown hbel
      by_cases hlt : k < l.length
      · have cn := files_name (unhide HOr) hlt
        have cb := files_bytes (unhide HOr) hlt
        have Hst := hide (keepF_take (x := x) hlt)
        obtain ⟨y, hy⟩ : ∃ y, Ov.nameAt l k = y := ⟨_, rfl⟩
        rw [hy] at cn
        have HY := hide hy
        clear hy
        by_cases hq : y = x
        · subst hq
          go_wp2_with fail
          go_roundw
          case rel => exact ⟨k + 1, by omega, by go_num, unhide HBL, by rw [unhide Hst, if_pos (unhide HY), List.append_nil]; exact unhide HM⟩
          case measure => simp [intOf]; omega
        · have hq' : (y.toList == x.toList) = false := by rw [beq_eq_false_iff_ne, ByteArray.toList_eq, ByteArray.toList_eq]; exact fun e => hq (Go.WideShapes.bytes_inj e)
          have hq'' : (y.toList != x.toList) = true := by rw [bne, hq']; rfl
          go_wp2_with (at_builtin; refine wpList_append_own _ rfl (.tmp 33) (.tmp 41) 57 rfl w.heap.size 116 i0 (.agg #[.string ⟨#[]⟩, .string ⟨#[]⟩]) 2 32 Tryz.underlying57 hi hz0 hz1 hz2 rfl (by decide) _ (keepF (l.take k) x).length _ rfl ((unhide HM).alloc _) ⟨wr.heap.size, 0, none⟩ 1 1 [.string y, .string (Ov.fileAt l k)] rfl rfl (two_new rfl) (two_strings _ _) (by unfold maxLen; omega) (by omega) (by simp; omega) ?_; intro v2 w2 ho2 hg2 _; obtain ⟨g2, c2, rfl⟩ := ownsRow_form ho2 (by omega))
          go_roundw
          case rel => exact ⟨k + 1, by omega, by go_num, ((unhide HBL).alloc hsz _).grown hg2 (by simp; omega) (fun j hj => ((unhide HM).lt j hj).1), by rw [unhide Hst, if_neg (by rw [unhide HY]; exact hq), unhide HY]; exact with_app_owns ho2⟩
          case measure => simp [intOf]; omega
      · obtain rfl : k = l.length := by omega
        rw [List.take_length] at HM hmk ⊢
        go_wp2_with fail
        go_ret
        exact ⟨by rw [unhide HL]; rfl, by rw [unhide HL]; exact ⟨((unhide HR).store (unhide HBL) (unhide HM)).1, ((unhide HR).store (unhide HBL) (unhide HM)).2⟩⟩
  · have hfd : Ov.find l x = -1 := Ov.find_no hp
    have HL : Hid (Ov.dropF l x = (4, l)) := by unfold Ov.dropF; rw [if_neg hp]; exact rfl
    go_enter Tryz.func35, Tryz.ntmps35
    go_wp2_with (go_at_call 60; refine (rFind_calls l _ x 0 _ hl8 (unhide HO)).mono ?_; rintro e w' ⟨rfl, rfl⟩)
    go_ret
    exact ⟨by rw [unhide HL]; rfl, by rw [unhide HL]; exact (unhide HR).here⟩

set_option maxRecDepth 100000 in
set_option maxHeartbeats 400000 in
theorem rNew_no (n : Int) (w : World) (h : n < 0 ∨ 4000 < n) : Calls Tryz.prog 10 #[.int .i64 n] w fun e w' => e = .returned (.tuple #[.pointer none, .int .i64 1]) ∧ w = w' := by
  rcases h with h | h
  · go_enter Tryz.func10, Tryz.ntmps10
    go_wp2
    go_ret2
    exact ⟨rfl, rfl⟩
  · have h0 : decide (n < 0) = false := decide_eq_false (by omega)
    go_enter Tryz.func10, Tryz.ntmps10
    go_wp2
    go_ret2
    exact ⟨rfl, rfl⟩
set_option maxRecDepth 100000 in
set_option maxHeartbeats 400000 in
theorem rNew_yes (n : Nat) (w : World) (h : n ≤ 4000) : Calls Tryz.prog 10 #[.int .i64 n] w fun e w' => e = .returned (.tuple #[.pointer (some ⟨w.heap.size, 0, none⟩), .int .i64 0]) ∧ w' = w.alloc (.cells #[.int .i64 n, .slice none 0 0] 59) := by
  go_enter Tryz.func10, Tryz.ntmps10
  go_wp2
  go_ret2
  exact ⟨rfl, rfl⟩
theorem RefRep.new (w : World) (n : Nat) : RefRep (w.alloc (.cells #[.int .i64 n, .slice none 0 0] 59)) w.heap.size n [] :=
  ⟨_, by show (w.heap.push _)[w.heap.size]? = _; simp, World.ownsRow_nil _ _ _ _, by simp [Value.ownBlock]⟩

end Go.Proofs.YtdcmmmggiokbhaaGreatDoor
