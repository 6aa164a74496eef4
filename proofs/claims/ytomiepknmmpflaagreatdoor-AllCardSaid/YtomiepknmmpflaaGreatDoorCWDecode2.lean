/- Decode, where the head of the file is not that of an image; and Decode whole. -/
import Derived.Test.YtomiepknmmpflaaGreatDoorCWDecode
namespace Go.Proofs.YtomiepknmmpflaaGreatDoor
open Go.RowKit Go.Joins

set_option maxRecDepth 100000 in
set_option maxHeartbeats 1000000 in
theorem rDecode_short (s : ByteArray) (w : World) (hs : s.size ≤ 1000) (hno : ¬ Ov.isImage s) (h5 : s.size < 5) :
    Calls Tryz.prog 169 #[.string s] w (DecodePost s w) := by
  have hby := Ov.byteAt_eq s
  have Hno := hide hno
  clear hno
  go_enter Tryz.func169, Tryz.ntmps169
  go_wp2_with fail
  exact bodyPost_ret (v := .tuple #[.agg #[.string ⟨#[]⟩, .slice none 0 0, .slice none 0 0, .int .i64 0], .bool false]) (by simp [results, Tryz.results169, go_sem]) rfl ⟨below_alloc2 w _ _, Or.inl ⟨unhide Hno, _, _, _, _, _, _, _, _, rfl⟩⟩

set_option maxRecDepth 100000 in
set_option maxHeartbeats 1000000 in
theorem rDecode_noOV (s : ByteArray) (w : World) (hs : s.size ≤ 1000) (hno : ¬ Ov.isImage s) (h5 : 5 ≤ s.size) (hov : (s.extract 0 2).toList ≠ [79, 86]) :
    Calls Tryz.prog 169 #[.string s] w (DecodePost s w) := by
  have hby := Ov.byteAt_eq s
  have Hno := hide hno
  clear hno
  go_enter Tryz.func169, Tryz.ntmps169
  go_wp2_with fail
  exact bodyPost_ret (v := .tuple #[.agg #[.string ⟨#[]⟩, .slice none 0 0, .slice none 0 0, .int .i64 0], .bool false]) (by simp [results, Tryz.results169, go_sem]) rfl ⟨below_alloc2 w _ _, Or.inl ⟨unhide Hno, _, _, _, _, _, _, _, _, rfl⟩⟩

set_option maxRecDepth 100000 in
set_option maxHeartbeats 1000000 in
theorem rDecode_no1 (s : ByteArray) (w : World) (hs : s.size ≤ 1000) (hno : ¬ Ov.isImage s) (h5 : 5 ≤ s.size) (hov : (s.extract 0 2).toList = [79, 86]) (b : Nat) (h2 : Ov.byteAt s 2 = b) (hb : ((b : Int) != 1) = true) :
    Calls Tryz.prog 169 #[.string s] w (DecodePost s w) := by
  have hby := Ov.byteAt_eq s
  have Hno := hide hno
  clear hno
  go_enter Tryz.func169, Tryz.ntmps169
  go_wp2_with fail
  exact bodyPost_ret (v := .tuple #[.agg #[.string ⟨#[]⟩, .slice none 0 0, .slice none 0 0, .int .i64 0], .bool false]) (by simp [results, Tryz.results169, go_sem]) rfl ⟨below_alloc2 w _ _, Or.inl ⟨unhide Hno, _, _, _, _, _, _, _, _, rfl⟩⟩

set_option maxRecDepth 100000 in
set_option maxHeartbeats 1000000 in
theorem rDecode_m0 (s : ByteArray) (w : World) (hs : s.size ≤ 1000) (hno : ¬ Ov.isImage s) (h5 : 5 ≤ s.size) (hov : (s.extract 0 2).toList = [79, 86]) (h2 : Ov.byteAt s 2 = 1) (m l : Nat) (hm : Ov.byteAt s 3 = m) (hl : Ov.byteAt s 4 = l) (hm256 : m < 256) (hl256 : l < 256) (hx : m < 1) :
    Calls Tryz.prog 169 #[.string s] w (DecodePost s w) := by
  have hby := Ov.byteAt_eq s
  have Hno := hide hno
  clear hno
  go_enter Tryz.func169, Tryz.ntmps169
  go_wp2_with fail
  exact bodyPost_ret (v := .tuple #[.agg #[.string ⟨#[]⟩, .slice none 0 0, .slice none 0 0, .int .i64 0], .bool false]) (by simp [results, Tryz.results169, go_sem]) rfl ⟨below_alloc2 w _ _, Or.inl ⟨unhide Hno, _, _, _, _, _, _, _, _, rfl⟩⟩

set_option maxRecDepth 100000 in
set_option maxHeartbeats 1000000 in
theorem rDecode_m31 (s : ByteArray) (w : World) (hs : s.size ≤ 1000) (hno : ¬ Ov.isImage s) (h5 : 5 ≤ s.size) (hov : (s.extract 0 2).toList = [79, 86]) (h2 : Ov.byteAt s 2 = 1) (m l : Nat) (hm : Ov.byteAt s 3 = m) (hl : Ov.byteAt s 4 = l) (hm256 : m < 256) (hl256 : l < 256) (hm1 : 1 ≤ m) (hx : 30 < m) :
    Calls Tryz.prog 169 #[.string s] w (DecodePost s w) := by
  have hby := Ov.byteAt_eq s
  have Hno := hide hno
  clear hno
  go_enter Tryz.func169, Tryz.ntmps169
  go_wp2_with fail
  exact bodyPost_ret (v := .tuple #[.agg #[.string ⟨#[]⟩, .slice none 0 0, .slice none 0 0, .int .i64 0], .bool false]) (by simp [results, Tryz.results169, go_sem]) rfl ⟨below_alloc2 w _ _, Or.inl ⟨unhide Hno, _, _, _, _, _, _, _, _, rfl⟩⟩

set_option maxRecDepth 100000 in
set_option maxHeartbeats 1000000 in
theorem rDecode_l9 (s : ByteArray) (w : World) (hs : s.size ≤ 1000) (hno : ¬ Ov.isImage s) (h5 : 5 ≤ s.size) (hov : (s.extract 0 2).toList = [79, 86]) (h2 : Ov.byteAt s 2 = 1) (m l : Nat) (hm : Ov.byteAt s 3 = m) (hl : Ov.byteAt s 4 = l) (hm256 : m < 256) (hl256 : l < 256) (hm1 : 1 ≤ m) (hm30 : m ≤ 30) (hx : 8 < l) :
    Calls Tryz.prog 169 #[.string s] w (DecodePost s w) := by
  have hby := Ov.byteAt_eq s
  have Hno := hide hno
  clear hno
  go_enter Tryz.func169, Tryz.ntmps169
  go_wp2_with fail
  exact bodyPost_ret (v := .tuple #[.agg #[.string ⟨#[]⟩, .slice none 0 0, .slice none 0 0, .int .i64 0], .bool false]) (by simp [results, Tryz.results169, go_sem]) rfl ⟨below_alloc2 w _ _, Or.inl ⟨unhide Hno, _, _, _, _, _, _, _, _, rfl⟩⟩

set_option maxRecDepth 100000 in
set_option maxHeartbeats 1000000 in
theorem rDecode_cut (s : ByteArray) (w : World) (hs : s.size ≤ 1000) (hno : ¬ Ov.isImage s) (h5 : 5 ≤ s.size) (hov : (s.extract 0 2).toList = [79, 86]) (h2 : Ov.byteAt s 2 = 1) (m l : Nat) (hm : Ov.byteAt s 3 = m) (hl : Ov.byteAt s 4 = l) (hm256 : m < 256) (hl256 : l < 256) (hm1 : 1 ≤ m) (hm30 : m ≤ 30) (hl8 : l ≤ 8) (hx : s.size < 5 + l + m + 1) :
    Calls Tryz.prog 169 #[.string s] w (DecodePost s w) := by
  have hby := Ov.byteAt_eq s
  have Hno := hide hno
  clear hno
  go_enter Tryz.func169, Tryz.ntmps169
  go_wp2_with fail
  exact bodyPost_ret (v := .tuple #[.agg #[.string ⟨#[]⟩, .slice none 0 0, .slice none 0 0, .int .i64 0], .bool false]) (by simp [results, Tryz.results169, go_sem]) rfl ⟨below_alloc2 w _ _, Or.inl ⟨unhide Hno, _, _, _, _, _, _, _, _, rfl⟩⟩

set_option maxRecDepth 100000 in
set_option maxHeartbeats 1000000 in
theorem rDecode_name (s : ByteArray) (w : World) (hs : s.size ≤ 1000) (hno : ¬ Ov.isImage s) (h5 : 5 ≤ s.size) (hov : (s.extract 0 2).toList = [79, 86]) (h2 : Ov.byteAt s 2 = 1) (m l : Nat) (hm : Ov.byteAt s 3 = m) (hl : Ov.byteAt s 4 = l) (hm256 : m < 256) (hl256 : l < 256) (hm1 : 1 ≤ m) (hm30 : m ≤ 30) (hl8 : l ≤ 8) (hb : 5 + l + m + 1 ≤ s.size) (hl0 : 0 < l) (hnm : Ov.nameB (s.extract 5 (5 + l)) = false) :
    Calls Tryz.prog 169 #[.string s] w (DecodePost s w) := by
  have hby := Ov.byteAt_eq s
  have Hno := hide hno
  clear hno
  go_enter Tryz.func169, Tryz.ntmps169
  go_wp2_with ((go_at_call 168; refine (rIsName_calls _ _).mono ?_; rintro e w' ⟨rfl, rfl⟩))
  exact bodyPost_ret (v := .tuple #[.agg #[.string (s.extract 5 (5 + l)), .slice none 0 0, .slice none 0 0, .int .i64 0], .bool false]) (by simp [results, Tryz.results169, go_sem]) rfl ⟨below_alloc2 w _ _, Or.inl ⟨unhide Hno, _, _, _, _, _, _, _, _, rfl⟩⟩

set_option maxRecDepth 100000 in
set_option maxHeartbeats 1000000 in
theorem rDecode_n61x0 (s : ByteArray) (w : World) (hs : s.size ≤ 1000) (hno : ¬ Ov.isImage s) (h5 : 5 ≤ s.size) (hov : (s.extract 0 2).toList = [79, 86]) (h2 : Ov.byteAt s 2 = 1) (m l : Nat) (hm : Ov.byteAt s 3 = m) (hl : Ov.byteAt s 4 = l) (hm256 : m < 256) (hl256 : l < 256) (hm1 : 1 ≤ m) (hm30 : m ≤ 30) (hl8 : l ≤ 8) (hb : 5 + l + m + 1 ≤ s.size) (hl0 : decide (0 < l) = false) (n : Nat) (hn : Ov.byteAt s (5 + l + m) = n) (hn256 : n < 256) (hx : decide ((60 : Int) < (n : Int)) = true) :
    Calls Tryz.prog 169 #[.string s] w (DecodePost s w) := by
  have hby := Ov.byteAt_eq s
  have Hno := hide hno
  clear hno
  go_enter Tryz.func169, Tryz.ntmps169
  go_wp2_with ((go_at_call 168; refine (rIsName_calls _ _).mono ?_; rintro e w' ⟨rfl, rfl⟩))
  exact bodyPost_ret (v := .tuple #[.agg #[.string (s.extract 5 (5 + l)), .slice none 0 0, .slice none 0 0, .int .i64 0], .bool false]) (by simp [results, Tryz.results169, go_sem]) rfl ⟨below_alloc2 w _ _, Or.inl ⟨unhide Hno, _, _, _, _, _, _, _, _, rfl⟩⟩

set_option maxRecDepth 100000 in
set_option maxHeartbeats 1000000 in
theorem rDecode_sizex0 (s : ByteArray) (w : World) (hs : s.size ≤ 1000) (hno : ¬ Ov.isImage s) (h5 : 5 ≤ s.size) (hov : (s.extract 0 2).toList = [79, 86]) (h2 : Ov.byteAt s 2 = 1) (m l : Nat) (hm : Ov.byteAt s 3 = m) (hl : Ov.byteAt s 4 = l) (hm256 : m < 256) (hl256 : l < 256) (hm1 : 1 ≤ m) (hm30 : m ≤ 30) (hl8 : l ≤ 8) (hb : 5 + l + m + 1 ≤ s.size) (hl0 : decide (0 < l) = false) (n : Nat) (hn : Ov.byteAt s (5 + l + m) = n) (hn60 : n ≤ 60) (hx : ((s.size : Int) != 5 + (l : Int) + (m : Int) + 1 + 8 * (n : Int)) = true) :
    Calls Tryz.prog 169 #[.string s] w (DecodePost s w) := by
  have hby := Ov.byteAt_eq s
  have Hno := hide hno
  clear hno
  go_enter Tryz.func169, Tryz.ntmps169
  go_wp2_with ((go_at_call 168; refine (rIsName_calls _ _).mono ?_; rintro e w' ⟨rfl, rfl⟩))
  exact bodyPost_ret (v := .tuple #[.agg #[.string (s.extract 5 (5 + l)), .slice none 0 0, .slice none 0 0, .int .i64 0], .bool false]) (by simp [results, Tryz.results169, go_sem]) rfl ⟨below_alloc2 w _ _, Or.inl ⟨unhide Hno, _, _, _, _, _, _, _, _, rfl⟩⟩

set_option maxRecDepth 100000 in
set_option maxHeartbeats 1000000 in
theorem rDecode_n61x1 (s : ByteArray) (w : World) (hs : s.size ≤ 1000) (hno : ¬ Ov.isImage s) (h5 : 5 ≤ s.size) (hov : (s.extract 0 2).toList = [79, 86]) (h2 : Ov.byteAt s 2 = 1) (m l : Nat) (hm : Ov.byteAt s 3 = m) (hl : Ov.byteAt s 4 = l) (hm256 : m < 256) (hl256 : l < 256) (hm1 : 1 ≤ m) (hm30 : m ≤ 30) (hl8 : l ≤ 8) (hb : 5 + l + m + 1 ≤ s.size) (hl0 : 0 < l) (hnm : Ov.nameB (s.extract 5 (5 + l)) = true) (n : Nat) (hn : Ov.byteAt s (5 + l + m) = n) (hn256 : n < 256) (hx : decide ((60 : Int) < (n : Int)) = true) :
    Calls Tryz.prog 169 #[.string s] w (DecodePost s w) := by
  have hby := Ov.byteAt_eq s
  have Hno := hide hno
  clear hno
  go_enter Tryz.func169, Tryz.ntmps169
  go_wp2_with ((go_at_call 168; refine (rIsName_calls _ _).mono ?_; rintro e w' ⟨rfl, rfl⟩))
  exact bodyPost_ret (v := .tuple #[.agg #[.string (s.extract 5 (5 + l)), .slice none 0 0, .slice none 0 0, .int .i64 0], .bool false]) (by simp [results, Tryz.results169, go_sem]) rfl ⟨below_alloc2 w _ _, Or.inl ⟨unhide Hno, _, _, _, _, _, _, _, _, rfl⟩⟩

set_option maxRecDepth 100000 in
set_option maxHeartbeats 1000000 in
theorem rDecode_sizex1 (s : ByteArray) (w : World) (hs : s.size ≤ 1000) (hno : ¬ Ov.isImage s) (h5 : 5 ≤ s.size) (hov : (s.extract 0 2).toList = [79, 86]) (h2 : Ov.byteAt s 2 = 1) (m l : Nat) (hm : Ov.byteAt s 3 = m) (hl : Ov.byteAt s 4 = l) (hm256 : m < 256) (hl256 : l < 256) (hm1 : 1 ≤ m) (hm30 : m ≤ 30) (hl8 : l ≤ 8) (hb : 5 + l + m + 1 ≤ s.size) (hl0 : 0 < l) (hnm : Ov.nameB (s.extract 5 (5 + l)) = true) (n : Nat) (hn : Ov.byteAt s (5 + l + m) = n) (hn60 : n ≤ 60) (hx : ((s.size : Int) != 5 + (l : Int) + (m : Int) + 1 + 8 * (n : Int)) = true) :
    Calls Tryz.prog 169 #[.string s] w (DecodePost s w) := by
  have hby := Ov.byteAt_eq s
  have Hno := hide hno
  clear hno
  go_enter Tryz.func169, Tryz.ntmps169
  go_wp2_with ((go_at_call 168; refine (rIsName_calls _ _).mono ?_; rintro e w' ⟨rfl, rfl⟩))
  exact bodyPost_ret (v := .tuple #[.agg #[.string (s.extract 5 (5 + l)), .slice none 0 0, .slice none 0 0, .int .i64 0], .bool false]) (by simp [results, Tryz.results169, go_sem]) rfl ⟨below_alloc2 w _ _, Or.inl ⟨unhide Hno, _, _, _, _, _, _, _, _, rfl⟩⟩

end Go.Proofs.YtomiepknmmpflaaGreatDoor

