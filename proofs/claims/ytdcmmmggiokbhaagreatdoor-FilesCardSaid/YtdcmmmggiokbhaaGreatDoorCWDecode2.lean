/- Decode, where the head of the file is not that of an image; and Decode whole. -/
import Derived.Test.YtdcmmmggiokbhaaGreatDoorCWDecode
namespace Go.Proofs.YtdcmmmggiokbhaaGreatDoor
open Go.RowKit Go.Joins

set_option maxRecDepth 100000 in
set_option maxHeartbeats 1000000 in
theorem rDecode_short (s : ByteArray) (w : World) (hs : s.size ≤ 1000) (hno : ¬ Ov.isImage s) (h5 : s.size < 5) :
    Calls Tryz.prog 75 #[.string s] w (DecodePost s w) := by
  have hby := Ov.byteAt_eq s
  have Hno := hide hno
  clear hno
  go_enter Tryz.func75, Tryz.ntmps75
  go_wp2_with fail
  exact bodyPost_ret (v := .tuple #[.agg #[.string ⟨#[]⟩, .slice none 0 0, .slice none 0 0, .int .i64 0], .bool false]) (by simp [results, Tryz.results75, go_sem]) rfl ⟨below_alloc2 w _ _, Or.inl ⟨unhide Hno, _, _, _, _, _, _, _, _, rfl⟩⟩

set_option maxRecDepth 100000 in
set_option maxHeartbeats 1000000 in
theorem rDecode_noOV (s : ByteArray) (w : World) (hs : s.size ≤ 1000) (hno : ¬ Ov.isImage s) (h5 : 5 ≤ s.size) (hov : (s.extract 0 2).toList ≠ [79, 86]) :
    Calls Tryz.prog 75 #[.string s] w (DecodePost s w) := by
  have hby := Ov.byteAt_eq s
  have Hno := hide hno
  clear hno
  go_enter Tryz.func75, Tryz.ntmps75
  go_wp2_with fail
  exact bodyPost_ret (v := .tuple #[.agg #[.string ⟨#[]⟩, .slice none 0 0, .slice none 0 0, .int .i64 0], .bool false]) (by simp [results, Tryz.results75, go_sem]) rfl ⟨below_alloc2 w _ _, Or.inl ⟨unhide Hno, _, _, _, _, _, _, _, _, rfl⟩⟩

set_option maxRecDepth 100000 in
set_option maxHeartbeats 1000000 in
theorem rDecode_no1 (s : ByteArray) (w : World) (hs : s.size ≤ 1000) (hno : ¬ Ov.isImage s) (h5 : 5 ≤ s.size) (hov : (s.extract 0 2).toList = [79, 86]) (b : Nat) (h2 : Ov.byteAt s 2 = b) (hb : ((b : Int) != 1) = true) :
    Calls Tryz.prog 75 #[.string s] w (DecodePost s w) := by
  have hby := Ov.byteAt_eq s
  have Hno := hide hno
  clear hno
  go_enter Tryz.func75, Tryz.ntmps75
  go_wp2_with fail
  exact bodyPost_ret (v := .tuple #[.agg #[.string ⟨#[]⟩, .slice none 0 0, .slice none 0 0, .int .i64 0], .bool false]) (by simp [results, Tryz.results75, go_sem]) rfl ⟨below_alloc2 w _ _, Or.inl ⟨unhide Hno, _, _, _, _, _, _, _, _, rfl⟩⟩

set_option maxRecDepth 100000 in
set_option maxHeartbeats 1000000 in
theorem rDecode_m0 (s : ByteArray) (w : World) (hs : s.size ≤ 1000) (hno : ¬ Ov.isImage s) (h5 : 5 ≤ s.size) (hov : (s.extract 0 2).toList = [79, 86]) (h2 : Ov.byteAt s 2 = 1) (m l : Nat) (hm : Ov.byteAt s 3 = m) (hl : Ov.byteAt s 4 = l) (hm256 : m < 256) (hl256 : l < 256) (hx : m < 1) :
    Calls Tryz.prog 75 #[.string s] w (DecodePost s w) := by
  have hby := Ov.byteAt_eq s
  have Hno := hide hno
  clear hno
  go_enter Tryz.func75, Tryz.ntmps75
  go_wp2_with fail
  exact bodyPost_ret (v := .tuple #[.agg #[.string ⟨#[]⟩, .slice none 0 0, .slice none 0 0, .int .i64 0], .bool false]) (by simp [results, Tryz.results75, go_sem]) rfl ⟨below_alloc2 w _ _, Or.inl ⟨unhide Hno, _, _, _, _, _, _, _, _, rfl⟩⟩

set_option maxRecDepth 100000 in
set_option maxHeartbeats 1000000 in
theorem rDecode_m31 (s : ByteArray) (w : World) (hs : s.size ≤ 1000) (hno : ¬ Ov.isImage s) (h5 : 5 ≤ s.size) (hov : (s.extract 0 2).toList = [79, 86]) (h2 : Ov.byteAt s 2 = 1) (m l : Nat) (hm : Ov.byteAt s 3 = m) (hl : Ov.byteAt s 4 = l) (hm256 : m < 256) (hl256 : l < 256) (hm1 : 1 ≤ m) (hx : 30 < m) :
    Calls Tryz.prog 75 #[.string s] w (DecodePost s w) := by
  have hby := Ov.byteAt_eq s
  have Hno := hide hno
  clear hno
  go_enter Tryz.func75, Tryz.ntmps75
  go_wp2_with fail
  exact bodyPost_ret (v := .tuple #[.agg #[.string ⟨#[]⟩, .slice none 0 0, .slice none 0 0, .int .i64 0], .bool false]) (by simp [results, Tryz.results75, go_sem]) rfl ⟨below_alloc2 w _ _, Or.inl ⟨unhide Hno, _, _, _, _, _, _, _, _, rfl⟩⟩

set_option maxRecDepth 100000 in
set_option maxHeartbeats 1000000 in
theorem rDecode_l9 (s : ByteArray) (w : World) (hs : s.size ≤ 1000) (hno : ¬ Ov.isImage s) (h5 : 5 ≤ s.size) (hov : (s.extract 0 2).toList = [79, 86]) (h2 : Ov.byteAt s 2 = 1) (m l : Nat) (hm : Ov.byteAt s 3 = m) (hl : Ov.byteAt s 4 = l) (hm256 : m < 256) (hl256 : l < 256) (hm1 : 1 ≤ m) (hm30 : m ≤ 30) (hx : 8 < l) :
    Calls Tryz.prog 75 #[.string s] w (DecodePost s w) := by
  have hby := Ov.byteAt_eq s
  have Hno := hide hno
  clear hno
  go_enter Tryz.func75, Tryz.ntmps75
  go_wp2_with fail
  exact bodyPost_ret (v := .tuple #[.agg #[.string ⟨#[]⟩, .slice none 0 0, .slice none 0 0, .int .i64 0], .bool false]) (by simp [results, Tryz.results75, go_sem]) rfl ⟨below_alloc2 w _ _, Or.inl ⟨unhide Hno, _, _, _, _, _, _, _, _, rfl⟩⟩

set_option maxRecDepth 100000 in
set_option maxHeartbeats 1000000 in
theorem rDecode_cut (s : ByteArray) (w : World) (hs : s.size ≤ 1000) (hno : ¬ Ov.isImage s) (h5 : 5 ≤ s.size) (hov : (s.extract 0 2).toList = [79, 86]) (h2 : Ov.byteAt s 2 = 1) (m l : Nat) (hm : Ov.byteAt s 3 = m) (hl : Ov.byteAt s 4 = l) (hm256 : m < 256) (hl256 : l < 256) (hm1 : 1 ≤ m) (hm30 : m ≤ 30) (hl8 : l ≤ 8) (hx : s.size < 5 + l + m + 1) :
    Calls Tryz.prog 75 #[.string s] w (DecodePost s w) := by
  have hby := Ov.byteAt_eq s
  have Hno := hide hno
  clear hno
  go_enter Tryz.func75, Tryz.ntmps75
  go_wp2_with fail
  exact bodyPost_ret (v := .tuple #[.agg #[.string ⟨#[]⟩, .slice none 0 0, .slice none 0 0, .int .i64 0], .bool false]) (by simp [results, Tryz.results75, go_sem]) rfl ⟨below_alloc2 w _ _, Or.inl ⟨unhide Hno, _, _, _, _, _, _, _, _, rfl⟩⟩

set_option maxRecDepth 100000 in
set_option maxHeartbeats 1000000 in
theorem rDecode_name (s : ByteArray) (w : World) (hs : s.size ≤ 1000) (hno : ¬ Ov.isImage s) (h5 : 5 ≤ s.size) (hov : (s.extract 0 2).toList = [79, 86]) (h2 : Ov.byteAt s 2 = 1) (m l : Nat) (hm : Ov.byteAt s 3 = m) (hl : Ov.byteAt s 4 = l) (hm256 : m < 256) (hl256 : l < 256) (hm1 : 1 ≤ m) (hm30 : m ≤ 30) (hl8 : l ≤ 8) (hb : 5 + l + m + 1 ≤ s.size) (hl0 : 0 < l) (hnm : Ov.nameB (s.extract 5 (5 + l)) = false) :
    Calls Tryz.prog 75 #[.string s] w (DecodePost s w) := by
  have hby := Ov.byteAt_eq s
  have Hno := hide hno
  clear hno
  go_enter Tryz.func75, Tryz.ntmps75
  go_wp2_with ((go_at_call 66; refine (rIsName_calls _ _).mono ?_; rintro e w' ⟨rfl, rfl⟩))
  exact bodyPost_ret (v := .tuple #[.agg #[.string (s.extract 5 (5 + l)), .slice none 0 0, .slice none 0 0, .int .i64 0], .bool false]) (by simp [results, Tryz.results75, go_sem]) rfl ⟨below_alloc2 w _ _, Or.inl ⟨unhide Hno, _, _, _, _, _, _, _, _, rfl⟩⟩

set_option maxRecDepth 100000 in
set_option maxHeartbeats 1000000 in
theorem rDecode_n61x0 (s : ByteArray) (w : World) (hs : s.size ≤ 1000) (hno : ¬ Ov.isImage s) (h5 : 5 ≤ s.size) (hov : (s.extract 0 2).toList = [79, 86]) (h2 : Ov.byteAt s 2 = 1) (m l : Nat) (hm : Ov.byteAt s 3 = m) (hl : Ov.byteAt s 4 = l) (hm256 : m < 256) (hl256 : l < 256) (hm1 : 1 ≤ m) (hm30 : m ≤ 30) (hl8 : l ≤ 8) (hb : 5 + l + m + 1 ≤ s.size) (hl0 : decide (0 < l) = false) (n : Nat) (hn : Ov.byteAt s (5 + l + m) = n) (hn256 : n < 256) (hx : decide ((60 : Int) < (n : Int)) = true) :
    Calls Tryz.prog 75 #[.string s] w (DecodePost s w) := by
  have hby := Ov.byteAt_eq s
  have Hno := hide hno
  clear hno
  go_enter Tryz.func75, Tryz.ntmps75
  go_wp2_with ((go_at_call 66; refine (rIsName_calls _ _).mono ?_; rintro e w' ⟨rfl, rfl⟩))
  exact bodyPost_ret (v := .tuple #[.agg #[.string (s.extract 5 (5 + l)), .slice none 0 0, .slice none 0 0, .int .i64 0], .bool false]) (by simp [results, Tryz.results75, go_sem]) rfl ⟨below_alloc2 w _ _, Or.inl ⟨unhide Hno, _, _, _, _, _, _, _, _, rfl⟩⟩

set_option maxRecDepth 100000 in
set_option maxHeartbeats 1000000 in
theorem rDecode_sizex0 (s : ByteArray) (w : World) (hs : s.size ≤ 1000) (hno : ¬ Ov.isImage s) (h5 : 5 ≤ s.size) (hov : (s.extract 0 2).toList = [79, 86]) (h2 : Ov.byteAt s 2 = 1) (m l : Nat) (hm : Ov.byteAt s 3 = m) (hl : Ov.byteAt s 4 = l) (hm256 : m < 256) (hl256 : l < 256) (hm1 : 1 ≤ m) (hm30 : m ≤ 30) (hl8 : l ≤ 8) (hb : 5 + l + m + 1 ≤ s.size) (hl0 : decide (0 < l) = false) (n : Nat) (hn : Ov.byteAt s (5 + l + m) = n) (hn60 : n ≤ 60) (hx : ((s.size : Int) != 5 + (l : Int) + (m : Int) + 1 + 8 * (n : Int)) = true) :
    Calls Tryz.prog 75 #[.string s] w (DecodePost s w) := by
  have hby := Ov.byteAt_eq s
  have Hno := hide hno
  clear hno
  go_enter Tryz.func75, Tryz.ntmps75
  go_wp2_with ((go_at_call 66; refine (rIsName_calls _ _).mono ?_; rintro e w' ⟨rfl, rfl⟩))
  exact bodyPost_ret (v := .tuple #[.agg #[.string (s.extract 5 (5 + l)), .slice none 0 0, .slice none 0 0, .int .i64 0], .bool false]) (by simp [results, Tryz.results75, go_sem]) rfl ⟨below_alloc2 w _ _, Or.inl ⟨unhide Hno, _, _, _, _, _, _, _, _, rfl⟩⟩

set_option maxRecDepth 100000 in
set_option maxHeartbeats 1000000 in
theorem rDecode_n61x1 (s : ByteArray) (w : World) (hs : s.size ≤ 1000) (hno : ¬ Ov.isImage s) (h5 : 5 ≤ s.size) (hov : (s.extract 0 2).toList = [79, 86]) (h2 : Ov.byteAt s 2 = 1) (m l : Nat) (hm : Ov.byteAt s 3 = m) (hl : Ov.byteAt s 4 = l) (hm256 : m < 256) (hl256 : l < 256) (hm1 : 1 ≤ m) (hm30 : m ≤ 30) (hl8 : l ≤ 8) (hb : 5 + l + m + 1 ≤ s.size) (hl0 : 0 < l) (hnm : Ov.nameB (s.extract 5 (5 + l)) = true) (n : Nat) (hn : Ov.byteAt s (5 + l + m) = n) (hn256 : n < 256) (hx : decide ((60 : Int) < (n : Int)) = true) :
    Calls Tryz.prog 75 #[.string s] w (DecodePost s w) := by
  have hby := Ov.byteAt_eq s
  have Hno := hide hno
  clear hno
  go_enter Tryz.func75, Tryz.ntmps75
  go_wp2_with ((go_at_call 66; refine (rIsName_calls _ _).mono ?_; rintro e w' ⟨rfl, rfl⟩))
  exact bodyPost_ret (v := .tuple #[.agg #[.string (s.extract 5 (5 + l)), .slice none 0 0, .slice none 0 0, .int .i64 0], .bool false]) (by simp [results, Tryz.results75, go_sem]) rfl ⟨below_alloc2 w _ _, Or.inl ⟨unhide Hno, _, _, _, _, _, _, _, _, rfl⟩⟩

set_option maxRecDepth 100000 in
set_option maxHeartbeats 1000000 in
theorem rDecode_sizex1 (s : ByteArray) (w : World) (hs : s.size ≤ 1000) (hno : ¬ Ov.isImage s) (h5 : 5 ≤ s.size) (hov : (s.extract 0 2).toList = [79, 86]) (h2 : Ov.byteAt s 2 = 1) (m l : Nat) (hm : Ov.byteAt s 3 = m) (hl : Ov.byteAt s 4 = l) (hm256 : m < 256) (hl256 : l < 256) (hm1 : 1 ≤ m) (hm30 : m ≤ 30) (hl8 : l ≤ 8) (hb : 5 + l + m + 1 ≤ s.size) (hl0 : 0 < l) (hnm : Ov.nameB (s.extract 5 (5 + l)) = true) (n : Nat) (hn : Ov.byteAt s (5 + l + m) = n) (hn60 : n ≤ 60) (hx : ((s.size : Int) != 5 + (l : Int) + (m : Int) + 1 + 8 * (n : Int)) = true) :
    Calls Tryz.prog 75 #[.string s] w (DecodePost s w) := by
  have hby := Ov.byteAt_eq s
  have Hno := hide hno
  clear hno
  go_enter Tryz.func75, Tryz.ntmps75
  go_wp2_with ((go_at_call 66; refine (rIsName_calls _ _).mono ?_; rintro e w' ⟨rfl, rfl⟩))
  exact bodyPost_ret (v := .tuple #[.agg #[.string (s.extract 5 (5 + l)), .slice none 0 0, .slice none 0 0, .int .i64 0], .bool false]) (by simp [results, Tryz.results75, go_sem]) rfl ⟨below_alloc2 w _ _, Or.inl ⟨unhide Hno, _, _, _, _, _, _, _, _, rfl⟩⟩

end Go.Proofs.YtdcmmmggiokbhaaGreatDoor

/- Decode whole. -/
namespace Go.Proofs.YtdcmmmggiokbhaaGreatDoor
open Go.RowKit Go.Joins

theorem ov_iff {s : ByteArray} (h : 5 ≤ s.size) : (s.extract 0 2).toList = [79, 86] ↔ Ov.byteAt s 0 = 79 ∧ Ov.byteAt s 1 = 86 := by
  rw [ByteArray.toList_eq, Lib.extract_data]
  have hl : 5 ≤ s.data.toList.length := by simpa using h
  unfold Ov.byteAt
  match hd : s.data.toList, hl with
  | a :: b :: r, _ =>
    simp only [List.drop_zero, Nat.sub_zero, List.take_succ_cons, List.take_zero, List.cons.injEq, and_true, List.getD_cons_zero, List.getD_cons_succ]
    constructor
    · rintro ⟨rfl, rfl⟩; exact ⟨rfl, rfl⟩
    · rintro ⟨h1, h2⟩; exact ⟨UInt8.toNat_inj.1 h1, UInt8.toNat_inj.1 h2⟩

theorem rDecode_calls (s : ByteArray) (w : World) (hs : s.size ≤ 1000) : Calls Tryz.prog 75 #[.string s] w (DecodePost s w) := by
  by_cases h5 : 5 ≤ s.size
  case neg => exact rDecode_short s w hs (fun h => h5 h.1.1) (by omega)
  by_cases hov : (s.extract 0 2).toList = [79, 86]
  case neg => exact rDecode_noOV s w hs (fun h => hov ((ov_iff h5).2 ⟨h.1.2.1, h.1.2.2.1⟩)) h5 hov
  have hov' := (ov_iff h5).1 hov
  by_cases h2 : Ov.byteAt s 2 = 1
  case neg => exact rDecode_no1 s w hs (fun h => h2 h.1.2.2.2.1) h5 hov _ rfl (by rw [bne_iff_ne]; omega)
  obtain ⟨m, hm⟩ : ∃ m, Ov.byteAt s 3 = m := ⟨_, rfl⟩
  obtain ⟨l, hl⟩ : ∃ l, Ov.byteAt s 4 = l := ⟨_, rfl⟩
  have hM : Ov.many s = m := hm
  have hL : Ov.long s = l := hl
  have hm256 : m < 256 := by rw [← hm]; exact Ov.byteAt_lt _ _
  have hl256 : l < 256 := by rw [← hl]; exact Ov.byteAt_lt _ _
  have hB : Ov.base s = 5 + l + m + 1 := by rw [Ov.base, hL, hM]
  have hBk : Ov.backing s = s.extract 5 (5 + l) := by rw [Ov.backing, hL]
  by_cases hm1 : 1 ≤ m
  case neg => exact rDecode_m0 s w hs (fun h => hm1 (by have := h.1.2.2.2.2.1; omega)) h5 hov h2 m l hm hl hm256 hl256 (by omega)
  by_cases hm30 : m ≤ 30
  case neg => exact rDecode_m31 s w hs (fun h => hm30 (by have := h.1.2.2.2.2.2.1; omega)) h5 hov h2 m l hm hl hm256 hl256 hm1 (by omega)
  by_cases hl8 : l ≤ 8
  case neg => exact rDecode_l9 s w hs (fun h => hl8 (by have := h.1.2.2.2.2.2.2.1; omega)) h5 hov h2 m l hm hl hm256 hl256 hm1 hm30 (by omega)
  by_cases hb : 5 + l + m + 1 ≤ s.size
  case neg => exact rDecode_cut s w hs (fun h => hb (by have := h.1.2.2.2.2.2.2.2.1; omega)) h5 hov h2 m l hm hl hm256 hl256 hm1 hm30 hl8 (by omega)
  have hcase : decide (0 < l) = false ∨ (0 < l ∧ Ov.nameB (s.extract 5 (5 + l)) = true) ∨ (0 < l ∧ Ov.nameB (s.extract 5 (5 + l)) = false) := by
    by_cases h0 : 0 < l
    · cases hn : Ov.nameB (s.extract 5 (5 + l))
      · exact Or.inr (Or.inr ⟨h0, rfl⟩)
      · exact Or.inr (Or.inl ⟨h0, rfl⟩)
    · exact Or.inl (decide_eq_false h0)
  obtain ⟨n, hn⟩ : ∃ n, Ov.byteAt s (5 + l + m) = n := ⟨_, rfl⟩
  have hn256 : n < 256 := by rw [← hn]; exact Ov.byteAt_lt _ _
  have hD : Ov.datas s = n := by rw [Ov.datas, hL, hM, hn]
  rcases hcase with h0 | ⟨h0, hnm⟩ | ⟨h0, hnm⟩
  · by_cases hn60 : n ≤ 60
    case neg => exact rDecode_n61x0 s w hs (fun h => hn60 (by have := h.1.2.2.2.2.2.2.2.2.2.1; omega)) h5 hov h2 m l hm hl hm256 hl256 hm1 hm30 hl8 hb h0 n hn hn256 (decide_eq_true (by omega))
    by_cases hse : 5 + l + m + 1 + 8 * n = s.size
    case neg => exact rDecode_sizex0 s w hs (fun h => hse (by have := h.1.2.2.2.2.2.2.2.2.2.2; omega)) h5 hov h2 m l hm hl hm256 hl256 hm1 hm30 hl8 hb h0 n hn hn60 (by rw [bne_iff_ne]; omega)
    exact rDecode_head s w hs ⟨h5, hov'.1, hov'.2, h2, by omega, by omega, by omega, by omega, fun h => by have := of_decide_eq_false h0; omega, by omega, by omega⟩ h5 hov h2 m l n hm hl hn hm1 hm30 hl8 hb (Or.inl h0) hn60 hse (bne_eq_false_iff_eq.2 (by omega))
  · by_cases hn60 : n ≤ 60
    case neg => exact rDecode_n61x1 s w hs (fun h => hn60 (by have := h.1.2.2.2.2.2.2.2.2.2.1; omega)) h5 hov h2 m l hm hl hm256 hl256 hm1 hm30 hl8 hb h0 hnm n hn hn256 (decide_eq_true (by omega))
    by_cases hse : 5 + l + m + 1 + 8 * n = s.size
    case neg => exact rDecode_sizex1 s w hs (fun h => hse (by have := h.1.2.2.2.2.2.2.2.2.2.2; omega)) h5 hov h2 m l hm hl hm256 hl256 hm1 hm30 hl8 hb h0 hnm n hn hn60 (by rw [bne_iff_ne]; omega)
    exact rDecode_head s w hs ⟨h5, hov'.1, hov'.2, h2, by omega, by omega, by omega, by omega, fun _ => by rw [hBk]; exact hnm, by omega, by omega⟩ h5 hov h2 m l n hm hl hn hm1 hm30 hl8 hb (Or.inr ⟨h0, hnm⟩) hn60 hse (bne_eq_false_iff_eq.2 (by omega))
  · exact rDecode_name s w hs (fun h => by have := h.1.2.2.2.2.2.2.2.2.1 (by omega); rw [hBk, hnm] at this; cases this) h5 hov h2 m l hm hl hm256 hl256 hm1 hm30 hl8 hb h0 hnm

/-- Decode of a file that is no image. -/
theorem rDecode_no (s : ByteArray) (w : World) (hs : s.size ≤ 1000) (h : ¬ Ov.isImage s) : Calls Tryz.prog 75 #[.string s] w fun e w' => ∃ a b1 b2 b3 c1 c2 c3 d, e = .returned (.tuple #[.agg #[.string a, .slice b1 b2 b3, .slice c1 c2 c3, .int .i64 d], .bool false]) ∧ Below w.heap.size w w' := by
  refine (rDecode_calls s w hs).mono ?_
  rintro e w' ⟨hb, ⟨_, a, b1, b2, b3, c1, c2, c3, d, rfl⟩ | ⟨hi, _⟩⟩
  · exact ⟨a, b1, b2, b3, c1, c2, c3, d, rfl, hb⟩
  · exact absurd hi h
/-- Decode of an image. -/
theorem rDecode_yes (s : ByteArray) (w : World) (hs : s.size ≤ 1000) (h : Ov.isImage s) : Calls Tryz.prog 75 #[.string s] w fun e w' => ∃ ea ec ba bc, e = .returned (.tuple #[.agg #[.string (Ov.backing s), .slice ea (Ov.many s) ec, .slice ba (Ov.many s) bc, .int .i64 (Ov.lost s)], .bool true]) ∧ Below w.heap.size w w' ∧
    w'.ownsRow w.heap.size 3 1 (.slice ea (Ov.many s) ec) (Ov.many s) ((Ov.kindsTo s (Ov.many s)).map (Value.int .i64)) ∧ w'.ownsRow w.heap.size 9 1 (.slice ba (Ov.many s) bc) (Ov.many s) ((Ov.blocksTo s (Ov.many s)).map Value.string) := by
  refine (rDecode_calls s w hs).mono ?_
  rintro e w' ⟨hb, ⟨hn, _⟩ | ⟨_, ev, bv, rfl, h1, h2⟩⟩
  · exact absurd h hn
  · obtain ⟨ea, ec, rfl⟩ := owns_slice h1
    obtain ⟨ba, bc, rfl⟩ := owns_slice h2
    exact ⟨ea, ec, ba, bc, rfl, hb, h1, h2⟩

end Go.Proofs.YtdcmmmggiokbhaaGreatDoor
