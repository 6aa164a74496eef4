/- Decode whole. -/
import Derived.Test.YtomiepknmmpflaaGreatDoorCWDecode2
import Derived.Test.YtomiepknmmpflaaGreatDoorCWDrop
import Derived.Test.YtomiepknmmpflaaGreatDoorCWName
import Derived.Test.YtomiepknmmpflaaGreatDoorCWEncode
namespace Go.Proofs.YtomiepknmmpflaaGreatDoor
open Go.RowKit Go.Joins

theorem ov_iff {s : ByteArray} (h : 5 ≤ s.size) : (s.extract 0 2).toList = [79, 86] ↔ Ov.byteAt s 0 = 79 ∧ Ov.byteAt s 1 = 86 := by
  rw [ByteArray.toList_eq, Lib.extract_data]
  have hl : 5 ≤ s.data.toList.length := by simpa using h
  unfold Ov.byteAt
  match hd : s.data.toList, hl with
  | a :: b :: r, _ =>
    simp only [List.drop_zero, Nat.sub_zero, List.take_succ_cons, List.take_zero, List.cons.injEq, and_true, List.getD_cons_zero, List.getD_cons_succ]
    constructor
    · rintro ⟨rfl, rfl⟩; exact ⟨rfl, rfl⟩
    · rintro ⟨h1, h2⟩; exact ⟨UInt8.toNat_inj.1 h1, UInt8.toNat_inj.1 h2⟩

theorem rDecode_calls (s : ByteArray) (w : World) (hs : s.size ≤ 1000) : Calls Tryz.prog 169 #[.string s] w (DecodePost s w) := by
  by_cases h5 : 5 ≤ s.size
  case neg => exact rDecode_short s w hs (fun h => h5 h.1.1) (by omega)
  by_cases hov : (s.extract 0 2).toList = [79, 86]
  case neg => exact rDecode_noOV s w hs (fun h => hov ((ov_iff h5).2 ⟨h.1.2.1, h.1.2.2.1⟩)) h5 hov
  have hov' := (ov_iff h5).1 hov
  by_cases h2 : Ov.byteAt s 2 = 1
  case neg => exact rDecode_no1 s w hs (fun h => h2 h.1.2.2.2.1) h5 hov _ rfl (by rw [bne_iff_ne]; omega)
  obtain ⟨m, hm⟩ : ∃ m, Ov.byteAt s 3 = m := ⟨_, rfl⟩
  obtain ⟨l, hl⟩ : ∃ l, Ov.byteAt s 4 = l := ⟨_, rfl⟩
  have hM : Ov.many s = m := hm
  have hL : Ov.long s = l := hl
  have hm256 : m < 256 := by rw [← hm]; exact Ov.byteAt_lt _ _
  have hl256 : l < 256 := by rw [← hl]; exact Ov.byteAt_lt _ _
  have hB : Ov.base s = 5 + l + m + 1 := by rw [Ov.base, hL, hM]
  have hBk : Ov.backing s = s.extract 5 (5 + l) := by rw [Ov.backing, hL]
  by_cases hm1 : 1 ≤ m
  case neg => exact rDecode_m0 s w hs (fun h => hm1 (by have := h.1.2.2.2.2.1; omega)) h5 hov h2 m l hm hl hm256 hl256 (by omega)
  by_cases hm30 : m ≤ 30
  case neg => exact rDecode_m31 s w hs (fun h => hm30 (by have := h.1.2.2.2.2.2.1; omega)) h5 hov h2 m l hm hl hm256 hl256 hm1 (by omega)
  by_cases hl8 : l ≤ 8
  case neg => exact rDecode_l9 s w hs (fun h => hl8 (by have := h.1.2.2.2.2.2.2.1; omega)) h5 hov h2 m l hm hl hm256 hl256 hm1 hm30 (by omega)
  by_cases hb : 5 + l + m + 1 ≤ s.size
  case neg => exact rDecode_cut s w hs (fun h => hb (by have := h.1.2.2.2.2.2.2.2.1; omega)) h5 hov h2 m l hm hl hm256 hl256 hm1 hm30 hl8 (by omega)
  have hcase : decide (0 < l) = false ∨ (0 < l ∧ Ov.nameB (s.extract 5 (5 + l)) = true) ∨ (0 < l ∧ Ov.nameB (s.extract 5 (5 + l)) = false) := by
    by_cases h0 : 0 < l
    · cases hn : Ov.nameB (s.extract 5 (5 + l))
      · exact Or.inr (Or.inr ⟨h0, rfl⟩)
      · exact Or.inr (Or.inl ⟨h0, rfl⟩)
    · exact Or.inl (decide_eq_false h0)
  obtain ⟨n, hn⟩ : ∃ n, Ov.byteAt s (5 + l + m) = n := ⟨_, rfl⟩
  have hn256 : n < 256 := by rw [← hn]; exact Ov.byteAt_lt _ _
  have hD : Ov.datas s = n := by rw [Ov.datas, hL, hM, hn]
  rcases hcase with h0 | ⟨h0, hnm⟩ | ⟨h0, hnm⟩
  · by_cases hn60 : n ≤ 60
    case neg => exact rDecode_n61x0 s w hs (fun h => hn60 (by have := h.1.2.2.2.2.2.2.2.2.2.1; omega)) h5 hov h2 m l hm hl hm256 hl256 hm1 hm30 hl8 hb h0 n hn hn256 (decide_eq_true (by omega))
    by_cases hse : 5 + l + m + 1 + 8 * n = s.size
    case neg => exact rDecode_sizex0 s w hs (fun h => hse (by have := h.1.2.2.2.2.2.2.2.2.2.2; omega)) h5 hov h2 m l hm hl hm256 hl256 hm1 hm30 hl8 hb h0 n hn hn60 (by rw [bne_iff_ne]; omega)
    exact rDecode_head s w hs ⟨h5, hov'.1, hov'.2, h2, by omega, by omega, by omega, by omega, fun h => by have := of_decide_eq_false h0; omega, by omega, by omega⟩ h5 hov h2 m l n hm hl hn hm1 hm30 hl8 hb (Or.inl h0) hn60 hse (bne_eq_false_iff_eq.2 (by omega))
  · by_cases hn60 : n ≤ 60
    case neg => exact rDecode_n61x1 s w hs (fun h => hn60 (by have := h.1.2.2.2.2.2.2.2.2.2.1; omega)) h5 hov h2 m l hm hl hm256 hl256 hm1 hm30 hl8 hb h0 hnm n hn hn256 (decide_eq_true (by omega))
    by_cases hse : 5 + l + m + 1 + 8 * n = s.size
    case neg => exact rDecode_sizex1 s w hs (fun h => hse (by have := h.1.2.2.2.2.2.2.2.2.2.2; omega)) h5 hov h2 m l hm hl hm256 hl256 hm1 hm30 hl8 hb h0 hnm n hn hn60 (by rw [bne_iff_ne]; omega)
    exact rDecode_head s w hs ⟨h5, hov'.1, hov'.2, h2, by omega, by omega, by omega, by omega, fun _ => by rw [hBk]; exact hnm, by omega, by omega⟩ h5 hov h2 m l n hm hl hn hm1 hm30 hl8 hb (Or.inr ⟨h0, hnm⟩) hn60 hse (bne_eq_false_iff_eq.2 (by omega))
  · exact rDecode_name s w hs (fun h => by have := h.1.2.2.2.2.2.2.2.2.1 (by omega); rw [hBk, hnm] at this; cases this) h5 hov h2 m l hm hl hm256 hl256 hm1 hm30 hl8 hb h0 hnm

/-- Decode of a file that is no image. -/
theorem rDecode_no (s : ByteArray) (w : World) (hs : s.size ≤ 1000) (h : ¬ Ov.isImage s) : Calls Tryz.prog 169 #[.string s] w fun e w' => ∃ a b1 b2 b3 c1 c2 c3 d, e = .returned (.tuple #[.agg #[.string a, .slice b1 b2 b3, .slice c1 c2 c3, .int .i64 d], .bool false]) ∧ Below w.heap.size w w' := by
  refine (rDecode_calls s w hs).mono ?_
  rintro e w' ⟨hb, ⟨_, a, b1, b2, b3, c1, c2, c3, d, rfl⟩ | ⟨hi, _⟩⟩
  · exact ⟨a, b1, b2, b3, c1, c2, c3, d, rfl, hb⟩
  · exact absurd hi h
/-- Decode of an image. -/
theorem rDecode_yes (s : ByteArray) (w : World) (hs : s.size ≤ 1000) (h : Ov.isImage s) : Calls Tryz.prog 169 #[.string s] w fun e w' => ∃ ea ec ba bc, e = .returned (.tuple #[.agg #[.string (Ov.backing s), .slice ea (Ov.many s) ec, .slice ba (Ov.many s) bc, .int .i64 (Ov.lost s)], .bool true]) ∧ Below w.heap.size w w' ∧
    w'.ownsRow w.heap.size 3 1 (.slice ea (Ov.many s) ec) (Ov.many s) ((Ov.kindsTo s (Ov.many s)).map (Value.int .i64)) ∧ w'.ownsRow w.heap.size 9 1 (.slice ba (Ov.many s) bc) (Ov.many s) ((Ov.blocksTo s (Ov.many s)).map Value.string) := by
  refine (rDecode_calls s w hs).mono ?_
  rintro e w' ⟨hb, ⟨hn, _⟩ | ⟨_, ev, bv, rfl, h1, h2⟩⟩
  · exact absurd h hn
  · obtain ⟨ea, ec, rfl⟩ := owns_slice h1
    obtain ⟨ba, bc, rfl⟩ := owns_slice h2
    exact ⟨ea, ec, ba, bc, rfl, hb, h1, h2⟩

end Go.Proofs.YtomiepknmmpflaaGreatDoor

/- The walk of the reference's Check. -/
namespace Go.Proofs.YtomiepknmmpflaaGreatDoor
open Go.RowKit Go.Joins

def cntTo (ks : List Int) (v : Int) : Nat → Nat
  | 0 => 0
  | k + 1 => cntTo ks v k + if ks.getD k 0 = v then 1 else 0
theorem cntTo_le (ks : List Int) (v : Int) (k : Nat) : cntTo ks v k ≤ k := by
  induction k with
  | zero => simp [cntTo]
  | succ k ih => simp only [cntTo]; split <;> omega
theorem cntTo_two (ks : List Int) (k : Nat) : cntTo ks 1 k + cntTo ks 255 k ≤ k := by
  induction k with
  | zero => simp [cntTo]
  | succ k ih =>
    simp only [cntTo]
    by_cases h : ks.getD k 0 = 1
    · rw [if_pos h, if_neg (by omega)]; omega
    · rw [if_neg h]; split <;> omega
def comma : ByteArray := ⟨#[44]⟩
/-- Check's answer. -/
def tallyOf (d z o t : Nat) : ByteArray := dec d ++ comma ++ dec z ++ comma ++ dec o ++ comma ++ dec t
def tally (s : ByteArray) : ByteArray := tallyOf (cntTo (Ov.kindsTo s (Ov.many s)) 1 (Ov.many s)) (cntTo (Ov.kindsTo s (Ov.many s)) 255 (Ov.many s)) (Ov.many s - cntTo (Ov.kindsTo s (Ov.many s)) 1 (Ov.many s) - cntTo (Ov.kindsTo s (Ov.many s)) 255 (Ov.many s)) (Ov.lost s).toNat
def checkF (l : Ov.Files) (x : ByteArray) : ByteArray × Int :=
  if Ov.place l x < l.length then (if Ov.imageB (Ov.fileAt l (Ov.place l x)) = true then (tally (Ov.fileAt l (Ov.place l x)), 0) else (⟨#[]⟩, 5)) else (⟨#[]⟩, 4)

theorem check_box {w1 : World} {bk : ByteArray} {a b c : Value} : (w1.alloc (.cells #[.string bk, a, b, c] 240)).heap[w1.heap.size]? = some (.cells #[.string bk, a, b, c] 240 (0, 0)) := by
  show (w1.heap.push _)[w1.heap.size]? = _
  simp

set_option maxRecDepth 100000 in
set_option maxHeartbeats 400000 in
theorem rCheck_calls (l : Ov.Files) (x : ByteArray) (b room : Nat) (w : World) (hi : Ov.LI room l) (h : RefRep w b room l) :
    Calls Tryz.prog 123 #[.pointer (some ⟨b, 0, none⟩), .string x] w fun e w' => e = .returned (.tuple #[.string (checkF l x).1, .int .i64 (checkF l x).2]) ∧ Below w.heap.size w w' := by
  obtain ⟨v, h1, h2, h3⟩ := h
  obtain ⟨a, c, rfl⟩ := owns_slice h2
  have c1 : w.cell? ⟨b, 1, none⟩ = some (.slice a l.length c) := blk_cell h1 rfl
  have HO := hide h2
  have HI := hide hi
  have hl8 := hi.len
  clear h1 h2 h3 hi
  by_cases hp : Ov.place l x < l.length
  · obtain ⟨p, hpe⟩ : ∃ p, Ov.place l x = p := ⟨_, rfl⟩
    have hfd : Ov.find l x = (p : Int) := by rw [Ov.find_yes hp, hpe]
    obtain ⟨s, hse⟩ : ∃ s, Ov.fileAt l p = s := ⟨_, rfl⟩
    have hpl : p < l.length := by omega
    have hsz : s.size ≤ 1000 := by rw [← hse]; exact (unhide HI).size p hpl
    obtain ⟨g, cc, hv⟩ := ownsRow_form (unhide HO) (by omega)
    obtain ⟨rfl, rfl⟩ : a = some ⟨g, 0, none⟩ ∧ c = cc := by simpa using hv
    have cb := files_bytes (unhide HO) hpl
    rw [hse] at cb
    have HC : Hid (checkF l x = if Ov.imageB s = true then (tally s, 0) else (⟨#[]⟩, 5)) := by unfold checkF; rw [if_pos hp, hpe, hse]; exact rfl
    clear hv hp hpe hse
    cases him : Ov.imageB s
    · have Hno : Hid (¬ Ov.isImage s) := fun h => by rw [(Ov.imageB_iff s).2 h] at him; cases him
      have HL : Hid (checkF l x = (⟨#[]⟩, 5)) := by rw [unhide HC, him]; exact rfl
      clear him
      go_enter Tryz.func123, Tryz.ntmps123
      go_wp2_with (first | (go_at_call 166; refine (rFind_calls l _ x 0 _ hl8 (unhide HO)).mono ?_; rintro e w' ⟨rfl, rfl⟩) | (go_at_call 169; refine (rDecode_no s _ hsz (unhide Hno)).mono ?_; rintro e w1 ⟨a, b1, b2, b3, c1, c2, c3, d, rfl, hb1⟩))
      go_ret2
      exact ⟨by rw [unhide HL]; rfl, hb1.alloc hb1.size _⟩
    · have Hyes := hide ((Ov.imageB_iff s).1 him)
      have HL : Hid (checkF l x = (tally s, 0)) := by rw [unhide HC, him]; exact rfl
      have hm30 : Ov.many s ≤ 30 := (unhide Hyes).1.2.2.2.2.2.1
      have hd60 : Ov.datas s ≤ 60 := (unhide Hyes).1.2.2.2.2.2.2.2.2.2.1
      have hlo := Ov.lostTo_bd s (Ov.datas s)
      have HT : Hid (tally s = tallyOf (cntTo (Ov.kindsTo s (Ov.many s)) 1 (Ov.many s)) (cntTo (Ov.kindsTo s (Ov.many s)) 255 (Ov.many s)) (Ov.many s - cntTo (Ov.kindsTo s (Ov.many s)) 1 (Ov.many s) - cntTo (Ov.kindsTo s (Ov.many s)) 255 (Ov.many s)) (Ov.lost s).toNat) := rfl
      obtain ⟨t, ht⟩ : ∃ t : Nat, Ov.lost s = (t : Int) := ⟨(Ov.lost s).toNat, by unfold Ov.lost; omega⟩
      have ht60 : t ≤ 60 := by unfold Ov.lost at ht; omega
      clear him hlo hd60
      go_enter Tryz.func123, Tryz.ntmps123
      go_wp2_with (first | (go_at_call 166; refine (rFind_calls l _ x 0 _ hl8 (unhide HO)).mono ?_; rintro e w' ⟨rfl, rfl⟩) | (go_at_call 169; refine (rDecode_yes s _ hsz (unhide Hyes)).mono ?_; rintro e w1 ⟨ea, ec, ba, bc, rfl, hb1, hk1, _⟩; have HB1 := hide hb1; have HK1 := hide hk1; clear hb1 hk1))
      generalize hM : Ov.many s = m at *
      generalize hK : Ov.kindsTo s m = ks at *
      have xb := check_box (w1 := w1) (bk := Ov.backing s) (a := .slice ea m ec) (b := .slice ba m bc) (c := .int .i64 t)
      have x1 : (w1.alloc (.cells #[.string (Ov.backing s), .slice ea m ec, .slice ba m bc, .int .i64 t] 240)).cell? ⟨w1.heap.size, 1, none⟩ = some (.slice ea m ec) := blk_cell xb rfl
      have x3 : (w1.alloc (.cells #[.string (Ov.backing s), .slice ea m ec, .slice ba m bc, .int .i64 t] 240)).cell? ⟨w1.heap.size, 3, none⟩ = some (.int .i64 t) := blk_cell xb rfl
      clear xb hM hK
      go_loop [9, 10, 11, 46, 50] (fun d z i _ _ => ∃ k : Nat, k ≤ m ∧ i = .int .i64 k ∧ d = .int .i64 (cntTo ks 1 k : Nat) ∧ z = .int .i64 (cntTo ks 255 k : Nat)) (fun _ _ i _ _ => m - (intOf i).toNat)
      case atStart => exact ⟨0, Nat.zero_le _, rfl, rfl, rfl⟩
      case round =>
        obtain ⟨k, hk, rfl, rfl, rfl⟩ := hrel
        have hc1 := cntTo_le ks 1 k
        have hc2 := cntTo_le ks 255 k
        by_cases hlt : k < m
        · obtain ⟨ge, ce, hve⟩ := ownsRow_form (unhide HK1) (by omega)
          obtain ⟨rfl, rfl⟩ : ea = some ⟨ge, 0, none⟩ ∧ ec = ce := by simpa using hve
          have ck := ints_cell ((unhide HK1).alloc (.cells #[.string (Ov.backing s), .slice (some ⟨ge, 0, none⟩) m ec, .slice ba m bc, .int .i64 t] 240)) hlt
          obtain ⟨q, hq⟩ : ∃ q, ks.getD k 0 = q := ⟨_, rfl⟩
          rw [hq] at ck
          have HQ := hide hq
          clear hve hq
          by_cases h1 : q = 1
          · subst h1
            go_wp2
            go_round
            case rel => exact ⟨k + 1, by omega, by go_num, by rw [cntTo, if_pos (unhide HQ)]; go_num, by rw [cntTo, if_neg (by rw [unhide HQ]; omega)]; go_num⟩
            case measure => simp [intOf]; omega
          have hb1 : (q == 1) = false := beq_eq_false_iff_ne.2 h1
          by_cases h255 : q = 255
          · subst h255
            go_wp2
            go_round
            case rel => exact ⟨k + 1, by omega, by go_num, by rw [cntTo, if_neg (by rw [unhide HQ]; omega)]; go_num, by rw [cntTo, if_pos (unhide HQ)]; go_num⟩
            case measure => simp [intOf]; omega
          have hb2 : (q == 255) = false := beq_eq_false_iff_ne.2 h255
          go_wp2
          go_round
          case rel => exact ⟨k + 1, by omega, by go_num, by rw [cntTo, if_neg (by rw [unhide HQ]; exact h1)]; go_num, by rw [cntTo, if_neg (by rw [unhide HQ]; exact h255)]; go_num⟩
          case measure => simp [intOf]; omega
        · obtain rfl : k = m := by omega
          have hc3 := cntTo_two ks k
          generalize cntTo ks 1 k = d at *
          generalize cntTo ks 255 k = z at *
          obtain ⟨D1, e1⟩ : ∃ D, dec (d : Int).toNat = D := ⟨_, rfl⟩
          obtain ⟨D2, e2⟩ : ∃ D, dec (z : Int).toNat = D := ⟨_, rfl⟩
          obtain ⟨D3, e3⟩ : ∃ D, dec ((k : Int) - (d : Int) - (z : Int)).toNat = D := ⟨_, rfl⟩
          obtain ⟨D4, e4⟩ : ∃ D, dec (t : Int).toNat = D := ⟨_, rfl⟩
          have s1 : D1.size ≤ 2 := by rw [← e1]; exact dec_size _
          have s2 : D2.size ≤ 2 := by rw [← e2]; exact dec_size _
          have s3 : D3.size ≤ 2 := by rw [← e3]; exact dec_size _
          have s4 : D4.size ≤ 2 := by rw [← e4]; exact dec_size _
          have E1 := hide e1
          have E2 := hide e2
          have E3 := hide e3
          have E4 := hide e4
          have HR : Hid (tally s = D1 ++ comma ++ D2 ++ comma ++ D3 ++ comma ++ D4) := by
            rw [unhide HT, tallyOf, ht, ← e1, ← e2, ← e3, ← e4]
            have : ((k : Int) - (d : Int) - (z : Int)).toNat = k - d - z := by omega
            rw [this]; exact rfl
          clear e1 e2 e3 e4
          go_wp2_with fail
          go_quiet ((first | (go_at_call_of 170 (Value.int IntKind.i64 (d : Int)); exact Calls.quiet_of_same (rDecimal_is (by omega) (by omega) (unhide E1) _)) | (go_at_call_of 170 (Value.int IntKind.i64 (z : Int)); exact Calls.quiet_of_same (rDecimal_is (by omega) (by omega) (unhide E2) _)) | (go_at_call_of 170 (Value.int IntKind.i64 (t : Int)); exact Calls.quiet_of_same (rDecimal_is (by omega) (by omega) (unhide E4) _)) | (go_at_call 170; exact Calls.quiet_of_same (rDecimal_is (by omega) (by omega) (unhide E3) _))))
          go_wp2_with fail
          go_ret2
          exact ⟨by rw [unhide HL, unhide HR]; rfl, ((unhide HB1).alloc (unhide HB1).size _).trans (below_draws _ _ _)⟩
  · have hfd : Ov.find l x = -1 := Ov.find_no hp
    have HL : Hid (checkF l x = (⟨#[]⟩, 4)) := by unfold checkF; rw [if_neg hp]; exact rfl
    go_enter Tryz.func123, Tryz.ntmps123
    go_wp2_with (go_at_call 166; refine (rFind_calls l _ x 0 _ hl8 (unhide HO)).mono ?_; rintro e w' ⟨rfl, rfl⟩)
    go_ret2
    exact ⟨by rw [unhide HL]; rfl, Below.refl _ _⟩

end Go.Proofs.YtomiepknmmpflaaGreatDoor
