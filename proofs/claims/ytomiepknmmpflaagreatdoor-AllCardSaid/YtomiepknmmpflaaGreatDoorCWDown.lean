/- Decode whole. -/
import Derived.Test.YtomiepknmmpflaaGreatDoorCWDecode2
import Derived.Test.YtomiepknmmpflaaGreatDoorCPParse
import Derived.Test.YtomiepknmmpflaaGreatDoorCPDecode
import Derived.Test.YtomiepknmmpflaaGreatDoorCSpecS
namespace Go.Proofs.YtomiepknmmpflaaGreatDoor
open Go.RowKit Go.Joins

theorem ov_iff {s : ByteArray} (h : 5 ≤ s.size) : (s.extract 0 2).toList = [79, 86] ↔ Ov.byteAt s 0 = 79 ∧ Ov.byteAt s 1 = 86 := by
  rw [ByteArray.toList_eq, Lib.extract_data]
  have hl : 5 ≤ s.data.toList.length := by simpa using h
  unfold Ov.byteAt
  match hd : s.data.toList, hl with
  | a :: b :: r, _ =>
    simp only [List.drop_zero, Nat.sub_zero, List.take_succ_cons, List.take_zero, List.cons.injEq, and_true, List.getD_cons_zero, List.getD_cons_succ]
    constructor
    · rintro ⟨rfl, rfl⟩; exact ⟨rfl, rfl⟩
    · rintro ⟨h1, h2⟩; exact ⟨UInt8.toNat_inj.1 h1, UInt8.toNat_inj.1 h2⟩

theorem rDecode_calls (s : ByteArray) (w : World) (hs : s.size ≤ 1000) : Calls Tryz.prog 169 #[.string s] w (DecodePost s w) := by
  by_cases h5 : 5 ≤ s.size
  case neg => exact rDecode_short s w hs (fun h => h5 h.1.1) (by omega)
  by_cases hov : (s.extract 0 2).toList = [79, 86]
  case neg => exact rDecode_noOV s w hs (fun h => hov ((ov_iff h5).2 ⟨h.1.2.1, h.1.2.2.1⟩)) h5 hov
  have hov' := (ov_iff h5).1 hov
  by_cases h2 : Ov.byteAt s 2 = 1
  case neg => exact rDecode_no1 s w hs (fun h => h2 h.1.2.2.2.1) h5 hov _ rfl (by rw [bne_iff_ne]; omega)
  obtain ⟨m, hm⟩ : ∃ m, Ov.byteAt s 3 = m := ⟨_, rfl⟩
  obtain ⟨l, hl⟩ : ∃ l, Ov.byteAt s 4 = l := ⟨_, rfl⟩
  have hM : Ov.many s = m := hm
  have hL : Ov.long s = l := hl
  have hm256 : m < 256 := by rw [← hm]; exact Ov.byteAt_lt _ _
  have hl256 : l < 256 := by rw [← hl]; exact Ov.byteAt_lt _ _
  have hB : Ov.base s = 5 + l + m + 1 := by rw [Ov.base, hL, hM]
  have hBk : Ov.backing s = s.extract 5 (5 + l) := by rw [Ov.backing, hL]
  by_cases hm1 : 1 ≤ m
  case neg => exact rDecode_m0 s w hs (fun h => hm1 (by have := h.1.2.2.2.2.1; omega)) h5 hov h2 m l hm hl hm256 hl256 (by omega)
  by_cases hm30 : m ≤ 30
  case neg => exact rDecode_m31 s w hs (fun h => hm30 (by have := h.1.2.2.2.2.2.1; omega)) h5 hov h2 m l hm hl hm256 hl256 hm1 (by omega)
  by_cases hl8 : l ≤ 8
  case neg => exact rDecode_l9 s w hs (fun h => hl8 (by have := h.1.2.2.2.2.2.2.1; omega)) h5 hov h2 m l hm hl hm256 hl256 hm1 hm30 (by omega)
  by_cases hb : 5 + l + m + 1 ≤ s.size
  case neg => exact rDecode_cut s w hs (fun h => hb (by have := h.1.2.2.2.2.2.2.2.1; omega)) h5 hov h2 m l hm hl hm256 hl256 hm1 hm30 hl8 (by omega)
  have hcase : decide (0 < l) = false ∨ (0 < l ∧ Ov.nameB (s.extract 5 (5 + l)) = true) ∨ (0 < l ∧ Ov.nameB (s.extract 5 (5 + l)) = false) := by
    by_cases h0 : 0 < l
    · cases hn : Ov.nameB (s.extract 5 (5 + l))
      · exact Or.inr (Or.inr ⟨h0, rfl⟩)
      · exact Or.inr (Or.inl ⟨h0, rfl⟩)
    · exact Or.inl (decide_eq_false h0)
  obtain ⟨n, hn⟩ : ∃ n, Ov.byteAt s (5 + l + m) = n := ⟨_, rfl⟩
  have hn256 : n < 256 := by rw [← hn]; exact Ov.byteAt_lt _ _
  have hD : Ov.datas s = n := by rw [Ov.datas, hL, hM, hn]
  rcases hcase with h0 | ⟨h0, hnm⟩ | ⟨h0, hnm⟩
  · by_cases hn60 : n ≤ 60
    case neg => exact rDecode_n61x0 s w hs (fun h => hn60 (by have := h.1.2.2.2.2.2.2.2.2.2.1; omega)) h5 hov h2 m l hm hl hm256 hl256 hm1 hm30 hl8 hb h0 n hn hn256 (decide_eq_true (by omega))
    by_cases hse : 5 + l + m + 1 + 8 * n = s.size
    case neg => exact rDecode_sizex0 s w hs (fun h => hse (by have := h.1.2.2.2.2.2.2.2.2.2.2; omega)) h5 hov h2 m l hm hl hm256 hl256 hm1 hm30 hl8 hb h0 n hn hn60 (by rw [bne_iff_ne]; omega)
    exact rDecode_head s w hs ⟨h5, hov'.1, hov'.2, h2, by omega, by omega, by omega, by omega, fun h => by have := of_decide_eq_false h0; omega, by omega, by omega⟩ h5 hov h2 m l n hm hl hn hm1 hm30 hl8 hb (Or.inl h0) hn60 hse (bne_eq_false_iff_eq.2 (by omega))
  · by_cases hn60 : n ≤ 60
    case neg => exact rDecode_n61x1 s w hs (fun h => hn60 (by have := h.1.2.2.2.2.2.2.2.2.2.1; omega)) h5 hov h2 m l hm hl hm256 hl256 hm1 hm30 hl8 hb h0 hnm n hn hn256 (decide_eq_true (by omega))
    by_cases hse : 5 + l + m + 1 + 8 * n = s.size
    case neg => exact rDecode_sizex1 s w hs (fun h => hse (by have := h.1.2.2.2.2.2.2.2.2.2.2; omega)) h5 hov h2 m l hm hl hm256 hl256 hm1 hm30 hl8 hb h0 hnm n hn hn60 (by rw [bne_iff_ne]; omega)
    exact rDecode_head s w hs ⟨h5, hov'.1, hov'.2, h2, by omega, by omega, by omega, by omega, fun _ => by rw [hBk]; exact hnm, by omega, by omega⟩ h5 hov h2 m l n hm hl hn hm1 hm30 hl8 hb (Or.inr ⟨h0, hnm⟩) hn60 hse (bne_eq_false_iff_eq.2 (by omega))
  · exact rDecode_name s w hs (fun h => by have := h.1.2.2.2.2.2.2.2.2.1 (by omega); rw [hBk, hnm] at this; cases this) h5 hov h2 m l hm hl hm256 hl256 hm1 hm30 hl8 hb h0 hnm

theorem rDecode_no (s : ByteArray) (w : World) (hs : s.size ≤ 1000) (h : ¬ Ov.isImage s) : Calls Tryz.prog 169 #[.string s] w fun e w' => ∃ a b1 b2 b3 c1 c2 c3 d, e = .returned (.tuple #[.agg #[.string a, .slice b1 b2 b3, .slice c1 c2 c3, .int .i64 d], .bool false]) ∧ Below w.heap.size w w' := by
  refine (rDecode_calls s w hs).mono ?_
  rintro e w' ⟨hb, ⟨_, a, b1, b2, b3, c1, c2, c3, d, rfl⟩ | ⟨hi, _⟩⟩
  · exact ⟨a, b1, b2, b3, c1, c2, c3, d, rfl, hb⟩
  · exact absurd hi h
theorem rDecode_yes (s : ByteArray) (w : World) (hs : s.size ≤ 1000) (h : Ov.isImage s) : Calls Tryz.prog 169 #[.string s] w fun e w' => ∃ ea ec ba bc, e = .returned (.tuple #[.agg #[.string (Ov.backing s), .slice ea (Ov.many s) ec, .slice ba (Ov.many s) bc, .int .i64 (Ov.lost s)], .bool true]) ∧ Below w.heap.size w w' ∧
    w'.ownsRow w.heap.size 3 1 (.slice ea (Ov.many s) ec) (Ov.many s) ((Ov.kindsTo s (Ov.many s)).map (Value.int .i64)) ∧ w'.ownsRow w.heap.size 9 1 (.slice ba (Ov.many s) bc) (Ov.many s) ((Ov.blocksTo s (Ov.many s)).map Value.string) := by
  refine (rDecode_calls s w hs).mono ?_
  rintro e w' ⟨hb, ⟨hn, _⟩ | ⟨_, ev, bv, rfl, h1, h2⟩⟩
  · exact absurd h hn
  · obtain ⟨ea, ec, rfl⟩ := owns_slice h1
    obtain ⟨ba, bc, rfl⟩ := owns_slice h2
    exact ⟨ea, ec, ba, bc, rfl, hb, h1, h2⟩

end Go.Proofs.YtomiepknmmpflaaGreatDoor

namespace Go.Proofs.YtomiepknmmpflaaGreatDoor
open Go.RowKit Go.Joins

def cntTo (ks : List Int) (v : Int) : Nat → Nat
  | 0 => 0
  | k + 1 => cntTo ks v k + if ks.getD k 0 = v then 1 else 0
theorem cntTo_le (ks : List Int) (v : Int) (k : Nat) : cntTo ks v k ≤ k := by
  induction k with
  | zero => simp [cntTo]
  | succ k ih => simp only [cntTo]; split <;> omega
theorem cntTo_two (ks : List Int) (k : Nat) : cntTo ks 1 k + cntTo ks 255 k ≤ k := by
  induction k with
  | zero => simp [cntTo]
  | succ k ih =>
    simp only [cntTo]
    by_cases h : ks.getD k 0 = 1
    · rw [if_pos h, if_neg (by omega)]; omega
    · rw [if_neg h]; split <;> omega
def comma : ByteArray := ⟨#[44]⟩
def tallyOf (d z o t : Nat) : ByteArray := dec d ++ comma ++ dec z ++ comma ++ dec o ++ comma ++ dec t
def tally (s : ByteArray) : ByteArray := tallyOf (cntTo (Ov.kindsTo s (Ov.many s)) 1 (Ov.many s)) (cntTo (Ov.kindsTo s (Ov.many s)) 255 (Ov.many s)) (Ov.many s - cntTo (Ov.kindsTo s (Ov.many s)) 1 (Ov.many s) - cntTo (Ov.kindsTo s (Ov.many s)) 255 (Ov.many s)) (Ov.lost s).toNat
def checkF (l : Ov.Files) (x : ByteArray) : ByteArray × Int :=
  if Ov.place l x < l.length then (if Ov.imageB (Ov.fileAt l (Ov.place l x)) = true then (tally (Ov.fileAt l (Ov.place l x)), 0) else (⟨#[]⟩, 5)) else (⟨#[]⟩, 4)

theorem check_box {w1 : World} {bk : ByteArray} {a b c : Value} : (w1.alloc (.cells #[.string bk, a, b, c] 240)).heap[w1.heap.size]? = some (.cells #[.string bk, a, b, c] 240 (0, 0)) := by
  show (w1.heap.push _)[w1.heap.size]? = _
  simp

set_option maxRecDepth 100000 in
set_option maxHeartbeats 400000 in
theorem rCheck_calls (l : Ov.Files) (x : ByteArray) (b room : Nat) (w : World) (hi : Ov.LI room l) (h : RefRep w b room l) :
    Calls Tryz.prog 123 #[.pointer (some ⟨b, 0, none⟩), .string x] w fun e w' => e = .returned (.tuple #[.string (checkF l x).1, .int .i64 (checkF l x).2]) ∧ Below w.heap.size w w' := by
  obtain ⟨v, h1, h2, h3⟩ := h
  obtain ⟨a, c, rfl⟩ := owns_slice h2
  have c1 : w.cell? ⟨b, 1, none⟩ = some (.slice a l.length c) := blk_cell h1 rfl
  have HO := hide h2
  have HI := hide hi
  have hl8 := hi.len
  clear h1 h2 h3 hi
  by_cases hp : Ov.place l x < l.length
  · obtain ⟨p, hpe⟩ : ∃ p, Ov.place l x = p := ⟨_, rfl⟩
    have hfd : Ov.find l x = (p : Int) := by rw [Ov.find_yes hp, hpe]
    obtain ⟨s, hse⟩ : ∃ s, Ov.fileAt l p = s := ⟨_, rfl⟩
    have hpl : p < l.length := by omega
    have hsz : s.size ≤ 1000 := by rw [← hse]; exact (unhide HI).size p hpl
    obtain ⟨g, cc, hv⟩ := ownsRow_form (unhide HO) (by omega)
    obtain ⟨rfl, rfl⟩ : a = some ⟨g, 0, none⟩ ∧ c = cc := by simpa using hv
    have cb := files_bytes (unhide HO) hpl
    rw [hse] at cb
    have HC : Hid (checkF l x = if Ov.imageB s = true then (tally s, 0) else (⟨#[]⟩, 5)) := by unfold checkF; rw [if_pos hp, hpe, hse]; exact rfl
    clear hv hp hpe hse
    cases him : Ov.imageB s
    · have Hno : Hid (¬ Ov.isImage s) := fun h => by rw [(Ov.imageB_iff s).2 h] at him; cases him
      have HL : Hid (checkF l x = (⟨#[]⟩, 5)) := by rw [unhide HC, him]; exact rfl
      clear him
      go_enter Tryz.func123, Tryz.ntmps123
      go_wp2_with (first | (go_at_call 166; refine (rFind_calls l _ x 0 _ hl8 (unhide HO)).mono ?_; rintro e w' ⟨rfl, rfl⟩) | (go_at_call 169; refine (rDecode_no s _ hsz (unhide Hno)).mono ?_; rintro e w1 ⟨a, b1, b2, b3, c1, c2, c3, d, rfl, hb1⟩))
      go_ret2
      exact ⟨by rw [unhide HL]; rfl, hb1.alloc hb1.size _⟩
    · have Hyes := hide ((Ov.imageB_iff s).1 him)
      have HL : Hid (checkF l x = (tally s, 0)) := by rw [unhide HC, him]; exact rfl
      have hm30 : Ov.many s ≤ 30 := (unhide Hyes).1.2.2.2.2.2.1
      have hd60 : Ov.datas s ≤ 60 := (unhide Hyes).1.2.2.2.2.2.2.2.2.2.1
      have hlo := Ov.lostTo_bd s (Ov.datas s)
      have HT : Hid (tally s = tallyOf (cntTo (Ov.kindsTo s (Ov.many s)) 1 (Ov.many s)) (cntTo (Ov.kindsTo s (Ov.many s)) 255 (Ov.many s)) (Ov.many s - cntTo (Ov.kindsTo s (Ov.many s)) 1 (Ov.many s) - cntTo (Ov.kindsTo s (Ov.many s)) 255 (Ov.many s)) (Ov.lost s).toNat) := rfl
      obtain ⟨t, ht⟩ : ∃ t : Nat, Ov.lost s = (t : Int) := ⟨(Ov.lost s).toNat, by unfold Ov.lost; omega⟩
      have ht60 : t ≤ 60 := by unfold Ov.lost at ht; omega
      clear him hlo hd60
      go_enter Tryz.func123, Tryz.ntmps123
      go_wp2_with (first | (go_at_call 166; refine (rFind_calls l _ x 0 _ hl8 (unhide HO)).mono ?_; rintro e w' ⟨rfl, rfl⟩) | (go_at_call 169; refine (rDecode_yes s _ hsz (unhide Hyes)).mono ?_; rintro e w1 ⟨ea, ec, ba, bc, rfl, hb1, hk1, _⟩; have HB1 := hide hb1; have HK1 := hide hk1; clear hb1 hk1))
      generalize hM : Ov.many s = m at *
      generalize hK : Ov.kindsTo s m = ks at *
      have xb := check_box (w1 := w1) (bk := Ov.backing s) (a := .slice ea m ec) (b := .slice ba m bc) (c := .int .i64 t)
      have x1 : (w1.alloc (.cells #[.string (Ov.backing s), .slice ea m ec, .slice ba m bc, .int .i64 t] 240)).cell? ⟨w1.heap.size, 1, none⟩ = some (.slice ea m ec) := blk_cell xb rfl
      have x3 : (w1.alloc (.cells #[.string (Ov.backing s), .slice ea m ec, .slice ba m bc, .int .i64 t] 240)).cell? ⟨w1.heap.size, 3, none⟩ = some (.int .i64 t) := blk_cell xb rfl
      clear xb hM hK
      go_loop [9, 10, 11, 46, 50] (fun d z i _ _ => ∃ k : Nat, k ≤ m ∧ i = .int .i64 k ∧ d = .int .i64 (cntTo ks 1 k : Nat) ∧ z = .int .i64 (cntTo ks 255 k : Nat)) (fun _ _ i _ _ => m - (intOf i).toNat)
      case atStart => exact ⟨0, Nat.zero_le _, rfl, rfl, rfl⟩
      case round =>
        obtain ⟨k, hk, rfl, rfl, rfl⟩ := hrel
        have hc1 := cntTo_le ks 1 k
        have hc2 := cntTo_le ks 255 k
        by_cases hlt : k < m
        · obtain ⟨ge, ce, hve⟩ := ownsRow_form (unhide HK1) (by omega)
          obtain ⟨rfl, rfl⟩ : ea = some ⟨ge, 0, none⟩ ∧ ec = ce := by simpa using hve
          have ck := ints_cell ((unhide HK1).alloc (.cells #[.string (Ov.backing s), .slice (some ⟨ge, 0, none⟩) m ec, .slice ba m bc, .int .i64 t] 240)) hlt
          obtain ⟨q, hq⟩ : ∃ q, ks.getD k 0 = q := ⟨_, rfl⟩
          rw [hq] at ck
          have HQ := hide hq
          clear hve hq
          by_cases h1 : q = 1
          · subst h1
            go_wp2
            go_round
            case rel => exact ⟨k + 1, by omega, by go_num, by rw [cntTo, if_pos (unhide HQ)]; go_num, by rw [cntTo, if_neg (by rw [unhide HQ]; omega)]; go_num⟩
            case measure => simp [intOf]; omega
          have hb1 : (q == 1) = false := beq_eq_false_iff_ne.2 h1
          by_cases h255 : q = 255
          · subst h255
            go_wp2
            go_round
            case rel => exact ⟨k + 1, by omega, by go_num, by rw [cntTo, if_neg (by rw [unhide HQ]; omega)]; go_num, by rw [cntTo, if_pos (unhide HQ)]; go_num⟩
            case measure => simp [intOf]; omega
          have hb2 : (q == 255) = false := beq_eq_false_iff_ne.2 h255
          go_wp2
          go_round
          case rel => exact ⟨k + 1, by omega, by go_num, by rw [cntTo, if_neg (by rw [unhide HQ]; exact h1)]; go_num, by rw [cntTo, if_neg (by rw [unhide HQ]; exact h255)]; go_num⟩
          case measure => simp [intOf]; omega
        · obtain rfl : k = m := by omega
          have hc3 := cntTo_two ks k
          generalize cntTo ks 1 k = d at *
          generalize cntTo ks 255 k = z at *
          obtain ⟨D1, e1⟩ : ∃ D, dec (d : Int).toNat = D := ⟨_, rfl⟩
          obtain ⟨D2, e2⟩ : ∃ D, dec (z : Int).toNat = D := ⟨_, rfl⟩
          obtain ⟨D3, e3⟩ : ∃ D, dec ((k : Int) - (d : Int) - (z : Int)).toNat = D := ⟨_, rfl⟩
          obtain ⟨D4, e4⟩ : ∃ D, dec (t : Int).toNat = D := ⟨_, rfl⟩
          have s1 : D1.size ≤ 2 := by rw [← e1]; exact dec_size _
          have s2 : D2.size ≤ 2 := by rw [← e2]; exact dec_size _
          have s3 : D3.size ≤ 2 := by rw [← e3]; exact dec_size _
          have s4 : D4.size ≤ 2 := by rw [← e4]; exact dec_size _
          have E1 := hide e1
          have E2 := hide e2
          have E3 := hide e3
          have E4 := hide e4
          have HR : Hid (tally s = D1 ++ comma ++ D2 ++ comma ++ D3 ++ comma ++ D4) := by
            rw [unhide HT, tallyOf, ht, ← e1, ← e2, ← e3, ← e4]
            have : ((k : Int) - (d : Int) - (z : Int)).toNat = k - d - z := by omega
            rw [this]; exact rfl
          clear e1 e2 e3 e4
          go_wp2_with fail
          go_quiet ((first | (go_at_call_of 170 (Value.int IntKind.i64 (d : Int)); exact Calls.quiet_of_same (rDecimal_is (by omega) (by omega) (unhide E1) _)) | (go_at_call_of 170 (Value.int IntKind.i64 (z : Int)); exact Calls.quiet_of_same (rDecimal_is (by omega) (by omega) (unhide E2) _)) | (go_at_call_of 170 (Value.int IntKind.i64 (t : Int)); exact Calls.quiet_of_same (rDecimal_is (by omega) (by omega) (unhide E4) _)) | (go_at_call 170; exact Calls.quiet_of_same (rDecimal_is (by omega) (by omega) (unhide E3) _))))
          go_wp2_with fail
          go_ret2
          exact ⟨by rw [unhide HL, unhide HR]; rfl, ((unhide HB1).alloc (unhide HB1).size _).trans (below_draws _ _ _)⟩
  · have hfd : Ov.find l x = -1 := Ov.find_no hp
    have HL : Hid (checkF l x = (⟨#[]⟩, 4)) := by unfold checkF; rw [if_neg hp]; exact rfl
    go_enter Tryz.func123, Tryz.ntmps123
    go_wp2_with (go_at_call 166; refine (rFind_calls l _ x 0 _ hl8 (unhide HO)).mono ?_; rintro e w' ⟨rfl, rfl⟩)
    go_ret2
    exact ⟨by rw [unhide HL]; rfl, Below.refl _ _⟩

end Go.Proofs.YtomiepknmmpflaaGreatDoor

namespace Go.Proofs.YtomiepknmmpflaaGreatDoor
open Go.RowKit Go.Joins

theorem down_cell {l : Ov.Files} {w wr w1 w2 : World} {x0 y bk : ByteArray} {seen : List ByteArray} {nv a b c : Value} {t : TypeId} {o : Obj} (h : NI l w x0 seen y nv wr) (hb1 : Below wr.heap.size wr w1) (hg : ((w1.alloc (.cells #[.string bk, a, b, c] t)).alloc o).grownBy w2 nv.ownBlock) :
    w2.cell? ⟨w1.heap.size, 0, none⟩ = some (.string bk) := by
  have hb : ((w1.alloc (.cells #[.string bk, a, b, c] t)).alloc o).heap[w1.heap.size]? = some (.cells #[.string bk, a, b, c] t (0, 0)) := by
    rw [Below.heap_alloc _ _ _ (by simp)]
    show (w1.heap.push _)[w1.heap.size]? = _
    simp
  exact blk_cell (blk_grown hb hg (fun e => by have := (h.names.lt _ e.symm).2; have := hb1.size; omega)) rfl
theorem down_below {l : Ov.Files} {w wr w1 w2 : World} {x0 y : ByteArray} {seen : List ByteArray} {nv : Value} {o1 o2 : Obj} (h : NI l w x0 seen y nv wr) (hb1 : Below wr.heap.size wr w1) (hg : ((w1.alloc o1).alloc o2).grownBy w2 nv.ownBlock) : Below w.heap.size w w2 := by
  have s1 := h.below.size
  have s2 := hb1.size
  exact (((h.below.trans (hb1.mono s1)).alloc (by omega) o1).alloc (by simp; omega) o2).grown hg (by simp; omega) (fun k hk => (h.names.lt k hk).1)

theorem names_more {l : List ByteArray} {x : ByteArray} {k : Nat} (h : ∀ j, j < k → l.getD j ⟨#[]⟩ ≠ x) (hk : l.getD k ⟨#[]⟩ ≠ x) : ∀ j, j < k + 1 → l.getD j ⟨#[]⟩ ≠ x := fun j hj => by
  by_cases e : j = k
  · subst e; exact hk
  · exact h j (by omega)

def DownPost (l : Ov.Files) (x : ByteArray) (w : World) (e : Ending) (w' : World) : Prop :=
  ∃ nv, e = .returned (.tuple #[nv, .int .i64 (Ov.downOf l x).2.1, .string (Ov.downOf l x).2.2]) ∧ Below w.heap.size w w' ∧ w'.ownsRow w.heap.size 9 1 nv (Ov.downOf l x).1.length ((Ov.downOf l x).1.map Value.string)

set_option maxRecDepth 100000 in
set_option maxHeartbeats 1000000 in
theorem rDown_calls (l : Ov.Files) (v : Value) (x : ByteArray) (base : Nat) (w : World) (hl : l.length ≤ 8) (h : OwnsFiles w base v l) (hs : ∀ j, j < l.length → (Ov.fileAt l j).size ≤ 1000) (hx : Ov.place l x < l.length) :
    Calls Tryz.prog 165 #[v, .string x] w (DownPost l x w) := by
  obtain ⟨g, c, rfl⟩ := ownsRow_form h (by omega)
  have HO := hide h
  have HS := hide hs
  have hgB : g < w.heap.size := (h.lt g rfl).2
  obtain ⟨i9, gi, gz0, gz1, gz2⟩ := info_parts Tryz.infoString
  clear h hs
  go_enter Tryz.func165, Tryz.ntmps165
  go_wp2_with fail
  go_loopw [1, 4, 5, 6, 7, 8, 9, 10] (fun y a4 a5 a6 nv _ _ _ wr => ∃ seen z, y = .string z ∧ NI l w x seen z nv wr) (fun _ _ _ _ nv _ _ _ _ => l.length - lenOf nv)
  case atStart => exact ⟨[], x, rfl, ⟨⟨by simp, by simp⟩, by simp, hx, rfl, World.ownsRow_nil _ _ _ _, Below.refl _ _⟩⟩
  case round =>
    obtain ⟨seen, y, rfl, hI⟩ := hrel
    obtain ⟨na, nc, rfl⟩ := owns_slice hI.names
    obtain ⟨p, hp⟩ : ∃ p, Ov.place l y = p := ⟨_, rfl⟩
    have hpl : p < l.length := by rw [← hp]; exact hI.here
    have hf : Ov.find l y = (p : Int) := by rw [Ov.find_yes hI.here, hp]
    obtain ⟨s, hse⟩ : ∃ s, Ov.fileAt l p = s := ⟨_, rfl⟩
    have HFS : Hid (Ov.fileAt l (Ov.place l y) = s) := by rw [hp]; exact hse
    have hsz : s.size ≤ 1000 := by rw [← hse]; exact unhide HS p hpl
    have HOr := hide (owns_below (unhide HO) (fun k hk => ((unhide HO).lt k hk).2) hI.below)
    have cb := files_bytes (unhide HOr) hpl
    rw [hse] at cb
    have HI := hide hI
    clear hI hp hse
    cases him : Ov.imageB s
    · have hno : ¬ Ov.isImage s := fun h => by rw [(Ov.imageB_iff s).2 h] at him; cases him
      have HD := hide ((unhide HI).corrupt (unhide HFS) him)
      have Hno := hide hno
      clear him hno
      go_wp2_with (first | (go_at_call 166; refine (rFind_calls l _ y base _ hl (unhide HOr)).mono ?_; rintro e w' ⟨rfl, rfl⟩) | (go_at_call 169; refine (rDecode_no s _ hsz (unhide Hno)).mono ?_; rintro e w1 ⟨a, b1, b2, b3, c1, c2, c3, d, rfl, hb1⟩))
      go_ret3
      exact ⟨.slice none 0 0, by rw [unhide HD]; rfl, ((unhide HI).below.trans (hb1.mono (unhide HI).below.size)).alloc (by have := hb1.size; have := (unhide HI).below.size; omega) _, by rw [unhide HD]; exact World.ownsRow_nil _ _ _ _⟩
    · have Hyes := hide ((Ov.imageB_iff s).1 him)
      have Him := hide him
      obtain ⟨bk, hbk⟩ : ∃ bk, Ov.backing s = bk := ⟨_, rfl⟩
      have HBK := hide hbk
      have hwr := (unhide HI).below.size
      have hsl := (unhide HI).lt
      clear him
      by_cases hb0 : bk.size = 0
      · have hbe : bk.toList.isEmpty = true := by rw [ByteArray.toList_eq, List.isEmpty_iff_length_eq_zero]; simpa using hb0
        have HD := hide ((unhide HI).last (unhide HFS) (unhide Him) (by rw [unhide HBK]; exact hb0))
        clear hb0
        go_wp2_with (first | (go_at_call 166; refine (rFind_calls l _ y base _ hl (unhide HOr)).mono ?_; rintro e w' ⟨rfl, rfl⟩) | (go_at_call 169; refine (rDecode_yes s _ hsz (unhide Hyes)).mono ?_; rintro e w1 ⟨ea, ec, ba, bc, rfl, hb1, _, _⟩; have HB1 := hide hb1; have S1 := hb1.size; clear hb1) | (at_builtin; refine wpList_append_own _ rfl (.tmp 25) (.tmp 27) 30 rfl w.heap.size 9 i9 (.string ⟨#[]⟩) 1 16 Tryz.underlying30 gi gz0 gz1 gz2 rfl (by decide) _ seen.length _ rfl (((owns_all (unhide HI).names (unhide HB1)).alloc _).alloc _) ⟨w1.heap.size + 1, 0, none⟩ 1 1 [.string y] rfl rfl (one_new (by simp)) (one_string _) (by unfold maxLen; omega) (by omega) (by simp; omega) ?_; intro v2 w2 ho2 hg2 _; obtain ⟨g2, p2, rfl⟩ := ownsRow_form ho2 (by omega); have xc : w2.cell? ⟨w1.heap.size, 0, none⟩ = some (.string bk) := down_cell (unhide HI) (unhide HB1) hg2; have G2 := hide hg2; have O2 := hide ho2; clear hg2 ho2))
        go_ret3
        exact ⟨_, by rw [unhide HD]; rfl, down_below (unhide HI) (unhide HB1) (unhide G2), by rw [unhide HD, List.map_append, List.length_append]; exact unhide O2⟩
      · have hbe : bk.toList.isEmpty = false := by
          rw [ByteArray.toList_eq, ← Bool.not_eq_true, List.isEmpty_iff_length_eq_zero]; simpa using hb0
        have Hb0 := hide hb0
        clear hb0
        go_wp2_with (first | (go_at_call 166; refine (rFind_calls l _ y base _ hl (unhide HOr)).mono ?_; rintro e w' ⟨rfl, rfl⟩) | (go_at_call 169; refine (rDecode_yes s _ hsz (unhide Hyes)).mono ?_; rintro e w1 ⟨ea, ec, ba, bc, rfl, hb1, _, _⟩; have HB1 := hide hb1; have S1 := hb1.size; clear hb1) | (at_builtin; refine wpList_append_own _ rfl (.tmp 25) (.tmp 27) 30 rfl w.heap.size 9 i9 (.string ⟨#[]⟩) 1 16 Tryz.underlying30 gi gz0 gz1 gz2 rfl (by decide) _ seen.length _ rfl (((owns_all (unhide HI).names (unhide HB1)).alloc _).alloc _) ⟨w1.heap.size + 1, 0, none⟩ 1 1 [.string y] rfl rfl (one_new (by simp)) (one_string _) (by unfold maxLen; omega) (by omega) (by simp; omega) ?_; intro v2 w2 ho2 hg2 _; obtain ⟨g2, p2, rfl⟩ := ownsRow_form ho2 (by omega); have xc : w2.cell? ⟨w1.heap.size, 0, none⟩ = some (.string bk) := down_cell (unhide HI) (unhide HB1) hg2; have G2 := hide hg2; have O2 := hide ho2; clear hg2 ho2))
        have HO2 : Hid (OwnsFiles w2 base (.slice (some ⟨g, 0, none⟩) l.length c) l) := owns_below (unhide HO) (fun k hk => ((unhide HO).lt k hk).2) (down_below (unhide HI) (unhide HB1) (unhide G2))
        have HW2 := hide (down_below (unhide HI) (unhide HB1) (unhide G2))
        have HN : Hid (w2.ownsRow w.heap.size 9 1 (.slice (some ⟨g2, 0, none⟩) (seen.length + 1) p2) (seen.length + 1) ((seen ++ [y]).map Value.string)) := by rw [List.map_append]; exact unhide O2
        go_loopw [10] (fun i wx => ∃ j nq, j ≤ seen.length + 1 ∧ i = .int .i64 (j : Nat) ∧ wx = w2.drewN nq ∧ ∀ t, t < j → (seen ++ [y]).getD t ⟨#[]⟩ ≠ bk) (fun i _ => seen.length + 1 - (intOf i).toNat)
        case atStart => exact ⟨0, 0, Nat.zero_le _, rfl, rfl, fun t ht => by omega⟩
        case round =>
          obtain ⟨j, nq, hj, rfl, rfl, hall⟩ := hrel
          have HA := hide hall
          clear hall
          by_cases hjn : j < seen.length + 1
          · have cn := texts_cell (unhide HN) hjn
            obtain ⟨z, hz⟩ : ∃ z, (seen ++ [y]).getD j ⟨#[]⟩ = z := ⟨_, rfl⟩
            rw [hz] at cn
            have HZ := hide hz
            clear hz
            by_cases hq : z = bk
            · subst hq
              have HD := hide ((unhide HI).cycle (unhide HFS) (unhide Him) (by rw [unhide HBK]; exact unhide Hb0) (by rw [unhide HBK]; exact Ov.metB_at (by simp; omega) (unhide HZ)))
              go_wp2_with fail
              go_quiet (fail)
              go_wp2_with fail
              go_ret3
              exact ⟨.slice none 0 0, by rw [unhide HD]; rfl, ((unhide HW2).trans (below_draws _ _ _)).trans (below_draws _ _ _), by rw [unhide HD]; exact World.ownsRow_nil _ _ _ _⟩
            · have hq' : (z.toList == bk.toList) = false := by rw [beq_eq_false_iff_ne, ByteArray.toList_eq, ByteArray.toList_eq]; exact fun e => hq (Go.WideShapes.bytes_inj e)
              go_wp2_with fail
              go_quiet (fail)
              go_wp2_with fail
              go_roundw
              case rel => exact ⟨j + 1, _, by omega, by go_num, rfl, names_more (unhide HA) (by rw [unhide HZ]; exact hq)⟩
              case measure => simp [intOf]; omega
          · have Hm : Hid (Ov.metB (seen ++ [y]) bk = false) := Ov.metB_no (fun t ht => unhide HA t (by simp at ht; omega))
            by_cases hpb : Ov.place l bk < l.length
            · have hfb : Ov.find l bk = (Ov.place l bk : Int) := Ov.find_yes hpb
              go_wp2_with (go_at_call 166; refine (rFind_calls l _ bk base _ hl (owns_all (unhide HO2) (below_draws _ _ nq))).mono ?_; rintro e w' ⟨rfl, rfl⟩)
              go_roundw
              case rel => exact ⟨seen ++ [y], bk, rfl, by rw [← unhide HBK]; exact (unhide HI).next (unhide HFS) (unhide Him) (by rw [unhide HBK]; exact unhide Hb0) (by rw [unhide HBK]; exact unhide Hm) (by rw [unhide HBK]; exact hpb) (owns_all (unhide O2) (below_draws _ _ nq)) ((unhide HW2).trans (below_draws _ _ _))⟩
              case measure => simp [lenOf]; omega
            · have hfb : Ov.find l bk = -1 := Ov.find_no hpb
              go_wp2_with (go_at_call 166; refine (rFind_calls l _ bk base _ hl (owns_all (unhide HO2) (below_draws _ _ nq))).mono ?_; rintro e w' ⟨rfl, rfl⟩)
              have HD := hide ((unhide HI).missing (unhide HFS) (unhide Him) (by rw [unhide HBK]; exact unhide Hb0) (by rw [unhide HBK]; exact unhide Hm) (by rw [unhide HBK]; exact hpb))
              go_ret3
              exact ⟨.slice none 0 0, by rw [unhide HD]; rfl, (unhide HW2).trans (below_draws _ _ _), by rw [unhide HD]; exact World.ownsRow_nil _ _ _ _⟩

end Go.Proofs.YtomiepknmmpflaaGreatDoor

