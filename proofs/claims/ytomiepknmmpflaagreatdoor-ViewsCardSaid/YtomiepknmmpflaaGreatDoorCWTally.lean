/- The walk of the program's tally. -/
import Derived.Test.YtomiepknmmpflaaGreatDoorCWParse
import Derived.Test.YtomiepknmmpflaaGreatDoorCWDown
import Derived.Test.YtomiepknmmpflaaGreatDoorCWONew
import Derived.Handy
namespace Go.Proofs.YtomiepknmmpflaaGreatDoor
open Go.RowKit Go.Joins

theorem blk_new (w : World) (o : Obj) : (w.alloc o).heap[w.heap.size]? = some o := by
  show (w.heap.push _)[w.heap.size]? = _
  simp
theorem dec_itoa : ∀ n : Fin 100, (⟨(Lib.decDigits n.val).toArray⟩ : ByteArray) = dec n.val := by decide +kernel
theorem oItoa_is {v : Int} {n : Nat} {D : ByteArray} (hv : v = (n : Int)) (hn : n < 100) (hd : dec n = D) (w : World) : Calls Tryz.prog 102 #[.int .i64 v] w fun e w' => e = .returned (.string D) ∧ w' = w := by
  subst hv; subst hd
  have := Tryz.strconv_Itoa_small n hn w
  rw [dec_itoa ⟨n, hn⟩] at this
  exact this
theorem cntTo_three (s : ByteArray) (m k : Nat) (hk : k ≤ m) : cntTo (Ov.kindsTo s m) 1 k + cntTo (Ov.kindsTo s m) 255 k + cntTo (Ov.kindsTo s m) 0 k = k := by
  induction k with
  | zero => rfl
  | succ k ih =>
    have ih := ih (by omega)
    have hq : (Ov.kindsTo s m).getD k 0 = Ov.kindOf (Ov.ent s k) := by
      unfold Ov.kindsTo
      rw [List.getD_eq_getElem?_getD, List.getElem?_map, List.getElem?_range (by omega)]; rfl
    simp only [cntTo, hq]
    unfold Ov.kindOf
    split
    · simp; omega
    · split
      · simp; omega
      · simp; omega
theorem rowTo_at {s : ByteArray} (hh : Ov.headOk s) {m k : Nat} (hg : Ov.goodTo s m) (hk : k < m) (j : Nat) (hj : j < 9) : (rowTo s m)[k * 9 + j]? = (clCells s k)[j]? := by
  induction m with
  | zero => omega
  | succ m ih =>
    have hl := rowTo_length hh (k := m) (fun i hi => hg i (by omega))
    rw [rowTo]
    by_cases h : k < m
    · rw [List.getElem?_append_left (by omega)]; exact ih (fun i hi => hg i (by omega)) h
    · obtain rfl : k = m := by omega
      rw [List.getElem?_append_right (by omega), hl, Nat.add_sub_cancel_left]
/-- The number of a cluster's kind. -/
def kindN (e : Nat) : Int := if e = 0 then 0 else if e = 255 then 1 else 2
theorem byteVals_int {l : List UInt8} {v : Value} (h : v ∈ byteVals l) : ∃ n : Int, v = .int .u8 n := by
  unfold byteVals at h
  rw [List.mem_map] at h
  obtain ⟨b, _, rfl⟩ := h
  exact ⟨_, rfl⟩
theorem clCells_tail {s : ByteArray} {k : Nat} : ∃ l, clCells s k = .int .i64 (kindN (Ov.ent s k)) :: l ∧ ∀ v ∈ l, ∃ n : Int, v = .int .u8 n := by
  unfold clCells kindN
  have hz : ∀ v ∈ zero8, ∃ n : Int, v = .int .u8 n := fun v hv => ⟨0, by unfold zero8 at hv; simpa using hv⟩
  split
  · exact ⟨_, rfl, hz⟩
  · split
    · exact ⟨_, rfl, hz⟩
    · exact ⟨_, rfl, fun v hv => byteVals_int hv⟩
theorem clCells_nine {s : ByteArray} (hh : Ov.headOk s) {k : Nat} (hok : Ov.entOk s k) : ∃ b1 b2 b3 b4 b5 b6 b7 b8 : Int, clCells s k = [.int .i64 (kindN (Ov.ent s k)), .int .u8 b1, .int .u8 b2, .int .u8 b3, .int .u8 b4, .int .u8 b5, .int .u8 b6, .int .u8 b7, .int .u8 b8] := by
  have hl := cl_length hh hok
  obtain ⟨l, h0, hi⟩ := clCells_tail (s := s) (k := k)
  rw [h0] at hl ⊢
  match l, hl, hi with
  | [x1, x2, x3, x4, x5, x6, x7, x8], _, hi =>
    obtain ⟨n1, rfl⟩ := hi x1 (by simp)
    obtain ⟨n2, rfl⟩ := hi x2 (by simp)
    obtain ⟨n3, rfl⟩ := hi x3 (by simp)
    obtain ⟨n4, rfl⟩ := hi x4 (by simp)
    obtain ⟨n5, rfl⟩ := hi x5 (by simp)
    obtain ⟨n6, rfl⟩ := hi x6 (by simp)
    obtain ⟨n7, rfl⟩ := hi x7 (by simp)
    obtain ⟨n8, rfl⟩ := hi x8 (by simp)
    exact ⟨n1, n2, n3, n4, n5, n6, n7, n8, rfl⟩
theorem row_cell {w : World} {g : Nat} {s : ByteArray} {m k : Nat} (h : w.heap[g]? = some (.cells (rowTo s m).toArray 160 (0, 0))) (hh : Ov.headOk s) (hg : Ov.goodTo s m) (hk : k < m) {j : Nat} (hj : j < 9) {v : Value} (hv : (clCells s k)[j]? = some v) : w.cell? ⟨g, k * 9 + j, none⟩ = some v := by
  rw [cell_of_block h]
  show (rowTo s m).toArray[k * 9 + j]? = some v
  rw [List.getElem?_toArray, rowTo_at hh hg hk j hj, hv]

set_option maxRecDepth 100000 in
set_option maxHeartbeats 1000000 in
theorem otally_calls (s : ByteArray) (g m t : Nat) (w : World) (him : Ov.isImage s) (hm : Ov.many s = m) (ht : Ov.lost s = (t : Int)) (hr : w.heap[g]? = some (.cells (rowTo s m).toArray 160 (0, 0))) :
    Calls Tryz.prog 58 #[.agg #[.string (Ov.backing s), .slice (some ⟨g, 0, none⟩) m m, .int .i64 t]] w fun e w' => e = .returned (.string (tally s)) ∧ Below w.heap.size w w' := by
  have hm30 : m ≤ 30 := by rw [← hm]; exact him.1.2.2.2.2.2.1
  have hd60 : Ov.datas s ≤ 60 := him.1.2.2.2.2.2.2.2.2.2.1
  have hlo := Ov.lostTo_bd s (Ov.datas s)
  have ht60 : t ≤ 60 := by unfold Ov.lost at ht; omega
  have HT : Hid (tally s = tallyOf (cntTo (Ov.kindsTo s (Ov.many s)) 1 (Ov.many s)) (cntTo (Ov.kindsTo s (Ov.many s)) 255 (Ov.many s)) (Ov.many s - cntTo (Ov.kindsTo s (Ov.many s)) 1 (Ov.many s) - cntTo (Ov.kindsTo s (Ov.many s)) 255 (Ov.many s)) (Ov.lost s).toNat) := rfl
  have Him := hide him
  have HM := hide hm
  have HR : Hid ((w.alloc (.cells #[.string (Ov.backing s), .slice (some ⟨g, 0, none⟩) m m, .int .i64 t] 90)).heap[g]? = some (.cells (rowTo s m).toArray 160 (0, 0))) := by rw [Below.heap_alloc _ _ _ (blk_lt hr)]; exact hr
  have HLo := hide ht
  clear him hm hd60 hlo hr ht
  go_enter Tryz.func58, Tryz.ntmps58
  go_wp2_with fail
  go_loopw [3, 4, 5, 11] (fun d z o i wr => ∃ k : Nat, k ≤ m ∧ i = .int .i64 k ∧ d = .int .i64 (cntTo (Ov.kindsTo s m) 1 k : Nat) ∧ z = .int .i64 (cntTo (Ov.kindsTo s m) 255 k : Nat) ∧ o = .int .i64 (cntTo (Ov.kindsTo s m) 0 k : Nat) ∧ Below w.heap.size w wr ∧ wr.heap[w.heap.size]? = some (.cells #[.string (Ov.backing s), .slice (some ⟨g, 0, none⟩) m m, .int .i64 t] 90 (0, 0)) ∧ wr.heap[g]? = some (.cells (rowTo s m).toArray 160 (0, 0))) (fun _ _ _ i _ => m - (intOf i).toNat)
  case atStart => exact ⟨0, Nat.zero_le _, rfl, rfl, rfl, rfl, (Below.refl _ _).alloc (Nat.le_refl _) _, blk_new _ _, unhide HR⟩
  case round =>
    obtain ⟨k, hk, rfl, rfl, rfl, rfl, hB, hmb, hrw⟩ := hrel
    have HB := hide hB
    have xt : wr.cell? ⟨w.heap.size, 2, none⟩ = some (.int .i64 t) := blk_cell hmb rfl
    have HMB := hide hmb
    have HRw := hide hrw
    clear hB hmb hrw
    have hc1 := cntTo_le (Ov.kindsTo s m) 1 k
    have hc2 := cntTo_le (Ov.kindsTo s m) 255 k
    have hc3 := cntTo_le (Ov.kindsTo s m) 0 k
    by_cases hlt : k < m
    · have hgd : Ov.goodTo s m := by rw [← unhide HM]; exact (unhide Him).2
      obtain ⟨b1, b2, b3, b4, b5, b6, b7, b8, hcl⟩ := clCells_nine (unhide Him).1 (hgd k hlt)
      have hq : (Ov.kindsTo s m).getD k 0 = Ov.kindOf (Ov.ent s k) := by
        unfold Ov.kindsTo
        rw [List.getD_eq_getElem?_getD, List.getElem?_map, List.getElem?_range (by omega)]; rfl
      obtain ⟨q, hqe⟩ : ∃ q, kindN (Ov.ent s k) = q := ⟨_, rfl⟩
      have HQ := hide hq
      have HQE := hide hqe
      rw [hqe] at hcl
      have x0 := row_cell (unhide HRw) (unhide Him).1 hgd hlt (j := 0) (by omega) (by rw [hcl]; rfl)
      have x1 := row_cell (unhide HRw) (unhide Him).1 hgd hlt (j := 1) (by omega) (by rw [hcl]; rfl)
      have x2 := row_cell (unhide HRw) (unhide Him).1 hgd hlt (j := 2) (by omega) (by rw [hcl]; rfl)
      have x3 := row_cell (unhide HRw) (unhide Him).1 hgd hlt (j := 3) (by omega) (by rw [hcl]; rfl)
      have x4 := row_cell (unhide HRw) (unhide Him).1 hgd hlt (j := 4) (by omega) (by rw [hcl]; rfl)
      have x5 := row_cell (unhide HRw) (unhide Him).1 hgd hlt (j := 5) (by omega) (by rw [hcl]; rfl)
      have x6 := row_cell (unhide HRw) (unhide Him).1 hgd hlt (j := 6) (by omega) (by rw [hcl]; rfl)
      have x7 := row_cell (unhide HRw) (unhide Him).1 hgd hlt (j := 7) (by omega) (by rw [hcl]; rfl)
      have x8 := row_cell (unhide HRw) (unhide Him).1 hgd hlt (j := 8) (by omega) (by rw [hcl]; rfl)
      clear hcl hq hqe hgd
      rw [Nat.add_zero] at x0
      by_cases e0 : Ov.ent s k = 0
      · have h0 : q = 0 := by rw [← unhide HQE]; unfold kindN; rw [if_pos e0]
        have HK : Hid ((Ov.kindsTo s m).getD k 0 = 0) := by rw [unhide HQ]; unfold Ov.kindOf; rw [if_pos e0]; exact rfl
        subst h0
        clear e0
        go_wp2_with fail
        go_roundw
        case rel => exact ⟨k + 1, by omega, by go_num, by rw [cntTo, if_neg (by rw [unhide HK]; omega)]; go_num, by rw [cntTo, if_neg (by rw [unhide HK]; omega)]; go_num, by rw [cntTo, if_pos (unhide HK)]; go_num, (unhide HB).alloc (unhide HB).size _, blk_alloc (unhide HMB) _, blk_alloc (unhide HRw) _⟩
        case measure => simp [intOf]; omega
      by_cases e255 : Ov.ent s k = 255
      · have h0 : q = 1 := by rw [← unhide HQE]; unfold kindN; rw [if_neg e0, if_pos e255]
        have HK : Hid ((Ov.kindsTo s m).getD k 0 = 255) := by rw [unhide HQ]; unfold Ov.kindOf; rw [if_neg e0, if_pos e255]; exact rfl
        subst h0
        clear e0 e255
        go_wp2_with fail
        go_roundw
        case rel => exact ⟨k + 1, by omega, by go_num, by rw [cntTo, if_neg (by rw [unhide HK]; omega)]; go_num, by rw [cntTo, if_pos (unhide HK)]; go_num, by rw [cntTo, if_neg (by rw [unhide HK]; omega)]; go_num, (unhide HB).alloc (unhide HB).size _, blk_alloc (unhide HMB) _, blk_alloc (unhide HRw) _⟩
        case measure => simp [intOf]; omega
      have h0 : q = 2 := by rw [← unhide HQE]; unfold kindN; rw [if_neg e0, if_neg e255]
      have HK : Hid ((Ov.kindsTo s m).getD k 0 = 1) := by rw [unhide HQ]; unfold Ov.kindOf; rw [if_neg e0, if_neg e255]; exact rfl
      subst h0
      clear e0 e255
      go_wp2_with fail
      go_roundw
      case rel => exact ⟨k + 1, by omega, by go_num, by rw [cntTo, if_pos (unhide HK)]; go_num, by rw [cntTo, if_neg (by rw [unhide HK]; omega)]; go_num, by rw [cntTo, if_neg (by rw [unhide HK]; omega)]; go_num, (unhide HB).alloc (unhide HB).size _, blk_alloc (unhide HMB) _, blk_alloc (unhide HRw) _⟩
      case measure => simp [intOf]; omega
    · obtain rfl : k = m := by omega
      have hc4 := cntTo_three s k k (Nat.le_refl _)
      have HT2 : Hid (tally s = tallyOf (cntTo (Ov.kindsTo s k) 1 k) (cntTo (Ov.kindsTo s k) 255 k) (cntTo (Ov.kindsTo s k) 0 k) t) := by
        rw [unhide HT, unhide HM, unhide HLo]
        show _ = tallyOf _ _ _ _
        congr 1; omega
      generalize cntTo (Ov.kindsTo s k) 1 k = d at *
      generalize cntTo (Ov.kindsTo s k) 255 k = z at *
      generalize cntTo (Ov.kindsTo s k) 0 k = o at *
      obtain ⟨D1, e1⟩ : ∃ D, dec d = D := ⟨_, rfl⟩
      obtain ⟨D2, e2⟩ : ∃ D, dec z = D := ⟨_, rfl⟩
      obtain ⟨D3, e3⟩ : ∃ D, dec o = D := ⟨_, rfl⟩
      obtain ⟨D4, e4⟩ : ∃ D, dec t = D := ⟨_, rfl⟩
      have s1 : D1.size ≤ 2 := by rw [← e1]; exact dec_size _
      have s2 : D2.size ≤ 2 := by rw [← e2]; exact dec_size _
      have s3 : D3.size ≤ 2 := by rw [← e3]; exact dec_size _
      have s4 : D4.size ≤ 2 := by rw [← e4]; exact dec_size _
      have E1 := hide e1
      have E2 := hide e2
      have E3 := hide e3
      have E4 := hide e4
      have HR2 : Hid (tally s = D1 ++ comma ++ D2 ++ comma ++ D3 ++ comma ++ D4) := by
        rw [unhide HT2, tallyOf, ← e1, ← e2, ← e3, ← e4]; exact rfl
      clear e1 e2 e3 e4
      go_wp2_with fail
      go_quiet ((first | (go_at_call_of 102 (Value.int IntKind.i64 (d : Int)); exact Calls.quiet_of_same (oItoa_is rfl (by omega) (unhide E1) _)) | (go_at_call_of 102 (Value.int IntKind.i64 (z : Int)); exact Calls.quiet_of_same (oItoa_is rfl (by omega) (unhide E2) _)) | (go_at_call_of 102 (Value.int IntKind.i64 (o : Int)); exact Calls.quiet_of_same (oItoa_is rfl (by omega) (unhide E3) _)) | (go_at_call_of 102 (Value.int IntKind.i64 (t : Int)); exact Calls.quiet_of_same (oItoa_is rfl (by omega) (unhide E4) _))))
      go_wp2_with fail
      go_ret
      exact ⟨by rw [unhide HR2]; rfl, (unhide HB).trans (below_draws _ _ _)⟩

end Go.Proofs.YtomiepknmmpflaaGreatDoor
