/- The walk of the reference's Encode. -/
import Derived.Test.YtdcmmmggiokbhaaGreatDoorCMem
namespace Go.Proofs.YtdcmmmggiokbhaaGreatDoor
open Go.RowKit Go.Joins

theorem box_cell {w : World} {cs : Array Value} {t : TypeId} (o : Obj) : ((w.alloc (.cells cs t)).alloc o).heap[w.heap.size]? = some (.cells cs t (0, 0)) := by
  rw [Below.heap_alloc _ _ _ (by simp)]
  show (w.heap.push _)[w.heap.size]? = _
  simp

set_option maxRecDepth 100000 in
set_option maxHeartbeats 400000 in
theorem rEncode_calls (bk : ByteArray) (ks : List Int) (bs : List ByteArray) (ea ba : Option Addr) (ec bc : Nat) (lost : Int) (n base : Nat) (w : World) (hbk : bk.size ≤ 8) (hn : n ≤ 30) (hk : w.ownsRow base 3 1 (.slice ea n ec) n (ks.map (Value.int .i64))) (hb : w.ownsRow base 9 1 (.slice ba n bc) n (bs.map Value.string)) (hks : ∀ k, k < n → 0 ≤ ks.getD k 0 ∧ ks.getD k 0 ≤ 255) (hbs : ∀ k, k < n → (bs.getD k ⟨#[]⟩).size ≤ 8) :
    Calls Tryz.prog 55 #[.agg #[.string bk, .slice ea n ec, .slice ba n bc, .int .i64 lost]] w fun e w' => e = .returned (.string (encode bk ks bs)) ∧ Below w.heap.size w w' := by
  have hL : ks.length = n := by have := hk.1; simpa using this
  have HL := hide hL
  clear hL
  have HK := hide hk
  have HB := hide hb
  have HKS := hide hks
  have HBS := hide hbs
  clear hk hb hks hbs
  have hs3 : (strOfNums [1, (n : Int), (bk.size : Int)]).size = 3 := strOfNums_size _
  have hs1 : ∀ x, (strOfNums [x]).size = 1 := fun _ => strOfNums_size _
  have h3 := conv3 (w.alloc (Obj.cells #[Value.string bk, Value.slice ea n ec, Value.slice ba n bc, Value.int IntKind.i64 lost] 98)) (w.heap.size + 1) (by simp) 1 n bk.size
  go_enter Tryz.func55, Tryz.ntmps55
  go_wp2_with fail
  clear h3
  go_loopw [3, 4, 5, 6, 7] (fun f nn bl i _ wr => ∃ k, k ≤ n ∧ i = .int .i64 (k : Nat) ∧ f = .string (encF bk ks n k) ∧ nn = .int .i64 (encN ks k : Nat) ∧ bl = .string (encB ks bs k) ∧ Below w.heap.size w wr ∧ w.heap.size < wr.heap.size ∧ wr.heap[w.heap.size]? = some (.cells #[.string bk, .slice ea n ec, .slice ba n bc, .int .i64 lost] 98 (0, 0))) (fun _ _ _ i _ _ => n - (intOf i).toNat)
  case atStart => exact ⟨0, Nat.zero_le _, rfl, rfl, rfl, rfl, below_alloc2 w _ _, by simp; omega, box_cell _⟩
  case round =>
    obtain ⟨k, hk, rfl, rfl, rfl, rfl, hbl, hsz, hbox⟩ := hrel
    have b1 : wr.cell? ⟨w.heap.size, 1, none⟩ = some (.slice ea n ec) := blk_cell hbox rfl
    have b2 : wr.cell? ⟨w.heap.size, 2, none⟩ = some (.slice ba n bc) := blk_cell hbox rfl
    have hnk := encN_le ks k
    have hfs := encF_size bk ks n k
    have hbsz := encB_size ks bs k (fun j hj => unhide HBS j (by omega))
    have HBX := hide hbox
    have HBL := hide hbl
    clear hbox hbl
    by_cases hlt : k < n
    · obtain ⟨ge, ce, hve⟩ := ownsRow_form (unhide HK) (by omega)
      obtain ⟨rfl, rfl⟩ : ea = some ⟨ge, 0, none⟩ ∧ ec = ce := by simpa using hve
      obtain ⟨gb, cb, hvb⟩ := ownsRow_form (unhide HB) (by omega)
      obtain ⟨rfl, rfl⟩ : ba = some ⟨gb, 0, none⟩ ∧ bc = cb := by simpa using hvb
      have ck := ints_cell (owns_all (unhide HK) (unhide HBL)) hlt
      have ct := texts_cell (owns_all (unhide HB) (unhide HBL)) hlt
      have hkb := unhide HKS k hlt
      have htb := unhide HBS k hlt
      obtain ⟨q, hq⟩ : ∃ q, ks.getD k 0 = q := ⟨_, rfl⟩
      obtain ⟨t, ht⟩ : ∃ t, bs.getD k ⟨#[]⟩ = t := ⟨_, rfl⟩
      rw [hq] at ck hkb
      rw [ht] at ct htb
      have HQ := hide hq
      have HT := hide ht
      clear hve hvb hq ht
      by_cases h1 : q = 1
      · subst h1
        have h1c := conv1 wr (encN ks k + 1 : Nat)
        simp only [Int.natCast_add, Int.cast_ofNat_Int] at h1c
        go_wp2_with fail
        go_roundw
        case rel => exact ⟨k + 1, by omega, by go_num, by rw [encF, encE, if_pos (unhide HQ)]; rfl, by rw [encN, if_pos (unhide HQ)]; rfl, by rw [encB, if_pos (unhide HQ), unhide HT], (unhide HBL).alloc (by omega) _, by simp; omega, blk_alloc (unhide HBX) _⟩
        case measure => simp [intOf]; omega
      · have hq1 : (q == 1) = false := beq_eq_false_iff_ne.2 h1
        have h1c := conv1 wr q
        go_wp2_with fail
        go_roundw
        case rel => exact ⟨k + 1, by omega, by go_num, by rw [encF, encE, if_neg (by rw [unhide HQ]; exact h1), unhide HQ], by rw [encN, if_neg (by rw [unhide HQ]; exact h1)]; rfl, by rw [encB, if_neg (by rw [unhide HQ]; exact h1)], (unhide HBL).alloc (by omega) _, by simp; omega, blk_alloc (unhide HBX) _⟩
        case measure => simp [intOf]; omega
    · obtain rfl : k = n := by omega
      have h1c := conv1 wr (encN ks k)
      go_wp2_with fail
      go_ret
      exact ⟨by rw [encode, unhide HL]; rfl, (unhide HBL).alloc (by omega) _⟩

end Go.Proofs.YtdcmmmggiokbhaaGreatDoor
