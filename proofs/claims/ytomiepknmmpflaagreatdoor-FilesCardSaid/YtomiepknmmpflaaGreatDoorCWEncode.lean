/- An image's file, piece by piece, as Encode makes it. -/
import Derived.Test.YtomiepknmmpflaaGreatDoorCWFind
import Derived.Test.YtomiepknmmpflaaGreatDoorCPDown
namespace Go.Proofs.YtomiepknmmpflaaGreatDoor
open Go.RowKit Go.Joins

/-- How many of the first k entries are data. -/
def encN (ks : List Int) : Nat → Nat
  | 0 => 0
  | k + 1 => encN ks k + if ks.getD k 0 = 1 then 1 else 0
/-- The entry's byte. -/
def encE (ks : List Int) (k : Nat) : Int := if ks.getD k 0 = 1 then ((encN ks k + 1 : Nat) : Int) else ks.getD k 0
def encHead (bk : ByteArray) (n : Nat) : ByteArray := ⟨#[79, 86]⟩ ++ strOfNums [1, n, bk.size] ++ bk
def encF (bk : ByteArray) (ks : List Int) (n : Nat) : Nat → ByteArray
  | 0 => encHead bk n
  | k + 1 => encF bk ks n k ++ strOfNums [encE ks k]
def encB (ks : List Int) (bs : List ByteArray) : Nat → ByteArray
  | 0 => ⟨#[]⟩
  | k + 1 => if ks.getD k 0 = 1 then encB ks bs k ++ bs.getD k ⟨#[]⟩ else encB ks bs k
/-- The file whole. -/
def encode (bk : ByteArray) (ks : List Int) (bs : List ByteArray) : ByteArray := encF bk ks ks.length ks.length ++ strOfNums [(encN ks ks.length : Int)] ++ encB ks bs ks.length
theorem encN_le (ks : List Int) (k : Nat) : encN ks k ≤ k := by
  induction k with
  | zero => simp [encN]
  | succ k ih => simp only [encN]; split <;> omega

theorem encF_size (bk : ByteArray) (ks : List Int) (n k : Nat) : (encF bk ks n k).size = 5 + bk.size + k := by
  induction k with
  | zero =>
    have h2 : (⟨#[79, 86]⟩ : ByteArray).size = 2 := rfl
    simp only [encF, encHead, ByteArray.size_append, strOfNums_size, h2, List.length_cons, List.length_nil]; omega
  | succ k ih => simp only [encF, ByteArray.size_append, strOfNums_size, ih, List.length_cons, List.length_nil]; omega
theorem encB_size (ks : List Int) (bs : List ByteArray) (k : Nat) (h : ∀ j, j < k → (bs.getD j ⟨#[]⟩).size ≤ 8) : (encB ks bs k).size ≤ 8 * k := by
  induction k with
  | zero => exact Nat.le_refl 0
  | succ k ih =>
    have := ih (fun j hj => h j (by omega))
    have := h k (by omega)
    simp only [encB]
    split
    · rw [ByteArray.size_append]; omega
    · omega
theorem conv_lit (w : World) (b : Nat) (hb : b = w.heap.size) (xs : List Int) (h : ∀ i, i < xs.length → ((xs.map (Value.int .u8)).toArray)[i]? = some (.int .u8 (xs.getD i 0))) (m : Nat) (hm : xs.length = m) :
    (convert 103 9 (.slice (some ⟨b, 0, none⟩) m m)).run Tryz.prog (w.alloc (.cells (xs.map (Value.int .u8)).toArray 5)) = .ok (.string (strOfNums xs)) (w.alloc (.cells (xs.map (Value.int .u8)).toArray 5)) := by
  subst hb
  refine run_convert_bytes_arg _ 103 5 Tryz.underlying103 Tryz.underlying5 w.heap.size 0 m m xs hm (fun i hi => ?_) 9 Tryz.underlying9
  rw [Nat.zero_add, cell_alloc_mark_at w _ _ (0, 0) _ i rfl, h i (by omega)]
theorem conv1 (w : World) (x : Int) : (convert 103 9 (.slice (some ⟨w.heap.size, 0, none⟩) 1 1)).run Tryz.prog (w.alloc (.cells #[.int .u8 x] 5)) = .ok (.string (strOfNums [x])) (w.alloc (.cells #[.int .u8 x] 5)) :=
  conv_lit w _ rfl [x] (fun i hi => by match i, hi with | 0, _ => rfl) 1 rfl
theorem conv3 (w : World) (b : Nat) (hb : b = w.heap.size) (x y z : Int) : (convert 103 9 (.slice (some ⟨b, 0, none⟩) 3 3)).run Tryz.prog (w.alloc (.cells #[.int .u8 x, .int .u8 y, .int .u8 z] 5)) = .ok (.string (strOfNums [x, y, z])) (w.alloc (.cells #[.int .u8 x, .int .u8 y, .int .u8 z] 5)) :=
  conv_lit w _ hb [x, y, z] (fun i hi => by match i, hi with | 0, _ => rfl | 1, _ => rfl | 2, _ => rfl) 3 rfl

theorem ints_cell {w : World} {base g c n : Nat} {ks : List Int} (h : w.ownsRow base 3 1 (.slice (some ⟨g, 0, none⟩) n c) n (ks.map (Value.int .i64))) {k : Nat} (hk : k < n) : w.cell? ⟨g, k, none⟩ = some (.int .i64 (ks.getD k 0)) := by
  have hl : ks.length = n := by have := h.1; simpa using this
  rw [h.cellAt k (by omega), List.getElem?_map, List.getD_eq_getElem?_getD, List.getElem?_eq_getElem (by omega)]; rfl
theorem texts_cell {w : World} {base g c n : Nat} {bs : List ByteArray} (h : w.ownsRow base 9 1 (.slice (some ⟨g, 0, none⟩) n c) n (bs.map Value.string)) {k : Nat} (hk : k < n) : w.cell? ⟨g, k, none⟩ = some (.string (bs.getD k ⟨#[]⟩)) := by
  have hl : bs.length = n := by have := h.1; simpa using this
  rw [h.cellAt k (by omega), List.getElem?_map, List.getD_eq_getElem?_getD, List.getElem?_eq_getElem (by omega)]; rfl

end Go.Proofs.YtomiepknmmpflaaGreatDoor

/- The walk of the reference's Encode. -/
namespace Go.Proofs.YtomiepknmmpflaaGreatDoor
open Go.RowKit Go.Joins

theorem box_cell {w : World} {cs : Array Value} {t : TypeId} (o : Obj) : ((w.alloc (.cells cs t)).alloc o).heap[w.heap.size]? = some (.cells cs t (0, 0)) := by
  rw [Below.heap_alloc _ _ _ (by simp)]
  show (w.heap.push _)[w.heap.size]? = _
  simp

set_option maxRecDepth 100000 in
set_option maxHeartbeats 400000 in
theorem rEncode_calls (bk : ByteArray) (ks : List Int) (bs : List ByteArray) (ea ba : Option Addr) (ec bc : Nat) (lost : Int) (n base : Nat) (w : World) (hbk : bk.size ≤ 8) (hn : n ≤ 30) (hk : w.ownsRow base 3 1 (.slice ea n ec) n (ks.map (Value.int .i64))) (hb : w.ownsRow base 9 1 (.slice ba n bc) n (bs.map Value.string)) (hks : ∀ k, k < n → 0 ≤ ks.getD k 0 ∧ ks.getD k 0 ≤ 255) (hbs : ∀ k, k < n → (bs.getD k ⟨#[]⟩).size ≤ 8) :
    Calls Tryz.prog 163 #[.agg #[.string bk, .slice ea n ec, .slice ba n bc, .int .i64 lost]] w fun e w' => e = .returned (.string (encode bk ks bs)) ∧ Below w.heap.size w w' := by
  have hL : ks.length = n := by have := hk.1; simpa using this
  have HL := hide hL
  clear hL
  have HK := hide hk
  have HB := hide hb
  have HKS := hide hks
  have HBS := hide hbs
  clear hk hb hks hbs
  have hs3 : (strOfNums [1, (n : Int), (bk.size : Int)]).size = 3 := strOfNums_size _
  have hs1 : ∀ x, (strOfNums [x]).size = 1 := fun _ => strOfNums_size _
  have h3 := conv3 (w.alloc (Obj.cells #[Value.string bk, Value.slice ea n ec, Value.slice ba n bc, Value.int IntKind.i64 lost] 240)) (w.heap.size + 1) (by simp) 1 n bk.size
  go_enter Tryz.func163, Tryz.ntmps163
  go_wp2_with fail
  clear h3
  go_loopw [3, 4, 5, 6, 7] (fun f nn bl i _ wr => ∃ k, k ≤ n ∧ i = .int .i64 (k : Nat) ∧ f = .string (encF bk ks n k) ∧ nn = .int .i64 (encN ks k : Nat) ∧ bl = .string (encB ks bs k) ∧ Below w.heap.size w wr ∧ w.heap.size < wr.heap.size ∧ wr.heap[w.heap.size]? = some (.cells #[.string bk, .slice ea n ec, .slice ba n bc, .int .i64 lost] 240 (0, 0))) (fun _ _ _ i _ _ => n - (intOf i).toNat)
  case atStart => exact ⟨0, Nat.zero_le _, rfl, rfl, rfl, rfl, below_alloc2 w _ _, by simp; omega, box_cell _⟩
  case round =>
    obtain ⟨k, hk, rfl, rfl, rfl, rfl, hbl, hsz, hbox⟩ := hrel
    have b1 : wr.cell? ⟨w.heap.size, 1, none⟩ = some (.slice ea n ec) := blk_cell hbox rfl
    have b2 : wr.cell? ⟨w.heap.size, 2, none⟩ = some (.slice ba n bc) := blk_cell hbox rfl
    have hnk := encN_le ks k
    have hfs := encF_size bk ks n k
    have hbsz := encB_size ks bs k (fun j hj => unhide HBS j (by omega))
    have HBX := hide hbox
    have HBL := hide hbl
    clear hbox hbl
    by_cases hlt : k < n
    · obtain ⟨ge, ce, hve⟩ := ownsRow_form (unhide HK) (by omega)
      obtain ⟨rfl, rfl⟩ : ea = some ⟨ge, 0, none⟩ ∧ ec = ce := by simpa using hve
      obtain ⟨gb, cb, hvb⟩ := ownsRow_form (unhide HB) (by omega)
      obtain ⟨rfl, rfl⟩ : ba = some ⟨gb, 0, none⟩ ∧ bc = cb := by simpa using hvb
      have ck := ints_cell (owns_all (unhide HK) (unhide HBL)) hlt
      have ct := texts_cell (owns_all (unhide HB) (unhide HBL)) hlt
      have hkb := unhide HKS k hlt
      have htb := unhide HBS k hlt
      obtain ⟨q, hq⟩ : ∃ q, ks.getD k 0 = q := ⟨_, rfl⟩
      obtain ⟨t, ht⟩ : ∃ t, bs.getD k ⟨#[]⟩ = t := ⟨_, rfl⟩
      rw [hq] at ck hkb
      rw [ht] at ct htb
      have HQ := hide hq
      have HT := hide ht
      clear hve hvb hq ht
      by_cases h1 : q = 1
      · subst h1
        have h1c := conv1 wr (encN ks k + 1 : Nat)
        simp only [Int.natCast_add, Int.cast_ofNat_Int] at h1c
        go_wp2_with fail
        go_roundw
        case rel => exact ⟨k + 1, by omega, by go_num, by rw [encF, encE, if_pos (unhide HQ)]; rfl, by rw [encN, if_pos (unhide HQ)]; rfl, by rw [encB, if_pos (unhide HQ), unhide HT], (unhide HBL).alloc (by omega) _, by simp; omega, blk_alloc (unhide HBX) _⟩
        case measure => simp [intOf]; omega
      · have hq1 : (q == 1) = false := beq_eq_false_iff_ne.2 h1
        have h1c := conv1 wr q
        go_wp2_with fail
        go_roundw
        case rel => exact ⟨k + 1, by omega, by go_num, by rw [encF, encE, if_neg (by rw [unhide HQ]; exact h1), unhide HQ], by rw [encN, if_neg (by rw [unhide HQ]; exact h1)]; rfl, by rw [encB, if_neg (by rw [unhide HQ]; exact h1)], (unhide HBL).alloc (by omega) _, by simp; omega, blk_alloc (unhide HBX) _⟩
        case measure => simp [intOf]; omega
    · obtain rfl : k = n := by omega
      have h1c := conv1 wr (encN ks k)
      go_wp2_with fail
      go_ret
      exact ⟨by rw [encode, unhide HL]; rfl, (unhide HBL).alloc (by omega) _⟩

end Go.Proofs.YtomiepknmmpflaaGreatDoor
