/- The walk of the reference's At. -/
import Derived.Test.YtomiepknmmpflaaGreatDoorCPFile
import Derived.Handy
import Derived.Deep.LoopGhost
import Derived.Test.YtomiepknmmpflaaGreatDoorCWFile
namespace Go.Proofs.YtomiepknmmpflaaGreatDoor
open Go.RowKit Go.Joins

theorem kinds_at {s : ByteArray} {m k : Nat} (h : k < m) : (Ov.kindsTo s m).getD k 0 = Ov.kindOf (Ov.ent s k) := by simp [Ov.kindsTo, h]
theorem blocks_at {s : ByteArray} {m k : Nat} (h : k < m) : (Ov.blocksTo s m).getD k ⟨#[]⟩ = Ov.blockOf s (Ov.ent s k) := by simp [Ov.blocksTo, h]
theorem kindOf_known (e : Nat) : Ov.kindOf e = 0 ∨ Ov.kindOf e = 255 ∨ Ov.kindOf e = 1 := by
  unfold Ov.kindOf
  split
  · exact Or.inl rfl
  · split
    · exact Or.inr (Or.inl rfl)
    · exact Or.inr (Or.inr rfl)
theorem byteAt_in {s : ByteArray} {k : Nat} (h : k < s.size) : Ov.byteAt s k = (s[k]'h).toNat := (Ov.byteAt_eq s k h).symm
theorem data_size {s : ByteArray} (hi : Ov.isImage s) {k : Nat} (hk : k < Ov.many s) (h1 : Ov.kindOf (Ov.ent s k) = 1) : (Ov.blockOf s (Ov.ent s k)).size = 8 := by
  have h0 : Ov.ent s k ≠ 0 := fun e => by rw [e] at h1; simp [Ov.kindOf] at h1
  have h255 : Ov.ent s k ≠ 255 := fun e => by rw [e] at h1; simp [Ov.kindOf] at h1
  rw [Ov.blockOf_data h0 h255, ByteArray.size_extract]
  have hs := hi.1.2.2.2.2.2.2.2.2.2.2
  rcases hi.2 k hk with e | e | e
  · exact absurd e h0
  · exact absurd e h255
  · have := e.1
    omega

set_option maxRecDepth 100000 in
set_option maxHeartbeats 8000000 in
theorem rAt_calls (l : Ov.Files) (v : Value) (x : ByteArray) (ns : List ByteArray) (i base : Nat) (w : World) (hl : l.length ≤ 8) (hsz : ∀ j, j < l.length → (Ov.fileAt l j).size ≤ 1000) (ho : OwnsFiles w base v l) (hc : Ov.Chn l ns x) (hnm : ∀ y, Ov.place l y < l.length → 1 ≤ y.size) (hi : i ≤ 1000000) :
    Calls Tryz.prog 167 #[v, .string x, .int .i64 (i : Nat)] w fun e w' => e = .returned (.int .u8 (Ov.atTo l ns i : Nat)) ∧ Below w.heap.size w w' := by
  obtain ⟨g, c, rfl⟩ := ownsRow_form ho (by have := hc.here; omega)
  have HO := hide ho
  have HC := hide hc
  have HSZ := hide hsz
  have HNM := hide hnm
  clear ho hc hsz hnm
  obtain ⟨R, hR⟩ : ∃ R, Ov.atTo l ns i = R := ⟨_, rfl⟩
  have HR := hide hR
  rw [hR]
  clear hR
  go_enter Tryz.func167, Tryz.ntmps167
  go_wp2_with fail
  go_loopg [1] ns.length (fun gh v wr => ∃ ms y, v = .string y ∧ ms.length = gh ∧ (ms = [] ∧ y.size = 0 ∨ Ov.Chn l ms y) ∧ Ov.atTo l ms i = R ∧ Below w.heap.size w wr)
  case atStart => exact ⟨ns, x, rfl, rfl, Or.inr (unhide HC), unhide HR, Below.refl _ _⟩
  case round =>
    obtain ⟨ms, y, rfl, hgl, hch, hat, hbel⟩ := hrel
    have HBL := hide hbel
    have hwz := hbel.size
    rcases hch with ⟨rfl, hy0⟩ | hch
    · have hye : y.toList.isEmpty = true := by rw [ByteArray.toList_eq, List.isEmpty_iff_length_eq_zero]; simpa using hy0
      obtain rfl : 0 = R := hat
      clear hbel hy0
      go_wp2_with fail
      go_ret
      exact ⟨rfl, unhide HBL⟩
    · have hpl := hch.here
      have him := hch.image
      have hy1 := unhide HNM y hpl
      have hye : y.toList.isEmpty = false := by rw [ByteArray.toList_eq, ← Bool.not_eq_true, List.isEmpty_iff_length_eq_zero]; simp; intro e; rw [e] at hy1; exact absurd hy1 (by decide)
      obtain ⟨p, hpe⟩ : ∃ p, Ov.place l y = p := ⟨_, rfl⟩
      have hfd : Ov.find l y = (p : Int) := by rw [Ov.find_yes hpl, hpe]
      have hp : p < l.length := by omega
      have HOr := hide (owns_all (unhide HO) hbel)
      have cb := files_bytes (unhide HOr) hp
      obtain ⟨s, hse⟩ : ∃ s, Ov.fileAt l p = s := ⟨_, rfl⟩
      have hss : s.size ≤ 1000 := by rw [← hse]; exact unhide HSZ p hp
      rw [hse] at cb
      have him' : Ov.isImage s := by rw [← hse, ← hpe]; exact him
      have HIM := hide him'
      have HAT := hide hat
      have HCH := hide hch
      have HPE := hide hpe
      have HSE := hide hse
      have hm1 : 1 ≤ Ov.many s := him'.1.2.2.2.2.1
      have hm30 : Ov.many s ≤ 30 := him'.1.2.2.2.2.2.1
      obtain ⟨m, hme⟩ : ∃ m, Ov.many s = m := ⟨_, rfl⟩
      rw [hme] at hm1 hm30
      have HME := hide hme
      clear hbel hch hat him him' hpe hse hpl hme
      obtain ⟨bk, hbk⟩ : ∃ bk, Ov.backing s = bk := ⟨_, rfl⟩
      have HBK := hide hbk
      clear hbk
      have HFS : Hid (Ov.fileAt l (Ov.place l y) = s) := by rw [unhide HPE]; exact unhide HSE
      have fin : ∀ {w1 : World} (o : Obj), Hid (Below wr.heap.size wr w1) → Below w.heap.size w (w1.alloc o) := fun o h => ((unhide HBL).trans ((unhide h).mono hwz)).alloc (Nat.le_trans hwz (unhide h).size) o
      by_cases hq : m ≤ i / 8
      · have Hz : Hid (R = 0) := by rw [← unhide HAT]; exact Ov.atTo_short (unhide HCH) (unhide HFS) (by rw [unhide HME]; exact hq)
        go_wp2_with (first
          | (go_at_call 169; refine (rDecode_yes s _ hss (unhide HIM)).mono ?_; rintro e w1 ⟨ea, ec, ba, bc, he, hb1, ho1, ho2⟩; rw [unhide HME, unhide HBK] at he; subst he; have HB1 := hide hb1; clear hb1 ho1 ho2)
          | (go_at_call 166; refine (rFind_calls l _ y base _ hl (unhide HOr)).mono ?_; rintro e w' ⟨rfl, rfl⟩))
        go_ret
        exact ⟨by rw [unhide Hz]; rfl, fin _ HB1⟩
      · have hq2 : i / 8 < m := by omega
        obtain ⟨kd, hkd⟩ : ∃ kd, Ov.kindOf (Ov.ent s (i / 8)) = kd := ⟨_, rfl⟩
        obtain ⟨bl, hbl⟩ : ∃ bl, Ov.blockOf s (Ov.ent s (i / 8)) = bl := ⟨_, rfl⟩
        have hkk := kindOf_known (Ov.ent s (i / 8))
        rw [hkd] at hkk
        have HKD := hide hkd
        have HBLK := hide hbl
        clear hkd hbl
        rcases hkk with rfl | rfl | rfl
        · obtain ⟨ns', hn1, hn2, hn3⟩ := Ov.atTo_open (i := i) (unhide HCH) (unhide HFS) (by rw [unhide HME]; exact hq) (unhide HKD)
          have HN2 := hide hn2
          have HN3 := hide hn3
          clear hn2 hn3
          go_wp2_with (first
          | (go_at_call 169; refine (rDecode_yes s _ hss (unhide HIM)).mono ?_; rintro e w1 ⟨ea, ec, ba, bc, he, hb1, ho1, ho2⟩; rw [unhide HME, unhide HBK] at he; rw [unhide HME] at ho1 ho2; subst he; obtain ⟨ge, ec', hve⟩ := ownsRow_form ho1 (by omega); obtain ⟨rfl, rfl⟩ : ea = some ⟨ge, 0, none⟩ ∧ ec = ec' := (by simpa using hve); clear hve; obtain ⟨gb, bc', hvb⟩ := ownsRow_form ho2 (by omega); obtain ⟨rfl, rfl⟩ : ba = some ⟨gb, 0, none⟩ ∧ bc = bc' := (by simpa using hvb); clear hvb; have ce : ∀ o, (w1.alloc o).cell? ⟨ge, i / 8, none⟩ = some (.int .i64 0) := (fun o => by have := ints_cell (ho1.alloc o) (k := i / 8) hq2; rw [kinds_at hq2, unhide HKD] at this; exact this); have cs : ∀ o, (w1.alloc o).cell? ⟨gb, i / 8, none⟩ = some (.string bl) := (fun o => by have := texts_cell (ho2.alloc o) (k := i / 8) hq2; rw [blocks_at hq2, unhide HBLK] at this; exact this); have HB1 := hide hb1; clear hb1 ho1 ho2)
          | (go_at_call 166; refine (rFind_calls l _ y base _ hl (unhide HOr)).mono ?_; rintro e w' ⟨rfl, rfl⟩))
          go_roundg ns'.length
          case measure => omega
          case rel => exact ⟨ns', bk, rfl, rfl, (by rw [← unhide HBK]; exact unhide HN3), (unhide HN2).trans (unhide HAT), fin _ HB1⟩
        · have Hz : Hid (R = 0) := by rw [← unhide HAT]; exact Ov.atTo_zero (unhide HCH) (unhide HFS) (unhide HKD)
          go_wp2_with (first
          | (go_at_call 169; refine (rDecode_yes s _ hss (unhide HIM)).mono ?_; rintro e w1 ⟨ea, ec, ba, bc, he, hb1, ho1, ho2⟩; rw [unhide HME, unhide HBK] at he; rw [unhide HME] at ho1 ho2; subst he; obtain ⟨ge, ec', hve⟩ := ownsRow_form ho1 (by omega); obtain ⟨rfl, rfl⟩ : ea = some ⟨ge, 0, none⟩ ∧ ec = ec' := (by simpa using hve); clear hve; obtain ⟨gb, bc', hvb⟩ := ownsRow_form ho2 (by omega); obtain ⟨rfl, rfl⟩ : ba = some ⟨gb, 0, none⟩ ∧ bc = bc' := (by simpa using hvb); clear hvb; have ce : ∀ o, (w1.alloc o).cell? ⟨ge, i / 8, none⟩ = some (.int .i64 255) := (fun o => by have := ints_cell (ho1.alloc o) (k := i / 8) hq2; rw [kinds_at hq2, unhide HKD] at this; exact this); have cs : ∀ o, (w1.alloc o).cell? ⟨gb, i / 8, none⟩ = some (.string bl) := (fun o => by have := texts_cell (ho2.alloc o) (k := i / 8) hq2; rw [blocks_at hq2, unhide HBLK] at this; exact this); have HB1 := hide hb1; clear hb1 ho1 ho2)
          | (go_at_call 166; refine (rFind_calls l _ y base _ hl (unhide HOr)).mono ?_; rintro e w' ⟨rfl, rfl⟩))
          go_ret
          exact ⟨by rw [unhide Hz]; rfl, fin _ HB1⟩
        · have Hz : Hid (R = Ov.byteAt bl (i % 8)) := by rw [← unhide HAT, ← unhide HBLK]; exact Ov.atTo_data (unhide HCH) (unhide HFS) (by rw [unhide HME]; exact hq) (unhide HKD)
          have hb8 : bl.size = 8 := by rw [← unhide HBLK]; exact data_size (unhide HIM) (by rw [unhide HME]; exact hq2) (unhide HKD)
          go_wp2_with (first
          | (go_at_call 169; refine (rDecode_yes s _ hss (unhide HIM)).mono ?_; rintro e w1 ⟨ea, ec, ba, bc, he, hb1, ho1, ho2⟩; rw [unhide HME, unhide HBK] at he; rw [unhide HME] at ho1 ho2; subst he; obtain ⟨ge, ec', hve⟩ := ownsRow_form ho1 (by omega); obtain ⟨rfl, rfl⟩ : ea = some ⟨ge, 0, none⟩ ∧ ec = ec' := (by simpa using hve); clear hve; obtain ⟨gb, bc', hvb⟩ := ownsRow_form ho2 (by omega); obtain ⟨rfl, rfl⟩ : ba = some ⟨gb, 0, none⟩ ∧ bc = bc' := (by simpa using hvb); clear hvb; have ce : ∀ o, (w1.alloc o).cell? ⟨ge, i / 8, none⟩ = some (.int .i64 1) := (fun o => by have := ints_cell (ho1.alloc o) (k := i / 8) hq2; rw [kinds_at hq2, unhide HKD] at this; exact this); have cs : ∀ o, (w1.alloc o).cell? ⟨gb, i / 8, none⟩ = some (.string bl) := (fun o => by have := texts_cell (ho2.alloc o) (k := i / 8) hq2; rw [blocks_at hq2, unhide HBLK] at this; exact this); have HB1 := hide hb1; clear hb1 ho1 ho2)
          | (go_at_call 166; refine (rFind_calls l _ y base _ hl (unhide HOr)).mono ?_; rintro e w' ⟨rfl, rfl⟩))
          go_ret
          exact ⟨by rw [unhide Hz, byteAt_in (show i % 8 < bl.size by omega)]; rfl, fin _ HB1⟩

end Go.Proofs.YtomiepknmmpflaaGreatDoor

namespace Go.Proofs.YtomiepknmmpflaaGreatDoor
open Go.RowKit Go.Joins

def viewTo (l : Ov.Files) (ns : List ByteArray) (f : Nat) : Nat → List Int
  | 0 => []
  | k + 1 => viewTo l ns f k ++ [((Ov.atTo l ns (f + k) : Nat) : Int)]
theorem viewTo_length (l : Ov.Files) (ns : List ByteArray) (f k : Nat) : (viewTo l ns f k).length = k := by
  induction k with
  | zero => rfl
  | succ k ih => simp [viewTo, ih]
def viewF (l : Ov.Files) (ns : List ByteArray) (f k : Nat) : ByteArray := strOfNums (viewTo l ns f k)
theorem conv_own {w : World} {base n c : Nat} {a : Option Addr} {xs : List Int} (h : w.ownsRow base 5 1 (.slice a n c) n (xs.map (Value.int .u8))) : (convert 103 9 (.slice a n c)).run Tryz.prog w = .ok (.string (strOfNums xs)) w := by
  have hl : xs.length = n := by have := h.1; simpa using this
  rcases ownsRow_forms h with ⟨e, e0⟩ | ⟨g, c', e⟩
  · simp only [Value.slice.injEq] at e
    obtain ⟨rfl, rfl, rfl⟩ := e
    obtain rfl : xs = [] := List.length_eq_zero_iff.1 hl
    simp [convert, run_underlying Tryz.underlying103, run_underlying Tryz.underlying9, run_underlying Tryz.underlying5, strOfNums]
    rfl
  · simp only [Value.slice.injEq] at e
    obtain ⟨rfl, _, rfl⟩ := e
    refine run_convert_bytes_arg _ 103 5 Tryz.underlying103 Tryz.underlying5 g 0 n c xs hl (fun i hi => ?_) 9 Tryz.underlying9
    rw [Nat.zero_add, h.cellAt i (by omega), List.getElem?_map, List.getD_eq_getElem?_getD, List.getElem?_eq_getElem (by omega)]; rfl

set_option maxRecDepth 100000 in
set_option maxHeartbeats 2000000 in
theorem rView_calls (l : Ov.Files) (v : Value) (x : ByteArray) (ns : List ByteArray) (f k base : Nat) (w : World) (hl : l.length ≤ 8) (hsz : ∀ j, j < l.length → (Ov.fileAt l j).size ≤ 1000) (ho : OwnsFiles w base v l) (hc : Ov.Chn l ns x) (hnm : ∀ y, Ov.place l y < l.length → 1 ≤ y.size) (hf : f + k ≤ 240) :
    Calls Tryz.prog 158 #[v, .string x, .int .i64 (f : Nat), .int .i64 (k : Nat)] w fun e w' => e = .returned (.string (viewF l ns f k)) ∧ Below w.heap.size w w' := by
  obtain ⟨g, c, rfl⟩ := ownsRow_form ho (by have := hc.here; omega)
  obtain ⟨i0, hi, hz0, hz1, hz2⟩ := info_parts (show (Tryz.prog.info? 5).map (fun i => (i.zero, i.size, i.bytes)) = some (some (.int .u8 0), 1, 1) by kernel_rfl)
  have HO := hide ho
  have HC := hide hc
  have HSZ := hide hsz
  have HNM := hide hnm
  clear ho hc hsz hnm
  go_enter Tryz.func158, Tryz.ntmps158
  go_wp2_with fail
  go_loopw [9, 10] (fun b i wr => ∃ (j : Nat) (a : Option Addr) (c : Nat), j ≤ k ∧ i = .int .i64 ((f + j : Nat) : Int) ∧ b = .slice a j c ∧ wr.ownsRow w.heap.size 5 1 (.slice a j c) j ((viewTo l ns f j).map (Value.int .u8)) ∧ Below w.heap.size w wr) (fun _ i _ => f + k - (intOf i).toNat)
  case atStart => exact ⟨0, none, 0, Nat.zero_le _, rfl, rfl, World.ownsRow_nil _ _ _ _, Below.refl _ _⟩
  case round =>
    obtain ⟨j, a, cc, hj, rfl, rfl, how, hbel⟩ := hrel
    have HW := hide how
    have HBL := hide hbel
    have hwz := hbel.size
    have HOr := hide (owns_all (unhide HO) hbel)
    clear how hbel
    by_cases hlt : j < k
    · obtain ⟨R, hR⟩ : ∃ R, Ov.atTo l ns (f + j) = R := ⟨_, rfl⟩
      have hR2 : R < 256 := by rw [← hR]; exact Ov.atTo_lt _ _ _
      have HRR := hide hR
      clear hR
      go_wp2_with (first
        | (at_builtin; refine wpList_append_own _ rfl (.tmp 24) (.tmp 26) 103 rfl w.heap.size 5 i0 (.int .u8 0) 1 1 Tryz.underlying103 hi hz0 hz1 hz2 rfl (by decide) (.slice a j cc) j _ rfl ((owns_all (unhide HW) (unhide HB1)).alloc _) ⟨w1.heap.size, 0, none⟩ 1 1 [.int .u8 (R : Nat)] rfl rfl (one_new rfl) (by intro u hu; simp at hu; subst hu; rfl) (by unfold maxLen; omega) (by omega) (by simp; omega) ?_; intro v2 w2 ho2 hg2 _; obtain ⟨g2, c2, rfl⟩ := ownsRow_form ho2 (by omega))
        | (go_at_call 167; refine (rAt_calls l _ x ns (f + j) base _ hl (unhide HSZ) (unhide HOr) (unhide HC) (unhide HNM) (by omega)).mono ?_; rintro e w1 ⟨he, hb1⟩; rw [unhide HRR] at he; subst he; have HB1 := hide hb1; have hz1' := hb1.size; clear hb1))
      go_roundw
      case rel =>
        refine ⟨j + 1, _, c2, by omega, by go_num, rfl, ?_, ?_⟩
        · rw [viewTo, List.map_append, unhide HRR]; exact ho2
        · exact (((unhide HBL).trans ((unhide HB1).mono hwz)).alloc (Nat.le_trans hwz hz1') _).grown hg2 (by simp; omega) (fun q hq => ((unhide HW).lt q hq).1)
      case measure => simp [intOf]; omega
    · obtain rfl : j = k := by omega
      have hcv := conv_own (unhide HW)
      go_wp2_with fail
      go_ret
      exact ⟨rfl, unhide HBL⟩

end Go.Proofs.YtomiepknmmpflaaGreatDoor

namespace Go.Proofs.YtomiepknmmpflaaGreatDoor
open Go.RowKit Go.Joins

def partTo {α : Type} (m : Nat) (old new : Nat → α) (c : Nat → Prop) [DecidablePred c] (k : Nat) : List α := (List.range m).map fun i => if i < k ∧ c i then new i else old i
def allTo {α : Type} (m : Nat) (old new : Nat → α) (c : Nat → Prop) [DecidablePred c] : List α := (List.range m).map fun i => if c i then new i else old i
section
variable {α : Type} {m : Nat} {old new : Nat → α} {c : Nat → Prop} [DecidablePred c] {k : Nat}
theorem allTo_length : (allTo m old new c).length = m := by simp [allTo]
theorem partTo_none (h : ∀ i, i < k → ¬ c i) : partTo m old new c k = (List.range m).map old := by
  unfold partTo
  refine List.map_congr_left fun i _ => ?_
  rw [if_neg]
  rintro ⟨h1, h2⟩
  exact h i h1 h2
theorem partTo_zero : partTo m old new c 0 = (List.range m).map old := partTo_none (fun i hi => by omega)
theorem partTo_skip (h : ¬ c k) : partTo m old new c (k + 1) = partTo m old new c k := by
  unfold partTo
  refine List.map_congr_left fun i _ => ?_
  by_cases e : i = k
  · subst e; rw [if_neg (fun q => h q.2), if_neg (fun q => h q.2)]
  · by_cases h1 : i < k
    · by_cases h2 : c i
      · rw [if_pos ⟨by omega, h2⟩, if_pos ⟨h1, h2⟩]
      · rw [if_neg (fun q => h2 q.2), if_neg (fun q => h2 q.2)]
    · rw [if_neg (fun q => by omega), if_neg (fun q => h1 q.1)]
theorem partTo_set (h : c k) : partTo m old new c (k + 1) = (partTo m old new c k).set k (new k) := by
  unfold partTo
  refine List.ext_getElem (by simp) fun i h1 h2 => ?_
  rw [List.getElem_set]
  simp only [List.getElem_map, List.getElem_range]
  by_cases e : k = i
  · subst e; rw [if_pos ⟨by omega, h⟩, if_pos rfl]
  · rw [if_neg e]
    by_cases h3 : i < k
    · by_cases h4 : c i
      · rw [if_pos ⟨by omega, h4⟩, if_pos ⟨h3, h4⟩]
      · rw [if_neg (fun q => h4 q.2), if_neg (fun q => h4 q.2)]
    · rw [if_neg (fun q => by omega), if_neg (fun q => h3 q.1)]
theorem partTo_end (h : ∀ i, k ≤ i → i < m → ¬ c i) : partTo m old new c k = allTo m old new c := by
  unfold partTo allTo
  refine List.map_congr_left fun i hi => ?_
  have hi' : i < m := by simpa using hi
  by_cases h1 : i < k
  · by_cases h2 : c i
    · rw [if_pos ⟨h1, h2⟩, if_pos h2]
    · rw [if_neg (fun q => h2 q.2), if_neg h2]
  · rw [if_neg (fun q => h1 q.1), if_neg (h i (by omega) hi')]
theorem partTo_full : partTo m old new c m = allTo m old new c := partTo_end (fun i h1 h2 => by omega)
theorem partTo_getD {d : α} {i : Nat} (h : i < m) : (partTo m old new c k).getD i d = if i < k ∧ c i then new i else old i := by
  unfold partTo
  rw [List.getD_eq_getElem?_getD, List.getElem?_map, List.getElem?_range h]; rfl
theorem allTo_getD {d : α} {i : Nat} (h : i < m) : (allTo m old new c).getD i d = if c i then new i else old i := by
  unfold allTo
  rw [List.getD_eq_getElem?_getD, List.getElem?_map, List.getElem?_range h]; rfl
end

abbrev fileOf (l : Ov.Files) (x : ByteArray) : ByteArray := Ov.fileAt l (Ov.place l x)
def rangedF (l : Ov.Files) (x : ByteArray) (f k : Int) : Int :=
  if Ov.soundF l x ≠ 0 then Ov.soundF l x
  else if f < 0 ∨ k < 0 ∨ 8 * (Ov.many (fileOf l x) : Int) < f ∨ 8 * (Ov.many (fileOf l x) : Int) - f < k then 1 else 0
def byteW (l : Ov.Files) (ns : List ByteArray) (f : Nat) (d : ByteArray) (p : Nat) : Nat := if f ≤ p ∧ p < f + d.size then Ov.byteAt d (p - f) else Ov.atTo l ns p
theorem byteW_lt (l : Ov.Files) (ns : List ByteArray) (f : Nat) (d : ByteArray) (p : Nat) : byteW l ns f d p < 256 := by
  unfold byteW; split
  · exact Ov.byteAt_lt _ _
  · exact Ov.atTo_lt _ _ _
def blockTo (l : Ov.Files) (ns : List ByteArray) (f : Nat) (d : ByteArray) (n : Nat) : Nat → List Int
  | 0 => []
  | j + 1 => blockTo l ns f d n j ++ [((byteW l ns f d (8 * n + j) : Nat) : Int)]
theorem blockTo_length (l : Ov.Files) (ns : List ByteArray) (f : Nat) (d : ByteArray) (n j : Nat) : (blockTo l ns f d n j).length = j := by
  induction j with
  | zero => rfl
  | succ j ih => simp [blockTo, ih]
def blockW (l : Ov.Files) (ns : List ByteArray) (f : Nat) (d : ByteArray) (n : Nat) : ByteArray := strOfNums (blockTo l ns f d n 8)
theorem blockW_size (l : Ov.Files) (ns : List ByteArray) (f : Nat) (d : ByteArray) (n : Nat) : (blockW l ns f d n).size = 8 := by
  unfold blockW; rw [strOfNums_size, blockTo_length]
abbrev touched (f k : Nat) (i : Nat) : Prop := 8 * i < f + k ∧ f < 8 * i + 8
abbrev covered (f k : Nat) (i : Nat) : Prop := f ≤ 8 * i ∧ 8 * i + 8 ≤ f + k
abbrev kOld (s : ByteArray) (i : Nat) : Int := Ov.kindOf (Ov.ent s i)
abbrev bOld (s : ByteArray) (i : Nat) : ByteArray := Ov.blockOf s (Ov.ent s i)
def newF (room : Nat) (l : Ov.Files) (x : ByteArray) (ks : List Int) (bs : List ByteArray) : Int × Ov.Files := Ov.putF room l (Ov.withF l x (encode (Ov.backing (fileOf l x)) ks bs))
def readF (l : Ov.Files) (x : ByteArray) (f k : Int) : ByteArray × Int :=
  if rangedF l x f k ≠ 0 then (⟨#[]⟩, rangedF l x f k) else (viewF l (Ov.downOf l x).1 f.toNat k.toNat, 0)
def writeF (room : Nat) (l : Ov.Files) (x : ByteArray) (f : Int) (d : ByteArray) : Int × Ov.Files :=
  if rangedF l x f d.size ≠ 0 then (rangedF l x f d.size, l)
  else if d.size = 0 then (0, l)
  else newF room l x (allTo (Ov.many (fileOf l x)) (kOld (fileOf l x)) (fun _ => 1) (touched f.toNat d.size)) (allTo (Ov.many (fileOf l x)) (bOld (fileOf l x)) (blockW l (Ov.downOf l x).1 f.toNat d) (touched f.toNat d.size))
def noughtsF (k : Nat) : ByteArray := ⟨(List.replicate k (0 : UInt8)).toArray⟩
theorem noughtsF_size (k : Nat) : (noughtsF k).size = k := by
  show (List.replicate k (0 : UInt8)).toArray.size = k
  simp
def zeroF (room : Nat) (l : Ov.Files) (x : ByteArray) (f k : Int) : Int × Ov.Files :=
  if rangedF l x f k ≠ 0 then (rangedF l x f k, l)
  else if k = 0 then (0, l)
  else newF room l x (allTo (Ov.many (fileOf l x)) (kOld (fileOf l x)) (fun i => if covered f.toNat k.toNat i then 255 else 1) (touched f.toNat k.toNat))
    (allTo (Ov.many (fileOf l x)) (bOld (fileOf l x)) (fun i => if covered f.toNat k.toNat i then ⟨#[]⟩ else blockW l (Ov.downOf l x).1 f.toNat (noughtsF k.toNat) i) (touched f.toNat k.toNat))
def discardF (room : Nat) (l : Ov.Files) (x : ByteArray) (f k : Int) : Int × Ov.Files :=
  if rangedF l x f k ≠ 0 then (rangedF l x f k, l)
  else if (List.range (Ov.many (fileOf l x))).all (fun i => !decide (covered f.toNat k.toNat i)) = true then (0, l)
  else newF room l x (allTo (Ov.many (fileOf l x)) (kOld (fileOf l x)) (fun _ => if (Ov.backing (fileOf l x)).size = 0 then 0 else 255) (covered f.toNat k.toNat))
    (allTo (Ov.many (fileOf l x)) (bOld (fileOf l x)) (fun _ => ⟨#[]⟩) (covered f.toNat k.toNat))

end Go.Proofs.YtomiepknmmpflaaGreatDoor

namespace Go.Proofs.YtomiepknmmpflaaGreatDoor
open Go.RowKit Go.Joins

theorem Tryz.infoBlock : (Tryz.prog.info? 158).map (fun i => (i.zero, i.size, i.bytes)) = some (some (.agg #[.int .u8 0, .int .u8 0, .int .u8 0, .int .u8 0, .int .u8 0, .int .u8 0, .int .u8 0, .int .u8 0]), 8, 8) := by kernel_rfl
abbrev Eight := Nat → Nat
def blkVal (e : Eight) : Value := .agg #[.int .u8 (e 0 : Nat), .int .u8 (e 1 : Nat), .int .u8 (e 2 : Nat), .int .u8 (e 3 : Nat), .int .u8 (e 4 : Nat), .int .u8 (e 5 : Nat), .int .u8 (e 6 : Nat), .int .u8 (e 7 : Nat)]
def blkCells (e : Eight) : List Value := [.int .u8 (e 0 : Nat), .int .u8 (e 1 : Nat), .int .u8 (e 2 : Nat), .int .u8 (e 3 : Nat), .int .u8 (e 4 : Nat), .int .u8 (e 5 : Nat), .int .u8 (e 6 : Nat), .int .u8 (e 7 : Nat)]
theorem blkCells_length (e : Eight) : (blkCells e).length = 8 := rfl
def runTo (v : Nat → Nat) : Nat → List Value
  | 0 => []
  | k + 1 => runTo v k ++ blkCells (fun j => v (8 * k + j))
theorem runTo_length (v : Nat → Nat) (k : Nat) : (runTo v k).length = k * 8 := by
  induction k with
  | zero => rfl
  | succ k ih => rw [runTo, List.length_append, ih, blkCells_length]; omega
theorem runTo_prefix (v : Nat → Nat) {k n : Nat} (h : k ≤ n) : ∃ q, runTo v n = runTo v k ++ q := by
  induction n with
  | zero => obtain rfl : k = 0 := by omega
            exact ⟨[], by simp⟩
  | succ n ih =>
    by_cases e : k = n + 1
    · subst e; exact ⟨[], by simp⟩
    · obtain ⟨q, hq⟩ := ih (by omega)
      exact ⟨q ++ blkCells (fun j => v (8 * n + j)), by rw [runTo, hq, List.append_assoc]⟩
theorem runTo_at (v : Nat → Nat) {n k j : Nat} (hk : k < n) (hj : j < 8) : (runTo v n)[k * 8 + j]? = some (.int .u8 (v (8 * k + j) : Nat)) := by
  obtain ⟨q, hq⟩ := runTo_prefix v (k := k + 1) (n := n) (by omega)
  have h1 := runTo_length v k
  rw [hq, List.getElem?_append_left (by rw [runTo_length]; omega), runTo, List.getElem?_append_right (by omega), h1, show k * 8 + j - k * 8 = j from by omega]
  match j, hj with
  | 0, _ => rfl
  | 1, _ => rfl
  | 2, _ => rfl
  | 3, _ => rfl
  | 4, _ => rfl
  | 5, _ => rfl
  | 6, _ => rfl
  | 7, _ => rfl
theorem runTo_congr {v u : Nat → Nat} {n : Nat} (h : ∀ i, i < 8 * n → v i = u i) : runTo v n = runTo u n := by
  induction n with
  | zero => rfl
  | succ n ih =>
    rw [runTo, runTo, ih (fun i hi => h i (by omega))]
    have e : ∀ j, j < 8 → v (8 * n + j) = u (8 * n + j) := fun j hj => h _ (by omega)
    unfold blkCells
    dsimp only
    rw [e 0 (by omega), e 1 (by omega), e 2 (by omega), e 3 (by omega), e 4 (by omega), e 5 (by omega), e 6 (by omega), e 7 (by omega)]
abbrev OwnsRun (w : World) (base : Nat) (s : Value) (n : Nat) (v : Nat → Nat) : Prop := w.ownsRow base 158 8 s n (runTo v n)
theorem run_cells {w : World} {base g c n : Nat} {v : Nat → Nat} (h : OwnsRun w base (.slice (some ⟨g, 0, none⟩) n c) n v) {k : Nat} (hk : k < n) {j : Nat} (hj : j < 8) : w.cell? ⟨g, k * 8 + j, none⟩ = some (.int .u8 (v (8 * k + j) : Nat)) := by
  rw [h.cellAt _ (by omega)]; exact runTo_at v hk hj
theorem run_eight {w : World} {base g c n : Nat} {v : Nat → Nat} (h : OwnsRun w base (.slice (some ⟨g, 0, none⟩) n c) n v) {k : Nat} (hk : k < n) :
    w.cell? ⟨g, k * 8, none⟩ = some (.int .u8 (v (8 * k) : Nat)) ∧ w.cell? ⟨g, k * 8 + 1, none⟩ = some (.int .u8 (v (8 * k + 1) : Nat)) ∧ w.cell? ⟨g, k * 8 + 2, none⟩ = some (.int .u8 (v (8 * k + 2) : Nat)) ∧ w.cell? ⟨g, k * 8 + 3, none⟩ = some (.int .u8 (v (8 * k + 3) : Nat)) ∧ w.cell? ⟨g, k * 8 + 4, none⟩ = some (.int .u8 (v (8 * k + 4) : Nat)) ∧ w.cell? ⟨g, k * 8 + 5, none⟩ = some (.int .u8 (v (8 * k + 5) : Nat)) ∧ w.cell? ⟨g, k * 8 + 6, none⟩ = some (.int .u8 (v (8 * k + 6) : Nat)) ∧ w.cell? ⟨g, k * 8 + 7, none⟩ = some (.int .u8 (v (8 * k + 7) : Nat)) :=
  ⟨run_cells h hk (j := 0) (by omega), run_cells h hk (by omega), run_cells h hk (by omega), run_cells h hk (by omega), run_cells h hk (by omega), run_cells h hk (by omega), run_cells h hk (by omega), run_cells h hk (by omega)⟩
def runAt (n : Nat) (v : Nat → Nat) (k : Nat) : Eight := fun j => if k < n then v (8 * k + j) else 0

set_option maxRecDepth 100000 in
set_option maxHeartbeats 1000000 in
theorem oat_calls (n k base : Nat) (v : Nat → Nat) (s : Value) (w : World) (h : OwnsRun w base s n v) (hn : n ≤ 30) (hk : k ≤ 30) :
    Calls Tryz.prog 182 #[s, .int .i64 (k : Nat)] w fun e w' => e = .returned (blkVal (runAt n v k)) ∧ Below w.heap.size w w' := by
  obtain ⟨a, c, rfl⟩ := owns_slice h
  by_cases hlt : k < n
  · obtain ⟨g, cc, hv⟩ := ownsRow_form h (by omega)
    obtain ⟨rfl, rfl⟩ : a = some ⟨g, 0, none⟩ ∧ c = cc := by simpa using hv
    have hg : g < w.heap.size := (h.lt g rfl).2
    have HV : Hid (blkVal (runAt n v k) = .agg #[.int .u8 (v (8 * k) : Nat), .int .u8 (v (8 * k + 1) : Nat), .int .u8 (v (8 * k + 2) : Nat), .int .u8 (v (8 * k + 3) : Nat), .int .u8 (v (8 * k + 4) : Nat), .int .u8 (v (8 * k + 5) : Nat), .int .u8 (v (8 * k + 6) : Nat), .int .u8 (v (8 * k + 7) : Nat)]) := by
      unfold blkVal runAt; simp only [if_pos hlt, Nat.add_zero]; exact trivial
    obtain ⟨c0, c1, c2, c3, c4, c5, c6, c7⟩ := run_eight h hlt
    obtain ⟨e0, h0⟩ : ∃ e, v (8 * k) = e := ⟨_, rfl⟩
    obtain ⟨e1, h1⟩ : ∃ e, v (8 * k + 1) = e := ⟨_, rfl⟩
    obtain ⟨e2, h2⟩ : ∃ e, v (8 * k + 2) = e := ⟨_, rfl⟩
    obtain ⟨e3, h3⟩ : ∃ e, v (8 * k + 3) = e := ⟨_, rfl⟩
    obtain ⟨e4, h4⟩ : ∃ e, v (8 * k + 4) = e := ⟨_, rfl⟩
    obtain ⟨e5, h5⟩ : ∃ e, v (8 * k + 5) = e := ⟨_, rfl⟩
    obtain ⟨e6, h6⟩ : ∃ e, v (8 * k + 6) = e := ⟨_, rfl⟩
    obtain ⟨e7, h7⟩ : ∃ e, v (8 * k + 7) = e := ⟨_, rfl⟩
    rw [h0] at c0; rw [h1] at c1; rw [h2] at c2; rw [h3] at c3; rw [h4] at c4; rw [h5] at c5; rw [h6] at c6; rw [h7] at c7
    rw [h0, h1, h2, h3, h4, h5, h6, h7] at HV
    have p0 : ∀ o, (w.alloc o).cell? ⟨g, k * 8, none⟩ = some (.int .u8 (e0 : Nat)) := fun o => (World.cell?_alloc_past _ _ _ hg).trans c0
    have p1 : ∀ o, (w.alloc o).cell? ⟨g, k * 8 + 1, none⟩ = some (.int .u8 (e1 : Nat)) := fun o => (World.cell?_alloc_past _ _ _ hg).trans c1
    have p2 : ∀ o, (w.alloc o).cell? ⟨g, k * 8 + 2, none⟩ = some (.int .u8 (e2 : Nat)) := fun o => (World.cell?_alloc_past _ _ _ hg).trans c2
    have p3 : ∀ o, (w.alloc o).cell? ⟨g, k * 8 + 3, none⟩ = some (.int .u8 (e3 : Nat)) := fun o => (World.cell?_alloc_past _ _ _ hg).trans c3
    have p4 : ∀ o, (w.alloc o).cell? ⟨g, k * 8 + 4, none⟩ = some (.int .u8 (e4 : Nat)) := fun o => (World.cell?_alloc_past _ _ _ hg).trans c4
    have p5 : ∀ o, (w.alloc o).cell? ⟨g, k * 8 + 5, none⟩ = some (.int .u8 (e5 : Nat)) := fun o => (World.cell?_alloc_past _ _ _ hg).trans c5
    have p6 : ∀ o, (w.alloc o).cell? ⟨g, k * 8 + 6, none⟩ = some (.int .u8 (e6 : Nat)) := fun o => (World.cell?_alloc_past _ _ _ hg).trans c6
    have p7 : ∀ o, (w.alloc o).cell? ⟨g, k * 8 + 7, none⟩ = some (.int .u8 (e7 : Nat)) := fun o => (World.cell?_alloc_past _ _ _ hg).trans c7
    clear h hv c0 c1 c2 c3 c4 c5 c6 c7 h0 h1 h2 h3 h4 h5 h6 h7
    go_enter Tryz.func182, Tryz.ntmps182
    go_wp2
    exact bodyPost_ret (v := .agg #[.int .u8 (e0 : Nat), .int .u8 (e1 : Nat), .int .u8 (e2 : Nat), .int .u8 (e3 : Nat), .int .u8 (e4 : Nat), .int .u8 (e5 : Nat), .int .u8 (e6 : Nat), .int .u8 (e7 : Nat)]) (by simp [results, Tryz.results182, go_sem]) rfl ⟨by rw [unhide HV], below_alloc1 w _⟩
  · have HV : Hid (blkVal (runAt n v k) = .agg #[.int .u8 0, .int .u8 0, .int .u8 0, .int .u8 0, .int .u8 0, .int .u8 0, .int .u8 0, .int .u8 0]) := by
      unfold blkVal runAt; simp only [if_neg hlt]; exact rfl
    clear h
    go_enter Tryz.func182, Tryz.ntmps182
    go_wp2
    exact bodyPost_ret (v := .agg #[.int .u8 0, .int .u8 0, .int .u8 0, .int .u8 0, .int .u8 0, .int .u8 0, .int .u8 0, .int .u8 0]) (by simp [results, Tryz.results182, go_sem]) rfl ⟨by rw [unhide HV], below_alloc2 w _ _⟩

end Go.Proofs.YtomiepknmmpflaaGreatDoor

namespace Go.Proofs.YtomiepknmmpflaaGreatDoor
open Go.RowKit Go.Joins

theorem blk_src {w : World} {b : Nat} {e : Eight} {t : TypeId} (hb : w.heap[b]? = some (.cells (blkCells e).toArray t (0, 0))) : ∀ (j : Nat) (u : Value), (blkCells e)[j]? = some u → w.cell? ((⟨b, 0, none⟩ : Addr).add j) = some u := by
  intro j u hj
  have e : (⟨b, 0, none⟩ : Addr).add j = ⟨b, j, none⟩ := by
    cases j with
    | zero => rfl
    | succ j => simp [Addr.add]
  rw [e]
  exact blk_cell hb (by simpa using hj)
theorem blk_one (e : Eight) : ∀ u ∈ blkCells e, u.oneCell' = true := by
  intro u hu
  simp only [blkCells, List.mem_cons, List.not_mem_nil, or_false] at hu
  rcases hu with rfl | rfl | rfl | rfl | rfl | rfl | rfl | rfl <;> rfl

theorem append_bytes (a b : Option Addr) (n c m k : Nat) (ty : TypeId) (w : World) : (Builtin.append_ #[114, 103] ty #[.slice a n c, .slice b m k]).run Tryz.prog w = (Builtin.append_ #[114, 114] ty #[.slice a n c, .slice b m k]).run Tryz.prog w := by
  unfold Builtin.append_
  simp [run_underlying Tryz.underlying114, run_underlying Tryz.underlying103]
theorem wp_append_bytes {ops : Array Oper} {rest : List Oper} {o : Oper} {a : Act} {w : World} {Q : Exit → Act → World → Prop} (hgd : o.guard = none) (s x : Operand)
    (ho : o.op = .call { callee := .builtin .append, args := #[s, x], argTypes := #[114, 103] }) (base : Nat) (i : TypeInfo) (hi : Tryz.prog.info? 5 = some i) (hz : i.zero = some (.int .u8 0)) (hsize : i.size = 1) (hby : i.bytes = 1)
    (v : Value) (n : Nat) (xs : List Value) (hs : a.eval s = v) (hown : w.ownsRow base 5 1 v n xs) (ad : Addr) (c : Nat) (news : List Value) (hx : a.eval x = .slice (some ad) 8 c) (hl : news.length = 8) (hnews : ∀ j u, news[j]? = some u → w.cell? (ad.add j) = some u) (h1 : ∀ u ∈ news, u.oneCell' = true) (hn : n ≤ 1000) (hbase : base ≤ w.heap.size)
    (h : ∀ v' w', w'.ownsRow base 5 1 v' (n + 8) (xs ++ news) → w.grownBy w' v.ownBlock → (v'.ownBlock = v.ownBlock ∨ v'.ownBlock = some w.heap.size) → wpList Tryz.prog ops Q rest (a.put o.dst v') w') : wpList Tryz.prog ops Q (o :: rest) a w := by
  obtain ⟨sa, sc, rfl⟩ := owns_slice hown
  refine wpList_plain hgd fun K hK => ?_
  obtain ⟨v', w', hr, h2, h3, _, h5⟩ := run_append_own_at (P := Tryz.prog) w base 114 o.type 5 i (.int .u8 0) 1 1 Tryz.underlying114 hi hz hsize hby rfl (by decide) _ n xs hown ad 8 c news (by omega) hnews h1 (by unfold maxLen; omega) (by omega) hbase
  rw [← append_bytes] at hr
  unfold Oper.wp execOp
  simp only [ho, resolve, invoke, builtin, Sem.run_bind, Sem.run_pure, Result.andThen_ok, List.map_toArray, List.map_cons, List.map_nil, hs, hx, hr]
  exact hK _ _ (h v' w' h2 h3 h5)

set_option maxRecDepth 100000 in
set_option maxHeartbeats 2000000 in
theorem obytesOf_calls (n base : Nat) (v : Nat → Nat) (s : Value) (w : World) (h : OwnsRun w base s n v) (hn : n ≤ 30) :
    Calls Tryz.prog 69 #[s] w fun e w' => ∃ a c, e = .returned (.slice a (n * 8) c) ∧ Below w.heap.size w w' ∧ w'.ownsRow w.heap.size 5 1 (.slice a (n * 8) c) (n * 8) (runTo v n) := by
  obtain ⟨a, c, rfl⟩ := owns_slice h
  obtain ⟨i0, hi, hz0, hz1, hz2⟩ := info_parts Tryz.bdByte
  have HO := hide h
  clear h
  go_enter Tryz.func69, Tryz.ntmps69
  go_wp2
  go_loopw [3, 8] (fun va i wr => ∃ (k : Nat) (aa : Option Addr) (ca : Nat), k ≤ n ∧ i = .int .i64 k ∧ va = .slice aa (k * 8) ca ∧ wr.ownsRow w.heap.size 5 1 (.slice aa (k * 8) ca) (k * 8) (runTo v k) ∧ Below w.heap.size w wr) (fun _ i _ => n - (intOf i).toNat)
  case atStart => exact ⟨0, none, 0, Nat.zero_le _, rfl, rfl, World.ownsRow_nil _ _ _ _, Below.refl _ _⟩
  case round =>
    obtain ⟨k, aa, ca, hk, rfl, rfl, hw, hb⟩ := hrel
    have HW := hide hw
    have HB := hide hb
    have hsz := hb.size
    by_cases hlt : k < n
    · obtain ⟨g, cc, hv⟩ := ownsRow_form (unhide HO) (by omega)
      obtain ⟨rfl, rfl⟩ : a = some ⟨g, 0, none⟩ ∧ c = cc := by simpa using hv
      obtain ⟨c0, c1, c2, c3, c4, c5, c6, c7⟩ := run_eight (owns_all (unhide HO) hb) hlt
      have HSC : Hid (runTo v (k + 1) = runTo v k ++ blkCells (fun j => v (8 * k + j))) := by rw [runTo]; exact rfl
      clear hv hw hb
      have HSR : Hid (∀ (j : Nat) (u : Value), (blkCells (fun j => v (8 * k + j)))[j]? = some u → (wr.alloc (.cells #[.int .u8 (v (8 * k) : Nat), .int .u8 (v (8 * k + 1) : Nat), .int .u8 (v (8 * k + 2) : Nat), .int .u8 (v (8 * k + 3) : Nat), .int .u8 (v (8 * k + 4) : Nat), .int .u8 (v (8 * k + 5) : Nat), .int .u8 (v (8 * k + 6) : Nat), .int .u8 (v (8 * k + 7) : Nat)] 158)).cell? ((⟨wr.heap.size, 0, none⟩ : Addr).add j) = some u) := blk_src (e := fun j => v (8 * k + j)) (t := 158) (blk_new wr _)
      go_wp2_with (at_builtin; refine wp_append_bytes rfl (.tmp 12) (.tmp 13) rfl w.heap.size i0 hi hz0 hz1 hz2 (.slice aa (k * 8) ca) (k * 8) _ rfl ((unhide HW).alloc _) ⟨wr.heap.size, 0, none⟩ 8 (blkCells (fun j => v (8 * k + j))) rfl rfl (unhide HSR) (blk_one _) (by omega) (by simp; omega) ?_; intro v2 w2 ho2 hg2 hw2; obtain ⟨a2, c2', rfl⟩ := owns_slice ho2)
      go_roundw
      case rel => exact ⟨k + 1, a2, c2', by omega, by go_num, by rw [Nat.add_mul], by rw [unhide HSC, Nat.add_mul]; exact ho2, ((unhide HB).alloc hsz _).grown hg2 (by simp; omega) (fun q hq => ((unhide HW).lt q hq).1)⟩
      case measure => simp [intOf]; omega
    · obtain rfl : k = n := by omega
      clear hw hb
      go_wp2
      go_ret
      exact ⟨aa, ca, rfl, unhide HB, unhide HW⟩

end Go.Proofs.YtomiepknmmpflaaGreatDoor

