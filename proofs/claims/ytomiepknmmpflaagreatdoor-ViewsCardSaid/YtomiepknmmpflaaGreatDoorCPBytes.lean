/- The walk of the reference's At. -/
import Derived.Test.YtomiepknmmpflaaGreatDoorCWMake
import Derived.Handy
import Derived.Deep.LoopGhost
import Derived.Test.YtomiepknmmpflaaGreatDoorCPFile
namespace Go.Proofs.YtomiepknmmpflaaGreatDoor
open Go.RowKit Go.Joins

theorem kinds_at {s : ByteArray} {m k : Nat} (h : k < m) : (Ov.kindsTo s m).getD k 0 = Ov.kindOf (Ov.ent s k) := by simp [Ov.kindsTo, h]
theorem blocks_at {s : ByteArray} {m k : Nat} (h : k < m) : (Ov.blocksTo s m).getD k ⟨#[]⟩ = Ov.blockOf s (Ov.ent s k) := by simp [Ov.blocksTo, h]
theorem kindOf_known (e : Nat) : Ov.kindOf e = 0 ∨ Ov.kindOf e = 255 ∨ Ov.kindOf e = 1 := by
  unfold Ov.kindOf
  split
  · exact Or.inl rfl
  · split
    · exact Or.inr (Or.inl rfl)
    · exact Or.inr (Or.inr rfl)
theorem byteAt_in {s : ByteArray} {k : Nat} (h : k < s.size) : Ov.byteAt s k = (s[k]'h).toNat := (Ov.byteAt_eq s k h).symm
theorem data_size {s : ByteArray} (hi : Ov.isImage s) {k : Nat} (hk : k < Ov.many s) (h1 : Ov.kindOf (Ov.ent s k) = 1) : (Ov.blockOf s (Ov.ent s k)).size = 8 := by
  have h0 : Ov.ent s k ≠ 0 := fun e => by rw [e] at h1; simp [Ov.kindOf] at h1
  have h255 : Ov.ent s k ≠ 255 := fun e => by rw [e] at h1; simp [Ov.kindOf] at h1
  rw [Ov.blockOf_data h0 h255, ByteArray.size_extract]
  have hs := hi.1.2.2.2.2.2.2.2.2.2.2
  rcases hi.2 k hk with e | e | e
  · exact absurd e h0
  · exact absurd e h255
  · have := e.1
    omega

set_option maxRecDepth 100000 in
set_option maxHeartbeats 8000000 in
theorem rAt_calls (l : Ov.Files) (v : Value) (x : ByteArray) (ns : List ByteArray) (i base : Nat) (w : World) (hl : l.length ≤ 8) (hsz : ∀ j, j < l.length → (Ov.fileAt l j).size ≤ 1000) (ho : OwnsFiles w base v l) (hc : Ov.Chn l ns x) (hnm : ∀ y, Ov.place l y < l.length → 1 ≤ y.size) (hi : i ≤ 1000000) :
    Calls Tryz.prog 167 #[v, .string x, .int .i64 (i : Nat)] w fun e w' => e = .returned (.int .u8 (Ov.atTo l ns i : Nat)) ∧ Below w.heap.size w w' := by
  obtain ⟨g, c, rfl⟩ := ownsRow_form ho (by have := hc.here; omega)
  have HO := hide ho
  have HC := hide hc
  have HSZ := hide hsz
  have HNM := hide hnm
  clear ho hc hsz hnm
  obtain ⟨R, hR⟩ : ∃ R, Ov.atTo l ns i = R := ⟨_, rfl⟩
  have HR := hide hR
  rw [hR]
  clear hR
  go_enter Tryz.func167, Tryz.ntmps167
  go_wp2_with fail
  go_loopg [1] ns.length (fun gh v wr => ∃ ms y, v = .string y ∧ ms.length = gh ∧ (ms = [] ∧ y.size = 0 ∨ Ov.Chn l ms y) ∧ Ov.atTo l ms i = R ∧ Below w.heap.size w wr)
  case atStart => exact ⟨ns, x, rfl, rfl, Or.inr (unhide HC), unhide HR, Below.refl _ _⟩
  case round =>
    obtain ⟨ms, y, rfl, hgl, hch, hat, hbel⟩ := hrel
    have HBL := hide hbel
    have hwz := hbel.size
    rcases hch with ⟨rfl, hy0⟩ | hch
    · have hye : y.toList.isEmpty = true := by rw [ByteArray.toList_eq, List.isEmpty_iff_length_eq_zero]; simpa using hy0
      obtain rfl : 0 = R := hat
      clear hbel hy0
      go_wp2_with fail
      go_ret
      exact ⟨rfl, unhide HBL⟩
    · have hpl := hch.here
      have him := hch.image
      have hy1 := unhide HNM y hpl
      have hye : y.toList.isEmpty = false := by rw [ByteArray.toList_eq, ← Bool.not_eq_true, List.isEmpty_iff_length_eq_zero]; simp; intro e; rw [e] at hy1; exact absurd hy1 (by decide)
      obtain ⟨p, hpe⟩ : ∃ p, Ov.place l y = p := ⟨_, rfl⟩
      have hfd : Ov.find l y = (p : Int) := by rw [Ov.find_yes hpl, hpe]
      have hp : p < l.length := by omega
      have HOr := hide (owns_all (unhide HO) hbel)
      have cb := files_bytes (unhide HOr) hp
      obtain ⟨s, hse⟩ : ∃ s, Ov.fileAt l p = s := ⟨_, rfl⟩
      have hss : s.size ≤ 1000 := by rw [← hse]; exact unhide HSZ p hp
      rw [hse] at cb
      have him' : Ov.isImage s := by rw [← hse, ← hpe]; exact him
      have HIM := hide him'
      have HAT := hide hat
      have HCH := hide hch
      have HPE := hide hpe
      have HSE := hide hse
      have hm1 : 1 ≤ Ov.many s := him'.1.2.2.2.2.1
      have hm30 : Ov.many s ≤ 30 := him'.1.2.2.2.2.2.1
      obtain ⟨m, hme⟩ : ∃ m, Ov.many s = m := ⟨_, rfl⟩
      rw [hme] at hm1 hm30
      have HME := hide hme
      clear hbel hch hat him him' hpe hse hpl hme
      obtain ⟨bk, hbk⟩ : ∃ bk, Ov.backing s = bk := ⟨_, rfl⟩
      have HBK := hide hbk
      clear hbk
      have HFS : Hid (Ov.fileAt l (Ov.place l y) = s) := by rw [unhide HPE]; exact unhide HSE
      have fin : ∀ {w1 : World} (o : Obj), Hid (Below wr.heap.size wr w1) → Below w.heap.size w (w1.alloc o) := fun o h => ((unhide HBL).trans ((unhide h).mono hwz)).alloc (Nat.le_trans hwz (unhide h).size) o
      by_cases hq : m ≤ i / 8
      · have Hz : Hid (R = 0) := by rw [← unhide HAT]; exact Ov.atTo_short (unhide HCH) (unhide HFS) (by rw [unhide HME]; exact hq)
        go_wp2_with (first
          | (go_at_call 169; refine (rDecode_yes s _ hss (unhide HIM)).mono ?_; rintro e w1 ⟨ea, ec, ba, bc, he, hb1, ho1, ho2⟩; rw [unhide HME, unhide HBK] at he; subst he; have HB1 := hide hb1; clear hb1 ho1 ho2)
          | (go_at_call 166; refine (rFind_calls l _ y base _ hl (unhide HOr)).mono ?_; rintro e w' ⟨rfl, rfl⟩))
        go_ret
        exact ⟨by rw [unhide Hz]; rfl, fin _ HB1⟩
      · have hq2 : i / 8 < m := by omega
        obtain ⟨kd, hkd⟩ : ∃ kd, Ov.kindOf (Ov.ent s (i / 8)) = kd := ⟨_, rfl⟩
        obtain ⟨bl, hbl⟩ : ∃ bl, Ov.blockOf s (Ov.ent s (i / 8)) = bl := ⟨_, rfl⟩
        have hkk := kindOf_known (Ov.ent s (i / 8))
        rw [hkd] at hkk
        have HKD := hide hkd
        have HBLK := hide hbl
        clear hkd hbl
        rcases hkk with rfl | rfl | rfl
        · obtain ⟨ns', hn1, hn2, hn3⟩ := Ov.atTo_open (i := i) (unhide HCH) (unhide HFS) (by rw [unhide HME]; exact hq) (unhide HKD)
          have HN2 := hide hn2
          have HN3 := hide hn3
          clear hn2 hn3
          go_wp2_with (first
          | (go_at_call 169; refine (rDecode_yes s _ hss (unhide HIM)).mono ?_; rintro e w1 ⟨ea, ec, ba, bc, he, hb1, ho1, ho2⟩; rw [unhide HME, unhide HBK] at he; rw [unhide HME] at ho1 ho2; subst he; obtain ⟨ge, ec', hve⟩ := ownsRow_form ho1 (by omega); obtain ⟨rfl, rfl⟩ : ea = some ⟨ge, 0, none⟩ ∧ ec = ec' := (by simpa using hve); clear hve; obtain ⟨gb, bc', hvb⟩ := ownsRow_form ho2 (by omega); obtain ⟨rfl, rfl⟩ : ba = some ⟨gb, 0, none⟩ ∧ bc = bc' := (by simpa using hvb); clear hvb; have ce : ∀ o, (w1.alloc o).cell? ⟨ge, i / 8, none⟩ = some (.int .i64 0) := (fun o => by have := ints_cell (ho1.alloc o) (k := i / 8) hq2; rw [kinds_at hq2, unhide HKD] at this; exact this); have cs : ∀ o, (w1.alloc o).cell? ⟨gb, i / 8, none⟩ = some (.string bl) := (fun o => by have := texts_cell (ho2.alloc o) (k := i / 8) hq2; rw [blocks_at hq2, unhide HBLK] at this; exact this); have HB1 := hide hb1; clear hb1 ho1 ho2)
          | (go_at_call 166; refine (rFind_calls l _ y base _ hl (unhide HOr)).mono ?_; rintro e w' ⟨rfl, rfl⟩))
          go_roundg ns'.length
          case measure => omega
          case rel => exact ⟨ns', bk, rfl, rfl, (by rw [← unhide HBK]; exact unhide HN3), (unhide HN2).trans (unhide HAT), fin _ HB1⟩
        · have Hz : Hid (R = 0) := by rw [← unhide HAT]; exact Ov.atTo_zero (unhide HCH) (unhide HFS) (unhide HKD)
          go_wp2_with (first
          | (go_at_call 169; refine (rDecode_yes s _ hss (unhide HIM)).mono ?_; rintro e w1 ⟨ea, ec, ba, bc, he, hb1, ho1, ho2⟩; rw [unhide HME, unhide HBK] at he; rw [unhide HME] at ho1 ho2; subst he; obtain ⟨ge, ec', hve⟩ := ownsRow_form ho1 (by omega); obtain ⟨rfl, rfl⟩ : ea = some ⟨ge, 0, none⟩ ∧ ec = ec' := (by simpa using hve); clear hve; obtain ⟨gb, bc', hvb⟩ := ownsRow_form ho2 (by omega); obtain ⟨rfl, rfl⟩ : ba = some ⟨gb, 0, none⟩ ∧ bc = bc' := (by simpa using hvb); clear hvb; have ce : ∀ o, (w1.alloc o).cell? ⟨ge, i / 8, none⟩ = some (.int .i64 255) := (fun o => by have := ints_cell (ho1.alloc o) (k := i / 8) hq2; rw [kinds_at hq2, unhide HKD] at this; exact this); have cs : ∀ o, (w1.alloc o).cell? ⟨gb, i / 8, none⟩ = some (.string bl) := (fun o => by have := texts_cell (ho2.alloc o) (k := i / 8) hq2; rw [blocks_at hq2, unhide HBLK] at this; exact this); have HB1 := hide hb1; clear hb1 ho1 ho2)
          | (go_at_call 166; refine (rFind_calls l _ y base _ hl (unhide HOr)).mono ?_; rintro e w' ⟨rfl, rfl⟩))
          go_ret
          exact ⟨by rw [unhide Hz]; rfl, fin _ HB1⟩
        · have Hz : Hid (R = Ov.byteAt bl (i % 8)) := by rw [← unhide HAT, ← unhide HBLK]; exact Ov.atTo_data (unhide HCH) (unhide HFS) (by rw [unhide HME]; exact hq) (unhide HKD)
          have hb8 : bl.size = 8 := by rw [← unhide HBLK]; exact data_size (unhide HIM) (by rw [unhide HME]; exact hq2) (unhide HKD)
          go_wp2_with (first
          | (go_at_call 169; refine (rDecode_yes s _ hss (unhide HIM)).mono ?_; rintro e w1 ⟨ea, ec, ba, bc, he, hb1, ho1, ho2⟩; rw [unhide HME, unhide HBK] at he; rw [unhide HME] at ho1 ho2; subst he; obtain ⟨ge, ec', hve⟩ := ownsRow_form ho1 (by omega); obtain ⟨rfl, rfl⟩ : ea = some ⟨ge, 0, none⟩ ∧ ec = ec' := (by simpa using hve); clear hve; obtain ⟨gb, bc', hvb⟩ := ownsRow_form ho2 (by omega); obtain ⟨rfl, rfl⟩ : ba = some ⟨gb, 0, none⟩ ∧ bc = bc' := (by simpa using hvb); clear hvb; have ce : ∀ o, (w1.alloc o).cell? ⟨ge, i / 8, none⟩ = some (.int .i64 1) := (fun o => by have := ints_cell (ho1.alloc o) (k := i / 8) hq2; rw [kinds_at hq2, unhide HKD] at this; exact this); have cs : ∀ o, (w1.alloc o).cell? ⟨gb, i / 8, none⟩ = some (.string bl) := (fun o => by have := texts_cell (ho2.alloc o) (k := i / 8) hq2; rw [blocks_at hq2, unhide HBLK] at this; exact this); have HB1 := hide hb1; clear hb1 ho1 ho2)
          | (go_at_call 166; refine (rFind_calls l _ y base _ hl (unhide HOr)).mono ?_; rintro e w' ⟨rfl, rfl⟩))
          go_ret
          exact ⟨by rw [unhide Hz, byteAt_in (show i % 8 < bl.size by omega)]; rfl, fin _ HB1⟩

end Go.Proofs.YtomiepknmmpflaaGreatDoor

/- The walk of the reference's View. -/
namespace Go.Proofs.YtomiepknmmpflaaGreatDoor
open Go.RowKit Go.Joins

/-- Bytes of a view, as a list. -/
def viewTo (l : Ov.Files) (ns : List ByteArray) (f : Nat) : Nat → List Int
  | 0 => []
  | k + 1 => viewTo l ns f k ++ [((Ov.atTo l ns (f + k) : Nat) : Int)]
theorem viewTo_length (l : Ov.Files) (ns : List ByteArray) (f k : Nat) : (viewTo l ns f k).length = k := by
  induction k with
  | zero => rfl
  | succ k ih => simp [viewTo, ih]
/-- .. as a text. -/
def viewF (l : Ov.Files) (ns : List ByteArray) (f k : Nat) : ByteArray := strOfNums (viewTo l ns f k)
theorem conv_own {w : World} {base n c : Nat} {a : Option Addr} {xs : List Int} (h : w.ownsRow base 5 1 (.slice a n c) n (xs.map (Value.int .u8))) : (convert 103 9 (.slice a n c)).run Tryz.prog w = .ok (.string (strOfNums xs)) w := by
  have hl : xs.length = n := by have := h.1; simpa using this
  rcases ownsRow_forms h with ⟨e, e0⟩ | ⟨g, c', e⟩
  · simp only [Value.slice.injEq] at e
    obtain ⟨rfl, rfl, rfl⟩ := e
    obtain rfl : xs = [] := List.length_eq_zero_iff.1 hl
    simp [convert, run_underlying Tryz.underlying103, run_underlying Tryz.underlying9, run_underlying Tryz.underlying5, strOfNums]
    rfl
  · simp only [Value.slice.injEq] at e
    obtain ⟨rfl, _, rfl⟩ := e
    refine run_convert_bytes_arg _ 103 5 Tryz.underlying103 Tryz.underlying5 g 0 n c xs hl (fun i hi => ?_) 9 Tryz.underlying9
    rw [Nat.zero_add, h.cellAt i (by omega), List.getElem?_map, List.getD_eq_getElem?_getD, List.getElem?_eq_getElem (by omega)]; rfl

set_option maxRecDepth 100000 in
set_option maxHeartbeats 2000000 in
theorem rView_calls (l : Ov.Files) (v : Value) (x : ByteArray) (ns : List ByteArray) (f k base : Nat) (w : World) (hl : l.length ≤ 8) (hsz : ∀ j, j < l.length → (Ov.fileAt l j).size ≤ 1000) (ho : OwnsFiles w base v l) (hc : Ov.Chn l ns x) (hnm : ∀ y, Ov.place l y < l.length → 1 ≤ y.size) (hf : f + k ≤ 240) :
    Calls Tryz.prog 158 #[v, .string x, .int .i64 (f : Nat), .int .i64 (k : Nat)] w fun e w' => e = .returned (.string (viewF l ns f k)) ∧ Below w.heap.size w w' := by
  obtain ⟨g, c, rfl⟩ := ownsRow_form ho (by have := hc.here; omega)
  obtain ⟨i0, hi, hz0, hz1, hz2⟩ := info_parts (show (Tryz.prog.info? 5).map (fun i => (i.zero, i.size, i.bytes)) = some (some (.int .u8 0), 1, 1) by kernel_rfl)
  have HO := hide ho
  have HC := hide hc
  have HSZ := hide hsz
  have HNM := hide hnm
  clear ho hc hsz hnm
  go_enter Tryz.func158, Tryz.ntmps158
  go_wp2_with fail
  go_loopw [9, 10] (fun b i wr => ∃ (j : Nat) (a : Option Addr) (c : Nat), j ≤ k ∧ i = .int .i64 ((f + j : Nat) : Int) ∧ b = .slice a j c ∧ wr.ownsRow w.heap.size 5 1 (.slice a j c) j ((viewTo l ns f j).map (Value.int .u8)) ∧ Below w.heap.size w wr) (fun _ i _ => f + k - (intOf i).toNat)
  case atStart => exact ⟨0, none, 0, Nat.zero_le _, rfl, rfl, World.ownsRow_nil _ _ _ _, Below.refl _ _⟩
  case round =>
    obtain ⟨j, a, cc, hj, rfl, rfl, how, hbel⟩ := hrel
    have HW := hide how
    have HBL := hide hbel
    have hwz := hbel.size
    have HOr := hide (owns_all (unhide HO) hbel)
    clear how hbel
    by_cases hlt : j < k
    · obtain ⟨R, hR⟩ : ∃ R, Ov.atTo l ns (f + j) = R := ⟨_, rfl⟩
      have hR2 : R < 256 := by rw [← hR]; exact Ov.atTo_lt _ _ _
      have HRR := hide hR
      clear hR
      go_wp2_with (first
        | (at_builtin; refine wpList_append_own _ rfl (.tmp 24) (.tmp 26) 103 rfl w.heap.size 5 i0 (.int .u8 0) 1 1 Tryz.underlying103 hi hz0 hz1 hz2 rfl (by decide) (.slice a j cc) j _ rfl ((owns_all (unhide HW) (unhide HB1)).alloc _) ⟨w1.heap.size, 0, none⟩ 1 1 [.int .u8 (R : Nat)] rfl rfl (one_new rfl) (by intro u hu; simp at hu; subst hu; rfl) (by unfold maxLen; omega) (by omega) (by simp; omega) ?_; intro v2 w2 ho2 hg2 _; obtain ⟨g2, c2, rfl⟩ := ownsRow_form ho2 (by omega))
        | (go_at_call 167; refine (rAt_calls l _ x ns (f + j) base _ hl (unhide HSZ) (unhide HOr) (unhide HC) (unhide HNM) (by omega)).mono ?_; rintro e w1 ⟨he, hb1⟩; rw [unhide HRR] at he; subst he; have HB1 := hide hb1; have hz1' := hb1.size; clear hb1))
      go_roundw
      case rel =>
        refine ⟨j + 1, _, c2, by omega, by go_num, rfl, ?_, ?_⟩
        · rw [viewTo, List.map_append, unhide HRR]; exact ho2
        · exact (((unhide HBL).trans ((unhide HB1).mono hwz)).alloc (Nat.le_trans hwz hz1') _).grown hg2 (by simp; omega) (fun q hq => ((unhide HW).lt q hq).1)
      case measure => simp [intOf]; omega
    · obtain rfl : j = k := by omega
      have hcv := conv_own (unhide HW)
      go_wp2_with fail
      go_ret
      exact ⟨rfl, unhide HBL⟩

end Go.Proofs.YtomiepknmmpflaaGreatDoor

/- Reading and writing, as plain functions: which clusters a call turns, and into what. -/
namespace Go.Proofs.YtomiepknmmpflaaGreatDoor
open Go.RowKit Go.Joins

/-- A row of m things of which those ahead of k that are chosen are new. -/
def partTo {α : Type} (m : Nat) (old new : Nat → α) (c : Nat → Prop) [DecidablePred c] (k : Nat) : List α := (List.range m).map fun i => if i < k ∧ c i then new i else old i
/-- All of them. -/
def allTo {α : Type} (m : Nat) (old new : Nat → α) (c : Nat → Prop) [DecidablePred c] : List α := (List.range m).map fun i => if c i then new i else old i
section
variable {α : Type} {m : Nat} {old new : Nat → α} {c : Nat → Prop} [DecidablePred c] {k : Nat}
theorem partTo_length : (partTo m old new c k).length = m := by simp [partTo]
theorem allTo_length : (allTo m old new c).length = m := by simp [allTo]
theorem partTo_none (h : ∀ i, i < k → ¬ c i) : partTo m old new c k = (List.range m).map old := by
  unfold partTo
  refine List.map_congr_left fun i _ => ?_
  rw [if_neg]
  rintro ⟨h1, h2⟩
  exact h i h1 h2
theorem partTo_zero : partTo m old new c 0 = (List.range m).map old := partTo_none (fun i hi => by omega)
theorem partTo_skip (h : ¬ c k) : partTo m old new c (k + 1) = partTo m old new c k := by
  unfold partTo
  refine List.map_congr_left fun i _ => ?_
  by_cases e : i = k
  · subst e; rw [if_neg (fun q => h q.2), if_neg (fun q => h q.2)]
  · by_cases h1 : i < k
    · by_cases h2 : c i
      · rw [if_pos ⟨by omega, h2⟩, if_pos ⟨h1, h2⟩]
      · rw [if_neg (fun q => h2 q.2), if_neg (fun q => h2 q.2)]
    · rw [if_neg (fun q => by omega), if_neg (fun q => h1 q.1)]
theorem partTo_set (h : c k) : partTo m old new c (k + 1) = (partTo m old new c k).set k (new k) := by
  unfold partTo
  refine List.ext_getElem (by simp) fun i h1 h2 => ?_
  rw [List.getElem_set]
  simp only [List.getElem_map, List.getElem_range]
  by_cases e : k = i
  · subst e; rw [if_pos ⟨by omega, h⟩, if_pos rfl]
  · rw [if_neg e]
    by_cases h3 : i < k
    · by_cases h4 : c i
      · rw [if_pos ⟨by omega, h4⟩, if_pos ⟨h3, h4⟩]
      · rw [if_neg (fun q => h4 q.2), if_neg (fun q => h4 q.2)]
    · rw [if_neg (fun q => by omega), if_neg (fun q => h3 q.1)]
theorem partTo_end (h : ∀ i, k ≤ i → i < m → ¬ c i) : partTo m old new c k = allTo m old new c := by
  unfold partTo allTo
  refine List.map_congr_left fun i hi => ?_
  have hi' : i < m := by simpa using hi
  by_cases h1 : i < k
  · by_cases h2 : c i
    · rw [if_pos ⟨h1, h2⟩, if_pos h2]
    · rw [if_neg (fun q => h2 q.2), if_neg h2]
  · rw [if_neg (fun q => h1 q.1), if_neg (h i (by omega) hi')]
theorem partTo_full : partTo m old new c m = allTo m old new c := partTo_end (fun i h1 h2 => by omega)
theorem partTo_getD {d : α} {i : Nat} (h : i < m) : (partTo m old new c k).getD i d = if i < k ∧ c i then new i else old i := by
  unfold partTo
  rw [List.getD_eq_getElem?_getD, List.getElem?_map, List.getElem?_range h]; rfl
theorem allTo_getD {d : α} {i : Nat} (h : i < m) : (allTo m old new c).getD i d = if c i then new i else old i := by
  unfold allTo
  rw [List.getD_eq_getElem?_getD, List.getElem?_map, List.getElem?_range h]; rfl
end

/-- The image's file. -/
abbrev fileOf (l : Ov.Files) (x : ByteArray) : ByteArray := Ov.fileAt l (Ov.place l x)
/-- What is wrong with an image, or with bytes of its view. -/
def rangedF (l : Ov.Files) (x : ByteArray) (f k : Int) : Int :=
  if Ov.soundF l x ≠ 0 then Ov.soundF l x
  else if f < 0 ∨ k < 0 ∨ 8 * (Ov.many (fileOf l x) : Int) < f ∨ 8 * (Ov.many (fileOf l x) : Int) - f < k then 1 else 0
/-- A byte of the view with data in place of what it has, where they meet. -/
def byteW (l : Ov.Files) (ns : List ByteArray) (f : Nat) (d : ByteArray) (p : Nat) : Nat := if f ≤ p ∧ p < f + d.size then Ov.byteAt d (p - f) else Ov.atTo l ns p
theorem byteW_lt (l : Ov.Files) (ns : List ByteArray) (f : Nat) (d : ByteArray) (p : Nat) : byteW l ns f d p < 256 := by
  unfold byteW; split
  · exact Ov.byteAt_lt _ _
  · exact Ov.atTo_lt _ _ _
def blockTo (l : Ov.Files) (ns : List ByteArray) (f : Nat) (d : ByteArray) (n : Nat) : Nat → List Int
  | 0 => []
  | j + 1 => blockTo l ns f d n j ++ [((byteW l ns f d (8 * n + j) : Nat) : Int)]
theorem blockTo_length (l : Ov.Files) (ns : List ByteArray) (f : Nat) (d : ByteArray) (n j : Nat) : (blockTo l ns f d n j).length = j := by
  induction j with
  | zero => rfl
  | succ j ih => simp [blockTo, ih]
/-- A cluster of the view, so. -/
def blockW (l : Ov.Files) (ns : List ByteArray) (f : Nat) (d : ByteArray) (n : Nat) : ByteArray := strOfNums (blockTo l ns f d n 8)
theorem blockW_size (l : Ov.Files) (ns : List ByteArray) (f : Nat) (d : ByteArray) (n : Nat) : (blockW l ns f d n).size = 8 := by
  unfold blockW; rw [strOfNums_size, blockTo_length]
/-- A byte of the cluster is written; the cluster lies in the range as a whole. -/
abbrev touched (f k : Nat) (i : Nat) : Prop := 8 * i < f + k ∧ f < 8 * i + 8
abbrev covered (f k : Nat) (i : Nat) : Prop := f ≤ 8 * i ∧ 8 * i + 8 ≤ f + k
abbrev kOld (s : ByteArray) (i : Nat) : Int := Ov.kindOf (Ov.ent s i)
abbrev bOld (s : ByteArray) (i : Nat) : ByteArray := Ov.blockOf s (Ov.ent s i)
/-- The files with a new image in place of one. -/
def newF (room : Nat) (l : Ov.Files) (x : ByteArray) (ks : List Int) (bs : List ByteArray) : Int × Ov.Files := Ov.putF room l (Ov.withF l x (encode (Ov.backing (fileOf l x)) ks bs))
def readF (l : Ov.Files) (x : ByteArray) (f k : Int) : ByteArray × Int :=
  if rangedF l x f k ≠ 0 then (⟨#[]⟩, rangedF l x f k) else (viewF l (Ov.downOf l x).1 f.toNat k.toNat, 0)
def writeF (room : Nat) (l : Ov.Files) (x : ByteArray) (f : Int) (d : ByteArray) : Int × Ov.Files :=
  if rangedF l x f d.size ≠ 0 then (rangedF l x f d.size, l)
  else if d.size = 0 then (0, l)
  else newF room l x (allTo (Ov.many (fileOf l x)) (kOld (fileOf l x)) (fun _ => 1) (touched f.toNat d.size)) (allTo (Ov.many (fileOf l x)) (bOld (fileOf l x)) (blockW l (Ov.downOf l x).1 f.toNat d) (touched f.toNat d.size))
def noughtsF (k : Nat) : ByteArray := ⟨(List.replicate k (0 : UInt8)).toArray⟩
theorem noughtsF_size (k : Nat) : (noughtsF k).size = k := by
  show (List.replicate k (0 : UInt8)).toArray.size = k
  simp
def zeroF (room : Nat) (l : Ov.Files) (x : ByteArray) (f k : Int) : Int × Ov.Files :=
  if rangedF l x f k ≠ 0 then (rangedF l x f k, l)
  else if k = 0 then (0, l)
  else newF room l x (allTo (Ov.many (fileOf l x)) (kOld (fileOf l x)) (fun i => if covered f.toNat k.toNat i then 255 else 1) (touched f.toNat k.toNat))
    (allTo (Ov.many (fileOf l x)) (bOld (fileOf l x)) (fun i => if covered f.toNat k.toNat i then ⟨#[]⟩ else blockW l (Ov.downOf l x).1 f.toNat (noughtsF k.toNat) i) (touched f.toNat k.toNat))
def someCovered (m f k : Nat) : Prop := ∃ i, i < m ∧ covered f k i
def discardF (room : Nat) (l : Ov.Files) (x : ByteArray) (f k : Int) : Int × Ov.Files :=
  if rangedF l x f k ≠ 0 then (rangedF l x f k, l)
  else if (List.range (Ov.many (fileOf l x))).all (fun i => !decide (covered f.toNat k.toNat i)) = true then (0, l)
  else newF room l x (allTo (Ov.many (fileOf l x)) (kOld (fileOf l x)) (fun _ => if (Ov.backing (fileOf l x)).size = 0 then 0 else 255) (covered f.toNat k.toNat))
    (allTo (Ov.many (fileOf l x)) (bOld (fileOf l x)) (fun _ => ⟨#[]⟩) (covered f.toNat k.toNat))

end Go.Proofs.YtomiepknmmpflaaGreatDoor
