/- The walk of the reference's put. -/
import Derived.Test.YtomiepknmmpflaaGreatDoorCWWith
import Derived.Test.YtomiepknmmpflaaGreatDoorCWName
import Derived.Test.YtomiepknmmpflaaGreatDoorCPDown
import Derived.Test.YtomiepknmmpflaaGreatDoorCSpecS
import Derived.Test.YtomiepknmmpflaaGreatDoorCWEncode
namespace Go.Proofs.YtomiepknmmpflaaGreatDoor
open Go.RowKit Go.Joins

/-- What put answers, and where. -/
def PutPost (w : World) (b room : Nat) (v : Value) (l : Ov.Files) (e : Ending) (w' : World) : Prop :=
  (Ov.total l ≤ room ∧ e = .returned (.int .i64 0) ∧ w' = w.setCell ⟨b, 1, none⟩ v) ∨ (room < Ov.total l ∧ e = .returned (.int .i64 9) ∧ w' = w)

theorem total_all (l : Ov.Files) : Ov.total (l.take l.length) = Ov.total l := by rw [List.take_length]

set_option maxRecDepth 100000 in
set_option maxHeartbeats 400000 in
theorem rput_calls (l : Ov.Files) (v v0 : Value) (b room base : Nat) (w : World) (hl : l.length ≤ 9) (_hr : room ≤ 4000) (hb : w.heap[b]? = some (.cells #[.int .i64 room, v0] 180 (0, 0))) (ho : OwnsFiles w base v l) (hs : ∀ j, j < l.length → (Ov.fileAt l j).size ≤ 1000) :
    Calls Tryz.prog 161 #[.pointer (some ⟨b, 0, none⟩), v] w (PutPost w b room v l) := by
  have c0 : w.cell? ⟨b, 0, none⟩ = some (.int .i64 room) := blk_cell hb rfl
  have c1 : w.cell? ⟨b, 1, none⟩ = some v0 := blk_cell hb rfl
  have f1 := blk_frozen hb
  obtain ⟨a, c, rfl⟩ := owns_slice ho
  have HO := hide ho
  have HS := hide hs
  clear ho hb hs
  go_enter Tryz.func161, Tryz.ntmps161
  go_wp2
  go_loop [5, 6] (fun t i => ∃ k : Nat, k ≤ l.length ∧ i = .int .i64 k ∧ t = .int .i64 (Ov.total (l.take k) : Nat)) (fun _ i => l.length - (intOf i).toNat)
  case atStart => exact ⟨0, Nat.zero_le _, rfl, rfl⟩
  case round =>
    obtain ⟨k, hk, rfl, rfl⟩ := hrel
    have hle := Ov.total_take_le l k (unhide HS) hk
    by_cases hlt : k < l.length
    · obtain ⟨g, cc, hv⟩ := ownsRow_form (unhide HO) (by omega)
      obtain ⟨rfl, rfl⟩ : a = some ⟨g, 0, none⟩ ∧ c = cc := by simpa using hv
      have cb := files_bytes (unhide HO) hlt
      have hsz := unhide HS k hlt
      have Hts := hide (Ov.total_take_succ l k hlt)
      clear hv
      go_wp2
      go_round
      case rel => exact ⟨k + 1, by omega, by go_num, by rw [unhide Hts]; go_num⟩
      case measure => simp [intOf]; omega
    · obtain rfl : k = l.length := by omega
      rw [total_all] at hle ⊢
      obtain ⟨t, ht⟩ : ∃ t, Ov.total l = t := ⟨_, rfl⟩
      have HT := hide ht
      rw [ht] at hle
      clear HO HS
      by_cases hfull : room < t
      · go_wp2
        go_ret
        exact Or.inr ⟨by rw [unhide HT]; exact hfull, rfl, rfl⟩
      · go_wp2
        go_ret
        exact Or.inl ⟨by rw [unhide HT]; omega, rfl, rfl⟩

end Go.Proofs.YtomiepknmmpflaaGreatDoor

/- The reference's store in memory. -/
namespace Go.Proofs.YtomiepknmmpflaaGreatDoor
open Go.RowKit Go.Joins

/-- A store of the reference at block b. -/
def RefRep (w : World) (b room : Nat) (l : Ov.Files) : Prop :=
  ∃ v, w.heap[b]? = some (.cells #[.int .i64 room, v] 180 (0, 0)) ∧ OwnsFiles w 0 v l ∧ some b ≠ v.ownBlock
theorem grown_of_below {w w' : World} (h : Below w.heap.size w w') (r : Option Nat) : w.grownBy w' r := ⟨h.os, h.tape, h.output, h.size, fun k hk _ => h.block k hk⟩
theorem grown_trans {w w1 w2 : World} {r : Option Nat} (h : w.grownBy w1 r) (k : w1.grownBy w2 r) : w.grownBy w2 r :=
  ⟨k.os.trans h.os, k.tape.trans h.tape, k.output.trans h.output, Nat.le_trans h.size k.size, fun i hi hne => (k.block i (Nat.lt_of_lt_of_le hi h.size) hne).trans (h.block i hi hne)⟩
theorem grown_set (w : World) (b i : Nat) (u : Value) : w.grownBy (w.setCell ⟨b, i, none⟩ u) (some b) :=
  ⟨rfl, rfl, rfl, by simp, fun k _ hne => Below.heap_setCell _ _ _ _ (fun e => hne (by rw [e]))⟩
/-- Memory that is not the store's own may turn: the store stands. -/
theorem RefRep.kept {w w' : World} {b room : Nat} {l : Ov.Files} (h : RefRep w b room l) (hb : Below w.heap.size w w') : RefRep w' b room l := by
  obtain ⟨v, h1, h2, h3⟩ := h
  exact ⟨v, by rw [hb.block b (blk_lt h1)]; exact h1, owns_all h2 hb, h3⟩
/-- New files put in. -/
theorem RefRep.store {w w1 : World} {b room : Nat} {l m : Ov.Files} {v' : Value} (h : RefRep w b room l) (hb : Below w.heap.size w w1) (ho : OwnsFiles w1 w.heap.size v' m) :
    RefRep (w1.setCell ⟨b, 1, none⟩ v') b room m ∧ w.grownBy (w1.setCell ⟨b, 1, none⟩ v') (some b) := by
  obtain ⟨v, h1, h2, h3⟩ := h
  have hlt := blk_lt h1
  have h1' : w1.heap[b]? = _ := (hb.block b hlt).trans h1
  have hne : some b ≠ v'.ownBlock := owns_ne ho hlt
  exact ⟨⟨v', blk_set_same (i := 1) h1' v', owns_set (ownsRow_le ho (Nat.zero_le _)) hne v', hne⟩, grown_trans (grown_of_below hb _) (grown_set w1 b 1 v')⟩

/-- What a call of the reference leaves. -/
structure RefLeft (w : World) (b room : Nat) (l : Ov.Files) (w' : World) : Prop where
  rep : RefRep w' b room l
  grown : w.grownBy w' (some b)
theorem RefRep.same {w w' : World} {b room : Nat} {l : Ov.Files} (h : RefRep w b room l) (hb : Below w.heap.size w w') : RefLeft w b room l w' := ⟨h.kept hb, grown_of_below hb _⟩
theorem RefRep.here {w : World} {b room : Nat} {l : Ov.Files} (h : RefRep w b room l) : RefLeft w b room l w := h.same (Below.refl _ _)
/-- Behind put. -/
theorem RefRep.put {w w1 w' : World} {b room : Nat} {l m : Ov.Files} {v' : Value} {e : Ending} (h : RefRep w b room l) (hb : Below w.heap.size w w1) (ho : OwnsFiles w1 w.heap.size v' m) (hp : PutPost w1 b room v' m e w') :
    e = .returned (.int .i64 (Ov.putF room l m).1) ∧ RefLeft w b room (Ov.putF room l m).2 w' := by
  rcases hp with ⟨h1, rfl, rfl⟩ | ⟨h1, rfl, rfl⟩
  · have e : Ov.putF room l m = (0, m) := by unfold Ov.putF; rw [if_neg (by omega)]
    rw [e]
    exact ⟨rfl, (h.store hb ho).1, (h.store hb ho).2⟩
  · have e : Ov.putF room l m = (9, l) := by unfold Ov.putF; rw [if_pos h1]
    rw [e]
    exact ⟨rfl, h.same hb⟩

end Go.Proofs.YtomiepknmmpflaaGreatDoor

/- Make: what it answers, and the image that it makes. -/
namespace Go.Proofs.YtomiepknmmpflaaGreatDoor
open Go.RowKit Go.Joins

def noKinds (n : Nat) : List Int := List.replicate n 0
def noBlocks (n : Nat) : List ByteArray := List.replicate n ⟨#[]⟩
/-- The file of a new image. -/
def blank (bk : ByteArray) (n : Nat) : ByteArray := encode bk (noKinds n) (noBlocks n)
def makeF (room : Nat) (l : Ov.Files) (x : ByteArray) (n : Int) (bk : ByteArray) : Int × Ov.Files :=
  if Ov.nameB x = false then (2, l)
  else if n < 1 ∨ 30 < n ∨ l.length = 8 then (1, l)
  else if Ov.place l x < l.length then (3, l)
  else if bk.size ≠ 0 ∧ Ov.soundF l bk ≠ 0 then (Ov.soundF l bk, l)
  else Ov.putF room l (Ov.withF l x (blank bk n.toNat))
theorem noKinds_getD (n k : Nat) : (noKinds n).getD k 0 = 0 := by
  unfold noKinds
  rw [List.getD_eq_getElem?_getD, List.getElem?_replicate]
  split <;> rfl
theorem noBlocks_getD (n k : Nat) : (noBlocks n).getD k ⟨#[]⟩ = ⟨#[]⟩ := by
  unfold noBlocks
  rw [List.getD_eq_getElem?_getD, List.getElem?_replicate]
  split <;> rfl
theorem encode_size (bk : ByteArray) (ks : List Int) (bs : List ByteArray) (hb : ∀ j, j < ks.length → (bs.getD j ⟨#[]⟩).size ≤ 8) : (encode bk ks bs).size ≤ 6 + bk.size + ks.length + 8 * ks.length := by
  unfold encode
  have := encB_size ks bs ks.length hb
  have h1 : (strOfNums [(encN ks ks.length : Int)]).size = 1 := strOfNums_size _
  rw [ByteArray.size_append, ByteArray.size_append, encF_size, h1]
  omega
theorem blank_size {bk : ByteArray} {n : Nat} (hb : bk.size ≤ 8) (hn : n ≤ 30) : (blank bk n).size ≤ 1000 := by
  have := encode_size bk (noKinds n) (noBlocks n) (fun j _ => by rw [noBlocks_getD]; exact Nat.zero_le _)
  unfold blank
  simp only [noKinds, List.length_replicate] at this ⊢
  omega
/-- Rows of noughts, as make lays them: behind names that the walk does not open. -/
def zInts (n : Nat) : Array Value := madeCells (Value.int .i64 0).cells (n * 1)
def zTexts (n : Nat) : Array Value := madeCells (Value.string ⟨#[]⟩).cells (n * 1)
theorem zInts_list (n : Nat) : (zInts n).toList = (noKinds n).map (Value.int .i64) := by
  have := toList_madeCells_one (.int .i64 0) n
  unfold zInts noKinds
  rw [Nat.mul_one]
  refine this.trans ?_
  simp
theorem zTexts_list (n : Nat) : (zTexts n).toList = (noBlocks n).map Value.string := by
  have := toList_madeCells_one (.string ⟨#[]⟩) n
  unfold zTexts noBlocks
  rw [Nat.mul_one]
  refine this.trans ?_
  simp
theorem make_ints (n : Nat) (hn : n ≤ 30) (w : World) : (Instr.makeSlice 238 (.int .i64 n) (.int .i64 n)).run Tryz.prog w = .ok (.slice (some ⟨w.heap.size, 0, none⟩) n n) (w.alloc (.cells (zInts n) 3)) := by
  obtain ⟨i0, hi, hz0, hz1, hz2⟩ := info_parts Tryz.infoInt
  have := run_make (P := Tryz.prog) w 238 3 i0 (.int .i64 0) Tryz.underlying238 hi hz0 .i64 .i64 n n (by omega) (Int.le_refl _) (by rw [hz2]; omega) (by omega)
  rw [hz1] at this
  simpa [zInts] using this
theorem make_texts (n : Nat) (hn : n ≤ 30) (w : World) : (Instr.makeSlice 30 (.int .i64 n) (.int .i64 n)).run Tryz.prog w = .ok (.slice (some ⟨w.heap.size, 0, none⟩) n n) (w.alloc (.cells (zTexts n) 9)) := by
  obtain ⟨i0, hi, hz0, hz1, hz2⟩ := info_parts Tryz.infoString
  have := run_make (P := Tryz.prog) w 30 9 i0 (.string ⟨#[]⟩) Tryz.underlying30 hi hz0 .i64 .i64 n n (by omega) (Int.le_refl _) (by rw [hz2]; omega) (by omega)
  rw [hz1] at this
  simpa [zTexts] using this
/-- A row of noughts at a block. -/
theorem owns_ints {w : World} {g n base : Nat} (hn : n ≤ 30) (hb : base ≤ g) (h : w.heap[g]? = some (.cells (zInts n) 3 (0, 0))) : w.ownsRow base 3 1 (.slice (some ⟨g, 0, none⟩) n n) n ((noKinds n).map (Value.int .i64)) :=
  ⟨by simp [noKinds], Or.inr ⟨g, n, zInts n, rfl, hb, h, Nat.le_refl _, by unfold maxLen; omega, by unfold zInts; rw [size_madeCells], by rw [zInts_list, List.take_of_length_le (by simp [noKinds])]⟩⟩
theorem owns_texts {w : World} {g n base : Nat} (hn : n ≤ 30) (hb : base ≤ g) (h : w.heap[g]? = some (.cells (zTexts n) 9 (0, 0))) : w.ownsRow base 9 1 (.slice (some ⟨g, 0, none⟩) n n) n ((noBlocks n).map Value.string) :=
  ⟨by simp [noBlocks], Or.inr ⟨g, n, zTexts n, rfl, hb, h, Nat.le_refl _, by unfold maxLen; omega, by unfold zTexts; rw [size_madeCells], by rw [zTexts_list, List.take_of_length_le (by simp [noBlocks])]⟩⟩

end Go.Proofs.YtomiepknmmpflaaGreatDoor

/- The walk of the reference's Drop, and of its New. -/
namespace Go.Proofs.YtomiepknmmpflaaGreatDoor
open Go.RowKit Go.Joins

def keepF (l : Ov.Files) (x : ByteArray) : Ov.Files := l.filter fun f => !decide (f.1 = x)
theorem keepF_take {l : Ov.Files} {x : ByteArray} {k : Nat} (hk : k < l.length) : keepF (l.take (k + 1)) x = keepF (l.take k) x ++ if Ov.nameAt l k = x then [] else [(Ov.nameAt l k, Ov.fileAt l k)] := by
  unfold keepF
  rw [List.take_succ_eq_append_getElem hk, List.filter_append]
  have e : Ov.nameAt l k = l[k].1 := by simp [Ov.nameAt, hk]
  have e2 : Ov.fileAt l k = l[k].2 := by simp [Ov.fileAt, hk]
  rw [e, e2]
  by_cases h : l[k].1 = x <;> simp [h]
theorem keepF_le (l : Ov.Files) (x : ByteArray) (k : Nat) : (keepF (l.take k) x).length ≤ k := by
  have := List.length_filter_le (fun f : ByteArray × ByteArray => !decide (f.1 = x)) (l.take k)
  have h2 := List.length_take_le k l
  unfold keepF; omega

set_option maxRecDepth 100000 in
set_option maxHeartbeats 400000 in
theorem rDrop_calls (l : Ov.Files) (x : ByteArray) (b room : Nat) (w : World) (hl8 : l.length ≤ 8) (h : RefRep w b room l) :
    Calls Tryz.prog 120 #[.pointer (some ⟨b, 0, none⟩), .string x] w fun e w' => e = .returned (.int .i64 (Ov.dropF l x).1) ∧ RefLeft w b room (Ov.dropF l x).2 w' := by
  obtain ⟨v, h1, h2, h3⟩ := id h
  have HR := hide h
  obtain ⟨a, c, rfl⟩ := owns_slice h2
  have c1 : w.cell? ⟨b, 1, none⟩ = some (.slice a l.length c) := blk_cell h1 rfl
  have HO := hide h2
  have HB := hide h1
  have hbl := blk_lt h1
  clear h h1 h2 h3
  by_cases hp : Ov.place l x < l.length
  · have hfd : Ov.find l x = (Ov.place l x : Int) := Ov.find_yes hp
    have HL : Hid (Ov.dropF l x = (0, keepF l x)) := by unfold Ov.dropF; rw [if_pos hp]; exact rfl
    obtain ⟨g, cc, hv⟩ := ownsRow_form (unhide HO) (by omega)
    obtain ⟨rfl, rfl⟩ : a = some ⟨g, 0, none⟩ ∧ c = cc := by simpa using hv
    obtain ⟨i0, hi, hz0, hz1, hz2⟩ := info_parts Tryz.infoFile
    clear hv
    go_enter Tryz.func120, Tryz.ntmps120
    go_wp2_with (go_at_call 166; refine (rFind_calls l _ x 0 _ hl8 (unhide HO)).mono ?_; rintro e w' ⟨rfl, rfl⟩)
    clear c1
    go_loopw [5, 6] (fun mv i wr => ∃ k, k ≤ l.length ∧ i = .int .i64 (k : Nat) ∧ Below w.heap.size w wr ∧ OwnsFiles wr w.heap.size mv (keepF (l.take k) x)) (fun _ i _ => l.length - (intOf i).toNat)
    case atStart => exact ⟨0, Nat.zero_le _, rfl, Below.refl _ _, World.ownsRow_nil _ _ _ _⟩
    case round =>
      obtain ⟨k, hk, rfl, hbel, hown⟩ := hrel
      obtain ⟨ma, mc, rfl⟩ := owns_slice hown
      have hbk : wr.heap[b]? = _ := (hbel.block b hbl).trans (unhide HB)
      have c1 : wr.cell? ⟨b, 1, none⟩ = some (.slice (some ⟨g, 0, none⟩) l.length c) := blk_cell hbk rfl
      have f1 := blk_frozen hbk
      have HOr := hide (owns_below (unhide HO) (fun k hk => ((unhide HO).lt k hk).2) hbel)
      have hmk := keepF_le l x k
      have HM := hide hown
      have HBL := hide hbel
      have hsz := hbel.size
      clear hbk hown hbel
      by_cases hlt : k < l.length
      · have cn := files_name (unhide HOr) hlt
        have cb := files_bytes (unhide HOr) hlt
        have Hst := hide (keepF_take (x := x) hlt)
        obtain ⟨y, hy⟩ : ∃ y, Ov.nameAt l k = y := ⟨_, rfl⟩
        rw [hy] at cn
        have HY := hide hy
        clear hy
        by_cases hq : y = x
        · subst hq
          go_wp2_with fail
          go_roundw
          case rel => exact ⟨k + 1, by omega, by go_num, unhide HBL, by rw [unhide Hst, if_pos (unhide HY), List.append_nil]; exact unhide HM⟩
          case measure => simp [intOf]; omega
        · have hq' : (y.toList == x.toList) = false := by rw [beq_eq_false_iff_ne, ByteArray.toList_eq, ByteArray.toList_eq]; exact fun e => hq (Go.WideShapes.bytes_inj e)
          have hq'' : (y.toList != x.toList) = true := by rw [bne, hq']; rfl
          go_wp2_with (at_builtin; refine wpList_append_own _ rfl (.tmp 33) (.tmp 41) 178 rfl w.heap.size 251 i0 (.agg #[.string ⟨#[]⟩, .string ⟨#[]⟩]) 2 32 Tryz.underlying178 hi hz0 hz1 hz2 rfl (by decide) _ (keepF (l.take k) x).length _ rfl ((unhide HM).alloc _) ⟨wr.heap.size, 0, none⟩ 1 1 [.string y, .string (Ov.fileAt l k)] rfl rfl (two_new rfl) (two_strings _ _) (by unfold maxLen; omega) (by omega) (by simp; omega) ?_; intro v2 w2 ho2 hg2 _; obtain ⟨g2, c2, rfl⟩ := ownsRow_form ho2 (by omega))
          go_roundw
          case rel => exact ⟨k + 1, by omega, by go_num, ((unhide HBL).alloc hsz _).grown hg2 (by simp; omega) (fun j hj => ((unhide HM).lt j hj).1), by rw [unhide Hst, if_neg (by rw [unhide HY]; exact hq), unhide HY]; exact with_app_owns ho2⟩
          case measure => simp [intOf]; omega
      · obtain rfl : k = l.length := by omega
        rw [List.take_length] at HM hmk ⊢
        go_wp2_with fail
        go_ret
        exact ⟨by rw [unhide HL]; rfl, by rw [unhide HL]; exact ⟨((unhide HR).store (unhide HBL) (unhide HM)).1, ((unhide HR).store (unhide HBL) (unhide HM)).2⟩⟩
  · have hfd : Ov.find l x = -1 := Ov.find_no hp
    have HL : Hid (Ov.dropF l x = (4, l)) := by unfold Ov.dropF; rw [if_neg hp]; exact rfl
    go_enter Tryz.func120, Tryz.ntmps120
    go_wp2_with (go_at_call 166; refine (rFind_calls l _ x 0 _ hl8 (unhide HO)).mono ?_; rintro e w' ⟨rfl, rfl⟩)
    go_ret
    exact ⟨by rw [unhide HL]; rfl, by rw [unhide HL]; exact (unhide HR).here⟩

set_option maxRecDepth 100000 in
set_option maxHeartbeats 400000 in
theorem rNew_no (n : Int) (w : World) (h : n < 0 ∨ 4000 < n) : Calls Tryz.prog 74 #[.int .i64 n] w fun e w' => e = .returned (.tuple #[.pointer none, .int .i64 1]) ∧ w = w' := by
  rcases h with h | h
  · go_enter Tryz.func74, Tryz.ntmps74
    go_wp2
    go_ret2
    exact ⟨rfl, rfl⟩
  · have h0 : decide (n < 0) = false := decide_eq_false (by omega)
    go_enter Tryz.func74, Tryz.ntmps74
    go_wp2
    go_ret2
    exact ⟨rfl, rfl⟩
set_option maxRecDepth 100000 in
set_option maxHeartbeats 400000 in
theorem rNew_yes (n : Nat) (w : World) (h : n ≤ 4000) : Calls Tryz.prog 74 #[.int .i64 n] w fun e w' => e = .returned (.tuple #[.pointer (some ⟨w.heap.size, 0, none⟩), .int .i64 0]) ∧ w' = w.alloc (.cells #[.int .i64 n, .slice none 0 0] 180) := by
  go_enter Tryz.func74, Tryz.ntmps74
  go_wp2
  go_ret2
  exact ⟨rfl, rfl⟩
theorem RefRep.new (w : World) (n : Nat) : RefRep (w.alloc (.cells #[.int .i64 n, .slice none 0 0] 180)) w.heap.size n [] :=
  ⟨_, by show (w.heap.push _)[w.heap.size]? = _; simp, World.ownsRow_nil _ _ _ _, by simp [Value.ownBlock]⟩

end Go.Proofs.YtomiepknmmpflaaGreatDoor
