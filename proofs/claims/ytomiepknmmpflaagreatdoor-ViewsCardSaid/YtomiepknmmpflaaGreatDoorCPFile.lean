/- The walk of the reference's Make, over a backing; and Make whole. -/
import Derived.Test.YtomiepknmmpflaaGreatDoorCWMake
import Derived.Test.YtomiepknmmpflaaGreatDoorCWBuild
import Derived.Maps.AppendAt
import Derived.Handy
namespace Go.Proofs.YtomiepknmmpflaaGreatDoor
open Go.RowKit Go.Joins

set_option maxRecDepth 100000 in
set_option maxHeartbeats 2000000 in
theorem rMake_over (l : Ov.Files) (x bk : ByteArray) (n b room : Nat) (w : World) (hi : Ov.LI room l) (h : RefRep w b room l) (hn : Ov.nameB x = true) (hn1 : 1 ≤ n) (hn30 : n ≤ 30) (h8 : ((l.length : Int) == 8) = false) (hp : ¬ Ov.place l x < l.length) (hb0 : bk.toList.isEmpty = false) (hso : Ov.soundF l bk = 0) (hbk8 : bk.size ≤ 8) (hF : makeF room l x n bk = Ov.putF room l (Ov.withF l x (encode bk (noKinds n) (noBlocks n)))) :
    Calls Tryz.prog 121 #[.pointer (some ⟨b, 0, none⟩), .string x, .int .i64 n, .string bk] w fun e w' => e = .returned (.int .i64 (makeF room l x n bk).1) ∧ RefLeft w b room (makeF room l x n bk).2 w' := by
  obtain ⟨v, h1, h2, h3⟩ := id h
  have HR := hide h
  obtain ⟨a, c, rfl⟩ := owns_slice h2
  have c1 : w.cell? ⟨b, 1, none⟩ = some (.slice a l.length c) := blk_cell h1 rfl
  have HO := hide h2
  have HB := hide h1
  have HI := hide hi
  have hl8 := hi.len
  have hbl0 := blk_lt h1
  clear h h1 h2 h3 hi
  have hfd : Ov.find l x = -1 := Ov.find_no hp
  have hwl : (Ov.withF l x (encode bk (noKinds n) (noBlocks n))).length ≤ 9 := by rw [Ov.withF_length, if_neg hp]; omega
  have HWS := hide (Ov.withF_size (x := x) (b := encode bk (noKinds n) (noBlocks n)) (unhide HI).size (blank_size hbk8 hn30))
  have hroom := (unhide HI).room
  have HF := hide hF
  clear hF
  have mi := make_ints n hn30
  have mt := make_texts n hn30
  go_enter Tryz.func121, Tryz.ntmps121
  go_upto_region 12 with (first | (go_at_call 164; refine (rsound_calls l bk b room _ (unhide HI) (unhide HR)).mono ?_; rintro e w1 ⟨rfl, hbs⟩; have HBS := hide hbs; clear hbs) | (go_at_call 168; refine (rIsName_calls _ _).mono ?_; rintro e w' ⟨rfl, hw⟩; obtain rfl := hw.symm) | (go_at_call 166; refine (rFind_calls l _ x 0 _ hl8 (unhide HO)).mono ?_; rintro e w' ⟨rfl, rfl⟩))
  have HO1 := hide (owns_all (unhide HO) (unhide HBS))
  have HB1 : Hid (w1.heap[b]? = some (.cells #[.int .i64 room, .slice a l.length c] 180 (0, 0))) := ((unhide HBS).block b hbl0).trans (unhide HB)
  have HR1 := hide ((unhide HR).kept (unhide HBS))
  have hbl1 : b < w1.heap.size := Nat.lt_of_lt_of_le hbl0 (unhide HBS).size
  go_cut [11] from 45 (fun p W => ∃ X ge gb, MK bk n w1 p W X ge gb)
  case first =>
    go_region
    all_goals (go_wp2_with fail; go_meet)
    all_goals (clear mi mt)
    all_goals first
      | exact ⟨w1.heap.size, w1.heap.size + 1, w1.heap.size + 1 + 1, rfl, (below_alloc3 w1 _ _ _).drew, three0 w1 _ _ _, three1 w1 _ _ _, three2 w1 _ _ _⟩
      | exact ⟨w1.heap.size, w1.heap.size + 1 + 1, w1.heap.size + 1, rfl, (below_alloc3 w1 _ _ _).drew, three0 w1 _ _ _, three2 w1 _ _ _, three1 w1 _ _ _⟩
      | exact ⟨w1.heap.size + 1, w1.heap.size, w1.heap.size + 1 + 1, rfl, (below_alloc3 w1 _ _ _).drew, three1 w1 _ _ _, three0 w1 _ _ _, three2 w1 _ _ _⟩
      | exact ⟨w1.heap.size + 1, w1.heap.size + 1 + 1, w1.heap.size, rfl, (below_alloc3 w1 _ _ _).drew, three1 w1 _ _ _, three2 w1 _ _ _, three0 w1 _ _ _⟩
      | exact ⟨w1.heap.size + 1 + 1, w1.heap.size, w1.heap.size + 1, rfl, (below_alloc3 w1 _ _ _).drew, three2 w1 _ _ _, three0 w1 _ _ _, three1 w1 _ _ _⟩
      | exact ⟨w1.heap.size + 1 + 1, w1.heap.size + 1, w1.heap.size, rfl, (below_alloc3 w1 _ _ _).drew, three2 w1 _ _ _, three1 w1 _ _ _, three0 w1 _ _ _⟩
  case rest =>
    obtain ⟨X, ge, gb, hK⟩ := hcut
    obtain rfl := hK.ptr
    have HK := hide hK
    have x0 : wc.cell? ⟨X, 0, none⟩ = some (.string bk) := blk_cell hK.x rfl
    have x1 : wc.cell? ⟨X, 1, none⟩ = some (.slice (some ⟨ge, 0, none⟩) n n) := blk_cell hK.x rfl
    have x2 : wc.cell? ⟨X, 2, none⟩ = some (.slice (some ⟨gb, 0, none⟩) n n) := blk_cell hK.x rfl
    have x3 : wc.cell? ⟨X, 3, none⟩ = some (.int .i64 0) := blk_cell hK.x rfl
    have cb : wc.cell? ⟨b, 1, none⟩ = some (.slice a l.length c) := blk_cell ((hK.below.block b (blk_lt (unhide HB1))).trans (unhide HB1)) rfl
    have hn9 : n ≤ 30 := hn30
    have hbl : b < wc.heap.size := Nat.lt_of_lt_of_le hbl1 hK.below.size
    clear hK mi mt c1
    go_wp2_with fail
    go_region_with (first | (go_at_call 163; refine (rEncode_calls bk (noKinds n) (noBlocks n) (some ⟨ge, 0, none⟩) (some ⟨gb, 0, none⟩) n n 0 n 0 _ hbk8 hn9 (by exact owns_ints hn9 (Nat.zero_le _) (unhide HK).e) (by exact owns_texts hn9 (Nat.zero_le _) (unhide HK).b) (fun k _ => by rw [noKinds_getD]; omega) (fun k _ => by rw [noBlocks_getD]; exact Nat.zero_le _)).mono ?_; rintro e w2 ⟨rfl, hb2a⟩; have hb2 : Below wc.heap.size wc w2 := ((Below.refl wc.heap.size wc).drew).trans hb2a; have cb2 : w2.cell? ⟨b, 1, none⟩ = some (.slice a l.length c) := (hb2.cell (p := ⟨b, 1, none⟩) hbl).trans cb) | (go_at_call 162; refine (rwith_calls l _ x (encode bk (noKinds n) (noBlocks n)) 0 _ hl8 (by exact owns_all (owns_all (unhide HO1) (unhide HK).below) hb2)).mono ?_; rintro e w3 ⟨v3, rfl, hb3, ho3⟩) | (go_at_call 161; refine (rput_calls (Ov.withF l x (encode bk (noKinds n) (noBlocks n))) v3 (.slice a l.length c) b room w2.heap.size _ hwl hroom (by exact make_blk (unhide HB1) (unhide HK).below hb2 hb3) ho3 (unhide HWS)).mono ?_; intro e w4 hp4; obtain ⟨rfl, hleft⟩ := (unhide HR1).put (make_below (unhide HK).below hb2 hb3) (make_own ho3 (unhide HK).below hb2) hp4))
    all_goals (go_wp2_with fail; go_ret; exact ⟨by rw [unhide HF]; rfl, by rw [unhide HF]; exact ⟨hleft.rep, grown_trans (grown_of_below (unhide HBS) _) hleft.grown⟩⟩)

set_option maxRecDepth 100000 in
set_option maxHeartbeats 400000 in
theorem rMake_no (l : Ov.Files) (x bk : ByteArray) (n : Int) (b room : Nat) (w : World) (hi : Ov.LI room l) (h : RefRep w b room l)
    (hcase : Ov.nameB x = false ∨ (Ov.nameB x = true ∧ (n < 1 ∨ (1 ≤ n ∧ 30 < n) ∨ (1 ≤ n ∧ n ≤ 30 ∧ l.length = 8))) ∨ (Ov.nameB x = true ∧ 1 ≤ n ∧ n ≤ 30 ∧ l.length ≠ 8 ∧ Ov.place l x < l.length) ∨ (Ov.nameB x = true ∧ 1 ≤ n ∧ n ≤ 30 ∧ l.length ≠ 8 ∧ ¬ Ov.place l x < l.length ∧ bk.size ≠ 0 ∧ Ov.soundF l bk ≠ 0)) :
    Calls Tryz.prog 121 #[.pointer (some ⟨b, 0, none⟩), .string x, .int .i64 n, .string bk] w fun e w' => e = .returned (.int .i64 (makeF room l x n bk).1) ∧ RefLeft w b room (makeF room l x n bk).2 w' := by
  obtain ⟨v, h1, h2, h3⟩ := id h
  have HR := hide h
  obtain ⟨a, c, rfl⟩ := owns_slice h2
  have c1 : w.cell? ⟨b, 1, none⟩ = some (.slice a l.length c) := blk_cell h1 rfl
  have HO := hide h2
  have HI := hide hi
  have hl8 := hi.len
  clear h h1 h2 h3 hi
  rcases hcase with hn | ⟨hn, hx | ⟨hn1, hx⟩ | ⟨hn1, hn30, h8⟩⟩ | ⟨hn, hn1, hn30, h8, hp⟩ | ⟨hn, hn1, hn30, h8, hp, hb0, hso⟩
  · have HF : Hid (makeF room l x n bk = (2, l)) := by unfold makeF; rw [if_pos hn]; exact rfl
    go_enter Tryz.func121, Tryz.ntmps121
    go_wp2_with (go_at_call 168; refine (rIsName_calls _ _).mono ?_; rintro e w' ⟨rfl, hw⟩; obtain rfl := hw.symm)
    go_ret
    exact ⟨by rw [unhide HF]; rfl, by rw [unhide HF]; exact (unhide HR).here⟩
  · have HF : Hid (makeF room l x n bk = (1, l)) := by unfold makeF; rw [if_neg (by rw [hn]; simp), if_pos (Or.inl hx)]; exact rfl
    go_enter Tryz.func121, Tryz.ntmps121
    go_wp2_with (go_at_call 168; refine (rIsName_calls _ _).mono ?_; rintro e w' ⟨rfl, hw⟩; obtain rfl := hw.symm)
    go_ret
    exact ⟨by rw [unhide HF]; rfl, by rw [unhide HF]; exact (unhide HR).here⟩
  · have HF : Hid (makeF room l x n bk = (1, l)) := by unfold makeF; rw [if_neg (by rw [hn]; simp), if_pos (Or.inr (Or.inl hx))]; exact rfl
    go_enter Tryz.func121, Tryz.ntmps121
    go_wp2_with (go_at_call 168; refine (rIsName_calls _ _).mono ?_; rintro e w' ⟨rfl, hw⟩; obtain rfl := hw.symm)
    go_ret
    exact ⟨by rw [unhide HF]; rfl, by rw [unhide HF]; exact (unhide HR).here⟩
  · have HF : Hid (makeF room l x n bk = (1, l)) := by unfold makeF; rw [if_neg (by rw [hn]; simp), if_pos (Or.inr (Or.inr h8))]; exact rfl
    have hq : ((l.length : Int) == 8) = true := beq_iff_eq.2 (by omega)
    clear h8
    go_enter Tryz.func121, Tryz.ntmps121
    go_wp2_with (go_at_call 168; refine (rIsName_calls _ _).mono ?_; rintro e w' ⟨rfl, hw⟩; obtain rfl := hw.symm)
    go_ret
    exact ⟨by rw [unhide HF]; rfl, by rw [unhide HF]; exact (unhide HR).here⟩
  · have HF : Hid (makeF room l x n bk = (3, l)) := by unfold makeF; rw [if_neg (by rw [hn]; simp), if_neg (by omega), if_pos hp]; exact rfl
    have hq : ((l.length : Int) == 8) = false := beq_eq_false_iff_ne.2 (by omega)
    have hfd : Ov.find l x = (Ov.place l x : Int) := Ov.find_yes hp
    clear h8
    go_enter Tryz.func121, Tryz.ntmps121
    go_wp2_with (first | (go_at_call 168; refine (rIsName_calls _ _).mono ?_; rintro e w' ⟨rfl, hw⟩; obtain rfl := hw.symm) | (go_at_call 166; refine (rFind_calls l _ x 0 _ hl8 (unhide HO)).mono ?_; rintro e w' ⟨rfl, rfl⟩))
    go_ret
    exact ⟨by rw [unhide HF]; rfl, by rw [unhide HF]; exact (unhide HR).here⟩
  · have HF : Hid (makeF room l x n bk = (Ov.soundF l bk, l)) := by unfold makeF; rw [if_neg (by rw [hn]; simp), if_neg (by omega), if_neg hp, if_pos ⟨hb0, hso⟩]; exact rfl
    have hq : ((l.length : Int) == 8) = false := beq_eq_false_iff_ne.2 (by omega)
    have hfd : Ov.find l x = -1 := Ov.find_no hp
    have hbe : bk.toList.isEmpty = false := by rw [ByteArray.toList_eq, ← Bool.not_eq_true, List.isEmpty_iff_length_eq_zero]; simpa using hb0
    obtain ⟨q, hqe⟩ : ∃ q, Ov.soundF l bk = q := ⟨_, rfl⟩
    rw [hqe] at HF hso
    have hqn : (q != 0) = true := by rw [bne_iff_ne]; exact hso
    clear h8 hb0
    go_enter Tryz.func121, Tryz.ntmps121
    go_wp2_with (first | (go_at_call 168; refine (rIsName_calls _ _).mono ?_; rintro e w' ⟨rfl, hw⟩; obtain rfl := hw.symm) | (go_at_call 166; refine (rFind_calls l _ x 0 _ hl8 (unhide HO)).mono ?_; rintro e w' ⟨rfl, rfl⟩) | (go_at_call 164; refine (rsound_calls l bk b room _ (unhide HI) (unhide HR)).mono ?_; rintro e w1 ⟨rfl, hbs⟩))
    go_ret
    exact ⟨by rw [unhide HF]; rfl, by rw [unhide HF]; exact (unhide HR).same hbs⟩

theorem rMake_calls (l : Ov.Files) (x bk : ByteArray) (n : Int) (b room : Nat) (w : World) (hi : Ov.LI room l) (h : RefRep w b room l) :
    Calls Tryz.prog 121 #[.pointer (some ⟨b, 0, none⟩), .string x, .int .i64 n, .string bk] w fun e w' => e = .returned (.int .i64 (makeF room l x n bk).1) ∧ RefLeft w b room (makeF room l x n bk).2 w' := by
  cases hn : Ov.nameB x
  · exact rMake_no l x bk n b room w hi h (Or.inl hn)
  by_cases hn1 : n < 1
  · exact rMake_no l x bk n b room w hi h (Or.inr (Or.inl ⟨hn, Or.inl hn1⟩))
  by_cases hn30 : 30 < n
  · exact rMake_no l x bk n b room w hi h (Or.inr (Or.inl ⟨hn, Or.inr (Or.inl ⟨by omega, hn30⟩)⟩))
  by_cases h8 : l.length = 8
  · exact rMake_no l x bk n b room w hi h (Or.inr (Or.inl ⟨hn, Or.inr (Or.inr ⟨by omega, by omega, h8⟩)⟩))
  by_cases hp : Ov.place l x < l.length
  · exact rMake_no l x bk n b room w hi h (Or.inr (Or.inr (Or.inl ⟨hn, by omega, by omega, h8, hp⟩)))
  obtain ⟨m, rfl⟩ := Int.eq_ofNat_of_zero_le (show 0 ≤ n by omega)
  have hq : ((l.length : Int) == 8) = false := beq_eq_false_iff_ne.2 (by omega)
  by_cases hb0 : bk.size = 0
  · have hbe : bk.toList.isEmpty = true := by rw [ByteArray.toList_eq, List.isEmpty_iff_length_eq_zero]; simpa using hb0
    exact rMake_tail l x bk m b room w hi h hn (by omega) (by omega) hq hp hbe (by omega) (by unfold makeF blank; rw [if_neg (by rw [hn]; simp), if_neg (by omega), if_neg hp, if_neg (by omega), Int.toNat_natCast])
  have hbe : bk.toList.isEmpty = false := by rw [ByteArray.toList_eq, ← Bool.not_eq_true, List.isEmpty_iff_length_eq_zero]; simpa using hb0
  by_cases hso : Ov.soundF l bk = 0
  · have hpb : Ov.place l bk < l.length := by
      by_cases hpb : Ov.place l bk < l.length
      · exact hpb
      · unfold Ov.soundF at hso; rw [if_neg hpb] at hso; omega
    exact rMake_over l x bk m b room w hi h hn (by omega) (by omega) hq hp hbe hso (hi.name_size hpb) (by unfold makeF blank; rw [if_neg (by rw [hn]; simp), if_neg (by omega), if_neg hp, if_neg (by omega), Int.toNat_natCast])
  · exact rMake_no l x bk m b room w hi h (Or.inr (Or.inr (Or.inr ⟨hn, by omega, by omega, h8, hp, hb0, hso⟩)))

end Go.Proofs.YtomiepknmmpflaaGreatDoor

/- The bytes of an image's file, as the program puts them together. -/
namespace Go.Proofs.YtomiepknmmpflaaGreatDoor
open Go.RowKit Go.Joins

/-- The program's number of a kind. -/
def kindP (k : Int) : Int := if k = 1 then 2 else if k = 255 then 1 else 0
/-- Clusters in memory: kinds and bytes. -/
structure Cls (w : World) (g n : Nat) (ks : List Int) (dk : Nat → List UInt8) : Prop where
  len : ks.length = n
  kind : ∀ k, k < n → w.cell? ⟨g, k * 9, none⟩ = some (.int .i64 (kindP (ks.getD k 0)))
  byte : ∀ k, k < n → ∀ j, j < 8 → w.cell? ⟨g, k * 9 + (j + 1), none⟩ = some (.int .u8 (((dk k).getD j 0).toNat : Nat))
  known : ∀ k, k < n → ks.getD k 0 = 0 ∨ ks.getD k 0 = 1 ∨ ks.getD k 0 = 255
  eight : ∀ k, k < n → (dk k).length = 8
  lt : g < w.heap.size
/-- The entries' bytes, and the data's. -/
def encEs (ks : List Int) : Nat → List UInt8
  | 0 => []
  | k + 1 => encEs ks k ++ [(encE ks k).toNat.toUInt8]
def encDs (ks : List Int) (dk : Nat → List UInt8) : Nat → List UInt8
  | 0 => []
  | k + 1 => if ks.getD k 0 = 1 then encDs ks dk k ++ dk k else encDs ks dk k
theorem encEs_length (ks : List Int) (k : Nat) : (encEs ks k).length = k := by
  induction k with
  | zero => rfl
  | succ k ih => simp [encEs, ih]
theorem encDs_length (ks : List Int) (dk : Nat → List UInt8) (k : Nat) (h : ∀ j, j < k → (dk j).length = 8) : (encDs ks dk k).length = encN ks k * 8 := by
  induction k with
  | zero => rfl
  | succ k ih =>
    have := ih (fun j hj => h j (by omega))
    simp only [encDs, encN]
    split
    · rw [List.length_append, this, h k (by omega)]; omega
    · rw [this]; omega
/-- What the loop has made. -/
structure FI (w : World) (ks : List Int) (dk : Nat → List UInt8) (k : Nat) (ve vd : Value) (wr : World) : Prop where
  e : wr.ownsRow w.heap.size 5 1 ve k (Lib.byteCells (encEs ks k))
  d : wr.ownsRow w.heap.size 5 1 vd (encN ks k * 8) (Lib.byteCells (encDs ks dk k))
  ap : ve.ownBlock = none ∨ ve.ownBlock ≠ vd.ownBlock
  below : Below w.heap.size w wr
theorem FI.alloc {w wr : World} {ks : List Int} {dk : Nat → List UInt8} {k : Nat} {ve vd : Value} (h : FI w ks dk k ve vd wr) (o : Obj) : FI w ks dk k ve vd (wr.alloc o) := ⟨h.e.alloc o, h.d.alloc o, h.ap, h.below.alloc h.below.size o⟩
theorem own_lt {w : World} {base e size n : Nat} {v : Value} {xs : List Value} (h : w.ownsRow base e size v n xs) : v.ownBlock ≠ some w.heap.size := fun e1 => by
  obtain ⟨c, hc⟩ := own_blk h e1
  have := blk_lt hc
  omega
/-- An entry is put behind. -/
theorem FI.entry {w wr w' : World} {ks : List Int} {dk : Nat → List UInt8} {k : Nat} {ve vd v' : Value} {x : Nat} (h : FI w ks dk k ve vd wr) (hx : x < 256) (hg : wr.grownBy w' ve.ownBlock) (ho : w'.ownsRow w.heap.size 5 1 v' (k + 1) (Lib.byteCells (encEs ks k) ++ [.int .u8 (x : Nat)])) (hw : v'.ownBlock = ve.ownBlock ∨ v'.ownBlock = some wr.heap.size) :
    w'.ownsRow w.heap.size 5 1 v' (k + 1) (Lib.byteCells (encEs ks k ++ [x.toUInt8])) ∧ w'.ownsRow w.heap.size 5 1 vd (encN ks k * 8) (Lib.byteCells (encDs ks dk k)) ∧ (v'.ownBlock = none ∨ v'.ownBlock ≠ vd.ownBlock) ∧ Below w.heap.size w w' := by
  refine ⟨by rw [Lib.byteCells_append, byte_one hx]; exact ho, owns_grown h.d hg ?_, ?_, h.below.grown hg h.below.size (fun k hk => (h.e.lt k hk).1)⟩
  · by_cases hv : vd.ownBlock = none
    · exact Or.inl hv
    · refine Or.inr fun e => ?_
      rcases h.ap with a | a
      · rw [a] at e; exact hv e
      · exact a e.symm
  · rcases hw with e | e
    · rw [e]; exact h.ap
    · refine Or.inr fun e2 => ?_
      rw [e] at e2
      exact own_lt h.d e2.symm
/-- An open or a zero cluster. -/
theorem FI.plain {w wr w' : World} {ks : List Int} {dk : Nat → List UInt8} {k : Nat} {ve vd v' : Value} {x : Nat} (h : FI w ks dk k ve vd wr) (hx : x < 256) (hk : ks.getD k 0 = (x : Int)) (h1 : x ≠ 1) (hg : wr.grownBy w' ve.ownBlock) (ho : w'.ownsRow w.heap.size 5 1 v' (k + 1) (Lib.byteCells (encEs ks k) ++ [.int .u8 (x : Nat)])) (hw : v'.ownBlock = ve.ownBlock ∨ v'.ownBlock = some wr.heap.size) : FI w ks dk (k + 1) v' vd w' := by
  obtain ⟨a, b, c, d⟩ := h.entry hx hg ho hw
  have hne : ¬ ks.getD k 0 = 1 := by rw [hk]; omega
  have he : encEs ks (k + 1) = encEs ks k ++ [x.toUInt8] := by
    rw [encEs, encE, if_neg hne, hk, Int.toNat_natCast]
  exact ⟨by rw [he]; exact a, by rw [encDs, if_neg hne, encN, if_neg hne]; exact b, c, d⟩
/-- A data cluster: its entry, and its bytes. -/
theorem FI.data {w wr w1 w2 : World} {ks : List Int} {dk : Nat → List UInt8} {k : Nat} {ve vd v1 v2 : Value} (h : FI w ks dk k ve vd wr) (hk : ks.getD k 0 = 1) (hx : encN ks k + 1 < 256) (hg : wr.grownBy w1 ve.ownBlock) (ho : w1.ownsRow w.heap.size 5 1 v1 (k + 1) (Lib.byteCells (encEs ks k) ++ [.int .u8 ((encN ks k + 1 : Nat) : Nat)])) (hw : v1.ownBlock = ve.ownBlock ∨ v1.ownBlock = some wr.heap.size)
    (hg2 : w1.grownBy w2 vd.ownBlock) (ho2 : w2.ownsRow w.heap.size 5 1 v2 (encN ks k * 8 + 8) (Lib.byteCells (encDs ks dk k) ++ Lib.byteCells (dk k))) (hw2 : v2.ownBlock = vd.ownBlock ∨ v2.ownBlock = some w1.heap.size) : FI w ks dk (k + 1) v1 v2 w2 := by
  obtain ⟨a, b, c, d⟩ := h.entry hx hg ho hw
  have he : encEs ks (k + 1) = encEs ks k ++ [(encN ks k + 1).toUInt8] := by
    rw [encEs, encE, if_pos hk, Int.toNat_natCast]
  refine ⟨by rw [he]; exact owns_grown a hg2 c, ?_, ?_, d.grown hg2 d.size (fun k hk => (b.lt k hk).1)⟩
  · rw [encDs, if_pos hk, encN, if_pos hk, Lib.byteCells_append, Nat.add_mul]; exact ho2
  · rcases hw2 with e | e
    · rw [e]; exact c
    · rw [e]; exact Or.inr (own_lt a)
theorem Cls.nine {w wr : World} {g n : Nat} {ks : List Int} {dk : Nat → List UInt8} (h : Cls w g n ks dk) (hb : Below w.heap.size w wr) {k : Nat} (hk : k < n) : ∃ d0 d1 d2 d3 d4 d5 d6 d7 : UInt8, dk k = [d0, d1, d2, d3, d4, d5, d6, d7] ∧
    wr.cell? ⟨g, k * 9, none⟩ = some (.int .i64 (kindP (ks.getD k 0))) ∧ wr.cell? ⟨g, k * 9 + 1, none⟩ = some (.int .u8 (d0.toNat : Nat)) ∧ wr.cell? ⟨g, k * 9 + 2, none⟩ = some (.int .u8 (d1.toNat : Nat)) ∧ wr.cell? ⟨g, k * 9 + 3, none⟩ = some (.int .u8 (d2.toNat : Nat)) ∧ wr.cell? ⟨g, k * 9 + 4, none⟩ = some (.int .u8 (d3.toNat : Nat)) ∧
    wr.cell? ⟨g, k * 9 + 5, none⟩ = some (.int .u8 (d4.toNat : Nat)) ∧ wr.cell? ⟨g, k * 9 + 6, none⟩ = some (.int .u8 (d5.toNat : Nat)) ∧ wr.cell? ⟨g, k * 9 + 7, none⟩ = some (.int .u8 (d6.toNat : Nat)) ∧ wr.cell? ⟨g, k * 9 + 8, none⟩ = some (.int .u8 (d7.toNat : Nat)) := by
  have h8 := h.eight k hk
  match hd : dk k, h8 with
  | [d0, d1, d2, d3, d4, d5, d6, d7], _ =>
    have hc : ∀ o, wr.cell? ⟨g, o, none⟩ = w.cell? ⟨g, o, none⟩ := fun o => hb.cell (p := ⟨g, o, none⟩) h.lt
    have hy := h.byte k hk
    rw [hd] at hy
    exact ⟨d0, d1, d2, d3, d4, d5, d6, d7, rfl, (hc _).trans (h.kind k hk), (hc _).trans (hy 0 (by omega)), (hc _).trans (hy 1 (by omega)), (hc _).trans (hy 2 (by omega)), (hc _).trans (hy 3 (by omega)), (hc _).trans (hy 4 (by omega)), (hc _).trans (hy 5 (by omega)), (hc _).trans (hy 6 (by omega)), (hc _).trans (hy 7 (by omega))⟩
/-- The file's bytes, in their order. -/
theorem file_bytes (bk : ByteArray) (ks : List Int) (bs : List ByteArray) (dk : Nat → List UInt8) (n : Nat) (hn : ks.length = n) (hd : ∀ k, k < n → ks.getD k 0 = 1 → bs.getD k ⟨#[]⟩ = ⟨(dk k).toArray⟩) :
    (⟨([79, 86, 1] ++ [n.toUInt8] ++ [bk.size.toUInt8] ++ bk.data.toList ++ encEs ks n ++ [(encN ks n).toUInt8] ++ encDs ks dk n).toArray⟩ : ByteArray) = encode bk ks bs := by
  have hB : ∀ k, k ≤ n → encB ks bs k = ⟨(encDs ks dk k).toArray⟩ := by
    intro k
    induction k with
    | zero => intro _; rfl
    | succ k ih =>
      intro hk
      have := ih (by omega)
      simp only [encB, encDs]
      split
      · rename_i h1
        rw [this, hd k (by omega) h1]
        apply ByteArray.ext; simp
      · exact this
  have hF : ∀ k, encF bk ks n k = ⟨([79, 86, 1] ++ [n.toUInt8] ++ [bk.size.toUInt8] ++ bk.data.toList ++ encEs ks k).toArray⟩ := by
    intro k
    induction k with
    | zero =>
      apply ByteArray.ext
      simp [encF, encHead, strOfNums, encEs]
    | succ k ih =>
      rw [encF, ih]
      apply ByteArray.ext
      simp [strOfNums, encEs]
  unfold encode
  rw [hn, hF n, hB n (Nat.le_refl _)]
  apply ByteArray.ext
  simp [strOfNums]

end Go.Proofs.YtomiepknmmpflaaGreatDoor
