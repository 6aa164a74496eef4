/- The walk of the reference's Write. -/
import Derived.Test.YtomiepknmmpflaaGreatDoorCWOpenAt
namespace Go.Proofs.YtomiepknmmpflaaGreatDoor
open Go.RowKit Go.Joins

theorem kOld_bd (s : ByteArray) (i : Nat) : 0 ≤ kOld s i ∧ kOld s i ≤ 255 := by
  rcases kindOf_known (Ov.ent s i) with h | h | h <;> simp only [kOld, h] <;> omega
theorem bOld_size {s : ByteArray} (i : Nat) : (bOld s i).size ≤ 8 := by
  unfold bOld Ov.blockOf
  split
  · exact Nat.zero_le _
  · rw [ByteArray.size_extract]; omega
theorem backing_size {l : Ov.Files} {ns : List ByteArray} {x : ByteArray} (h : Ov.Chn l ns x) : (Ov.backing (fileOf l x)).size ≤ 8 := by
  have h8 : Ov.long (fileOf l x) ≤ 8 := h.image.1.2.2.2.2.2.2.1
  unfold Ov.backing
  rw [ByteArray.size_extract]
  omega
theorem kinds_old (s : ByteArray) (m : Nat) : Ov.kindsTo s m = (List.range m).map (kOld s) := rfl
theorem blocks_old (s : ByteArray) (m : Nat) : Ov.blocksTo s m = (List.range m).map (bOld s) := rfl

set_option maxRecDepth 100000 in
set_option maxHeartbeats 4000000 in
theorem rWrite_go (l : Ov.Files) (x d : ByteArray) (f b room : Nat) (w : World) (hi : Ov.LI room l) (h : RefRep w b room l) (hq : rangedF l x f d.size = 0) (hd : d.size ≠ 0) :
    Calls Tryz.prog 112 #[.pointer (some ⟨b, 0, none⟩), .string x, .int .i64 (f : Nat), .string d] w fun e w' => e = .returned (.int .i64 (writeF room l x f d).1) ∧ RefLeft w b room (writeF room l x f d).2 w' := by
  obtain ⟨hso, hp, hc, _, _, hfk⟩ := ranged_ok hq
  have hm := hc.many_le
  have hbk8 := backing_size hc
  obtain ⟨ns, hns⟩ : ∃ ns, (Ov.downOf l x).1 = ns := ⟨_, rfl⟩
  obtain ⟨s, hs⟩ : ∃ s, fileOf l x = s := ⟨_, rfl⟩
  have him := hc.image
  rw [show Ov.fileAt l (Ov.place l x) = s from hs] at him
  rw [hs] at hm hfk hbk8
  rw [hns] at hc
  obtain ⟨m, hme⟩ : ∃ m, Ov.many s = m := ⟨_, rfl⟩
  rw [hme] at hm hfk
  obtain ⟨hm1, hm30⟩ := hm
  have HF : Hid (writeF room l x f d = Ov.putF room l (Ov.withF l x (encode (Ov.backing s) (allTo m (kOld s) (fun _ => 1) (touched f d.size)) (allTo m (bOld s) (blockW l ns f d) (touched f d.size))))) := by
    unfold writeF newF
    rw [hq, if_neg (by omega), if_neg hd, hs, hme, hns]
    exact rfl
  have hk1 : 1 ≤ d.size := by omega
  obtain ⟨K, hK⟩ : ∃ K, allTo m (kOld s) (fun _ => 1) (touched f d.size) = K := ⟨_, rfl⟩
  obtain ⟨B, hB⟩ : ∃ B, allTo m (bOld s) (blockW l ns f d) (touched f d.size) = B := ⟨_, rfl⟩
  have hKb : ∀ i, i < m → 0 ≤ K.getD i 0 ∧ K.getD i 0 ≤ 255 := fun i hi => by
    rw [← hK, allTo_getD hi]
    have := kOld_bd s i
    split <;> omega
  have hBb : ∀ i, i < m → (B.getD i ⟨#[]⟩).size ≤ 8 := fun i hi => by
    rw [← hB, allTo_getD hi]
    split
    · rw [blockW_size]; omega
    · exact bOld_size i
  have hKl : K.length = m := by rw [← hK, allTo_length]
  obtain ⟨v, g1, g2, g3⟩ := id h
  obtain ⟨g, c, rfl⟩ := ownsRow_form g2 (by omega)
  have HR := hide h
  have HI := hide hi
  have HQ := hide hq
  have HC := hide hc
  have HS := hide hs
  have HIM := hide him
  have HME := hide hme
  have HK := hide hK
  have HB := hide hB
  have HKB := hide hKb
  have HBB := hide hBb
  have HG1 := hide g1
  have HG2 := hide g2
  have hl8 := hi.len
  have hwl : (Ov.withF l x (encode (Ov.backing s) K B)).length ≤ 9 := by rw [Ov.withF_length, if_pos hp]; omega
  have hes : (encode (Ov.backing s) K B).size ≤ 1000 := by
    have := encode_size (Ov.backing s) K B (fun j hj => hBb j (by omega))
    omega
  have HWS := hide (Ov.withF_size (x := x) (b := encode (Ov.backing s) K B) hi.size hes)
  have hroom := hi.room
  obtain ⟨bk, hbk⟩ : ∃ bk, Ov.backing s = bk := ⟨_, rfl⟩
  obtain ⟨lo, hlo⟩ : ∃ lo, Ov.lost s = lo := ⟨_, rfl⟩
  rw [hbk] at hbk8
  have HBK := hide hbk
  have HLO := hide hlo
  rw [hK, hB, hbk] at HF
  rw [hbk] at hwl HWS
  have hde : d.toList.isEmpty = false := by rw [ByteArray.toList_eq, ← Bool.not_eq_true, List.isEmpty_iff_length_eq_zero]; simp; intro e; rw [e] at hk1; exact absurd hk1 (by decide)
  have hds : d.size ≤ 240 := by omega
  clear h hi hq hc hs him hme hK hB hKb hBb g1 g2 g3 hp hso hns hes hbk hlo hKl hd
  go_enter Tryz.func112, Tryz.ntmps112
  go_wp2_with (first
    | (go_at_call 159; refine (rimage_calls l x s b room _ (unhide HI) ((unhide HR).kept (unhide HBS)) (by exact (unhide HC).here) (by exact unhide HS) (unhide HIM)).mono ?_; rintro e w2 ⟨ea, ec, ba, bc, he, hb2, h2, h3⟩; rw [unhide HME] at he h2 h3; rw [unhide HBK, unhide HLO] at he; subst he; have HB2 := hide hb2; have H2 := hide h2; have H3 := hide h3; clear hb2 h2 h3)
    | (go_at_call 157; refine (rranged_calls l x f d.size b room _ (unhide HI) (unhide HR) (by omega) (by omega) (by omega) (by omega)).mono ?_; rintro e w1 ⟨he, hbs⟩; rw [unhide HQ] at he; subst he; have HBS := hide hbs; clear hbs))
  obtain ⟨ge, ec', hve⟩ := ownsRow_form (unhide H2) (by omega)
  obtain ⟨rfl, rfl⟩ : ea = some ⟨ge, 0, none⟩ ∧ ec = ec' := (by simpa using hve)
  clear hve
  obtain ⟨gb, bc', hvb⟩ := ownsRow_form (unhide H3) (by omega)
  obtain ⟨rfl, rfl⟩ : ba = some ⟨gb, 0, none⟩ ∧ bc = bc' := (by simpa using hvb)
  clear hvb
  have him0 : RIm w1 bk lo m (partTo m (kOld s) (fun _ => (1 : Int)) (touched f d.size) (f / 8)) (partTo m (bOld s) (blockW l ns f d) (touched f d.size) (f / 8)) w2.heap.size (some ⟨ge, 0, none⟩) (some ⟨gb, 0, none⟩) ec bc (w2.alloc (.cells #[.string bk, .slice (some ⟨ge, 0, none⟩) m ec, .slice (some ⟨gb, 0, none⟩) m bc, .int .i64 lo] 240)) := by
    rw [partTo_none (fun i hi => by unfold touched; omega), partTo_none (fun i hi => by unfold touched; omega)]
    exact RIm.late (unhide HB2) (by rw [← kinds_old]; exact unhide H2) (by rw [← blocks_old]; exact unhide H3)
  have HIM0 := hide him0
  clear him0 H2 H3
  go_loopw [11] (fun i wr => ∃ n : Nat, f / 8 ≤ n ∧ n ≤ m ∧ i = .int .i64 (n : Nat) ∧ RIm w1 bk lo m (partTo m (kOld s) (fun _ => (1 : Int)) (touched f d.size) n) (partTo m (bOld s) (blockW l ns f d) (touched f d.size) n) w2.heap.size (some ⟨ge, 0, none⟩) (some ⟨gb, 0, none⟩) ec bc wr) (fun i _ => m - (intOf i).toNat)
  case atStart => exact ⟨f / 8, Nat.le_refl _, by omega, by simp, unhide HIM0⟩
  case round =>
    obtain ⟨n, hn1, hn2, rfl, hI⟩ := hrel
    by_cases hlt : 8 * n < f + d.size
    · have hnm : n < m := by omega
      have hI1 := hI.setK n 1
      have hr1 : RefRep (wr.setCell ⟨ge, n, none⟩ (.int .i64 1)) b room l := (unhide HR).kept ((unhide HBS).trans (hI1.below.mono (unhide HBS).size))
      have x1 := hI.read.2.1
      have fz1 := hI.ks.frozenAt n
      have ce1 := ints_cell hI.ks hnm
      have y2 := hI1.read.2.2.1
      have HI1 := hide hI1
      have HR1 := hide hr1
      obtain ⟨T, hT⟩ : ∃ T, blockW l ns f d n = T := ⟨_, rfl⟩
      have HT := hide hT
      have HSK : Hid (partTo m (kOld s) (fun _ => (1 : Int)) (touched f d.size) (n + 1) = (partTo m (kOld s) (fun _ => (1 : Int)) (touched f d.size) n).set n 1) := partTo_set (by unfold touched; omega)
      have HSB : Hid (partTo m (bOld s) (blockW l ns f d) (touched f d.size) (n + 1) = (partTo m (bOld s) (blockW l ns f d) (touched f d.size) n).set n T) := by rw [← hT]; exact partTo_set (by unfold touched; omega)
      clear hI hI1 hr1 hT
      go_wp2_with fail
      go_region_with (go_at_call 160; refine (rblock_calls l x d ns n f b room _ (unhide HI) (by exact unhide HR1) (unhide HC) (by omega) (by omega) hds).mono ?_; rintro e w3 ⟨he, hb3⟩; rw [unhide HT] at he; subst he; have hI3 := (unhide HI1).kept (((Below.refl _ _).drew).trans hb3); have z2 := hI3.read.2.2.1; have fz3 := hI3.bs.frozenAt n; have cb3 := texts_cell hI3.bs hnm; have HI3 := hide hI3; clear hI3 hb3)
      all_goals
        go_wp2_with fail
        go_roundw
        case rel => exact ⟨n + 1, by omega, by omega, by go_num, by rw [unhide HSK, unhide HSB]; exact (unhide HI3).setB n T⟩
        case measure => simp [intOf]; omega
    · have hI2 : RIm w1 bk lo m K B w2.heap.size (some ⟨ge, 0, none⟩) (some ⟨gb, 0, none⟩) ec bc wr := by
        rw [partTo_end (fun i h1 h2 => by unfold touched; omega), partTo_end (fun i h1 h2 => by unfold touched; omega)] at hI
        rw [← unhide HK, ← unhide HB]
        exact hI
      clear hI
      obtain ⟨x0, x1, x2, x3⟩ := hI2.read
      have hbs := unhide HBS
      have hbb := (unhide HBS).trans (hI2.below.mono (unhide HBS).size)
      have hbl : b < wr.heap.size := Nat.lt_of_lt_of_le (blk_lt (unhide HG1)) hbb.size
      have cb : wr.cell? ⟨b, 1, none⟩ = some (.slice (some ⟨g, 0, none⟩) l.length c) := blk_cell ((hbb.block b (blk_lt (unhide HG1))).trans (unhide HG1)) rfl
      have HI2 := hide hI2
      have HBB2 := hide hbb
      clear hI2 hbs hbb
      go_wp2_with fail
      go_region_with (first | (go_at_call 163; refine (rEncode_calls bk K B (some ⟨ge, 0, none⟩) (some ⟨gb, 0, none⟩) ec bc lo m w1.heap.size _ hbk8 hm30 (by exact (unhide HI2).ks) (by exact (unhide HI2).bs) (unhide HKB) (unhide HBB)).mono ?_; rintro e w4 ⟨rfl, hb4a⟩; have hb4 : Below wr.heap.size wr w4 := ((Below.refl wr.heap.size wr).drew).trans hb4a; have cb4 : w4.cell? ⟨b, 1, none⟩ = some (.slice (some ⟨g, 0, none⟩) l.length c) := (hb4.cell (p := ⟨b, 1, none⟩) hbl).trans cb) | (go_at_call 162; refine (rwith_calls l _ x (encode bk K B) 0 _ hl8 (by exact owns_all (owns_all (unhide HG2) (unhide HBB2)) hb4)).mono ?_; rintro e w5 ⟨v5, rfl, hb5, ho5⟩) | (go_at_call 161; refine (rput_calls (Ov.withF l x (encode bk K B)) v5 (.slice (some ⟨g, 0, none⟩) l.length c) b room w4.heap.size _ hwl hroom (by exact make_blk (unhide HG1) (unhide HBB2) hb4 hb5) ho5 (unhide HWS)).mono ?_; intro e w6 hp6; obtain ⟨rfl, hleft⟩ := (unhide HR).put (make_below (unhide HBB2) hb4 hb5) (make_own ho5 (unhide HBB2) hb4) hp6))
      all_goals (go_wp2_with fail; go_ret; exact ⟨by rw [unhide HF]; rfl, by rw [unhide HF]; exact hleft⟩)

end Go.Proofs.YtomiepknmmpflaaGreatDoor

namespace Go.Proofs.YtomiepknmmpflaaGreatDoor
open Go.RowKit Go.Joins

theorem empty_of {d : ByteArray} (h : d.size = 0) : d.toList.isEmpty = true := by rw [ByteArray.toList_eq, List.isEmpty_iff_length_eq_zero]; simpa using h

set_option maxRecDepth 100000 in
set_option maxHeartbeats 1000000 in
theorem rWrite_calls (l : Ov.Files) (x d : ByteArray) (f : Int) (b room : Nat) (w : World) (hi : Ov.LI room l) (h : RefRep w b room l) (hf1 : -9223372036854775808 ≤ f) (hf2 : f ≤ 9223372036854775807) (hd : d.size ≤ 9223372036854775807) :
    Calls Tryz.prog 112 #[.pointer (some ⟨b, 0, none⟩), .string x, .int .i64 f, .string d] w fun e w' => e = .returned (.int .i64 (writeF room l x f d).1) ∧ RefLeft w b room (writeF room l x f d).2 w' := by
  obtain ⟨q, hq⟩ : ∃ q, rangedF l x f d.size = q := ⟨_, rfl⟩
  by_cases hq0 : q = 0
  case neg =>
    have hqn : (q != 0) = true := by rw [bne_iff_ne]; exact hq0
    have HF : Hid (writeF room l x f d = (q, l)) := by unfold writeF; rw [hq, if_pos hq0]; exact rfl
    have HR := hide h
    have HI := hide hi
    have HQ := hide hq
    clear hq h hi
    go_enter Tryz.func112, Tryz.ntmps112
    go_wp2_with (go_at_call 157; refine (rranged_calls l x f d.size b room _ (unhide HI) (unhide HR) hf1 hf2 (by omega) (by omega)).mono ?_; rintro e w1 ⟨he, hbs⟩; rw [unhide HQ] at he; subst he)
    go_ret
    exact ⟨by rw [unhide HF]; rfl, by rw [unhide HF]; exact (unhide HR).same hbs⟩
  case pos =>
    subst hq0
    by_cases hd0 : d.size = 0
    · have HF : Hid (writeF room l x f d = (0, l)) := by unfold writeF; rw [hq, if_neg (by omega), if_pos hd0]; exact rfl
      have hde := empty_of hd0
      have HR := hide h
      have HI := hide hi
      have HQ := hide hq
      have hd1 : d.size ≤ 0 := by omega
      clear hq h hi hd0
      go_enter Tryz.func112, Tryz.ntmps112
      go_wp2_with (go_at_call 157; refine (rranged_calls l x f d.size b room _ (unhide HI) (unhide HR) hf1 hf2 (by omega) (by omega)).mono ?_; rintro e w1 ⟨he, hbs⟩; rw [unhide HQ] at he; subst he)
      go_ret
      exact ⟨by rw [unhide HF]; rfl, by rw [unhide HF]; exact (unhide HR).same hbs⟩
    · obtain ⟨_, _, _, hf0, _⟩ := ranged_ok hq
      obtain ⟨f, rfl⟩ := Int.eq_ofNat_of_zero_le hf0
      exact rWrite_go l x d f b room w hi h hq hd0

end Go.Proofs.YtomiepknmmpflaaGreatDoor

namespace Go.Proofs.YtomiepknmmpflaaGreatDoor
open Go.RowKit Go.Joins

def zBytes (k : Nat) : Array Value := madeCells (Value.int .u8 0).cells (k * 1)
theorem zBytes_list (k : Nat) : (zBytes k).toList = (List.replicate k (0 : Int)).map (Value.int .u8) := by
  have := toList_madeCells_one (.int .u8 0) k
  unfold zBytes
  rw [Nat.mul_one]
  refine this.trans ?_
  simp
theorem zBytes_size (k : Nat) : (zBytes k).size = k := by
  have := congrArg List.length (zBytes_list k)
  simpa using this
theorem make_bytes (k : Nat) (hk : k ≤ 240) (w : World) : (Instr.makeSlice 103 (.int .i64 k) (.int .i64 k)).run Tryz.prog w = .ok (.slice (some ⟨w.heap.size, 0, none⟩) k k) (w.alloc (.cells (zBytes k) 5)) := by
  obtain ⟨i0, hi, hz0, hz1, hz2⟩ := info_parts (show (Tryz.prog.info? 5).map (fun i => (i.zero, i.size, i.bytes)) = some (some (.int .u8 0), 1, 1) by kernel_rfl)
  have := run_make (P := Tryz.prog) w 103 5 i0 (.int .u8 0) Tryz.underlying103 hi hz0 .i64 .i64 k k (by omega) (Int.le_refl _) (by rw [hz2]; omega) (by omega)
  rw [hz1] at this
  simpa [zBytes] using this
theorem noughts_str (k : Nat) : strOfNums (List.replicate k (0 : Int)) = noughtsF k := by
  unfold strOfNums noughtsF
  simp
theorem conv_noughts (k : Nat) (hk : k ≤ 240) (w : World) : (convert 103 9 (.slice (some ⟨w.heap.size, 0, none⟩) k k)).run Tryz.prog (w.alloc (.cells (zBytes k) 5)) = .ok (.string (noughtsF k)) (w.alloc (.cells (zBytes k) 5)) := by
  rw [← noughts_str]
  have h := World.ownsRow_lit (e := 5) (size := 1) w (zBytes k) k (Nat.le_refl _) (by unfold maxLen; omega) (by rw [zBytes_size]; omega)
  rw [zBytes_list] at h
  exact conv_own h

set_option maxRecDepth 100000 in
set_option maxHeartbeats 8000000 in
theorem rZero_go (l : Ov.Files) (x : ByteArray) (f k b room : Nat) (w : World) (hi : Ov.LI room l) (h : RefRep w b room l) (hq : rangedF l x f k = 0) (hk0 : k ≠ 0) :
    Calls Tryz.prog 113 #[.pointer (some ⟨b, 0, none⟩), .string x, .int .i64 (f : Nat), .int .i64 (k : Nat)] w fun e w' => e = .returned (.int .i64 (zeroF room l x f k).1) ∧ RefLeft w b room (zeroF room l x f k).2 w' := by
  obtain ⟨hso, hp, hc, _, _, hfk⟩ := ranged_ok hq
  have hm := hc.many_le
  have hbk8 := backing_size hc
  obtain ⟨ns, hns⟩ : ∃ ns, (Ov.downOf l x).1 = ns := ⟨_, rfl⟩
  obtain ⟨s, hs⟩ : ∃ s, fileOf l x = s := ⟨_, rfl⟩
  have him := hc.image
  rw [show Ov.fileAt l (Ov.place l x) = s from hs] at him
  rw [hs] at hm hfk hbk8
  rw [hns] at hc
  obtain ⟨m, hme⟩ : ∃ m, Ov.many s = m := ⟨_, rfl⟩
  rw [hme] at hm hfk
  obtain ⟨hm1, hm30⟩ := hm
  obtain ⟨kN, hkN⟩ : ∃ kN : Nat → Int, kN = fun i => if covered f k i then 255 else 1 := ⟨_, rfl⟩
  obtain ⟨bN, hbN⟩ : ∃ bN : Nat → ByteArray, bN = fun i => if covered f k i then ⟨#[]⟩ else blockW l ns f (noughtsF k) i := ⟨_, rfl⟩
  have HF : Hid (zeroF room l x f k = Ov.putF room l (Ov.withF l x (encode (Ov.backing s) (allTo m (kOld s) kN (touched f k)) (allTo m (bOld s) bN (touched f k))))) := by
    unfold zeroF newF
    rw [hq, if_neg (by omega), if_neg (by omega), hs, hme, hns, hkN, hbN]
    exact rfl
  have hk1 : 1 ≤ k := by omega
  obtain ⟨K, hK⟩ : ∃ K, allTo m (kOld s) kN (touched f k) = K := ⟨_, rfl⟩
  obtain ⟨B, hB⟩ : ∃ B, allTo m (bOld s) bN (touched f k) = B := ⟨_, rfl⟩
  have hKb : ∀ i, i < m → 0 ≤ K.getD i 0 ∧ K.getD i 0 ≤ 255 := fun i hi => by
    rw [← hK, allTo_getD hi, hkN]
    have := kOld_bd s i
    split
    · dsimp only; split <;> omega
    · omega
  have hBb : ∀ i, i < m → (B.getD i ⟨#[]⟩).size ≤ 8 := fun i hi => by
    rw [← hB, allTo_getD hi, hbN]
    split
    · dsimp only
      split
      · exact Nat.zero_le _
      · rw [blockW_size]; omega
    · exact bOld_size i
  have hKl : K.length = m := by rw [← hK, allTo_length]
  have hNk : ∀ i, covered f k i → kN i = 255 := fun i h => by rw [hkN]; exact if_pos h
  have hNk' : ∀ i, ¬ covered f k i → kN i = 1 := fun i h => by rw [hkN]; exact if_neg h
  have hNb : ∀ i, covered f k i → bN i = ⟨#[]⟩ := fun i h => by rw [hbN]; exact if_pos h
  have hNb' : ∀ i, ¬ covered f k i → bN i = blockW l ns f (noughtsF k) i := fun i h => by rw [hbN]; exact if_neg h
  have HNk := hide hNk
  have HNk' := hide hNk'
  have HNb := hide hNb
  have HNb' := hide hNb'
  clear hNk hNk' hNb hNb' hkN hbN
  obtain ⟨v, g1, g2, g3⟩ := id h
  obtain ⟨g, c, rfl⟩ := ownsRow_form g2 (by omega)
  have HR := hide h
  have HI := hide hi
  have HQ := hide hq
  have HC := hide hc
  have HS := hide hs
  have HIM := hide him
  have HME := hide hme
  have HK := hide hK
  have HB := hide hB
  have HKB := hide hKb
  have HBB := hide hBb
  have HG1 := hide g1
  have HG2 := hide g2
  have hl8 := hi.len
  have hwl : (Ov.withF l x (encode (Ov.backing s) K B)).length ≤ 9 := by rw [Ov.withF_length, if_pos hp]; omega
  have hes : (encode (Ov.backing s) K B).size ≤ 1000 := by
    have := encode_size (Ov.backing s) K B (fun j hj => hBb j (by omega))
    omega
  have HWS := hide (Ov.withF_size (x := x) (b := encode (Ov.backing s) K B) hi.size hes)
  have hroom := hi.room
  obtain ⟨bk, hbk⟩ : ∃ bk, Ov.backing s = bk := ⟨_, rfl⟩
  obtain ⟨lo, hlo⟩ : ∃ lo, Ov.lost s = lo := ⟨_, rfl⟩
  rw [hbk] at hbk8
  have HBK := hide hbk
  have HLO := hide hlo
  rw [hK, hB, hbk] at HF
  rw [hbk] at hwl HWS
  have hkz : ((k : Int) == 0) = false := beq_eq_false_iff_ne.2 (by omega)
  have hk240 : k ≤ 240 := by omega
  have mb := make_bytes k hk240
  have cv : ∀ (w : World) (o : Obj), (convert 103 9 (.slice (some ⟨w.heap.size + 1, 0, none⟩) k k)).run Tryz.prog ((w.alloc o).alloc (.cells (zBytes k) 5)) = .ok (.string (noughtsF k)) ((w.alloc o).alloc (.cells (zBytes k) 5)) := fun w o => by
    have := conv_noughts k hk240 (w.alloc o)
    rwa [World.size_alloc] at this
  have hdz : (noughtsF k).size ≤ 240 := by rw [noughtsF_size]; exact hk240
  obtain ⟨dt, hdt⟩ : ∃ dt, noughtsF k = dt := ⟨_, rfl⟩
  rw [hdt] at cv hdz HNb'
  clear h hi hq hc hs him hme hK hB hKb hBb g1 g2 g3 hp hso hns hes hbk hlo hKl hk0 hdt
  go_enter Tryz.func113, Tryz.ntmps113
  go_wp2_with (first
    | (go_at_call 159; refine (rimage_calls l x s b room _ (unhide HI) ((unhide HR).kept (unhide HBS)) (by exact (unhide HC).here) (by exact unhide HS) (unhide HIM)).mono ?_; rintro e w2 ⟨ea, ec, ba, bc, he, hb2, h2, h3⟩; rw [unhide HME] at he h2 h3; rw [unhide HBK, unhide HLO] at he; subst he; have HB2 := hide hb2; have H2 := hide h2; have H3 := hide h3; clear hb2 h2 h3)
    | (go_at_call 157; refine (rranged_calls l x f k b room _ (unhide HI) (unhide HR) (by omega) (by omega) (by omega) (by omega)).mono ?_; rintro e w1 ⟨he, hbs⟩; rw [unhide HQ] at he; subst he; have HBS := hide hbs; clear hbs))
  clear mb cv
  obtain ⟨ge, ec', hve⟩ := ownsRow_form (unhide H2) (by omega)
  obtain ⟨rfl, rfl⟩ : ea = some ⟨ge, 0, none⟩ ∧ ec = ec' := (by simpa using hve)
  clear hve
  obtain ⟨gb, bc', hvb⟩ := ownsRow_form (unhide H3) (by omega)
  obtain ⟨rfl, rfl⟩ : ba = some ⟨gb, 0, none⟩ ∧ bc = bc' := (by simpa using hvb)
  clear hvb
  have him0 : RIm w1 bk lo m (partTo m (kOld s) kN (touched f k) (f / 8)) (partTo m (bOld s) bN (touched f k) (f / 8)) w2.heap.size (some ⟨ge, 0, none⟩) (some ⟨gb, 0, none⟩) ec bc ((w2.alloc (.cells #[.string bk, .slice (some ⟨ge, 0, none⟩) m ec, .slice (some ⟨gb, 0, none⟩) m bc, .int .i64 lo] 240)).alloc (.cells (zBytes k) 5)) := by
    rw [partTo_none (fun i hi => by unfold touched; omega), partTo_none (fun i hi => by unfold touched; omega)]
    exact (RIm.late (unhide HB2) (by rw [← kinds_old]; exact unhide H2) (by rw [← blocks_old]; exact unhide H3)).kept ((Below.refl _ _).alloc (Nat.le_refl _) _)
  have HIM0 := hide him0
  clear him0 H2 H3
  go_loopw [12] (fun i wr => ∃ n : Nat, f / 8 ≤ n ∧ n ≤ m ∧ i = .int .i64 (n : Nat) ∧ RIm w1 bk lo m (partTo m (kOld s) kN (touched f k) n) (partTo m (bOld s) bN (touched f k) n) w2.heap.size (some ⟨ge, 0, none⟩) (some ⟨gb, 0, none⟩) ec bc wr) (fun i _ => m - (intOf i).toNat)
  case atStart => exact ⟨f / 8, Nat.le_refl _, by omega, by simp, unhide HIM0⟩
  case round =>
    obtain ⟨n, hn1, hn2, rfl, hI⟩ := hrel
    by_cases hlt : 8 * n < f + k
    · have hnm : n < m := by omega
      have hI1 := hI.setK n 255
      have hI2 := hI1.setB n ⟨#[]⟩
      have x1 := hI.read.2.1
      have fz1 := hI.ks.frozenAt n
      have ce1 := ints_cell hI.ks hnm
      have y2 := hI1.read.2.2.1
      have fz2 := hI1.bs.frozenAt n
      have ce2 := texts_cell hI1.bs hnm
      have HSK : Hid (partTo m (kOld s) kN (touched f k) (n + 1) = (partTo m (kOld s) kN (touched f k) n).set n (kN n)) := partTo_set (by unfold touched; omega)
      have HSB : Hid (partTo m (bOld s) bN (touched f k) (n + 1) = (partTo m (bOld s) bN (touched f k) n).set n (bN n)) := partTo_set (by unfold touched; omega)
      by_cases hcv : covered f k n
      · have b1 : decide (8 * (n : Int) < (f : Int)) = false := decide_eq_false (by unfold covered at hcv; omega)
        have b2 : decide ((f : Int) + (k : Int) < 8 * (n : Int) + 8) = false := decide_eq_false (by unfold covered at hcv; omega)
        have HI2 := hide hI2
        have H1 := hide (unhide HNk n hcv)
        have H2 := hide (unhide HNb n hcv)
        clear hI hI1 hI2
        unfold covered at hcv
        go_wp2_with fail
        go_roundw
        case rel => exact ⟨n + 1, by omega, by omega, by go_num, by rw [unhide HSK, unhide HSB, unhide H1, unhide H2]; exact unhide HI2⟩
        case measure => simp [intOf]; omega
      · have hI3 := hI2.setK n 1
        rw [List.set_set] at hI3
        have hr1 : RefRep (((wr.setCell ⟨ge, n, none⟩ (.int .i64 255)).setCell ⟨gb, n, none⟩ (.string ⟨#[]⟩)).setCell ⟨ge, n, none⟩ (.int .i64 1)) b room l := (unhide HR).kept ((unhide HBS).trans (hI3.below.mono (unhide HBS).size))
        have u1 := hI2.read.2.1
        have fz4 := hI2.ks.frozenAt n
        have ce4 := ints_cell hI2.ks hnm
        have v2 := hI3.read.2.2.1
        have HI3 := hide hI3
        have HR1 := hide hr1
        have H1 := hide (unhide HNk' n hcv)
        have H2 := hide (unhide HNb' n hcv)
        obtain ⟨T, hT⟩ : ∃ T, blockW l ns f dt n = T := ⟨_, rfl⟩
        rw [hT] at H2
        have HT := hide hT
        clear hI hI1 hI2 hI3 hr1 hT
        have hcv2 : ¬ (f ≤ 8 * n ∧ 8 * n + 8 ≤ f + k) := hcv
        by_cases hlo : 8 * n < f
        · have b1 : decide (8 * (n : Int) < (f : Int)) = true := decide_eq_true (by omega)
          clear hcv hcv2
          go_wp2_with fail
          go_region_with (go_at_call 160; refine (rblock_calls l x dt ns n f b room _ (unhide HI) (by exact unhide HR1) (unhide HC) (by omega) (by omega) hdz).mono ?_; rintro e w3 ⟨he, hb3⟩; rw [unhide HT] at he; subst he; have hI4 := (unhide HI3).kept (((Below.refl _ _).drew).trans hb3); have z2 := hI4.read.2.2.1; have fz3 := hI4.bs.frozenAt n; have cb3 := texts_cell hI4.bs hnm; have HI4 := hide hI4; clear hI4 hb3)
          all_goals
            go_wp2_with fail
            go_roundw
            case rel => exact ⟨n + 1, by omega, by omega, by go_num, by rw [unhide HSK, unhide HSB, unhide H1, unhide H2]; have := (unhide HI4).setB n T; rwa [List.set_set] at this⟩
            case measure => simp [intOf]; omega
        · have b1 : decide (8 * (n : Int) < (f : Int)) = false := decide_eq_false (by omega)
          have b2 : decide ((f : Int) + (k : Int) < 8 * (n : Int) + 8) = true := decide_eq_true (by omega)
          clear hcv hcv2
          go_wp2_with fail
          go_region_with (go_at_call 160; refine (rblock_calls l x dt ns n f b room _ (unhide HI) (by exact unhide HR1) (unhide HC) (by omega) (by omega) hdz).mono ?_; rintro e w3 ⟨he, hb3⟩; rw [unhide HT] at he; subst he; have hI4 := (unhide HI3).kept (((Below.refl _ _).drew).trans hb3); have z2 := hI4.read.2.2.1; have fz3 := hI4.bs.frozenAt n; have cb3 := texts_cell hI4.bs hnm; have HI4 := hide hI4; clear hI4 hb3)
          all_goals
            go_wp2_with fail
            go_roundw
            case rel => exact ⟨n + 1, by omega, by omega, by go_num, by rw [unhide HSK, unhide HSB, unhide H1, unhide H2]; have := (unhide HI4).setB n T; rwa [List.set_set] at this⟩
            case measure => simp [intOf]; omega
    · have hI2 : RIm w1 bk lo m K B w2.heap.size (some ⟨ge, 0, none⟩) (some ⟨gb, 0, none⟩) ec bc wr := by
        rw [partTo_end (fun i h1 h2 => by unfold touched; omega), partTo_end (fun i h1 h2 => by unfold touched; omega)] at hI
        rw [← unhide HK, ← unhide HB]
        exact hI
      clear hI
      obtain ⟨x0, x1, x2, x3⟩ := hI2.read
      have hbb := (unhide HBS).trans (hI2.below.mono (unhide HBS).size)
      have hbl : b < wr.heap.size := Nat.lt_of_lt_of_le (blk_lt (unhide HG1)) hbb.size
      have cb : wr.cell? ⟨b, 1, none⟩ = some (.slice (some ⟨g, 0, none⟩) l.length c) := blk_cell ((hbb.block b (blk_lt (unhide HG1))).trans (unhide HG1)) rfl
      have HI2 := hide hI2
      have HBB2 := hide hbb
      clear hI2 hbb
      go_wp2_with fail
      go_region_with (first | (go_at_call 163; refine (rEncode_calls bk K B (some ⟨ge, 0, none⟩) (some ⟨gb, 0, none⟩) ec bc lo m w1.heap.size _ hbk8 hm30 (by exact (unhide HI2).ks) (by exact (unhide HI2).bs) (unhide HKB) (unhide HBB)).mono ?_; rintro e w4 ⟨rfl, hb4a⟩; have hb4 : Below wr.heap.size wr w4 := ((Below.refl wr.heap.size wr).drew).trans hb4a; have cb4 : w4.cell? ⟨b, 1, none⟩ = some (.slice (some ⟨g, 0, none⟩) l.length c) := (hb4.cell (p := ⟨b, 1, none⟩) hbl).trans cb) | (go_at_call 162; refine (rwith_calls l _ x (encode bk K B) 0 _ hl8 (by exact owns_all (owns_all (unhide HG2) (unhide HBB2)) hb4)).mono ?_; rintro e w5 ⟨v5, rfl, hb5, ho5⟩) | (go_at_call 161; refine (rput_calls (Ov.withF l x (encode bk K B)) v5 (.slice (some ⟨g, 0, none⟩) l.length c) b room w4.heap.size _ hwl hroom (by exact make_blk (unhide HG1) (unhide HBB2) hb4 hb5) ho5 (unhide HWS)).mono ?_; intro e w6 hp6; obtain ⟨rfl, hleft⟩ := (unhide HR).put (make_below (unhide HBB2) hb4 hb5) (make_own ho5 (unhide HBB2) hb4) hp6))
      all_goals (go_wp2_with fail; go_ret; exact ⟨by rw [unhide HF]; rfl, by rw [unhide HF]; exact hleft⟩)

set_option maxRecDepth 100000 in
set_option maxHeartbeats 1000000 in
theorem rZero_calls (l : Ov.Files) (x : ByteArray) (f k : Int) (b room : Nat) (w : World) (hi : Ov.LI room l) (h : RefRep w b room l) (hf1 : -9223372036854775808 ≤ f) (hf2 : f ≤ 9223372036854775807) (hk1 : -9223372036854775808 ≤ k) (hk2 : k ≤ 9223372036854775807) :
    Calls Tryz.prog 113 #[.pointer (some ⟨b, 0, none⟩), .string x, .int .i64 f, .int .i64 k] w fun e w' => e = .returned (.int .i64 (zeroF room l x f k).1) ∧ RefLeft w b room (zeroF room l x f k).2 w' := by
  obtain ⟨q, hq⟩ : ∃ q, rangedF l x f k = q := ⟨_, rfl⟩
  by_cases hq0 : q = 0
  case neg =>
    have hqn : (q != 0) = true := by rw [bne_iff_ne]; exact hq0
    have HF : Hid (zeroF room l x f k = (q, l)) := by unfold zeroF; rw [hq, if_pos hq0]; exact rfl
    have HR := hide h
    have HI := hide hi
    have HQ := hide hq
    clear hq h hi
    go_enter Tryz.func113, Tryz.ntmps113
    go_wp2_with (go_at_call 157; refine (rranged_calls l x f k b room _ (unhide HI) (unhide HR) hf1 hf2 hk1 hk2).mono ?_; rintro e w1 ⟨he, hbs⟩; rw [unhide HQ] at he; subst he)
    go_ret
    exact ⟨by rw [unhide HF]; rfl, by rw [unhide HF]; exact (unhide HR).same hbs⟩
  case pos =>
    subst hq0
    by_cases hd0 : k = 0
    · have HF : Hid (zeroF room l x f k = (0, l)) := by unfold zeroF; rw [hq, if_neg (by omega), if_pos hd0]; exact rfl
      have hkz : (k == 0) = true := beq_iff_eq.2 hd0
      have HR := hide h
      have HI := hide hi
      have HQ := hide hq
      clear hq h hi hd0
      go_enter Tryz.func113, Tryz.ntmps113
      go_wp2_with (go_at_call 157; refine (rranged_calls l x f k b room _ (unhide HI) (unhide HR) hf1 hf2 hk1 hk2).mono ?_; rintro e w1 ⟨he, hbs⟩; rw [unhide HQ] at he; subst he)
      go_ret
      exact ⟨by rw [unhide HF]; rfl, by rw [unhide HF]; exact (unhide HR).same hbs⟩
    · obtain ⟨_, _, _, hf0, hk0, _⟩ := ranged_ok hq
      obtain ⟨f, rfl⟩ := Int.eq_ofNat_of_zero_le hf0
      obtain ⟨k, rfl⟩ := Int.eq_ofNat_of_zero_le hk0
      exact rZero_go l x f k b room w hi h hq (by omega)

end Go.Proofs.YtomiepknmmpflaaGreatDoor

namespace Go.Proofs.YtomiepknmmpflaaGreatDoor
open Go.RowKit Go.Joins

def someTo (f k n : Nat) : Bool := (List.range n).any fun i => decide (covered f k i)
theorem someTo_yes {f k n : Nat} (h : covered f k n) : someTo f k (n + 1) = true := by
  unfold someTo; rw [List.any_eq_true]; exact ⟨n, by simp, decide_eq_true h⟩
theorem someTo_no {f k n : Nat} (h : ¬ covered f k n) : someTo f k (n + 1) = someTo f k n := by
  unfold someTo; rw [List.range_succ, List.any_append]; simp [h]
theorem someTo_all (f k n : Nat) : ((List.range n).all (fun i => !decide (covered f k i)) = true) ↔ someTo f k n = false := by
  unfold someTo
  rw [List.all_eq_true, List.any_eq_false]
  constructor
  · intro h i hi e
    have := h i hi
    rw [e] at this
    cases this
  · intro h i hi
    rw [Bool.not_eq_true']
    exact Bool.eq_false_iff.2 (h i hi)

set_option maxRecDepth 100000 in
set_option maxHeartbeats 8000000 in
theorem rDiscard_go (l : Ov.Files) (x : ByteArray) (f k b room : Nat) (w : World) (hi : Ov.LI room l) (h : RefRep w b room l) (hq : rangedF l x f k = 0) :
    Calls Tryz.prog 114 #[.pointer (some ⟨b, 0, none⟩), .string x, .int .i64 (f : Nat), .int .i64 (k : Nat)] w fun e w' => e = .returned (.int .i64 (discardF room l x f k).1) ∧ RefLeft w b room (discardF room l x f k).2 w' := by
  obtain ⟨hso, hp, hc, _, _, hfk⟩ := ranged_ok hq
  have hm := hc.many_le
  have hbk8 := backing_size hc
  obtain ⟨s, hs⟩ : ∃ s, fileOf l x = s := ⟨_, rfl⟩
  have him := hc.image
  rw [show Ov.fileAt l (Ov.place l x) = s from hs] at him
  rw [hs] at hm hfk hbk8
  obtain ⟨m, hme⟩ : ∃ m, Ov.many s = m := ⟨_, rfl⟩
  rw [hme] at hm hfk
  obtain ⟨hm1, hm30⟩ := hm
  obtain ⟨q, hqd⟩ : ∃ q : Int, q = (if (Ov.backing s).size = 0 then 0 else 255) := ⟨_, rfl⟩
  have HF0 : Hid (someTo f k m = false → discardF room l x f k = (0, l)) := by
    intro h0
    unfold discardF
    rw [hq, if_neg (by omega), hs, hme, Int.toNat_natCast, Int.toNat_natCast, if_pos ((someTo_all f k m).2 h0)]
  have HF : Hid (someTo f k m = true → discardF room l x f k = Ov.putF room l (Ov.withF l x (encode (Ov.backing s) (allTo m (kOld s) (fun _ => q) (covered f k)) (allTo m (bOld s) (fun _ => ⟨#[]⟩) (covered f k))))) := by
    intro h0
    unfold discardF newF
    rw [hq, if_neg (by omega), hs, hme, Int.toNat_natCast, Int.toNat_natCast, if_neg (fun e => by have h1 := (someTo_all f k m).1 e; rw [h0] at h1; cases h1), hqd]
  obtain ⟨K, hK⟩ : ∃ K, allTo m (kOld s) (fun _ => q) (covered f k) = K := ⟨_, rfl⟩
  obtain ⟨B, hB⟩ : ∃ B, allTo m (bOld s) (fun _ => ⟨#[]⟩) (covered f k) = B := ⟨_, rfl⟩
  have hKb : ∀ i, i < m → 0 ≤ K.getD i 0 ∧ K.getD i 0 ≤ 255 := fun i hi => by
    rw [← hK, allTo_getD hi]
    have := kOld_bd s i
    have h2 : 0 ≤ q ∧ q ≤ 255 := by rw [hqd]; split <;> omega
    split <;> omega
  have hBb : ∀ i, i < m → (B.getD i ⟨#[]⟩).size ≤ 8 := fun i hi => by
    rw [← hB, allTo_getD hi]
    split
    · exact Nat.zero_le _
    · exact bOld_size i
  have hKl : K.length = m := by rw [← hK, allTo_length]
  have hbe : (Ov.backing s).toList.isEmpty = decide ((Ov.backing s).size = 0) := by
    rw [ByteArray.toList_eq, Bool.eq_iff_iff, List.isEmpty_iff_length_eq_zero, decide_eq_true_iff]; simp
  obtain ⟨v, g1, g2, g3⟩ := id h
  obtain ⟨g, c, rfl⟩ := ownsRow_form g2 (by omega)
  have HR := hide h
  have HI := hide hi
  have HQ := hide hq
  have HC := hide hc
  have HS := hide hs
  have HIM := hide him
  have HME := hide hme
  have HK := hide hK
  have HB := hide hB
  have HKB := hide hKb
  have HBB := hide hBb
  have HG1 := hide g1
  have HG2 := hide g2
  have hl8 := hi.len
  have hwl : (Ov.withF l x (encode (Ov.backing s) K B)).length ≤ 9 := by rw [Ov.withF_length, if_pos hp]; omega
  have hes : (encode (Ov.backing s) K B).size ≤ 1000 := by
    have := encode_size (Ov.backing s) K B (fun j hj => hBb j (by omega))
    omega
  have HWS := hide (Ov.withF_size (x := x) (b := encode (Ov.backing s) K B) hi.size hes)
  have hroom := hi.room
  obtain ⟨bk, hbk⟩ : ∃ bk, Ov.backing s = bk := ⟨_, rfl⟩
  obtain ⟨lo, hlo⟩ : ∃ lo, Ov.lost s = lo := ⟨_, rfl⟩
  rw [hbk] at hbk8 hbe hqd
  have HBK := hide hbk
  have HLO := hide hlo
  rw [hK, hB, hbk] at HF
  rw [hbk] at hwl HWS
  have HQD := hide hqd
  have HBE := hide hbe
  clear h hi hq hc hs him hme hK hB hKb hBb g1 g2 g3 hp hso hes hbk hlo hKl hqd hbe
  go_enter Tryz.func114, Tryz.ntmps114
  go_wp2_with (first
    | (go_at_call 159; refine (rimage_calls l x s b room _ (unhide HI) ((unhide HR).kept (unhide HBS)) (by exact (unhide HC).here) (by exact unhide HS) (unhide HIM)).mono ?_; rintro e w2 ⟨ea, ec, ba, bc, he, hb2, h2, h3⟩; rw [unhide HME] at he h2 h3; rw [unhide HBK, unhide HLO] at he; subst he; have HB2 := hide hb2; have H2 := hide h2; have H3 := hide h3; clear hb2 h2 h3)
    | (go_at_call 157; refine (rranged_calls l x f k b room _ (unhide HI) (unhide HR) (by omega) (by omega) (by omega) (by omega)).mono ?_; rintro e w1 ⟨he, hbs⟩; rw [unhide HQ] at he; subst he; have HBS := hide hbs; clear hbs))
  obtain ⟨ge, ec', hve⟩ := ownsRow_form (unhide H2) (by omega)
  obtain ⟨rfl, rfl⟩ : ea = some ⟨ge, 0, none⟩ ∧ ec = ec' := (by simpa using hve)
  clear hve
  obtain ⟨gb, bc', hvb⟩ := ownsRow_form (unhide H3) (by omega)
  obtain ⟨rfl, rfl⟩ : ba = some ⟨gb, 0, none⟩ ∧ bc = bc' := (by simpa using hvb)
  clear hvb
  have him0 : RIm w1 bk lo m (partTo m (kOld s) (fun _ => q) (covered f k) 0) (partTo m (bOld s) (fun _ => ⟨#[]⟩) (covered f k) 0) w2.heap.size (some ⟨ge, 0, none⟩) (some ⟨gb, 0, none⟩) ec bc (w2.alloc (.cells #[.string bk, .slice (some ⟨ge, 0, none⟩) m ec, .slice (some ⟨gb, 0, none⟩) m bc, .int .i64 lo] 240)) := by
    rw [partTo_zero, partTo_zero]
    exact RIm.late (unhide HB2) (by rw [← kinds_old]; exact unhide H2) (by rw [← blocks_old]; exact unhide H3)
  have HIM0 := hide him0
  clear him0 H2 H3
  go_loopw [11, 12] (fun t i wr => ∃ n : Nat, n ≤ m ∧ i = .int .i64 (n : Nat) ∧ t = .bool (someTo f k n) ∧ RIm w1 bk lo m (partTo m (kOld s) (fun _ => q) (covered f k) n) (partTo m (bOld s) (fun _ => ⟨#[]⟩) (covered f k) n) w2.heap.size (some ⟨ge, 0, none⟩) (some ⟨gb, 0, none⟩) ec bc wr) (fun _ i _ => m - (intOf i).toNat)
  case atStart => exact ⟨0, Nat.zero_le _, rfl, rfl, unhide HIM0⟩
  case round =>
    obtain ⟨n, hn2, rfl, rfl, hI⟩ := hrel
    by_cases hnm : n < m
    · have x1 := hI.read.2.1
      by_cases hcv : covered f k n
      · have hI1 := hI.setB n ⟨#[]⟩
        have hI2 := hI1.setK n 0
        have hI3 := hI2.setK n 255
        rw [List.set_set] at hI3
        have x2 := hI.read.2.2.1
        have fz1 := hI.bs.frozenAt n
        have ce1 := texts_cell hI.bs hnm
        have y1 := hI1.read.2.1
        have fz2 := hI1.ks.frozenAt n
        have ce2 := ints_cell hI1.ks hnm
        have v0 := hI2.read.1
        have v1 := hI2.read.2.1
        have fz4 := hI2.ks.frozenAt n
        have ce4 := ints_cell hI2.ks hnm
        have HSK : Hid (partTo m (kOld s) (fun _ => q) (covered f k) (n + 1) = (partTo m (kOld s) (fun _ => q) (covered f k) n).set n q) := partTo_set hcv
        have HSB : Hid (partTo m (bOld s) (fun _ => (⟨#[]⟩ : ByteArray)) (covered f k) (n + 1) = (partTo m (bOld s) (fun _ => ⟨#[]⟩) (covered f k) n).set n ⟨#[]⟩) := partTo_set hcv
        have HST := hide (someTo_yes hcv)
        have b1 : decide ((f : Int) ≤ 8 * (n : Int)) = true := decide_eq_true (by unfold covered at hcv; omega)
        have b2 : decide (8 * (n : Int) + 8 ≤ (f : Int) + (k : Int)) = true := decide_eq_true (by unfold covered at hcv; omega)
        have HI2 := hide hI2
        have HI3 := hide hI3
        clear hI hI1 hI2 hI3
        unfold covered at hcv
        by_cases hz : bk.size = 0
        · have hbe : bk.toList.isEmpty = true := by rw [unhide HBE, decide_eq_true hz]
          have H0 : Hid (q = 0) := by rw [unhide HQD, if_pos hz]; exact rfl
          clear hz
          go_wp2_with fail
          go_roundw
          case rel => exact ⟨n + 1, by omega, by go_num, by rw [unhide HST], by rw [unhide HSK, unhide HSB, unhide H0]; rw [unhide H0] at HI2; exact unhide HI2⟩
          case measure => simp [intOf]; omega
        · have hbe : bk.toList.isEmpty = false := by rw [unhide HBE, decide_eq_false hz]
          have H0 : Hid (q = 255) := by rw [unhide HQD, if_neg hz]; exact rfl
          clear hz
          go_wp2_with fail
          go_roundw
          case rel => exact ⟨n + 1, by omega, by go_num, by rw [unhide HST], by rw [unhide HSK, unhide HSB, unhide H0]; rw [unhide H0] at HI3; exact unhide HI3⟩
          case measure => simp [intOf]; omega
      · have HSK : Hid (partTo m (kOld s) (fun _ => q) (covered f k) (n + 1) = partTo m (kOld s) (fun _ => q) (covered f k) n) := partTo_skip hcv
        have HSB : Hid (partTo m (bOld s) (fun _ => (⟨#[]⟩ : ByteArray)) (covered f k) (n + 1) = partTo m (bOld s) (fun _ => ⟨#[]⟩) (covered f k) n) := partTo_skip hcv
        have HST := hide (someTo_no hcv)
        have HI2 := hide hI
        clear hI
        unfold covered at hcv
        by_cases hlo : f ≤ 8 * n
        · have b1 : decide ((f : Int) ≤ 8 * (n : Int)) = true := decide_eq_true (by omega)
          have b2 : decide (8 * (n : Int) + 8 ≤ (f : Int) + (k : Int)) = false := decide_eq_false (by omega)
          clear hcv
          go_wp2_with fail
          go_roundw
          case rel => exact ⟨n + 1, by omega, by go_num, by rw [unhide HST], by rw [unhide HSK, unhide HSB]; exact unhide HI2⟩
          case measure => simp [intOf]; omega
        · have b1 : decide ((f : Int) ≤ 8 * (n : Int)) = false := decide_eq_false (by omega)
          clear hcv
          go_wp2_with fail
          go_roundw
          case rel => exact ⟨n + 1, by omega, by go_num, by rw [unhide HST], by rw [unhide HSK, unhide HSB]; exact unhide HI2⟩
          case measure => simp [intOf]; omega
    · obtain rfl : n = m := by omega
      have hI2 : RIm w1 bk lo n K B w2.heap.size (some ⟨ge, 0, none⟩) (some ⟨gb, 0, none⟩) ec bc wr := by
        rw [partTo_full, partTo_full] at hI
        rw [← unhide HK, ← unhide HB]
        exact hI
      clear hI
      obtain ⟨x0, x1, x2, x3⟩ := hI2.read
      have hbb := (unhide HBS).trans (hI2.below.mono (unhide HBS).size)
      have hbl : b < wr.heap.size := Nat.lt_of_lt_of_le (blk_lt (unhide HG1)) hbb.size
      have cb : wr.cell? ⟨b, 1, none⟩ = some (.slice (some ⟨g, 0, none⟩) l.length c) := blk_cell ((hbb.block b (blk_lt (unhide HG1))).trans (unhide HG1)) rfl
      have HI2 := hide hI2
      have HBB2 := hide hbb
      clear hI2 hbb
      by_cases hst : someTo f k n = false
      · have HF1 := hide (unhide HF0 hst)
        rw [hst]
        clear hst
        go_wp2_with fail
        go_ret
        exact ⟨by rw [unhide HF1]; rfl, by rw [unhide HF1]; exact (unhide HR).same (unhide HBB2)⟩
      · have hst2 : someTo f k n = true := by simpa using hst
        have HF1 := hide (unhide HF hst2)
        rw [hst2]
        clear hst hst2
        go_wp2_with fail
        go_region_with (first | (go_at_call 163; refine (rEncode_calls bk K B (some ⟨ge, 0, none⟩) (some ⟨gb, 0, none⟩) ec bc lo n w1.heap.size _ hbk8 hm30 (by exact (unhide HI2).ks) (by exact (unhide HI2).bs) (unhide HKB) (unhide HBB)).mono ?_; rintro e w4 ⟨rfl, hb4a⟩; have hb4 : Below wr.heap.size wr w4 := ((Below.refl wr.heap.size wr).drew).trans hb4a; have cb4 : w4.cell? ⟨b, 1, none⟩ = some (.slice (some ⟨g, 0, none⟩) l.length c) := (hb4.cell (p := ⟨b, 1, none⟩) hbl).trans cb) | (go_at_call 162; refine (rwith_calls l _ x (encode bk K B) 0 _ hl8 (by exact owns_all (owns_all (unhide HG2) (unhide HBB2)) hb4)).mono ?_; rintro e w5 ⟨v5, rfl, hb5, ho5⟩) | (go_at_call 161; refine (rput_calls (Ov.withF l x (encode bk K B)) v5 (.slice (some ⟨g, 0, none⟩) l.length c) b room w4.heap.size _ hwl hroom (by exact make_blk (unhide HG1) (unhide HBB2) hb4 hb5) ho5 (unhide HWS)).mono ?_; intro e w6 hp6; obtain ⟨rfl, hleft⟩ := (unhide HR).put (make_below (unhide HBB2) hb4 hb5) (make_own ho5 (unhide HBB2) hb4) hp6))
        all_goals (go_wp2_with fail; go_ret; exact ⟨by rw [unhide HF1]; rfl, by rw [unhide HF1]; exact hleft⟩)

set_option maxRecDepth 100000 in
set_option maxHeartbeats 1000000 in
theorem rDiscard_calls (l : Ov.Files) (x : ByteArray) (f k : Int) (b room : Nat) (w : World) (hi : Ov.LI room l) (h : RefRep w b room l) (hf1 : -9223372036854775808 ≤ f) (hf2 : f ≤ 9223372036854775807) (hk1 : -9223372036854775808 ≤ k) (hk2 : k ≤ 9223372036854775807) :
    Calls Tryz.prog 114 #[.pointer (some ⟨b, 0, none⟩), .string x, .int .i64 f, .int .i64 k] w fun e w' => e = .returned (.int .i64 (discardF room l x f k).1) ∧ RefLeft w b room (discardF room l x f k).2 w' := by
  obtain ⟨q, hq⟩ : ∃ q, rangedF l x f k = q := ⟨_, rfl⟩
  by_cases hq0 : q = 0
  case neg =>
    have hqn : (q != 0) = true := by rw [bne_iff_ne]; exact hq0
    have HF : Hid (discardF room l x f k = (q, l)) := by unfold discardF; rw [hq, if_pos hq0]; exact rfl
    have HR := hide h
    have HI := hide hi
    have HQ := hide hq
    clear hq h hi
    go_enter Tryz.func114, Tryz.ntmps114
    go_wp2_with (go_at_call 157; refine (rranged_calls l x f k b room _ (unhide HI) (unhide HR) hf1 hf2 hk1 hk2).mono ?_; rintro e w1 ⟨he, hbs⟩; rw [unhide HQ] at he; subst he)
    go_ret
    exact ⟨by rw [unhide HF]; rfl, by rw [unhide HF]; exact (unhide HR).same hbs⟩
  case pos =>
    subst hq0
    obtain ⟨_, _, _, hf0, hk0, _⟩ := ranged_ok hq
    obtain ⟨f, rfl⟩ := Int.eq_ofNat_of_zero_le hf0
    obtain ⟨k, rfl⟩ := Int.eq_ofNat_of_zero_le hk0
    exact rDiscard_go l x f k b room w hi h hq

end Go.Proofs.YtomiepknmmpflaaGreatDoor

