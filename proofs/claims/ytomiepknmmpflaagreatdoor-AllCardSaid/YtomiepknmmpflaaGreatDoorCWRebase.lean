/- The reference's View of no image: noughts. -/
import Derived.Test.YtomiepknmmpflaaGreatDoorCWOpenAt
import Derived.Test.YtomiepknmmpflaaGreatDoorCWDiscard
namespace Go.Proofs.YtomiepknmmpflaaGreatDoor
open Go.RowKit Go.Joins

theorem isE_of {x : ByteArray} (h : x.size = 0) : x.toList.isEmpty = true := by rw [ByteArray.toList_eq, List.isEmpty_iff_length_eq_zero]; simpa using h
theorem nonempty_of {x : ByteArray} (h : x.size ≠ 0) : x.toList.isEmpty = false := by
  rw [ByteArray.toList_eq, Bool.eq_false_iff]
  intro e
  rw [List.isEmpty_iff_length_eq_zero] at e
  exact h (by simpa using e)
set_option maxRecDepth 100000 in
set_option maxHeartbeats 1000000 in
theorem rAt_none (v : Value) (x : ByteArray) (i : Nat) (w : World) (hx : x.size = 0) :
    Calls Tryz.prog 167 #[v, .string x, .int .i64 (i : Nat)] w fun e w' => e = .returned (.int .u8 0) ∧ w = w' := by
  have hye := isE_of hx
  clear hx
  go_enter Tryz.func167, Tryz.ntmps167
  go_wp2_with fail
  go_loopg [1] 0 (fun gh v wr => v = .string x ∧ w = wr)
  case atStart => exact ⟨rfl, rfl⟩
  case round =>
    obtain ⟨rfl, rfl⟩ := hrel
    go_wp2_with fail
    go_ret
    exact ⟨rfl, rfl⟩

set_option maxRecDepth 100000 in
set_option maxHeartbeats 2000000 in
theorem rView_none (l : Ov.Files) (v : Value) (x : ByteArray) (f k : Nat) (w : World) (hx : x.size = 0) (hf : f + k ≤ 240) :
    Calls Tryz.prog 158 #[v, .string x, .int .i64 (f : Nat), .int .i64 (k : Nat)] w fun e w' => e = .returned (.string (viewF l [] f k)) ∧ Below w.heap.size w w' := by
  obtain ⟨i0, hi, hz0, hz1, hz2⟩ := info_parts (show (Tryz.prog.info? 5).map (fun i => (i.zero, i.size, i.bytes)) = some (some (.int .u8 0), 1, 1) by kernel_rfl)
  have HX := hide hx
  clear hx
  go_enter Tryz.func158, Tryz.ntmps158
  go_wp2_with fail
  go_loopw [9, 10] (fun b i wr => ∃ (j : Nat) (a : Option Addr) (c : Nat), j ≤ k ∧ i = .int .i64 ((f + j : Nat) : Int) ∧ b = .slice a j c ∧ wr.ownsRow w.heap.size 5 1 (.slice a j c) j ((viewTo l [] f j).map (Value.int .u8)) ∧ Below w.heap.size w wr) (fun _ i _ => f + k - (intOf i).toNat)
  case atStart => exact ⟨0, none, 0, Nat.zero_le _, rfl, rfl, World.ownsRow_nil _ _ _ _, Below.refl _ _⟩
  case round =>
    obtain ⟨j, a, cc, hj, rfl, rfl, how, hbel⟩ := hrel
    have HW := hide how
    have HBL := hide hbel
    have hwz := hbel.size
    clear how hbel
    by_cases hlt : j < k
    · go_wp2_with (first
        | (at_builtin; refine wpList_append_own _ rfl (.tmp 24) (.tmp 26) 103 rfl w.heap.size 5 i0 (.int .u8 0) 1 1 Tryz.underlying103 hi hz0 hz1 hz2 rfl (by decide) (.slice a j cc) j _ rfl ((unhide HW).alloc _) ⟨wr.heap.size, 0, none⟩ 1 1 [.int .u8 0] rfl rfl (one_new rfl) (by intro u hu; simp at hu; subst hu; rfl) (by unfold maxLen; omega) (by omega) (by simp; omega) ?_; intro v2 w2 ho2 hg2 _; obtain ⟨g2, c2, rfl⟩ := ownsRow_form ho2 (by omega))
        | (go_at_call 167; refine (rAt_none _ x (f + j) _ (unhide HX)).mono ?_; rintro e w1 ⟨rfl, rfl⟩))
      go_roundw
      case rel =>
        refine ⟨j + 1, _, c2, by omega, by go_num, rfl, ?_, ?_⟩
        · rw [viewTo, List.map_append]; exact ho2
        · exact ((unhide HBL).alloc hwz _).grown hg2 (by simp; omega) (fun q hq => ((unhide HW).lt q hq).1)
      case measure => simp [intOf]; omega
    · obtain rfl : j = k := by omega
      have hcv := conv_own (unhide HW)
      go_wp2_with fail
      go_ret
      exact ⟨rfl, unhide HBL⟩
theorem rViewO_calls (l : Ov.Files) (v : Value) (x : ByteArray) (ns : List ByteArray) (f k base : Nat) (w : World) (hl : l.length ≤ 8) (hsz : ∀ j, j < l.length → (Ov.fileAt l j).size ≤ 1000) (ho : OwnsFiles w base v l) (hc : ns = [] ∧ x.size = 0 ∨ Ov.Chn l ns x) (hnm : ∀ y, Ov.place l y < l.length → 1 ≤ y.size) (hf : f + k ≤ 240) :
    Calls Tryz.prog 158 #[v, .string x, .int .i64 (f : Nat), .int .i64 (k : Nat)] w fun e w' => e = .returned (.string (viewF l ns f k)) ∧ Below w.heap.size w w' := by
  rcases hc with ⟨rfl, hx⟩ | hc
  · exact rView_none l v x f k w hx hf
  · exact rView_calls l v x ns f k base w hl hsz ho hc hnm hf

end Go.Proofs.YtomiepknmmpflaaGreatDoor

namespace Go.Proofs.YtomiepknmmpflaaGreatDoor
open Go.RowKit Go.Joins

def overN (l : Ov.Files) (bk : ByteArray) : List ByteArray := if bk.size = 0 then [] else (Ov.downOf l bk).1
abbrev rebC (l : Ov.Files) (s : ByteArray) (nx nb : List ByteArray) (i : Nat) : Prop := kOld s i = 0 ∧ viewF l nx (8 * i) 8 ≠ viewF l nb (8 * i) 8
abbrev rebD (l : Ov.Files) (s : ByteArray) (nx nb : List ByteArray) (i : Nat) : Prop := rebC l s nx nb i ∧ viewF l nx (8 * i) 8 ≠ noughtsF 8
def rebK (l : Ov.Files) (nx : List ByteArray) (i : Nat) : Int := if viewF l nx (8 * i) 8 = noughtsF 8 then 255 else 1
def rebaseF (room : Nat) (l : Ov.Files) (x bk : ByteArray) : Int × Ov.Files :=
  if Ov.soundF l x ≠ 0 then (Ov.soundF l x, l)
  else if bk.size ≠ 0 ∧ Ov.soundF l bk ≠ 0 then (Ov.soundF l bk, l)
  else if Ov.metB (overN l bk) x = true then (8, l)
  else Ov.putF room l (Ov.withF l x (encode bk (allTo (Ov.many (fileOf l x)) (kOld (fileOf l x)) (rebK l (Ov.downOf l x).1) (rebC l (fileOf l x) (Ov.downOf l x).1 (overN l bk)))
    (allTo (Ov.many (fileOf l x)) (bOld (fileOf l x)) (fun i => viewF l (Ov.downOf l x).1 (8 * i) 8) (rebD l (fileOf l x) (Ov.downOf l x).1 (overN l bk)))))
theorem viewF_size (l : Ov.Files) (ns : List ByteArray) (f k : Nat) : (viewF l ns f k).size = k := by unfold viewF; rw [strOfNums_size, viewTo_length]
theorem RIm.setBk {w W : World} {bk : ByteArray} {lo : Int} {m : Nat} {ks : List Int} {bs : List ByteArray} {X : Nat} {ea ba : Option Addr} {ec bc : Nat} (h : RIm w bk lo m ks bs X ea ba ec bc W) (u : ByteArray) : RIm w u lo m ks bs X ea ba ec bc (W.setCell ⟨X, 0, none⟩ (.string u)) :=
  ⟨h.lt, by have := blk_set_same (i := 0) h.x (.string u); simpa using this, h.below.setCell (p := ⟨X, 0, none⟩) h.lt _, owns_set h.ks (a := ⟨X, 0, none⟩) (row_ne h.x h.ks (by decide)) _, owns_set h.bs (a := ⟨X, 0, none⟩) (row_ne h.x h.bs (by decide)) _⟩

end Go.Proofs.YtomiepknmmpflaaGreatDoor

namespace Go.Proofs.YtomiepknmmpflaaGreatDoor
open Go.RowKit Go.Joins

theorem bytes_same {a b : ByteArray} (h : a.data.toList = b.data.toList) : a = b := Go.WideShapes.bytes_inj h

set_option maxRecDepth 100000 in
set_option maxHeartbeats 8000000 in
theorem rRebase_none (l : Ov.Files) (x bk : ByteArray) (b room : Nat) (w : World) (hi : Ov.LI room l) (h : RefRep w b room l) (hso : Ov.soundF l x = 0) (hbk0 : bk.size = 0) :
    Calls Tryz.prog 116 #[.pointer (some ⟨b, 0, none⟩), .string x, .string bk] w fun e w' => e = .returned (.int .i64 (rebaseF room l x bk).1) ∧ RefLeft w b room (rebaseF room l x bk).2 w' := by
  have hbe := empty_of hbk0
  have hbs0 : ¬ (bk.size ≠ 0 ∧ Ov.soundF l bk ≠ 0) := fun h => h.1 hbk0
  have hnm : Ov.metB (overN l bk) x = false := by unfold overN; rw [if_pos hbk0]; rfl
  have hchb : ∀ nb, overN l bk = nb → (nb = [] ∧ bk.size = 0 ∨ Ov.Chn l nb bk) := fun nb e => Or.inl ⟨by rw [← e]; unfold overN; rw [if_pos hbk0], hbk0⟩
  have hbk8 : bk.size ≤ 8 := by omega
  clear hbk0
  have hx0 : Ov.soundF l x = 0 := hso
  obtain ⟨hp, hc⟩ := sound_here hx0
  have hm := hc.many_le
  have him := hc.image
  obtain ⟨nx, hnx⟩ : ∃ nx, (Ov.downOf l x).1 = nx := ⟨_, rfl⟩
  obtain ⟨s, hs⟩ : ∃ s, fileOf l x = s := ⟨_, rfl⟩
  rw [show Ov.fileAt l (Ov.place l x) = s from hs] at him
  rw [hs] at hm
  rw [hnx] at hc
  obtain ⟨m, hme⟩ : ∃ m, Ov.many s = m := ⟨_, rfl⟩
  rw [hme] at hm
  obtain ⟨hm1, hm30⟩ := hm
  obtain ⟨nb, hnb⟩ : ∃ nb, overN l bk = nb := ⟨_, rfl⟩
  have HF : Hid (rebaseF room l x bk = Ov.putF room l (Ov.withF l x (encode bk (allTo m (kOld s) (rebK l nx) (rebC l s nx nb)) (allTo m (bOld s) (fun i => viewF l nx (8 * i) 8) (rebD l s nx nb))))) := by
    unfold rebaseF
    rw [if_neg (by omega), if_neg hbs0, if_neg (by rw [hnm]; exact Bool.false_ne_true), hs, hme, hnx, hnb]
    exact rfl
  obtain ⟨bN, hbN⟩ : ∃ bN : Nat → ByteArray, bN = fun i => viewF l nx (8 * i) 8 := ⟨_, rfl⟩
  obtain ⟨kN, hkN⟩ : ∃ kN : Nat → Int, kN = rebK l nx := ⟨_, rfl⟩
  rw [← hbN, ← hkN] at HF
  obtain ⟨K, hK⟩ : ∃ K, allTo m (kOld s) kN (rebC l s nx nb) = K := ⟨_, rfl⟩
  obtain ⟨B, hB⟩ : ∃ B, allTo m (bOld s) bN (rebD l s nx nb) = B := ⟨_, rfl⟩
  have hKb : ∀ i, i < m → 0 ≤ K.getD i 0 ∧ K.getD i 0 ≤ 255 := fun i hi => by
    rw [← hK, allTo_getD hi, hkN]
    have := kOld_bd s i
    split
    · unfold rebK; split <;> omega
    · omega
  have hBb : ∀ i, i < m → (B.getD i ⟨#[]⟩).size ≤ 8 := fun i hi => by
    rw [← hB, allTo_getD hi, hbN]
    split
    · dsimp only; rw [viewF_size]; omega
    · exact bOld_size i
  have hKl : K.length = m := by rw [← hK, allTo_length]
  have HN255 : Hid (∀ i, bN i = noughtsF 8 → kN i = 255) := fun i h => by rw [hkN]; unfold rebK; rw [hbN] at h; exact if_pos h
  have HN1 : Hid (∀ i, bN i ≠ noughtsF 8 → kN i = 1) := fun i h => by rw [hkN]; unfold rebK; rw [hbN] at h; exact if_neg h
  have HCi : Hid (∀ i, rebC l s nx nb i ↔ (kOld s i = 0 ∧ bN i ≠ viewF l nb (8 * i) 8)) := fun i => by rw [hbN]
  have HDi : Hid (∀ i, rebD l s nx nb i ↔ (rebC l s nx nb i ∧ bN i ≠ noughtsF 8)) := fun i => by rw [hbN]
  have HBN : Hid (∀ i, viewF l nx (8 * i) 8 = bN i) := fun i => by rw [hbN]
  obtain ⟨C, hC⟩ : ∃ C, C = rebC l s nx nb := ⟨_, rfl⟩
  obtain ⟨v, g1, g2, g3⟩ := id h
  obtain ⟨g, c, rfl⟩ := ownsRow_form g2 (by omega)
  have HR := hide h
  have HI := hide hi
  have HQ := hide hx0
  have HC := hide hc
  have HS := hide hs
  have HIM := hide him
  have HME := hide hme
  have HK := hide hK
  have HB := hide hB
  have HKB := hide hKb
  have HBB := hide hBb
  have HG1 := hide g1
  have HG2 := hide g2
  have HNB : Hid (nb = [] ∧ bk.size = 0 ∨ Ov.Chn l nb bk) := hchb nb hnb
  have hl8 := hi.len
  have hwl : (Ov.withF l x (encode bk K B)).length ≤ 9 := by rw [Ov.withF_length, if_pos hp]; omega
  have hes : (encode bk K B).size ≤ 1000 := by
    have := encode_size bk K B (fun j hj => hBb j (by omega))
    omega
  have HWS := hide (Ov.withF_size (x := x) (b := encode bk K B) hi.size hes)
  have hroom := hi.room
  obtain ⟨bk0, hbk0⟩ : ∃ bk0, Ov.backing s = bk0 := ⟨_, rfl⟩
  obtain ⟨lo, hlo⟩ : ∃ lo, Ov.lost s = lo := ⟨_, rfl⟩
  have HBK := hide hbk0
  have HLO := hide hlo
  rw [hK, hB] at HF
  have hbl0 := blk_lt g1
  clear hC C
  clear h hi hc hs him hme hK hB hKb hBb g1 g2 g3 hp hso hnx hes hbk0 hlo hKl hx0 hnb hbN hkN hchb hbs0 hnm
  go_enter Tryz.func116, Tryz.ntmps116
  go_wp2_with (first
    | (go_at_call 159; refine (rimage_calls l x s b room _ (unhide HI) ((unhide HR).kept (unhide HBS)) (by exact (unhide HC).here) (by exact unhide HS) (unhide HIM)).mono ?_; rintro e w2 ⟨ea, ec, ba, bc, he, hb2, h2, h3⟩; rw [unhide HME] at he h2 h3; rw [unhide HBK, unhide HLO] at he; subst he; have HB2 := hide hb2; have H2 := hide h2; have H3 := hide h3; clear hb2 h2 h3)
    | (go_at_call 164; refine (rsound_calls l x b room _ (unhide HI) (unhide HR)).mono ?_; rintro e w1 ⟨he, hbs⟩; rw [unhide HQ] at he; subst he; have HBS := hide hbs; clear hbs))
  obtain ⟨ge, ec', hve⟩ := ownsRow_form (unhide H2) (by omega)
  obtain ⟨rfl, rfl⟩ : ea = some ⟨ge, 0, none⟩ ∧ ec = ec' := (by simpa using hve)
  clear hve
  obtain ⟨gb, bc', hvb⟩ := ownsRow_form (unhide H3) (by omega)
  obtain ⟨rfl, rfl⟩ : ba = some ⟨gb, 0, none⟩ ∧ bc = bc' := (by simpa using hvb)
  clear hvb
  have him0 : RIm w1 bk0 lo m (partTo m (kOld s) kN (rebC l s nx nb) 0) (partTo m (bOld s) bN (rebD l s nx nb) 0) w2.heap.size (some ⟨ge, 0, none⟩) (some ⟨gb, 0, none⟩) ec bc (w2.alloc (.cells #[.string bk0, .slice (some ⟨ge, 0, none⟩) m ec, .slice (some ⟨gb, 0, none⟩) m bc, .int .i64 lo] 240)) := by
    rw [partTo_zero, partTo_zero]
    exact RIm.late (unhide HB2) (by rw [← kinds_old]; exact unhide H2) (by rw [← blocks_old]; exact unhide H3)
  have HIM0 := hide him0
  clear him0 H2 H3
  go_loopw [13] (fun i wr => ∃ n : Nat, n ≤ m ∧ i = .int .i64 (n : Nat) ∧ RIm w1 bk0 lo m (partTo m (kOld s) kN (rebC l s nx nb) n) (partTo m (bOld s) bN (rebD l s nx nb) n) w2.heap.size (some ⟨ge, 0, none⟩) (some ⟨gb, 0, none⟩) ec bc wr) (fun i _ => m - (intOf i).toNat)
  case atStart => exact ⟨0, Nat.zero_le _, rfl, unhide HIM0⟩
  case round =>
    obtain ⟨n, hn2, rfl, hI⟩ := hrel
    have hbw := (unhide HBS).trans (hI.below.mono (unhide HBS).size)
    have cb : wr.cell? ⟨b, 1, none⟩ = some (.slice (some ⟨g, 0, none⟩) l.length c) := blk_cell ((hbw.block b hbl0).trans (unhide HG1)) rfl
    have hblr : b < wr.heap.size := Nat.lt_of_lt_of_le hbl0 hbw.size
    have HBW := hide hbw
    by_cases hnm : n < m
    · have x1 := hI.read.2.1
      have hkn : (partTo m (kOld s) kN (rebC l s nx nb) n).getD n 0 = kOld s n := by rw [partTo_getD hnm, if_neg (by omega)]
      have HI1 := hide hI
      obtain ⟨T, hT⟩ : ∃ T, bN n = T := ⟨_, rfl⟩
      have HT := hide hT
      obtain ⟨kn, hkne⟩ : ∃ kn, kOld s n = kn := ⟨_, rfl⟩
      have HKN := hide hkne
      have HKP := hide hkn
      have h8n : 8 * n + 8 ≤ 240 := by omega
      clear hI hbw hT hkn hkne
      by_cases hk0 : kn = 0
      · subst hk0
        obtain ⟨U, hU⟩ : ∃ U, viewF l nb (8 * n) 8 = U := ⟨_, rfl⟩
        have HU := hide hU
        clear hU
        by_cases hTU : T = U
        · subst hTU
          have HSC : Hid (¬ rebC l s nx nb n) := fun h => ((unhide HCi n).1 h).2 ((unhide HT).trans (unhide HU).symm)
          have tt : (T.toList == T.toList) = true := beq_self_eq_true _
          go_wp2_with (first
            | (go_at_call_of 158 bk; refine (rViewO_calls l _ bk nb (8 * n) 8 0 _ hl8 (unhide HI).size (owns_all (owns_all (unhide HG2) (unhide HBW)) (unhide HB3)) (unhide HNB) (LI_names (unhide HI)) h8n).mono ?_; rintro e w4 ⟨he, hb4⟩; rw [unhide HU] at he; subst he; have HI3 := hide ((unhide HI2).kept hb4); clear hb4)
            | (go_at_call_of 158 x; refine (rView_calls l _ x nx (8 * n) 8 0 _ hl8 (unhide HI).size (owns_all (unhide HG2) (unhide HBW)) (unhide HC) (LI_names (unhide HI)) h8n).mono ?_; rintro e w3 ⟨he, hb3⟩; rw [unhide HBN, unhide HT] at he; subst he; have HB3 := hide hb3; have hI2 := (unhide HI1).kept hb3; have y1 := hI2.read.2.1; have ce := ints_cell hI2.ks hnm; rw [unhide HKP, unhide HKN] at ce; have cb3 : w3.cell? ⟨b, 1, none⟩ = some (.slice (some ⟨g, 0, none⟩) l.length c) := (hb3.cell (p := ⟨b, 1, none⟩) hblr).trans cb; have HI2 := hide hI2; clear hI2 hb3))
          go_roundw
          case rel => exact ⟨n + 1, by omega, by go_num, by rw [partTo_skip (unhide HSC), partTo_skip (fun h => unhide HSC h.1)]; exact unhide HI3⟩
          case measure => simp [intOf]; omega
        · have tu : (T.toList == U.toList) = false := by rw [beq_eq_false_iff_ne]; exact fun e => hTU (by rw [ByteArray.toList_eq, ByteArray.toList_eq] at e; exact bytes_same e)
          have HSC : Hid (rebC l s nx nb n) := (unhide HCi n).2 ⟨unhide HKN, by rw [unhide HT, unhide HU]; exact hTU⟩
          by_cases hz : T = noughtsF 8
          · have tz : (T.toList == [0, 0, 0, 0, 0, 0, 0, 0]) = true := by rw [hz, ByteArray.toList_eq, show (noughtsF 8).data.toList = [0, 0, 0, 0, 0, 0, 0, 0] from rfl]; exact beq_self_eq_true _
            have HSD : Hid (¬ rebD l s nx nb n) := fun h => ((unhide HDi n).1 h).2 (by rw [unhide HT]; exact hz)
            have HKV : Hid (kN n = 255) := unhide HN255 n (by rw [unhide HT]; exact hz)
            clear hz hTU
            go_wp2_with (first
              | (go_at_call_of 158 bk; refine (rViewO_calls l _ bk nb (8 * n) 8 0 _ hl8 (unhide HI).size (owns_all (owns_all (unhide HG2) (unhide HBW)) (unhide HB3)) (unhide HNB) (LI_names (unhide HI)) h8n).mono ?_; rintro e w4 ⟨he, hb4⟩; rw [unhide HU] at he; subst he; have hI3 := (unhide HI2).kept hb4; have z1 := hI3.read.2.1; have fz1 := hI3.ks.frozenAt n; have ce3 := ints_cell hI3.ks hnm; have HI4 := hide (hI3.setK n 255); clear hb4 hI3)
              | (go_at_call_of 158 x; refine (rView_calls l _ x nx (8 * n) 8 0 _ hl8 (unhide HI).size (owns_all (unhide HG2) (unhide HBW)) (unhide HC) (LI_names (unhide HI)) h8n).mono ?_; rintro e w3 ⟨he, hb3⟩; rw [unhide HBN, unhide HT] at he; subst he; have HB3 := hide hb3; have hI2 := (unhide HI1).kept hb3; have y1 := hI2.read.2.1; have ce := ints_cell hI2.ks hnm; rw [unhide HKP, unhide HKN] at ce; have cb3 : w3.cell? ⟨b, 1, none⟩ = some (.slice (some ⟨g, 0, none⟩) l.length c) := (hb3.cell (p := ⟨b, 1, none⟩) hblr).trans cb; have HI2 := hide hI2; clear hI2 hb3))
            go_roundw
            case rel => exact ⟨n + 1, by omega, by go_num, by rw [partTo_set (unhide HSC), partTo_skip (unhide HSD), unhide HKV]; exact unhide HI4⟩
            case measure => simp [intOf]; omega
          · have tz : (T.toList == [0, 0, 0, 0, 0, 0, 0, 0]) = false := by rw [beq_eq_false_iff_ne]; exact fun e => hz (by rw [ByteArray.toList_eq] at e; exact bytes_same e)
            have HSD : Hid (rebD l s nx nb n) := (unhide HDi n).2 ⟨unhide HSC, by rw [unhide HT]; exact hz⟩
            have HKV : Hid (kN n = 1) := unhide HN1 n (by rw [unhide HT]; exact hz)
            clear hz hTU
            go_wp2_with (first
              | (go_at_call_of 158 bk; refine (rViewO_calls l _ bk nb (8 * n) 8 0 _ hl8 (unhide HI).size (owns_all (owns_all (unhide HG2) (unhide HBW)) (unhide HB3)) (unhide HNB) (LI_names (unhide HI)) h8n).mono ?_; rintro e w4 ⟨he, hb4⟩; rw [unhide HU] at he; subst he; have hI3 := (unhide HI2).kept hb4; have z1 := hI3.read.2.1; have fz1 := hI3.ks.frozenAt n; have ce3 := ints_cell hI3.ks hnm; have hI4 := hI3.setK n 255; have z2 := hI4.read.2.1; have fz2 := hI4.ks.frozenAt n; have ce4 := ints_cell hI4.ks hnm; have hI5 := hI4.setK n 1; rw [List.set_set] at hI5; have z3 := hI5.read.2.2.1; have fz3 := hI5.bs.frozenAt n; have ce5 := texts_cell hI5.bs hnm; have HI6 := hide (hI5.setB n T); clear hb4 hI3 hI4 hI5)
              | (go_at_call_of 158 x; refine (rView_calls l _ x nx (8 * n) 8 0 _ hl8 (unhide HI).size (owns_all (unhide HG2) (unhide HBW)) (unhide HC) (LI_names (unhide HI)) h8n).mono ?_; rintro e w3 ⟨he, hb3⟩; rw [unhide HBN, unhide HT] at he; subst he; have HB3 := hide hb3; have hI2 := (unhide HI1).kept hb3; have y1 := hI2.read.2.1; have ce := ints_cell hI2.ks hnm; rw [unhide HKP, unhide HKN] at ce; have cb3 : w3.cell? ⟨b, 1, none⟩ = some (.slice (some ⟨g, 0, none⟩) l.length c) := (hb3.cell (p := ⟨b, 1, none⟩) hblr).trans cb; have HI2 := hide hI2; clear hI2 hb3))
            go_roundw
            case rel => exact ⟨n + 1, by omega, by go_num, by rw [partTo_set (unhide HSC), partTo_set (unhide HSD), unhide HKV, unhide HT]; exact unhide HI6⟩
            case measure => simp [intOf]; omega
      · have kz : (kn == 0) = false := beq_eq_false_iff_ne.2 hk0
        have HSC : Hid (¬ rebC l s nx nb n) := fun h => hk0 ((unhide HKN).symm.trans ((unhide HCi n).1 h).1)
        go_wp2_with (go_at_call_of 158 x; refine (rView_calls l _ x nx (8 * n) 8 0 _ hl8 (unhide HI).size (owns_all (unhide HG2) (unhide HBW)) (unhide HC) (LI_names (unhide HI)) h8n).mono ?_; rintro e w3 ⟨he, hb3⟩; rw [unhide HBN, unhide HT] at he; subst he; have hI2 := (unhide HI1).kept hb3; have y1 := hI2.read.2.1; have ce := ints_cell hI2.ks hnm; rw [unhide HKP, unhide HKN] at ce; have HI2 := hide hI2; clear hI2 hb3)
        go_roundw
        case rel => exact ⟨n + 1, by omega, by go_num, by rw [partTo_skip (unhide HSC), partTo_skip (fun h => unhide HSC h.1)]; exact unhide HI2⟩
        case measure => simp [intOf]; omega
    · obtain rfl : n = m := by omega
      have hI2 : RIm w1 bk0 lo n K B w2.heap.size (some ⟨ge, 0, none⟩) (some ⟨gb, 0, none⟩) ec bc wr := by
        rw [partTo_full, partTo_full, unhide HK, unhide HB] at hI
        exact hI
      clear hI
      have x1 := hI2.read.2.1
      have x0 := hI2.read.1
      have fz0 := blk_frozen hI2.x 0
      have hI3 := hI2.setBk bk
      obtain ⟨y0, y1, y2, y3⟩ := hI3.read
      have hbb := (unhide HBS).trans (hI3.below.mono (unhide HBS).size)
      have hbl : b < (wr.setCell ⟨w2.heap.size, 0, none⟩ (.string bk)).heap.size := Nat.lt_of_lt_of_le hbl0 hbb.size
      have cb' : (wr.setCell ⟨w2.heap.size, 0, none⟩ (.string bk)).cell? ⟨b, 1, none⟩ = some (.slice (some ⟨g, 0, none⟩) l.length c) := blk_cell ((hbb.block b hbl0).trans (unhide HG1)) rfl
      have HI2 := hide hI3
      have HBB2 := hide hbb
      clear hI2 hI3 hbb hbw
      go_wp2_with fail
      go_region_with (first | (go_at_call 163; refine (rEncode_calls bk K B (some ⟨ge, 0, none⟩) (some ⟨gb, 0, none⟩) ec bc lo n w1.heap.size _ hbk8 hm30 (by exact (unhide HI2).ks) (by exact (unhide HI2).bs) (unhide HKB) (unhide HBB)).mono ?_; rintro e w4 ⟨rfl, hb4a⟩; have hb4 : Below (wr.setCell ⟨w2.heap.size, 0, none⟩ (.string bk)).heap.size (wr.setCell ⟨w2.heap.size, 0, none⟩ (.string bk)) w4 := ((Below.refl _ _).drew).trans hb4a; have cb4 : w4.cell? ⟨b, 1, none⟩ = some (.slice (some ⟨g, 0, none⟩) l.length c) := (hb4.cell (p := ⟨b, 1, none⟩) hbl).trans cb') | (go_at_call 162; refine (rwith_calls l _ x (encode bk K B) 0 _ hl8 (by exact owns_all (owns_all (unhide HG2) (unhide HBB2)) hb4)).mono ?_; rintro e w5 ⟨v5, rfl, hb5, ho5⟩) | (go_at_call 161; refine (rput_calls (Ov.withF l x (encode bk K B)) v5 (.slice (some ⟨g, 0, none⟩) l.length c) b room w4.heap.size _ hwl hroom (by exact make_blk (unhide HG1) (unhide HBB2) hb4 hb5) ho5 (unhide HWS)).mono ?_; intro e w6 hp6; obtain ⟨rfl, hleft⟩ := (unhide HR).put (make_below (unhide HBB2) hb4 hb5) (make_own ho5 (unhide HBB2) hb4) hp6))
      all_goals (go_wp2_with fail; go_ret; exact ⟨by rw [unhide HF]; rfl, by rw [unhide HF]; exact hleft⟩)

end Go.Proofs.YtomiepknmmpflaaGreatDoor

namespace Go.Proofs.YtomiepknmmpflaaGreatDoor
open Go.RowKit Go.Joins

def comEx (t : ByteArray) : Int := if (Ov.backing t).size = 0 then 0 else 255
def comK (s t : ByteArray) (n i : Nat) : Int := if i < n ∧ kOld s i ≠ 0 then kOld s i else if i < Ov.many t then kOld t i else comEx t
def comB (s t : ByteArray) (n i : Nat) : ByteArray := if i < n ∧ kOld s i ≠ 0 then bOld s i else if i < Ov.many t then bOld t i else ⟨#[]⟩
def comKs (s t : ByteArray) (n : Nat) : List Int := (List.range (max (Ov.many t) n)).map (comK s t n)
def comBs (s t : ByteArray) (n : Nat) : List ByteArray := (List.range (max (Ov.many t) n)).map (comB s t n)
def commitF (room : Nat) (l : Ov.Files) (x : ByteArray) : Int × Ov.Files :=
  if Ov.soundF l x ≠ 0 then (Ov.soundF l x, l)
  else if (Ov.backing (fileOf l x)).size = 0 then (8, l)
  else Ov.putF room l (Ov.withF (Ov.withF l x (encode (Ov.backing (fileOf l x)) (noKinds (Ov.many (fileOf l x))) (noBlocks (Ov.many (fileOf l x))))) (Ov.backing (fileOf l x))
    (encode (Ov.backing (fileOf l (Ov.backing (fileOf l x)))) (comKs (fileOf l x) (fileOf l (Ov.backing (fileOf l x))) (Ov.many (fileOf l x))) (comBs (fileOf l x) (fileOf l (Ov.backing (fileOf l x))) (Ov.many (fileOf l x)))))
section
variable {s t : ByteArray} {n : Nat}
theorem comKs_length : (comKs s t n).length = max (Ov.many t) n := by simp [comKs]
theorem comBs_length : (comBs s t n).length = max (Ov.many t) n := by simp [comBs]
theorem comK_other {i : Nat} (h : i ≠ n) : comK s t (n + 1) i = comK s t n i := by
  unfold comK
  have hh : (i < n + 1 ∧ kOld s i ≠ 0) ↔ (i < n ∧ kOld s i ≠ 0) := ⟨fun q => ⟨by omega, q.2⟩, fun q => ⟨by omega, q.2⟩⟩
  simp only [hh]
theorem comB_other {i : Nat} (h : i ≠ n) : comB s t (n + 1) i = comB s t n i := by
  unfold comB
  have hh : (i < n + 1 ∧ kOld s i ≠ 0) ↔ (i < n ∧ kOld s i ≠ 0) := ⟨fun q => ⟨by omega, q.2⟩, fun q => ⟨by omega, q.2⟩⟩
  simp only [hh]
theorem comKs_keep (h : n < Ov.many t) (h0 : kOld s n = 0) : comKs s t (n + 1) = comKs s t n := by
  unfold comKs
  rw [show max (Ov.many t) (n + 1) = max (Ov.many t) n by omega]
  refine List.map_congr_left fun i _ => ?_
  by_cases e : i = n
  · subst e; unfold comK; simp [h0]
  · exact comK_other e
theorem comBs_keep (h : n < Ov.many t) (h0 : kOld s n = 0) : comBs s t (n + 1) = comBs s t n := by
  unfold comBs
  rw [show max (Ov.many t) (n + 1) = max (Ov.many t) n by omega]
  refine List.map_congr_left fun i _ => ?_
  by_cases e : i = n
  · subst e; unfold comB; simp [h0]
  · exact comB_other e
theorem comKs_set (h : n < Ov.many t) (h0 : kOld s n ≠ 0) : comKs s t (n + 1) = (comKs s t n).set n (kOld s n) := by
  refine List.ext_getElem (by simp [comKs_length]; omega) fun i h1 h2 => ?_
  rw [List.getElem_set]
  simp only [comKs, List.getElem_map, List.getElem_range]
  by_cases e : n = i
  · subst e; rw [if_pos rfl]; unfold comK; rw [if_pos ⟨by omega, h0⟩]
  · rw [if_neg e]; exact comK_other (fun q => e q.symm)
theorem comBs_set (h : n < Ov.many t) (h0 : kOld s n ≠ 0) : comBs s t (n + 1) = (comBs s t n).set n (bOld s n) := by
  refine List.ext_getElem (by simp [comBs_length]; omega) fun i h1 h2 => ?_
  rw [List.getElem_set]
  simp only [comBs, List.getElem_map, List.getElem_range]
  by_cases e : n = i
  · subst e; rw [if_pos rfl]; unfold comB; rw [if_pos ⟨by omega, h0⟩]
  · rw [if_neg e]; exact comB_other (fun q => e q.symm)
theorem comKs_more (h : Ov.many t ≤ n) (h0 : kOld s n = 0) : comKs s t (n + 1) = comKs s t n ++ [comEx t] := by
  unfold comKs
  rw [show max (Ov.many t) (n + 1) = n + 1 by omega, show max (Ov.many t) n = n by omega, List.range_succ, List.map_append]
  congr 1
  · exact List.map_congr_left fun i hi => comK_other (by have : i < n := by simpa using hi
                                                         omega)
  · simp only [List.map_cons, List.map_nil]
    unfold comK
    rw [if_neg (c := n < n + 1 ∧ kOld s n ≠ 0) (fun q => q.2 h0), if_neg (by omega)]
theorem comBs_more (h : Ov.many t ≤ n) (h0 : kOld s n = 0) : comBs s t (n + 1) = comBs s t n ++ [(⟨#[]⟩ : ByteArray)] := by
  unfold comBs
  rw [show max (Ov.many t) (n + 1) = n + 1 by omega, show max (Ov.many t) n = n by omega, List.range_succ, List.map_append]
  congr 1
  · exact List.map_congr_left fun i hi => comB_other (by have : i < n := by simpa using hi
                                                         omega)
  · simp only [List.map_cons, List.map_nil]
    unfold comB
    rw [if_neg (c := n < n + 1 ∧ kOld s n ≠ 0) (fun q => q.2 h0), if_neg (by omega)]
theorem comKs_moreset (h : Ov.many t ≤ n) (h0 : kOld s n ≠ 0) : comKs s t (n + 1) = (comKs s t n ++ [comEx t]).set n (kOld s n) := by
  have hl : (comKs s t n).length = n := by rw [comKs_length]; omega
  rw [List.set_append_right _ _ (by omega), hl, Nat.sub_self]
  unfold comKs
  rw [show max (Ov.many t) (n + 1) = n + 1 by omega, show max (Ov.many t) n = n by omega, List.range_succ, List.map_append]
  congr 1
  · exact List.map_congr_left fun i hi => comK_other (by have : i < n := by simpa using hi
                                                         omega)
  · simp only [List.map_cons, List.map_nil, List.set_cons_zero]
    unfold comK
    rw [if_pos ⟨by omega, h0⟩]
theorem comBs_moreset (h : Ov.many t ≤ n) (h0 : kOld s n ≠ 0) : comBs s t (n + 1) = (comBs s t n ++ [(⟨#[]⟩ : ByteArray)]).set n (bOld s n) := by
  have hl : (comBs s t n).length = n := by rw [comBs_length]; omega
  rw [List.set_append_right _ _ (by omega), hl, Nat.sub_self]
  unfold comBs
  rw [show max (Ov.many t) (n + 1) = n + 1 by omega, show max (Ov.many t) n = n by omega, List.range_succ, List.map_append]
  congr 1
  · exact List.map_congr_left fun i hi => comB_other (by have : i < n := by simpa using hi
                                                         omega)
  · simp only [List.map_cons, List.map_nil, List.set_cons_zero]
    unfold comB
    rw [if_pos ⟨by omega, h0⟩]
theorem comKs_zero : comKs s t 0 = (List.range (Ov.many t)).map (kOld t) := by
  unfold comKs
  rw [show max (Ov.many t) 0 = Ov.many t by omega]
  refine List.map_congr_left fun i hi => ?_
  have : i < Ov.many t := by simpa using hi
  unfold comK
  rw [if_neg (c := i < 0 ∧ kOld s i ≠ 0) (fun q => by omega), if_pos this]
theorem comBs_zero : comBs s t 0 = (List.range (Ov.many t)).map (bOld t) := by
  unfold comBs
  rw [show max (Ov.many t) 0 = Ov.many t by omega]
  refine List.map_congr_left fun i hi => ?_
  have : i < Ov.many t := by simpa using hi
  unfold comB
  rw [if_neg (c := i < 0 ∧ kOld s i ≠ 0) (fun q => by omega), if_pos this]
end

end Go.Proofs.YtomiepknmmpflaaGreatDoor

namespace Go.Proofs.YtomiepknmmpflaaGreatDoor
open Go.RowKit Go.Joins

section
variable {w W W1 : World} {bk : ByteArray} {lo : Int} {m : Nat} {ks : List Int} {bs : List ByteArray} {X : Nat} {ea ba : Option Addr} {ec bc : Nat}
theorem RIm.since (h1 : Below w.heap.size w W1) (h : RIm W1 bk lo m ks bs X ea ba ec bc W) : RIm w bk lo m ks bs X ea ba ec bc W :=
  ⟨Nat.le_trans h1.size h.lt, h.x, h1.trans (h.below.mono h1.size), ownsRow_le h.ks h1.size, ownsRow_le h.bs h1.size⟩
theorem RIm.setOther (h : RIm w bk lo m ks bs X ea ba ec bc W) {p : Addr} (hp : w.heap.size ≤ p.block) (h1 : X ≠ p.block) (h2 : some p.block ≠ (Value.slice ea m ec).ownBlock) (h3 : some p.block ≠ (Value.slice ba m bc).ownBlock) (v : Value) : RIm w bk lo m ks bs X ea ba ec bc (W.setCell p v) :=
  ⟨h.lt, blk_set_other h.x h1 v, h.below.setCell (p := p) hp v, owns_set h.ks (a := p) h2 v, owns_set h.bs (a := p) h3 v⟩
theorem RIm.grownOther {W' : World} {g : Nat} (h : RIm w bk lo m ks bs X ea ba ec bc W) (hg : W.grownBy W' (some g)) (hp : w.heap.size ≤ g) (h1 : X ≠ g) (h2 : (Value.slice ea m ec).ownBlock ≠ some g) (h3 : (Value.slice ba m bc).ownBlock ≠ some g) : RIm w bk lo m ks bs X ea ba ec bc W' :=
  ⟨h.lt, (hg.block X (blk_lt h.x) (fun e => h1 (by simpa using e))).trans h.x, h.below.grown hg h.below.size (fun k hk => by obtain rfl := Option.some.inj hk; exact hp), owns_grown h.ks hg (Or.inr h2), owns_grown h.bs hg (Or.inr h3)⟩
end

end Go.Proofs.YtomiepknmmpflaaGreatDoor

namespace Go.Proofs.YtomiepknmmpflaaGreatDoor
open Go.RowKit Go.Joins

structure RIy (w : World) (bk : ByteArray) (lo : Int) (mk mb : Nat) (ks : List Int) (bs : List ByteArray) (Y gy hy cy dy : Nat) (W : World) : Prop where
  lt : w.heap.size ≤ Y
  x : W.heap[Y]? = some (.cells #[.string bk, .slice (some ⟨gy, 0, none⟩) mk cy, .slice (some ⟨hy, 0, none⟩) mb dy, .int .i64 lo] 240 (0, 0))
  below : Below w.heap.size w W
  ks : W.ownsRow w.heap.size 3 1 (.slice (some ⟨gy, 0, none⟩) mk cy) mk (ks.map (Value.int .i64))
  bs : W.ownsRow w.heap.size 9 1 (.slice (some ⟨hy, 0, none⟩) mb dy) mb (bs.map Value.string)
theorem RIm.lower {w W : World} {bk : ByteArray} {lo : Int} {m : Nat} {ks : List Int} {bs : List ByteArray} {X ge gb ec bc : Nat} (h : RIm w bk lo m ks bs X (some ⟨ge, 0, none⟩) (some ⟨gb, 0, none⟩) ec bc W) : RIy w bk lo m m ks bs X ge gb ec bc W := ⟨h.lt, h.x, h.below, h.ks, h.bs⟩
section
variable {w W W' : World} {bk : ByteArray} {lo : Int} {mk mb : Nat} {ks : List Int} {bs : List ByteArray} {Y gy hy cy dy : Nat}
theorem RIy.kept (h : RIy w bk lo mk mb ks bs Y gy hy cy dy W) (hb : Below W.heap.size W W') : RIy w bk lo mk mb ks bs Y gy hy cy dy W' :=
  ⟨h.lt, (hb.block Y (blk_lt h.x)).trans h.x, h.below.trans (hb.mono h.below.size), owns_all h.ks hb, owns_all h.bs hb⟩
theorem RIy.setOther (h : RIy w bk lo mk mb ks bs Y gy hy cy dy W) {p : Addr} (hp : w.heap.size ≤ p.block) (h1 : Y ≠ p.block) (h2 : p.block ≠ gy) (h3 : p.block ≠ hy) (v : Value) : RIy w bk lo mk mb ks bs Y gy hy cy dy (W.setCell p v) :=
  ⟨h.lt, blk_set_other h.x h1 v, h.below.setCell (p := p) hp v, owns_set h.ks (a := p) (fun e => h2 (Option.some.inj e)) v, owns_set h.bs (a := p) (fun e => h3 (Option.some.inj e)) v⟩
theorem RIy.apart (h : RIy w bk lo mk mb ks bs Y gy hy cy dy W) : Y ≠ gy ∧ Y ≠ hy ∧ gy ≠ hy := by
  refine ⟨fun e => row_ne h.x h.ks (by decide) (by rw [e]; rfl), fun e => row_ne h.x h.bs (by decide) (by rw [e]; rfl), fun e => ?_⟩
  rcases owns_apart h.ks h.bs (by decide) with q | q
  · simp [Value.ownBlock] at q
  · exact q (by rw [e]; rfl)
theorem RIy.setK (h : RIy w bk lo mk mb ks bs Y gy hy cy dy W) (j : Nat) (n : Int) : RIy w bk lo mk mb (ks.set j n) bs Y gy hy cy dy (W.setCell ⟨gy, j, none⟩ (.int .i64 n)) := by
  obtain ⟨a1, a2, a3⟩ := h.apart
  refine ⟨h.lt, blk_set_other h.x a1 _, h.below.setCell (p := ⟨gy, j, none⟩) (h.ks.lt gy rfl).1 _, ?_, owns_set h.bs (a := ⟨gy, j, none⟩) (fun e => a3 (Option.some.inj e)) _⟩
  rw [List.map_set]; exact (h.ks.stored j (.int .i64 n)).1
theorem RIy.setB (h : RIy w bk lo mk mb ks bs Y gy hy cy dy W) (j : Nat) (u : ByteArray) : RIy w bk lo mk mb ks (bs.set j u) Y gy hy cy dy (W.setCell ⟨hy, j, none⟩ (.string u)) := by
  obtain ⟨a1, a2, a3⟩ := h.apart
  refine ⟨h.lt, blk_set_other h.x a2 _, h.below.setCell (p := ⟨hy, j, none⟩) (h.bs.lt hy rfl).1 _, owns_set h.ks (a := ⟨hy, j, none⟩) (fun e => a3 (Option.some.inj e).symm) _, ?_⟩
  rw [List.map_set]; exact (h.bs.stored j (.string u)).1
theorem RIy.pushK {g3 c3 : Nat} {n : Int} (h : RIy w bk lo mk mb ks bs Y gy hy cy dy W) (hg : W.grownBy W' (some gy)) (ho : W'.ownsRow w.heap.size 3 1 (.slice (some ⟨g3, 0, none⟩) (mk + 1) c3) (mk + 1) (ks.map (Value.int .i64) ++ [.int .i64 n])) : RIy w bk lo (mk + 1) mb (ks ++ [n]) bs Y g3 hy c3 dy (W'.setCell ⟨Y, 1, none⟩ (.slice (some ⟨g3, 0, none⟩) (mk + 1) c3)) := by
  obtain ⟨a1, a2, a3⟩ := h.apart
  have hY := (hg.block Y (blk_lt h.x) (fun e => a1 (Option.some.inj e))).trans h.x
  have hb := owns_grown h.bs hg (Or.inr (fun e => a3 (Option.some.inj e).symm))
  have h1 := blk_set_same (i := 1) hY (.slice (some ⟨g3, 0, none⟩) (mk + 1) c3)
  refine ⟨h.lt, by simpa using h1, ((h.below.grown hg h.below.size (fun k hk => by obtain rfl := Option.some.inj hk; exact (h.ks.lt _ rfl).1)).setCell (p := ⟨Y, 1, none⟩) h.lt _), ?_, owns_set hb (a := ⟨Y, 1, none⟩) (fun e => a2 (Option.some.inj e)) _⟩
  rw [List.map_append]
  exact owns_set ho (a := ⟨Y, 1, none⟩) (row_ne hY ho (by decide)) _
theorem RIy.pushB {g3 c3 : Nat} {u : ByteArray} (h : RIy w bk lo mk mb ks bs Y gy hy cy dy W) (hg : W.grownBy W' (some hy)) (ho : W'.ownsRow w.heap.size 9 1 (.slice (some ⟨g3, 0, none⟩) (mb + 1) c3) (mb + 1) (bs.map Value.string ++ [.string u])) : RIy w bk lo mk (mb + 1) ks (bs ++ [u]) Y gy g3 cy c3 (W'.setCell ⟨Y, 2, none⟩ (.slice (some ⟨g3, 0, none⟩) (mb + 1) c3)) := by
  obtain ⟨a1, a2, a3⟩ := h.apart
  have hY := (hg.block Y (blk_lt h.x) (fun e => a2 (Option.some.inj e))).trans h.x
  have hk := owns_grown h.ks hg (Or.inr (fun e => a3 (Option.some.inj e)))
  have h1 := blk_set_same (i := 2) hY (.slice (some ⟨g3, 0, none⟩) (mb + 1) c3)
  refine ⟨h.lt, by simpa using h1, ((h.below.grown hg h.below.size (fun k hk => by obtain rfl := Option.some.inj hk; exact (h.bs.lt _ rfl).1)).setCell (p := ⟨Y, 2, none⟩) h.lt _), owns_set hk (a := ⟨Y, 2, none⟩) (fun e => a1 (Option.some.inj e)) _, ?_⟩
  rw [List.map_append]
  exact owns_set ho (a := ⟨Y, 2, none⟩) (row_ne hY ho (by decide)) _
end

end Go.Proofs.YtomiepknmmpflaaGreatDoor

namespace Go.Proofs.YtomiepknmmpflaaGreatDoor
open Go.RowKit Go.Joins

structure Com (w : World) (bx bz : ByteArray) (lx ly : Int) (m mk mb : Nat) (kx ky : List Int) (tx ty : List ByteArray) (X Y gx hx gy hy cx dx cy dy : Nat) (W : World) : Prop where
  x : RIm w bx lx m kx tx X (some ⟨gx, 0, none⟩) (some ⟨hx, 0, none⟩) cx dx W
  y : RIy w bz ly mk mb ky ty Y gy hy cy dy W
  xy : X ≠ Y
  kk : gx ≠ gy
  bb : hx ≠ hy
section
variable {w W W' : World} {bx bz : ByteArray} {lx ly : Int} {m mk mb : Nat} {kx ky : List Int} {tx ty : List ByteArray} {X Y gx hx gy hy cx dx cy dy : Nat}
theorem Com.kept (h : Com w bx bz lx ly m mk mb kx ky tx ty X Y gx hx gy hy cx dx cy dy W) (hb : Below W.heap.size W W') : Com w bx bz lx ly m mk mb kx ky tx ty X Y gx hx gy hy cx dx cy dy W' := ⟨h.x.kept hb, h.y.kept hb, h.xy, h.kk, h.bb⟩
theorem Com.apart (h : Com w bx bz lx ly m mk mb kx ky tx ty X Y gx hx gy hy cx dx cy dy W) : gx ≠ hy ∧ hx ≠ gy ∧ X ≠ gy ∧ X ≠ hy ∧ Y ≠ gx ∧ Y ≠ hx := by
  refine ⟨fun e => ?_, fun e => ?_, fun e => row_ne h.x.x h.y.ks (by decide) (by rw [e]; rfl), fun e => row_ne h.x.x h.y.bs (by decide) (by rw [e]; rfl), fun e => row_ne h.y.x h.x.ks (by decide) (by rw [e]; rfl), fun e => row_ne h.y.x h.x.bs (by decide) (by rw [e]; rfl)⟩
  · rcases owns_apart h.x.ks h.y.bs (by decide) with q | q
    · simp [Value.ownBlock] at q
    · exact q (by rw [e]; rfl)
  · rcases owns_apart h.x.bs h.y.ks (by decide) with q | q
    · simp [Value.ownBlock] at q
    · exact q (by rw [e]; rfl)
theorem Com.setKx (h : Com w bx bz lx ly m mk mb kx ky tx ty X Y gx hx gy hy cx dx cy dy W) (j : Nat) (n : Int) : Com w bx bz lx ly m mk mb (kx.set j n) ky tx ty X Y gx hx gy hy cx dx cy dy (W.setCell ⟨gx, j, none⟩ (.int .i64 n)) := by
  obtain ⟨a1, a2, a3, a4, a5, a6⟩ := h.apart
  exact ⟨h.x.setK j n, h.y.setOther (p := ⟨gx, j, none⟩) (h.x.ks.lt gx rfl).1 a5 h.kk a1 _, h.xy, h.kk, h.bb⟩
theorem Com.setBx (h : Com w bx bz lx ly m mk mb kx ky tx ty X Y gx hx gy hy cx dx cy dy W) (j : Nat) (u : ByteArray) : Com w bx bz lx ly m mk mb kx ky (tx.set j u) ty X Y gx hx gy hy cx dx cy dy (W.setCell ⟨hx, j, none⟩ (.string u)) := by
  obtain ⟨a1, a2, a3, a4, a5, a6⟩ := h.apart
  exact ⟨h.x.setB j u, h.y.setOther (p := ⟨hx, j, none⟩) (h.x.bs.lt hx rfl).1 a6 a2 h.bb _, h.xy, h.kk, h.bb⟩
theorem Com.setKy (h : Com w bx bz lx ly m mk mb kx ky tx ty X Y gx hx gy hy cx dx cy dy W) (j : Nat) (n : Int) : Com w bx bz lx ly m mk mb kx (ky.set j n) tx ty X Y gx hx gy hy cx dx cy dy (W.setCell ⟨gy, j, none⟩ (.int .i64 n)) := by
  obtain ⟨a1, a2, a3, a4, a5, a6⟩ := h.apart
  exact ⟨h.x.setOther (p := ⟨gy, j, none⟩) (h.y.ks.lt gy rfl).1 a3 (fun e => h.kk (Option.some.inj e).symm) (fun e => a2 (Option.some.inj e).symm) _, h.y.setK j n, h.xy, h.kk, h.bb⟩
theorem Com.setBy (h : Com w bx bz lx ly m mk mb kx ky tx ty X Y gx hx gy hy cx dx cy dy W) (j : Nat) (u : ByteArray) : Com w bx bz lx ly m mk mb kx ky tx (ty.set j u) X Y gx hx gy hy cx dx cy dy (W.setCell ⟨hy, j, none⟩ (.string u)) := by
  obtain ⟨a1, a2, a3, a4, a5, a6⟩ := h.apart
  exact ⟨h.x.setOther (p := ⟨hy, j, none⟩) (h.y.bs.lt hy rfl).1 a4 (fun e => a1 (Option.some.inj e).symm) (fun e => h.bb (Option.some.inj e).symm) _, h.y.setB j u, h.xy, h.kk, h.bb⟩
theorem Com.pushK {g3 c3 : Nat} {n : Int} (h : Com w bx bz lx ly m mk mb kx ky tx ty X Y gx hx gy hy cx dx cy dy W) (hg : W.grownBy W' (some gy)) (ho : W'.ownsRow w.heap.size 3 1 (.slice (some ⟨g3, 0, none⟩) (mk + 1) c3) (mk + 1) (ky.map (Value.int .i64) ++ [.int .i64 n])) (hl : g3 = gy ∨ W.heap.size ≤ g3) : Com w bx bz lx ly m (mk + 1) mb kx (ky ++ [n]) tx ty X Y gx hx g3 hy cx dx c3 dy (W'.setCell ⟨Y, 1, none⟩ (.slice (some ⟨g3, 0, none⟩) (mk + 1) c3)) := by
  obtain ⟨a1, a2, a3, a4, a5, a6⟩ := h.apart
  have hgx := (h.x.ks.lt gx rfl).2
  have k3 : gx ≠ g3 := by
    rcases hl with e | e
    · rw [e]; exact h.kk
    · omega
  have hx' := h.x.grownOther hg (h.y.ks.lt gy rfl).1 a3 (fun e => h.kk (Option.some.inj e)) (fun e => a2 (Option.some.inj e))
  exact ⟨hx'.setOther (p := ⟨Y, 1, none⟩) h.y.lt h.xy (fun e => a5 (Option.some.inj e)) (fun e => a6 (Option.some.inj e)) _, h.y.pushK hg ho, h.xy, k3, h.bb⟩
theorem Com.pushB {g3 c3 : Nat} {u : ByteArray} (h : Com w bx bz lx ly m mk mb kx ky tx ty X Y gx hx gy hy cx dx cy dy W) (hg : W.grownBy W' (some hy)) (ho : W'.ownsRow w.heap.size 9 1 (.slice (some ⟨g3, 0, none⟩) (mb + 1) c3) (mb + 1) (ty.map Value.string ++ [.string u])) (hl : g3 = hy ∨ W.heap.size ≤ g3) : Com w bx bz lx ly m mk (mb + 1) kx ky tx (ty ++ [u]) X Y gx hx gy g3 cx dx cy c3 (W'.setCell ⟨Y, 2, none⟩ (.slice (some ⟨g3, 0, none⟩) (mb + 1) c3)) := by
  obtain ⟨a1, a2, a3, a4, a5, a6⟩ := h.apart
  have hgx := (h.x.bs.lt hx rfl).2
  have k3 : hx ≠ g3 := by
    rcases hl with e | e
    · rw [e]; exact h.bb
    · omega
  have hx' := h.x.grownOther hg (h.y.bs.lt hy rfl).1 a4 (fun e => a1 (Option.some.inj e)) (fun e => h.bb (Option.some.inj e))
  exact ⟨hx'.setOther (p := ⟨Y, 2, none⟩) h.y.lt h.xy (fun e => a5 (Option.some.inj e)) (fun e => a6 (Option.some.inj e)) _, h.y.pushB hg ho, h.xy, h.kk, k3⟩
end

end Go.Proofs.YtomiepknmmpflaaGreatDoor

