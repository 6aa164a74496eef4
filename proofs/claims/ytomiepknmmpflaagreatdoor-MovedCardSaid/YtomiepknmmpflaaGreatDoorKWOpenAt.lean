/- The walk of the reference's ranged. -/
import Derived.Test.YtomiepknmmpflaaGreatDoorKPIm
import Derived.Test.YtomiepknmmpflaaGreatDoorKWViewOf0
import Derived.Test.YtomiepknmmpflaaGreatDoorKWBuild
import Derived.Test.YtomiepknmmpflaaGreatDoorKWOChain
namespace Go.Proofs.YtomiepknmmpflaaGreatDoor
open Go.RowKit Go.Joins

end Go.Proofs.YtomiepknmmpflaaGreatDoor

namespace Go.Proofs.YtomiepknmmpflaaGreatDoor
open Go.RowKit Go.Joins

theorem ranged_ok {l : Ov.Files} {x : ByteArray} {f k : Int} (h : rangedF l x f k = 0) : Ov.soundF l x = 0 ∧ Ov.place l x < l.length ∧ Ov.Chn l (Ov.downOf l x).1 x ∧ 0 ≤ f ∧ 0 ≤ k ∧ f + k ≤ 8 * (Ov.many (fileOf l x) : Int) := by
  unfold rangedF at h
  by_cases hs : Ov.soundF l x ≠ 0
  · rw [if_pos hs] at h; exact absurd h hs
  · rw [if_neg hs] at h
    have hs' : Ov.soundF l x = 0 := by omega
    obtain ⟨hp, hc⟩ := sound_here hs'
    by_cases hc2 : f < 0 ∨ k < 0 ∨ 8 * (Ov.many (fileOf l x) : Int) < f ∨ 8 * (Ov.many (fileOf l x) : Int) - f < k
    · rw [if_pos hc2] at h; omega
    · exact ⟨hs', hp, hc, by omega, by omega, by omega⟩
theorem Ov.Chn.many_le {l : Ov.Files} {ns : List ByteArray} {x : ByteArray} (h : Ov.Chn l ns x) : 1 ≤ Ov.many (fileOf l x) ∧ Ov.many (fileOf l x) ≤ 30 := ⟨h.image.1.2.2.2.2.1, h.image.1.2.2.2.2.2.1⟩

end Go.Proofs.YtomiepknmmpflaaGreatDoor

namespace Go.Proofs.YtomiepknmmpflaaGreatDoor
open Go.RowKit Go.Joins

theorem ranged_sound {l : Ov.Files} {x : ByteArray} {f k : Int} (h : Ov.soundF l x ≠ 0) : rangedF l x f k = Ov.soundF l x := by unfold rangedF; rw [if_pos h]
theorem ranged_within {l : Ov.Files} {x : ByteArray} {f k : Int} (h : Ov.soundF l x = 0) : rangedF l x f k = if withinB f k ((8 * Ov.many (fOf l x) : Nat) : Int) = true then 0 else 1 := by
  unfold rangedF withinB
  rw [if_neg (by omega)]
  have e : (fileOf l x) = fOf l x := rfl
  rw [e]
  by_cases h1 : f < 0 ∨ k < 0 ∨ 8 * (Ov.many (fOf l x) : Int) < f ∨ 8 * (Ov.many (fOf l x) : Int) - f < k
  · rw [if_pos h1, if_neg]
    intro hq
    simp only [Bool.and_eq_true, decide_eq_true_eq] at hq
    omega
  · rw [if_neg h1, if_pos]
    simp only [Bool.and_eq_true, decide_eq_true_eq]
    omega
theorem chn_head {l : Ov.Files} {ns : List ByteArray} {x : ByteArray} (h : Ov.Chn l ns x) : ∃ rest, ns = x :: rest := by
  obtain ⟨rest, e, _⟩ := h.cons
  exact ⟨rest, e⟩
structure AtYes (l : Ov.Files) (x : ByteArray) (w : World) (e : Ending) (w' : World) : Prop where
  below : Below w.heap.size w w'
  ret : ∃ g a c, e = .returned (.tuple #[.agg #[.string (Ov.backing (fOf l x)), .slice (some ⟨g, 0, none⟩) (Ov.many (fOf l x)) (Ov.many (fOf l x)), .int .i64 (Ov.lost (fOf l x))], .slice a (Ov.many (fOf l x) * 8) c, .int .i64 0]) ∧ w.heap.size ≤ g ∧
    w'.heap[g]? = some (.cells (rowTo (fOf l x) (Ov.many (fOf l x))).toArray 160 (0, 0)) ∧ w'.ownsRow w.heap.size 5 1 (.slice a (Ov.many (fOf l x) * 8) c) (Ov.many (fOf l x) * 8) (runTo (Ov.atTo l (Ov.downOf l x).1) (Ov.many (fOf l x)))
structure AtNo (n : Int) (w : World) (e : Ending) (w' : World) : Prop where
  below : Below w.heap.size w w'
  ret : e = .returned (.tuple #[.agg #[.string ⟨#[]⟩, .slice none 0 0, .int .i64 0], .slice none 0 0, .int .i64 n])

set_option maxRecDepth 100000 in
set_option maxHeartbeats 2000000 in
theorem oopenAt_bad (x : ByteArray) (f k : Int) (w : World) (b B : Nat) (r0 : Option Nat) (room : Nat) (l : Ov.Files) (s0 s1 s2 s3 : Addr) (h : ChainAt w b B r0 room l s0 s1 s2 s3) (hok : Ov.soundF l x ≠ 0) :
    Calls Tryz.prog 59 #[.pointer (some ⟨b, 0, none⟩), .string x, .agg #[.int .i64 f, .int .i64 k]] w (AtNo (Ov.soundF l x) w) := by
  obtain ⟨w0, hw0⟩ : ∃ w0, w0 = (w.alloc (.cells #[.int .i64 f, .int .i64 k] 102)).alloc (.cells #[.string ⟨#[]⟩, .slice none 0 0, .int .i64 0] 90) := ⟨_, rfl⟩
  have hb0 : Below w.heap.size w w0 := by rw [hw0]; exact below_alloc2 w _ _
  have HH := hide (h.kept hb0)
  have HB0 := hide hb0
  have hbx : w0.heap[w.heap.size + 1]? = some (.cells #[.string ⟨#[]⟩, .slice none 0 0, .int .i64 0] 90 (0, 0)) := by rw [hw0]; exact blk_new1 w _ _
  have HBX := hide hbx
  have hcalls : Calls Tryz.prog 45 #[.pointer (some ⟨b, 0, none⟩), .string x] w0 fun e w' => ∃ eb ed et ea wh, e = .returned (.tuple #[.pointer none, .iface et (.pointer (some ea))]) ∧ Below w0.heap.size w0 w' ∧ Er w' eb ed wh et ea ∧ Code s0 s1 s2 s3 eb (Ov.soundF l x) := by
    by_cases hp : Ov.place l x < l.length
    · have e : Ov.soundF l x = (Ov.downOf l x).2.1 := by unfold Ov.soundF; rw [if_pos hp]
      rw [e] at hok ⊢
      exact (oopenChain_down x w0 b B r0 room l s0 s1 s2 s3 (unhide HH) hp hok).mono fun e w' ⟨h1, eb, ed, et, ea, h2, h3, h4⟩ => ⟨eb, ed, et, ea, _, h2, h1, h3, h4⟩
    · have e : Ov.soundF l x = 4 := by unfold Ov.soundF; rw [if_neg hp]
      rw [e]
      exact (oopenChain_none x w0 b B r0 room l s0 s1 s2 s3 (unhide HH) hp).mono fun e w' ⟨h1, eb, ed, et, ea, h2, h3, h4⟩ => ⟨eb, ed, et, ea, _, h2, h1, h3, h4⟩
  have HCA := hide hcalls
  obtain ⟨q, hq⟩ : ∃ q, Ov.soundF l x = q := ⟨_, rfl⟩
  rw [hq] at HCA ⊢
  clear hcalls hq hok hbx hb0 h
  subst hw0
  go_enter Tryz.func59, Tryz.ntmps59
  go_wp2_with (first
    | (go_at_call 47; refine (oerrnoOf_calls s0 s1 s2 s3 eb q B ed wh et ea _ (unhide HK) (unhide HE) ((unhide HH).se.keptAll (unhide HB1))).mono ?_; rintro e w2 ⟨rfl, rfl⟩)
    | (go_at_call 45; refine (unhide HCA).mono ?_; rintro e w1 ⟨eb, ed, et, ea, wh, rfl, hb1, he, hk⟩; have bx := (hb1.block (w.heap.size + 1) (by simp)).trans (unhide HBX); have xf := blk_frozen bx; have x0 := blk_cell (i := 0) bx rfl; have x1 := blk_cell (i := 1) bx rfl; have x2 := blk_cell (i := 2) bx rfl; have hsz := blk_lt bx; have HB1 := hide hb1; have HE := hide he; have HK := hide hk; clear hb1 he hk bx))
  exact bodyPost_ret (v := .tuple #[.agg #[.string ⟨#[]⟩, .slice none 0 0, .int .i64 0], .slice none 0 0, .int .i64 q]) (by simp [results, Tryz.results59, go_sem, x0, x1, x2]) rfl
    ⟨((((unhide HB0).trans ((unhide HB1).mono (unhide HB0).size)).setCell (p := ⟨w.heap.size + 1, 0, none⟩) (Nat.le_succ _) _).setCell (p := ⟨w.heap.size + 1, 1, none⟩) (Nat.le_succ _) _).setCell (p := ⟨w.heap.size + 1, 2, none⟩) (Nat.le_succ _) _, rfl⟩

theorem opened {l : Ov.Files} {x : ByteArray} {L : Ims} {cb : Nat} {r : Option Nat} {w : World} (hs : Ov.soundF l x = 0) (hch : Ch w cb r l L) (hns : L.map Prod.fst = (Ov.downOf l x).1) :
    1 ≤ L.length ∧ Ov.place (fl L) x = 0 ∧ sufN l (L.map Prod.fst) L.length = Ov.many (fOf l x) ∧ sufV l (L.map Prod.fst) L.length = Ov.atTo l (Ov.downOf l x).1 ∧
    ∃ gp, cb ≤ gp ∧ imAt L 0 = imOf (fOf l x) gp ∧ w.heap[gp]? = some (.cells (rowTo (fOf l x) (Ov.many (fOf l x))).toArray 160 (0, 0)) := by
  obtain ⟨hp, hc⟩ := sound_here hs
  obtain ⟨rest, hr⟩ := chn_head hc
  have hlen : L.length = (x :: rest).length := by rw [← hr, ← hns]; simp
  have h1 : 1 ≤ L.length := by rw [hlen]; simp
  obtain ⟨y, gp, hy, hcg, him, hmp, hgp⟩ := lies_at hch.2 hns (p := 0) (by omega)
  have hyx : y = x := by rw [← hy, hr]; rfl
  subst hyx
  refine ⟨h1, ?_, ?_, ?_, gp, hcg, hmp, hgp⟩
  · refine Ov.place_eq (fun j hj => by omega) (by rw [fl_length]; omega) ?_
    have : Ov.nameAt (fl L) 0 = ((fl L).map Prod.fst).getD 0 ⟨#[]⟩ := by unfold Ov.nameAt; cases fl L <;> rfl
    rw [this, fl_fst, hns]; exact hy
  · have hz : L.length = L.length - 1 + 1 := by omega
    rw [hns, hz]
    exact sufN_succ l _ (p := 0) (by rw [hr]; simp; rw [hlen]; simp) hy
  · rw [hns]
    unfold sufV
    rw [hr, hlen, Nat.sub_self]
    rfl

set_option maxRecDepth 100000 in
set_option maxHeartbeats 4000000 in
theorem oopenAt_sound (x : ByteArray) (f k : Int) (w : World) (b B : Nat) (r0 : Option Nat) (room : Nat) (l : Ov.Files) (s0 s1 s2 s3 : Addr) (h : ChainAt w b B r0 room l s0 s1 s2 s3) (hok : Ov.soundF l x = 0) (hf1 : -9223372036854775808 ≤ f) (hf2 : f ≤ 9223372036854775807) (hk1 : -9223372036854775808 ≤ k) (hk2 : k ≤ 9223372036854775807) :
    Calls Tryz.prog 59 #[.pointer (some ⟨b, 0, none⟩), .string x, .agg #[.int .i64 f, .int .i64 k]] w fun e w' => (withinB f k ((8 * Ov.many (fOf l x) : Nat) : Int) = true → AtYes l x w e w') ∧ (withinB f k ((8 * Ov.many (fOf l x) : Nat) : Int) = false → AtNo 1 w e w') := by
  obtain ⟨w0, hw0⟩ : ∃ w0, w0 = (w.alloc (.cells #[.int .i64 f, .int .i64 k] 102)).alloc (.cells #[.string ⟨#[]⟩, .slice none 0 0, .int .i64 0] 90) := ⟨_, rfl⟩
  have hb0 : Below w.heap.size w w0 := by rw [hw0]; exact below_alloc2 w _ _
  have hs0 : w0.heap.size = w.heap.size + 1 + 1 := by rw [hw0]; simp
  obtain ⟨hp, hc⟩ := sound_here hok
  have hd0 : (Ov.downOf l x).2.1 = 0 := by unfold Ov.soundF at hok; rwa [if_pos hp] at hok
  have hm := hc.many_le
  have HH := hide (h.kept hb0)
  have HB0 := hide hb0
  have HBX : Hid (w0.heap[w.heap.size + 1]? = some (.cells #[.string ⟨#[]⟩, .slice none 0 0, .int .i64 0] 90 (0, 0))) := by rw [hw0]; exact blk_new1 w _ _
  have HBP : Hid (w0.heap[w.heap.size]? = some (.cells #[.int .i64 f, .int .i64 k] 102 (0, 0))) := by rw [hw0]; exact blk_alloc (blk_new w _) _
  have HCA := hide (oopenChain_yes x w0 b B r0 room l s0 s1 s2 s3 (unhide HH) hp hd0)
  have HOP := hide (fun (L : Ims) (cb : Nat) (r : Option Nat) (W : World) => opened (L := L) (cb := cb) (r := r) (w := W) hok)
  obtain ⟨ns, hns⟩ : ∃ ns, (Ov.downOf l x).1 = ns := ⟨_, rfl⟩
  obtain ⟨s, hs⟩ : ∃ s, fOf l x = s := ⟨_, rfl⟩
  rw [show fileOf l x = s from hs] at hm
  obtain ⟨m, hme⟩ : ∃ m, Ov.many s = m := ⟨_, rfl⟩
  rw [hme] at hm
  obtain ⟨hm1, hm30⟩ := hm
  have HNS := hide hns
  have HS := hide hs
  have HME := hide hme
  clear hd0 hp hc h hok hb0 hns hs hme
  subst hw0
  have HWE : Hid (((8 * m : Nat) : Int) = ((m * 8 : Nat) : Int)) := by show _ = _; congr 1; omega
  obtain ⟨bk, hbk⟩ : ∃ bk, Ov.backing s = bk := ⟨_, rfl⟩
  obtain ⟨t, ht⟩ : ∃ t, Ov.lost s = t := ⟨_, rfl⟩
  have HBK := hide hbk
  have HLT := hide ht
  clear hbk ht
  by_cases hwb : withinB f k ((m * 8 : Nat) : Int) = true
  · have HWB := hide hwb
    have HFIN : Hid (∀ e w', AtYes l x w e w' → (withinB f k ((8 * Ov.many (fOf l x) : Nat) : Int) = true → AtYes l x w e w') ∧ (withinB f k ((8 * Ov.many (fOf l x) : Nat) : Int) = false → AtNo 1 w e w')) := fun e w' h => ⟨fun _ => h, fun q => by rw [unhide HS, unhide HME, unhide HWE, hwb] at q; cases q⟩
    clear hwb
    go_enter Tryz.func59, Tryz.ntmps59
    go_wp2_with (first
        | (go_at_call 103; refine (owithin_calls f k (m * 8) _ hf1 hf2 hk1 hk2 (by omega)).mono ?_; rintro e w5 ⟨he, hb5⟩; rw [unhide HWB] at he; subst he; have HB5 := hide ((unhide HB4).trans (hb5.mono (unhide HB4).size)); have bi := ((unhide HB5).block (w2.heap.size) (by simp)).trans (blk_new w2 _); have i0 := blk_cell (i := 0) bi rfl; have i1 := blk_cell (i := 1) bi rfl; have i2 := blk_cell (i := 2) bi rfl; have hbw5 : Below w.heap.size w w5 := (unhide HB2).trans ((below_alloc1 w2 _).trans ((unhide HB5).mono (by simp)) |>.mono (unhide HB2).size); have bx5 := (unhide HB5).block (w.heap.size + 1) (by have := blk_lt (unhide HBX2); simp; omega) |>.trans (blk_alloc (unhide HBX2) _); have xf := blk_frozen bx5; have x0 := blk_cell (i := 0) bx5 rfl; have x1 := blk_cell (i := 1) bx5 rfl; have x2 := blk_cell (i := 2) bx5 rfl; have hz5 := blk_lt bx5; have HB5w := hide hbw5; have HG5 : Hid (w5.heap[gp]? = _) := ((unhide HB5).block gp (by have := blk_lt (unhide HGP2); simp; omega)).trans (blk_alloc (unhide HGP2) _); have HO5 := hide (owns_all (unhide HOB) hb5); clear hb5 bi hbw5 bx5)
        | (go_at_call 69; refine (obytesOf_calls m 0 (Ov.atTo l ns) _ _ (unhide HO3) hm30).mono ?_; rintro e w4 ⟨a4, c4, rfl, hb4, ho4⟩; have HB4 := hide ((unhide HB3).trans (hb4.mono (unhide HB3).size)); have bp := ((unhide HB4).block w.heap.size (by have := blk_lt (unhide HBP2); simp; omega)).trans (blk_alloc (unhide HBP2) _); have p0 := blk_cell (i := 0) bp rfl; have p1 := blk_cell (i := 1) bp rfl; have HOB := hide ho4; clear hb4 ho4 bp)
        | (go_at_call 70; refine (oviewOf_calls l L cb r2 _ ((unhide HCH2).kept (below_alloc1 _ _)) hL1 hL8).mono ?_; rintro e w3 ⟨a3, c3, he, hb3, ho3⟩; rw [unhide HSN] at he ho3; rw [unhide HSV] at ho3; subst he; have HB3 := hide hb3; have HO3 := hide ho3; clear hb3 ho3)
        | (go_at_call 50; refine (oIget_calls L v x cb 0 0 _ hL8 (unhide HOW) (unhide HCV) (unhide HPL) (by omega)).mono ?_; rintro e w2 ⟨he, hb2⟩; rw [unhide HIM] at he; subst he; have HB2 := hide ((unhide HB1).trans (hb2.mono (unhide HB1).size)); have HCH2 := hide ((unhide HCH).kept hb2); have HGP2 : Hid (w2.heap[gp]? = some (.cells (rowTo s m).toArray 160 (0, 0))) := (hb2.block gp (blk_lt (unhide HGP))).trans (unhide HGP); have HBX2 : Hid (w2.heap[w.heap.size + 1]? = some (.cells #[.string ⟨#[]⟩, .slice none 0 0, .int .i64 0] 90 (0, 0))) := (hb2.block _ (by have := blk_lt (unhide HBX1); omega)).trans (unhide HBX1); have HBP2 : Hid (w2.heap[w.heap.size]? = some (.cells #[.int .i64 f, .int .i64 k] 102 (0, 0))) := (hb2.block _ (by have := blk_lt (unhide HBP1); omega)).trans (unhide HBP1); clear hb2)
        | (go_at_call 45; refine (unhide HCA).mono ?_; rintro e w1 ⟨hb1, cb, r2, L, rfl, hcb, hch, hnL, hL8, _⟩; obtain ⟨hL1, hpl, hsN, hsV, gp, hcg, himp, hgp⟩ := unhide HOP L cb r2 w1 hch hnL; rw [unhide HS] at hsN himp hgp; rw [unhide HME] at hsN hgp; rw [unhide HNS] at hsV; obtain ⟨⟨v, hv1, hv2, _⟩, _⟩ := id hch; have HB1 := hide ((unhide HB0).trans (hb1.mono (unhide HB0).size)); have HBX1 : Hid (w1.heap[w.heap.size + 1]? = some (.cells #[.string ⟨#[]⟩, .slice none 0 0, .int .i64 0] 90 (0, 0))) := (hb1.block _ (by simp)).trans (unhide HBX); have HBP1 : Hid (w1.heap[w.heap.size]? = some (.cells #[.int .i64 f, .int .i64 k] 102 (0, 0))) := (hb1.block _ (by simp; omega)).trans (unhide HBP); have HCH := hide hch; have HOW := hide hv2; have HCV : Hid (w1.cell? ⟨cb, 0, none⟩ = some v) := blk_cell hv1 rfl; have HPL := hide hpl; have HIM : Hid (imVal (imAt L 0) = .agg #[.string bk, .slice (some ⟨gp, 0, none⟩) m m, .int .i64 t]) := (by rw [himp]; unfold imVal imOf; dsimp only; rw [unhide HME, unhide HBK, unhide HLT]; exact rfl); have HGP := hide hgp; have HSN := hide hsN; have HSV := hide hsV; have hgw : w.heap.size + 1 < gp := (by simp at hcb; omega); clear hb1 hch hnL hpl hsN hsV himp hgp hv1 hv2))
    have hz3 : w.heap.size + 1 < w3.heap.size := by have h1 := blk_lt (unhide HBX2); have h2 := (unhide HB3).size; simp at h2; omega
    have hne : gp ≠ w.heap.size + 1 := by omega
    have hnr := owns_ne (unhide HO5) hz3
    exact bodyPost_ret (v := .tuple #[.agg #[.string bk, .slice (some ⟨gp, 0, none⟩) m m, .int .i64 t], .slice a4 (m * 8) c4, .int .i64 0]) (by simp [results, Tryz.results59, go_sem, x0, x1, x2]) rfl
      (unhide HFIN _ _ ⟨(((unhide HB5w).setCell (p := ⟨w.heap.size + 1, 0, none⟩) (Nat.le_succ _) _).setCell (p := ⟨w.heap.size + 1, 1, none⟩) (Nat.le_succ _) _).setCell (p := ⟨w.heap.size + 1, 2, none⟩) (Nat.le_succ _) _,
        gp, a4, c4, by rw [unhide HS, unhide HME, unhide HBK, unhide HLT], by omega, by rw [unhide HS, unhide HME]; exact blk_set_other (blk_set_other (blk_set_other (unhide HG5) hne _) hne _) hne _,
        by rw [unhide HS, unhide HME, unhide HNS]; exact ownsRow_le (owns_set (owns_set (owns_set (unhide HO5) (a := ⟨w.heap.size + 1, 0, none⟩) hnr _) (a := ⟨w.heap.size + 1, 1, none⟩) hnr _) (a := ⟨w.heap.size + 1, 2, none⟩) hnr _) (by omega)⟩)
  · have hwb2 : withinB f k ((m * 8 : Nat) : Int) = false := by simpa using hwb
    have HWB := hide hwb2
    have HFIN : Hid (∀ e w', AtNo 1 w e w' → (withinB f k ((8 * Ov.many (fOf l x) : Nat) : Int) = true → AtYes l x w e w') ∧ (withinB f k ((8 * Ov.many (fOf l x) : Nat) : Int) = false → AtNo 1 w e w')) := fun e w' h => ⟨fun q => (by rw [unhide HS, unhide HME, unhide HWE, hwb2] at q; cases q), fun _ => h⟩
    clear hwb hwb2
    go_enter Tryz.func59, Tryz.ntmps59
    go_wp2_with (first
        | (go_at_call 103; refine (owithin_calls f k (m * 8) _ hf1 hf2 hk1 hk2 (by omega)).mono ?_; rintro e w5 ⟨he, hb5⟩; rw [unhide HWB] at he; subst he; have HB5 := hide ((unhide HB4).trans (hb5.mono (unhide HB4).size)); have bi := ((unhide HB5).block (w2.heap.size) (by simp)).trans (blk_new w2 _); have i0 := blk_cell (i := 0) bi rfl; have i1 := blk_cell (i := 1) bi rfl; have i2 := blk_cell (i := 2) bi rfl; have hbw5 : Below w.heap.size w w5 := (unhide HB2).trans ((below_alloc1 w2 _).trans ((unhide HB5).mono (by simp)) |>.mono (unhide HB2).size); have bx5 := (unhide HB5).block (w.heap.size + 1) (by have := blk_lt (unhide HBX2); simp; omega) |>.trans (blk_alloc (unhide HBX2) _); have xf := blk_frozen bx5; have x0 := blk_cell (i := 0) bx5 rfl; have x1 := blk_cell (i := 1) bx5 rfl; have x2 := blk_cell (i := 2) bx5 rfl; have hz5 := blk_lt bx5; have HB5w := hide hbw5; have HG5 : Hid (w5.heap[gp]? = _) := ((unhide HB5).block gp (by have := blk_lt (unhide HGP2); simp; omega)).trans (blk_alloc (unhide HGP2) _); have HO5 := hide (owns_all (unhide HOB) hb5); clear hb5 bi hbw5 bx5)
        | (go_at_call 69; refine (obytesOf_calls m 0 (Ov.atTo l ns) _ _ (unhide HO3) hm30).mono ?_; rintro e w4 ⟨a4, c4, rfl, hb4, ho4⟩; have HB4 := hide ((unhide HB3).trans (hb4.mono (unhide HB3).size)); have bp := ((unhide HB4).block w.heap.size (by have := blk_lt (unhide HBP2); simp; omega)).trans (blk_alloc (unhide HBP2) _); have p0 := blk_cell (i := 0) bp rfl; have p1 := blk_cell (i := 1) bp rfl; have HOB := hide ho4; clear hb4 ho4 bp)
        | (go_at_call 70; refine (oviewOf_calls l L cb r2 _ ((unhide HCH2).kept (below_alloc1 _ _)) hL1 hL8).mono ?_; rintro e w3 ⟨a3, c3, he, hb3, ho3⟩; rw [unhide HSN] at he ho3; rw [unhide HSV] at ho3; subst he; have HB3 := hide hb3; have HO3 := hide ho3; clear hb3 ho3)
        | (go_at_call 50; refine (oIget_calls L v x cb 0 0 _ hL8 (unhide HOW) (unhide HCV) (unhide HPL) (by omega)).mono ?_; rintro e w2 ⟨he, hb2⟩; rw [unhide HIM] at he; subst he; have HB2 := hide ((unhide HB1).trans (hb2.mono (unhide HB1).size)); have HCH2 := hide ((unhide HCH).kept hb2); have HGP2 : Hid (w2.heap[gp]? = some (.cells (rowTo s m).toArray 160 (0, 0))) := (hb2.block gp (blk_lt (unhide HGP))).trans (unhide HGP); have HBX2 : Hid (w2.heap[w.heap.size + 1]? = some (.cells #[.string ⟨#[]⟩, .slice none 0 0, .int .i64 0] 90 (0, 0))) := (hb2.block _ (by have := blk_lt (unhide HBX1); omega)).trans (unhide HBX1); have HBP2 : Hid (w2.heap[w.heap.size]? = some (.cells #[.int .i64 f, .int .i64 k] 102 (0, 0))) := (hb2.block _ (by have := blk_lt (unhide HBP1); omega)).trans (unhide HBP1); clear hb2)
        | (go_at_call 45; refine (unhide HCA).mono ?_; rintro e w1 ⟨hb1, cb, r2, L, rfl, hcb, hch, hnL, hL8, _⟩; obtain ⟨hL1, hpl, hsN, hsV, gp, hcg, himp, hgp⟩ := unhide HOP L cb r2 w1 hch hnL; rw [unhide HS] at hsN himp hgp; rw [unhide HME] at hsN hgp; rw [unhide HNS] at hsV; obtain ⟨⟨v, hv1, hv2, _⟩, _⟩ := id hch; have HB1 := hide ((unhide HB0).trans (hb1.mono (unhide HB0).size)); have HBX1 : Hid (w1.heap[w.heap.size + 1]? = some (.cells #[.string ⟨#[]⟩, .slice none 0 0, .int .i64 0] 90 (0, 0))) := (hb1.block _ (by simp)).trans (unhide HBX); have HBP1 : Hid (w1.heap[w.heap.size]? = some (.cells #[.int .i64 f, .int .i64 k] 102 (0, 0))) := (hb1.block _ (by simp; omega)).trans (unhide HBP); have HCH := hide hch; have HOW := hide hv2; have HCV : Hid (w1.cell? ⟨cb, 0, none⟩ = some v) := blk_cell hv1 rfl; have HPL := hide hpl; have HIM : Hid (imVal (imAt L 0) = .agg #[.string bk, .slice (some ⟨gp, 0, none⟩) m m, .int .i64 t]) := (by rw [himp]; unfold imVal imOf; dsimp only; rw [unhide HME, unhide HBK, unhide HLT]; exact rfl); have HGP := hide hgp; have HSN := hide hsN; have HSV := hide hsV; have hgw : w.heap.size + 1 < gp := (by simp at hcb; omega); clear hb1 hch hnL hpl hsN hsV himp hgp hv1 hv2))
    exact bodyPost_ret (v := .tuple #[.agg #[.string ⟨#[]⟩, .slice none 0 0, .int .i64 0], .slice none 0 0, .int .i64 1]) (by simp [results, Tryz.results59, go_sem, x0, x1, x2]) rfl
      (unhide HFIN _ _ ⟨(((unhide HB5w).setCell (p := ⟨w.heap.size + 1, 0, none⟩) (Nat.le_succ _) _).setCell (p := ⟨w.heap.size + 1, 1, none⟩) (Nat.le_succ _) _).setCell (p := ⟨w.heap.size + 1, 2, none⟩) (Nat.le_succ _) _, rfl⟩)

end Go.Proofs.YtomiepknmmpflaaGreatDoor

namespace Go.Proofs.YtomiepknmmpflaaGreatDoor
open Go.RowKit Go.Joins

def diffFrom (p q : Nat → Nat) : Nat → Nat → Int
  | 0, _ => -1
  | f + 1, i => if p i ≠ q i then (i : Nat) else diffFrom p q f (i + 1)
theorem diffFrom_hit {p q : Nat → Nat} {i : Nat} (h : i < 240) (hd : p i ≠ q i) : diffFrom p q (240 - i) i = (i : Nat) := by
  obtain ⟨f, hf⟩ : ∃ f, 240 - i = f + 1 := ⟨240 - i - 1, by omega⟩
  rw [hf, diffFrom, if_pos hd]
theorem diffFrom_next {p q : Nat → Nat} {i : Nat} (h : i < 240) (hd : p i = q i) : diffFrom p q (240 - i) i = diffFrom p q (240 - (i + 1)) (i + 1) := by
  obtain ⟨f, hf⟩ : ∃ f, 240 - i = f + 1 := ⟨240 - i - 1, by omega⟩
  rw [hf, diffFrom, if_neg (by omega), show 240 - (i + 1) = f by omega]
def compareF (l : Ov.Files) (x y : ByteArray) : Int × Int :=
  if ¬ Ov.place l x < l.length ∨ ¬ Ov.place l y < l.length then (0, 4)
  else if Ov.soundF l x ≠ 0 then (0, Ov.soundF l x)
  else if Ov.soundF l y ≠ 0 then (0, Ov.soundF l y)
  else (diffFrom (Ov.atTo l (Ov.downOf l x).1) (Ov.atTo l (Ov.downOf l y).1) 240 0, 0)

end Go.Proofs.YtomiepknmmpflaaGreatDoor

