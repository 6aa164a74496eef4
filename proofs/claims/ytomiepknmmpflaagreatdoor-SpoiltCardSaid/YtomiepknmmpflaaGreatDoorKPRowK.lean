/- The law's `play`: a step. -/
import Derived.Test.YtomiepknmmpflaaGreatDoorKWRebase
import Derived.Test.YtomiepknmmpflaaGreatDoorKWAwake
import Derived.Test.YtomiepknmmpflaaGreatDoorKWRow
import Derived.Test.YtomiepknmmpflaaGreatDoorKWRow2
import Derived.ChangeMaps5
import Derived.Test.YtomiepknmmpflaaGreatDoorKPSem5
namespace Go.Proofs.YtomiepknmmpflaaGreatDoor
open Go.RowKit Go.Joins

structure StepK where
  kind : Int
  a : Int
  b : Int
  n : Int
  m : Int
  t : ByteArray
def StepK.val (o : StepK) : Value := .agg #[.int .i64 o.kind, .int .i64 o.a, .int .i64 o.b, .int .i64 o.n, .int .i64 o.m, .string o.t]
def StepK.Ok (o : StepK) : Prop := In64 o.kind ∧ In64 o.a ∧ In64 o.b ∧ In64 o.n ∧ In64 o.m ∧ o.t.size ≤ 9223372036854775807
def fromK (l : Ov.Files) (o : StepK) : Int := if 0 ≤ manyK l (nameC o.a) ∧ pickN o.n 16 ≠ 15 then (pickN o.n ((manyK l (nameC o.a)).toNat + 1) : Nat) else o.n
def longK (l : Ov.Files) (o : StepK) : Int := if 0 ≤ manyK l (nameC o.a) ∧ pickN o.n 16 ≠ 15 then (pickN o.m ((manyK l (nameC o.a)).toNat - pickN o.n ((manyK l (nameC o.a)).toNat + 1) + 1) : Nat) else o.m
def playN (k : Nat) (room : Nat) (l : Ov.Files) (o : StepK) : Int × Ov.Files :=
  if k = 0 then makeF room l (nameC o.a) (1 + pickN o.n 5 : Nat) ⟨#[]⟩
  else if k = 1 ∨ k = 2 then makeF room l (nameC o.a) (1 + pickN o.n 5 : Nat) (nameC o.b)
  else if k = 3 then Ov.dropF l (nameC o.a)
  else if k = 4 ∨ k = 5 then writeF room l (nameC o.a) (fromK l o) (cutF o.t (longK l o))
  else if k = 6 then zeroF room l (nameC o.a) (fromK l o) (longK l o)
  else if k = 7 then discardF room l (nameC o.a) (fromK l o) (longK l o)
  else if k = 8 then commitF room l (nameC o.a)
  else if k = 9 then rebaseF room l (nameC o.a) (nameC o.b)
  else if k = 10 then rebaseF room l (nameC o.a) ⟨#[]⟩
  else Ov.loadF room l (nameC o.a) o.t
def playF (room : Nat) (l : Ov.Files) (o : StepK) : Int × Ov.Files := playN (pickN o.kind 12) room l o
theorem fromK_in {l : Ov.Files} {o : StepK} (h : o.Ok) : In64 (fromK l o) ∧ In64 (longK l o) := by
  have hb := many_bd l (nameC o.a)
  obtain ⟨_, _, _, h4, h5, _⟩ := h
  unfold fromK longK
  split
  · have p1 := pickN_lt o.n (n := (manyK l (nameC o.a)).toNat + 1) (by omega)
    have p2 := pickN_lt o.m (n := (manyK l (nameC o.a)).toNat - pickN o.n ((manyK l (nameC o.a)).toNat + 1) + 1) (by omega)
    exact ⟨⟨by omega, by omega⟩, by omega, by omega⟩
  · exact ⟨h4, h5⟩
theorem cutF_size (s : ByteArray) (n : Int) : (cutF s n).size ≤ s.size := by
  unfold cutF
  split
  · exact Nat.zero_le _
  · split
    · rw [ByteArray.size_extract]; omega
    · exact Nat.le_refl _

set_option maxRecDepth 100000 in
set_option maxHeartbeats 8000000 in
theorem kplay_calls (o : StepK) (B b : Nat) (P : List Nat) (s0 s1 s2 s3 : Addr) (room : Nat) (l : Ov.Files) (w : World) (h : KW w B b P s0 s1 s2 s3 room l) (ho : o.Ok) :
    Calls Tryz.prog 19 #[.pointer (some ⟨b, 0, none⟩), o.val] w (KPost (.int .i64 (playF room l o).1) B b P s0 s1 s2 s3 room (playF room l o).2 w) := by
  have hfl := fromK_in (l := l) ho
  have hmb := many_bd l (nameC o.a)
  have HPL : Hid (∀ k, pickN o.kind 12 = k → playF room l o = playN k room l o) := fun k e => by unfold playF; rw [e]
  have hk12 := pickN_lt o.kind (n := 12) (by omega)
  have HFK : Hid (fromK l o = if 0 ≤ manyK l (nameC o.a) ∧ pickN o.n 16 ≠ 15 then ((pickN o.n ((manyK l (nameC o.a)).toNat + 1) : Nat) : Int) else o.n) := rfl
  have HLK : Hid (longK l o = if 0 ≤ manyK l (nameC o.a) ∧ pickN o.n 16 ≠ 15 then ((pickN o.m ((manyK l (nameC o.a)).toNat - pickN o.n ((manyK l (nameC o.a)).toNat + 1) + 1) : Nat) : Int) else o.m) := rfl
  obtain ⟨R, hR⟩ : ∃ R, playF room l o = R := ⟨_, rfl⟩
  rw [hR]
  have HR := hide hR
  clear hR
  obtain ⟨h1, h2, h3, h4, h5, h6⟩ := ho
  have HNA : Hid (∀ w, Calls Tryz.prog 18 #[.int .i64 o.a] w fun e w' => e = .returned (.string (nameC o.a)) ∧ w = w') := fun w => kname_calls _ w h2.1 h2.2
  have HNB : Hid (∀ w, Calls Tryz.prog 18 #[.int .i64 o.b] w fun e w' => e = .returned (.string (nameC o.b)) ∧ w = w') := fun w => kname_calls _ w h3.1 h3.2
  have HPK : Hid (∀ w, Calls Tryz.prog 21 #[.int .i64 o.kind, .int .i64 12] w fun e w' => e = .returned (.int .i64 (pickN o.kind 12 : Nat)) ∧ w = w') := fun w => kpick_calls _ 12 w h1.1 h1.2 (by omega) (by omega)
  have HP16 : Hid (∀ w, Calls Tryz.prog 21 #[.int .i64 o.n, .int .i64 16] w fun e w' => e = .returned (.int .i64 (pickN o.n 16 : Nat)) ∧ w = w') := fun w => kpick_calls _ 16 w h4.1 h4.2 (by omega) (by omega)
  have HP5 : Hid (∀ w, Calls Tryz.prog 21 #[.int .i64 o.n, .int .i64 5] w fun e w' => e = .returned (.int .i64 (pickN o.n 5 : Nat)) ∧ w = w') := fun w => kpick_calls _ 5 w h4.1 h4.2 (by omega) (by omega)
  have HPA : Hid (∀ w (q : Nat), q ≤ 240 → Calls Tryz.prog 21 #[.int .i64 o.n, .int .i64 ((q : Int) + 1)] w fun e w' => e = .returned (.int .i64 (pickN o.n (q + 1) : Nat)) ∧ w = w') := fun w q hq => kpick_calls _ (q + 1) w h4.1 h4.2 (by omega) (by omega)
  have HPB : Hid (∀ w (q p : Nat), q ≤ 240 → p ≤ q → Calls Tryz.prog 21 #[.int .i64 o.m, .int .i64 ((q : Int) - (p : Int) + 1)] w fun e w' => e = .returned (.int .i64 (pickN o.m (q - p + 1) : Nat)) ∧ w = w') := fun w q p hq hp => by
    have := kpick_calls o.m (q - p + 1) w h5.1 h5.2 (by omega) (by omega)
    rwa [show (((q - p + 1 : Nat)) : Int) = (q : Int) - (p : Int) + 1 by omega] at this
  have HCT : Hid (∀ w n, Calls Tryz.prog 28 #[.string o.t, .int .i64 n] w fun e w' => e = .returned (.string (cutF o.t n)) ∧ w = w') := fun w n => kcut_calls _ n w h6
  have HCS : Hid (∀ n, (cutF o.t n).size ≤ 9223372036854775807) := fun n => Nat.le_trans (cutF_size _ _) h6
  obtain ⟨p5, hp5⟩ : ∃ p5, pickN o.n 5 = p5 := ⟨_, rfl⟩
  have hp5l := pickN_lt o.n (n := 5) (by omega)
  rw [hp5] at HP5 hp5l
  have HMK : Hid (∀ (w1 : World) (bk : ByteArray), KW w1 B b (w.heap.size :: P) s0 s1 s2 s3 room l → Calls Tryz.prog 38 #[.pointer (some ⟨b, 0, none⟩), .string (nameC o.a), .int .i64 (1 + (p5 : Int)), .string bk] w1 (KPost (.int .i64 (makeF room l (nameC o.a) (1 + p5 : Nat) bk).1) B b (w.heap.size :: P) s0 s1 s2 s3 room (makeF room l (nameC o.a) (1 + p5 : Nat) bk).2 w1)) := fun w1 bk hk => by
    have := kMake hk (nameC o.a) bk ((1 + p5 : Nat) : Int)
    rwa [show (((1 + p5 : Nat)) : Int) = 1 + (p5 : Int) by omega] at this ⊢
  have hbl := below_alloc1 w (.cells #[.int .i64 o.kind, .int .i64 o.a, .int .i64 o.b, .int .i64 o.n, .int .i64 o.m, .string o.t] 27)
  have HZ := hide (blk_new w (.cells #[.int .i64 o.kind, .int .i64 o.a, .int .i64 o.b, .int .i64 o.n, .int .i64 o.m, .string o.t] 27))
  obtain ⟨hk0, hf0⟩ := h.take hbl (p := w.heap.size) (Nat.le_refl _) (by simp)
  have HF0 := hide hf0
  have HMN := hide (kmany_calls (nameC o.a) B b (w.heap.size :: P) s0 s1 s2 s3 room l _ hk0)
  obtain ⟨kind, a, bb, n, m, t⟩ := o
  dsimp only at *
  obtain ⟨x, hx⟩ : ∃ x, nameC a = x := ⟨_, rfl⟩
  obtain ⟨y, hy⟩ : ∃ y, nameC bb = y := ⟨_, rfl⟩
  obtain ⟨kk, hkk⟩ : ∃ kk, pickN kind 12 = kk := ⟨_, rfl⟩
  obtain ⟨N, hN⟩ : ∃ N, manyK l x = N := ⟨_, rfl⟩
  obtain ⟨F, hF⟩ : ∃ F, fromK l ⟨kind, a, bb, n, m, t⟩ = F := ⟨_, rfl⟩
  obtain ⟨L, hL⟩ : ∃ L, longK l ⟨kind, a, bb, n, m, t⟩ = L := ⟨_, rfl⟩
  rw [hx] at HNA HMN hmb HFK HLK HMK
  rw [hy] at HNB
  rw [hkk] at HPK hk12
  rw [hN] at HMN hmb HFK HLK
  rw [hF] at HFK hfl
  rw [hL] at HLK hfl
  have HFL := hide hfl
  have hBz := h.un.se.size
  have HQ := hide (And.intro hx (And.intro hy (And.intro hF (And.intro hL hp5))))
  clear hx hy hN hF hL hp5 hfl h hk0 hf0 hbl h1 h2 h3 h4 h5 h6
  dsimp only [StepK.val]
  go_enter Tryz.func19, Tryz.ntmps19
  go_upto_region 6 with (first
    | (go_at_call_of 18 (Value.int IntKind.i64 a); refine (unhide HNA _).mono ?_; rintro e w1 ⟨rfl, rfl⟩)
    | (go_at_call_of 18 (Value.int IntKind.i64 bb); refine (unhide HNB _).mono ?_; rintro e w1 ⟨rfl, rfl⟩)
    | (go_at_call 49; refine (unhide HMN).mono ?_; rintro e w2 ⟨rfl, hk2, hf2⟩
       have y0 : w2.cell? ⟨w.heap.size, 0, none⟩ = some (.int .i64 kind) := blk_cell (i := 0) ((hf2.own _ List.mem_cons_self).trans (unhide HZ)) rfl
       have y1 : w2.cell? ⟨w.heap.size, 1, none⟩ = some (.int .i64 a) := blk_cell (i := 1) ((hf2.own _ List.mem_cons_self).trans (unhide HZ)) rfl
       have y2 : w2.cell? ⟨w.heap.size, 2, none⟩ = some (.int .i64 bb) := blk_cell (i := 2) ((hf2.own _ List.mem_cons_self).trans (unhide HZ)) rfl
       have y3 : w2.cell? ⟨w.heap.size, 3, none⟩ = some (.int .i64 n) := blk_cell (i := 3) ((hf2.own _ List.mem_cons_self).trans (unhide HZ)) rfl
       have y4 : w2.cell? ⟨w.heap.size, 4, none⟩ = some (.int .i64 m) := blk_cell (i := 4) ((hf2.own _ List.mem_cons_self).trans (unhide HZ)) rfl
       have y5 : w2.cell? ⟨w.heap.size, 5, none⟩ = some (.string t) := blk_cell (i := 5) ((hf2.own _ List.mem_cons_self).trans (unhide HZ)) rfl
       have HK2 := hide hk2
       have HF2 := hide ((unhide HF0).trans (hf2.less (fun i hi => List.mem_cons_of_mem _ hi)))
       clear hk2 hf2))
  obtain ⟨p16, hp16⟩ : ∃ p16, pickN n 16 = p16 := ⟨_, rfl⟩
  rw [hp16] at HP16 HFK HLK
  obtain ⟨cb, hcb⟩ : ∃ cb, decide (0 ≤ N ∧ p16 ≠ 15) = cb := ⟨_, rfl⟩
  go_cut [40] from 33 (fun c W' => c = .bool cb ∧ w2 = W')
  case first =>
    by_cases hn : 0 ≤ N
    · by_cases hp : p16 = 15
      · subst hp
        have HB : Hid (cb = false) := by rw [← hcb]; exact decide_eq_false (fun k => k.2 rfl)
        go_wp2_with (go_at_call 21; refine (unhide HP16 _).mono ?_; rintro e w3 ⟨rfl, rfl⟩)
        go_meet
        case rel => exact ⟨by rw [unhide HB], rfl⟩
      · have HB : Hid (cb = true) := by rw [← hcb]; exact decide_eq_true ⟨hn, hp⟩
        have e16 : ((p16 : Int) != 15) = true := by rw [bne_iff_ne]; omega
        go_wp2_with (go_at_call 21; refine (unhide HP16 _).mono ?_; rintro e w3 ⟨rfl, rfl⟩)
        go_meet
        case rel => exact ⟨by rw [unhide HB], rfl⟩
    · have HB : Hid (cb = false) := by rw [← hcb]; exact decide_eq_false (fun k => hn k.1)
      go_wp2_with fail
      go_meet
      case rel => exact ⟨by rw [unhide HB], rfl⟩
  case rest =>
  obtain ⟨rfl, rfl⟩ := hcut
  go_upto_if 40 with fail
  go_cut [8, 9] from 33 (fun f g W' => f = .int .i64 F ∧ g = .int .i64 L ∧ w2 = W')
  case first =>
    cases cb with
    | false =>
      have HFn : Hid (F = n) := by rw [unhide HFK]; exact if_neg (of_decide_eq_false hcb)
      have HLm : Hid (L = m) := by rw [unhide HLK]; exact if_neg (of_decide_eq_false hcb)
      go_wp2_with fail
      go_meet
      case rel => exact ⟨by rw [unhide HFn], by rw [unhide HLm], rfl⟩
    | true =>
      have hc := of_decide_eq_true hcb
      obtain ⟨q, rfl⟩ : ∃ q : Nat, N = (q : Int) := ⟨N.toNat, by omega⟩
      rw [Int.toNat_natCast] at HFK HLK
      have hpl := pickN_lt n (n := q + 1) (by omega)
      have HFn : Hid (F = (pickN n (q + 1) : Nat)) := by rw [unhide HFK]; exact if_pos hc
      have HLm : Hid (L = (pickN m (q - pickN n (q + 1) + 1) : Nat)) := by rw [unhide HLK]; exact if_pos hc
      have HPA1 : Hid (∀ w, Calls Tryz.prog 21 #[.int .i64 n, .int .i64 ((q : Int) + 1)] w fun e w' => e = .returned (.int .i64 (pickN n (q + 1) : Nat)) ∧ w = w') := fun w => unhide HPA w q (by omega)
      have HPB1 : Hid (∀ w, Calls Tryz.prog 21 #[.int .i64 m, .int .i64 ((q : Int) - (pickN n (q + 1) : Nat) + 1)] w fun e w' => e = .returned (.int .i64 (pickN m (q - pickN n (q + 1) + 1) : Nat)) ∧ w = w') := fun w => unhide HPB w q _ (by omega) (by omega)
      obtain ⟨p1, hp1⟩ : ∃ p1, pickN n (q + 1) = p1 := ⟨_, rfl⟩
      rw [hp1] at HFn HLm HPA1 HPB1 hpl
      obtain ⟨p2, hp2⟩ : ∃ p2, pickN m (q - p1 + 1) = p2 := ⟨_, rfl⟩
      rw [hp2] at HLm HPB1
      clear hp1 hp2 HFK HLK HPA HPB hc
      go_wp2_with (first
        | (go_at_call_of 21 (Value.int IntKind.i64 n); refine (unhide HPA1 _).mono ?_; rintro e w3 ⟨rfl, rfl⟩)
        | (go_at_call_of 21 (Value.int IntKind.i64 m); refine (unhide HPB1 _).mono ?_; rintro e w3 ⟨rfl, rfl⟩))
      go_meet
      case rel => exact ⟨by rw [unhide HFn], by rw [unhide HLm], rfl⟩
  case rest =>
    obtain ⟨rfl, rfl, rfl⟩ := hcut
    clear HFK HLK HPA HPB HP16 HNA HNB HMN HF0 HZ hcb hp16
    obtain rfl | rfl | rfl | rfl | rfl | rfl | rfl | rfl | rfl | rfl | rfl | rfl : kk = 0 ∨ kk = 1 ∨ kk = 2 ∨ kk = 3 ∨ kk = 4 ∨ kk = 5 ∨ kk = 6 ∨ kk = 7 ∨ kk = 8 ∨ kk = 9 ∨ kk = 10 ∨ kk = 11 := by omega
    · have HE : Hid (R = makeF room l x (1 + p5 : Nat) ⟨#[]⟩) := by obtain ⟨rfl, rfl, rfl, rfl, rfl⟩ := unhide HQ; rw [← unhide HR, unhide HPL 0 hkk]; exact rfl
      clear hkk
      go_wp2_with (first
        | (go_at_call_of 21 (Value.int IntKind.i64 kind); refine (unhide HPK _).mono ?_; rintro e w3 ⟨rfl, rfl⟩)
        | (go_at_call_of 21 (Value.int IntKind.i64 n); refine (unhide HP5 _).mono ?_; rintro e w5 ⟨rfl, rfl⟩)
        | (go_at_call 38; refine (unhide HMK _ _ (unhide HK2)).mono ?_; rintro e w4 ⟨rfl, hk3⟩; have HK3 := hide hk3; clear hk3))
      go_ret
      obtain ⟨k3, f3⟩ := unhide HK3
      exact ⟨by rw [unhide HE]; rfl, by rw [unhide HE]; exact k3.less (fun i hi => List.mem_cons_of_mem _ hi), (unhide HF2).trans (f3.less (fun i hi => List.mem_cons_of_mem _ hi))⟩
    · have HE : Hid (R = makeF room l x (1 + p5 : Nat) y) := by obtain ⟨rfl, rfl, rfl, rfl, rfl⟩ := unhide HQ; rw [← unhide HR, unhide HPL 1 hkk]; exact rfl
      clear hkk
      go_wp2_with (first
        | (go_at_call_of 21 (Value.int IntKind.i64 kind); refine (unhide HPK _).mono ?_; rintro e w3 ⟨rfl, rfl⟩)
        | (go_at_call_of 21 (Value.int IntKind.i64 n); refine (unhide HP5 _).mono ?_; rintro e w5 ⟨rfl, rfl⟩)
        | (go_at_call 38; refine (unhide HMK _ _ (unhide HK2)).mono ?_; rintro e w4 ⟨rfl, hk3⟩; have HK3 := hide hk3; clear hk3))
      go_ret
      obtain ⟨k3, f3⟩ := unhide HK3
      exact ⟨by rw [unhide HE]; rfl, by rw [unhide HE]; exact k3.less (fun i hi => List.mem_cons_of_mem _ hi), (unhide HF2).trans (f3.less (fun i hi => List.mem_cons_of_mem _ hi))⟩
    · have HE : Hid (R = makeF room l x (1 + p5 : Nat) y) := by obtain ⟨rfl, rfl, rfl, rfl, rfl⟩ := unhide HQ; rw [← unhide HR, unhide HPL 2 hkk]; exact rfl
      clear hkk
      go_wp2_with (first
        | (go_at_call_of 21 (Value.int IntKind.i64 kind); refine (unhide HPK _).mono ?_; rintro e w3 ⟨rfl, rfl⟩)
        | (go_at_call_of 21 (Value.int IntKind.i64 n); refine (unhide HP5 _).mono ?_; rintro e w5 ⟨rfl, rfl⟩)
        | (go_at_call 38; refine (unhide HMK _ _ (unhide HK2)).mono ?_; rintro e w4 ⟨rfl, hk3⟩; have HK3 := hide hk3; clear hk3))
      go_ret
      obtain ⟨k3, f3⟩ := unhide HK3
      exact ⟨by rw [unhide HE]; rfl, by rw [unhide HE]; exact k3.less (fun i hi => List.mem_cons_of_mem _ hi), (unhide HF2).trans (f3.less (fun i hi => List.mem_cons_of_mem _ hi))⟩
    · have HE : Hid (R = Ov.dropF l x) := by obtain ⟨rfl, rfl, rfl, rfl, rfl⟩ := unhide HQ; rw [← unhide HR, unhide HPL 3 hkk]; exact rfl
      clear hkk
      go_wp2_with (first
        | (go_at_call_of 21 (Value.int IntKind.i64 kind); refine (unhide HPK _).mono ?_; rintro e w3 ⟨rfl, rfl⟩)
        | (go_at_call 37; refine (kDrop (unhide HK2) _).mono ?_; rintro e w4 ⟨rfl, hk3⟩; have HK3 := hide hk3; clear hk3))
      go_ret
      obtain ⟨k3, f3⟩ := unhide HK3
      exact ⟨by rw [unhide HE]; rfl, by rw [unhide HE]; exact k3.less (fun i hi => List.mem_cons_of_mem _ hi), (unhide HF2).trans (f3.less (fun i hi => List.mem_cons_of_mem _ hi))⟩
    · have HE : Hid (R = writeF room l x F (cutF t L)) := by obtain ⟨rfl, rfl, rfl, rfl, rfl⟩ := unhide HQ; rw [← unhide HR, unhide HPL 4 hkk]; exact rfl
      clear hkk
      go_wp2_with (first
        | (go_at_call_of 21 (Value.int IntKind.i64 kind); refine (unhide HPK _).mono ?_; rintro e w3 ⟨rfl, rfl⟩)
        | (go_at_call 28; refine (unhide HCT _ _).mono ?_; rintro e w5 ⟨rfl, rfl⟩)
        | (go_at_call 29; refine (kWrite (unhide HK2) _ _ _ (unhide HFL).1 (unhide HCS _)).mono ?_; rintro e w4 ⟨rfl, hk3⟩; have HK3 := hide hk3; clear hk3))
      go_ret
      obtain ⟨k3, f3⟩ := unhide HK3
      exact ⟨by rw [unhide HE]; rfl, by rw [unhide HE]; exact k3.less (fun i hi => List.mem_cons_of_mem _ hi), (unhide HF2).trans (f3.less (fun i hi => List.mem_cons_of_mem _ hi))⟩
    · have HE : Hid (R = writeF room l x F (cutF t L)) := by obtain ⟨rfl, rfl, rfl, rfl, rfl⟩ := unhide HQ; rw [← unhide HR, unhide HPL 5 hkk]; exact rfl
      clear hkk
      go_wp2_with (first
        | (go_at_call_of 21 (Value.int IntKind.i64 kind); refine (unhide HPK _).mono ?_; rintro e w3 ⟨rfl, rfl⟩)
        | (go_at_call 28; refine (unhide HCT _ _).mono ?_; rintro e w5 ⟨rfl, rfl⟩)
        | (go_at_call 29; refine (kWrite (unhide HK2) _ _ _ (unhide HFL).1 (unhide HCS _)).mono ?_; rintro e w4 ⟨rfl, hk3⟩; have HK3 := hide hk3; clear hk3))
      go_ret
      obtain ⟨k3, f3⟩ := unhide HK3
      exact ⟨by rw [unhide HE]; rfl, by rw [unhide HE]; exact k3.less (fun i hi => List.mem_cons_of_mem _ hi), (unhide HF2).trans (f3.less (fun i hi => List.mem_cons_of_mem _ hi))⟩
    · have HE : Hid (R = zeroF room l x F L) := by obtain ⟨rfl, rfl, rfl, rfl, rfl⟩ := unhide HQ; rw [← unhide HR, unhide HPL 6 hkk]; exact rfl
      clear hkk
      go_wp2_with (first
        | (go_at_call_of 21 (Value.int IntKind.i64 kind); refine (unhide HPK _).mono ?_; rintro e w3 ⟨rfl, rfl⟩)
        | (go_at_call 30; refine (kZero (unhide HK2) _ _ _ (unhide HFL).1 (unhide HFL).2).mono ?_; rintro e w4 ⟨rfl, hk3⟩; have HK3 := hide hk3; clear hk3))
      go_ret
      obtain ⟨k3, f3⟩ := unhide HK3
      exact ⟨by rw [unhide HE]; rfl, by rw [unhide HE]; exact k3.less (fun i hi => List.mem_cons_of_mem _ hi), (unhide HF2).trans (f3.less (fun i hi => List.mem_cons_of_mem _ hi))⟩
    · have HE : Hid (R = discardF room l x F L) := by obtain ⟨rfl, rfl, rfl, rfl, rfl⟩ := unhide HQ; rw [← unhide HR, unhide HPL 7 hkk]; exact rfl
      clear hkk
      go_wp2_with (first
        | (go_at_call_of 21 (Value.int IntKind.i64 kind); refine (unhide HPK _).mono ?_; rintro e w3 ⟨rfl, rfl⟩)
        | (go_at_call 32; refine (kDiscard (unhide HK2) _ _ _ (unhide HFL).1 (unhide HFL).2).mono ?_; rintro e w4 ⟨rfl, hk3⟩; have HK3 := hide hk3; clear hk3))
      go_ret
      obtain ⟨k3, f3⟩ := unhide HK3
      exact ⟨by rw [unhide HE]; rfl, by rw [unhide HE]; exact k3.less (fun i hi => List.mem_cons_of_mem _ hi), (unhide HF2).trans (f3.less (fun i hi => List.mem_cons_of_mem _ hi))⟩
    · have HE : Hid (R = commitF room l x) := by obtain ⟨rfl, rfl, rfl, rfl, rfl⟩ := unhide HQ; rw [← unhide HR, unhide HPL 8 hkk]; exact rfl
      clear hkk
      go_wp2_with (first
        | (go_at_call_of 21 (Value.int IntKind.i64 kind); refine (unhide HPK _).mono ?_; rintro e w3 ⟨rfl, rfl⟩)
        | (go_at_call 23; refine (kCommit (unhide HK2) _).mono ?_; rintro e w4 ⟨rfl, hk3⟩; have HK3 := hide hk3; clear hk3))
      go_ret
      obtain ⟨k3, f3⟩ := unhide HK3
      exact ⟨by rw [unhide HE]; rfl, by rw [unhide HE]; exact k3.less (fun i hi => List.mem_cons_of_mem _ hi), (unhide HF2).trans (f3.less (fun i hi => List.mem_cons_of_mem _ hi))⟩
    · have HE : Hid (R = rebaseF room l x y) := by obtain ⟨rfl, rfl, rfl, rfl, rfl⟩ := unhide HQ; rw [← unhide HR, unhide HPL 9 hkk]; exact rfl
      clear hkk
      go_wp2_with (first
        | (go_at_call_of 21 (Value.int IntKind.i64 kind); refine (unhide HPK _).mono ?_; rintro e w3 ⟨rfl, rfl⟩)
        | (go_at_call 24; refine (kRebase (unhide HK2) _ _).mono ?_; rintro e w4 ⟨rfl, hk3⟩; have HK3 := hide hk3; clear hk3))
      go_ret
      obtain ⟨k3, f3⟩ := unhide HK3
      exact ⟨by rw [unhide HE]; rfl, by rw [unhide HE]; exact k3.less (fun i hi => List.mem_cons_of_mem _ hi), (unhide HF2).trans (f3.less (fun i hi => List.mem_cons_of_mem _ hi))⟩
    · have HE : Hid (R = rebaseF room l x ⟨#[]⟩) := by obtain ⟨rfl, rfl, rfl, rfl, rfl⟩ := unhide HQ; rw [← unhide HR, unhide HPL 10 hkk]; exact rfl
      clear hkk
      go_wp2_with (first
        | (go_at_call_of 21 (Value.int IntKind.i64 kind); refine (unhide HPK _).mono ?_; rintro e w3 ⟨rfl, rfl⟩)
        | (go_at_call 25; refine (kFlatten (unhide HK2) _).mono ?_; rintro e w4 ⟨rfl, hk3⟩; have HK3 := hide hk3; clear hk3))
      go_ret
      obtain ⟨k3, f3⟩ := unhide HK3
      exact ⟨by rw [unhide HE]; rfl, by rw [unhide HE]; exact k3.less (fun i hi => List.mem_cons_of_mem _ hi), (unhide HF2).trans (f3.less (fun i hi => List.mem_cons_of_mem _ hi))⟩
    · have HE : Hid (R = Ov.loadF room l x t) := by obtain ⟨rfl, rfl, rfl, rfl, rfl⟩ := unhide HQ; rw [← unhide HR, unhide HPL 11 hkk]; exact rfl
      clear hkk
      go_wp2_with (first
        | (go_at_call_of 21 (Value.int IntKind.i64 kind); refine (unhide HPK _).mono ?_; rintro e w3 ⟨rfl, rfl⟩)
        | (go_at_call 35; refine (kLoad (unhide HK2) _ _).mono ?_; rintro e w4 ⟨rfl, hk3⟩; have HK3 := hide hk3; clear hk3))
      go_ret
      obtain ⟨k3, f3⟩ := unhide HK3
      exact ⟨by rw [unhide HE]; rfl, by rw [unhide HE]; exact k3.less (fun i hi => List.mem_cons_of_mem _ hi), (unhide HF2).trans (f3.less (fun i hi => List.mem_cons_of_mem _ hi))⟩

end Go.Proofs.YtomiepknmmpflaaGreatDoor

namespace Go.Proofs.YtomiepknmmpflaaGreatDoor
open Go.RowKit Go.Joins

def Six (l : Ov.Files) : Prop := ∀ y ∈ l.map Prod.fst, y.size = 1
theorem nameC_size (c : Int) : (nameC c).size = 1 := by
  have := pickN_lt c (n := 6) (by omega)
  unfold nameC nameK
  rw [ByteArray.size_extract]
  show min (pickN c 6 + 1) 6 - pickN c 6 = 1
  omega
theorem Six.with {l : Ov.Files} (h : Six l) {x b : ByteArray} (hx : x.size = 1) : Six (Ov.withF l x b) := fun y hy => by
  rw [Ov.withF_fst] at hy
  split at hy
  · exact h y hy
  · rcases List.mem_append.1 hy with m | m
    · exact h y m
    · rw [List.mem_singleton.1 m]; exact hx
theorem Six.put {l m : Ov.Files} (h : Six l) (hm : Six m) (room : Nat) : Six (Ov.putF room l m).2 := by
  unfold Ov.putF; split
  · exact h
  · exact hm
theorem Six.at {l : Ov.Files} (h : Six l) {x : ByteArray} (hp : Ov.place l x < l.length) : x.size = 1 := h x (Ov.place_mem.1 hp)
theorem Six.new {l : Ov.Files} (h : Six l) {x : ByteArray} (hx : x.size = 1) (room : Nat) (ks : List Int) (bs : List ByteArray) : Six (newF room l x ks bs).2 := h.put (h.with hx) room
theorem playF_six {l : Ov.Files} (h : Six l) (room : Nat) (o : StepK) : Six (playF room l o).2 := by
  have hx := nameC_size o.a
  unfold playF playN
  split
  · unfold makeF; split; · exact h
    split; · exact h
    split; · exact h
    split; · exact h
    exact h.put (h.with hx) room
  split
  · unfold makeF; split; · exact h
    split; · exact h
    split; · exact h
    split; · exact h
    exact h.put (h.with hx) room
  split
  · unfold Ov.dropF; split
    · exact fun y hy => h y ((List.Sublist.map Prod.fst List.filter_sublist).subset hy)
    · exact h
  split
  · unfold writeF; split; · exact h
    split; · exact h
    exact h.new hx room _ _
  split
  · unfold zeroF; split; · exact h
    split; · exact h
    exact h.new hx room _ _
  split
  · unfold discardF; split; · exact h
    split; · exact h
    exact h.new hx room _ _
  split
  · unfold commitF
    split; · exact h
    rename_i hso
    split; · exact h
    rename_i hb
    obtain ⟨_, hc⟩ := sound_here (show Ov.soundF l (nameC o.a) = 0 by omega)
    obtain ⟨ms, _, hcb⟩ := chn_below hc rfl rfl hb
    exact h.put ((h.with hx).with (h.at hcb.here)) room
  split
  · unfold rebaseF; split; · exact h
    split; · exact h
    split; · exact h
    exact h.put (h.with hx) room
  split
  · unfold rebaseF; split; · exact h
    split; · exact h
    split; · exact h
    exact h.put (h.with hx) room
  · unfold Ov.loadF; split; · exact h
    split; · exact h
    exact h.put (h.with hx) room

end Go.Proofs.YtomiepknmmpflaaGreatDoor

namespace Go.Proofs.YtomiepknmmpflaaGreatDoor
open Go.RowKit Go.Joins

def ScriptK (w : World) (a : Addr) (n : Nat) : Prop := ∀ i, i < n → ∃ o : StepK, o.Ok ∧
  w.cell? (a.add (i * 6)) = some (.int .i64 o.kind) ∧ w.cell? (a.add (i * 6 + 1)) = some (.int .i64 o.a) ∧ w.cell? (a.add (i * 6 + 2)) = some (.int .i64 o.b) ∧ w.cell? (a.add (i * 6 + 3)) = some (.int .i64 o.n) ∧
  w.cell? (a.add (i * 6 + 4)) = some (.int .i64 o.m) ∧ w.cell? (a.add (i * 6 + 5)) = some (.string o.t)
structure Scr (w : World) (B : Nat) (a : Option Addr) (n : Nat) : Prop where
  len : n ≤ 5000000000000
  nil : a = none → n = 0
  at' : ∀ b, a = some b → (1 ≤ n → b.block < B) ∧ ScriptK w b n

set_option maxRecDepth 100000 in
set_option maxHeartbeats 2000000 in
theorem kplayed_calls (B : Nat) (P : List Nat) (s0 s1 s2 s3 : Addr) (w : World) (a : Option Addr) (n c : Nat) (h : Under w B s0 s1 s2 s3) (hP : ∀ k ∈ P, k < w.heap.size) (hs : Scr w B a n) :
    Calls Tryz.prog 15 #[.slice a n c] w fun e w' => ∃ b l, e = .returned (.pointer (some ⟨b, 0, none⟩)) ∧ KW w' B b P s0 s1 s2 s3 4000 l ∧ KFr B P w w' ∧ Six l := by
  have HA := hide (kawake_calls B P s0 s1 s2 s3 w h hP)
  have HS := hide hs
  have hn := hs.len
  clear h hP hs
  go_enter Tryz.func15, Tryz.ntmps15
  go_wp2_with (go_at_call 42; refine (unhide HA).mono ?_; rintro e w1 ⟨b, rfl, hk1⟩; have HK1 := hide hk1; clear hk1)
  go_loopw [4] (fun i wr => ∃ (k : Nat) (l : Ov.Files), k ≤ n ∧ i = .int .i64 k ∧ KW wr B b P s0 s1 s2 s3 4000 l ∧ KFr B P w wr ∧ Six l) (fun i _ => n - (intOf i).toNat)
  case atStart => exact ⟨0, [], Nat.zero_le _, rfl, (unhide HK1).1, (unhide HK1).2, fun y hy => by cases hy⟩
  case round =>
    obtain ⟨k, l, hk, rfl, hkw, hfr, hsx⟩ := hrel
    have HSX := hide hsx
    clear hsx
    have HKW := hide hkw
    have HFR := hide hfr
    clear hkw
    by_cases hlt : k < n
    · obtain ⟨ab, rfl⟩ : ∃ ab, a = some ab := by
        cases a with
        | none => have := (unhide HS).nil rfl; omega
        | some ab => exact ⟨ab, rfl⟩
      obtain ⟨hbb0, hscr⟩ := (unhide HS).at' ab rfl
      have hbb := hbb0 (by omega)
      obtain ⟨o, hok, d0, d1, d2, d3, d4, d5⟩ := hscr k hlt
      have hc : ∀ t, wr.cell? (ab.add t) = w.cell? (ab.add t) := fun t => hfr.below.cell (p := ab.add t) (by rw [add_block]; exact hbb)
      rw [← hc] at d0 d1 d2 d3 d4 d5
      rw [← add_next ab (k * 6) _ (by omega)] at d1 d2 d3 d4 d5
      have HPL := hide (kplay_calls o B b P s0 s1 s2 s3 4000 l wr (unhide HKW) hok)
      obtain ⟨okd, oa, ob, on, om, ot⟩ := o
      dsimp only [StepK.val] at *
      clear hc hscr hfr hok
      go_wp2_with (go_at_call 19; refine (unhide HPL).mono ?_; rintro e w2 ⟨rfl, hk2⟩; have HK2 := hide hk2; clear hk2)
      go_roundw
      case rel => exact ⟨k + 1, _, by omega, by go_num, (unhide HK2).1, (unhide HFR).trans (unhide HK2).2, playF_six (unhide HSX) _ _⟩
      case measure => simp [intOf]; omega
    · clear hfr
      go_wp2_with fail
      go_ret
      exact ⟨b, l, rfl, unhide HKW, unhide HFR, unhide HSX⟩

end Go.Proofs.YtomiepknmmpflaaGreatDoor

namespace Go.Proofs.YtomiepknmmpflaaGreatDoor
open Go.ChangeShapes Go.WideShapes Go.ChangeAt Go.RowKit

theorem Tryz.cellsStep : Tryz.prog.cellsOf 27 = 6 := by kernel_rfl
theorem Tryz.bytesStep : Tryz.prog.bytesOf 27 = 56 := by kernel_rfl
theorem in64_of {z : Int} (h : (Lit.int .i64 z).wf = true) : In64 z := ⟨(bounds_i64 h).1, (bounds_i64 h).2⟩
theorem step_of {H : Type} {enc : TypeId × Value → H} {W : World} {sp : Nat → Bool} {fuel : Nat} {cs : List Value} {x : DataW H × List MemPlace} (h2 : DataW.trod enc Tryz.prog W 0 sp true fuel 27 cs = some x) :
    ∃ o : StepK, o.Ok ∧ cs[0]? = some (.int .i64 o.kind) ∧ cs[1]? = some (.int .i64 o.a) ∧ cs[2]? = some (.int .i64 o.b) ∧ cs[3]? = some (.int .i64 o.n) ∧ cs[4]? = some (.int .i64 o.m) ∧ cs[5]? = some (.string o.t) := by
  obtain ⟨xs, q, _, _, _, hxl, hf⟩ := DataW.trod_struct Tryz.underlying27 h2
  have int_at : ∀ t (f : Field), t < 6 → f.type = 3 → f.offset = t → (∃ y, DataW.trod enc Tryz.prog W 0 sp true q f.type ((cs.drop f.offset).take (Tryz.prog.cellsOf f.type)) = some y) → ∃ z, cs[t]? = some (.int .i64 z) ∧ (Lit.int .i64 z).wf = true := fun t f ht hty hof ⟨y, hy⟩ => by
    rw [hty, hof, Tryz.cellsI] at hy
    obtain ⟨z, hz, _, hw⟩ := DataW.trod_int Tryz.underlying3 hy
    exact ⟨z, drop_one hz, hw⟩
  have str_at : ∀ t (f : Field), t < 6 → f.type = 9 → f.offset = t → (∃ y, DataW.trod enc Tryz.prog W 0 sp true q f.type ((cs.drop f.offset).take (Tryz.prog.cellsOf f.type)) = some y) → ∃ z, cs[t]? = some (.string z) ∧ z.size ≤ maxLen := fun t f ht hty hof ⟨y, hy⟩ => by
    rw [hty, hof, Tryz.cellsS] at hy
    obtain ⟨z, hz, _, hw⟩ := DataW.trod_string Tryz.underlying9 hy
    exact ⟨z, drop_one hz, hw⟩
  have some_at : ∀ t, t < 6 → ∃ y, xs[t]? = some y := fun t ht => ⟨_, List.getElem?_eq_getElem (by rw [hxl]; exact ht)⟩
  obtain ⟨y0, e0⟩ := some_at 0 (by omega)
  obtain ⟨y1, e1⟩ := some_at 1 (by omega)
  obtain ⟨y2, e2⟩ := some_at 2 (by omega)
  obtain ⟨y3, e3⟩ := some_at 3 (by omega)
  obtain ⟨y4, e4⟩ := some_at 4 (by omega)
  obtain ⟨y5, e5⟩ := some_at 5 (by omega)
  obtain ⟨z0, f0, w0⟩ := int_at 0 _ (by omega) rfl rfl ⟨y0, (hf 0 _ rfl).trans e0⟩
  obtain ⟨z1, f1, w1⟩ := int_at 1 _ (by omega) rfl rfl ⟨y1, (hf 1 _ rfl).trans e1⟩
  obtain ⟨z2, f2, w2⟩ := int_at 2 _ (by omega) rfl rfl ⟨y2, (hf 2 _ rfl).trans e2⟩
  obtain ⟨z3, f3, w3⟩ := int_at 3 _ (by omega) rfl rfl ⟨y3, (hf 3 _ rfl).trans e3⟩
  obtain ⟨z4, f4, w4⟩ := int_at 4 _ (by omega) rfl rfl ⟨y4, (hf 4 _ rfl).trans e4⟩
  obtain ⟨z5, f5, w5⟩ := str_at 5 _ (by omega) rfl rfl ⟨y5, (hf 5 _ rfl).trans e5⟩
  exact ⟨⟨z0, z1, z2, z3, z4, z5⟩, ⟨in64_of w0, in64_of w1, in64_of w2, in64_of w3, in64_of w4, by unfold maxLen at w5; show z5.size ≤ _; omega⟩, f0, f1, f2, f3, f4, f5⟩
theorem scriptK_of {H : Type} {enc : TypeId × Value → H} {W : World} {sp : Nat → Bool} {fuel : Nat} {x : DataW H × List MemPlace} {a : Option Addr} {len cap : Nat} (h : DataW.trod enc Tryz.prog W 0 sp true fuel 25 [.slice a len cap] = some x) :
    (a = none → len = 0) ∧ (∀ b, a = some b → (1 ≤ len → b.block < W.heap.size) ∧ ScriptK W b len) ∧ (a = none ∨ ∃ e s, x.1 = .slice e s ∧ e.length = len) := by
  rcases Go.Deep.open_slice Tryz.underlying25 h with ⟨hcs, hx⟩ | ⟨b, l, c, m, n, D, Pl, hcs, _, hl, hm, hmm, hx, hel⟩
  · simp only [List.cons.injEq, Value.slice.injEq, and_true] at hcs
    obtain ⟨rfl, rfl, rfl⟩ := hcs
    exact ⟨fun _ => rfl, (fun b e => by simp at e), Or.inl rfl⟩
  · simp only [List.cons.injEq, Value.slice.injEq, and_true] at hcs
    obtain ⟨rfl, rfl, rfl⟩ := hcs
    have hlm : len ≤ m := by rw [hmm]; split <;> omega
    have sc : ScriptK W b len := by
      intro i hi
      obtain ⟨cs, h1, h2⟩ := hel i (by omega)
      rw [Tryz.cellsStep] at h1
      obtain ⟨_, hlen, hcell⟩ := World.cells?_some h1
      obtain ⟨o, ok, g0, g1, g2, g3, g4, g5⟩ := step_of h2
      have hc : ∀ t, t < 6 → W.cell? (b.add (i * 6 + t)) = cs[t]? := fun t ht => by rw [← addr_add_add]; exact hcell t ht
      exact ⟨o, ok, (hc 0 (by omega)).trans g0, (hc 1 (by omega)).trans g1, (hc 2 (by omega)).trans g2, (hc 3 (by omega)).trans g3, (hc 4 (by omega)).trans g4, (hc 5 (by omega)).trans g5⟩
    exact ⟨(fun e => by simp at e), (fun b' e => by
      obtain rfl := Option.some.inj e
      refine ⟨fun h1 => ?_, sc⟩
      obtain ⟨o, _, d0, _⟩ := sc 0 (by omega)
      have := cell_lt d0
      rw [add_block] at this
      exact this), Or.inr ⟨_, _, by rw [hx], by simp⟩⟩
theorem scr_of {H : Type} {enc : TypeId × Value → H} {W : World} {d0 : DataW H} {p0 : List MemPlace} {ds : List (DataW H)} {ts : List TypeId} {a : Option Addr} {len cap : Nat} (h0 : DataW.Trod enc Tryz.prog W 0 (fun _ => true) true 25 (.slice a len cap) d0 p0)
    (hsz : (DataW.weightsEach Tryz.prog (25 :: ts) (d0 :: ds)).all (· ≤ reachBytes) = true) : Scr W W.heap.size a len := by
  obtain ⟨fuel, hf⟩ := h0
  obtain ⟨hnone, hsc, hd⟩ := scriptK_of (show DataW.trod enc Tryz.prog W 0 (fun _ => true) true fuel 25 [.slice a len cap] = some (d0, p0) from hf)
  refine ⟨?_, hnone, hsc⟩
  rcases hd with rfl | ⟨e, sp, he1, he⟩
  · rw [hnone rfl]; omega
  · have he2 : d0 = .slice e sp := he1
    subst he2
    have := sized_slice hsz (j := 0) (t := 25) (e := 27) rfl rfl Tryz.underlying25
    rw [Tryz.bytesStep, he] at this
    simp only [reachBytes] at this
    omega
set_option maxRecDepth 100000 in
theorem open_step {H : Type} {enc : TypeId × Value → H} {W : World} {r : Reach} {b0 : Nat} {v : Value} {d : DataW H} {ps : List MemPlace} (hval : Value.okWide Tryz.prog W r b0 27 v) (hd : DataW.Trod enc Tryz.prog W 0 (fun _ => true) true 27 v d ps) : ∃ o : StepK, o.Ok ∧ v = o.val := by
  obtain ⟨cs, rfl, hcs⟩ := okWide_struct Tryz.underlying27 hval
  rw [Tryz.cellsStep] at hcs
  obtain ⟨fuel, hf⟩ := hd
  obtain ⟨o, ok, g0, g1, g2, g3, g4, g5⟩ := step_of (cs := cs.toList) (by simpa [Value.cells] using hf)
  refine ⟨o, ok, ?_⟩
  unfold StepK.val
  congr 1
  refine Array.ext (by simpa using hcs) fun i h1 h2 => ?_
  have hi : i < 6 := by omega
  have hg : ∀ (j : Nat) (u : Value) (hj : j < cs.size), cs.toList[j]? = some u → cs[j] = u := fun j u hj e => by
    rw [Array.getElem?_toList, Array.getElem?_eq_getElem hj] at e
    exact Option.some.inj e
  match i, hi with
  | 0, _ => exact hg 0 _ h1 g0
  | 1, _ => exact hg 1 _ h1 g1
  | 2, _ => exact hg 2 _ h1 g2
  | 3, _ => exact hg 3 _ h1 g3
  | 4, _ => exact hg 4 _ h1 g4
  | 5, _ => exact hg 5 _ h1 g5
theorem trodAll_stays {H : Type} {enc : TypeId × Value → H} {W W' : World} (hb : Below W.heap.size W W') : ∀ {ts : List TypeId} {vs : List Value} {ds : List (DataW H)} {ps : List MemPlace},
    DataW.TrodAll enc Tryz.prog W 0 (fun _ => true) true ts vs ds ps → (∀ t ∈ ts, Tryz.prog.readableRec t = true ∧ t < Tryz.prog.types.size) → (∀ x ∈ ps, x.block < W.heap.size) → DataW.TrodAll enc Tryz.prog W' 0 (fun k => decide (k < W.heap.size)) true ts vs ds ps
  | [], vs, ds, ps, h, _, _ => by
    obtain ⟨rfl, rfl, rfl⟩ := trodAll_nil h
    exact trodAll_mk0
  | t :: ts, vs, ds, ps, h, ht, hlt => by
    obtain ⟨v, vs', d, ds', p, q, rfl, rfl, rfl, h1, h2⟩ := trodAll_cons h
    refine ⟨p, q, ?_, trodAll_stays hb h2 (fun t ht' => ht t (List.mem_cons_of_mem _ ht')) (fun x hx => hlt x (List.mem_append_right _ hx)), rfl⟩
    exact Go.WideElems.Trod_stays (by kernel_rfl) (ht t List.mem_cons_self).1 (ht t List.mem_cons_self).2 h1 (fun x hx => hb.same (hlt x (List.mem_append_left _ hx))) (fun x hx => by simpa using hlt x (List.mem_append_left _ hx))
theorem keep_script : Tryz.prog.readableRec 25 = true ∧ 25 < Tryz.prog.types.size := ⟨by kernel_rfl, of_decide_eq_true (by kernel_rfl)⟩
theorem keep_int : Tryz.prog.readableRec 3 = true ∧ 3 < Tryz.prog.types.size := ⟨by kernel_rfl, of_decide_eq_true (by kernel_rfl)⟩
theorem keep_string : Tryz.prog.readableRec 9 = true ∧ 9 < Tryz.prog.types.size := ⟨by kernel_rfl, of_decide_eq_true (by kernel_rfl)⟩
theorem keep_step : Tryz.prog.readableRec 27 = true ∧ 27 < Tryz.prog.types.size := ⟨by kernel_rfl, of_decide_eq_true (by kernel_rfl)⟩

end Go.Proofs.YtomiepknmmpflaaGreatDoor

namespace Go.Proofs.YtomiepknmmpflaaGreatDoor
open Go.RowKit Go.Joins

def Out1 (r : Int × Ov.Files) (l : Ov.Files) (x : ByteArray) : Prop := (r.1 ≠ 0 ∧ r.2 = l) ∨ (r.1 = 0 ∧ ∀ y, x ≠ y → getF r.2 y = getF l y)
theorem Out1.no {q : Int} {l : Ov.Files} {x : ByteArray} (h : q ≠ 0) : Out1 (q, l) l x := Or.inl ⟨h, rfl⟩
theorem Out1.id (l : Ov.Files) (x : ByteArray) : Out1 (0, l) l x := Or.inr ⟨rfl, fun _ _ => rfl⟩
theorem Out1.put (room : Nat) (l : Ov.Files) (x e : ByteArray) : Out1 (Ov.putF room l (Ov.withF l x e)) l x := by
  rcases putF_out room l (Ov.withF l x e) with h | h
  · rw [h]; exact Out1.no (by decide)
  · rw [h]; exact Or.inr ⟨rfl, fun y hy => by rw [getF_withF, if_neg hy]⟩
theorem out_make (room : Nat) (l : Ov.Files) (x : ByteArray) (n : Int) (bk : ByteArray) : Out1 (makeF room l x n bk) l x := by
  unfold makeF
  split
  · exact Out1.no (by decide)
  · split
    · exact Out1.no (by decide)
    · split
      · exact Out1.no (by decide)
      · split
        · rename_i h; exact Out1.no h.2
        · exact Out1.put _ _ _ _
theorem out_drop (l : Ov.Files) (x : ByteArray) : Out1 (Ov.dropF l x) l x := by
  unfold Ov.dropF
  split
  · exact Or.inr ⟨rfl, fun y hy => by show getF (l.filter _) y = _; rw [getF_drop, if_neg hy]⟩
  · exact Out1.no (by decide)
theorem out_write (room : Nat) (l : Ov.Files) (x : ByteArray) (f : Int) (d : ByteArray) : Out1 (writeF room l x f d) l x := by
  unfold writeF
  split
  · rename_i h; exact Out1.no h
  · split
    · exact Out1.id _ _
    · exact Out1.put _ _ _ _
theorem out_zero (room : Nat) (l : Ov.Files) (x : ByteArray) (f k : Int) : Out1 (zeroF room l x f k) l x := by
  unfold zeroF
  split
  · rename_i h; exact Out1.no h
  · split
    · exact Out1.id _ _
    · exact Out1.put _ _ _ _
theorem out_discard (room : Nat) (l : Ov.Files) (x : ByteArray) (f k : Int) : Out1 (discardF room l x f k) l x := by
  unfold discardF
  split
  · rename_i h; exact Out1.no h
  · split
    · exact Out1.id _ _
    · exact Out1.put _ _ _ _
theorem out_rebase (room : Nat) (l : Ov.Files) (x bk : ByteArray) : Out1 (rebaseF room l x bk) l x := by
  unfold rebaseF
  split
  · rename_i h; exact Out1.no h
  · split
    · rename_i h; exact Out1.no h.2
    · split
      · exact Out1.no (by decide)
      · exact Out1.put _ _ _ _
theorem out_load (room : Nat) (l : Ov.Files) (x f : ByteArray) : Out1 (Ov.loadF room l x f) l x := by
  unfold Ov.loadF
  split
  · exact Out1.no (by decide)
  · split
    · exact Out1.no (by decide)
    · exact Out1.put _ _ _ _
theorem play_out {l : Ov.Files} (o : StepK) (h : pickN o.kind 12 ≠ 8) : Out1 (playF 4000 l o) l (nameC o.a) := by
  unfold playF playN
  split
  · exact out_make _ _ _ _ _
  split
  · exact out_make _ _ _ _ _
  split
  · exact out_drop _ _
  split
  · exact out_write _ _ _ _ _
  split
  · exact out_zero _ _ _ _ _
  split
  · exact out_discard _ _ _ _ _
  split
  · exact out_rebase _ _ _ _
  split
  · exact out_rebase _ _ _ _
  · exact out_load _ _ _ _
theorem play_commit {l : Ov.Files} (o : StepK) (h : pickN o.kind 12 = 8) : playF 4000 l o = commitF 4000 l (nameC o.a) := by
  unfold playF playN
  rw [h]; rfl
theorem second_name {x bk : ByteArray} {rest : List ByteArray} (hx : x.size = 1) (hb : bk.size ≠ 0) : 3 ≤ (Ov.joinTo (x :: bk :: rest) (x :: bk :: rest).length).size ∧ (bk.size = 1 → (Ov.joinTo (x :: bk :: rest) (x :: bk :: rest).length).extract 2 3 = bk) := by
  rw [join_two]
  have e : Ov.joinTo (bk :: rest) (bk :: rest).length = bk ++ tailTo rest rest.length := join_cons bk rest rest.length
  rw [e]
  have hc : (⟨#[44]⟩ : ByteArray).size = 1 := rfl
  refine ⟨by simp only [ByteArray.size_append]; omega, fun h1 => ?_⟩
  refine byte_ext ?_ fun i hi => ?_
  · rw [ByteArray.size_extract]; simp only [ByteArray.size_append]; omega
  · rw [ByteArray.size_extract] at hi
    obtain rfl : i = 0 := by omega
    rw [byteAt_extract _ _ _ _ (by omega), byteAt_append, if_neg (by omega), byteAt_append, if_neg (by omega), byteAt_append, if_pos (by omega), hx, hc]
theorem refused_but {l l' : Ov.Files} {x bk t : ByteArray} {rest : List ByteArray} (h : Done l l' x bk rest) (hx : x.size = 1) (ht : (Ov.chainF l x).1 = t) : 3 ≤ t.size ∧ SameBut (markF l) (markF l') (x ++ t.extract 2 3) := by
  have e : t = Ov.joinTo (x :: bk :: rest) (x :: bk :: rest).length := by rw [← ht, chn_chain h.old]
  obtain ⟨h1, h2⟩ := second_name (rest := rest) hx h.size
  rw [← e] at h1 h2
  refine ⟨h1, fun i hi => ?_⟩
  by_cases e1 : x = nameK i
  · exact Or.inr (free_first hi e1)
  · by_cases e2 : bk = nameK i
    · exact Or.inr (free_second hi ((h2 (by rw [e2]; exact nameK_size hi)).trans e2))
    · exact Or.inl (markF_get (h.other _ e1 e2)).symm

end Go.Proofs.YtomiepknmmpflaaGreatDoor

