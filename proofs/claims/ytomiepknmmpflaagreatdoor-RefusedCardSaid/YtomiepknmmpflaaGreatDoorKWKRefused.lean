/- The law Refused. -/
import Derived.Test.YtomiepknmmpflaaGreatDoorKPRowK
namespace Go.Proofs.YtomiepknmmpflaaGreatDoor
open Go.RowKit Go.Joins

theorem Scr.kept {w w' : World} {B n : Nat} {a : Option Addr} (h : Scr w B a n) (hb : Below B w w') : Scr w' B a n := by
  refine ⟨h.len, h.nil, fun b hab => ⟨(h.at' b hab).1, fun i hi => ?_⟩⟩
  obtain ⟨h1, h2⟩ := h.at' b hab
  obtain ⟨o, ok, d⟩ := h2 i hi
  have hc : ∀ t, w'.cell? (b.add t) = w.cell? (b.add t) := fun t => hb.cell (p := b.add t) (by rw [add_block]; exact h1 (by omega))
  refine ⟨o, ok, ?_⟩
  rw [hc, hc, hc, hc, hc, hc]
  exact d

set_option maxRecDepth 100000 in
set_option maxHeartbeats 8000000 in
theorem kRefused_calls (B : Nat) (w : World) (s0 s1 s2 s3 : Addr) (a0 : Option Addr) (n0 c0 : Nat) (o : StepK) (h : Under w B s0 s1 s2 s3) (hs : Scr w B a0 n0) (ho : o.Ok) :
    Calls Tryz.prog 5 #[.slice a0 n0 c0, o.val] w fun e w' => e = .returned (.bool true) ∧ Below B w w' := by
  have hBz := h.se.size
  have hbl := below_alloc1 w (.cells #[.int .i64 o.kind, .int .i64 o.a, .int .i64 o.b, .int .i64 o.n, .int .i64 o.m, .string o.t] 27)
  have HZ := hide (blk_new w (.cells #[.int .i64 o.kind, .int .i64 o.a, .int .i64 o.b, .int .i64 o.n, .int .i64 o.m, .string o.t] 27))
  have HPL := hide (kplayed_calls B [w.heap.size] s0 s1 s2 s3 _ a0 n0 c0 (h.kept (hbl.mono hBz)) (fun k hk => by rw [List.mem_singleton.1 hk]; simp) (hs.kept (hbl.mono hBz)))
  have HB0 := hide (hbl.mono hBz)
  have HNM : Hid (∀ w, Calls Tryz.prog 18 #[.int .i64 o.a] w fun e w' => e = .returned (.string (nameC o.a)) ∧ w = w') := fun w => kname_calls _ w ho.2.1.1 ho.2.1.2
  have HPK : Hid (∀ w, Calls Tryz.prog 21 #[.int .i64 o.kind, .int .i64 12] w fun e w' => e = .returned (.int .i64 (pickN o.kind 12 : Nat)) ∧ w = w') := fun w => kpick_calls _ 12 w ho.1.1 ho.1.2 (by omega) (by omega)
  have HPY : Hid (∀ (w1 : World) (b : Nat) (P : List Nat) (l : Ov.Files), KW w1 B b P s0 s1 s2 s3 4000 l → Calls Tryz.prog 19 #[.pointer (some ⟨b, 0, none⟩), .agg #[.int .i64 o.kind, .int .i64 o.a, .int .i64 o.b, .int .i64 o.n, .int .i64 o.m, .string o.t]] w1 (KPost (.int .i64 (playF 4000 l o).1) B b P s0 s1 s2 s3 4000 (playF 4000 l o).2 w1)) := fun w1 b P l hk => kplay_calls o B b P s0 s1 s2 s3 4000 l w1 hk ho
  have HX1 := hide (nameC_size o.a)
  have HOC : Hid (∀ l, pickN o.kind 12 = 8 → playF 4000 l o = commitF 4000 l (nameC o.a)) := fun l e => play_commit o e
  have HOP : Hid (∀ l, pickN o.kind 12 ≠ 8 → Out1 (playF 4000 l o) l (nameC o.a)) := fun l e => play_out o e
  have HR : Hid (∃ F : Ov.Files → Int × Ov.Files, ∀ l, playF 4000 l o = F l) := ⟨_, fun _ => rfl⟩
  obtain ⟨R, hR⟩ := unhide HR
  have HPY' : Hid (∀ (w1 : World) (b : Nat) (P : List Nat) (l : Ov.Files), KW w1 B b P s0 s1 s2 s3 4000 l → Calls Tryz.prog 19 #[.pointer (some ⟨b, 0, none⟩), .agg #[.int .i64 o.kind, .int .i64 o.a, .int .i64 o.b, .int .i64 o.n, .int .i64 o.m, .string o.t]] w1 (KPost (.int .i64 (R l).1) B b P s0 s1 s2 s3 4000 (R l).2 w1)) := fun w1 b P l hk => by
    have := unhide HPY w1 b P l hk
    rwa [hR] at this
  have HOC' : Hid (∀ l, pickN o.kind 12 = 8 → R l = commitF 4000 l (nameC o.a)) := fun l e => by rw [← hR]; exact unhide HOC l e
  have HOP' : Hid (∀ l, pickN o.kind 12 ≠ 8 → Out1 (R l) l (nameC o.a)) := fun l e => by rw [← hR]; exact unhide HOP l e
  clear HPY HOC HOP HR hR h hs ho hbl
  obtain ⟨kind, oa, ob, on, om, ot⟩ := o
  dsimp only at *
  obtain ⟨x, hx⟩ : ∃ x, nameC oa = x := ⟨_, rfl⟩
  obtain ⟨kk, hkk⟩ : ∃ k, pickN kind 12 = k := ⟨_, rfl⟩
  rw [hx] at HNM HX1 HOC' HOP'
  rw [hkk] at HPK HOC' HOP'
  clear hx hkk
  dsimp only [StepK.val]
  go_enter Tryz.func5, Tryz.ntmps5
  go_wp2_with (first
    | (go_at_call 16; refine (kfiles_calls B b [w.heap.size] s0 s1 s2 s3 4000 l _ (unhide HK1)).mono ?_; rintro e w2 ⟨g1, c1, rfl, hk2, hf2, ho2, hn2⟩
       have y1 : w2.cell? ⟨w.heap.size, 1, none⟩ = some (.int .i64 oa) := blk_cell (i := 1) ((hf2.own _ (by simp)).trans (((unhide HF1).own _ (by simp)).trans (unhide HZ))) rfl
       have HZ2 : Hid (w2.heap[w.heap.size]? = _) := (hf2.own _ (by simp)).trans (((unhide HF1).own _ (by simp)).trans (unhide HZ))
       have HK2 := hide hk2; have HF2 := hide hf2; have HO2 := hide ho2; clear hk2 hf2 ho2 hn2)
    | (go_at_call 18; refine (unhide HNM _).mono ?_; rintro e w9 ⟨rfl, rfl⟩)
    | (go_at_call 15; refine (unhide HPL).mono ?_; rintro e w1 ⟨b, l, rfl, hk1, hf1, _⟩; have HK1 := hide hk1; have HF1 := hide hf1; clear hk1 hf1))
  have HCH : Hid (Calls Tryz.prog 17 #[.pointer (some ⟨b, 0, none⟩), .string x] w2 (KPost (.tuple #[.string (Ov.chainF l x).1, .string (Ov.chainF l x).2.1, .int .i64 (Ov.chainF l x).2.2]) B b [g1, w.heap.size] s0 s1 s2 s3 4000 l w2)) := kChain (unhide HK2) x
  have HT8 := hide (LI.join_size80 (unhide HK2).li x)
  obtain ⟨t, ht⟩ : ∃ t, (Ov.chainF l x).1 = t := ⟨_, rfl⟩
  obtain ⟨t1, ht1⟩ : ∃ t, (Ov.chainF l x).2.1 = t := ⟨_, rfl⟩
  obtain ⟨t2, ht2⟩ : ∃ t, (Ov.chainF l x).2.2 = t := ⟨_, rfl⟩
  rw [ht, ht1, ht2] at HCH
  rw [ht] at HT8
  have ht80 := unhide HT8
  have hx1 := unhide HX1
  have HPY2 := hide (fun (w1 : World) hk => unhide HPY' w1 b [g1, w.heap.size] l hk)
  have HOUT : Hid (((R l).1 ≠ 0 ∧ (R l).2 = l) ∨ ((R l).1 = 0 ∧ (kk = 8 ∧ 3 ≤ t.size ∧ SameBut (markF l) (markF (R l).2) (x ++ t.extract 2 3) ∨ kk ≠ 8 ∧ SameBut (markF l) (markF (R l).2) x))) := by
    by_cases h8 : kk = 8
    · rw [unhide HOC' l h8]
      rcases commit_out 4000 l x with ⟨q1, q2, _⟩ | ⟨q1, rest, q2⟩
      · exact Or.inl ⟨q1, q2⟩
      · obtain ⟨q3, q4⟩ := refused_but q2 hx1 ht
        exact Or.inr ⟨q1, Or.inl ⟨h8, q3, q4⟩⟩
    · rcases unhide HOP' l h8 with q | ⟨q1, q2⟩
      · exact Or.inl q
      · exact Or.inr ⟨q1, Or.inr ⟨h8, sameBut_one q2⟩⟩
  obtain ⟨r, hr⟩ : ∃ r, R l = r := ⟨_, rfl⟩
  rw [hr] at HPY2 HOUT
  obtain ⟨q, m⟩ := r
  dsimp only at HPY2 HOUT
  clear hr HPL HPY' HOC' HOP' ht ht1 ht2
  rcases unhide HOUT with ⟨hq, rfl⟩ | ⟨rfl, ⟨rfl, h3, hsb⟩ | ⟨h8, hsb⟩⟩
  · have hqn : (q != 0) = true := by rw [bne_iff_ne]; exact hq
    have HSB := hide (sameBut_all (f := markF m) (g := markF m) (fun _ _ => rfl) ⟨#[]⟩)
    clear HOUT
    go_wp2_with (first
      | (go_at_call 20; refine (ksame_calls (markF m) (markF m) ⟨#[]⟩ g1 g2 c1 c2 B B _ (owns_of_blocks (unhide HO2) (fun k hk => by obtain rfl := Option.some.inj hk; exact (unhide HG))) (unhide HO5) (Nat.zero_le _) (unhide HSB)).mono ?_; rintro e w7 ⟨rfl, hb7⟩; have HB7 := hide hb7; clear hb7)
      | (go_at_call 21; refine (unhide HPK _).mono ?_; rintro e w9 ⟨rfl, rfl⟩)
      | (go_at_call 18; refine (unhide HNM _).mono ?_; rintro e w9 ⟨rfl, rfl⟩)
      | (go_at_call 16; refine (kfiles_calls B b [g1, w.heap.size] s0 s1 s2 s3 4000 m _ (unhide HK4).1).mono ?_; rintro e w5 ⟨g2, c2, rfl, hk5, hf5, ho5, _⟩
         have z0 : w5.cell? ⟨w.heap.size, 0, none⟩ = some (.int .i64 kind) := blk_cell (i := 0) ((hf5.own _ (by simp)).trans (((unhide HK4).2.own _ (by simp)).trans (((unhide HK3).2.own _ (by simp)).trans (unhide HZ2)))) rfl
         have z1 : w5.cell? ⟨w.heap.size, 1, none⟩ = some (.int .i64 oa) := blk_cell (i := 1) ((hf5.own _ (by simp)).trans (((unhide HK4).2.own _ (by simp)).trans (((unhide HK3).2.own _ (by simp)).trans (unhide HZ2)))) rfl
         have HG : Hid (w5.heap[g1]? = w2.heap[g1]?) := (hf5.own g1 (by simp)).trans (((unhide HK4).2.own g1 (by simp)).trans ((unhide HK3).2.own g1 (by simp)))
         have HF5 : Hid (Below B w w5) := (unhide HB0).trans ((unhide HF1).below.trans ((unhide HF2).below.trans ((unhide HK3).2.below.trans ((unhide HK4).2.below.trans hf5.below))))
         have HO5 := hide ho5; have hz5 := hk5.un.se.size; clear hk5 hf5 ho5)
      | (go_at_call 19; refine (unhide HPY2 _ (unhide HK3).1).mono ?_; rintro e w4 ⟨rfl, hk⟩; have HK4 := hide hk; clear hk)
      | (go_at_call 17; refine (unhide HCH).mono ?_; rintro e w3 ⟨rfl, hk⟩
         have v0 : w3.cell? ⟨w.heap.size, 0, none⟩ = some (.int .i64 kind) := blk_cell (i := 0) ((hk.2.own _ (by simp)).trans (unhide HZ2)) rfl
         have v1 : w3.cell? ⟨w.heap.size, 1, none⟩ = some (.int .i64 oa) := blk_cell (i := 1) ((hk.2.own _ (by simp)).trans (unhide HZ2)) rfl
         have v2 : w3.cell? ⟨w.heap.size, 2, none⟩ = some (.int .i64 ob) := blk_cell (i := 2) ((hk.2.own _ (by simp)).trans (unhide HZ2)) rfl
         have v3 : w3.cell? ⟨w.heap.size, 3, none⟩ = some (.int .i64 on) := blk_cell (i := 3) ((hk.2.own _ (by simp)).trans (unhide HZ2)) rfl
         have v4 : w3.cell? ⟨w.heap.size, 4, none⟩ = some (.int .i64 om) := blk_cell (i := 4) ((hk.2.own _ (by simp)).trans (unhide HZ2)) rfl
         have v5 : w3.cell? ⟨w.heap.size, 5, none⟩ = some (.string ot) := blk_cell (i := 5) ((hk.2.own _ (by simp)).trans (unhide HZ2)) rfl
         have HK3 := hide hk; clear hk))
    go_ret
    exact ⟨rfl, (unhide HF5).trans ((unhide HB7).mono hz5)⟩
  · have HSB := hide hsb
    clear hsb HOUT
    go_wp2_with (first
      | (go_at_call 20; refine (ksame_calls (markF l) (markF m) (x ++ t.extract 2 3) g1 g2 c1 c2 B B _ (owns_of_blocks (unhide HO2) (fun k hk => by obtain rfl := Option.some.inj hk; exact (unhide HG))) (unhide HO5) (by rw [ByteArray.size_append, ByteArray.size_extract]; omega) (unhide HSB)).mono ?_; rintro e w7 ⟨rfl, hb7⟩; have HB7 := hide hb7; clear hb7)
      | (go_at_call 21; refine (unhide HPK _).mono ?_; rintro e w9 ⟨rfl, rfl⟩)
      | (go_at_call 18; refine (unhide HNM _).mono ?_; rintro e w9 ⟨rfl, rfl⟩)
      | (go_at_call 16; refine (kfiles_calls B b [g1, w.heap.size] s0 s1 s2 s3 4000 m _ (unhide HK4).1).mono ?_; rintro e w5 ⟨g2, c2, rfl, hk5, hf5, ho5, _⟩
         have z0 : w5.cell? ⟨w.heap.size, 0, none⟩ = some (.int .i64 kind) := blk_cell (i := 0) ((hf5.own _ (by simp)).trans (((unhide HK4).2.own _ (by simp)).trans (((unhide HK3).2.own _ (by simp)).trans (unhide HZ2)))) rfl
         have z1 : w5.cell? ⟨w.heap.size, 1, none⟩ = some (.int .i64 oa) := blk_cell (i := 1) ((hf5.own _ (by simp)).trans (((unhide HK4).2.own _ (by simp)).trans (((unhide HK3).2.own _ (by simp)).trans (unhide HZ2)))) rfl
         have HG : Hid (w5.heap[g1]? = w2.heap[g1]?) := (hf5.own g1 (by simp)).trans (((unhide HK4).2.own g1 (by simp)).trans ((unhide HK3).2.own g1 (by simp)))
         have HF5 : Hid (Below B w w5) := (unhide HB0).trans ((unhide HF1).below.trans ((unhide HF2).below.trans ((unhide HK3).2.below.trans ((unhide HK4).2.below.trans hf5.below))))
         have HO5 := hide ho5; have hz5 := hk5.un.se.size; clear hk5 hf5 ho5)
      | (go_at_call 19; refine (unhide HPY2 _ (unhide HK3).1).mono ?_; rintro e w4 ⟨rfl, hk⟩; have HK4 := hide hk; clear hk)
      | (go_at_call 17; refine (unhide HCH).mono ?_; rintro e w3 ⟨rfl, hk⟩
         have v0 : w3.cell? ⟨w.heap.size, 0, none⟩ = some (.int .i64 kind) := blk_cell (i := 0) ((hk.2.own _ (by simp)).trans (unhide HZ2)) rfl
         have v1 : w3.cell? ⟨w.heap.size, 1, none⟩ = some (.int .i64 oa) := blk_cell (i := 1) ((hk.2.own _ (by simp)).trans (unhide HZ2)) rfl
         have v2 : w3.cell? ⟨w.heap.size, 2, none⟩ = some (.int .i64 ob) := blk_cell (i := 2) ((hk.2.own _ (by simp)).trans (unhide HZ2)) rfl
         have v3 : w3.cell? ⟨w.heap.size, 3, none⟩ = some (.int .i64 on) := blk_cell (i := 3) ((hk.2.own _ (by simp)).trans (unhide HZ2)) rfl
         have v4 : w3.cell? ⟨w.heap.size, 4, none⟩ = some (.int .i64 om) := blk_cell (i := 4) ((hk.2.own _ (by simp)).trans (unhide HZ2)) rfl
         have v5 : w3.cell? ⟨w.heap.size, 5, none⟩ = some (.string ot) := blk_cell (i := 5) ((hk.2.own _ (by simp)).trans (unhide HZ2)) rfl
         have HK3 := hide hk; clear hk))
    go_ret
    exact ⟨rfl, (unhide HF5).trans ((unhide HB7).mono hz5)⟩
  · have HSB := hide hsb
    have h8n : ((kk : Int) == 8) = false := beq_eq_false_iff_ne.2 (by omega)
    clear hsb HOUT
    go_wp2_with (first
      | (go_at_call 20; refine (ksame_calls (markF l) (markF m) x g1 g2 c1 c2 B B _ (owns_of_blocks (unhide HO2) (fun k hk => by obtain rfl := Option.some.inj hk; exact (unhide HG))) (unhide HO5) (by omega) (unhide HSB)).mono ?_; rintro e w7 ⟨rfl, hb7⟩; have HB7 := hide hb7; clear hb7)
      | (go_at_call 21; refine (unhide HPK _).mono ?_; rintro e w9 ⟨rfl, rfl⟩)
      | (go_at_call 18; refine (unhide HNM _).mono ?_; rintro e w9 ⟨rfl, rfl⟩)
      | (go_at_call 16; refine (kfiles_calls B b [g1, w.heap.size] s0 s1 s2 s3 4000 m _ (unhide HK4).1).mono ?_; rintro e w5 ⟨g2, c2, rfl, hk5, hf5, ho5, _⟩
         have z0 : w5.cell? ⟨w.heap.size, 0, none⟩ = some (.int .i64 kind) := blk_cell (i := 0) ((hf5.own _ (by simp)).trans (((unhide HK4).2.own _ (by simp)).trans (((unhide HK3).2.own _ (by simp)).trans (unhide HZ2)))) rfl
         have z1 : w5.cell? ⟨w.heap.size, 1, none⟩ = some (.int .i64 oa) := blk_cell (i := 1) ((hf5.own _ (by simp)).trans (((unhide HK4).2.own _ (by simp)).trans (((unhide HK3).2.own _ (by simp)).trans (unhide HZ2)))) rfl
         have HG : Hid (w5.heap[g1]? = w2.heap[g1]?) := (hf5.own g1 (by simp)).trans (((unhide HK4).2.own g1 (by simp)).trans ((unhide HK3).2.own g1 (by simp)))
         have HF5 : Hid (Below B w w5) := (unhide HB0).trans ((unhide HF1).below.trans ((unhide HF2).below.trans ((unhide HK3).2.below.trans ((unhide HK4).2.below.trans hf5.below))))
         have HO5 := hide ho5; have hz5 := hk5.un.se.size; clear hk5 hf5 ho5)
      | (go_at_call 19; refine (unhide HPY2 _ (unhide HK3).1).mono ?_; rintro e w4 ⟨rfl, hk⟩; have HK4 := hide hk; clear hk)
      | (go_at_call 17; refine (unhide HCH).mono ?_; rintro e w3 ⟨rfl, hk⟩
         have v0 : w3.cell? ⟨w.heap.size, 0, none⟩ = some (.int .i64 kind) := blk_cell (i := 0) ((hk.2.own _ (by simp)).trans (unhide HZ2)) rfl
         have v1 : w3.cell? ⟨w.heap.size, 1, none⟩ = some (.int .i64 oa) := blk_cell (i := 1) ((hk.2.own _ (by simp)).trans (unhide HZ2)) rfl
         have v2 : w3.cell? ⟨w.heap.size, 2, none⟩ = some (.int .i64 ob) := blk_cell (i := 2) ((hk.2.own _ (by simp)).trans (unhide HZ2)) rfl
         have v3 : w3.cell? ⟨w.heap.size, 3, none⟩ = some (.int .i64 on) := blk_cell (i := 3) ((hk.2.own _ (by simp)).trans (unhide HZ2)) rfl
         have v4 : w3.cell? ⟨w.heap.size, 4, none⟩ = some (.int .i64 om) := blk_cell (i := 4) ((hk.2.own _ (by simp)).trans (unhide HZ2)) rfl
         have v5 : w3.cell? ⟨w.heap.size, 5, none⟩ = some (.string ot) := blk_cell (i := 5) ((hk.2.own _ (by simp)).trans (unhide HZ2)) rfl
         have HK3 := hide hk; clear hk))
    go_ret
    exact ⟨rfl, (unhide HF5).trans ((unhide HB7).mono hz5)⟩

end Go.Proofs.YtomiepknmmpflaaGreatDoor

