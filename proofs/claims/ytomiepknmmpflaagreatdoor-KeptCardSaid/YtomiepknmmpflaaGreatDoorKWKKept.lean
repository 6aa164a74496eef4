/- The law Kept. -/
import Derived.Test.YtomiepknmmpflaaGreatDoorKPRowK
namespace Go.Proofs.YtomiepknmmpflaaGreatDoor
open Go.RowKit Go.Joins

theorem markV_get {l l' : Ov.Files} {i : Nat} (h : readK l' (nameK i) = readK l (nameK i)) : markV l' i = markV l i := by
  unfold markV
  rw [h]
def othersTo (x : ByteArray) : Nat → ByteArray
  | 0 => ⟨#[]⟩
  | k + 1 => if nameK k = x then othersTo x k else othersTo x k ++ nameK k
theorem othersTo_size (x : ByteArray) : ∀ {k : Nat}, k ≤ 6 → (othersTo x k).size ≤ k
  | 0, _ => Nat.le_refl _
  | k + 1, h => by
    have := othersTo_size x (k := k) (by omega)
    rw [othersTo]
    split
    · omega
    · rw [ByteArray.size_append, nameK_size (by omega)]; omega
theorem othersTo_mem {x : ByteArray} {i : Nat} (hi : i < 6) (hx : nameK i ≠ x) : ∀ {n : Nat}, i < n → ∃ k, k < (othersTo x n).size ∧ Ov.byteAt (othersTo x n) k = 97 + i
  | 0, h => by omega
  | n + 1, h => by
    rw [othersTo]
    by_cases e : i = n
    · subst e
      rw [if_neg hx]
      exact free_second hi rfl
    · obtain ⟨k, k1, k2⟩ := othersTo_mem hi hx (n := n) (by omega)
      split
      · exact ⟨k, k1, k2⟩
      · refine ⟨k, by rw [ByteArray.size_append]; omega, ?_⟩
        rw [byteAt_append, if_pos k1]; exact k2
theorem done_views {l l' : Ov.Files} {x bk : ByteArray} {rest : List ByteArray} (h : Done l l' x bk rest) : SameBut (markV l) (markV l') (othersTo x 6) := fun i hi => by
  by_cases e : nameK i = x
  · refine Or.inl (markV_get ?_).symm
    rw [e, readK_yes h.old, readK_yes h.chn, h.many, viewF_ext (fun i _ => h.at' i)]
  · exact Or.inr (othersTo_mem hi e hi)
theorem rebased_views {l l' : Ov.Files} {x bk : ByteArray} {ms nb : List ByteArray} (h : Rebased l l' x bk ms nb) : SameBut (markV l) (markV l') ⟨#[]⟩ := sameBut_all (fun i _ => (markV_get (h.views (nameK i))).symm) _
theorem rebased_chain {l l' : Ov.Files} {x bk : ByteArray} {ms nb : List ByteArray} (h : Rebased l l' x bk ms nb) (hb : bk.size ≠ 0) : Ov.chainF l' x = (x ++ ⟨#[44]⟩ ++ (Ov.chainF l bk).1, ⟨#[]⟩, 0) := by
  rcases h.below with ⟨e, _⟩ | ⟨_, k⟩
  · exact absurd e hb
  · obtain ⟨r, hr⟩ := chn_head k
    have hc := chn_chain h.chn
    rw [chn_chain k, hc, hr, join_two, bytes_assoc]
theorem flat_chain {l l' : Ov.Files} {x : ByteArray} {ms nb : List ByteArray} (h : Rebased l l' x ⟨#[]⟩ ms nb) : Ov.chainF l' x = (x, ⟨#[]⟩, 0) := by
  rcases h.below with ⟨_, e⟩ | ⟨q, _⟩
  · have hc := chn_chain h.chn
    rw [e, join_one] at hc
    exact hc
  · exact absurd rfl q
theorem toList_no {a b : ByteArray} (h : a ≠ b) : (a.toList == b.toList) = false := beq_eq_false_iff_ne.2 (fun q => h (by rw [ByteArray.toList_eq, ByteArray.toList_eq] at q; exact bytes_ext q))

set_option maxRecDepth 100000 in
set_option maxHeartbeats 8000000 in
theorem kKept_calls (B : Nat) (w : World) (s0 s1 s2 s3 : Addr) (a0 : Option Addr) (n0 c0 : Nat) (a cc kd : Int) (h : Under w B s0 s1 s2 s3) (hs : Scr w B a0 n0) (ha : In64 a) (hcc : In64 cc) (hkd : In64 kd) :
    Calls Tryz.prog 6 #[.slice a0 n0 c0, .int .i64 a, .int .i64 cc, .int .i64 kd] w fun e w' => e = .returned (.bool true) ∧ Below B w w' := by
  have HPL := hide (kplayed_calls B [] s0 s1 s2 s3 w a0 n0 c0 h (fun k hk => by cases hk) hs)
  have HNA : Hid (∀ w, Calls Tryz.prog 18 #[.int .i64 a] w fun e w' => e = .returned (.string (nameC a)) ∧ w = w') := fun w => kname_calls _ w ha.1 ha.2
  have HNB : Hid (∀ w, Calls Tryz.prog 18 #[.int .i64 cc] w fun e w' => e = .returned (.string (nameC cc)) ∧ w = w') := fun w => kname_calls _ w hcc.1 hcc.2
  have HPK : Hid (∀ w, Calls Tryz.prog 21 #[.int .i64 kd, .int .i64 3] w fun e w' => e = .returned (.int .i64 (pickN kd 3 : Nat)) ∧ w = w') := fun w => kpick_calls _ 3 w hkd.1 hkd.2 (by omega) (by omega)
  have hk3 := pickN_lt kd (n := 3) (by omega)
  have hx1 := nameC_size a
  have hy1 := nameC_size cc
  obtain ⟨x, hx⟩ : ∃ x, nameC a = x := ⟨_, rfl⟩
  obtain ⟨y, hy⟩ : ∃ y, nameC cc = y := ⟨_, rfl⟩
  obtain ⟨kk, hkk⟩ : ∃ k, pickN kd 3 = k := ⟨_, rfl⟩
  rw [hx] at HNA hx1
  rw [hy] at HNB hy1
  rw [hkk] at HPK hk3
  clear h hs hx hy hkk ha hcc hkd
  go_enter Tryz.func6, Tryz.ntmps6
  go_wp2_with (first
    | (go_at_call 22; refine (kviews_calls B b [] s0 s1 s2 s3 4000 l _ (unhide HK1)).mono ?_; rintro e w2 ⟨g1, c1, rfl, hk2, hf2, ho2, _⟩; have HK2 := hide hk2; have HF2 := hide hf2; have HO2 := hide ho2; clear hk2 hf2 ho2)
    | (go_at_call_of 18 (Value.int IntKind.i64 a); refine (unhide HNA _).mono ?_; rintro e w9 ⟨rfl, rfl⟩)
    | (go_at_call_of 18 (Value.int IntKind.i64 cc); refine (unhide HNB _).mono ?_; rintro e w9 ⟨rfl, rfl⟩)
    | (go_at_call 15; refine (unhide HPL).mono ?_; rintro e w1 ⟨b, l, rfl, hk1, hf1, _⟩; have HK1 := hide hk1; have HF1 := hide hf1; clear hk1 hf1))
  have HCX : Hid (Calls Tryz.prog 17 #[.pointer (some ⟨b, 0, none⟩), .string x] w2 (KPost (.tuple #[.string (Ov.chainF l x).1, .string (Ov.chainF l x).2.1, .int .i64 (Ov.chainF l x).2.2]) B b [g1] s0 s1 s2 s3 4000 l w2)) := kChain (unhide HK2) x
  have HCY : Hid (∀ w1, KW w1 B b [g1] s0 s1 s2 s3 4000 l → Calls Tryz.prog 17 #[.pointer (some ⟨b, 0, none⟩), .string y] w1 (KPost (.tuple #[.string (Ov.chainF l y).1, .string (Ov.chainF l y).2.1, .int .i64 (Ov.chainF l y).2.2]) B b [g1] s0 s1 s2 s3 4000 l w1)) := fun w1 hk => kChain hk y
  have hcx80 := LI.join_size80 (unhide HK2).li x
  have hcy80 := LI.join_size80 (unhide HK2).li y
  have HLI := hide (unhide HK2).li
  have HCXE : Hid (∀ t, (Ov.chainF l x).1 = t → ∀ l' bk rest, Done l l' x bk rest → Ov.chainF l' x = (t, ⟨#[]⟩, 0)) := fun t e l' bk rest hd => by
    rw [chn_chain hd.chn, ← e, chn_chain hd.old]
  have HCYE : Hid (∀ t, (Ov.chainF l y).1 = t → ∀ l' ms nb, Rebased l l' x y ms nb → Ov.chainF l' x = (x ++ ⟨#[44]⟩ ++ t, ⟨#[]⟩, 0)) := fun t e l' ms nb hd => by
    rw [← e]; exact rebased_chain hd (by omega)
  obtain ⟨cx, hcx⟩ : ∃ t, (Ov.chainF l x).1 = t := ⟨_, rfl⟩
  obtain ⟨cx1, hcx1⟩ : ∃ t, (Ov.chainF l x).2.1 = t := ⟨_, rfl⟩
  obtain ⟨cx2, hcx2⟩ : ∃ t, (Ov.chainF l x).2.2 = t := ⟨_, rfl⟩
  obtain ⟨cy, hcy⟩ : ∃ t, (Ov.chainF l y).1 = t := ⟨_, rfl⟩
  obtain ⟨cy1, hcy1⟩ : ∃ t, (Ov.chainF l y).2.1 = t := ⟨_, rfl⟩
  obtain ⟨cy2, hcy2⟩ : ∃ t, (Ov.chainF l y).2.2 = t := ⟨_, rfl⟩
  have HCXE2 := hide (unhide HCXE cx hcx)
  have HCYE2 := hide (unhide HCYE cy hcy)
  rw [hcx, hcx1, hcx2] at HCX
  rw [hcy, hcy1, hcy2] at HCY
  rw [hcx] at hcx80
  rw [hcy] at hcy80
  clear hcx hcx1 hcx2 hcy hcy1 hcy2 HCXE HCYE
  go_wp2_with (first
    | (go_at_call 17; refine (unhide HCY _ (unhide HK3).1).mono ?_; rintro e w4 ⟨rfl, hk⟩; have HK4 := hide hk; clear hk)
    | (go_at_call 17; refine (unhide HCX).mono ?_; rintro e w3 ⟨rfl, hk⟩; have HK3 := hide hk; clear hk))
  have HFA : Hid (Below B w w4) := (unhide HF1).below.trans ((unhide HF2).below.trans ((unhide HK3).2.below.trans (unhide HK4).2.below))
  have HG4 : Hid (w4.heap[g1]? = w2.heap[g1]?) := ((unhide HK4).2.own g1 (by simp)).trans ((unhide HK3).2.own g1 (by simp))
  have HW4 := hide (unhide HK4).1
  clear HK1 HK2 HK3 HK4 HF1 HF2 HCX HCY HPL HNA HNB
  obtain rfl | rfl | rfl : kk = 0 ∨ kk = 1 ∨ kk = 2 := by omega
  · have HCL : Hid (Calls Tryz.prog 23 #[.pointer (some ⟨b, 0, none⟩), .string x] w4 (KPost (.int .i64 (commitF 4000 l x).1) B b [g1] s0 s1 s2 s3 4000 (commitF 4000 l x).2 w4)) := kCommit (unhide HW4) x
    rcases commit_out 4000 l x with ⟨q1, _⟩ | ⟨q1, rest, hdn⟩
    · obtain ⟨r, hr⟩ : ∃ r, commitF 4000 l x = r := ⟨_, rfl⟩
      rw [hr] at HCL q1
      obtain ⟨e, m⟩ := r
      dsimp only at HCL q1
      have hen : (e != 0) = true := by rw [bne_iff_ne]; exact q1
      clear hr
      go_wp2_with (first
        | (go_at_call 21; refine (unhide HPK _).mono ?_; rintro e w9 ⟨rfl, rfl⟩)
        | (go_at_call 23; refine (unhide HCL).mono ?_; rintro e w5 ⟨rfl, hk⟩; have HK5 := hide hk; clear hk))
      go_ret
      exact ⟨rfl, (unhide HFA).trans (unhide HK5).2.below⟩
    · have hch := unhide HCXE2 _ _ _ hdn
      have hsb := done_views hdn
      obtain ⟨r, hr⟩ : ∃ r, commitF 4000 l x = r := ⟨_, rfl⟩
      rw [hr] at HCL q1 hch hsb
      obtain ⟨e, m⟩ := r
      dsimp only at HCL q1 hch hsb
      subst q1
      have HSB := hide hsb
      have HCN : Hid (∀ (w1 : World) (P : List Nat), KW w1 B b P s0 s1 s2 s3 4000 m → Calls Tryz.prog 17 #[.pointer (some ⟨b, 0, none⟩), .string x] w1 (KPost (.tuple #[.string cx, .string ⟨#[]⟩, .int .i64 0]) B b P s0 s1 s2 s3 4000 m w1)) := fun w1 P hk => by
        have := kChain hk x
        rwa [hch] at this
      clear hr hch hsb hdn
      go_wp2_with (first
        | (go_at_call 21; refine (unhide HPK _).mono ?_; rintro e w9 ⟨rfl, rfl⟩)
        | (go_at_call 17; refine (unhide HCN _ _ (unhide HK6)).mono ?_; rintro e w7 ⟨rfl, hk⟩
           have HG2 : Hid (w7.heap[g2]? = w6.heap[g2]?) := hk.2.own g2 (by simp)
           have HG1 : Hid (w7.heap[g1]? = w2.heap[g1]?) := (hk.2.own g1 (by simp)).trans (((unhide HF6).own g1 (by simp)).trans (((unhide HK5).2.own g1 (by simp)).trans (unhide HG4)))
           have HF7 : Hid (Below B w w7) := (unhide HFA).trans ((unhide HK5).2.below.trans ((unhide HF6).below.trans hk.2.below))
           have hz7 := hk.1.un.se.size; clear hk)
        | (go_at_call 22; refine (kviews_calls B b [g1] s0 s1 s2 s3 4000 m _ (unhide HK5).1).mono ?_; rintro e w6 ⟨g2, c2, rfl, hk6, hf6, ho6, _⟩; have HK6 := hide hk6; have HF6 := hide hf6; have HO6 := hide ho6; clear hk6 hf6 ho6)
        | (go_at_call 23; refine (unhide HCL).mono ?_; rintro e w5 ⟨rfl, hk⟩; have HK5 := hide hk; clear hk))
      go_loopw [25, 26] (fun ov iv wr => w7 = wr ∧ ∃ (k : Nat) (z : ByteArray), k ≤ 6 ∧ iv = .int .i64 (k : Nat) ∧ ov = .string z ∧ z.size ≤ 6 ∧ Hid (z = othersTo x k)) (fun _ iv _ => 6 - (intOf iv).toNat)
      case atStart => exact ⟨rfl, 0, _, Nat.zero_le _, rfl, rfl, by decide, rfl⟩
      case round =>
        obtain ⟨rfl, k, z, hk, rfl, rfl, hz6, HZ⟩ := hrel
        by_cases hlt : k < 6
        · by_cases he : nameK k = x
          · have HZ1 : Hid (z = othersTo x (k + 1)) := by rw [othersTo, if_pos he]; exact unhide HZ
            have hq : ((⟨#[97, 98, 99, 100, 101, 102]⟩ : ByteArray).extract k (k + 1)).toList = x.toList := by rw [← he]; rfl
            have hqb : (((⟨#[97, 98, 99, 100, 101, 102]⟩ : ByteArray).extract k (k + 1)).toList == x.toList) = true := by rw [hq]; simp
            clear he hq
            go_wp2_with fail
            go_roundw
            case rel => exact ⟨by first | trivial | rfl, k + 1, z, by omega, by go_num, rfl, hz6, HZ1⟩
            case measure => simp [intOf]; omega
          · have HZ1 : Hid (z ++ (⟨#[97, 98, 99, 100, 101, 102]⟩ : ByteArray).extract k (k + 1) = othersTo x (k + 1)) := by rw [othersTo, if_neg he, unhide HZ]; exact rfl
            have hs1 := othersTo_size x (k := k + 1) (by omega)
            rw [← unhide HZ1] at hs1
            have hqb : (((⟨#[97, 98, 99, 100, 101, 102]⟩ : ByteArray).extract k (k + 1)).toList == x.toList) = false := toList_no (a := nameK k) he
            clear he
            go_wp2_with fail
            go_roundw
            case rel => exact ⟨by first | trivial | rfl, k + 1, _, by omega, by go_num, rfl, by omega, HZ1⟩
            case measure => simp [intOf]; omega
        · obtain rfl : k = 6 := by omega
          have hzo := unhide HZ
          rw [← hzo] at HSB
          clear hzo HZ
          go_wp2_with (first
            | (go_at_call 20; refine (ksame_calls (markV l) (markV m) z g1 g2 c1 c2 B B _ (owns_of_blocks (unhide HO2) (fun k hk => by obtain rfl := Option.some.inj hk; exact (unhide HG1))) (owns_of_blocks (unhide HO6) (fun k hk => by obtain rfl := Option.some.inj hk; exact (unhide HG2))) (by omega) (unhide HSB)).mono ?_; rintro e w8 ⟨rfl, hb8⟩; have HB8 := hide hb8; clear hb8))
          go_ret
          exact ⟨rfl, (unhide HF7).trans ((unhide HB8).mono hz7)⟩
  · have HCL : Hid (Calls Tryz.prog 24 #[.pointer (some ⟨b, 0, none⟩), .string x, .string y] w4 (KPost (.int .i64 (rebaseF 4000 l x y).1) B b [g1] s0 s1 s2 s3 4000 (rebaseF 4000 l x y).2 w4)) := kRebase (unhide HW4) x y
    rcases rebase_out 4000 (unhide HLI) x y with ⟨q1, _⟩ | ⟨q1, ms, nb, hdn⟩
    · obtain ⟨r, hr⟩ : ∃ r, rebaseF 4000 l x y = r := ⟨_, rfl⟩
      rw [hr] at HCL q1
      obtain ⟨e, m⟩ := r
      dsimp only at HCL q1
      have hen : (e != 0) = true := by rw [bne_iff_ne]; exact q1
      clear hr
      go_wp2_with (first
        | (go_at_call 21; refine (unhide HPK _).mono ?_; rintro e w9 ⟨rfl, rfl⟩)
        | (go_at_call 24; refine (unhide HCL).mono ?_; rintro e w5 ⟨rfl, hk⟩; have HK5 := hide hk; clear hk))
      go_ret
      exact ⟨rfl, (unhide HFA).trans (unhide HK5).2.below⟩
    · have hch := unhide HCYE2 _ _ _ hdn
      have hsb := rebased_views hdn
      obtain ⟨r, hr⟩ : ∃ r, rebaseF 4000 l x y = r := ⟨_, rfl⟩
      rw [hr] at HCL q1 hch hsb
      obtain ⟨e, m⟩ := r
      dsimp only at HCL q1 hch hsb
      subst q1
      have HSB := hide hsb
      have HCN : Hid (∀ (w1 : World) (P : List Nat), KW w1 B b P s0 s1 s2 s3 4000 m → Calls Tryz.prog 17 #[.pointer (some ⟨b, 0, none⟩), .string x] w1 (KPost (.tuple #[.string (x ++ ⟨#[44]⟩ ++ cy), .string ⟨#[]⟩, .int .i64 0]) B b P s0 s1 s2 s3 4000 m w1)) := fun w1 P hk => by
        have := kChain hk x
        rwa [hch] at this
      clear hr hch hsb hdn
      go_wp2_with (first
        | (go_at_call 20; refine (ksame_calls (markV l) (markV m) ⟨#[]⟩ g1 g2 c1 c2 B B _ (owns_of_blocks (unhide HO2) (fun k hk => by obtain rfl := Option.some.inj hk; exact (unhide HG1))) (owns_of_blocks (unhide HO6) (fun k hk => by obtain rfl := Option.some.inj hk; exact (unhide HG2))) (Nat.zero_le _) (unhide HSB)).mono ?_; rintro e w8 ⟨rfl, hb8⟩; have HB8 := hide hb8; clear hb8)
        | (go_at_call 21; refine (unhide HPK _).mono ?_; rintro e w9 ⟨rfl, rfl⟩)
        | (go_at_call 17; refine (unhide HCN _ _ (unhide HK6)).mono ?_; rintro e w7 ⟨rfl, hk⟩
           have HG2 : Hid (w7.heap[g2]? = w6.heap[g2]?) := hk.2.own g2 (by simp)
           have HG1 : Hid (w7.heap[g1]? = w2.heap[g1]?) := (hk.2.own g1 (by simp)).trans (((unhide HF6).own g1 (by simp)).trans (((unhide HK5).2.own g1 (by simp)).trans (unhide HG4)))
           have HF7 : Hid (Below B w w7) := (unhide HFA).trans ((unhide HK5).2.below.trans ((unhide HF6).below.trans hk.2.below))
           have hz7 := hk.1.un.se.size; clear hk)
        | (go_at_call 22; refine (kviews_calls B b [g1] s0 s1 s2 s3 4000 m _ (unhide HK5).1).mono ?_; rintro e w6 ⟨g2, c2, rfl, hk6, hf6, ho6, _⟩; have HK6 := hide hk6; have HF6 := hide hf6; have HO6 := hide ho6; clear hk6 hf6 ho6)
        | (go_at_call 24; refine (unhide HCL).mono ?_; rintro e w5 ⟨rfl, hk⟩; have HK5 := hide hk; clear hk))
      go_ret
      exact ⟨rfl, (unhide HF7).trans ((unhide HB8).mono hz7)⟩
  · have HCL : Hid (Calls Tryz.prog 25 #[.pointer (some ⟨b, 0, none⟩), .string x] w4 (KPost (.int .i64 (rebaseF 4000 l x ⟨#[]⟩).1) B b [g1] s0 s1 s2 s3 4000 (rebaseF 4000 l x ⟨#[]⟩).2 w4)) := kFlatten (unhide HW4) x
    rcases rebase_out 4000 (unhide HLI) x ⟨#[]⟩ with ⟨q1, _⟩ | ⟨q1, ms, nb, hdn⟩
    · obtain ⟨r, hr⟩ : ∃ r, rebaseF 4000 l x ⟨#[]⟩ = r := ⟨_, rfl⟩
      rw [hr] at HCL q1
      obtain ⟨e, m⟩ := r
      dsimp only at HCL q1
      have hen : (e != 0) = true := by rw [bne_iff_ne]; exact q1
      clear hr
      go_wp2_with (first
        | (go_at_call 21; refine (unhide HPK _).mono ?_; rintro e w9 ⟨rfl, rfl⟩)
        | (go_at_call 25; refine (unhide HCL).mono ?_; rintro e w5 ⟨rfl, hk⟩; have HK5 := hide hk; clear hk))
      go_ret
      exact ⟨rfl, (unhide HFA).trans (unhide HK5).2.below⟩
    · have hch := flat_chain hdn
      have hsb := rebased_views hdn
      obtain ⟨r, hr⟩ : ∃ r, rebaseF 4000 l x ⟨#[]⟩ = r := ⟨_, rfl⟩
      rw [hr] at HCL q1 hch hsb
      obtain ⟨e, m⟩ := r
      dsimp only at HCL q1 hch hsb
      subst q1
      have HSB := hide hsb
      have HCN : Hid (∀ (w1 : World) (P : List Nat), KW w1 B b P s0 s1 s2 s3 4000 m → Calls Tryz.prog 17 #[.pointer (some ⟨b, 0, none⟩), .string x] w1 (KPost (.tuple #[.string x, .string ⟨#[]⟩, .int .i64 0]) B b P s0 s1 s2 s3 4000 m w1)) := fun w1 P hk => by
        have := kChain hk x
        rwa [hch] at this
      clear hr hch hsb hdn
      go_wp2_with (first
        | (go_at_call 20; refine (ksame_calls (markV l) (markV m) ⟨#[]⟩ g1 g2 c1 c2 B B _ (owns_of_blocks (unhide HO2) (fun k hk => by obtain rfl := Option.some.inj hk; exact (unhide HG1))) (owns_of_blocks (unhide HO6) (fun k hk => by obtain rfl := Option.some.inj hk; exact (unhide HG2))) (Nat.zero_le _) (unhide HSB)).mono ?_; rintro e w8 ⟨rfl, hb8⟩; have HB8 := hide hb8; clear hb8)
        | (go_at_call 21; refine (unhide HPK _).mono ?_; rintro e w9 ⟨rfl, rfl⟩)
        | (go_at_call 17; refine (unhide HCN _ _ (unhide HK6)).mono ?_; rintro e w7 ⟨rfl, hk⟩
           have HG2 : Hid (w7.heap[g2]? = w6.heap[g2]?) := hk.2.own g2 (by simp)
           have HG1 : Hid (w7.heap[g1]? = w2.heap[g1]?) := (hk.2.own g1 (by simp)).trans (((unhide HF6).own g1 (by simp)).trans (((unhide HK5).2.own g1 (by simp)).trans (unhide HG4)))
           have HF7 : Hid (Below B w w7) := (unhide HFA).trans ((unhide HK5).2.below.trans ((unhide HF6).below.trans hk.2.below))
           have hz7 := hk.1.un.se.size; clear hk)
        | (go_at_call 22; refine (kviews_calls B b [g1] s0 s1 s2 s3 4000 m _ (unhide HK5).1).mono ?_; rintro e w6 ⟨g2, c2, rfl, hk6, hf6, ho6, _⟩; have HK6 := hide hk6; have HF6 := hide hf6; have HO6 := hide ho6; clear hk6 hf6 ho6)
        | (go_at_call 25; refine (unhide HCL).mono ?_; rintro e w5 ⟨rfl, hk⟩; have HK5 := hide hk; clear hk))
      go_ret
      exact ⟨rfl, (unhide HF7).trans ((unhide HB8).mono hz7)⟩

end Go.Proofs.YtomiepknmmpflaaGreatDoor

