/- The law Compared. -/
import Derived.Test.YtomiepknmmpflaaGreatDoorKPRowK
import Derived.Test.YtomiepknmmpflaaGreatDoorKPSem3
namespace Go.Proofs.YtomiepknmmpflaaGreatDoor
open Go.RowKit Go.Joins

theorem diffFrom_symm (p q : Nat → Nat) : ∀ f i, diffFrom p q f i = diffFrom q p f i
  | 0, _ => rfl
  | f + 1, i => by
    rw [diffFrom, diffFrom, diffFrom_symm p q f (i + 1)]
    by_cases h : p i = q i
    · rw [if_neg (fun k => k h), if_neg (fun k => k h.symm)]
    · rw [if_pos h, if_pos (fun k => h k.symm)]
theorem diffFrom_none {p q : Nat → Nat} : ∀ f i, (∀ j, i ≤ j → p j = q j) → diffFrom p q f i = -1
  | 0, _, _ => rfl
  | f + 1, i, h => by
    rw [diffFrom, if_neg (fun k => k (h i (Nat.le_refl _))), diffFrom_none f (i + 1) (fun j hj => h j (by omega))]
theorem at_far {l : Ov.Files} {ns : List ByteArray} {x : ByteArray} (h : Ov.Chn l ns x) {i : Nat} (hi : 8 * Ov.many (fileOf l x) ≤ i) : Ov.atTo l ns i = 0 := Ov.atTo_short h rfl (by show Ov.many (fileOf l x) ≤ _; omega)
theorem view_pad {l : Ov.Files} {ns : List ByteArray} {x : ByteArray} (h : Ov.Chn l ns x) {k : Nat} (hk : 8 * Ov.many (fileOf l x) ≤ k) : viewF l ns 0 k ++ (⟨#[0]⟩ : ByteArray) = viewF l ns 0 (k + 1) := by
  refine view_is (by rw [ByteArray.size_append, viewF_size]; rfl) fun i hi => ?_
  rw [byteAt_append, viewF_size]
  by_cases hik : i < k
  · rw [if_pos hik, viewF_get _ _ _ hik, Nat.zero_add]
  · obtain rfl : i = k := by omega
    rw [if_neg hik, Nat.sub_self, at_far h hk]; rfl
theorem compare_no {l : Ov.Files} {x y : ByteArray} (h : Ov.soundF l x ≠ 0 ∨ Ov.soundF l y ≠ 0) : ∃ q, q ≠ 0 ∧ compareF l x y = (0, q) := by
  unfold compareF
  split
  · exact ⟨4, by decide, rfl⟩
  · split
    · rename_i h1; exact ⟨_, h1, rfl⟩
    · split
      · rename_i h1; exact ⟨_, h1, rfl⟩
      · rename_i h1 h2
        rcases h with h | h
        · exact absurd h h1
        · exact absurd h h2
theorem compare_yes {l : Ov.Files} {x y : ByteArray} {nx ny : List ByteArray} (hx : Ov.Chn l nx x) (hy : Ov.Chn l ny y) : compareF l x y = (diffFrom (Ov.atTo l nx) (Ov.atTo l ny) 240 0, 0) := by
  unfold compareF
  rw [if_neg (fun q => q.elim (fun k => k hx.here) (fun k => k hy.here)), if_neg (fun q => q (chn_sound hx)), if_neg (fun q => q (chn_sound hy)), chn_downOf hx, chn_downOf hy]

def strLen : Value → Nat
  | .string s => s.size
  | _ => 0

set_option maxRecDepth 100000 in
set_option maxHeartbeats 4000000 in
theorem kCompared_calls (B : Nat) (w : World) (s0 s1 s2 s3 : Addr) (a0 : Option Addr) (n0 c0 : Nat) (a c : Int) (h : Under w B s0 s1 s2 s3) (hs : Scr w B a0 n0) (ha : In64 a) (hc : In64 c) :
    Calls Tryz.prog 11 #[.slice a0 n0 c0, .int .i64 a, .int .i64 c] w fun e w' => e = .returned (.bool true) ∧ Below B w w' := by
  have HPL := hide (kplayed_calls B [] s0 s1 s2 s3 w a0 n0 c0 h (fun k hk => by cases hk) hs)
  have HNA : Hid (∀ w, Calls Tryz.prog 18 #[.int .i64 a] w fun e w' => e = .returned (.string (nameC a)) ∧ w = w') := fun w => kname_calls _ w ha.1 ha.2
  have HNB : Hid (∀ w, Calls Tryz.prog 18 #[.int .i64 c] w fun e w' => e = .returned (.string (nameC c)) ∧ w = w') := fun w => kname_calls _ w hc.1 hc.2
  obtain ⟨x, hx⟩ : ∃ x, nameC a = x := ⟨_, rfl⟩
  obtain ⟨y, hy⟩ : ∃ y, nameC c = y := ⟨_, rfl⟩
  rw [hx] at HNA
  rw [hy] at HNB
  clear h hs hx hy ha hc
  go_enter Tryz.func11, Tryz.ntmps11
  go_wp2_with (first
    | (go_at_call_of 18 (Value.int IntKind.i64 a); refine (unhide HNA _).mono ?_; rintro e w2 ⟨rfl, rfl⟩)
    | (go_at_call 15; refine (unhide HPL).mono ?_; rintro e w1 ⟨b, l, rfl, hk1, hf1, _⟩; have HK1 := hide hk1; have HF1 := hide hf1; clear hk1 hf1))
  have HRA : Hid (∀ w1, KW w1 B b [] s0 s1 s2 s3 4000 l → Calls Tryz.prog 26 #[.pointer (some ⟨b, 0, none⟩), .string x] w1 (KPost (.tuple #[.string (readK l x).1, .bool (readK l x).2]) B b [] s0 s1 s2 s3 4000 l w1)) := fun w1 hk => kread_calls x B b [] s0 s1 s2 s3 4000 l w1 hk
  have HRB : Hid (∀ w1, KW w1 B b [] s0 s1 s2 s3 4000 l → Calls Tryz.prog 26 #[.pointer (some ⟨b, 0, none⟩), .string y] w1 (KPost (.tuple #[.string (readK l y).1, .bool (readK l y).2]) B b [] s0 s1 s2 s3 4000 l w1)) := fun w1 hk => kread_calls y B b [] s0 s1 s2 s3 4000 l w1 hk
  have HCA : Hid (∀ w1, KW w1 B b [] s0 s1 s2 s3 4000 l → Calls Tryz.prog 36 #[.pointer (some ⟨b, 0, none⟩), .string x, .string y] w1 (KPost (.tuple #[.int .i64 (compareF l x y).1, .int .i64 (compareF l x y).2]) B b [] s0 s1 s2 s3 4000 l w1)) := fun w1 hk => kCompare hk x y
  have HCB : Hid (∀ w1, KW w1 B b [] s0 s1 s2 s3 4000 l → Calls Tryz.prog 36 #[.pointer (some ⟨b, 0, none⟩), .string y, .string x] w1 (KPost (.tuple #[.int .i64 (compareF l y x).1, .int .i64 (compareF l y x).2]) B b [] s0 s1 s2 s3 4000 l w1)) := fun w1 hk => kCompare hk y x
  by_cases hboth : (readK l x).2 = true ∧ (readK l y).2 = true
  · obtain ⟨nx, cx, _⟩ := readK_ok hboth.1
    obtain ⟨ny, cy, _⟩ := readK_ok hboth.2
    have hcf := compare_yes cx cy
    have hcb := compare_yes cy cx
    rw [diffFrom_symm] at hcb
    rw [readK_yes cx] at HRA
    rw [readK_yes cy] at HRB
    rw [hcf] at HCA
    rw [hcb] at HCB
    have hmx := cx.many_le
    have hmy := cy.many_le
    have HPX : Hid (∀ k, 8 * Ov.many (fileOf l x) ≤ k → viewF l nx 0 k ++ (⟨#[0]⟩ : ByteArray) = viewF l nx 0 (k + 1)) := fun k hk => view_pad cx hk
    have HPY : Hid (∀ k, 8 * Ov.many (fileOf l y) ≤ k → viewF l ny 0 k ++ (⟨#[0]⟩ : ByteArray) = viewF l ny 0 (k + 1)) := fun k hk => view_pad cy hk
    have HFX : Hid (∀ k, 8 * Ov.many (fileOf l x) ≤ k → Ov.atTo l nx k = 0) := fun k hk => at_far cx hk
    have HFY : Hid (∀ k, 8 * Ov.many (fileOf l y) ≤ k → Ov.atTo l ny k = 0) := fun k hk => at_far cy hk
    obtain ⟨X, hX⟩ : ∃ X, 8 * Ov.many (fileOf l x) = X := ⟨_, rfl⟩
    obtain ⟨Y, hY⟩ : ∃ Y, 8 * Ov.many (fileOf l y) = Y := ⟨_, rfl⟩
    obtain ⟨D, hD⟩ : ∃ D, diffFrom (Ov.atTo l nx) (Ov.atTo l ny) 240 0 = D := ⟨_, rfl⟩
    have hX240 : X ≤ 240 := by have := hmx.2; omega
    have hY240 : Y ≤ 240 := by have := hmy.2; omega
    rw [hX] at HRA HPX HFX
    rw [hY] at HRB HPY HFY
    rw [hD] at HCA HCB
    have HD := hide hD
    obtain ⟨tx, htx⟩ : ∃ t, viewF l nx 0 X = t := ⟨_, rfl⟩
    obtain ⟨ty, hty⟩ : ∃ t, viewF l ny 0 Y = t := ⟨_, rfl⟩
    have hsx : tx.size = X := by rw [← htx, viewF_size]
    have hsy : ty.size = Y := by rw [← hty, viewF_size]
    rw [htx] at HRA
    rw [hty] at HRB
    subst hsx
    subst hsy
    have HTX := hide htx
    have HTY := hide hty
    have HF5 : Hid (∀ w5, KFr B [] w1 w5 → Below B w w5) := fun w5 k => ((unhide HF1).trans k).below
    clear hboth cx cy hcf hcb hmx hmy hX hY hD htx hty
    go_wp2_with (first
      | (go_at_call_of 18 (Value.int IntKind.i64 a); refine (unhide HNA _).mono ?_; rintro e w2 ⟨rfl, rfl⟩)
      | (go_at_call_of 18 (Value.int IntKind.i64 c); refine (unhide HNB _).mono ?_; rintro e w2 ⟨rfl, rfl⟩)
      | (go_at_call 36; refine (unhide HCB _ (unhide HK4).1).mono ?_; rintro e w5 ⟨rfl, hk⟩; have HK5 := hide hk; clear hk)
      | (go_at_call 36; refine (unhide HCA _ (unhide HK3).1).mono ?_; rintro e w4 ⟨rfl, hk⟩; have HK4 := hide hk; clear hk)
      | (go_at_call 26; refine (unhide HRB _ (unhide HK2).1).mono ?_; rintro e w3 ⟨rfl, hk⟩; have HK3 := hide hk; clear hk)
      | (go_at_call 26; refine (unhide HRA _ (unhide HK1)).mono ?_; rintro e w2 ⟨rfl, hk⟩; have HK2 := hide hk; clear hk))
    have HW5 : Hid (Below B w w5) := unhide HF5 w5 ((unhide HK2).2.trans ((unhide HK3).2.trans ((unhide HK4).2.trans (unhide HK5).2)))
    clear HK1 HK2 HK3 HK4 HK5 HF1 HF5 HRA HRB HCA HCB HNA HNB HPL
    go_loopw [8] (fun xv wr => w5 = wr ∧ ∃ z : ByteArray, xv = .string z ∧ tx.size ≤ z.size ∧ z.size ≤ max tx.size ty.size ∧ Hid (z = viewF l nx 0 z.size)) (fun xv _ => ty.size - strLen xv)
    case atStart => exact ⟨rfl, tx, rfl, Nat.le_refl _, Nat.le_max_left _ _, (unhide HTX).symm⟩
    case round =>
      obtain ⟨rfl, z, rfl, hz1, hz2, HZ⟩ := hrel
      by_cases hlt : z.size < ty.size
      · go_wp2_with fail
        go_roundw
        case rel => exact ⟨by first | trivial | rfl, _, rfl, by rw [ByteArray.size_append]; show _ ≤ z.size + 1; omega, by rw [ByteArray.size_append]; show z.size + 1 ≤ _; omega, by rw [ByteArray.size_append]; show _ = viewF l nx 0 (z.size + 1); rw [← unhide HPX z.size hz1, ← unhide HZ]⟩
        case measure => show ty.size - (z ++ (⟨#[0]⟩ : ByteArray)).size < ty.size - z.size; rw [ByteArray.size_append]; show ty.size - (z.size + 1) < _; omega
      · go_wp2_with fail
        go_loopw [10] (fun yv wr => w5 = wr ∧ ∃ z2 : ByteArray, yv = .string z2 ∧ ty.size ≤ z2.size ∧ z2.size ≤ z.size ∧ Hid (z2 = viewF l ny 0 z2.size)) (fun yv _ => z.size - strLen yv)
        case atStart => exact ⟨rfl, ty, rfl, Nat.le_refl _, by omega, (unhide HTY).symm⟩
        case round =>
          obtain ⟨rfl, z2, rfl, hy1, hy2, HZ2⟩ := hrel
          by_cases hlt2 : z2.size < z.size
          · go_wp2_with fail
            go_roundw
            case rel => exact ⟨by first | trivial | rfl, _, rfl, by rw [ByteArray.size_append]; show _ ≤ z2.size + 1; omega, by rw [ByteArray.size_append]; show z2.size + 1 ≤ _; omega, by rw [ByteArray.size_append]; show _ = viewF l ny 0 (z2.size + 1); rw [← unhide HPY z2.size hy1, ← unhide HZ2]⟩
            case measure => show z.size - (z2 ++ (⟨#[0]⟩ : ByteArray)).size < z.size - z2.size; rw [ByteArray.size_append]; show z.size - (z2.size + 1) < _; omega
          · go_wp2_with fail
            have h240 : z.size ≤ 240 := by omega
            have hby := Ov.byteAt_eq z
            have hby2 := Ov.byteAt_eq z2
            have HPZ : Hid (∀ i, i < z.size → Ov.byteAt z i = Ov.atTo l nx i ∧ Ov.byteAt z2 i = Ov.atTo l ny i) := fun i hi => by
              have e1 := viewF_get l nx 0 (k := z.size) hi
              have e2 := viewF_get l ny 0 (k := z2.size) (show i < z2.size by omega)
              rw [← unhide HZ, Nat.zero_add] at e1
              rw [← unhide HZ2, Nat.zero_add] at e2
              exact ⟨e1, e2⟩
            go_loopw [16, 17] (fun wv iv wr => Hid (Below B w wr) ∧ ∃ i : Nat, i ≤ z.size ∧ iv = .int .i64 i ∧ ((wv = .int .i64 (-1) ∧ Hid (diffFrom (Ov.atTo l nx) (Ov.atTo l ny) (240 - i) i = D)) ∨ (wv = .int .i64 D ∧ 0 ≤ D))) (fun _ iv _ => z.size - (intOf iv).toNat)
            case atStart => exact ⟨HW5, 0, Nat.zero_le _, rfl, Or.inl ⟨rfl, unhide HD⟩⟩
            case round =>
              obtain ⟨HWR, i, hi, rfl, ⟨rfl, HDF⟩ | ⟨rfl, hD0⟩⟩ := hrel
              · by_cases hlt3 : i < z.size
                · have hlt4 : i < z2.size := by omega
                  obtain ⟨e1, e2⟩ := unhide HPZ i hlt3
                  by_cases he : Ov.byteAt z i = Ov.byteAt z2 i
                  · have HNX : Hid (diffFrom (Ov.atTo l nx) (Ov.atTo l ny) (240 - (i + 1)) (i + 1) = D) := by rw [← diffFrom_next (by omega) (by rw [← e1, ← e2, he])]; exact unhide HDF
                    have hne : ((Ov.byteAt z i : Int) != (Ov.byteAt z2 i : Int)) = false := by rw [he]; simp
                    clear e1 e2 he
                    go_upto_region 18 with fail
                    go_region
                    go_wp2_with fail
                    go_roundw
                    case rel => exact ⟨(unhide HWR).drew, i + 1, by omega, by go_num, Or.inl ⟨rfl, HNX⟩⟩
                    case measure => simp [intOf]; omega
                  · have HDI : Hid (D = (i : Nat)) := by rw [← unhide HDF, diffFrom_hit (by omega) (by rw [← e1, ← e2]; exact he)]; exact rfl
                    have hne : ((Ov.byteAt z i : Int) != (Ov.byteAt z2 i : Int)) = true := by rw [bne_iff_ne]; omega
                    clear e1 e2 he
                    go_upto_region 18 with fail
                    go_region
                    go_wp2_with fail
                    go_roundw
                    case rel => exact ⟨(unhide HWR).drew, i + 1, by omega, by go_num, Or.inr ⟨by rw [unhide HDI], by rw [unhide HDI]; omega⟩⟩
                    case measure => simp [intOf]; omega
                · have hDm : D = -1 := by
                    rw [← unhide HDF]
                    exact diffFrom_none _ _ (fun j hj => by rw [unhide HFX j (by omega), unhide HFY j (by omega)])
                  subst hDm
                  clear HD HDF
                  go_wp2_with fail
                  go_ret
                  exact ⟨rfl, unhide HWR⟩
              · by_cases hlt3 : i < z.size
                · go_wp2_with fail
                  go_ret
                  exact ⟨by simp, unhide HWR⟩
                · go_wp2_with fail
                  go_ret
                  exact ⟨by simp, unhide HWR⟩
  · have hno : Ov.soundF l x ≠ 0 ∨ Ov.soundF l y ≠ 0 := by
      by_cases h1 : (readK l x).2 = true
      · exact Or.inr (readK_no (by simpa using fun h2 => hboth ⟨h1, h2⟩)).1
      · exact Or.inl (readK_no (by simpa using h1)).1
    obtain ⟨q1, hq1, e1⟩ := compare_no hno
    obtain ⟨q2, hq2, e2⟩ := compare_no hno.symm
    rw [e1] at HCA
    rw [e2] at HCB
    have g1 : (q1 != 0) = true := by rw [bne_iff_ne]; exact hq1
    have g2 : (q2 != 0) = true := by rw [bne_iff_ne]; exact hq2
    obtain ⟨tx, htx⟩ : ∃ t, (readK l x).1 = t := ⟨_, rfl⟩
    obtain ⟨ty, hty⟩ : ∃ t, (readK l y).1 = t := ⟨_, rfl⟩
    obtain ⟨bx, hbx⟩ : ∃ t, (readK l x).2 = t := ⟨_, rfl⟩
    obtain ⟨bY, hby⟩ : ∃ t, (readK l y).2 = t := ⟨_, rfl⟩
    rw [htx, hbx] at HRA
    rw [hty, hby] at HRB
    rw [hbx, hby] at hboth
    clear htx hty hbx hby hno e1 e2
    cases bx with
    | false =>
      clear hboth
      go_wp2_with (first
        | (go_at_call_of 18 (Value.int IntKind.i64 a); refine (unhide HNA _).mono ?_; rintro e w2 ⟨rfl, rfl⟩)
        | (go_at_call_of 18 (Value.int IntKind.i64 c); refine (unhide HNB _).mono ?_; rintro e w2 ⟨rfl, rfl⟩)
        | (go_at_call 36; refine (unhide HCB _ (unhide HK4).1).mono ?_; rintro e w5 ⟨rfl, hk⟩; have HK5 := hide hk; clear hk)
        | (go_at_call 36; refine (unhide HCA _ (unhide HK3).1).mono ?_; rintro e w4 ⟨rfl, hk⟩; have HK4 := hide hk; clear hk)
        | (go_at_call 26; refine (unhide HRB _ (unhide HK2).1).mono ?_; rintro e w3 ⟨rfl, hk⟩; have HK3 := hide hk; clear hk)
        | (go_at_call 26; refine (unhide HRA _ (unhide HK1)).mono ?_; rintro e w2 ⟨rfl, hk⟩; have HK2 := hide hk; clear hk))
      go_ret
      exact ⟨rfl, ((unhide HF1).trans ((unhide HK2).2.trans ((unhide HK3).2.trans ((unhide HK4).2.trans (unhide HK5).2)))).below⟩
    | true =>
      obtain rfl : bY = false := by
        cases bY with
        | false => rfl
        | true => exact absurd ⟨rfl, rfl⟩ hboth
      clear hboth
      go_wp2_with (first
        | (go_at_call_of 18 (Value.int IntKind.i64 a); refine (unhide HNA _).mono ?_; rintro e w2 ⟨rfl, rfl⟩)
        | (go_at_call_of 18 (Value.int IntKind.i64 c); refine (unhide HNB _).mono ?_; rintro e w2 ⟨rfl, rfl⟩)
        | (go_at_call 36; refine (unhide HCB _ (unhide HK4).1).mono ?_; rintro e w5 ⟨rfl, hk⟩; have HK5 := hide hk; clear hk)
        | (go_at_call 36; refine (unhide HCA _ (unhide HK3).1).mono ?_; rintro e w4 ⟨rfl, hk⟩; have HK4 := hide hk; clear hk)
        | (go_at_call 26; refine (unhide HRB _ (unhide HK2).1).mono ?_; rintro e w3 ⟨rfl, hk⟩; have HK3 := hide hk; clear hk)
        | (go_at_call 26; refine (unhide HRA _ (unhide HK1)).mono ?_; rintro e w2 ⟨rfl, hk⟩; have HK2 := hide hk; clear hk))
      go_ret
      exact ⟨rfl, ((unhide HF1).trans ((unhide HK2).2.trans ((unhide HK3).2.trans ((unhide HK4).2.trans (unhide HK5).2)))).below⟩

end Go.Proofs.YtomiepknmmpflaaGreatDoor

