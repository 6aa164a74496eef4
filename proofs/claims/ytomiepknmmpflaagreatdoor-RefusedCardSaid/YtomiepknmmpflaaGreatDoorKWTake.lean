/- The program's iterator over two runs of clusters: its contract. -/
import Derived.Test.YtomiepknmmpflaaGreatDoorKPClRow
import Derived.Test.YtomiepknmmpflaaGreatDoorKPLaw
import Derived.Maps.AppendAt
namespace Go.Proofs.YtomiepknmmpflaaGreatDoor
open Go.RowKit Go.Joins Go.Shelf

attribute [local go_sem] Oper.semAt_some

def cAtQ (m : Nat) (q : Nat → Int) (k : Nat) : Int := if k < m then q k else 0
def cAtD (m : Nat) (d : Nat → Eight) (k : Nat) : Eight := if k < m then d k else fun _ => 0

set_option maxRecDepth 100000 in
set_option maxHeartbeats 1000000 in
theorem oatC_calls (m k g c : Nat) (q : Nat → Int) (d : Nat → Eight) (w : World) (h : Cl w g m q d) :
    Calls Tryz.prog 144 #[.slice (some ⟨g, 0, none⟩) m c, .int .i64 (k : Nat)] w fun e w' => e = .returned (clVal (cAtQ m q k) (cAtD m d k)) ∧ Below w.heap.size w w' := by
  by_cases hlt : k < m
  · have hg := h.lt
    obtain ⟨c0, c1, c2, c3, c4, c5, c6, c7, c8⟩ := h.nine hlt
    have HV : Hid (clVal (cAtQ m q k) (cAtD m d k) = .agg #[.int .i64 (q k), .int .u8 (d k 0 : Nat), .int .u8 (d k 1 : Nat), .int .u8 (d k 2 : Nat), .int .u8 (d k 3 : Nat), .int .u8 (d k 4 : Nat), .int .u8 (d k 5 : Nat), .int .u8 (d k 6 : Nat), .int .u8 (d k 7 : Nat)]) := by
      unfold clVal cAtQ cAtD; rw [if_pos hlt, if_pos hlt]; exact rfl
    obtain ⟨qk, hqk⟩ : ∃ e, q k = e := ⟨_, rfl⟩
    obtain ⟨e0, h0⟩ : ∃ e, d k 0 = e := ⟨_, rfl⟩
    obtain ⟨e1, h1⟩ : ∃ e, d k 1 = e := ⟨_, rfl⟩
    obtain ⟨e2, h2⟩ : ∃ e, d k 2 = e := ⟨_, rfl⟩
    obtain ⟨e3, h3⟩ : ∃ e, d k 3 = e := ⟨_, rfl⟩
    obtain ⟨e4, h4⟩ : ∃ e, d k 4 = e := ⟨_, rfl⟩
    obtain ⟨e5, h5⟩ : ∃ e, d k 5 = e := ⟨_, rfl⟩
    obtain ⟨e6, h6⟩ : ∃ e, d k 6 = e := ⟨_, rfl⟩
    obtain ⟨e7, h7⟩ : ∃ e, d k 7 = e := ⟨_, rfl⟩
    rw [hqk] at c0; rw [h0] at c1; rw [h1] at c2; rw [h2] at c3; rw [h3] at c4; rw [h4] at c5; rw [h5] at c6; rw [h6] at c7; rw [h7] at c8
    rw [hqk, h0, h1, h2, h3, h4, h5, h6, h7] at HV
    have p0 : ∀ o, (w.alloc o).cell? ⟨g, k * 9, none⟩ = some (.int .i64 qk) := fun o => (World.cell?_alloc_past _ _ _ hg).trans c0
    have p1 : ∀ o, (w.alloc o).cell? ⟨g, k * 9 + 1, none⟩ = some (.int .u8 (e0 : Nat)) := fun o => (World.cell?_alloc_past _ _ _ hg).trans c1
    have p2 : ∀ o, (w.alloc o).cell? ⟨g, k * 9 + 2, none⟩ = some (.int .u8 (e1 : Nat)) := fun o => (World.cell?_alloc_past _ _ _ hg).trans c2
    have p3 : ∀ o, (w.alloc o).cell? ⟨g, k * 9 + 3, none⟩ = some (.int .u8 (e2 : Nat)) := fun o => (World.cell?_alloc_past _ _ _ hg).trans c3
    have p4 : ∀ o, (w.alloc o).cell? ⟨g, k * 9 + 4, none⟩ = some (.int .u8 (e3 : Nat)) := fun o => (World.cell?_alloc_past _ _ _ hg).trans c4
    have p5 : ∀ o, (w.alloc o).cell? ⟨g, k * 9 + 5, none⟩ = some (.int .u8 (e4 : Nat)) := fun o => (World.cell?_alloc_past _ _ _ hg).trans c5
    have p6 : ∀ o, (w.alloc o).cell? ⟨g, k * 9 + 6, none⟩ = some (.int .u8 (e5 : Nat)) := fun o => (World.cell?_alloc_past _ _ _ hg).trans c6
    have p7 : ∀ o, (w.alloc o).cell? ⟨g, k * 9 + 7, none⟩ = some (.int .u8 (e6 : Nat)) := fun o => (World.cell?_alloc_past _ _ _ hg).trans c7
    have p8 : ∀ o, (w.alloc o).cell? ⟨g, k * 9 + 8, none⟩ = some (.int .u8 (e7 : Nat)) := fun o => (World.cell?_alloc_past _ _ _ hg).trans c8
    clear h c0 c1 c2 c3 c4 c5 c6 c7 c8 hqk h0 h1 h2 h3 h4 h5 h6 h7
    go_enter Tryz.func144, Tryz.ntmps144
    go_wp2
    exact bodyPost_ret (v := .agg #[.int .i64 qk, .int .u8 (e0 : Nat), .int .u8 (e1 : Nat), .int .u8 (e2 : Nat), .int .u8 (e3 : Nat), .int .u8 (e4 : Nat), .int .u8 (e5 : Nat), .int .u8 (e6 : Nat), .int .u8 (e7 : Nat)]) (by simp [results, Tryz.results144, go_sem]) rfl ⟨by rw [unhide HV], below_alloc1 w _⟩
  · have HV : Hid (clVal (cAtQ m q k) (cAtD m d k) = .agg #[.int .i64 0, .int .u8 0, .int .u8 0, .int .u8 0, .int .u8 0, .int .u8 0, .int .u8 0, .int .u8 0, .int .u8 0]) := by
      unfold clVal cAtQ cAtD; rw [if_neg hlt, if_neg hlt]; exact rfl
    clear h
    go_enter Tryz.func144, Tryz.ntmps144
    go_wp2
    exact bodyPost_ret (v := .agg #[.int .i64 0, .int .u8 0, .int .u8 0, .int .u8 0, .int .u8 0, .int .u8 0, .int .u8 0, .int .u8 0, .int .u8 0]) (by simp [results, Tryz.results144, go_sem]) rfl ⟨by rw [unhide HV], below_alloc2 w _ _⟩

def pairC (q : Nat → Int) (d : Nat → Eight) (nl : Nat) (qq : Nat → Int) (dd : Nat → Eight) (k : Nat) : Array Value := #[clVal (q k) (d k), clVal (cAtQ nl qq k) (cAtD nl dd k)]
set_option maxRecDepth 100000 in
set_option maxHeartbeats 4000000 in
theorem oalongC1_gives (n : Nat) (hn : 1 ≤ n) (B1 B2 g m c nl g2 sc : Nat) (q : Nat → Int) (d : Nat → Eight) (qq : Nat → Int) (dd : Nat → Eight) (w : World) (hm : m ≤ 30) (R : Nat → Prop) (r1 : R B1) (r2 : R B2) (rg : R g) (rs : R g2)
    (h1 : w.cell? ⟨B1, 0, none⟩ = some (.slice (some ⟨g, 0, none⟩) m c)) (h2 : w.cell? ⟨B2, 0, none⟩ = some (.slice (some ⟨g2, 0, none⟩) nl sc)) (hc : Cl w g m q d) (ho : Cl w g2 nl qq dd) :
    GivesW Fence.wide n Tryz.prog 143 #[.pointer (some ⟨B1, 0, none⟩), .pointer (some ⟨B2, 0, none⟩)] (pairC q d nl qq dd) (List.range m) R w := by
  intro l J W hW hJ hY h0
  have c1 := (hW.cell (p := ⟨B1, 0, none⟩) (cell_lt h1)).trans h1
  have c2 := (hW.cell (p := ⟨B2, 0, none⟩) (cell_lt h2)).trans h2
  have HC := hide (hc.same (hW.block g hc.lt) hW.size)
  have HO := hide (ho.same (hW.block g2 ho.lt) hW.size)
  have HY := hide hY
  have HJ := hide hJ
  have HR := hide (And.intro r1 (And.intro r2 (And.intro rg rs)))
  have HC2 := hide c2
  clear hc ho hW h1 h2 hY hJ r1 r2 rg rs c2
  have hro : Fence.wide.round = none := rfl
  have hfA : Fence.wide.fn 144 := trivial
  have hF8 : Fence.wide.fn 143 := trivial
  refine callsIn_of_wp Tryz.func143 rfl hF8 ?_ hro
  simp only [Tryz.ntmps143, List.size_toArray, List.length_cons, List.length_nil, Nat.reduceAdd, Nat.reduceSub, Array.replicate_succ, Array.replicate_zero, List.push_toArray, List.append_toArray, List.nil_append, List.cons_append]
  gi_wp2
  gi_loopw [8, 4, 5] (fun i _ _ wr => ∃ k : Nat, k ≤ m ∧ i = .int .i64 k ∧ J k wr ∧ LetsW R W.heap.size W wr) (fun i _ _ _ => m - (intOf i).toNat)
  case atStart => exact ⟨0, Nat.zero_le _, rfl, h0, LetsW.refl _ _ _⟩
  case round =>
    obtain ⟨k, hk, rfl, hJs, hL⟩ := hrel
    have HL := hide hL
    have HJS := hide hJs
    have hwz := hL.size
    by_cases hlt : k < m
    · have hcl := (unhide HC).same (hL.same g (unhide HC).lt (unhide HR).2.2.1) hL.size
      obtain ⟨y0, y1, y2, y3, y4, y5, y6, y7, y8⟩ := hcl.nine hlt
      have c2r := hL.cell (unhide HC2) (unhide HR).2.1
      have HOr := hide ((unhide HO).same (hL.same g2 (unhide HO).lt (unhide HR).2.2.2) hL.size)
      have hB2 := cell_lt c2r
      have c2a : ∀ o, (wr.alloc o).cell? ⟨B2, 0, none⟩ = some (.slice (some ⟨g2, 0, none⟩) nl sc) := fun o => (World.cell?_alloc_past _ _ _ hB2).trans c2r
      clear hcl hL hJs
      have hstep : ∀ (o : Obj) (w2 : World), Below (wr.alloc o).drew.heap.size (wr.alloc o).drew w2 → J k w2 ∧ LetsW R W.heap.size W w2 ∧ w.heap.size ≤ w2.heap.size + w.heap.size := fun o w2 hb => by
        have hb2 : Below wr.heap.size wr w2 := ((below_alloc1 wr o).drew).trans (hb.mono (by show wr.heap.size ≤ (wr.alloc o).heap.size; simp))
        exact ⟨unhide HJ k wr w2 none (unhide HJS) (below_grown hb2) (fun r e => by cases e), (unhide HL).trans (LetsW.of_below hb2), by omega⟩
      have HST := hide hstep
      clear hstep
      obtain ⟨qk, hqk⟩ : ∃ qk, q k = qk := ⟨_, rfl⟩
      obtain ⟨d0, e0⟩ : ∃ x, d k 0 = x := ⟨_, rfl⟩
      obtain ⟨d1, e1⟩ : ∃ x, d k 1 = x := ⟨_, rfl⟩
      obtain ⟨d2, e2⟩ : ∃ x, d k 2 = x := ⟨_, rfl⟩
      obtain ⟨d3, e3⟩ : ∃ x, d k 3 = x := ⟨_, rfl⟩
      obtain ⟨d4, e4⟩ : ∃ x, d k 4 = x := ⟨_, rfl⟩
      obtain ⟨d5, e5⟩ : ∃ x, d k 5 = x := ⟨_, rfl⟩
      obtain ⟨d6, e6⟩ : ∃ x, d k 6 = x := ⟨_, rfl⟩
      obtain ⟨d7, e7⟩ : ∃ x, d k 7 = x := ⟨_, rfl⟩
      rw [hqk] at y0; rw [e0] at y1; rw [e1] at y2; rw [e2] at y3; rw [e3] at y4; rw [e4] at y5; rw [e5] at y6; rw [e6] at y7; rw [e7] at y8
      obtain ⟨bv, hbv⟩ : ∃ bv, clVal (cAtQ nl qq k) (cAtD nl dd k) = bv := ⟨_, rfl⟩
      have HAR : Hid (pairC q d nl qq dd k = #[.agg #[.int .i64 qk, .int .u8 (d0 : Nat), .int .u8 (d1 : Nat), .int .u8 (d2 : Nat), .int .u8 (d3 : Nat), .int .u8 (d4 : Nat), .int .u8 (d5 : Nat), .int .u8 (d6 : Nat), .int .u8 (d7 : Nat)], bv]) := by
        unfold pairC
        rw [hbv]
        unfold clVal
        rw [hqk, e0, e1, e2, e3, e4, e5, e6, e7]
        exact rfl
      have HBV := hide hbv
      clear hqk e0 e1 e2 e3 e4 e5 e6 e7 hbv
      gi_wp2_with fail
      gi_region_with (first
        | (gi_at_call 144; refine ((callsIn_wide (n := _)).2 (oatC_calls nl k g2 sc qq dd _ (by exact (unhide HOr).same (Below.heap_alloc _ _ _ (unhide HOr).lt) (by simp)))).mono ?_; rintro e w2 ⟨he, hb2⟩; rw [unhide HBV] at he; subst he; have bx := cl_under hb2; have z0 := blk_cell (i := 0) bx rfl; have z1 := blk_cell (i := 1) bx rfl; have z2 := blk_cell (i := 2) bx rfl; have z3 := blk_cell (i := 3) bx rfl; have z4 := blk_cell (i := 4) bx rfl; have z5 := blk_cell (i := 5) bx rfl; have z6 := blk_cell (i := 6) bx rfl; have z7 := blk_cell (i := 7) bx rfl; have z8 := blk_cell (i := 8) bx rfl; obtain ⟨hj2, hl2, _⟩ := unhide HST _ _ hb2; obtain ⟨fn, tmps, assign, body, hy, hR⟩ := unhide HY k k w2 (by simp [hlt]) hj2; rw [unhide HAR] at hy; have HRD := hide hR; have HL2 := hide hl2; clear hb2 bx hj2 hl2 hR)
        | (refine (unhide HRD).mono ?_; rintro e w3 ⟨rfl, hj3, hl3⟩))
      all_goals
        gi_wp2_with fail
        go_roundw
        case rel => exact ⟨k + 1, by omega, by simp, hj3, (unhide HL2).trans hl3⟩
        case measure => simp [intOf]; omega
    · obtain rfl : k = m := by omega
      clear hL hJs
      gi_wp2
      go_end0
      exact ⟨⟨_, rfl⟩, by rw [List.length_range]; exact unhide HJS⟩

theorem oalongC_in (n : Nat) (ua sa : Option Addr) (un uc sn sc : Nat) (w : World) :
    CallsIn Fence.wide n Tryz.prog 91 #[.slice ua un uc, .slice sa sn sc] w fun e w' => e = .returned (.func (.func 143) #[] #[.pointer (some ⟨w.heap.size, 0, none⟩), .pointer (some ⟨w.heap.size + 1, 0, none⟩)]) ∧ w' = (w.alloc (.cells #[.slice ua un uc] 88)).alloc (.cells #[.slice sa sn sc] 88) := by
  refine callsIn_of_wp Tryz.func91 rfl trivial ?_ rfl
  simp only [Tryz.ntmps91, List.size_toArray, List.length_cons, List.length_nil, Nat.reduceAdd, Nat.reduceSub, Array.replicate_succ, Array.replicate_zero, List.push_toArray, List.append_toArray, List.nil_append, List.cons_append]
  gi_wp2
  go_ret
  exact ⟨rfl, rfl⟩

end Go.Proofs.YtomiepknmmpflaaGreatDoor

namespace Go.Proofs.YtomiepknmmpflaaGreatDoor
open Go.RowKit Go.Joins

def cl9 (q : Int) (d : Eight) : List Value := [.int .i64 q, .int .u8 (d 0 : Nat), .int .u8 (d 1 : Nat), .int .u8 (d 2 : Nat), .int .u8 (d 3 : Nat), .int .u8 (d 4 : Nat), .int .u8 (d 5 : Nat), .int .u8 (d 6 : Nat), .int .u8 (d 7 : Nat)]
theorem clRow_snoc (q : Nat → Int) (d : Nat → Eight) (k : Nat) : clRow q d (k + 1) = clRow q d k ++ cl9 (q k) (d k) := by
  refine List.ext_getElem? fun i => ?_
  have hl := clRow_length q d k
  by_cases h : i < k * 9
  · rw [clRow_get (by omega), List.getElem?_append_left (by omega), clRow_get h]
  · by_cases h2 : i < (k + 1) * 9
    · rw [clRow_get h2, List.getElem?_append_right (by omega), hl]
      obtain ⟨j, rfl⟩ : ∃ j, i = k * 9 + j := ⟨i - k * 9, by omega⟩
      rw [show k * 9 + j - k * 9 = j from by omega]
      have hj : j < 9 := by omega
      match j, hj with
      | 0, _ => rw [Nat.add_zero, clCell_kind]; rfl
      | 1, _ => exact congrArg some (clCell_byte q d k (j := 0) (by omega))
      | 2, _ => exact congrArg some (clCell_byte q d k (j := 1) (by omega))
      | 3, _ => exact congrArg some (clCell_byte q d k (j := 2) (by omega))
      | 4, _ => exact congrArg some (clCell_byte q d k (j := 3) (by omega))
      | 5, _ => exact congrArg some (clCell_byte q d k (j := 4) (by omega))
      | 6, _ => exact congrArg some (clCell_byte q d k (j := 5) (by omega))
      | 7, _ => exact congrArg some (clCell_byte q d k (j := 6) (by omega))
      | 8, _ => exact congrArg some (clCell_byte q d k (j := 7) (by omega))
    · rw [List.getElem?_eq_none (by rw [clRow_length]; omega), List.getElem?_eq_none (by rw [List.length_append, hl]; simp [cl9]; omega)]
theorem cl9_one (q : Int) (d : Eight) : ∀ u ∈ cl9 q d, u.oneCell' = true := by
  intro u hu
  simp [cl9] at hu
  rcases hu with rfl | rfl | rfl | rfl | rfl | rfl | rfl | rfl | rfl <;> rfl
theorem row_src {w : World} {b : Nat} {L : List Value} {t : TypeId} (hb : w.heap[b]? = some (.cells L.toArray t (0, 0))) : ∀ (j : Nat) (u : Value), L[j]? = some u → w.cell? ((⟨b, 0, none⟩ : Addr).add j) = some u := by
  intro j u hj
  have e : (⟨b, 0, none⟩ : Addr).add j = ⟨b, j, none⟩ := by
    cases j with
    | zero => rfl
    | succ j => simp [Addr.add]
  rw [e]
  exact blk_cell hb (by simpa using hj)
theorem nine_new (w : World) (q : Int) (t : TypeId) : ∀ (j : Nat) (u : Value), (cl9 q (fun _ => 0))[j]? = some u → (w.alloc (.cells #[.int .i64 q, .int .u8 0, .int .u8 0, .int .u8 0, .int .u8 0, .int .u8 0, .int .u8 0, .int .u8 0, .int .u8 0] t)).cell? ((⟨w.heap.size, 0, none⟩ : Addr).add j) = some u := row_src (by exact blk_new w _)
theorem step_append_any {ops : Array Oper} {o : Oper} {a : Act} {w : World} {K : Act → World → Prop} {Q : Exit → Act → World → Prop} {E : Prop}
    (hgd : o.guard = none) (s x : Operand) (t : TypeId) (hop : o.op = Op.call { callee := Callee.builtin Builtin.append, args := #[s, x], argTypes := #[t, t] })
    (base : Nat) (e : TypeId) (i : TypeInfo) (z : Value) (size bytes : Nat) (ht : Tryz.prog.underlying t = some (.slice e)) (hi : Tryz.prog.info? e = some i) (hz : i.zero = some z) (hsize : i.size = size) (hby : i.bytes = bytes) (hzs : z.cells.size = size) (hsz : 0 < size)
    (v : Value) (n : Nat) (xs : List Value) (hs : a.eval s = v) (hown : w.ownsRow base e size v n xs)
    (ad : Addr) (m c : Nat) (news : List Value) (hx : a.eval x = .slice (some ad) m c) (hl : news.length = m * size) (hnews : ∀ j u, news[j]? = some u → w.cell? (ad.add j) = some u) (h1 : ∀ u ∈ news, u.oneCell' = true)
    (h63 : n + m ≤ maxLen) (hbytes : (n + m) * bytes ≤ 140737488355328) (hbase : base ≤ w.heap.size)
    (hK : ∀ v' w', w'.ownsRow base e size v' (n + m) (xs ++ news) → w.grownBy w' v.ownBlock → (v'.ownBlock = v.ownBlock ∨ v'.ownBlock = some w.heap.size) → K (a.put o.dst v') w') :
    if Region.wanted o (yielded ops a.tmps) = true then Oper.wp Tryz.prog o a w K Q else E := by
  have hw : Region.wanted o (yielded ops a.tmps) = true := by simp [Region.wanted, hgd]
  rw [if_pos hw]
  obtain ⟨v', w', hr, ho', hg', _, hat⟩ := run_append_own_at (P := Tryz.prog) w base t o.type e i z size bytes ht hi hz hsize hby hzs hsz v n xs hown ad m c news hl hnews h1 h63 hbytes hbase
  unfold Oper.wp
  simp [execOp, hop, resolve, invoke, builtin, hs, hx, hr, Result.andThen]
  exact hK _ _ ho' hg' hat

theorem cl_holds {w : World} {base g n c : Nat} {q : Nat → Int} {d : Nat → Eight} (h : w.ownsRow base 160 9 (.slice (some ⟨g, 0, none⟩) n c) n (clRow q d n)) : ∀ b, some (⟨g, 0, none⟩ : Addr) = some b → ∀ (j : Nat) (u : Value), (clRow q d n)[j]? = some u → w.cell? (b.add j) = some u := by
  intro b e j u hu
  cases e
  exact h.cells rfl j u hu
theorem cl_up {w : World} {base b2 g n c : Nat} {xs : List Value} (h : w.ownsRow base 160 9 (.slice (some ⟨g, 0, none⟩) n c) n xs) (hg : b2 ≤ g) : w.ownsRow b2 160 9 (.slice (some ⟨g, 0, none⟩) n c) n xs := by
  refine ⟨h.1, ?_⟩
  rcases h.2 with ⟨e, _⟩ | ⟨g1, cap, cur, e, _, r⟩
  · simp at e
  · refine Or.inr ⟨g1, cap, cur, e, ?_, r⟩
    simp at e
    omega

def growQ (bk : ByteArray) (k : Nat) (q : Nat → Int) (i : Nat) : Int := if i < k then q i else discKind bk
def growD (k : Nat) (d : Nat → Eight) (i : Nat) : Eight := if i < k then d i else fun _ => 0
theorem grow_row (bk : ByteArray) (k : Nat) (q : Nat → Int) (d : Nat → Eight) : clRow (growQ bk k q) (growD k d) k = clRow q d k :=
  clRow_congr (fun i hi => by unfold growQ; rw [if_pos hi]) (fun i hi j _ => by unfold growD; rw [if_pos hi])
structure GI (w : World) (bk : ByteArray) (t : Int) (I g k : Nat) (q : Nat → Int) (d : Nat → Eight) (n g2 c : Nat) (W : World) : Prop where
  img : W.heap[I]? = some (.cells #[.string bk, .slice (some ⟨g2, 0, none⟩) n c, .int .i64 t] 90 (0, 0))
  row : W.ownsRow 0 160 9 (.slice (some ⟨g2, 0, none⟩) n c) n (clRow (growQ bk k q) (growD k d) n)
  fr : OFr w W I none
  at_ : g2 = g ∧ c = n ∨ w.heap.size ≤ g2
theorem GI.kept {w W W' : World} {bk : ByteArray} {t : Int} {I g k : Nat} {q : Nat → Int} {d : Nat → Eight} {n g2 c : Nat} (h : GI w bk t I g k q d n g2 c W) (hb : Below W.heap.size W W') : GI w bk t I g k q d n g2 c W' :=
  ⟨(hb.block I (blk_lt h.img)).trans h.img, owns_all h.row hb, h.fr.trans (OFr.of_below hb _ _), h.at_⟩
def lenAt (w : World) (I : Nat) : Nat :=
  match w.cell? ⟨I, 1, none⟩ with
  | some (.slice _ n _) => n
  | _ => 0
theorem GI.len {w W : World} {bk : ByteArray} {t : Int} {I g k : Nat} {q : Nat → Int} {d : Nat → Eight} {n g2 c : Nat} (h : GI w bk t I g k q d n g2 c W) : lenAt W I = n := by
  unfold lenAt
  rw [blk_cell (i := 1) h.img rfl]
  rfl
theorem GI.start {w : World} {bk : ByteArray} {t : Int} {I g k : Nat} {q : Nat → Int} {d : Nat → Eight} (hI : w.heap[I]? = some (.cells #[.string bk, .slice (some ⟨g, 0, none⟩) k k, .int .i64 t] 90 (0, 0))) (hg : w.heap[g]? = some (.cells (clRow q d k).toArray 160 (0, 0))) (hk : k ≤ 30) : GI w bk t I g k q d k g k w :=
  ⟨hI, by rw [grow_row]; exact ⟨clRow_length q d k, Or.inr ⟨g, k, _, rfl, Nat.zero_le _, hg, Nat.le_refl _, by unfold maxLen; omega, by simp [clRow_length], by rw [List.take_of_length_le (by simp [clRow_length])]⟩⟩, OFr.of_below (Below.refl _ _) _ _, Or.inl ⟨rfl, rfl⟩⟩
theorem GI.still {w W w2 w3 : World} {bk : ByteArray} {t : Int} {I g k : Nat} {q : Nat → Int} {d : Nat → Eight} {n g2 c : Nat} {o : Obj} (h : GI w bk t I g k q d n g2 c W) (hb : Below W.heap.size W w2) (r : Option Nat) (hr : r = none ∨ r = (Value.slice (some ⟨g2, 0, none⟩) n c).ownBlock) (hg : (w2.alloc o).grownBy w3 r) : w3.cell? ⟨I, 1, none⟩ = some (.slice (some ⟨g2, 0, none⟩) n c) ∧ w3.frozen? ⟨I, 1, none⟩ = false := by
  have h2 := (h.kept hb).kept (below_alloc1 w2 o)
  have hgI : some I ≠ (Value.slice (some ⟨g2, 0, none⟩) n c).ownBlock := own_ne h2.row h2.img (by decide)
  have hi3 : w3.heap[I]? = _ := (hg.block I (blk_lt h2.img) (by rcases hr with e | e <;> rw [e]; · simp
                                                                · exact hgI)).trans h2.img
  exact ⟨blk_cell hi3 rfl, blk_frozen hi3 1⟩
theorem GI.more {w W w2 w3 : World} {bk : ByteArray} {t : Int} {I g k : Nat} {q : Nat → Int} {d : Nat → Eight} {n g2 c g3 c3 : Nat} {o : Obj} (h : GI w bk t I g k q d n g2 c W) (hkn : k ≤ n) (hb : Below W.heap.size W w2) (r : Option Nat) (hr : ∀ i, r = some i → i = g2 ∧ w.heap.size ≤ i) (hg : (w2.alloc o).grownBy w3 r) (ho : w3.ownsRow 0 160 9 (.slice (some ⟨g3, 0, none⟩) (n + 1) c3) (n + 1) (clRow (growQ bk k q) (growD k d) n ++ cl9 (discKind bk) (fun _ => 0)))
    (hat : w.heap.size ≤ g3) : GI w bk t I g k q d (n + 1) g3 c3 (w3.setCell ⟨I, 1, none⟩ (.slice (some ⟨g3, 0, none⟩) (n + 1) c3)) := by
  have h2 := (h.kept hb).kept (below_alloc1 w2 o)
  have hgI : some I ≠ (Value.slice (some ⟨g2, 0, none⟩) n c).ownBlock := own_ne h2.row h2.img (by decide)
  have hi3 : w3.heap[I]? = _ := (hg.block I (blk_lt h2.img) (fun e => hgI (by rw [(hr I e.symm).1]; rfl))).trans h2.img
  have hne : some I ≠ (Value.slice (some ⟨g3, 0, none⟩) (n + 1) c3).ownBlock := own_ne ho hi3 (by decide)
  have hw2 : w.heap.size ≤ (w2.alloc o).heap.size := h2.fr.size
  refine ⟨by have := blk_set_same (i := 1) hi3 (.slice (some ⟨g3, 0, none⟩) (n + 1) c3); simpa using this, ?_, ?_, Or.inr hat⟩
  · rw [clRow_snoc, show growQ bk k q n = discKind bk from by unfold growQ; rw [if_neg (by omega)], show growD k d n = fun _ => 0 from by unfold growD; rw [if_neg (by omega)]]
    exact owns_set ho (a := ⟨I, 1, none⟩) hne _
  · refine OFr.trans ?_ (OFr.set_blk w3 I 1 _ _)
    have hs3 := hg.size
    refine ⟨hg.os.trans h2.fr.os, hg.tape.trans h2.fr.tape, hg.output.trans h2.fr.output, by omega, fun i hi hiI hig => ?_⟩
    rw [hg.block i (by omega) (fun e => by have := (hr i e.symm).2; omega)]; exact h2.fr.block i hi hiI hig

set_option maxRecDepth 100000 in
set_option maxHeartbeats 4000000 in
theorem ogrow_calls (bk : ByteArray) (t : Int) (I g k sz : Nat) (q : Nat → Int) (d : Nat → Eight) (w : World) (hI : w.heap[I]? = some (.cells #[.string bk, .slice (some ⟨g, 0, none⟩) k k, .int .i64 t] 90 (0, 0))) (hg : w.heap[g]? = some (.cells (clRow q d k).toArray 160 (0, 0))) (hk : k ≤ 30) (hs : sz ≤ 30) :
    Calls Tryz.prog 90 #[.pointer (some ⟨I, 0, none⟩), .int .i64 (sz : Nat)] w fun e w' => (∃ u, e = .returned u) ∧ ∃ g2 c, GI w bk t I g k q d (max k sz) g2 c w' := by
  obtain ⟨i0, hi, hz0, hz1, hz2⟩ := info_parts Tryz.infoClus
  have H0 := hide (GI.start hI hg hk)
  clear hI hg
  go_enter Tryz.func90, Tryz.ntmps90
  go_wp2_with fail
  go_loopw [8] (fun _ wr => ∃ n g2 c, k ≤ n ∧ n ≤ max k sz ∧ GI w bk t I g k q d n g2 c wr) (fun _ wr => max k sz - lenAt wr I)
  case atStart => exact ⟨k, g, k, Nat.le_refl _, by omega, unhide H0⟩
  case round =>
    obtain ⟨n, g2, c, hkn, hn, hG⟩ := hrel
    have j0 : wr.cell? ⟨I, 0, none⟩ = some (.string bk) := blk_cell hG.img rfl
    have j1 : wr.cell? ⟨I, 1, none⟩ = some (.slice (some ⟨g2, 0, none⟩) n c) := blk_cell hG.img rfl
    have j2 : wr.cell? ⟨I, 2, none⟩ = some (.int .i64 t) := blk_cell hG.img rfl
    have jl := blk_lt hG.img
    have HG := hide hG
    clear hG
    by_cases hlt : n < sz
    · have HL := hide ((unhide HG).len)
      rcases (unhide HG).at_ with ⟨hge, hce⟩ | hge
      · have hcap : c < n + 1 := by omega
        clear hge hce
        go_wp2_with fail
        go_region_law (first
          | (refine step_append_grows rfl (.tmp 15) (.tmp 21) 88 rfl 160 i0 (.agg #[.int .i64 0, .int .u8 0, .int .u8 0, .int .u8 0, .int .u8 0, .int .u8 0, .int .u8 0, .int .u8 0, .int .u8 0]) 9 16 Tryz.underlying88 hi hz0 hz1 hz2 rfl (by decide) (some ⟨g2, 0, none⟩) n c (clRow (growQ bk k q) (growD k d) n) (by simp [Act.eval]) (fun e => by cases e) (clRow_length _ _ _) (cl_holds ((owns_all (unhide HG).row (unhide HB2)).alloc _)) ⟨w2.heap.size, 0, none⟩ 1 1 (cl9 (discKind bk) (fun _ => 0)) (by simp [Act.eval]) rfl (nine_new w2 _ _) (cl9_one _ _) hcap (by unfold maxLen; omega) (by omega) ?_; intro v3 w3 ho3 hg3; obtain ⟨g3, c3, rfl⟩ := ownsRow_form ho3 (by omega); have hm3 := (unhide HG).more hkn (unhide HB2) none (fun i e => by cases e) hg3 (ownsRow_le ho3 (Nat.zero_le _)) (Nat.le_trans (Nat.le_trans (unhide HG).fr.size (unhide HB2).size) (Nat.le_trans (by simp) (ho3.lt g3 rfl).1)); obtain ⟨c4, f4⟩ := (unhide HG).still (unhide HB2) none (Or.inl rfl) hg3; have HM3 := hide hm3; clear hm3 ho3 hg3)
          | (go_simp; go_at_call 63; refine (oblank_calls bk _ n _ t _).mono ?_; rintro e w2 ⟨rfl, hb2⟩; have HB2 : Hid (Below wr.heap.size wr w2) := ((Below.refl wr.heap.size wr).drew).trans hb2; have k1 : w2.cell? ⟨I, 1, none⟩ = some (.slice (some ⟨g2, 0, none⟩) n c) := ((unhide HB2).cell (p := ⟨I, 1, none⟩) jl).trans j1; have k2 : ∀ o, (w2.alloc o).cell? ⟨I, 1, none⟩ = some (.slice (some ⟨g2, 0, none⟩) n c) := (fun o => (World.cell?_alloc_past _ _ _ (Nat.lt_of_lt_of_le jl (unhide HB2).size)).trans k1); clear hb2))
        all_goals
          go_wp2_with fail
          go_roundw
          case rel => exact ⟨n + 1, g3, c3, by omega, by omega, unhide HM3⟩
          case measure => rw [(unhide HM3).len, unhide HL]; omega
      · go_wp2_with fail
        go_region_law (first
          | (refine step_append_any rfl (.tmp 15) (.tmp 21) 88 rfl w.heap.size 160 i0 (.agg #[.int .i64 0, .int .u8 0, .int .u8 0, .int .u8 0, .int .u8 0, .int .u8 0, .int .u8 0, .int .u8 0, .int .u8 0]) 9 16 Tryz.underlying88 hi hz0 hz1 hz2 rfl (by decide) (.slice (some ⟨g2, 0, none⟩) n c) n (clRow (growQ bk k q) (growD k d) n) (by simp [Act.eval]) (cl_up ((owns_all (unhide HG).row (unhide HB2)).alloc _) hge) ⟨w2.heap.size, 0, none⟩ 1 1 (cl9 (discKind bk) (fun _ => 0)) (by simp [Act.eval]) rfl (nine_new w2 _ _) (cl9_one _ _) (by unfold maxLen; omega) (by omega) (Nat.le_trans (Nat.le_trans (unhide HG).fr.size (unhide HB2).size) (by simp)) ?_; intro v3 w3 ho3 hg3 _; obtain ⟨g3, c3, rfl⟩ := ownsRow_form ho3 (by omega); have hm3 := (unhide HG).more hkn (unhide HB2) _ (fun i e => by simp [Value.ownBlock] at e; omega) hg3 (ownsRow_le ho3 (Nat.zero_le _)) (ho3.lt g3 rfl).1; obtain ⟨c4, f4⟩ := (unhide HG).still (unhide HB2) _ (Or.inr rfl) hg3; have HM3 := hide hm3; clear hm3 ho3 hg3)
          | (go_simp; go_at_call 63; refine (oblank_calls bk _ n _ t _).mono ?_; rintro e w2 ⟨rfl, hb2⟩; have HB2 : Hid (Below wr.heap.size wr w2) := ((Below.refl wr.heap.size wr).drew).trans hb2; have k1 : w2.cell? ⟨I, 1, none⟩ = some (.slice (some ⟨g2, 0, none⟩) n c) := ((unhide HB2).cell (p := ⟨I, 1, none⟩) jl).trans j1; have k2 : ∀ o, (w2.alloc o).cell? ⟨I, 1, none⟩ = some (.slice (some ⟨g2, 0, none⟩) n c) := (fun o => (World.cell?_alloc_past _ _ _ (Nat.lt_of_lt_of_le jl (unhide HB2).size)).trans k1); clear hb2))
        all_goals
          go_wp2_with fail
          go_roundw
          case rel => exact ⟨n + 1, g3, c3, by omega, by omega, unhide HM3⟩
          case measure => rw [(unhide HM3).len, unhide HL]; omega
    · obtain rfl : n = max k sz := by omega
      go_wp2_with fail
      first | go_end0 | refine bodyPost_ret (results_none rfl _ _ _) rfl ?_
      exact ⟨⟨_, rfl⟩, g2, c, unhide HG⟩

end Go.Proofs.YtomiepknmmpflaaGreatDoor

