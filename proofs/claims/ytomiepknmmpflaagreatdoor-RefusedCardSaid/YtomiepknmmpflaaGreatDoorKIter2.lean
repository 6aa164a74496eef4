/- An iterator that is gone through to its end, also one that itself ranges over another: its contract, and the law for whoever ranges over it. -/
import Derived.RangeFuncNested
import Derived.RangeFuncLeaves
namespace Go.Proofs.YtomiepknmmpflaaGreatDoor
open Go.RowKit

structure Lets (R : Nat → Prop) (B : Nat) (w w' : World) : Prop where
  size : w.heap.size ≤ w'.heap.size
  same : ∀ k, k < w.heap.size → R k ∨ B ≤ k → w'.heap[k]? = w.heap[k]?
theorem Lets.refl (R : Nat → Prop) (B : Nat) (w : World) : Lets R B w w := ⟨Nat.le_refl _, fun _ _ _ => rfl⟩
theorem Lets.trans {R : Nat → Prop} {B : Nat} {w w1 w2 : World} (h : Lets R B w w1) (k : Lets R B w1 w2) : Lets R B w w2 :=
  ⟨Nat.le_trans h.size k.size, fun i hi hr => (k.same i (Nat.lt_of_lt_of_le hi h.size) hr).trans (h.same i hi hr)⟩
theorem Lets.of_below {R : Nat → Prop} {B : Nat} {w w' : World} (h : Below w.heap.size w w') : Lets R B w w' := ⟨h.size, fun k hk _ => h.block k hk⟩
theorem Lets.alloc {R : Nat → Prop} {B : Nat} {w w' : World} (h : Lets R B w w') (o : Obj) : Lets R B w (w'.alloc o) :=
  h.trans (.of_below ((Below.refl _ w').alloc (Nat.le_refl _) o))
theorem Lets.drew {R : Nat → Prop} {B : Nat} {w w' : World} (h : Lets R B w w') : Lets R B w w'.drew := ⟨h.size, h.same⟩
theorem Lets.setCell {R : Nat → Prop} {B : Nat} {w w' : World} (h : Lets R B w w') {p : Addr} (hr : ¬ R p.block) (hB : p.block < B) (u : Value) : Lets R B w (w'.setCell p u) := by
  refine h.trans ⟨by simp, fun k _ hk => Below.heap_setCell _ _ _ _ fun e => ?_⟩
  rcases hk with hk | hk
  · exact hr (e ▸ hk)
  · omega
theorem Lets.turn {R : Nat → Prop} {B : Nat} (w : World) {l : Nat} (o : Obj) (hr : ¬ R l) (hB : l < B) : Lets R B w (w.putObj l o) := by
  refine ⟨by simp, fun k _ hk => World.putObj_heap_other fun e => ?_⟩
  subst e
  rcases hk with hk | hk
  · exact hr hk
  · omega
theorem Lets.weak {R R' : Nat → Prop} {B B' : Nat} {w w' : World} (h : Lets R B w w') (hr : ∀ k, R' k ∨ B' ≤ k → R k ∨ B ≤ k) : Lets R' B' w w' := ⟨h.size, fun k hk q => h.same k hk (hr k q)⟩
theorem Lets.cell {R : Nat → Prop} {B : Nat} {w w' : World} (h : Lets R B w w') {p : Addr} {v : Value} (hc : w.cell? p = some v) (hr : R p.block ∨ B ≤ p.block) : w'.cell? p = some v := by
  have hlt : p.block < w.heap.size := by
    obtain ⟨o, ho, _⟩ := not_walk_of_cell hc
    exact (Array.getElem?_eq_some_iff.1 ho).1
  rw [← hc]
  unfold World.cell?
  rw [h.same p.block hlt hr]

def Gives {α : Type} (F : Fence) (n : Nat) (P : Program) (g : Nat) (lb : Array Value) (encs : α → Array Value) (xs : List α) (R : Nat → Prop) (w : World) : Prop :=
  ∀ (l : Nat) (J : Nat → World → Prop) (W : World), Below w.heap.size w W → OwnFrom W.heap.size J →
    (∀ k x W1, xs[k]? = some x → J k W1 → YieldAt F (n - 1) P l (encs x) W1 fun e W' => e = .returned (.bool true) ∧ J (k + 1) W' ∧ Lets R W.heap.size W1 W') →
    J 0 W →
    CallsIn F n P g (#[.func (.yield l) #[] #[]] ++ lb) W fun e W' => (∃ v, e = .returned v) ∧ J xs.length W'

def goesOn (R : Nat → Prop) (B : Nat) (I : World → Prop) (W : World) : Exit → Act → World → Prop
  | .normal, _, W' => Lets R B W W' ∧ I W'
  | _, _, _ => False

set_option maxHeartbeats 400000 in
theorem wp_gives {α : Type} {F : Fence} {n : Nat} {P : Program} {g : Operand} {ps : Array Tmp} {assign body : Go.Code} {Q : Exit → Act → World → Prop} {a : Act} {w : World}
    (hro : F.round = none) (h1 : 1 ≤ n) {gf : Nat} {lb : Array Value} (hg : a.eval g = .func (.func gf) #[] lb) (hF : F.fn gf) (eg : ∀ args w, (callFunc gf args).run P w = .ok (.enter gf args) w)
    {encs : α → Array Value} {xs : List α} {R : Nat → Prop} {w0 : World} (hs : Gives F (n - 1) P gf lb encs xs R w0) (hb0 : Below w0.heap.size w0 w) (hR : ∀ k, R k → k < w.heap.size) (hps : ∀ x, (encs x).size = ps.size)
    (I : Nat → World → Prop) (hI : OwnFrom w.heap.size I) (h0 : I 0 w) (a₁ : α → World → Act) (wA : α → World → World) (hA : ∀ x W, Below W.heap.size W (wA x W))
    (hassign : ∀ (l : Nat) (x : α) (W : World) (K : Act → World → Prop), K (a₁ x W) (wA x W) →
      assign.wpIn (F.inRound l) (n - 1 - 1) P (Exit.then K (fun _ _ _ => False)) { tmps := (ps.zip (encs x)).foldl (fun t (p, v) => t.setIfInBounds p v) a.tmps, defers := [] } W)
    (hbody : ∀ (l : Nat) (k : Nat) (x : α) (W : World) (o o' : Obj), w.heap.size ≤ l → W.heap[l]? = some o' → o'.isCells = false → xs[k]? = some x → I k W → body.wpIn (F.inRound l) (n - 1 - 1) P (goesOn R w.heap.size (I (k + 1)) ((wA x W).putObj l o)) (a₁ x W) ((wA x W).putObj l o))
    (hdone : ∀ (D : Nat) (W : World), w.heap.size ≤ D → I xs.length W → W.heap[D]? = some (.deferred (some [])) → Q .normal { a with defers := { target := .collected D, args := #[] } :: a.defers } W) :
    (Code.rangeFunc g ps assign body).wpIn F n P Q a w := by
  refine wpIn_rangeFunc fun fn hfn => ?_
  rw [hro]
  obtain ⟨D, eD⟩ : ∃ D, D = w.heap.size := ⟨_, rfl⟩
  obtain ⟨L, eL⟩ : ∃ L : Loop, L = { state := .ready, pending := none, fn, tmps := a.tmps, params := ps, assign, body, defers := w.heap.size } := ⟨_, rfl⟩
  obtain ⟨L2, eL2⟩ : ∃ L2 : Loop, L2 = { L with state := .busy } := ⟨_, rfl⟩
  obtain ⟨W1, eW⟩ : ∃ W1, W1 = (w.alloc (.deferred (some []))).alloc (.loop L) := ⟨_, rfl⟩
  have s1 : W1.heap.size = D + 1 + 1 := by rw [eW, eD]; simp
  have hD : W1.heap[D]? = some (.deferred (some [])) := by rw [eW, eD]; exact (Below.heap_alloc _ _ _ (by simp)).trans (World.alloc_heap_new w _)
  have hL : W1.heap[D + 1]? = some (.loop L) := by
    have := World.alloc_heap_new (w.alloc (.deferred (some []))) (.loop L)
    rw [World.size_alloc] at this
    rw [eW, eD]; exact this
  have p1 : L.state = .ready := by rw [eL]
  have p2 : L.pending = none := by rw [eL]
  have p3 : L.params = ps := by rw [eL]
  have p4 : ∀ args, (Instr.yield (D + 1) args).run P = (Instr.yield (D + 1) args).run P := fun _ => rfl
  clear p4
  have hbw : Below w.heap.size w W1 := by rw [eW]; exact ((Below.refl _ w).alloc (Nat.le_refl _) _).alloc (by simp) _
  have nR : ∀ k, D ≤ k → ¬ R k := fun k hk hr => by have := hR k hr; omega
  -- what stands between two rounds
  obtain ⟨J, eJ⟩ : ∃ J : Nat → World → Prop, J = fun k W => I k W ∧ W.heap[D + 1]? = some (.loop L) ∧ W.heap[D]? = some (.deferred (some [])) := ⟨_, rfl⟩
  have keep : ∀ {A B : World} {row : Option Nat} {k : Nat} {o : Obj}, A.grownBy B row → (∀ r, row = some r → W1.heap.size ≤ r) → k < W1.heap.size → A.heap[k]? = some o → B.heap[k]? = some o := fun {A B row k o} hg hr hk ho => by
    rw [hg.block k (Array.getElem?_eq_some_iff.1 ho).1 (fun e => by have := hr k e.symm; omega)]; exact ho
  have hJ : OwnFrom W1.heap.size J := by
    rw [eJ]
    rintro k A B row ⟨i1, i3, i4⟩ hg hr
    have hr' : ∀ r, row = some r → W1.heap.size ≤ r := fun r e => (hr r e).1
    exact ⟨hI k A B row i1 hg fun r e => ⟨by have := hr' r e; omega, (hr r e).2⟩, keep hg hr' (by omega) i3, keep hg hr' (by omega) i4⟩
  have j0 : J 0 W1 := by rw [eJ, eW]; rw [eW] at hL hD; exact ⟨hI.alloc _ (hI.alloc _ h0), hL, hD⟩
  have round : ∀ k x W, xs[k]? = some x → J k W → YieldAt F (n - 1 - 1) P (D + 1) (encs x) W fun e W' => e = .returned (.bool true) ∧ J (k + 1) W' ∧ Lets R W1.heap.size W W' := by
    intro k x W hx hj
    rw [eJ] at hj
    obtain ⟨i1, i2, i3⟩ := hj
    have lt : D + 1 < W.heap.size := (Array.getElem?_eq_some_iff.1 i2).1
    obtain ⟨WA, eWA⟩ : ∃ WA, WA = wA x W := ⟨_, rfl⟩
    have hbA : Below W.heap.size W WA := by rw [eWA]; exact hA x W
    have ltA : D + 1 < WA.heap.size := Nat.lt_of_lt_of_le lt hbA.size
    have iA2 : WA.heap[D + 1]? = some (.loop L) := (hbA.block _ lt).trans i2
    have iA3 : WA.heap[D]? = some (.deferred (some [])) := (hbA.block _ (by omega)).trans i3
    have b2 : (WA.putObj (D + 1) (.loop L2)).heap[D + 1]? = some (.loop L2) := World.putObj_heap_same ltA
    have b3 : (WA.putObj (D + 1) (.loop L2)).heap[D]? = some (.deferred (some [])) := (World.putObj_heap_other (by omega)).trans iA3
    have y := run_yield (P := P) (args := encs x) i2 (by rw [p3]; exact hps x)
    have bg : (Instr.beginRound (D + 1)).run P WA = .ok () (WA.putObj (D + 1) (.loop L2)) := by rw [eL2]; exact run_beginRound iA2 p1
    have fin : ∀ W3, W3.heap[D + 1]? = some (.loop L2) → (Instr.endRound (D + 1) none).run P W3 = .ok (.bool true) (W3.putObj (D + 1) (.loop L)) := by
      intro W3 c2
      have := run_endRound (P := P) none c2
      rw [this, eL2, eL]
      rfl
    have hb := hbody (D + 1) k x W (.loop L2) _ (by omega) i2 rfl hx i1
    rw [← eWA] at hb
    have ha := hassign (D + 1) x W (fun a₁ w₁ => ∃ w₂, (Instr.beginRound (D + 1)).run P w₁ = .ok () w₂ ∧ body.wpIn (F.inRound (D + 1)) (n - 1 - 1) P (roundPost P (D + 1) fun e W' => e = .returned (.bool true) ∧ J (k + 1) W' ∧ Lets R W1.heap.size W W') a₁ w₂) ⟨_, by rw [← eWA]; exact bg, wpIn_mono hb ?_⟩
    · rw [eL] at y
      exact ⟨fn, _, assign, body, y, roundIn_of_wpIn hfn ha⟩
    · rintro e a3 W3 hp
      cases e with
      | normal =>
        obtain ⟨q, i4⟩ := hp
        have c2 := (q.same (D + 1) (by simpa using ltA) (.inr (by omega))).trans b2
        have c3 := (q.same D (by simp; omega) (.inr (by omega))).trans b3
        have lt3 : D + 1 < W3.heap.size := (Array.getElem?_eq_some_iff.1 c2).1
        refine ⟨_, _, fin W3 c2, rfl, ?_, ?_⟩
        · rw [eJ]
          exact ⟨hI.putObj _ i4 (by omega) c2 rfl, World.putObj_heap_same lt3, (World.putObj_heap_other (by omega)).trans c3⟩
        · have t1 : Lets R W1.heap.size W (WA.putObj (D + 1) (.loop L2)) := (Lets.of_below hbA).trans (Lets.turn WA _ (nR _ (by omega)) (by omega))
          have t2 : Lets R W1.heap.size (WA.putObj (D + 1) (.loop L2)) W3 := q.weak fun j hj => by rcases hj with h | h; exact Or.inl h; exact Or.inr (by omega)
          exact (t1.trans t2).trans (Lets.turn W3 _ (nR _ (by omega)) (by omega))
      | _ => exact hp.elim
  have calls := hs (D + 1) J W1 (hb0.trans (hbw.mono hb0.size)) hJ round j0
  have q1 := run_enterLoop_outer (P := P) (w := w) fn a.tmps ps assign body
  rw [← eL, ← eW, ← eD] at q1
  have q5 := calls.mono (R' := rangePost F n P (D + 1) Q { a with defers := [{ target := .collected D, args := #[] }] ++ a.defers }) (by
    rintro e W2 ⟨⟨v, rfl⟩, hj⟩
    rw [eJ] at hj
    obtain ⟨i1, i2, i3⟩ := hj
    have e2 := run_endLoop (P := P) i2 (by rw [p1]; simp)
    rw [p2] at e2
    refine ⟨none, _, e2, ?_⟩
    have := hdone D _ (by omega) (hI.putObj (.loop { L with state := .exhausted }) i1 (by omega) i2 rfl) ((World.putObj_heap_other (by omega)).trans i3)
    rw [p2] at this
    exact this)
  have q2 : (resolve a.eval (rangeCall g (D + 1)) 0).run P W1 = .ok { target := .fn (.func gf) lb, args := #[.func (.yield (D + 1)) #[] #[]] } W1 := by
    simp only [resolve, hg]
    simp [go_sem]
  have q4 : (invoke (.fn (.func gf) lb) #[.func (.yield (D + 1)) #[] #[]]).run P W1 = .ok (.enter gf (#[.func (.yield (D + 1)) #[] #[]] ++ lb)) W1 := by
    simp [invoke, go_sem, eg]
  exact ⟨_, _, _, _, _, _, _, _, q1, q2, fun f' hf' => by simp [Target.leads] at hf'; subst hf'; exact hF, q4, fun _ => h1, q5⟩

end Go.Proofs.YtomiepknmmpflaaGreatDoor

namespace Go.Proofs.YtomiepknmmpflaaGreatDoor
open Go.RowKit

structure LetsW (R : Nat → Prop) (B : Nat) (w w' : World) : Prop where
  size : w.heap.size ≤ w'.heap.size
  same : ∀ k, k < w.heap.size → R k → w'.heap[k]? = w.heap[k]?
  walks : ∀ k o, B ≤ k → w.heap[k]? = some o → o.isCells = false → w'.heap[k]? = some o
theorem LetsW.refl (R : Nat → Prop) (B : Nat) (w : World) : LetsW R B w w := ⟨Nat.le_refl _, fun _ _ _ => rfl, fun _ _ _ h _ => h⟩
theorem LetsW.trans {R : Nat → Prop} {B : Nat} {w w1 w2 : World} (h : LetsW R B w w1) (k : LetsW R B w1 w2) : LetsW R B w w2 :=
  ⟨Nat.le_trans h.size k.size, fun i hi hr => (k.same i (Nat.lt_of_lt_of_le hi h.size) hr).trans (h.same i hi hr), fun i o hi ho hc => k.walks i o hi (h.walks i o hi ho hc) hc⟩
theorem LetsW.of_below {R : Nat → Prop} {B : Nat} {w w' : World} (h : Below w.heap.size w w') : LetsW R B w w' := ⟨h.size, fun k hk _ => h.block k hk, fun k _ _ ho _ => (h.block k (Array.getElem?_eq_some_iff.1 ho).1).trans ho⟩
theorem LetsW.alloc {R : Nat → Prop} {B : Nat} {w w' : World} (h : LetsW R B w w') (o : Obj) : LetsW R B w (w'.alloc o) :=
  h.trans (.of_below ((Below.refl _ w').alloc (Nat.le_refl _) o))
theorem LetsW.turn {R : Nat → Prop} {B : Nat} (w : World) {l : Nat} (o : Obj) (hr : ¬ R l) (hB : l < B) : LetsW R B w (w.putObj l o) := by
  refine ⟨by simp, fun k _ hk => World.putObj_heap_other fun e => ?_, fun k o hk ho _ => (World.putObj_heap_other fun e => ?_).trans ho⟩
  · subst e; exact hr hk
  · omega
theorem LetsW.weak {R : Nat → Prop} {B B' : Nat} {w w' : World} (h : LetsW R B w w') (hB : B ≤ B') : LetsW R B' w w' := ⟨h.size, h.same, fun k o hk => h.walks k o (Nat.le_trans hB hk)⟩
theorem LetsW.cell {R : Nat → Prop} {B : Nat} {w w' : World} (h : LetsW R B w w') {p : Addr} {v : Value} (hc : w.cell? p = some v) (hr : R p.block) : w'.cell? p = some v := by
  have hlt : p.block < w.heap.size := by
    obtain ⟨o, ho, _⟩ := not_walk_of_cell hc
    exact (Array.getElem?_eq_some_iff.1 ho).1
  rw [← hc]
  unfold World.cell?
  rw [h.same p.block hlt hr]

def GivesW {α : Type} (F : Fence) (n : Nat) (P : Program) (g : Nat) (lb : Array Value) (encs : α → Array Value) (xs : List α) (R : Nat → Prop) (w : World) : Prop :=
  ∀ (l : Nat) (J : Nat → World → Prop) (W : World), Below w.heap.size w W → OwnFrom W.heap.size J →
    (∀ k x W1, xs[k]? = some x → J k W1 → YieldAt F (n - 1) P l (encs x) W1 fun e W' => e = .returned (.bool true) ∧ J (k + 1) W' ∧ LetsW R W.heap.size W1 W') →
    J 0 W →
    CallsIn F n P g (#[.func (.yield l) #[] #[]] ++ lb) W fun e W' => (∃ v, e = .returned v) ∧ J xs.length W'

def goesOnW (R : Nat → Prop) (B : Nat) (I : World → Prop) (W : World) : Exit → Act → World → Prop
  | .normal, _, W' => LetsW R B W W' ∧ I W'
  | _, _, _ => False

set_option maxHeartbeats 400000 in
theorem wp_givesW {α : Type} {F : Fence} {n : Nat} {P : Program} {g : Operand} {ps : Array Tmp} {assign body : Go.Code} {Q : Exit → Act → World → Prop} {a : Act} {w : World}
    (hro : F.round = none) (h1 : 1 ≤ n) {gf : Nat} {lb : Array Value} (hg : a.eval g = .func (.func gf) #[] lb) (hF : F.fn gf) (eg : ∀ args w, (callFunc gf args).run P w = .ok (.enter gf args) w)
    {encs : α → Array Value} {xs : List α} {R : Nat → Prop} {w0 : World} (hs : GivesW F (n - 1) P gf lb encs xs R w0) (hb0 : Below w0.heap.size w0 w) (hR : ∀ k, R k → k < w.heap.size) (hps : ∀ x, (encs x).size = ps.size)
    (I : Nat → World → Prop) (hI : OwnFrom w.heap.size I) (h0 : I 0 w) (a₁ : α → World → Act) (wA : α → World → World) (hA : ∀ x W, Below W.heap.size W (wA x W))
    (hassign : ∀ (l : Nat) (x : α) (W : World) (K : Act → World → Prop), K (a₁ x W) (wA x W) →
      assign.wpIn (F.inRound l) (n - 1 - 1) P (Exit.then K (fun _ _ _ => False)) { tmps := (ps.zip (encs x)).foldl (fun t (p, v) => t.setIfInBounds p v) a.tmps, defers := [] } W)
    (hbody : ∀ (l : Nat) (k : Nat) (x : α) (W : World) (o o' : Obj), w.heap.size ≤ l → W.heap[l]? = some o' → o'.isCells = false → xs[k]? = some x → I k W → body.wpIn (F.inRound l) (n - 1 - 1) P (goesOnW R w.heap.size (I (k + 1)) ((wA x W).putObj l o)) (a₁ x W) ((wA x W).putObj l o))
    (hdone : ∀ (D : Nat) (W : World), w.heap.size ≤ D → I xs.length W → W.heap[D]? = some (.deferred (some [])) → Q .normal { a with defers := { target := .collected D, args := #[] } :: a.defers } W) :
    (Code.rangeFunc g ps assign body).wpIn F n P Q a w := by
  refine wpIn_rangeFunc fun fn hfn => ?_
  rw [hro]
  obtain ⟨D, eD⟩ : ∃ D, D = w.heap.size := ⟨_, rfl⟩
  obtain ⟨L, eL⟩ : ∃ L : Loop, L = { state := .ready, pending := none, fn, tmps := a.tmps, params := ps, assign, body, defers := w.heap.size } := ⟨_, rfl⟩
  obtain ⟨L2, eL2⟩ : ∃ L2 : Loop, L2 = { L with state := .busy } := ⟨_, rfl⟩
  obtain ⟨W1, eW⟩ : ∃ W1, W1 = (w.alloc (.deferred (some []))).alloc (.loop L) := ⟨_, rfl⟩
  have s1 : W1.heap.size = D + 1 + 1 := by rw [eW, eD]; simp
  have hD : W1.heap[D]? = some (.deferred (some [])) := by rw [eW, eD]; exact (Below.heap_alloc _ _ _ (by simp)).trans (World.alloc_heap_new w _)
  have hL : W1.heap[D + 1]? = some (.loop L) := by
    have := World.alloc_heap_new (w.alloc (.deferred (some []))) (.loop L)
    rw [World.size_alloc] at this
    rw [eW, eD]; exact this
  have p1 : L.state = .ready := by rw [eL]
  have p2 : L.pending = none := by rw [eL]
  have p3 : L.params = ps := by rw [eL]
  have p4 : ∀ args, (Instr.yield (D + 1) args).run P = (Instr.yield (D + 1) args).run P := fun _ => rfl
  clear p4
  have hbw : Below w.heap.size w W1 := by rw [eW]; exact ((Below.refl _ w).alloc (Nat.le_refl _) _).alloc (by simp) _
  have nR : ∀ k, D ≤ k → ¬ R k := fun k hk hr => by have := hR k hr; omega
  -- what stands between two rounds
  obtain ⟨J, eJ⟩ : ∃ J : Nat → World → Prop, J = fun k W => I k W ∧ W.heap[D + 1]? = some (.loop L) ∧ W.heap[D]? = some (.deferred (some [])) := ⟨_, rfl⟩
  have keep : ∀ {A B : World} {row : Option Nat} {k : Nat} {o : Obj}, A.grownBy B row → (∀ r, row = some r → W1.heap.size ≤ r) → k < W1.heap.size → A.heap[k]? = some o → B.heap[k]? = some o := fun {A B row k o} hg hr hk ho => by
    rw [hg.block k (Array.getElem?_eq_some_iff.1 ho).1 (fun e => by have := hr k e.symm; omega)]; exact ho
  have hJ : OwnFrom W1.heap.size J := by
    rw [eJ]
    rintro k A B row ⟨i1, i3, i4⟩ hg hr
    have hr' : ∀ r, row = some r → W1.heap.size ≤ r := fun r e => (hr r e).1
    exact ⟨hI k A B row i1 hg fun r e => ⟨by have := hr' r e; omega, (hr r e).2⟩, keep hg hr' (by omega) i3, keep hg hr' (by omega) i4⟩
  have j0 : J 0 W1 := by rw [eJ, eW]; rw [eW] at hL hD; exact ⟨hI.alloc _ (hI.alloc _ h0), hL, hD⟩
  have round : ∀ k x W, xs[k]? = some x → J k W → YieldAt F (n - 1 - 1) P (D + 1) (encs x) W fun e W' => e = .returned (.bool true) ∧ J (k + 1) W' ∧ LetsW R W1.heap.size W W' := by
    intro k x W hx hj
    rw [eJ] at hj
    obtain ⟨i1, i2, i3⟩ := hj
    have lt : D + 1 < W.heap.size := (Array.getElem?_eq_some_iff.1 i2).1
    obtain ⟨WA, eWA⟩ : ∃ WA, WA = wA x W := ⟨_, rfl⟩
    have hbA : Below W.heap.size W WA := by rw [eWA]; exact hA x W
    have ltA : D + 1 < WA.heap.size := Nat.lt_of_lt_of_le lt hbA.size
    have iA2 : WA.heap[D + 1]? = some (.loop L) := (hbA.block _ lt).trans i2
    have iA3 : WA.heap[D]? = some (.deferred (some [])) := (hbA.block _ (by omega)).trans i3
    have b2 : (WA.putObj (D + 1) (.loop L2)).heap[D + 1]? = some (.loop L2) := World.putObj_heap_same ltA
    have b3 : (WA.putObj (D + 1) (.loop L2)).heap[D]? = some (.deferred (some [])) := (World.putObj_heap_other (by omega)).trans iA3
    have y := run_yield (P := P) (args := encs x) i2 (by rw [p3]; exact hps x)
    have bg : (Instr.beginRound (D + 1)).run P WA = .ok () (WA.putObj (D + 1) (.loop L2)) := by rw [eL2]; exact run_beginRound iA2 p1
    have fin : ∀ W3, W3.heap[D + 1]? = some (.loop L2) → (Instr.endRound (D + 1) none).run P W3 = .ok (.bool true) (W3.putObj (D + 1) (.loop L)) := by
      intro W3 c2
      have := run_endRound (P := P) none c2
      rw [this, eL2, eL]
      rfl
    have hb := hbody (D + 1) k x W (.loop L2) _ (by omega) i2 rfl hx i1
    rw [← eWA] at hb
    have ha := hassign (D + 1) x W (fun a₁ w₁ => ∃ w₂, (Instr.beginRound (D + 1)).run P w₁ = .ok () w₂ ∧ body.wpIn (F.inRound (D + 1)) (n - 1 - 1) P (roundPost P (D + 1) fun e W' => e = .returned (.bool true) ∧ J (k + 1) W' ∧ LetsW R W1.heap.size W W') a₁ w₂) ⟨_, by rw [← eWA]; exact bg, wpIn_mono hb ?_⟩
    · rw [eL] at y
      exact ⟨fn, _, assign, body, y, roundIn_of_wpIn hfn ha⟩
    · rintro e a3 W3 hp
      cases e with
      | normal =>
        obtain ⟨q, i4⟩ := hp
        have c2 := q.walks (D + 1) _ (by omega) b2 rfl
        have c3 := q.walks D _ (by omega) b3 rfl
        have lt3 : D + 1 < W3.heap.size := (Array.getElem?_eq_some_iff.1 c2).1
        refine ⟨_, _, fin W3 c2, rfl, ?_, ?_⟩
        · rw [eJ]
          exact ⟨hI.putObj _ i4 (by omega) c2 rfl, World.putObj_heap_same lt3, (World.putObj_heap_other (by omega)).trans c3⟩
        · have t1 : LetsW R W1.heap.size W (WA.putObj (D + 1) (.loop L2)) := (LetsW.of_below hbA).trans (LetsW.turn WA _ (nR _ (by omega)) (by omega))
          have t2 : LetsW R W1.heap.size (WA.putObj (D + 1) (.loop L2)) W3 := q.weak (by omega)
          exact (t1.trans t2).trans (LetsW.turn W3 _ (nR _ (by omega)) (by omega))
      | _ => exact hp.elim
  have calls := hs (D + 1) J W1 (hb0.trans (hbw.mono hb0.size)) hJ round j0
  have q1 := run_enterLoop_outer (P := P) (w := w) fn a.tmps ps assign body
  rw [← eL, ← eW, ← eD] at q1
  have q5 := calls.mono (R' := rangePost F n P (D + 1) Q { a with defers := [{ target := .collected D, args := #[] }] ++ a.defers }) (by
    rintro e W2 ⟨⟨v, rfl⟩, hj⟩
    rw [eJ] at hj
    obtain ⟨i1, i2, i3⟩ := hj
    have e2 := run_endLoop (P := P) i2 (by rw [p1]; simp)
    rw [p2] at e2
    refine ⟨none, _, e2, ?_⟩
    have := hdone D _ (by omega) (hI.putObj (.loop { L with state := .exhausted }) i1 (by omega) i2 rfl) ((World.putObj_heap_other (by omega)).trans i3)
    rw [p2] at this
    exact this)
  have q2 : (resolve a.eval (rangeCall g (D + 1)) 0).run P W1 = .ok { target := .fn (.func gf) lb, args := #[.func (.yield (D + 1)) #[] #[]] } W1 := by
    simp only [resolve, hg]
    simp [go_sem]
  have q4 : (invoke (.fn (.func gf) lb) #[.func (.yield (D + 1)) #[] #[]]).run P W1 = .ok (.enter gf (#[.func (.yield (D + 1)) #[] #[]] ++ lb)) W1 := by
    simp [invoke, go_sem, eg]
  exact ⟨_, _, _, _, _, _, _, _, q1, q2, fun f' hf' => by simp [Target.leads] at hf'; subst hf'; exact hF, q4, fun _ => h1, q5⟩

end Go.Proofs.YtomiepknmmpflaaGreatDoor

