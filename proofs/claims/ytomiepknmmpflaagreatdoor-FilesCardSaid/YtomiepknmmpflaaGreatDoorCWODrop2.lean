/- The library's Delete at the program's rows, of one row; and the keeper's drop. -/
import Derived.Test.YtomiepknmmpflaaGreatDoorCWONew
import Derived.Test.YtomiepknmmpflaaGreatDoorCWOput2
namespace Go.Proofs.YtomiepknmmpflaaGreatDoor
open Go.RowKit Go.Joins

theorem rows_take {w : World} {base g c : Nat} {l : Ov.Files} (h : OwnsRows w base (.slice (some ⟨g, 0, none⟩) l.length c) l) {p : Nat} (hp : p ≤ l.length) : w.ownsRow base 97 2 (.slice (some ⟨g, 0, none⟩) p c) p ((fileCells l).take (p * 2)) := by
  refine ⟨by rw [List.length_take, fileCells_length]; omega, ?_⟩
  rcases h.2 with ⟨e, _⟩ | ⟨g1, cap, cur, e, h1, h2, h3, h4, h5, h6⟩
  · simp at e
  · simp at e
    obtain ⟨rfl, rfl⟩ := e
    refine Or.inr ⟨g, c, cur, rfl, h1, h2, by omega, h4, h5, ?_⟩
    rw [← h6, List.take_take]
    congr 1; omega
theorem rows_drop {w : World} {base g c : Nat} {l : Ov.Files} (h : OwnsRows w base (.slice (some ⟨g, 0, none⟩) l.length c) l) (q : Nat) : ∀ (j : Nat) (u : Value), ((fileCells l).drop q)[j]? = some u → w.cell? ((⟨g, q, none⟩ : Addr).add j) = some u := by
  intro j u hu
  rw [List.getElem?_drop] at hu
  have := h.cells rfl (q + j) u hu
  have e : (⟨g, 0, none⟩ : Addr).add (q + j) = (⟨g, q, none⟩ : Addr).add j := by unfold Addr.add; split <;> split <;> simp_all
  rw [← e]; exact this

theorem zero_row (w : World) : (zeroValue 97).run Tryz.prog w = .ok (.agg #[.string ⟨#[]⟩, .string ⟨#[]⟩]) w := Tryz.zeroValue97 w
/-- 'clear' of the one row behind n rows of a row's array. -/
theorem clear_rows {w : World} {base g c cc q : Nat} {xs : List Value} (h : w.ownsRow base 97 2 (.slice (some ⟨g, 0, none⟩) q c) q xs) (hq : q + 1 ≤ c) :
    ∃ w', (Builtin.clear_ #[73] 0 #[.slice (some ⟨g, q * 2, none⟩) 1 cc]).run Tryz.prog w = .ok (.tuple #[]) w' ∧ w.grownBy w' (some g) ∧ w'.ownsRow base 97 2 (.slice (some ⟨g, 0, none⟩) q c) q xs := by
  obtain ⟨hlen, h2⟩ := h
  rcases h2 with ⟨e, _⟩ | ⟨g1, cap, cur, e, hb, hg, hnc, hcm, hcs, ht⟩
  · simp at e
  simp at e
  obtain ⟨rfl, rfl⟩ := e
  have hz : (Builtin.zeroCells (Value.agg #[.string ⟨#[]⟩, .string ⟨#[]⟩]).cells 1).toList = [.string ⟨#[]⟩, .string ⟨#[]⟩] := by simp [Builtin.zeroCells, Value.cells, Array.range, Array.ofFn_succ]
  have hst := run_storeCells_at Tryz.prog g (q * 2) 97 [.string ⟨#[]⟩, .string ⟨#[]⟩] 0 cur w hg (by simp; omega) (two_strings _ _)
  simp only [Nat.add_zero] at hst
  refine ⟨w.setRow g (cur.toList.take (q * 2) ++ [Value.string ⟨#[]⟩, Value.string ⟨#[]⟩] ++ cur.toList.drop (q * 2 + [Value.string ⟨#[]⟩, Value.string ⟨#[]⟩].length)).toArray, ?_, ⟨rfl, rfl, rfl, by simp, fun k _ hk => setRow_other w g k _ (fun e => hk (by simp [e]))⟩, hlen, Or.inr ⟨g, c, _, rfl, hb, setRow_heap w g cur _ _ _ hg, hnc, hcm, ?_, ?_⟩⟩
  · simp [Builtin.clear_, run_underlying Tryz.underlying73, hz, hst]
  · simp; omega
  · rw [← ht]
    simp only [List.append_assoc]
    rw [List.take_append_of_le_length (by simp; omega), List.take_take, Nat.min_self]
theorem fileCells_erase {l : Ov.Files} {p : Nat} (hp : p < l.length) : (fileCells l).take (p * 2) ++ (fileCells l).drop ((p + 1) * 2) = fileCells (l.eraseIdx p) := by
  induction l generalizing p with
  | nil => simp at hp
  | cons f l ih =>
    cases p with
    | zero => simp [fileCells]
    | succ p =>
      have := ih (p := p) (by simpa using hp)
      rw [show (p + 1) * 2 = p * 2 + 1 + 1 from by omega, show (p + 1 + 1) * 2 = (p + 1) * 2 + 1 + 1 from by omega]
      simpa [fileCells] using this
theorem erase_owns {w : World} {base g c n p : Nat} {l : Ov.Files} (hn : l.length = n) (hp : p < n) (h : w.ownsRow base 97 2 (.slice (some ⟨g, 0, none⟩) (n - 1) c) (n - 1) (fileCells (l.eraseIdx p))) : OwnsRows w base (.slice (some ⟨g, 0, none⟩) (n - 1) c) (l.eraseIdx p) := by
  unfold OwnsRows
  rw [List.length_eraseIdx, if_pos (by omega), hn]; exact h

set_option maxRecDepth 100000 in
set_option maxHeartbeats 1000000 in
theorem oSDel_calls (l : Ov.Files) (g c p : Nat) (w : World) (hl : l.length ≤ 8) (hown : OwnsRows w 0 (.slice (some ⟨g, 0, none⟩) l.length c) l) (hp : p < l.length) (hlc : l.length ≤ c) (hc : c ≤ 9223372036854775807) :
    Calls Tryz.prog 110 #[.slice (some ⟨g, 0, none⟩) l.length c, .int .i64 p, .int .i64 ((p : Int) + 1)] w fun e w' => e = .returned (.slice (some ⟨g, 0, none⟩) (l.length - 1) c) ∧ w.grownBy w' (some g) ∧ OwnsRows w' 0 (.slice (some ⟨g, 0, none⟩) (l.length - 1) c) (l.eraseIdx p) := by
  have HO := hide hown
  obtain ⟨n, hn⟩ : ∃ n, l.length = n := ⟨_, rfl⟩
  have HN := hide hn
  rw [hn] at hl hp hlc ⊢
  clear hown hn
  have hpp : ((p : Int) == (p : Int) + 1) = false := beq_eq_false_iff_ne.2 (by omega)
  obtain ⟨i0, hi, hz0, hz1, hz2⟩ := info_parts Tryz.infoRow
  go_enter Tryz.func110, Tryz.ntmps110
  go_wp2_with fail
  by_cases hpc : c = p + 1
  · subst hpc
    obtain rfl : n = p + 1 := by omega
    have HR := hide (rows_take (unhide HO) (p := p) (by have := unhide HN; omega))
    have HLN : Hid ((fileCells l).drop ((p + 1) * 2) = []) := List.drop_eq_nil_of_le (by rw [fileCells_length]; have := unhide HN; omega)
    have b5 : (0 : Int) ≤ (p : Int) + 1 := by omega
    have b6 : (p : Int) ≤ (p : Int) + 1 := by omega
    go_region_law (refine step_append_row rfl (.tmp 22) (.tmp 25) 73 rfl 0 97 i0 (.agg #[.string ⟨#[]⟩, .string ⟨#[]⟩]) 2 32 Tryz.underlying73 hi hz0 hz1 hz2 rfl (by decide) g p (p + 1) ((fileCells l).take (p * 2)) (by simp [Act.eval, Act.put]) (unhide HR) ⟨g, 0, none⟩ 0 0 [] (by simp [Act.eval, Act.put]) rfl (fun j u hu => by cases hu) (fun u hu => by cases hu) (by omega) (by unfold maxLen; omega) (by omega) (Nat.zero_le _) ?_; intro w3 ho3 hg3 hs3; have O3 := hide ho3; have G3 := hide hg3; clear ho3 hg3)
    go_wp2_with fail
    obtain ⟨w4, hrun, hgr, hown4⟩ := clear_rows (q := p) (c := p + 1) (cc := 1) (by exact unhide O3) (by omega)
    rw [hrun]
    go_wp2_with fail
    go_ret
    refine ⟨rfl, grown_trans (grown_trans (grown_of_below ((Below.refl _ w).drew) _) (unhide G3)) hgr, ?_⟩
    rw [← unhide HLN, fileCells_erase (by have := unhide HN; omega)] at hown4
    exact erase_owns (unhide HN) hp hown4
  · obtain ⟨m, hm⟩ : ∃ m, n - (p + 1) = m := ⟨_, rfl⟩
    have HR := hide (rows_take (unhide HO) (p := p) (by have := unhide HN; omega))
    have hpm : p + m = n - 1 := by omega
    have hrl : ((fileCells l).drop ((p + 1) * 2)).length = m * 2 := by rw [List.length_drop, fileCells_length]; have := unhide HN; omega
    have HL := hide hrl
    have HM := hide hm
    have HPM := hide hpm
    have b1 : (p : Int) ≤ (c : Int) := by omega
    have b2 : (p : Int) + 1 ≤ (n : Int) := by omega
    have b3 : (n : Int) ≤ (c : Int) := by omega
    have b4 : (0 : Int) ≤ (p : Int) := by omega
    have b5 : (0 : Int) ≤ (p : Int) + 1 := by omega
    have b6 : (p : Int) ≤ (p : Int) + 1 := by omega
    have b7 : ¬ (p : Int) + 1 < (p : Int) := by omega
    have HLZ : Hid (∀ (j : Nat) (u : Value), ((fileCells l).drop ((p + 1) * 2))[j]? = some u → c = p + 1 → False) := fun j u hu hz => by
      have h0 : m = 0 := by omega
      rw [List.eq_nil_of_length_eq_zero (show ((fileCells l).drop ((p + 1) * 2)).length = 0 by rw [hrl, h0])] at hu
      cases hu
    clear hrl hpm
    go_region_law (refine step_append_row rfl (.tmp 22) (.tmp 25) 73 rfl 0 97 i0 (.agg #[.string ⟨#[]⟩, .string ⟨#[]⟩]) 2 32 Tryz.underlying73 hi hz0 hz1 hz2 rfl (by decide) g p c ((fileCells l).take (p * 2)) (by simp [Act.eval, Act.put]) (unhide HR) ⟨g, (p + 1) * 2, none⟩ m (c - (p + 1)) ((fileCells l).drop ((p + 1) * 2)) (by simp [Act.eval, Act.put]) (unhide HL) (rows_drop (unhide HO) _) (fun u hu => fileCells_one l u (List.mem_of_mem_drop hu)) (by omega) (by unfold maxLen; omega) (by omega) (Nat.zero_le _) ?_; intro w3 ho3 hg3 hs3; have O3 := hide ho3; have G3 := hide hg3; clear ho3 hg3)
    rw [unhide HPM]
    go_wp2_with fail
    rw [show n - (n - 1) = 1 from by omega]
    obtain ⟨w4, hrun, hgr, hown4⟩ := clear_rows (c := c) (cc := c - (n - 1)) (by have := unhide O3; rw [unhide HPM] at this; exact this) (by omega)
    rw [hrun]
    go_wp2_with fail
    go_ret
    exact ⟨rfl, grown_trans (grown_trans (grown_of_below ((Below.refl _ w).drew) _) (unhide G3)) hgr, by rw [fileCells_erase (by have := unhide HN; omega)] at hown4; exact erase_owns (unhide HN) hp hown4⟩

end Go.Proofs.YtomiepknmmpflaaGreatDoor

/- The keeper's drop, and the program's Drop. -/
namespace Go.Proofs.YtomiepknmmpflaaGreatDoor
open Go.RowKit Go.Joins

theorem owns_cap {w : World} {base g c : Nat} {l : Ov.Files} (h : OwnsRows w base (.slice (some ⟨g, 0, none⟩) l.length c) l) : l.length ≤ c ∧ c ≤ maxLen := by
  rcases h.2 with ⟨e, _⟩ | ⟨g1, cap, cur, e, _, _, h3, h4, _⟩
  · simp at e
  · simp at e
    obtain ⟨rfl, rfl⟩ := e
    exact ⟨h3, h4⟩
theorem drop_left {w w1 w2 : World} {b off g c p : Nat} {cs : Array Value} {t : TypeId} {l : Ov.Files} (hblk : w.heap[b]? = some (.cells cs t (0, 0))) (hne : some b ≠ (Value.slice (some ⟨g, 0, none⟩) l.length c).ownBlock) (hb1 : Below w.heap.size w w1) (hg2 : w1.grownBy w2 (some g))
    (ho2 : OwnsRows w2 0 (.slice (some ⟨g, 0, none⟩) (l.length - 1) c) (l.eraseIdx p)) :
    PutLeft w b off cs t (.slice (some ⟨g, 0, none⟩) l.length c) (l.eraseIdx p) (.slice (some ⟨g, 0, none⟩) (l.length - 1) c) (w2.setCell ⟨b, off, none⟩ (.slice (some ⟨g, 0, none⟩) (l.length - 1) c)) := by
  have hbg : b ≠ g := fun e => hne (by rw [e]; rfl)
  have hlt := blk_lt hblk
  have s1 := hb1.size
  have hb2 : w2.heap[b]? = _ := (hg2.block b (by omega) (by simp [hbg])).trans ((hb1.block b hlt).trans hblk)
  have hne2 : some b ≠ (Value.slice (some ⟨g, 0, none⟩) (l.length - 1) c).ownBlock := by simp [Value.ownBlock, hbg]
  have hfr : OFr w w2 b (some g) := ⟨hg2.os.trans hb1.os, hg2.tape.trans hb1.tape, hg2.output.trans hb1.output, Nat.le_trans s1 hg2.size, fun k hk _ hr => (hg2.block k (by omega) hr).trans (hb1.block k hk)⟩
  exact ⟨blk_set_same hb2 _, owns_set ho2 hne2 _, hne2, hfr.trans (OFr.set_blk w2 b off _ _), Or.inl rfl⟩

set_option maxRecDepth 100000 in
set_option maxHeartbeats 400000 in
theorem oSdrop_calls (l : Ov.Files) (v : Value) (x : ByteArray) (b off : Nat) (cs : Array Value) (t : TypeId) (w : World) (hl : l.length ≤ 8) (hblk : w.heap[b]? = some (.cells cs t (0, 0))) (hoff : cs[off]? = some v) (hown : OwnsRows w 0 v l) (hne : some b ≠ v.ownBlock) (hp : Ov.place l x < l.length) :
    Calls Tryz.prog 71 #[.pointer (some ⟨b, off, none⟩), .string x] w fun e w' => e = .returned (.tuple #[]) ∧ ∃ v', PutLeft w b off cs t v (l.eraseIdx (Ov.place l x)) v' w' := by
  obtain ⟨g, c, rfl⟩ := ownsRow_form hown (by omega)
  have HB := hide hblk
  have HF := hide hoff
  have HO := hide hown
  have HN := hide hne
  have hbl := blk_lt hblk
  have hcap := owns_cap hown
  have HC := hide hcap
  obtain ⟨p, hpe⟩ : ∃ p, Ov.place l x = p := ⟨_, rfl⟩
  have hf : Ov.find l x = (p : Int) := by rw [Ov.find_yes hp, hpe]
  rw [hpe] at hp ⊢
  have hbg : b ≠ g := fun e => hne (by rw [e]; rfl)
  clear hpe hblk hoff hown hne hcap
  go_enter Tryz.func71, Tryz.ntmps71
  go_wp2_with (first | (go_at_call 98; refine (oSplace_calls l _ x b off 0 _ hl (unhide HO) (blk_cell (unhide HB) (unhide HF)) hbl).mono ?_; rintro e w1 ⟨rfl, hb1⟩; have c1 : w1.cell? ⟨b, off, none⟩ = some (.slice (some ⟨g, 0, none⟩) l.length c) := (hb1.cell (p := ⟨b, off, none⟩) hbl).trans (blk_cell (unhide HB) (unhide HF)); have HB1 := hide hb1; clear hb1) | (go_at_call 110; refine (oSDel_calls l g c p _ hl (owns_all (unhide HO) (unhide HB1)) hp (unhide HC).1 (by have := (unhide HC).2; unfold maxLen at this; omega)).mono ?_; rintro e w2 ⟨rfl, hg2, ho2⟩; have c2 : w2.cell? ⟨b, off, none⟩ = some (.slice (some ⟨g, 0, none⟩) l.length c) := hg2.cell c1 (by simp [hbg]); have f2 : w2.frozen? ⟨b, off, none⟩ = false := (World.frozen?_of_block (w := w1) (a := ⟨b, off, none⟩) (hg2.block b (Nat.lt_of_lt_of_le hbl (unhide HB1).size) (by simp [hbg]))).trans (((unhide HB1).frozen (p := ⟨b, off, none⟩) hbl).trans (blk_frozen (unhide HB) off))))
  first | go_end0 | refine bodyPost_ret (results_none rfl _ _ _) rfl ?_
  exact ⟨rfl, _, drop_left (unhide HB) (unhide HN) (unhide HB1) hg2 ho2⟩

end Go.Proofs.YtomiepknmmpflaaGreatDoor

/- The program's Drop. -/
namespace Go.Proofs.YtomiepknmmpflaaGreatDoor
open Go.RowKit Go.Joins

/-- Under the lock the rows were turned, then it was let go. -/
theorem OvLeft.turn {w w2 w3 : World} {b room : Nat} {r : Option Nat} {l l' : Ov.Files} {v v' : Value} (h : OvRep w b r room l) (hb : Below (w.setCell ⟨b, 0, none⟩ (.int .i32 1)).heap.size (w.setCell ⟨b, 0, none⟩ (.int .i32 1)) w2) (hr : v.ownBlock = r)
    (hp : PutLeft w2 b 3 #[.int .i32 1, .int .u32 0, .int .i64 room, v] 77 v l' v' w3) : OvLeft w b r room l' (w3.setCell ⟨b, 0, none⟩ (.int .i32 0)) := by
  obtain ⟨v0, h1, _⟩ := h
  have hs := hb.size
  simp only [World.size_setCell] at hs
  refine ⟨⟨v'.ownBlock, ⟨v', blk_set_same (i := 0) hp.blk _, owns_set hp.own hp.ne _, hp.ne, rfl⟩, ?_⟩, ?_⟩
  · rcases hp.row with e | e
    · exact Or.inl (e.trans hr)
    · exact Or.inr fun k hk => Nat.le_trans hs (e k hk)
  · have f2 := hp.fr
    rw [hr] at f2
    exact (((OFr.set_blk w b 0 r _).trans (OFr.of_below hb b r)).trans f2).trans (OFr.set_blk w3 b 0 r _)

open Go.MuLone in
set_option maxRecDepth 100000 in
set_option maxHeartbeats 400000 in
theorem oDrop_calls (l : Ov.Files) (x : ByteArray) (b : Nat) (r : Option Nat) (room : Nat) (w : World) (hi : Ov.LI room l) (h : OvRep w b r room l) :
    Calls Tryz.prog 37 #[.pointer (some ⟨b, 0, none⟩), .string x] w fun e w' => e = .returned (.int .i64 (Ov.dropF l x).1) ∧ OvLeft w b r room (Ov.dropF l x).2 w' := by
  obtain ⟨v, h1, h2, h3, h4⟩ := id h
  have HR := hide h
  have c0 : w.cell? ⟨b, 0, none⟩ = some (.int .i32 0) := blk_cell h1 rfl
  have f0 := blk_frozen h1 0
  have hbl := blk_lt h1
  have HB := hide (blk_set_same (i := 0) h1 (.int .i32 1))
  have HO := hide (owns_set h2 h3 (a := ⟨b, 0, none⟩) (.int .i32 1))
  have H3 := hide h3
  have H4 := hide h4
  have hl8 := hi.len
  have HI := hide hi
  clear h h1 h2 h3 h4 hi
  by_cases hp : Ov.place l x < l.length
  · have Hh : Ov.has l x = true := by unfold Ov.has; exact decide_eq_true hp
    have HD : Hid (Ov.dropF l x = (0, l.eraseIdx (Ov.place l x))) := by unfold Ov.dropF; rw [if_pos hp, Ov.filter_erase (unhide HI).nodup hp]; exact rfl
    go_enter_defers Tryz.func37, Tryz.ntmps37
    go_wp2_with (first | (go_at_call 43; refine (lock_free muLib ⟨b, 0, none⟩ _ c0 f0).mono ?_; rintro e w1 ⟨rfl, rfl⟩) | (go_at_call 66; refine (oShas_calls l v x b 3 0 _ hl8 (unhide HO) (blk_cell (unhide HB) rfl) (by simpa using hbl)).mono ?_; rintro e w2 ⟨rfl, hb2⟩; have HB2 := hide hb2; clear hb2) | (go_at_call 71; refine (oSdrop_calls l v x b 3 #[.int .i32 1, .int .u32 0, .int .i64 room, v] 77 _ hl8 (((unhide HB2).block b (by simpa using hbl)).trans (unhide HB)) rfl (owns_all (unhide HO) (unhide HB2)) (unhide H3) hp).mono ?_; rintro e w3 ⟨rfl, v3, hp3⟩))
    refine leaves_cons (f := 44) (args := #[.pointer (some ⟨b, 0, none⟩)]) (by simp) (by simp [go_sem]) ?_
    refine (unlock_deferred muLib ⟨b, 0, none⟩ .returning _ ?_ ?_).mono ?_
    · exact blk_cell hp3.blk rfl
    · exact blk_frozen hp3.blk 0
    rintro e u' w'' ⟨rfl, rfl, rfl⟩
    refine ⟨_, results_tmp rfl _ _ _, ?_, ?_⟩
    · rw [unhide HD]; rfl
    · rw [unhide HD]; exact OvLeft.turn (unhide HR) (unhide HB2) (unhide H4) hp3
  · have Hh : Ov.has l x = false := by unfold Ov.has; exact decide_eq_false hp
    have HD : Hid (Ov.dropF l x = (4, l)) := by unfold Ov.dropF; rw [if_neg hp]; exact rfl
    go_enter_defers Tryz.func37, Tryz.ntmps37
    go_wp2_with (first | (go_at_call 43; refine (lock_free muLib ⟨b, 0, none⟩ _ c0 f0).mono ?_; rintro e w1 ⟨rfl, rfl⟩) | (go_at_call 66; refine (oShas_calls l v x b 3 0 _ hl8 (unhide HO) (blk_cell (unhide HB) rfl) (by simpa using hbl)).mono ?_; rintro e w2 ⟨rfl, hb2⟩; have HB2 := hide hb2; clear hb2))
    refine leaves_cons (f := 44) (args := #[.pointer (some ⟨b, 0, none⟩)]) (by simp) (by simp [go_sem]) ?_
    refine (unlock_deferred muLib ⟨b, 0, none⟩ .returning _ ?_ ?_).mono ?_
    · exact ((unhide HB2).cell (p := ⟨b, 0, none⟩) (by simpa using hbl)).trans (blk_cell (unhide HB) rfl)
    · exact ((unhide HB2).frozen (p := ⟨b, 0, none⟩) (by simpa using hbl)).trans (blk_frozen (unhide HB) 0)
    rintro e u' w'' ⟨rfl, rfl, rfl⟩
    refine ⟨_, results_tmp rfl _ _ _, ?_, ?_⟩
    · rw [unhide HD]; rfl
    · rw [unhide HD]; exact OvLeft.quiet (unhide HR) (unhide HB2)

end Go.Proofs.YtomiepknmmpflaaGreatDoor
