/- The walk of the program's openDown. -/
import Derived.Test.YtomiepknmmpflaaGreatDoorKWBuild
namespace Go.Proofs.YtomiepknmmpflaaGreatDoor
open Go.RowKit Go.Joins

structure DownAt (w : World) (b B cb : Nat) (r0 r : Option Nat) (room : Nat) (l : Ov.Files) (L : Ims) (s0 s1 s2 s3 : Addr) : Prop where
  ov : OvAt 1 w b r0 room l
  li : Ov.LI room l
  se : Sents w B s0 s1 s2 s3
  ch : Ch w cb r l L
  met : Ov.Met l (L.map Prod.fst)
  bB : B ≤ cb
  bb : b < cb
  br : ∀ k, r0 = some k → k < cb
  rr : ∀ k, r = some k → cb ≤ k
theorem DownAt.len {w : World} {b B cb : Nat} {r0 r : Option Nat} {room : Nat} {l : Ov.Files} {L : Ims} {s0 s1 s2 s3 : Addr} (h : DownAt w b B cb r0 r room l L s0 s1 s2 s3) : L.length ≤ 8 := by
  have h1 := h.met.length
  have h2 := h.li.len
  rw [List.length_map] at h1
  omega
theorem DownAt.kept {w w' : World} {b B cb : Nat} {r0 r : Option Nat} {room : Nat} {l : Ov.Files} {L : Ims} {s0 s1 s2 s3 : Addr} (h : DownAt w b B cb r0 r room l L s0 s1 s2 s3) (hb : Below w.heap.size w w') : DownAt w' b B cb r0 r room l L s0 s1 s2 s3 :=
  { h with ov := h.ov.kept hb, se := h.se.keptAll hb, ch := h.ch.kept hb }

theorem DownAt.put {w w' : World} {b B cb g : Nat} {r0 r : Option Nat} {room : Nat} {l : Ov.Files} {L : Ims} {s0 s1 s2 s3 : Addr} {x s : ByteArray} {v v' : Value} {q : Im} (h : DownAt w b B cb r0 r room l L s0 s1 s2 s3) (h1 : w.heap[cb]? = some (.cells #[v] 132 (0, 0))) (h2 : OwnsIms w 0 v L) (h3 : v.ownBlock = r) (hx : x ∉ L.map Prod.fst) (hpl : Ov.place l x < l.length) (hs : Ov.fileAt l (Ov.place l x) = s) (hq : imOf s g = q) (hi : Ov.isImage s)
    (hcg : cb ≤ g) (hg : w.heap[g]? = some (.cells (rowTo s (Ov.many s)).toArray 160 (0, 0))) (hp : IPutLeft w cb v (L ++ [(x, q)]) v' w') : DownAt w' b B cb r0 v'.ownBlock room l (L ++ [(x, q)]) s0 s1 s2 s3 := by
  subst hs; subst hq
  have hcb := blk_lt h1
  have hbel : Below cb w w' := hp.fr.below (fun k hk => h.rr k (by rw [← h3]; exact hk)) (Nat.le_of_lt hcb)
  refine ⟨h.ov.keptB hbel h.bb h.br, h.li, h.se.kept (hbel.mono h.bB), Ch.put h1 h2 h.ch.2 hcg hi hg hp, ?_, h.bB, h.bb, h.br, fun k hk => ?_⟩
  · rw [List.map_append]
    exact h.met.snoc hx hpl
  · rcases hp.row with e | e
    · exact h.rr k (by rw [← h3, ← e]; exact hk)
    · have := e k hk; omega
theorem blk_new1 (w : World) (o : Obj) (p : Obj) : ((w.alloc o).alloc p).heap[w.heap.size + 1]? = some p := by
  have := blk_new (w.alloc o) p
  simpa using this

structure DownPut (w : World) (b B cb : Nat) (r0 r : Option Nat) (room : Nat) (l : Ov.Files) (L : Ims) (s0 s1 s2 s3 : Addr) (mb : Nat) (bk : ByteArray) (r' : Option Nat) (w3 : World) : Prop where
  at' : DownAt w3 b B cb r0 r' room l L s0 s1 s2 s3
  cm : w3.cell? ⟨mb, 0, none⟩ = some (.string bk)
  fr : OFr w w3 cb r
  row : r' = r ∨ ∀ k, r' = some k → w.heap.size ≤ k
theorem down_put {w w1 w2 w3 : World} {b B cb g m : Nat} {r0 r : Option Nat} {room : Nat} {l : Ov.Files} {L : Ims} {s0 s1 s2 s3 : Addr} {x s bk : ByteArray} {t : Int} {v v' : Value} {q : Im} (h : DownAt w b B cb r0 r room l L s0 s1 s2 s3) (h1 : w.heap[cb]? = some (.cells #[v] 132 (0, 0))) (h2 : OwnsIms w 0 v L) (h3 : v.ownBlock = r) (hx : x ∉ L.map Prod.fst) (hpl : Ov.place l x < l.length) (hs : Ov.fileAt l (Ov.place l x) = s) (hq : imOf s g = q) (hi : Ov.isImage s)
    (hb1 : Below w.heap.size w w1) (hb2 : Below w1.heap.size w1 w2) (hcg : w1.heap.size ≤ g) (hg : w2.heap[g]? = some (.cells (rowTo s (Ov.many s)).toArray 160 (0, 0)))
    (hp : IPutLeft (w2.alloc (.cells #[.string bk, .slice (some ⟨g, 0, none⟩) m m, .int .i64 t] 90)) cb v (L ++ [(x, q)]) v' w3) : DownPut w b B cb r0 r room l (L ++ [(x, q)]) s0 s1 s2 s3 w2.heap.size bk v'.ownBlock w3 := by
  have hb12 : Below w.heap.size w w2 := hb1.trans (hb2.mono hb1.size)
  have hb3 : Below w.heap.size w (w2.alloc (.cells #[.string bk, .slice (some ⟨g, 0, none⟩) m m, .int .i64 t] 90)) := hb12.alloc hb12.size _
  have k1 := (hb3.block cb (blk_lt h1)).trans h1
  have k2 := owns_all h2 hb3
  refine ⟨(h.kept hb3).put k1 k2 h3 hx hpl hs hq hi (by have := blk_lt h1; have := hb1.size; omega) (blk_alloc hg _) hp, blk_cell (Ch.other k1 k2 hp.fr (blk_new _ _) (by decide) (by decide)) rfl, (OFr.of_below hb3 cb r).trans (by rw [← h3]; exact hp.fr), ?_⟩
  rcases hp.row with e | e
  · exact Or.inl (by rw [e, h3])
  · exact Or.inr fun k hk => Nat.le_trans hb3.size (e k hk)

set_option maxRecDepth 100000 in
set_option maxHeartbeats 2000000 in
theorem odown_bad (x : ByteArray) (w : World) (b B cb : Nat) (r0 r : Option Nat) (room : Nat) (l : Ov.Files) (L : Ims) (s0 s1 s2 s3 : Addr) (h : DownAt w b B cb r0 r room l L s0 s1 s2 s3) (hp : Ov.place l x < l.length) (hi : ¬ Ov.isImage (Ov.fileAt l (Ov.place l x))) :
    Calls Tryz.prog 81 #[.pointer (some ⟨b, 0, none⟩), .string x, .pointer (some ⟨cb, 0, none⟩)] w (DownNo s0 s1 s2 s3 5 x cb r w) := by
  obtain ⟨s, hse⟩ : ∃ s, Ov.fileAt l (Ov.place l x) = s := ⟨_, rfl⟩
  rw [hse] at hi
  obtain ⟨v, o1, o2, _, _⟩ := id h.ov
  have c3 : w.cell? ⟨b, 3, none⟩ = some v := blk_cell o1 rfl
  have hbl := blk_lt o1
  have hl8 := h.li.len
  have HO := hide o2
  have HH := hide h
  have HP := hide hp
  have HSE := hide hse
  have HI := hide hi
  clear h o1 o2 hp hse hi
  go_enter Tryz.func81, Tryz.ntmps81
  go_wp2_with (first
    | (go_at_call 57; refine (oparse_no s _ _ _ (unhide HI) (unhide HH1).se.g3 (by have := (unhide HH1).se.l; have := (unhide HH1).se.size; omega)).mono ?_; rintro e w2 ⟨hb2, rfl⟩)
    | (go_at_call 56; refine (get_here hl8 (unhide HP) (unhide HSE) (unhide HO) c3 hbl).mono ?_; rintro e w1 ⟨rfl, hb1⟩; have HH1 := hide ((unhide HH).kept hb1)))
  go_ret
  exact ⟨⟨s3, 0, _, _, rfl, .fault _ _ (blk_new1 w2 _ _), .corrupt⟩, OFr.of_below (((hb1.trans (hb2.mono hb1.size)).alloc (Nat.le_trans hb1.size hb2.size) _).alloc (by have h5 := hb1.size; have h6 := hb2.size; simp; omega) _) _ _⟩

set_option maxRecDepth 100000 in
set_option maxHeartbeats 4000000 in
theorem odown_last (x : ByteArray) (w : World) (b B cb : Nat) (r0 r : Option Nat) (room : Nat) (l : Ov.Files) (L : Ims) (s0 s1 s2 s3 : Addr) (h : DownAt w b B cb r0 r room l L s0 s1 s2 s3) (hp : Ov.place l x < l.length) (hi : Ov.isImage (Ov.fileAt l (Ov.place l x))) (hx : x ∉ L.map Prod.fst) (hk : (Ov.backing (Ov.fileAt l (Ov.place l x))).size = 0) :
    Calls Tryz.prog 81 #[.pointer (some ⟨b, 0, none⟩), .string x, .pointer (some ⟨cb, 0, none⟩)] w (DownYes l (L.map Prod.fst ++ [x]) cb r w) := by
  obtain ⟨s, hse⟩ : ∃ s, Ov.fileAt l (Ov.place l x) = s := ⟨_, rfl⟩
  rw [hse] at hi hk
  obtain ⟨v, o1, o2, _, _⟩ := id h.ov
  obtain ⟨⟨u, u1, u2, u3⟩, u4⟩ := id h.ch
  have c3 : w.cell? ⟨b, 3, none⟩ = some v := blk_cell o1 rfl
  have hbl := blk_lt o1
  have hl8 := h.li.len
  have hL8 := h.len
  have hxs : x.size ≤ 1000 := Nat.le_trans (h.li.name_size hp) (by omega)
  have HO := hide o2
  have HH := hide h
  have HP := hide hp
  have HSE := hide hse
  have HI := hide hi
  have HX := hide hx
  have HU1 := hide u1
  have HU2 := hide u2
  have HU3 := hide u3
  obtain ⟨bk, hbk⟩ : ∃ bk, Ov.backing s = bk := ⟨_, rfl⟩
  obtain ⟨m, hm⟩ : ∃ m, Ov.many s = m := ⟨_, rfl⟩
  obtain ⟨t, ht⟩ : ∃ t, Ov.lost s = t := ⟨_, rfl⟩
  rw [hbk] at hk
  have hbe : bk.toList.isEmpty = true := by rw [ByteArray.toList_eq, List.isEmpty_iff_length_eq_zero]; simpa using hk
  have HM : Hid (∀ g, imOf s g = ⟨bk, g, m, t⟩) := fun g => by simp only [imOf, hbk, hm, ht]
  have HBK := hide hbk
  have HMM := hide hm
  have HTT := hide ht
  clear h o1 o2 hp hse hi hx u1 u2 u3 u4 hbk hm ht
  go_enter Tryz.func81, Tryz.ntmps81
  go_wp2_with (first
    | (go_at_call 132; refine (oIput_calls L u x bk g m t cb _ hL8 (blk_alloc ((hb2.block _ (Nat.lt_of_lt_of_le (blk_lt (unhide HU1)) hb1.size)).trans ((hb1.block _ (blk_lt (unhide HU1))).trans (unhide HU1))) _) ((owns_all (owns_all (unhide HU2) hb1) hb2).alloc _) (fun k => unhide HX (fl_place.1 k)) hxs (Ch.ne (unhide HU1) (unhide HU2))).mono ?_; rintro e w3 ⟨rfl, v', hput⟩; have HD := hide (down_put (unhide HH) (unhide HU1) (unhide HU2) (unhide HU3) (unhide HX) (unhide HP) (unhide HSE) (unhide HM g) (unhide HI) hb1 hb2 hg (unhide HG) hput); have cm := (unhide HD).cm; clear hput)
    | (go_at_call 57; refine (oparse_yes s _ _ _ (unhide HI) (unhide HH1).se.g3 (by have := (unhide HH1).se.l; have := (unhide HH1).se.size; omega)).mono ?_; rintro e w2 ⟨hb2, g, he, hg, hrow⟩; rw [unhide HMM, unhide HTT, unhide HBK] at he; subst he; have HG := hide hrow; clear hrow)
    | (go_at_call 56; refine (get_here hl8 (unhide HP) (unhide HSE) (unhide HO) c3 hbl).mono ?_; rintro e w1 ⟨rfl, hb1⟩; have HH1 := hide ((unhide HH).kept hb1)))
  go_ret
  exact ⟨rfl, (unhide HD).fr, _, _, (unhide HD).at'.ch, by rw [List.map_append]; rfl, (unhide HD).row⟩

theorem ihas_down {w : World} {b B cb : Nat} {r0 r : Option Nat} {room : Nat} {l : Ov.Files} {L : Ims} {s0 s1 s2 s3 : Addr} (h : DownAt w b B cb r0 r room l L s0 s1 s2 s3) (y : ByteArray) {q : Bool} (hq : Ov.metB (L.map Prod.fst) y = q) :
    Calls Tryz.prog 96 #[.pointer (some ⟨cb, 0, none⟩), .string y] w fun e w' => e = .returned (.bool q) ∧ Below w.heap.size w w' := by
  obtain ⟨⟨u, u1, u2, u3⟩, _⟩ := h.ch
  have := oIhas_calls L u y cb 0 0 w h.len u2 (blk_cell u1 rfl) (blk_lt u1)
  rw [fl_has, hq] at this
  exact this
theorem shas_down {w : World} {b B cb : Nat} {r0 r : Option Nat} {room : Nat} {l : Ov.Files} {L : Ims} {s0 s1 s2 s3 : Addr} (h : DownAt w b B cb r0 r room l L s0 s1 s2 s3) (y : ByteArray) {q : Bool} (hq : Ov.has l y = q) :
    Calls Tryz.prog 66 #[.pointer (some ⟨b, 3, none⟩), .string y] w fun e w' => e = .returned (.bool q) ∧ Below w.heap.size w w' := by
  obtain ⟨v, o1, o2, _, _⟩ := h.ov
  have := oShas_calls l v y b 3 0 w h.li.len o2 (blk_cell o1 rfl) (blk_lt o1)
  rw [hq] at this
  exact this

set_option maxRecDepth 100000 in
set_option maxHeartbeats 4000000 in
theorem odown_cycle (x : ByteArray) (w : World) (b B cb : Nat) (r0 r : Option Nat) (room : Nat) (l : Ov.Files) (L : Ims) (s0 s1 s2 s3 : Addr) (h : DownAt w b B cb r0 r room l L s0 s1 s2 s3) (hp : Ov.place l x < l.length) (hi : Ov.isImage (Ov.fileAt l (Ov.place l x))) (hx : x ∉ L.map Prod.fst) (hk : (Ov.backing (Ov.fileAt l (Ov.place l x))).size ≠ 0) (hmt : Ov.metB (L.map Prod.fst ++ [x]) (Ov.backing (Ov.fileAt l (Ov.place l x))) = true) :
    Calls Tryz.prog 81 #[.pointer (some ⟨b, 0, none⟩), .string x, .pointer (some ⟨cb, 0, none⟩)] w (DownNo s0 s1 s2 s3 7 x cb r w) := by
  obtain ⟨s, hse⟩ : ∃ s, Ov.fileAt l (Ov.place l x) = s := ⟨_, rfl⟩
  rw [hse] at hi hk hmt
  obtain ⟨v, o1, o2, _, _⟩ := id h.ov
  obtain ⟨⟨u, u1, u2, u3⟩, u4⟩ := id h.ch
  have c3 : w.cell? ⟨b, 3, none⟩ = some v := blk_cell o1 rfl
  have hbl := blk_lt o1
  have hl8 := h.li.len
  have hL8 := h.len
  have hxs : x.size ≤ 1000 := Nat.le_trans (h.li.name_size hp) (by omega)
  have HO := hide o2
  have HH := hide h
  have HP := hide hp
  have HSE := hide hse
  have HI := hide hi
  have HX := hide hx
  have HU1 := hide u1
  have HU2 := hide u2
  have HU3 := hide u3
  obtain ⟨bk, hbk⟩ : ∃ bk, Ov.backing s = bk := ⟨_, rfl⟩
  obtain ⟨m, hm⟩ : ∃ m, Ov.many s = m := ⟨_, rfl⟩
  obtain ⟨t, ht⟩ : ∃ t, Ov.lost s = t := ⟨_, rfl⟩
  rw [hbk] at hk hmt
  have hbe : bk.toList.isEmpty = false := by rw [ByteArray.toList_eq, ← Bool.not_eq_true, List.isEmpty_iff_length_eq_zero]; simpa using hk
  have HM : Hid (∀ g, imOf s g = ⟨bk, g, m, t⟩) := fun g => by simp only [imOf, hbk, hm, ht]
  have HBK := hide hbk
  have HMM := hide hm
  have HTT := hide ht
  have HMT := hide hmt
  clear h o1 o2 hp hse hi hx u1 u2 u3 u4 hbk hm ht hmt
  go_enter Tryz.func81, Tryz.ntmps81
  go_wp2_with (first
    | (go_at_call 96; refine (ihas_down (q := true) (unhide HD).at' bk (by rw [List.map_append]; exact unhide HMT)).mono ?_; rintro e w4 ⟨rfl, hb4⟩; have g2 := (((unhide HD).at').kept hb4).se.g2; have cm4 := (hb4.cell (p := ⟨w2.heap.size, 0, none⟩) (cell_lt cm)).trans cm)
    | (go_at_call 132; refine (oIput_calls L u x bk g m t cb _ hL8 (blk_alloc ((hb2.block _ (Nat.lt_of_lt_of_le (blk_lt (unhide HU1)) hb1.size)).trans ((hb1.block _ (blk_lt (unhide HU1))).trans (unhide HU1))) _) ((owns_all (owns_all (unhide HU2) hb1) hb2).alloc _) (fun k => unhide HX (fl_place.1 k)) hxs (Ch.ne (unhide HU1) (unhide HU2))).mono ?_; rintro e w3 ⟨rfl, v', hput⟩; have HD := hide (down_put (unhide HH) (unhide HU1) (unhide HU2) (unhide HU3) (unhide HX) (unhide HP) (unhide HSE) (unhide HM g) (unhide HI) hb1 hb2 hg (unhide HG) hput); have cm := (unhide HD).cm; clear hput)
    | (go_at_call 57; refine (oparse_yes s _ _ _ (unhide HI) (unhide HH1).se.g3 (by have := (unhide HH1).se.l; have := (unhide HH1).se.size; omega)).mono ?_; rintro e w2 ⟨hb2, g, he, hg, hrow⟩; rw [unhide HMM, unhide HTT, unhide HBK] at he; subst he; have HG := hide hrow; clear hrow)
    | (go_at_call 56; refine (get_here hl8 (unhide HP) (unhide HSE) (unhide HO) c3 hbl).mono ?_; rintro e w1 ⟨rfl, hb1⟩; have HH1 := hide ((unhide HH).kept hb1)))
  go_ret
  exact ⟨⟨s2, 0, _, _, rfl, .fault _ _ (blk_new _ _), .cycle⟩, (unhide HD).fr.next (unhide HD).row (OFr.of_below (hb4.alloc hb4.size _) _ _)⟩


set_option maxRecDepth 100000 in
set_option maxHeartbeats 4000000 in
theorem odown_missing (x : ByteArray) (w : World) (b B cb : Nat) (r0 r : Option Nat) (room : Nat) (l : Ov.Files) (L : Ims) (s0 s1 s2 s3 : Addr) (h : DownAt w b B cb r0 r room l L s0 s1 s2 s3) (hp : Ov.place l x < l.length) (hi : Ov.isImage (Ov.fileAt l (Ov.place l x))) (hx : x ∉ L.map Prod.fst) (hk : (Ov.backing (Ov.fileAt l (Ov.place l x))).size ≠ 0) (hmt : Ov.metB (L.map Prod.fst ++ [x]) (Ov.backing (Ov.fileAt l (Ov.place l x))) = false) (hno : Ov.has l (Ov.backing (Ov.fileAt l (Ov.place l x))) = false) :
    Calls Tryz.prog 81 #[.pointer (some ⟨b, 0, none⟩), .string x, .pointer (some ⟨cb, 0, none⟩)] w (DownNo s0 s1 s2 s3 6 x cb r w) := by
  obtain ⟨s, hse⟩ : ∃ s, Ov.fileAt l (Ov.place l x) = s := ⟨_, rfl⟩
  rw [hse] at hi hk hmt hno
  obtain ⟨v, o1, o2, _, _⟩ := id h.ov
  obtain ⟨⟨u, u1, u2, u3⟩, u4⟩ := id h.ch
  have c3 : w.cell? ⟨b, 3, none⟩ = some v := blk_cell o1 rfl
  have hbl := blk_lt o1
  have hl8 := h.li.len
  have hL8 := h.len
  have hxs : x.size ≤ 1000 := Nat.le_trans (h.li.name_size hp) (by omega)
  have HO := hide o2
  have HH := hide h
  have HP := hide hp
  have HSE := hide hse
  have HI := hide hi
  have HX := hide hx
  have HU1 := hide u1
  have HU2 := hide u2
  have HU3 := hide u3
  obtain ⟨bk, hbk⟩ : ∃ bk, Ov.backing s = bk := ⟨_, rfl⟩
  obtain ⟨m, hm⟩ : ∃ m, Ov.many s = m := ⟨_, rfl⟩
  obtain ⟨t, ht⟩ : ∃ t, Ov.lost s = t := ⟨_, rfl⟩
  rw [hbk] at hk hmt hno
  have hbe : bk.toList.isEmpty = false := by rw [ByteArray.toList_eq, ← Bool.not_eq_true, List.isEmpty_iff_length_eq_zero]; simpa using hk
  have HM : Hid (∀ g, imOf s g = ⟨bk, g, m, t⟩) := fun g => by simp only [imOf, hbk, hm, ht]
  have HBK := hide hbk
  have HMM := hide hm
  have HTT := hide ht
  have HMT := hide hmt
  have HNO := hide hno
  clear h o1 o2 hp hse hi hx u1 u2 u3 u4 hbk hm ht hmt hno
  go_enter Tryz.func81, Tryz.ntmps81
  go_wp2_with (first
    | (go_at_call 96; refine (ihas_down (q := false) (unhide HD).at' bk (by rw [List.map_append]; exact unhide HMT)).mono ?_; rintro e w4 ⟨rfl, hb4⟩; have HH4 := hide (((unhide HD).at').kept hb4); have cm4 := (hb4.cell (p := ⟨w2.heap.size, 0, none⟩) (cell_lt cm)).trans cm)
    | (go_at_call 132; refine (oIput_calls L u x bk g m t cb _ hL8 (blk_alloc ((hb2.block _ (Nat.lt_of_lt_of_le (blk_lt (unhide HU1)) hb1.size)).trans ((hb1.block _ (blk_lt (unhide HU1))).trans (unhide HU1))) _) ((owns_all (owns_all (unhide HU2) hb1) hb2).alloc _) (fun k => unhide HX (fl_place.1 k)) hxs (Ch.ne (unhide HU1) (unhide HU2))).mono ?_; rintro e w3 ⟨rfl, v', hput⟩; have HD := hide (down_put (unhide HH) (unhide HU1) (unhide HU2) (unhide HU3) (unhide HX) (unhide HP) (unhide HSE) (unhide HM g) (unhide HI) hb1 hb2 hg (unhide HG) hput); have cm := (unhide HD).cm; clear hput)
    | (go_at_call 57; refine (oparse_yes s _ _ _ (unhide HI) (unhide HH1).se.g3 (by have := (unhide HH1).se.l; have := (unhide HH1).se.size; omega)).mono ?_; rintro e w2 ⟨hb2, g, he, hg, hrow⟩; rw [unhide HMM, unhide HTT, unhide HBK] at he; subst he; have HG := hide hrow; clear hrow)
    | (go_at_call 56; refine (get_here hl8 (unhide HP) (unhide HSE) (unhide HO) c3 hbl).mono ?_; rintro e w1 ⟨rfl, hb1⟩; have HH1 := hide ((unhide HH).kept hb1)))
  have HD4 := hide ((unhide HH4).kept (Below.refl w4.heap.size w4).drew)
  go_region_with (go_at_call 66; refine (shas_down (q := false) (unhide HD4) bk (unhide HNO)).mono ?_; rintro e w5 ⟨rfl, hb5a⟩; have hb5 : Below w4.heap.size w4 w5 := ((Below.refl w4.heap.size w4).drew).trans hb5a; have g1 := ((unhide HH4).kept hb5).se.g1; clear hb5a)
  all_goals go_wp2
  go_ret
  exact ⟨⟨s1, 0, _, _, rfl, .fault _ _ (blk_new _ _), .missing⟩, (unhide HD).fr.next (unhide HD).row (OFr.of_below ((hb4.trans (hb5.mono hb4.size)).alloc (Nat.le_trans hb4.size hb5.size) _) _ _)⟩

set_option maxRecDepth 100000 in
set_option maxHeartbeats 4000000 in
theorem odown_on (x : ByteArray) (w : World) (b B cb : Nat) (r0 r : Option Nat) (room : Nat) (l : Ov.Files) (L : Ims) (s0 s1 s2 s3 : Addr) (h : DownAt w b B cb r0 r room l L s0 s1 s2 s3) (hp : Ov.place l x < l.length) (hi : Ov.isImage (Ov.fileAt l (Ov.place l x))) (hx : x ∉ L.map Prod.fst) (hk : (Ov.backing (Ov.fileAt l (Ov.place l x))).size ≠ 0) (hmt : Ov.metB (L.map Prod.fst ++ [x]) (Ov.backing (Ov.fileAt l (Ov.place l x))) = false) (hno : Ov.has l (Ov.backing (Ov.fileAt l (Ov.place l x))) = true) (ns : List ByteArray) (rec : ∀ (r' : Option Nat) (w' : World) (L' : Ims), DownAt w' b B cb r0 r' room l L' s0 s1 s2 s3 → L'.map Prod.fst = L.map Prod.fst ++ [x] → Calls Tryz.prog 81 #[.pointer (some ⟨b, 0, none⟩), .string (Ov.backing (Ov.fileAt l (Ov.place l x))), .pointer (some ⟨cb, 0, none⟩)] w' (DownYes l ns cb r' w')) :
    Calls Tryz.prog 81 #[.pointer (some ⟨b, 0, none⟩), .string x, .pointer (some ⟨cb, 0, none⟩)] w (DownYes l ns cb r w) := by
  obtain ⟨s, hse⟩ : ∃ s, Ov.fileAt l (Ov.place l x) = s := ⟨_, rfl⟩
  rw [hse] at hi hk hmt hno rec
  obtain ⟨v, o1, o2, _, _⟩ := id h.ov
  obtain ⟨⟨u, u1, u2, u3⟩, u4⟩ := id h.ch
  have c3 : w.cell? ⟨b, 3, none⟩ = some v := blk_cell o1 rfl
  have hbl := blk_lt o1
  have hl8 := h.li.len
  have hL8 := h.len
  have hxs : x.size ≤ 1000 := Nat.le_trans (h.li.name_size hp) (by omega)
  have HO := hide o2
  have HH := hide h
  have HP := hide hp
  have HSE := hide hse
  have HI := hide hi
  have HX := hide hx
  have HU1 := hide u1
  have HU2 := hide u2
  have HU3 := hide u3
  obtain ⟨bk, hbk⟩ : ∃ bk, Ov.backing s = bk := ⟨_, rfl⟩
  obtain ⟨m, hm⟩ : ∃ m, Ov.many s = m := ⟨_, rfl⟩
  obtain ⟨t, ht⟩ : ∃ t, Ov.lost s = t := ⟨_, rfl⟩
  rw [hbk] at hk hmt hno rec
  have hbe : bk.toList.isEmpty = false := by rw [ByteArray.toList_eq, ← Bool.not_eq_true, List.isEmpty_iff_length_eq_zero]; simpa using hk
  have HM : Hid (∀ g, imOf s g = ⟨bk, g, m, t⟩) := fun g => by simp only [imOf, hbk, hm, ht]
  have HBK := hide hbk
  have HMM := hide hm
  have HTT := hide ht
  have HMT := hide hmt
  have HNO := hide hno
  clear h o1 o2 hp hse hi hx u1 u2 u3 u4 hbk hm ht hmt hno
  go_enter Tryz.func81, Tryz.ntmps81
  go_wp2_with (first
    | (go_at_call 96; refine (ihas_down (q := false) (unhide HD).at' bk (by rw [List.map_append]; exact unhide HMT)).mono ?_; rintro e w4 ⟨rfl, hb4⟩; have HH4 := hide (((unhide HD).at').kept hb4); have cm4 := (hb4.cell (p := ⟨w2.heap.size, 0, none⟩) (cell_lt cm)).trans cm)
    | (go_at_call 132; refine (oIput_calls L u x bk g m t cb _ hL8 (blk_alloc ((hb2.block _ (Nat.lt_of_lt_of_le (blk_lt (unhide HU1)) hb1.size)).trans ((hb1.block _ (blk_lt (unhide HU1))).trans (unhide HU1))) _) ((owns_all (owns_all (unhide HU2) hb1) hb2).alloc _) (fun k => unhide HX (fl_place.1 k)) hxs (Ch.ne (unhide HU1) (unhide HU2))).mono ?_; rintro e w3 ⟨rfl, v', hput⟩; have HD := hide (down_put (unhide HH) (unhide HU1) (unhide HU2) (unhide HU3) (unhide HX) (unhide HP) (unhide HSE) (unhide HM g) (unhide HI) hb1 hb2 hg (unhide HG) hput); have cm := (unhide HD).cm; clear hput)
    | (go_at_call 57; refine (oparse_yes s _ _ _ (unhide HI) (unhide HH1).se.g3 (by have := (unhide HH1).se.l; have := (unhide HH1).se.size; omega)).mono ?_; rintro e w2 ⟨hb2, g, he, hg, hrow⟩; rw [unhide HMM, unhide HTT, unhide HBK] at he; subst he; have HG := hide hrow; clear hrow)
    | (go_at_call 56; refine (get_here hl8 (unhide HP) (unhide HSE) (unhide HO) c3 hbl).mono ?_; rintro e w1 ⟨rfl, hb1⟩; have HH1 := hide ((unhide HH).kept hb1)))
  have HD4 := hide ((unhide HH4).kept (Below.refl w4.heap.size w4).drew)
  go_region_with (go_at_call 66; refine (shas_down (q := true) (unhide HD4) bk (unhide HNO)).mono ?_; rintro e w5 ⟨rfl, hb5a⟩; have hb5 : Below w4.heap.size w4 w5 := ((Below.refl w4.heap.size w4).drew).trans hb5a; have HH5 := hide ((unhide HH4).kept hb5); have cm5 := (hb5.cell (p := ⟨w2.heap.size, 0, none⟩) (cell_lt cm4)).trans cm4; clear hb5a)
  all_goals go_wp2_with (go_at_call 81; refine (rec _ _ _ (unhide HH5) (by rw [List.map_append]; rfl)).mono ?_; rintro e w6 hd6; obtain ⟨rfl, f6, L6, r6, h6, n6, q6⟩ := hd6)
  go_ret
  refine ⟨rfl, (unhide HD).fr.next (unhide HD).row ((OFr.of_below (hb4.trans (hb5.mono hb4.size)) cb _).trans f6), L6, r6, h6, n6, ?_⟩
  have z4 := hb4.size
  have z5 := hb5.size
  have z3 := (unhide HD).fr.size
  rcases q6 with e | e
  · rw [e]; exact (unhide HD).row
  · exact Or.inr fun k hk => Nat.le_trans (by omega) (e k hk)

set_option maxRecDepth 100000 in
set_option maxHeartbeats 4000000 in
theorem odown_up (x : ByteArray) (w : World) (b B cb : Nat) (r0 r : Option Nat) (room : Nat) (l : Ov.Files) (L : Ims) (s0 s1 s2 s3 : Addr) (h : DownAt w b B cb r0 r room l L s0 s1 s2 s3) (hp : Ov.place l x < l.length) (hi : Ov.isImage (Ov.fileAt l (Ov.place l x))) (hx : x ∉ L.map Prod.fst) (hk : (Ov.backing (Ov.fileAt l (Ov.place l x))).size ≠ 0) (hmt : Ov.metB (L.map Prod.fst ++ [x]) (Ov.backing (Ov.fileAt l (Ov.place l x))) = false) (hno : Ov.has l (Ov.backing (Ov.fileAt l (Ov.place l x))) = true) (n : Int) (wh : ByteArray) (rec : ∀ (r' : Option Nat) (w' : World) (L' : Ims), DownAt w' b B cb r0 r' room l L' s0 s1 s2 s3 → L'.map Prod.fst = L.map Prod.fst ++ [x] → Calls Tryz.prog 81 #[.pointer (some ⟨b, 0, none⟩), .string (Ov.backing (Ov.fileAt l (Ov.place l x))), .pointer (some ⟨cb, 0, none⟩)] w' (DownNo s0 s1 s2 s3 n wh cb r' w')) :
    Calls Tryz.prog 81 #[.pointer (some ⟨b, 0, none⟩), .string x, .pointer (some ⟨cb, 0, none⟩)] w (DownNo s0 s1 s2 s3 n wh cb r w) := by
  obtain ⟨s, hse⟩ : ∃ s, Ov.fileAt l (Ov.place l x) = s := ⟨_, rfl⟩
  rw [hse] at hi hk hmt hno rec
  obtain ⟨v, o1, o2, _, _⟩ := id h.ov
  obtain ⟨⟨u, u1, u2, u3⟩, u4⟩ := id h.ch
  have c3 : w.cell? ⟨b, 3, none⟩ = some v := blk_cell o1 rfl
  have hbl := blk_lt o1
  have hl8 := h.li.len
  have hL8 := h.len
  have hxs : x.size ≤ 1000 := Nat.le_trans (h.li.name_size hp) (by omega)
  have HO := hide o2
  have HH := hide h
  have HP := hide hp
  have HSE := hide hse
  have HI := hide hi
  have HX := hide hx
  have HU1 := hide u1
  have HU2 := hide u2
  have HU3 := hide u3
  obtain ⟨bk, hbk⟩ : ∃ bk, Ov.backing s = bk := ⟨_, rfl⟩
  obtain ⟨m, hm⟩ : ∃ m, Ov.many s = m := ⟨_, rfl⟩
  obtain ⟨t, ht⟩ : ∃ t, Ov.lost s = t := ⟨_, rfl⟩
  rw [hbk] at hk hmt hno rec
  have hbe : bk.toList.isEmpty = false := by rw [ByteArray.toList_eq, ← Bool.not_eq_true, List.isEmpty_iff_length_eq_zero]; simpa using hk
  have HM : Hid (∀ g, imOf s g = ⟨bk, g, m, t⟩) := fun g => by simp only [imOf, hbk, hm, ht]
  have HBK := hide hbk
  have HMM := hide hm
  have HTT := hide ht
  have HMT := hide hmt
  have HNO := hide hno
  clear h o1 o2 hp hse hi hx u1 u2 u3 u4 hbk hm ht hmt hno
  go_enter Tryz.func81, Tryz.ntmps81
  go_wp2_with (first
    | (go_at_call 96; refine (ihas_down (q := false) (unhide HD).at' bk (by rw [List.map_append]; exact unhide HMT)).mono ?_; rintro e w4 ⟨rfl, hb4⟩; have HH4 := hide (((unhide HD).at').kept hb4); have cm4 := (hb4.cell (p := ⟨w2.heap.size, 0, none⟩) (cell_lt cm)).trans cm)
    | (go_at_call 132; refine (oIput_calls L u x bk g m t cb _ hL8 (blk_alloc ((hb2.block _ (Nat.lt_of_lt_of_le (blk_lt (unhide HU1)) hb1.size)).trans ((hb1.block _ (blk_lt (unhide HU1))).trans (unhide HU1))) _) ((owns_all (owns_all (unhide HU2) hb1) hb2).alloc _) (fun k => unhide HX (fl_place.1 k)) hxs (Ch.ne (unhide HU1) (unhide HU2))).mono ?_; rintro e w3 ⟨rfl, v', hput⟩; have HD := hide (down_put (unhide HH) (unhide HU1) (unhide HU2) (unhide HU3) (unhide HX) (unhide HP) (unhide HSE) (unhide HM g) (unhide HI) hb1 hb2 hg (unhide HG) hput); have cm := (unhide HD).cm; clear hput)
    | (go_at_call 57; refine (oparse_yes s _ _ _ (unhide HI) (unhide HH1).se.g3 (by have := (unhide HH1).se.l; have := (unhide HH1).se.size; omega)).mono ?_; rintro e w2 ⟨hb2, g, he, hg, hrow⟩; rw [unhide HMM, unhide HTT, unhide HBK] at he; subst he; have HG := hide hrow; clear hrow)
    | (go_at_call 56; refine (get_here hl8 (unhide HP) (unhide HSE) (unhide HO) c3 hbl).mono ?_; rintro e w1 ⟨rfl, hb1⟩; have HH1 := hide ((unhide HH).kept hb1)))
  have HD4 := hide ((unhide HH4).kept (Below.refl w4.heap.size w4).drew)
  go_region_with (go_at_call 66; refine (shas_down (q := true) (unhide HD4) bk (unhide HNO)).mono ?_; rintro e w5 ⟨rfl, hb5a⟩; have hb5 : Below w4.heap.size w4 w5 := ((Below.refl w4.heap.size w4).drew).trans hb5a; have HH5 := hide ((unhide HH4).kept hb5); have cm5 := (hb5.cell (p := ⟨w2.heap.size, 0, none⟩) (cell_lt cm4)).trans cm4; clear hb5a)
  all_goals go_wp2_with (go_at_call 81; refine (rec _ _ _ (unhide HH5) (by rw [List.map_append]; rfl)).mono ?_; rintro e w6 hd6; obtain ⟨⟨eb, ed, et, ea, rfl, he6, hc6⟩, f6⟩ := hd6; have HE6 := hide he6; clear he6)
  go_ret
  exact ⟨⟨eb, ed + 1, _, _, rfl, .passage _ _ _ _ _ _ ((unhide HE6).kept (below_alloc1 w6 _)) (blk_new _ _), hc6⟩, (unhide HD).fr.next (unhide HD).row (((OFr.of_below (hb4.trans (hb5.mono hb4.size)) cb _).trans f6).trans (OFr.of_below (below_alloc1 w6 _) cb _))⟩

end Go.Proofs.YtomiepknmmpflaaGreatDoor

