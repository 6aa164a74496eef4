/- The walk of the program's openDown. -/
import Derived.Test.YtomiepknmmpflaaGreatDoorCWBuild
import Derived.Test.YtomiepknmmpflaaGreatDoorCWNames
namespace Go.Proofs.YtomiepknmmpflaaGreatDoor
open Go.RowKit Go.Joins

structure DownAt (w : World) (b B cb : Nat) (r0 r : Option Nat) (room : Nat) (l : Ov.Files) (L : Ims) (s0 s1 s2 s3 : Addr) : Prop where
  ov : OvAt 1 w b r0 room l
  li : Ov.LI room l
  se : Sents w B s0 s1 s2 s3
  ch : Ch w cb r l L
  met : Ov.Met l (L.map Prod.fst)
  bB : B ≤ cb
  bb : b < cb
  br : ∀ k, r0 = some k → k < cb
  rr : ∀ k, r = some k → cb ≤ k
theorem DownAt.len {w : World} {b B cb : Nat} {r0 r : Option Nat} {room : Nat} {l : Ov.Files} {L : Ims} {s0 s1 s2 s3 : Addr} (h : DownAt w b B cb r0 r room l L s0 s1 s2 s3) : L.length ≤ 8 := by
  have h1 := h.met.length
  have h2 := h.li.len
  rw [List.length_map] at h1
  omega
theorem DownAt.kept {w w' : World} {b B cb : Nat} {r0 r : Option Nat} {room : Nat} {l : Ov.Files} {L : Ims} {s0 s1 s2 s3 : Addr} (h : DownAt w b B cb r0 r room l L s0 s1 s2 s3) (hb : Below w.heap.size w w') : DownAt w' b B cb r0 r room l L s0 s1 s2 s3 :=
  { h with ov := h.ov.kept hb, se := h.se.keptAll hb, ch := h.ch.kept hb }

theorem DownAt.put {w w' : World} {b B cb g : Nat} {r0 r : Option Nat} {room : Nat} {l : Ov.Files} {L : Ims} {s0 s1 s2 s3 : Addr} {x s : ByteArray} {v v' : Value} {q : Im} (h : DownAt w b B cb r0 r room l L s0 s1 s2 s3) (h1 : w.heap[cb]? = some (.cells #[v] 132 (0, 0))) (h2 : OwnsIms w 0 v L) (h3 : v.ownBlock = r) (hx : x ∉ L.map Prod.fst) (hpl : Ov.place l x < l.length) (hs : Ov.fileAt l (Ov.place l x) = s) (hq : imOf s g = q) (hi : Ov.isImage s)
    (hcg : cb ≤ g) (hg : w.heap[g]? = some (.cells (rowTo s (Ov.many s)).toArray 160 (0, 0))) (hp : IPutLeft w cb v (L ++ [(x, q)]) v' w') : DownAt w' b B cb r0 v'.ownBlock room l (L ++ [(x, q)]) s0 s1 s2 s3 := by
  subst hs; subst hq
  have hcb := blk_lt h1
  have hbel : Below cb w w' := hp.fr.below (fun k hk => h.rr k (by rw [← h3]; exact hk)) (Nat.le_of_lt hcb)
  refine ⟨h.ov.keptB hbel h.bb h.br, h.li, h.se.kept (hbel.mono h.bB), Ch.put h1 h2 h.ch.2 hcg hi hg hp, ?_, h.bB, h.bb, h.br, fun k hk => ?_⟩
  · rw [List.map_append]
    exact h.met.snoc hx hpl
  · rcases hp.row with e | e
    · exact h.rr k (by rw [← h3, ← e]; exact hk)
    · have := e k hk; omega
theorem blk_new1 (w : World) (o : Obj) (p : Obj) : ((w.alloc o).alloc p).heap[w.heap.size + 1]? = some p := by
  have := blk_new (w.alloc o) p
  simpa using this

structure DownPut (w : World) (b B cb : Nat) (r0 r : Option Nat) (room : Nat) (l : Ov.Files) (L : Ims) (s0 s1 s2 s3 : Addr) (mb : Nat) (bk : ByteArray) (r' : Option Nat) (w3 : World) : Prop where
  at' : DownAt w3 b B cb r0 r' room l L s0 s1 s2 s3
  cm : w3.cell? ⟨mb, 0, none⟩ = some (.string bk)
  fr : OFr w w3 cb r
  row : r' = r ∨ ∀ k, r' = some k → w.heap.size ≤ k
theorem down_put {w w1 w2 w3 : World} {b B cb g m : Nat} {r0 r : Option Nat} {room : Nat} {l : Ov.Files} {L : Ims} {s0 s1 s2 s3 : Addr} {x s bk : ByteArray} {t : Int} {v v' : Value} {q : Im} (h : DownAt w b B cb r0 r room l L s0 s1 s2 s3) (h1 : w.heap[cb]? = some (.cells #[v] 132 (0, 0))) (h2 : OwnsIms w 0 v L) (h3 : v.ownBlock = r) (hx : x ∉ L.map Prod.fst) (hpl : Ov.place l x < l.length) (hs : Ov.fileAt l (Ov.place l x) = s) (hq : imOf s g = q) (hi : Ov.isImage s)
    (hb1 : Below w.heap.size w w1) (hb2 : Below w1.heap.size w1 w2) (hcg : w1.heap.size ≤ g) (hg : w2.heap[g]? = some (.cells (rowTo s (Ov.many s)).toArray 160 (0, 0)))
    (hp : IPutLeft (w2.alloc (.cells #[.string bk, .slice (some ⟨g, 0, none⟩) m m, .int .i64 t] 90)) cb v (L ++ [(x, q)]) v' w3) : DownPut w b B cb r0 r room l (L ++ [(x, q)]) s0 s1 s2 s3 w2.heap.size bk v'.ownBlock w3 := by
  have hb12 : Below w.heap.size w w2 := hb1.trans (hb2.mono hb1.size)
  have hb3 : Below w.heap.size w (w2.alloc (.cells #[.string bk, .slice (some ⟨g, 0, none⟩) m m, .int .i64 t] 90)) := hb12.alloc hb12.size _
  have k1 := (hb3.block cb (blk_lt h1)).trans h1
  have k2 := owns_all h2 hb3
  refine ⟨(h.kept hb3).put k1 k2 h3 hx hpl hs hq hi (by have := blk_lt h1; have := hb1.size; omega) (blk_alloc hg _) hp, blk_cell (Ch.other k1 k2 hp.fr (blk_new _ _) (by decide) (by decide)) rfl, (OFr.of_below hb3 cb r).trans (by rw [← h3]; exact hp.fr), ?_⟩
  rcases hp.row with e | e
  · exact Or.inl (by rw [e, h3])
  · exact Or.inr fun k hk => Nat.le_trans hb3.size (e k hk)

set_option maxRecDepth 100000 in
set_option maxHeartbeats 2000000 in
theorem odown_bad (x : ByteArray) (w : World) (b B cb : Nat) (r0 r : Option Nat) (room : Nat) (l : Ov.Files) (L : Ims) (s0 s1 s2 s3 : Addr) (h : DownAt w b B cb r0 r room l L s0 s1 s2 s3) (hp : Ov.place l x < l.length) (hi : ¬ Ov.isImage (Ov.fileAt l (Ov.place l x))) :
    Calls Tryz.prog 81 #[.pointer (some ⟨b, 0, none⟩), .string x, .pointer (some ⟨cb, 0, none⟩)] w (DownNo s0 s1 s2 s3 5 x cb r w) := by
  obtain ⟨s, hse⟩ : ∃ s, Ov.fileAt l (Ov.place l x) = s := ⟨_, rfl⟩
  rw [hse] at hi
  obtain ⟨v, o1, o2, _, _⟩ := id h.ov
  have c3 : w.cell? ⟨b, 3, none⟩ = some v := blk_cell o1 rfl
  have hbl := blk_lt o1
  have hl8 := h.li.len
  have HO := hide o2
  have HH := hide h
  have HP := hide hp
  have HSE := hide hse
  have HI := hide hi
  clear h o1 o2 hp hse hi
  go_enter Tryz.func81, Tryz.ntmps81
  go_wp2_with (first
    | (go_at_call 57; refine (oparse_no s _ _ _ (unhide HI) (unhide HH1).se.g3 (by have := (unhide HH1).se.l; have := (unhide HH1).se.size; omega)).mono ?_; rintro e w2 ⟨hb2, rfl⟩)
    | (go_at_call 56; refine (get_here hl8 (unhide HP) (unhide HSE) (unhide HO) c3 hbl).mono ?_; rintro e w1 ⟨rfl, hb1⟩; have HH1 := hide ((unhide HH).kept hb1)))
  go_ret
  exact ⟨⟨s3, 0, _, _, rfl, .fault _ _ (blk_new1 w2 _ _), .corrupt⟩, OFr.of_below (((hb1.trans (hb2.mono hb1.size)).alloc (Nat.le_trans hb1.size hb2.size) _).alloc (by have h5 := hb1.size; have h6 := hb2.size; simp; omega) _) _ _⟩

set_option maxRecDepth 100000 in
set_option maxHeartbeats 4000000 in
theorem odown_last (x : ByteArray) (w : World) (b B cb : Nat) (r0 r : Option Nat) (room : Nat) (l : Ov.Files) (L : Ims) (s0 s1 s2 s3 : Addr) (h : DownAt w b B cb r0 r room l L s0 s1 s2 s3) (hp : Ov.place l x < l.length) (hi : Ov.isImage (Ov.fileAt l (Ov.place l x))) (hx : x ∉ L.map Prod.fst) (hk : (Ov.backing (Ov.fileAt l (Ov.place l x))).size = 0) :
    Calls Tryz.prog 81 #[.pointer (some ⟨b, 0, none⟩), .string x, .pointer (some ⟨cb, 0, none⟩)] w (DownYes l (L.map Prod.fst ++ [x]) cb r w) := by
  obtain ⟨s, hse⟩ : ∃ s, Ov.fileAt l (Ov.place l x) = s := ⟨_, rfl⟩
  rw [hse] at hi hk
  obtain ⟨v, o1, o2, _, _⟩ := id h.ov
  obtain ⟨⟨u, u1, u2, u3⟩, u4⟩ := id h.ch
  have c3 : w.cell? ⟨b, 3, none⟩ = some v := blk_cell o1 rfl
  have hbl := blk_lt o1
  have hl8 := h.li.len
  have hL8 := h.len
  have hxs : x.size ≤ 1000 := Nat.le_trans (h.li.name_size hp) (by omega)
  have HO := hide o2
  have HH := hide h
  have HP := hide hp
  have HSE := hide hse
  have HI := hide hi
  have HX := hide hx
  have HU1 := hide u1
  have HU2 := hide u2
  have HU3 := hide u3
  obtain ⟨bk, hbk⟩ : ∃ bk, Ov.backing s = bk := ⟨_, rfl⟩
  obtain ⟨m, hm⟩ : ∃ m, Ov.many s = m := ⟨_, rfl⟩
  obtain ⟨t, ht⟩ : ∃ t, Ov.lost s = t := ⟨_, rfl⟩
  rw [hbk] at hk
  have hbe : bk.toList.isEmpty = true := by rw [ByteArray.toList_eq, List.isEmpty_iff_length_eq_zero]; simpa using hk
  have HM : Hid (∀ g, imOf s g = ⟨bk, g, m, t⟩) := fun g => by simp only [imOf, hbk, hm, ht]
  have HBK := hide hbk
  have HMM := hide hm
  have HTT := hide ht
  clear h o1 o2 hp hse hi hx u1 u2 u3 u4 hbk hm ht
  go_enter Tryz.func81, Tryz.ntmps81
  go_wp2_with (first
    | (go_at_call 132; refine (oIput_calls L u x bk g m t cb _ hL8 (blk_alloc ((hb2.block _ (Nat.lt_of_lt_of_le (blk_lt (unhide HU1)) hb1.size)).trans ((hb1.block _ (blk_lt (unhide HU1))).trans (unhide HU1))) _) ((owns_all (owns_all (unhide HU2) hb1) hb2).alloc _) (fun k => unhide HX (fl_place.1 k)) hxs (Ch.ne (unhide HU1) (unhide HU2))).mono ?_; rintro e w3 ⟨rfl, v', hput⟩; have HD := hide (down_put (unhide HH) (unhide HU1) (unhide HU2) (unhide HU3) (unhide HX) (unhide HP) (unhide HSE) (unhide HM g) (unhide HI) hb1 hb2 hg (unhide HG) hput); have cm := (unhide HD).cm; clear hput)
    | (go_at_call 57; refine (oparse_yes s _ _ _ (unhide HI) (unhide HH1).se.g3 (by have := (unhide HH1).se.l; have := (unhide HH1).se.size; omega)).mono ?_; rintro e w2 ⟨hb2, g, he, hg, hrow⟩; rw [unhide HMM, unhide HTT, unhide HBK] at he; subst he; have HG := hide hrow; clear hrow)
    | (go_at_call 56; refine (get_here hl8 (unhide HP) (unhide HSE) (unhide HO) c3 hbl).mono ?_; rintro e w1 ⟨rfl, hb1⟩; have HH1 := hide ((unhide HH).kept hb1)))
  go_ret
  exact ⟨rfl, (unhide HD).fr, _, _, (unhide HD).at'.ch, by rw [List.map_append]; rfl, (unhide HD).row⟩

theorem ihas_down {w : World} {b B cb : Nat} {r0 r : Option Nat} {room : Nat} {l : Ov.Files} {L : Ims} {s0 s1 s2 s3 : Addr} (h : DownAt w b B cb r0 r room l L s0 s1 s2 s3) (y : ByteArray) {q : Bool} (hq : Ov.metB (L.map Prod.fst) y = q) :
    Calls Tryz.prog 96 #[.pointer (some ⟨cb, 0, none⟩), .string y] w fun e w' => e = .returned (.bool q) ∧ Below w.heap.size w w' := by
  obtain ⟨⟨u, u1, u2, u3⟩, _⟩ := h.ch
  have := oIhas_calls L u y cb 0 0 w h.len u2 (blk_cell u1 rfl) (blk_lt u1)
  rw [fl_has, hq] at this
  exact this
theorem shas_down {w : World} {b B cb : Nat} {r0 r : Option Nat} {room : Nat} {l : Ov.Files} {L : Ims} {s0 s1 s2 s3 : Addr} (h : DownAt w b B cb r0 r room l L s0 s1 s2 s3) (y : ByteArray) {q : Bool} (hq : Ov.has l y = q) :
    Calls Tryz.prog 66 #[.pointer (some ⟨b, 3, none⟩), .string y] w fun e w' => e = .returned (.bool q) ∧ Below w.heap.size w w' := by
  obtain ⟨v, o1, o2, _, _⟩ := h.ov
  have := oShas_calls l v y b 3 0 w h.li.len o2 (blk_cell o1 rfl) (blk_lt o1)
  rw [hq] at this
  exact this

set_option maxRecDepth 100000 in
set_option maxHeartbeats 4000000 in
theorem odown_cycle (x : ByteArray) (w : World) (b B cb : Nat) (r0 r : Option Nat) (room : Nat) (l : Ov.Files) (L : Ims) (s0 s1 s2 s3 : Addr) (h : DownAt w b B cb r0 r room l L s0 s1 s2 s3) (hp : Ov.place l x < l.length) (hi : Ov.isImage (Ov.fileAt l (Ov.place l x))) (hx : x ∉ L.map Prod.fst) (hk : (Ov.backing (Ov.fileAt l (Ov.place l x))).size ≠ 0) (hmt : Ov.metB (L.map Prod.fst ++ [x]) (Ov.backing (Ov.fileAt l (Ov.place l x))) = true) :
    Calls Tryz.prog 81 #[.pointer (some ⟨b, 0, none⟩), .string x, .pointer (some ⟨cb, 0, none⟩)] w (DownNo s0 s1 s2 s3 7 x cb r w) := by
  obtain ⟨s, hse⟩ : ∃ s, Ov.fileAt l (Ov.place l x) = s := ⟨_, rfl⟩
  rw [hse] at hi hk hmt
  obtain ⟨v, o1, o2, _, _⟩ := id h.ov
  obtain ⟨⟨u, u1, u2, u3⟩, u4⟩ := id h.ch
  have c3 : w.cell? ⟨b, 3, none⟩ = some v := blk_cell o1 rfl
  have hbl := blk_lt o1
  have hl8 := h.li.len
  have hL8 := h.len
  have hxs : x.size ≤ 1000 := Nat.le_trans (h.li.name_size hp) (by omega)
  have HO := hide o2
  have HH := hide h
  have HP := hide hp
  have HSE := hide hse
  have HI := hide hi
  have HX := hide hx
  have HU1 := hide u1
  have HU2 := hide u2
  have HU3 := hide u3
  obtain ⟨bk, hbk⟩ : ∃ bk, Ov.backing s = bk := ⟨_, rfl⟩
  obtain ⟨m, hm⟩ : ∃ m, Ov.many s = m := ⟨_, rfl⟩
  obtain ⟨t, ht⟩ : ∃ t, Ov.lost s = t := ⟨_, rfl⟩
  rw [hbk] at hk hmt
  have hbe : bk.toList.isEmpty = false := by rw [ByteArray.toList_eq, ← Bool.not_eq_true, List.isEmpty_iff_length_eq_zero]; simpa using hk
  have HM : Hid (∀ g, imOf s g = ⟨bk, g, m, t⟩) := fun g => by simp only [imOf, hbk, hm, ht]
  have HBK := hide hbk
  have HMM := hide hm
  have HTT := hide ht
  have HMT := hide hmt
  clear h o1 o2 hp hse hi hx u1 u2 u3 u4 hbk hm ht hmt
  go_enter Tryz.func81, Tryz.ntmps81
  go_wp2_with (first
    | (go_at_call 96; refine (ihas_down (q := true) (unhide HD).at' bk (by rw [List.map_append]; exact unhide HMT)).mono ?_; rintro e w4 ⟨rfl, hb4⟩; have g2 := (((unhide HD).at').kept hb4).se.g2; have cm4 := (hb4.cell (p := ⟨w2.heap.size, 0, none⟩) (cell_lt cm)).trans cm)
    | (go_at_call 132; refine (oIput_calls L u x bk g m t cb _ hL8 (blk_alloc ((hb2.block _ (Nat.lt_of_lt_of_le (blk_lt (unhide HU1)) hb1.size)).trans ((hb1.block _ (blk_lt (unhide HU1))).trans (unhide HU1))) _) ((owns_all (owns_all (unhide HU2) hb1) hb2).alloc _) (fun k => unhide HX (fl_place.1 k)) hxs (Ch.ne (unhide HU1) (unhide HU2))).mono ?_; rintro e w3 ⟨rfl, v', hput⟩; have HD := hide (down_put (unhide HH) (unhide HU1) (unhide HU2) (unhide HU3) (unhide HX) (unhide HP) (unhide HSE) (unhide HM g) (unhide HI) hb1 hb2 hg (unhide HG) hput); have cm := (unhide HD).cm; clear hput)
    | (go_at_call 57; refine (oparse_yes s _ _ _ (unhide HI) (unhide HH1).se.g3 (by have := (unhide HH1).se.l; have := (unhide HH1).se.size; omega)).mono ?_; rintro e w2 ⟨hb2, g, he, hg, hrow⟩; rw [unhide HMM, unhide HTT, unhide HBK] at he; subst he; have HG := hide hrow; clear hrow)
    | (go_at_call 56; refine (get_here hl8 (unhide HP) (unhide HSE) (unhide HO) c3 hbl).mono ?_; rintro e w1 ⟨rfl, hb1⟩; have HH1 := hide ((unhide HH).kept hb1)))
  go_ret
  exact ⟨⟨s2, 0, _, _, rfl, .fault _ _ (blk_new _ _), .cycle⟩, (unhide HD).fr.next (unhide HD).row (OFr.of_below (hb4.alloc hb4.size _) _ _)⟩


set_option maxRecDepth 100000 in
set_option maxHeartbeats 4000000 in
theorem odown_missing (x : ByteArray) (w : World) (b B cb : Nat) (r0 r : Option Nat) (room : Nat) (l : Ov.Files) (L : Ims) (s0 s1 s2 s3 : Addr) (h : DownAt w b B cb r0 r room l L s0 s1 s2 s3) (hp : Ov.place l x < l.length) (hi : Ov.isImage (Ov.fileAt l (Ov.place l x))) (hx : x ∉ L.map Prod.fst) (hk : (Ov.backing (Ov.fileAt l (Ov.place l x))).size ≠ 0) (hmt : Ov.metB (L.map Prod.fst ++ [x]) (Ov.backing (Ov.fileAt l (Ov.place l x))) = false) (hno : Ov.has l (Ov.backing (Ov.fileAt l (Ov.place l x))) = false) :
    Calls Tryz.prog 81 #[.pointer (some ⟨b, 0, none⟩), .string x, .pointer (some ⟨cb, 0, none⟩)] w (DownNo s0 s1 s2 s3 6 x cb r w) := by
  obtain ⟨s, hse⟩ : ∃ s, Ov.fileAt l (Ov.place l x) = s := ⟨_, rfl⟩
  rw [hse] at hi hk hmt hno
  obtain ⟨v, o1, o2, _, _⟩ := id h.ov
  obtain ⟨⟨u, u1, u2, u3⟩, u4⟩ := id h.ch
  have c3 : w.cell? ⟨b, 3, none⟩ = some v := blk_cell o1 rfl
  have hbl := blk_lt o1
  have hl8 := h.li.len
  have hL8 := h.len
  have hxs : x.size ≤ 1000 := Nat.le_trans (h.li.name_size hp) (by omega)
  have HO := hide o2
  have HH := hide h
  have HP := hide hp
  have HSE := hide hse
  have HI := hide hi
  have HX := hide hx
  have HU1 := hide u1
  have HU2 := hide u2
  have HU3 := hide u3
  obtain ⟨bk, hbk⟩ : ∃ bk, Ov.backing s = bk := ⟨_, rfl⟩
  obtain ⟨m, hm⟩ : ∃ m, Ov.many s = m := ⟨_, rfl⟩
  obtain ⟨t, ht⟩ : ∃ t, Ov.lost s = t := ⟨_, rfl⟩
  rw [hbk] at hk hmt hno
  have hbe : bk.toList.isEmpty = false := by rw [ByteArray.toList_eq, ← Bool.not_eq_true, List.isEmpty_iff_length_eq_zero]; simpa using hk
  have HM : Hid (∀ g, imOf s g = ⟨bk, g, m, t⟩) := fun g => by simp only [imOf, hbk, hm, ht]
  have HBK := hide hbk
  have HMM := hide hm
  have HTT := hide ht
  have HMT := hide hmt
  have HNO := hide hno
  clear h o1 o2 hp hse hi hx u1 u2 u3 u4 hbk hm ht hmt hno
  go_enter Tryz.func81, Tryz.ntmps81
  go_wp2_with (first
    | (go_at_call 96; refine (ihas_down (q := false) (unhide HD).at' bk (by rw [List.map_append]; exact unhide HMT)).mono ?_; rintro e w4 ⟨rfl, hb4⟩; have HH4 := hide (((unhide HD).at').kept hb4); have cm4 := (hb4.cell (p := ⟨w2.heap.size, 0, none⟩) (cell_lt cm)).trans cm)
    | (go_at_call 132; refine (oIput_calls L u x bk g m t cb _ hL8 (blk_alloc ((hb2.block _ (Nat.lt_of_lt_of_le (blk_lt (unhide HU1)) hb1.size)).trans ((hb1.block _ (blk_lt (unhide HU1))).trans (unhide HU1))) _) ((owns_all (owns_all (unhide HU2) hb1) hb2).alloc _) (fun k => unhide HX (fl_place.1 k)) hxs (Ch.ne (unhide HU1) (unhide HU2))).mono ?_; rintro e w3 ⟨rfl, v', hput⟩; have HD := hide (down_put (unhide HH) (unhide HU1) (unhide HU2) (unhide HU3) (unhide HX) (unhide HP) (unhide HSE) (unhide HM g) (unhide HI) hb1 hb2 hg (unhide HG) hput); have cm := (unhide HD).cm; clear hput)
    | (go_at_call 57; refine (oparse_yes s _ _ _ (unhide HI) (unhide HH1).se.g3 (by have := (unhide HH1).se.l; have := (unhide HH1).se.size; omega)).mono ?_; rintro e w2 ⟨hb2, g, he, hg, hrow⟩; rw [unhide HMM, unhide HTT, unhide HBK] at he; subst he; have HG := hide hrow; clear hrow)
    | (go_at_call 56; refine (get_here hl8 (unhide HP) (unhide HSE) (unhide HO) c3 hbl).mono ?_; rintro e w1 ⟨rfl, hb1⟩; have HH1 := hide ((unhide HH).kept hb1)))
  have HD4 := hide ((unhide HH4).kept (Below.refl w4.heap.size w4).drew)
  go_region_with (go_at_call 66; refine (shas_down (q := false) (unhide HD4) bk (unhide HNO)).mono ?_; rintro e w5 ⟨rfl, hb5a⟩; have hb5 : Below w4.heap.size w4 w5 := ((Below.refl w4.heap.size w4).drew).trans hb5a; have g1 := ((unhide HH4).kept hb5).se.g1; clear hb5a)
  all_goals go_wp2
  go_ret
  exact ⟨⟨s1, 0, _, _, rfl, .fault _ _ (blk_new _ _), .missing⟩, (unhide HD).fr.next (unhide HD).row (OFr.of_below ((hb4.trans (hb5.mono hb4.size)).alloc (Nat.le_trans hb4.size hb5.size) _) _ _)⟩

set_option maxRecDepth 100000 in
set_option maxHeartbeats 4000000 in
theorem odown_on (x : ByteArray) (w : World) (b B cb : Nat) (r0 r : Option Nat) (room : Nat) (l : Ov.Files) (L : Ims) (s0 s1 s2 s3 : Addr) (h : DownAt w b B cb r0 r room l L s0 s1 s2 s3) (hp : Ov.place l x < l.length) (hi : Ov.isImage (Ov.fileAt l (Ov.place l x))) (hx : x ∉ L.map Prod.fst) (hk : (Ov.backing (Ov.fileAt l (Ov.place l x))).size ≠ 0) (hmt : Ov.metB (L.map Prod.fst ++ [x]) (Ov.backing (Ov.fileAt l (Ov.place l x))) = false) (hno : Ov.has l (Ov.backing (Ov.fileAt l (Ov.place l x))) = true) (ns : List ByteArray) (rec : ∀ (r' : Option Nat) (w' : World) (L' : Ims), DownAt w' b B cb r0 r' room l L' s0 s1 s2 s3 → L'.map Prod.fst = L.map Prod.fst ++ [x] → Calls Tryz.prog 81 #[.pointer (some ⟨b, 0, none⟩), .string (Ov.backing (Ov.fileAt l (Ov.place l x))), .pointer (some ⟨cb, 0, none⟩)] w' (DownYes l ns cb r' w')) :
    Calls Tryz.prog 81 #[.pointer (some ⟨b, 0, none⟩), .string x, .pointer (some ⟨cb, 0, none⟩)] w (DownYes l ns cb r w) := by
  obtain ⟨s, hse⟩ : ∃ s, Ov.fileAt l (Ov.place l x) = s := ⟨_, rfl⟩
  rw [hse] at hi hk hmt hno rec
  obtain ⟨v, o1, o2, _, _⟩ := id h.ov
  obtain ⟨⟨u, u1, u2, u3⟩, u4⟩ := id h.ch
  have c3 : w.cell? ⟨b, 3, none⟩ = some v := blk_cell o1 rfl
  have hbl := blk_lt o1
  have hl8 := h.li.len
  have hL8 := h.len
  have hxs : x.size ≤ 1000 := Nat.le_trans (h.li.name_size hp) (by omega)
  have HO := hide o2
  have HH := hide h
  have HP := hide hp
  have HSE := hide hse
  have HI := hide hi
  have HX := hide hx
  have HU1 := hide u1
  have HU2 := hide u2
  have HU3 := hide u3
  obtain ⟨bk, hbk⟩ : ∃ bk, Ov.backing s = bk := ⟨_, rfl⟩
  obtain ⟨m, hm⟩ : ∃ m, Ov.many s = m := ⟨_, rfl⟩
  obtain ⟨t, ht⟩ : ∃ t, Ov.lost s = t := ⟨_, rfl⟩
  rw [hbk] at hk hmt hno rec
  have hbe : bk.toList.isEmpty = false := by rw [ByteArray.toList_eq, ← Bool.not_eq_true, List.isEmpty_iff_length_eq_zero]; simpa using hk
  have HM : Hid (∀ g, imOf s g = ⟨bk, g, m, t⟩) := fun g => by simp only [imOf, hbk, hm, ht]
  have HBK := hide hbk
  have HMM := hide hm
  have HTT := hide ht
  have HMT := hide hmt
  have HNO := hide hno
  clear h o1 o2 hp hse hi hx u1 u2 u3 u4 hbk hm ht hmt hno
  go_enter Tryz.func81, Tryz.ntmps81
  go_wp2_with (first
    | (go_at_call 96; refine (ihas_down (q := false) (unhide HD).at' bk (by rw [List.map_append]; exact unhide HMT)).mono ?_; rintro e w4 ⟨rfl, hb4⟩; have HH4 := hide (((unhide HD).at').kept hb4); have cm4 := (hb4.cell (p := ⟨w2.heap.size, 0, none⟩) (cell_lt cm)).trans cm)
    | (go_at_call 132; refine (oIput_calls L u x bk g m t cb _ hL8 (blk_alloc ((hb2.block _ (Nat.lt_of_lt_of_le (blk_lt (unhide HU1)) hb1.size)).trans ((hb1.block _ (blk_lt (unhide HU1))).trans (unhide HU1))) _) ((owns_all (owns_all (unhide HU2) hb1) hb2).alloc _) (fun k => unhide HX (fl_place.1 k)) hxs (Ch.ne (unhide HU1) (unhide HU2))).mono ?_; rintro e w3 ⟨rfl, v', hput⟩; have HD := hide (down_put (unhide HH) (unhide HU1) (unhide HU2) (unhide HU3) (unhide HX) (unhide HP) (unhide HSE) (unhide HM g) (unhide HI) hb1 hb2 hg (unhide HG) hput); have cm := (unhide HD).cm; clear hput)
    | (go_at_call 57; refine (oparse_yes s _ _ _ (unhide HI) (unhide HH1).se.g3 (by have := (unhide HH1).se.l; have := (unhide HH1).se.size; omega)).mono ?_; rintro e w2 ⟨hb2, g, he, hg, hrow⟩; rw [unhide HMM, unhide HTT, unhide HBK] at he; subst he; have HG := hide hrow; clear hrow)
    | (go_at_call 56; refine (get_here hl8 (unhide HP) (unhide HSE) (unhide HO) c3 hbl).mono ?_; rintro e w1 ⟨rfl, hb1⟩; have HH1 := hide ((unhide HH).kept hb1)))
  have HD4 := hide ((unhide HH4).kept (Below.refl w4.heap.size w4).drew)
  go_region_with (go_at_call 66; refine (shas_down (q := true) (unhide HD4) bk (unhide HNO)).mono ?_; rintro e w5 ⟨rfl, hb5a⟩; have hb5 : Below w4.heap.size w4 w5 := ((Below.refl w4.heap.size w4).drew).trans hb5a; have HH5 := hide ((unhide HH4).kept hb5); have cm5 := (hb5.cell (p := ⟨w2.heap.size, 0, none⟩) (cell_lt cm4)).trans cm4; clear hb5a)
  all_goals go_wp2_with (go_at_call 81; refine (rec _ _ _ (unhide HH5) (by rw [List.map_append]; rfl)).mono ?_; rintro e w6 hd6; obtain ⟨rfl, f6, L6, r6, h6, n6, q6⟩ := hd6)
  go_ret
  refine ⟨rfl, (unhide HD).fr.next (unhide HD).row ((OFr.of_below (hb4.trans (hb5.mono hb4.size)) cb _).trans f6), L6, r6, h6, n6, ?_⟩
  have z4 := hb4.size
  have z5 := hb5.size
  have z3 := (unhide HD).fr.size
  rcases q6 with e | e
  · rw [e]; exact (unhide HD).row
  · exact Or.inr fun k hk => Nat.le_trans (by omega) (e k hk)

set_option maxRecDepth 100000 in
set_option maxHeartbeats 4000000 in
theorem odown_up (x : ByteArray) (w : World) (b B cb : Nat) (r0 r : Option Nat) (room : Nat) (l : Ov.Files) (L : Ims) (s0 s1 s2 s3 : Addr) (h : DownAt w b B cb r0 r room l L s0 s1 s2 s3) (hp : Ov.place l x < l.length) (hi : Ov.isImage (Ov.fileAt l (Ov.place l x))) (hx : x ∉ L.map Prod.fst) (hk : (Ov.backing (Ov.fileAt l (Ov.place l x))).size ≠ 0) (hmt : Ov.metB (L.map Prod.fst ++ [x]) (Ov.backing (Ov.fileAt l (Ov.place l x))) = false) (hno : Ov.has l (Ov.backing (Ov.fileAt l (Ov.place l x))) = true) (n : Int) (wh : ByteArray) (rec : ∀ (r' : Option Nat) (w' : World) (L' : Ims), DownAt w' b B cb r0 r' room l L' s0 s1 s2 s3 → L'.map Prod.fst = L.map Prod.fst ++ [x] → Calls Tryz.prog 81 #[.pointer (some ⟨b, 0, none⟩), .string (Ov.backing (Ov.fileAt l (Ov.place l x))), .pointer (some ⟨cb, 0, none⟩)] w' (DownNo s0 s1 s2 s3 n wh cb r' w')) :
    Calls Tryz.prog 81 #[.pointer (some ⟨b, 0, none⟩), .string x, .pointer (some ⟨cb, 0, none⟩)] w (DownNo s0 s1 s2 s3 n wh cb r w) := by
  obtain ⟨s, hse⟩ : ∃ s, Ov.fileAt l (Ov.place l x) = s := ⟨_, rfl⟩
  rw [hse] at hi hk hmt hno rec
  obtain ⟨v, o1, o2, _, _⟩ := id h.ov
  obtain ⟨⟨u, u1, u2, u3⟩, u4⟩ := id h.ch
  have c3 : w.cell? ⟨b, 3, none⟩ = some v := blk_cell o1 rfl
  have hbl := blk_lt o1
  have hl8 := h.li.len
  have hL8 := h.len
  have hxs : x.size ≤ 1000 := Nat.le_trans (h.li.name_size hp) (by omega)
  have HO := hide o2
  have HH := hide h
  have HP := hide hp
  have HSE := hide hse
  have HI := hide hi
  have HX := hide hx
  have HU1 := hide u1
  have HU2 := hide u2
  have HU3 := hide u3
  obtain ⟨bk, hbk⟩ : ∃ bk, Ov.backing s = bk := ⟨_, rfl⟩
  obtain ⟨m, hm⟩ : ∃ m, Ov.many s = m := ⟨_, rfl⟩
  obtain ⟨t, ht⟩ : ∃ t, Ov.lost s = t := ⟨_, rfl⟩
  rw [hbk] at hk hmt hno rec
  have hbe : bk.toList.isEmpty = false := by rw [ByteArray.toList_eq, ← Bool.not_eq_true, List.isEmpty_iff_length_eq_zero]; simpa using hk
  have HM : Hid (∀ g, imOf s g = ⟨bk, g, m, t⟩) := fun g => by simp only [imOf, hbk, hm, ht]
  have HBK := hide hbk
  have HMM := hide hm
  have HTT := hide ht
  have HMT := hide hmt
  have HNO := hide hno
  clear h o1 o2 hp hse hi hx u1 u2 u3 u4 hbk hm ht hmt hno
  go_enter Tryz.func81, Tryz.ntmps81
  go_wp2_with (first
    | (go_at_call 96; refine (ihas_down (q := false) (unhide HD).at' bk (by rw [List.map_append]; exact unhide HMT)).mono ?_; rintro e w4 ⟨rfl, hb4⟩; have HH4 := hide (((unhide HD).at').kept hb4); have cm4 := (hb4.cell (p := ⟨w2.heap.size, 0, none⟩) (cell_lt cm)).trans cm)
    | (go_at_call 132; refine (oIput_calls L u x bk g m t cb _ hL8 (blk_alloc ((hb2.block _ (Nat.lt_of_lt_of_le (blk_lt (unhide HU1)) hb1.size)).trans ((hb1.block _ (blk_lt (unhide HU1))).trans (unhide HU1))) _) ((owns_all (owns_all (unhide HU2) hb1) hb2).alloc _) (fun k => unhide HX (fl_place.1 k)) hxs (Ch.ne (unhide HU1) (unhide HU2))).mono ?_; rintro e w3 ⟨rfl, v', hput⟩; have HD := hide (down_put (unhide HH) (unhide HU1) (unhide HU2) (unhide HU3) (unhide HX) (unhide HP) (unhide HSE) (unhide HM g) (unhide HI) hb1 hb2 hg (unhide HG) hput); have cm := (unhide HD).cm; clear hput)
    | (go_at_call 57; refine (oparse_yes s _ _ _ (unhide HI) (unhide HH1).se.g3 (by have := (unhide HH1).se.l; have := (unhide HH1).se.size; omega)).mono ?_; rintro e w2 ⟨hb2, g, he, hg, hrow⟩; rw [unhide HMM, unhide HTT, unhide HBK] at he; subst he; have HG := hide hrow; clear hrow)
    | (go_at_call 56; refine (get_here hl8 (unhide HP) (unhide HSE) (unhide HO) c3 hbl).mono ?_; rintro e w1 ⟨rfl, hb1⟩; have HH1 := hide ((unhide HH).kept hb1)))
  have HD4 := hide ((unhide HH4).kept (Below.refl w4.heap.size w4).drew)
  go_region_with (go_at_call 66; refine (shas_down (q := true) (unhide HD4) bk (unhide HNO)).mono ?_; rintro e w5 ⟨rfl, hb5a⟩; have hb5 : Below w4.heap.size w4 w5 := ((Below.refl w4.heap.size w4).drew).trans hb5a; have HH5 := hide ((unhide HH4).kept hb5); have cm5 := (hb5.cell (p := ⟨w2.heap.size, 0, none⟩) (cell_lt cm4)).trans cm4; clear hb5a)
  all_goals go_wp2_with (go_at_call 81; refine (rec _ _ _ (unhide HH5) (by rw [List.map_append]; rfl)).mono ?_; rintro e w6 hd6; obtain ⟨⟨eb, ed, et, ea, rfl, he6, hc6⟩, f6⟩ := hd6; have HE6 := hide he6; clear he6)
  go_ret
  exact ⟨⟨eb, ed + 1, _, _, rfl, .passage _ _ _ _ _ _ ((unhide HE6).kept (below_alloc1 w6 _)) (blk_new _ _), hc6⟩, (unhide HD).fr.next (unhide HD).row (((OFr.of_below (hb4.trans (hb5.mono hb4.size)) cb _).trans f6).trans (OFr.of_below (below_alloc1 w6 _) cb _))⟩

end Go.Proofs.YtomiepknmmpflaaGreatDoor

namespace Go.Proofs.YtomiepknmmpflaaGreatDoor
open Go.RowKit Go.Joins

theorem oopenDown_calls (b B cb : Nat) (r0 : Option Nat) (room : Nat) (l : Ov.Files) (s0 s1 s2 s3 : Addr) (f : Nat) : ∀ (x : ByteArray) (w : World) (r : Option Nat) (L : Ims), DownAt w b B cb r0 r room l L s0 s1 s2 s3 → Ov.place l x < l.length → x ∉ L.map Prod.fst → l.length ≤ L.length + f →
    ((Ov.down l f (L.map Prod.fst) x).2.1 = 0 → Calls Tryz.prog 81 #[.pointer (some ⟨b, 0, none⟩), .string x, .pointer (some ⟨cb, 0, none⟩)] w (DownYes l (Ov.down l f (L.map Prod.fst) x).1 cb r w)) ∧
    ((Ov.down l f (L.map Prod.fst) x).2.1 ≠ 0 → Calls Tryz.prog 81 #[.pointer (some ⟨b, 0, none⟩), .string x, .pointer (some ⟨cb, 0, none⟩)] w (DownNo s0 s1 s2 s3 (Ov.down l f (L.map Prod.fst) x).2.1 (Ov.down l f (L.map Prod.fst) x).2.2 cb r w)) := by
  induction f with
  | zero =>
    intro x w r L h hp hx hf
    have := (h.met.snoc hx hp).length
    simp at this
    omega
  | succ f ih =>
    intro x w r L h hp hx hf
    unfold Ov.down
    by_cases hi : Ov.isImage (Ov.fileAt l (Ov.place l x))
    · have hib := (Ov.imageB_iff _).2 hi
      rw [if_neg (by rw [hib]; decide)]
      by_cases hk : (Ov.backing (Ov.fileAt l (Ov.place l x))).size = 0
      · rw [if_pos hk]
        exact ⟨fun _ => odown_last x w b B cb r0 r room l L s0 s1 s2 s3 h hp hi hx hk, fun k => absurd rfl k⟩
      · rw [if_neg hk]
        by_cases hm : Ov.metB (L.map Prod.fst ++ [x]) (Ov.backing (Ov.fileAt l (Ov.place l x))) = true
        · rw [if_pos hm]
          exact ⟨fun k => absurd k (by simp), fun _ => odown_cycle x w b B cb r0 r room l L s0 s1 s2 s3 h hp hi hx hk hm⟩
        · rw [if_neg hm]
          have hm' : Ov.metB (L.map Prod.fst ++ [x]) (Ov.backing (Ov.fileAt l (Ov.place l x))) = false := by simpa using hm
          by_cases hq : Ov.place l (Ov.backing (Ov.fileAt l (Ov.place l x))) < l.length
          · rw [if_neg (by simpa using hq)]
            have hh : Ov.has l (Ov.backing (Ov.fileAt l (Ov.place l x))) = true := by unfold Ov.has; exact decide_eq_true hq
            have hnot : Ov.backing (Ov.fileAt l (Ov.place l x)) ∉ L.map Prod.fst ++ [x] := fun k => hm (Ov.metB_iff.2 k)
            have hlen : ∀ L' : Ims, L'.map Prod.fst = L.map Prod.fst ++ [x] → L'.length = L.length + 1 := fun L' e => by
              have := congrArg List.length e
              simpa using this
            refine ⟨fun k => odown_on x w b B cb r0 r room l L s0 s1 s2 s3 h hp hi hx hk hm' hh _ fun r' w' L' h' e => ?_, fun k => odown_up x w b B cb r0 r room l L s0 s1 s2 s3 h hp hi hx hk hm' hh _ _ fun r' w' L' h' e => ?_⟩
            · have := (ih (Ov.backing (Ov.fileAt l (Ov.place l x))) w' r' L' h' hq (by rw [e]; exact hnot) (by rw [hlen L' e]; omega)).1
              rw [e] at this
              exact this k
            · have := (ih (Ov.backing (Ov.fileAt l (Ov.place l x))) w' r' L' h' hq (by rw [e]; exact hnot) (by rw [hlen L' e]; omega)).2
              rw [e] at this
              exact this k
          · rw [if_pos (by simpa using hq)]
            have hh : Ov.has l (Ov.backing (Ov.fileAt l (Ov.place l x))) = false := by unfold Ov.has; exact decide_eq_false hq
            exact ⟨fun k => absurd k (by simp), fun _ => odown_missing x w b B cb r0 r room l L s0 s1 s2 s3 h hp hi hx hk hm' hh⟩
    · have hib : Ov.imageB (Ov.fileAt l (Ov.place l x)) = false := by
        rw [← Bool.not_eq_true]
        exact fun k => hi ((Ov.imageB_iff _).1 k)
      rw [if_pos hib]
      exact ⟨fun k => absurd k (by simp), fun _ => odown_bad x w b B cb r0 r room l L s0 s1 s2 s3 h hp hi⟩

structure ChainYes (l : Ov.Files) (ns : List ByteArray) (w : World) (e : Ending) (w' : World) : Prop where
  below : Below w.heap.size w w'
  ret : ∃ cb r L, e = .returned (.tuple #[.pointer (some ⟨cb, 0, none⟩), .nilIface]) ∧ w.heap.size ≤ cb ∧ Ch w' cb r l L ∧ L.map Prod.fst = ns ∧ L.length ≤ 8 ∧ (∀ k, r = some k → w.heap.size ≤ k)
structure ChainNo (s0 s1 s2 s3 : Addr) (n : Int) (wh : Option ByteArray) (w : World) (e : Ending) (w' : World) : Prop where
  below : Below w.heap.size w w'
  ret : ∃ b d t a, e = .returned (.tuple #[.pointer none, .iface t (.pointer (some a))]) ∧ Er w' b d wh t a ∧ Code s0 s1 s2 s3 b n

theorem ch_new (w : World) (l : Ov.Files) : Ch (w.alloc (.cells #[.slice none 0 0] 132)) w.heap.size none l [] :=
  ⟨⟨.slice none 0 0, blk_new _ _, World.ownsRow_nil _ _ _ _, rfl⟩, fun q hq => by cases hq⟩
structure ChainAt (w : World) (b B : Nat) (r0 : Option Nat) (room : Nat) (l : Ov.Files) (s0 s1 s2 s3 : Addr) : Prop where
  ov : OvAt 1 w b r0 room l
  li : Ov.LI room l
  se : Sents w B s0 s1 s2 s3
theorem ChainAt.kept {w w' : World} {b B : Nat} {r0 : Option Nat} {room : Nat} {l : Ov.Files} {s0 s1 s2 s3 : Addr} (h : ChainAt w b B r0 room l s0 s1 s2 s3) (hb : Below w.heap.size w w') : ChainAt w' b B r0 room l s0 s1 s2 s3 := ⟨h.ov.kept hb, h.li, h.se.keptAll hb⟩
theorem ChainAt.down {w : World} {b B : Nat} {r0 : Option Nat} {room : Nat} {l : Ov.Files} {s0 s1 s2 s3 : Addr} (h : ChainAt w b B r0 room l s0 s1 s2 s3) :
    DownAt (w.alloc (.cells #[.slice none 0 0] 132)) b B w.heap.size r0 none room l [] s0 s1 s2 s3 := by
  obtain ⟨v, o1, o2, o3, o4⟩ := h.ov
  exact ⟨h.ov.kept (below_alloc1 w _), h.li, h.se.keptAll (below_alloc1 w _), ch_new w l, ⟨List.nodup_nil, fun x hx => by cases hx⟩, h.se.size, blk_lt o1, fun k hk => by
    obtain ⟨c, hc⟩ := own_blk o2 (o4.trans hk)
    exact blk_lt hc, fun k hk => by cases hk⟩

set_option maxRecDepth 100000 in
set_option maxHeartbeats 1000000 in
theorem oopenChain_yes (x : ByteArray) (w : World) (b B : Nat) (r0 : Option Nat) (room : Nat) (l : Ov.Files) (s0 s1 s2 s3 : Addr) (h : ChainAt w b B r0 room l s0 s1 s2 s3) (hp : Ov.place l x < l.length) (hok : (Ov.downOf l x).2.1 = 0) :
    Calls Tryz.prog 45 #[.pointer (some ⟨b, 0, none⟩), .string x] w (ChainYes l (Ov.downOf l x).1 w) := by
  obtain ⟨v, o1, o2, _, _⟩ := id h.ov
  have c3 : w.cell? ⟨b, 3, none⟩ = some v := blk_cell o1 rfl
  have hbl := blk_lt o1
  have hl8 := h.li.len
  have hh : Ov.has l x = true := by unfold Ov.has; exact decide_eq_true hp
  have HO := hide o2
  have HH := hide h
  have HP := hide hp
  have HK := hide hok
  clear h o1 o2 hp hok
  go_enter Tryz.func45, Tryz.ntmps45
  go_wp2_with (first
    | (go_at_call 81; refine ((oopenDown_calls b B w1.heap.size r0 room l s0 s1 s2 s3 l.length x _ none [] (unhide HH1).down (unhide HP) (by simp) (by simp)).1 (unhide HK)).mono ?_; rintro e w2 hd2; obtain ⟨rfl, f2, L2, r2, h2, n2, q2⟩ := hd2)
    | (go_at_call 66; refine (oShas_calls l v x b 3 0 _ hl8 (unhide HO) c3 hbl).mono ?_; rintro e w1 ⟨rfl, hb1⟩; have HH1 := hide ((unhide HH).kept hb1)))
  go_ret2
  have hf2 : Below w1.heap.size w1 w2 := (below_alloc1 w1 _).trans (f2.below (fun k hk => by cases hk) (by simp))
  refine ⟨hb1.trans (hf2.mono hb1.size), _, r2, L2, rfl, hb1.size, h2, n2, ?_, fun k hk => ?_⟩
  · have := Ov.down_length (l := l) l.length (seen := []) (x := x)
    have e := congrArg List.length n2
    rw [List.length_map] at e
    rw [e]
    exact Nat.le_trans this (by simpa using hl8)
  · have z1 := hb1.size
    rcases q2 with q | q
    · rw [q] at hk; cases hk
    · have := q k hk
      simp at this; omega

set_option maxRecDepth 100000 in
set_option maxHeartbeats 1000000 in
theorem oopenChain_down (x : ByteArray) (w : World) (b B : Nat) (r0 : Option Nat) (room : Nat) (l : Ov.Files) (s0 s1 s2 s3 : Addr) (h : ChainAt w b B r0 room l s0 s1 s2 s3) (hp : Ov.place l x < l.length) (hok : (Ov.downOf l x).2.1 ≠ 0) :
    Calls Tryz.prog 45 #[.pointer (some ⟨b, 0, none⟩), .string x] w (ChainNo s0 s1 s2 s3 (Ov.downOf l x).2.1 (some (Ov.downOf l x).2.2) w) := by
  obtain ⟨v, o1, o2, _, _⟩ := id h.ov
  have c3 : w.cell? ⟨b, 3, none⟩ = some v := blk_cell o1 rfl
  have hbl := blk_lt o1
  have hl8 := h.li.len
  have hh : Ov.has l x = true := by unfold Ov.has; exact decide_eq_true hp
  have HO := hide o2
  have HH := hide h
  have HP := hide hp
  have HK := hide hok
  clear h o1 o2 hp hok
  go_enter Tryz.func45, Tryz.ntmps45
  go_wp2_with (first
    | (go_at_call 81; refine ((oopenDown_calls b B w1.heap.size r0 room l s0 s1 s2 s3 l.length x _ none [] (unhide HH1).down (unhide HP) (by simp) (by simp)).2 (unhide HK)).mono ?_; rintro e w2 hd2; obtain ⟨⟨eb, ed, et, ea, rfl, he2, hc2⟩, f2⟩ := hd2; have HE2 := hide he2; clear he2)
    | (go_at_call 66; refine (oShas_calls l v x b 3 0 _ hl8 (unhide HO) c3 hbl).mono ?_; rintro e w1 ⟨rfl, hb1⟩; have HH1 := hide ((unhide HH).kept hb1)))
  go_ret2
  have hf2 : Below w1.heap.size w1 w2 := (below_alloc1 w1 _).trans (f2.below (fun k hk => by cases hk) (by simp))
  exact ⟨hb1.trans (hf2.mono hb1.size), _, _, _, _, rfl, unhide HE2, hc2⟩

set_option maxRecDepth 100000 in
set_option maxHeartbeats 1000000 in
theorem oopenChain_none (x : ByteArray) (w : World) (b B : Nat) (r0 : Option Nat) (room : Nat) (l : Ov.Files) (s0 s1 s2 s3 : Addr) (h : ChainAt w b B r0 room l s0 s1 s2 s3) (hp : ¬ Ov.place l x < l.length) :
    Calls Tryz.prog 45 #[.pointer (some ⟨b, 0, none⟩), .string x] w (ChainNo s0 s1 s2 s3 4 none w) := by
  obtain ⟨v, o1, o2, _, _⟩ := id h.ov
  have c3 : w.cell? ⟨b, 3, none⟩ = some v := blk_cell o1 rfl
  have hbl := blk_lt o1
  have hl8 := h.li.len
  have hh : Ov.has l x = false := by unfold Ov.has; exact decide_eq_false hp
  have HO := hide o2
  have HH := hide h
  clear h o1 o2 hp
  go_enter Tryz.func45, Tryz.ntmps45
  go_wp2_with (go_at_call 66; refine (oShas_calls l v x b 3 0 _ hl8 (unhide HO) c3 hbl).mono ?_; rintro e w1 ⟨rfl, hb1⟩; have g0 := ((unhide HH).kept hb1).se.g0)
  go_region
  all_goals (go_wp2; go_ret2; exact ⟨hb1.drew, s0, 0, _, _, rfl, .bare, .none⟩)

end Go.Proofs.YtomiepknmmpflaaGreatDoor

namespace Go.Proofs.YtomiepknmmpflaaGreatDoor
open Go.RowKit Go.Joins

set_option maxRecDepth 100000 in
set_option maxHeartbeats 1000000 in
theorem oopenBacking_none (bk : ByteArray) (b : Nat) (w : World) (h : bk.toList.isEmpty = true) :
    Calls Tryz.prog 72 #[.pointer (some ⟨b, 0, none⟩), .string bk] w fun e w' => e = .returned (.tuple #[.pointer (some ⟨w.heap.size, 0, none⟩), Value.nilIface]) ∧ w.alloc (.cells #[.slice none 0 0] 132) = w' := by
  go_enter Tryz.func72, Tryz.ntmps72
  go_wp2
  go_ret2
  exact ⟨rfl, rfl⟩
set_option maxRecDepth 100000 in
set_option maxHeartbeats 1000000 in
theorem oopenBacking_yes (bk : ByteArray) (b : Nat) (w : World) (l : Ov.Files) (ns : List ByteArray) (h : bk.toList.isEmpty = false) (hk : Calls Tryz.prog 45 #[.pointer (some ⟨b, 0, none⟩), .string bk] w (ChainYes l ns w)) :
    Calls Tryz.prog 72 #[.pointer (some ⟨b, 0, none⟩), .string bk] w (ChainYes l ns w) := by
  have HK := hide hk
  clear hk
  go_enter Tryz.func72, Tryz.ntmps72
  go_wp2_with (go_at_call 45; refine (unhide HK).mono ?_; rintro e w1 ⟨h1, cb, r2, L, rfl, h2⟩)
  go_ret2
  exact ⟨h1, cb, r2, L, rfl, h2⟩
set_option maxRecDepth 100000 in
set_option maxHeartbeats 1000000 in
theorem oopenBacking_no (bk : ByteArray) (b : Nat) (w : World) (s0 s1 s2 s3 : Addr) (n : Int) (wh : Option ByteArray) (h : bk.toList.isEmpty = false) (hk : Calls Tryz.prog 45 #[.pointer (some ⟨b, 0, none⟩), .string bk] w (ChainNo s0 s1 s2 s3 n wh w)) :
    Calls Tryz.prog 72 #[.pointer (some ⟨b, 0, none⟩), .string bk] w (ChainNo s0 s1 s2 s3 n wh w) := by
  have HK := hide hk
  clear hk
  go_enter Tryz.func72, Tryz.ntmps72
  go_wp2_with (go_at_call 45; refine (unhide HK).mono ?_; rintro e w1 ⟨h1, eb, ed, et, ea, rfl, h2, h3⟩)
  go_ret2
  exact ⟨h1, eb, ed, et, ea, rfl, h2, h3⟩

end Go.Proofs.YtomiepknmmpflaaGreatDoor

namespace Go.Proofs.YtomiepknmmpflaaGreatDoor
open Go.RowKit Go.Joins

namespace Ov
theorem down_ends {l : Files} (f : Nat) : ∀ {seen : List ByteArray} {x : ByteArray}, Met l seen → x ∉ seen → place l x < l.length → l.length ≤ seen.length + f →
    ((down l f seen x).2.1 = 0 → (down l f seen x).2.2 = ⟨#[]⟩) ∧ ((down l f seen x).2.1 ≠ 0 → (down l f seen x).1 = [] ∧ place l (down l f seen x).2.2 < l.length) := by
  induction f with
  | zero =>
    intro seen x h hx hp hf
    have := (h.snoc hx hp).length
    simp at this
    omega
  | succ f ih =>
    intro seen x h hx hp hf
    unfold down
    split
    · exact ⟨fun k => absurd k (by simp), fun _ => ⟨rfl, hp⟩⟩
    · split
      · exact ⟨fun _ => rfl, fun k => absurd rfl k⟩
      · split
        · exact ⟨fun k => absurd k (by simp), fun _ => ⟨rfl, hp⟩⟩
        · split
          · exact ⟨fun k => absurd k (by simp), fun _ => ⟨rfl, hp⟩⟩
          · rename_i _ _ hm hq
            exact ih (h.snoc hx hp) (fun k => hm (metB_iff.2 k)) (by simpa using hq) (by simp; omega)
theorem downOf_ends {l : Files} {x : ByteArray} (hp : place l x < l.length) : ((downOf l x).2.1 = 0 → (downOf l x).2.2 = ⟨#[]⟩) ∧ ((downOf l x).2.1 ≠ 0 → (downOf l x).1 = [] ∧ place l (downOf l x).2.2 < l.length) :=
  down_ends l.length (seen := []) ⟨List.nodup_nil, fun y hy => by cases hy⟩ (by simp) hp (by simp)
theorem nameB_pos {x : ByteArray} (h : nameB x = true) : 1 ≤ x.size := by
  unfold nameB isName at h
  simp only [Bool.and_eq_true, decide_eq_true_eq] at h
  simpa using h.1
theorem LI.name_pos {room : Nat} {l : Files} (h : LI room l) {x : ByteArray} (hx : place l x < l.length) : 1 ≤ x.size := by
  have := h.names _ hx
  rw [place_name hx] at this
  exact nameB_pos this
end Ov

open Go.MuLone in
set_option maxRecDepth 100000 in
set_option maxHeartbeats 1000000 in
theorem oChain_calls (l : Ov.Files) (x : ByteArray) (b B : Nat) (r : Option Nat) (room : Nat) (s0 s1 s2 s3 : Addr) (w : World) (hi : Ov.LI room l) (h : OvRep w b r room l) (hs : Sents w B s0 s1 s2 s3) (hB : B ≤ b) (hg4 : w.cell? ⟨4, 0, none⟩ = some (.iface 259 (.agg #[.pointer (some ⟨8, 80, none⟩)]))) :
    Calls Tryz.prog 17 #[.pointer (some ⟨b, 0, none⟩), .string x] w fun e w' => e = .returned (.tuple #[.string (Ov.chainF l x).1, .string (Ov.chainF l x).2.1, .int .i64 (Ov.chainF l x).2.2]) ∧ OvLeft w b r room l w' := by
  obtain ⟨v, h1, h2, h3, h4⟩ := id h
  have HR := hide h
  have c0 : w.cell? ⟨b, 0, none⟩ = some (.int .i32 0) := blk_cell h1 rfl
  have f0 := blk_frozen h1 0
  have hbl := blk_lt h1
  have HB := hide (blk_set_same (i := 0) h1 (.int .i32 1))
  have HC : Hid (ChainAt (w.setCell ⟨b, 0, none⟩ (.int .i32 1)) b B r room l s0 s1 s2 s3) := ⟨h.lock, hi, hs.kept ((Below.refl B w).setCell (p := ⟨b, 0, none⟩) hB (.int .i32 1))⟩
  have HG : Hid ((w.setCell ⟨b, 0, none⟩ (.int .i32 1)).cell? ⟨4, 0, none⟩ = some (.iface 259 (.agg #[.pointer (some ⟨8, 80, none⟩)]))) := (((Below.refl B w).setCell (p := ⟨b, 0, none⟩) hB (.int .i32 1)).cell (p := ⟨4, 0, none⟩) hs.l).trans hg4
  have hl4 := hs.l
  have hsz := hs.size
  clear h h1 h2 h3 h4 hs hg4
  by_cases hp : Ov.place l x < l.length
  · obtain ⟨e0, e1⟩ := Ov.downOf_ends hp
    have HP := hide hp
    by_cases hk : (Ov.downOf l x).2.1 = 0
    · have HD : Hid (Ov.chainF l x = (Ov.joinTo (Ov.downOf l x).1 (Ov.downOf l x).1.length, ⟨#[]⟩, 0)) := by unfold Ov.chainF; rw [if_pos hp, hk, e0 hk]; exact rfl
      have HK := hide hk
      have H8 : Hid (∀ y ∈ (Ov.downOf l x).1, 1 ≤ y.size ∧ y.size ≤ 8) := fun y hy => by
        have := Ov.down_here l.length (seen := []) (by simp) hp y hy
        exact ⟨hi.name_pos this, hi.name_size this⟩
      clear hp hk e0 e1 hi
      go_enter_defers Tryz.func17, Tryz.ntmps17
      go_wp2_with (first
        | (go_at_call 48; refine (ochainNames_calls l L cb r2 _ hch hL8 (by rw [hns]; exact unhide H8)).mono ?_; rw [hns]; rintro e w3 ⟨rfl, hb3⟩)
        | (go_at_call 45; refine (oopenChain_yes x _ b B r room l s0 s1 s2 s3 (unhide HC) (unhide HP) (unhide HK)).mono ?_; rintro e w2 ⟨hb2, cb, r2, L, rfl, hcb, hch, hns, hL8, hr2⟩)
        | (go_at_call 43; refine (lock_free muLib ⟨b, 0, none⟩ _ c0 f0).mono ?_; rintro e w1 ⟨rfl, rfl⟩))
      have hb5 := hb2.trans (hb3.mono hb2.size)
      refine leaves_cons (f := 44) (args := #[.pointer (some ⟨b, 0, none⟩)]) (by simp) (by simp [go_sem]) ?_
      refine (unlock_deferred muLib ⟨b, 0, none⟩ .returning _ ?_ ?_).mono ?_
      · exact (hb5.cell (p := ⟨b, 0, none⟩) (by simpa using hbl)).trans (blk_cell (unhide HB) rfl)
      · exact (hb5.frozen (p := ⟨b, 0, none⟩) (by simpa using hbl)).trans (blk_frozen (unhide HB) 0)
      rintro e u' w'' ⟨rfl, rfl, rfl⟩
      refine ⟨_, results_tmp3 rfl _ _ _, ?_, OvLeft.quiet (unhide HR) hb5⟩
      rw [unhide HD]; rfl
    · have HD : Hid (Ov.chainF l x = (⟨#[]⟩, (Ov.downOf l x).2.2, (Ov.downOf l x).2.1)) := by unfold Ov.chainF; rw [if_pos hp, (e1 hk).1]; exact rfl
      have HK := hide hk
      have H8 : Hid ((whOf (some (Ov.downOf l x).2.2)).size ≤ 1000) := Nat.le_trans (hi.name_size (e1 hk).2) (by omega)
      clear hp hk e0 e1 hi
      go_enter_defers Tryz.func17, Tryz.ntmps17
      go_wp2_with (first
        | (go_at_call 47; refine (oerrnoOf_calls s0 s1 s2 s3 eb (Ov.downOf l x).2.1 B ed (some (Ov.downOf l x).2.2) et ea _ hc2 (unhide HE3) (unhide HS3)).mono ?_; rintro e w4 ⟨rfl, rfl⟩)
        | (go_at_call 46; refine (owhereOf_calls eb ed (some (Ov.downOf l x).2.2) et ea _ (unhide HE2) (unhide H8) ((hb2.cell (p := ⟨4, 0, none⟩) (by show 4 < (w.setCell ⟨b, 0, none⟩ (.int .i32 1)).heap.size; simp; omega)).trans (unhide HG))).mono ?_; rintro e w3 ⟨rfl, hb3⟩; have HE3 := hide ((unhide HE2).kept hb3); have HS3 := hide (((unhide HC).se.keptAll hb2).keptAll hb3))
        | (go_at_call 45; refine (oopenChain_down x _ b B r room l s0 s1 s2 s3 (unhide HC) (unhide HP) (unhide HK)).mono ?_; rintro e w2 ⟨hb2, eb, ed, et, ea, rfl, he2, hc2⟩; have HE2 := hide he2; clear he2)
        | (go_at_call 43; refine (lock_free muLib ⟨b, 0, none⟩ _ c0 f0).mono ?_; rintro e w1 ⟨rfl, rfl⟩))
      have hb5 := hb2.trans (hb3.mono hb2.size)
      refine leaves_cons (f := 44) (args := #[.pointer (some ⟨b, 0, none⟩)]) (by simp) (by simp [go_sem]) ?_
      refine (unlock_deferred muLib ⟨b, 0, none⟩ .returning _ ?_ ?_).mono ?_
      · exact (hb5.cell (p := ⟨b, 0, none⟩) (by simpa using hbl)).trans (blk_cell (unhide HB) rfl)
      · exact (hb5.frozen (p := ⟨b, 0, none⟩) (by simpa using hbl)).trans (blk_frozen (unhide HB) 0)
      rintro e u' w'' ⟨rfl, rfl, rfl⟩
      refine ⟨_, results_tmp3 rfl _ _ _, ?_, OvLeft.quiet (unhide HR) hb5⟩
      rw [unhide HD]; rfl
  · have HP := hide hp
    have HD : Hid (Ov.chainF l x = (⟨#[]⟩, ⟨#[]⟩, 4)) := by unfold Ov.chainF; rw [if_neg hp]; exact rfl
    have H8 : Hid ((whOf none).size ≤ 1000) := Nat.zero_le _
    clear hp hi
    go_enter_defers Tryz.func17, Tryz.ntmps17
    go_wp2_with (first
      | (go_at_call 47; refine (oerrnoOf_calls s0 s1 s2 s3 eb 4 B ed none et ea _ hc2 (unhide HE3) (unhide HS3)).mono ?_; rintro e w4 ⟨rfl, rfl⟩)
      | (go_at_call 46; refine (owhereOf_calls eb ed none et ea _ (unhide HE2) (unhide H8) ((hb2.cell (p := ⟨4, 0, none⟩) (by show 4 < (w.setCell ⟨b, 0, none⟩ (.int .i32 1)).heap.size; simp; omega)).trans (unhide HG))).mono ?_; rintro e w3 ⟨rfl, hb3⟩; have HE3 := hide ((unhide HE2).kept hb3); have HS3 := hide (((unhide HC).se.keptAll hb2).keptAll hb3))
      | (go_at_call 45; refine (oopenChain_none x _ b B r room l s0 s1 s2 s3 (unhide HC) (unhide HP)).mono ?_; rintro e w2 ⟨hb2, eb, ed, et, ea, rfl, he2, hc2⟩; have HE2 := hide he2; clear he2)
      | (go_at_call 43; refine (lock_free muLib ⟨b, 0, none⟩ _ c0 f0).mono ?_; rintro e w1 ⟨rfl, rfl⟩))
    have hb5 := hb2.trans (hb3.mono hb2.size)
    refine leaves_cons (f := 44) (args := #[.pointer (some ⟨b, 0, none⟩)]) (by simp) (by simp [go_sem]) ?_
    refine (unlock_deferred muLib ⟨b, 0, none⟩ .returning _ ?_ ?_).mono ?_
    · exact (hb5.cell (p := ⟨b, 0, none⟩) (by simpa using hbl)).trans (blk_cell (unhide HB) rfl)
    · exact (hb5.frozen (p := ⟨b, 0, none⟩) (by simpa using hbl)).trans (blk_frozen (unhide HB) 0)
    rintro e u' w'' ⟨rfl, rfl, rfl⟩
    refine ⟨_, results_tmp3 rfl _ _ _, ?_, OvLeft.quiet (unhide HR) hb5⟩
    rw [unhide HD]; rfl

end Go.Proofs.YtomiepknmmpflaaGreatDoor

