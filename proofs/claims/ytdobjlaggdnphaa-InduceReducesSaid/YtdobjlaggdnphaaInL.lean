/- CONTRACTS OVER VALUES (layer 16): the document's calls, told of a slice's value; the chapter's example. -/
import Derived.Test.YtdobjlaggdnphaaInP
namespace Go.Inc
open Go.RowKit
theorem known16_ck : ckT [2, 1, 2, 1, 0] = 0 := by decide +kernel
theorem known16_firsts : fsT [2, 1, 2, 1, 0] 5 = [1, 4] := by decide +kernel
theorem known16_heads : hdsT [2, 1, 2, 1, 0] = [0, 1, 3] := by decide +kernel
theorem known16_tails : tlsT [2, 1, 2, 1, 0] = [1, 3, 5] := by decide +kernel
theorem known16_ind : indT [2, 1, 2, 1, 0] [4, 1] = [4, 3, 1, 2, 0] := by decide +kernel
theorem known16_fs : isFs [2, 1, 2, 1, 0] [4, 1] := by
  refine ⟨by decide, fun j => ?_⟩
  have h : fsT [2, 1, 2, 1, 0] ([2, 1, 2, 1, 0] : List Int).length = [1, 4] := known16_firsts
  rw [h]
  simp
  omega
end Go.Inc
namespace Go.Proofs.Ytdobjlaggdnphaa
open Go.RowKit Go.Inc
theorem refGreatest_so (ok : Nat → Prop) (x : World) (v : Value) (zs : List Int) (h : So ok x v zs) (hl : zs.length ≤ 65536) (hi : InT zs) :
    Calls Try.prog 11 #[v] x fun e w' => e = .returned (.int .i64 ((grT zs zs.length : Nat) : Int)) ∧ x = w' := by
  obtain ⟨a, c, rfl, hs, -⟩ := h
  exact refGreatest_any ok x a c zs hs hi (by omega)
theorem refBucket_so (ok : Nat → Prop) (x : World) (v : Value) (zs : List Int) (s : Nat) (h : So ok x v zs) (hl : zs.length ≤ 65536) (hi : InT zs) :
    Calls Try.prog 12 #[v, .int .i64 (s : Int)] x fun e w' => e = .returned (.tuple #[.int .i64 ((hdC zs.length (cdT zs) s : Nat) : Int), .int .i64 ((hdC zs.length (cdT zs) (s + 1) : Nat) : Int)]) ∧ x = w' := by
  obtain ⟨a, c, rfl, hs, -⟩ := h
  exact refBucket_any ok x a c zs s hs hi (by omega)
theorem refInduce_so (ok ok' : Nat → Prop) (x : World) (v v' : Value) (zs : List Int) (fs : List Nat) (h : So ok x v zs) (h' : So ok' x v' (zsN fs)) (hl : zs.length ≤ 65536) (hck : ckT zs = 0) (hfs : isFs zs fs) :
    Calls Try.prog 18 #[v, v'] x fun e w' => ∃ u, e = .returned u ∧ So (fun g => x.heap.size ≤ g) w' u (zsN (indT zs fs)) ∧ Below x.heap.size x w' := by
  obtain ⟨a, c, rfl, hs, -⟩ := h
  obtain ⟨b, d, rfl, hf, -⟩ := h'
  rw [zsN_len]
  refine (refInduce_any ok ok' x a b c d zs fs hs hf hck (by omega) hfs).mono ?_
  rintro e w' ⟨u, rfl, h1, h2⟩
  exact ⟨u, rfl, So.ownedN h1, h2⟩
theorem refNames_so (ok ok' : Nat → Prop) (x : World) (v v' : Value) (zs : List Int) (l : List Nat) (h : So ok x v zs) (h' : So ok' x v' (zsN l)) (hl : zs.length ≤ 65536) (hck : ckT zs = 0) (hlp : ByP zs l) (hll : l.length = zs.length) :
    Calls Try.prog 20 #[v, v'] x fun e w' => ∃ u, e = .returned (.tuple #[u, .int .i64 ((ncT zs l : Nat) : Int)]) ∧ So (fun g => x.heap.size ≤ g) w' u (zsN (nmT zs l)) ∧ Below x.heap.size x w' := by
  obtain ⟨a, c, rfl, hs, hc, hm, -⟩ := h
  obtain ⟨b, d, rfl, hf, -⟩ := h'
  rw [zsN_len]
  refine (refNames_any ok ok' x a b c d zs l hs ⟨hc, hm⟩ hf hck (by omega) hlp hll).mono ?_
  rintro e w' ⟨u, rfl, h1, h2⟩
  exact ⟨u, rfl, So.ownedN h1, h2⟩
theorem refPiece_so (ok ok' : Nat → Prop) (x : World) (v v' : Value) (zs : List Int) (k : Nat) (h : So ok x v zs) (h' : So ok' x v' (zsN (fsT zs zs.length))) (hl : zs.length ≤ 65536) (hi : InT zs) (hk : k < (fsT zs zs.length).length) :
    Calls Try.prog 22 #[v, v', .int .i64 (k : Int)] x fun e w' => ∃ u, e = .returned u ∧ So ok w' u (pceT zs ((fsT zs zs.length).getD k 0)) ∧ Below x.heap.size x w' := by
  obtain ⟨a, c, rfl, hs, hc, hm, -⟩ := h
  obtain ⟨b, d, rfl, hf, -⟩ := h'
  rw [zsN_len]
  exact refPiece_any ok ok' x a b c d zs k hs ⟨hc, hm⟩ hf hi (by omega) hk
theorem refCompare_so (ok ok' : Nat → Prop) (x : World) (v v' : Value) (xs ys : List Int) (h : So ok x v xs) (h' : So ok' x v' ys) (hx : ∀ z ∈ xs, 0 ≤ z ∧ z ≤ 65535) (hy : ∀ z ∈ ys, 0 ≤ z ∧ z ≤ 65535) (hl : xs.length ≤ 65536) (hl' : ys.length ≤ 65536) :
    Calls Try.prog 21 #[v, v'] x fun e w' => e = .returned (.int .i64 (cmpP xs ys)) ∧ Below x.heap.size x w' := by
  obtain ⟨a, c, rfl, hs, -⟩ := h
  obtain ⟨b, d, rfl, hf, -⟩ := h'
  exact refCompare_any ok ok' x a b c d xs ys hs hf hx hy (by omega) (by omega)
theorem so_lit (w y : World) (zs : List Int) (hl : zs.length ≤ 1000) (h : y = w.alloc (.cells (zs.map fun z => Value.int .i64 z).toArray 3)) : So (fun q => q = w.heap.size) y (.slice (some ⟨w.heap.size, 0, none⟩) zs.length zs.length) zs :=
  ⟨_, zs.length, rfl, by rw [h]; exact si_lit w zs 3, Nat.le_refl _, by unfold maxLen; omega, fun h => by cases h⟩
set_option maxRecDepth 20000 in
set_option maxHeartbeats 2000000 in
theorem known16_any (ps : PI16) (x : World) :
    Calls Try.prog 13 #[] x fun e w' => e = .returned (.bool true) ∧ Below x.heap.size x w' := by
  go_enter Try.func13, Try.ntmps13
  obtain ⟨x1, hx1⟩ : ∃ x1, x1 = x.alloc (.cells #[.int .i64 2, .int .i64 1, .int .i64 2, .int .i64 1, .int .i64 0] 3) := ⟨_, rfl⟩
  have hb1 : Below x.heap.size x x1 := by rw [hx1]; exact (Below.refl _ _).alloc (Nat.le_refl _) _
  have hs1 := so_lit x x1 [2, 1, 2, 1, 0] (by decide) hx1
  have HH := hid (ps.pHeads _ x1 _ _ hs1 (by decide) known16_ck)
  rw [known16_heads] at HH
  have HX1 := hid hx1
  have HB1 := hid hb1
  have HS1 := hid hs1
  clear hx1 hb1 hs1
  go_wp2_with fail
  rw [← HX1.out]
  refine HH.out.mono ?_
  rintro e w2 ⟨u2, rfl, h2, hb⟩
  obtain ⟨a2, c2, rfl, hs2, -, -, -⟩ := h2
  have HU2 := hid hs2
  have HS2 := hid (HS1.out.below hb)
  have HB2 := hid (HB1.out.trans (hb.mono HB1.out.size))
  have HT := hid (ps.pTails _ w2 _ _ HS2.out (by decide) known16_ck)
  rw [known16_tails] at HT
  clear hb HH HX1 HB1 HS1 hs2
  go_wp2_with fail
  refine HT.out.mono ?_
  rintro e w3 ⟨u3, rfl, h3, hb⟩
  obtain ⟨a3, c3, rfl, hs3, -, -, -⟩ := h3
  have HU3 := hid hs3
  have HU23 := hid (HU2.out.below hb)
  have HS3 := hid (HS2.out.below hb)
  have HB3 := hid (HB2.out.trans (hb.mono HB2.out.size))
  obtain ⟨y3, hy3⟩ : ∃ y3, y3 = w3.alloc (.cells #[.int .i64 4, .int .i64 1] 3) := ⟨_, rfl⟩
  have hb33 : Below w3.heap.size w3 y3 := by rw [hy3]; exact (Below.refl _ _).alloc (Nat.le_refl _) _
  have HI := hid (ps.pInduce _ _ y3 _ _ [2, 1, 2, 1, 0] [4, 1] (HS3.out.below hb33) (so_lit w3 y3 [4, 1] (by decide) hy3) (by decide) known16_ck known16_fs)
  rw [known16_ind] at HI
  have HY3 := hid hy3
  have HB4 := hid (HB3.out.trans (hb33.mono HB3.out.size))
  have HU34 := hid (HU3.out.below hb33)
  have HU24 := hid (HU23.out.below hb33)
  clear hb HT HB2 HS2 HU2 hs3 hy3 hb33 HB3 HU3 HU23 HS3
  go_wp2_with fail
  rw [← HY3.out]
  refine HI.out.mono ?_
  rintro e w4 ⟨u4, rfl, h4, hb⟩
  obtain ⟨a4, c4, rfl, hs4, -, -, -⟩ := h4
  have HU4 := hid hs4
  have HU35 := hid (HU34.out.below hb)
  have HU25 := hid (HU24.out.below hb)
  have HB5 := hid (HB4.out.trans (hb.mono HB4.out.size))
  obtain ⟨y4, hy4⟩ : ∃ y4, y4 = w4.alloc (.cells #[.int .i64 0, .int .i64 1, .int .i64 3] 3) := ⟨_, rfl⟩
  have hb44 : Below w4.heap.size w4 y4 := by rw [hy4]; exact (Below.refl _ _).alloc (Nat.le_refl _) _
  have HSM := hid (refSame_any _ _ a2 (some ⟨w4.heap.size, 0, none⟩) c2 3 [0, 1, 3] [0, 1, 3] y4 (HU25.out.below hb44) (by rw [hy4]; exact si_lit w4 [0, 1, 3] 3) (by decide))
  have HY4 := hid hy4
  have HB6 := hid (HB5.out.trans (hb44.mono HB5.out.size))
  have HU36 := hid (HU35.out.below hb44)
  have HU46 := hid (HU4.out.below hb44)
  clear hb HI HB4 HU34 HU24 hs4 hy4 hb44 HB5 HU35 HU25 HU4 HY3
  have e0 : (zsN [0, 1, 3]).length = 3 := rfl
  have e1 : (zsN [1, 3, 5]).length = 3 := rfl
  have e2 : (zsN [4, 3, 1, 2, 0]).length = 5 := rfl
  rw [e0, e1, e2]
  clear e0 e1 e2
  go_wp2_with fail
  rw [← HY4.out]
  refine HSM.out.mono ?_
  rintro e w5 ⟨rfl, hb⟩
  have HB7 := hid (HB6.out.trans (hb.mono HB6.out.size))
  have HU37 := hid (HU36.out.below hb)
  have HU47 := hid (HU46.out.below hb)
  obtain ⟨y5, hy5⟩ : ∃ y5, y5 = w5.alloc (.cells #[.int .i64 1, .int .i64 3, .int .i64 5] 3) := ⟨_, rfl⟩
  have hb55 : Below w5.heap.size w5 y5 := by rw [hy5]; exact (Below.refl _ _).alloc (Nat.le_refl _) _
  have HSM2 := hid (refSame_any _ _ a3 (some ⟨w5.heap.size, 0, none⟩) c3 3 [1, 3, 5] [1, 3, 5] y5 (HU37.out.below hb55) (by rw [hy5]; exact si_lit w5 [1, 3, 5] 3) (by decide))
  have HY5 := hid hy5
  have HB8 := hid (HB7.out.trans (hb55.mono HB7.out.size))
  have HU48 := hid (HU47.out.below hb55)
  clear hb HSM HY4 HB6 HU36 HU46 hy5 hb55 HB7 HU37 HU47
  go_wp2_with fail
  rw [← HY5.out]
  refine HSM2.out.mono ?_
  rintro e w6 ⟨rfl, hb⟩
  have HB9 := hid (HB8.out.trans (hb.mono HB8.out.size))
  have HU49 := hid (HU48.out.below hb)
  obtain ⟨y6, hy6⟩ : ∃ y6, y6 = w6.alloc (.cells #[.int .i64 4, .int .i64 3, .int .i64 1, .int .i64 2, .int .i64 0] 3) := ⟨_, rfl⟩
  have hb66 : Below w6.heap.size w6 y6 := by rw [hy6]; exact (Below.refl _ _).alloc (Nat.le_refl _) _
  have HSM3 := hid (refSame_any _ _ a4 (some ⟨w6.heap.size, 0, none⟩) c4 5 [4, 3, 1, 2, 0] [4, 3, 1, 2, 0] y6 (HU49.out.below hb66) (by rw [hy6]; exact si_lit w6 [4, 3, 1, 2, 0] 3) (by decide))
  have HY6 := hid hy6
  have HBA := hid (HB9.out.trans (hb66.mono HB9.out.size))
  clear hb HSM2 HY5 HB8 HU48 hy6 hb66 HB9 HU49
  go_wp2_with fail
  rw [← HY6.out]
  refine HSM3.out.mono ?_
  rintro e w7 ⟨rfl, hb⟩
  have HBB := hid (HBA.out.trans (hb.mono HBA.out.size))
  clear hb HSM3 HY6 HBA
  go_wp2_with fail
  go_ret
  exact ⟨rfl, HBB.out⟩
end Go.Proofs.Ytdobjlaggdnphaa
