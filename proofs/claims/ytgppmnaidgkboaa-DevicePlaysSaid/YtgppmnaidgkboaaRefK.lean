/- THE TWO DEVICES IN ONE MEMORY. -/
import Derived.Test.YtgppmnaidgkboaaRefJ
import Derived.Test.YtgppmnaidgkboaaSame
namespace Go.Proofs.Ytgppmnaidgkboaa
open Go.RowKit Go.Inc

structure Two (W w : World) (g h p n : Nat) (C K : Nat → Nat) (S : St) (R : Rs) : Prop where
  dv : Dv C w g p n S
  rp : Rp K w h p R
  dis : ∀ b, C b = 0 ∨ K b = 0
  low : ∀ b, b < W.heap.size → C b = 0 ∧ K b = 0
  bel : Below W.heap.size W w
section
variable {W w w' : World} {g h p n n' : Nat} {C K C' K' : Nat → Nat} {S S' : St} {R R' : Rs}
theorem Two.keep (T : Two W w g h p n C K S R) {F : Nat → Prop} (hm : Mv F w w') (hF : ∀ b, F b → C b = 0 ∧ K b = 0 ∧ W.heap.size ≤ b) : Two W w' g h p n C K S R :=
  { T with dv := T.dv.keep hm fun b hb => (hF b hb).1, rp := T.rp.keep hm fun b hb => (hF b hb).2.1, bel := T.bel.trans (hm.below T.bel.size fun b hb => (hF b hb).2.2) }
theorem Two.quiet (T : Two W w g h p n C K S R) (hb : Below w.heap.size w w') : Two W w' g h p n C K S R := T.keep (Mv.of_below (F := fun _ => False) hb) fun _ h => h.elim
theorem Two.stepD (T : Two W w g h p n C K S R) (hd : Dv C' w' g p n' S') (he : Ext w C C') (hm : Mv (fun b => C b ≠ 0) w w') : Two W w' g h p n' C' K S' R where
  dv := hd
  rp := T.rp.keep hm fun b hb => (T.dis b).resolve_left hb
  dis := fun b => by
    by_cases hlt : b < w.heap.size
    · rw [he b hlt]; exact T.dis b
    · exact .inr (T.rp.new (by omega))
  low := fun b hb => by
    have h1 := T.low b hb
    rw [he b (Nat.lt_of_lt_of_le hb T.bel.size)]
    exact h1
  bel := T.bel.trans (hm.below T.bel.size fun b hb => by
    by_cases hlt : b < W.heap.size
    · exact absurd (T.low b hlt).1 hb
    · omega)
theorem Two.stepR (T : Two W w g h p n C K S R) (hr : Rp K' w' h p R') (he : ∀ b, b < w.heap.size → K' b = K b) (hm : Mv (fun b => K b ≠ 0) w w') : Two W w' g h p n C K' S R' where
  dv := T.dv.keep hm fun b hb => (T.dis b).resolve_right hb
  rp := hr
  dis := fun b => by
    by_cases hlt : b < w.heap.size
    · rw [he b hlt]; exact T.dis b
    · exact .inl (T.dv.new (by omega))
  low := fun b hb => by
    have h1 := T.low b hb
    rw [he b (Nat.lt_of_lt_of_le hb T.bel.size)]
    exact h1
  bel := T.bel.trans (hm.below T.bel.size fun b hb => by
    by_cases hlt : b < W.heap.size
    · exact absurd (T.low b hlt).2 hb
    · omega)
/-- A block that neither owns. -/
def Free (w : World) (C K : Nat → Nat) (b : Nat) : Prop := b < w.heap.size ∧ C b = 0 ∧ K b = 0
theorem Two.free (T : Two W w g h p n C K S R) {b : Nat} (h0 : w.heap.size ≤ b) : C b = 0 ∧ K b = 0 := ⟨T.dv.new h0, T.rp.new h0⟩
/-- How far the document's counts are. -/
def Bd (j : Nat) (R : Rs) : Prop := R.L.length ≤ j ∧ R.r ≤ j ∧ R.s ≤ j ∧ R.t ≤ j
theorem Bd.write {j : Nat} (H : Bd j R) (x : Int) (bs : List Nat) : Bd (j + 1) (rw' p R x bs).2 := by
  obtain ⟨h1, h2, h3, h4⟩ := H
  unfold rw' Bd
  split
  · simp only; omega
  · split
    · simp only; omega
    · split
      · simp only; omega
      · split <;> (try simp only [List.length_append, List.length_cons, List.length_nil]) <;> omega
theorem Bd.sync {j : Nat} (H : Bd j R) : Bd (j + 1) (rsy R).2 := by
  obtain ⟨h1, h2, h3, h4⟩ := H
  unfold rsy Bd
  split
  · simp only; omega
  · split <;> (try simp only [List.length_nil]) <;> omega
theorem Bd.read {j : Nat} (H : Bd j R) (x : Int) : Bd (j + 1) (rre p R x).2.2 := by
  obtain ⟨h1, h2, h3, h4⟩ := H
  unfold rre Bd
  split
  · simp only; omega
  · split <;> (try simp only) <;> omega
theorem Bd.more {j : Nat} (H : Bd j R) : Bd (j + 1) R := by
  obtain ⟨h1, h2, h3, h4⟩ := H
  unfold Bd; omega
theorem Bd.gone {j : Nat} (H : Bd j R) (P : List (List Nat)) (o : Bool) (l : Int) : Bd (j + 1) { R with P := P, L := [], off := o, left := l } := by
  obtain ⟨h1, h2, h3, h4⟩ := H
  unfold Bd
  simp only [List.length_nil]; omega
end
theorem two_new {W w1 w2 : World} {C K : Nat → Nat} {g h p : Nat} (hb1 : Below W.heap.size W w1) (hd : Dv C w1 g p 0 (fresh (List.replicate (256 * p) 0))) (hC : ∀ b, C b ≠ 0 → W.heap.size ≤ b)
    (hr : Rf K w2 h (rfresh p)) (hb2 : Below w1.heap.size w1 w2) (hK : ∀ b, K b ≠ 0 → w1.heap.size ≤ b) (hp : 0 < p ∧ p ≤ 20) : Two W w2 g h p 0 C K (fresh (List.replicate (256 * p) 0)) (rfresh p) ∧ Eqv p (fresh (List.replicate (256 * p) 0)) (rfresh p) ∧ Bd 0 (rfresh p) := by
  obtain ⟨ldv, llv, P, L, h1⟩ := hr
  have hpl : P.length = p := by rw [← h1.plen]; show (List.replicate p _).length = p; rw [List.length_replicate]
  refine ⟨⟨hd.below hb2, ⟨_, _, _, _, h1, hpl, hp.1, hp.2⟩, fun b => ?_, fun b hb => ⟨?_, ?_⟩, hb1.trans (hb2.mono hb1.size)⟩, ⟨rfl, fun k hk => ?_, fun _ => rfl, .inr ⟨rfl, (by decide : (-1 : Int) < 0)⟩, rfl, rfl, rfl⟩, ⟨Nat.le_refl _, Int.le_refl _, Int.le_refl _, Int.le_refl _⟩⟩
  · by_cases h0 : K b = 0
    · exact .inr h0
    · exact .inl (hd.new (hK b h0))
  · by_cases h0 : C b = 0
    · exact h0
    · have := hC b h0; omega
  · by_cases h0 : K b = 0
    · exact h0
    · have h2 := hK b h0; have h3 := hb1.size; omega
  · show pg (List.replicate (256 * p) 0) k = (List.replicate p (List.replicate 256 0)).getD k []
    rw [List.getD_eq_getElem?_getD, List.getElem?_replicate, if_pos hk]
    unfold pg
    rw [List.drop_replicate, List.take_replicate]
    show _ = List.replicate 256 0
    congr 1
    omega
end Go.Proofs.Ytgppmnaidgkboaa
