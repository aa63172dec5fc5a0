/- WHAT IS ASKED OF THE PROGRAM'S CALLS (layer 15): their contracts, in one place, to be proved of what lands. -/
import Derived.Test.YtclpoconppmapaaSfC
import Derived.Test.YtclpoconppmapaaSfD
namespace Go.Inc
open Go.RowKit
/-- A slice of these integers. -/
def So (ok : Nat → Prop) (w : World) (v : Value) (zs : List Int) : Prop := ∃ a c, v = .slice a zs.length c ∧ Si ok w a zs ∧ zs.length ≤ c ∧ c ≤ maxLen ∧ (a = none → c = 0)
def i64s (z : Int) : Prop := -9223372036854775808 ≤ z ∧ z ≤ 9223372036854775807
instance (z : Int) : Decidable (i64s z) := inferInstanceAs (Decidable (_ ∧ _))
/-- How much neighbours begin with alike. -/
def cmsT (x : List Int) (l : List Nat) : List Nat := (List.range l.length).map fun i => if i = 0 then 0 else cmT x (l.getD (i - 1) 0) (l.getD i 0)
/-- The piece at a first S. -/
def pcT (x : List Int) (a : Nat) : List Int :=
  (x.drop a).take ((if (fsT x x.length).idxOf a + 1 < (fsT x x.length).length then (fsT x x.length).getD ((fsT x x.length).idxOf a + 1) 0 + 1 else x.length) - a)
theorem So.below {ok : Nat → Prop} {w w' : World} {v : Value} {zs : List Int} (h : So ok w v zs) (hb : Below w.heap.size w w') : So ok w' v zs := by
  obtain ⟨a, c, h1, h2, h3⟩ := h
  exact ⟨a, c, h1, h2.below hb, h3⟩
theorem So.mono {ok ok' : Nat → Prop} {w : World} {v : Value} {zs : List Int} (h : So ok w v zs) (hk : ∀ b, ok b → b < w.heap.size → ok' b) : So ok' w v zs := by
  obtain ⟨a, c, h1, h2, h3⟩ := h
  exact ⟨a, c, h1, h2.mono hk, h3⟩
theorem So.ownedN {w : World} {B n : Nat} {v : Value} {l : List Nat} {e : TypeId} (h : w.ownsRow B e 1 v n (nvals l)) : So (fun b => B ≤ b) w v (zsN l) := by
  obtain ⟨a, c, h1, -, h3, h4, h5, h6⟩ := Si.ownedN h
  exact ⟨a, c, by rw [zsN_len]; exact h1, h6, by rw [zsN_len]; exact h4, h5, h3⟩
end Go.Inc
namespace Go.Proofs.Ytclpoconppmapaa
open Go.RowKit Go.Inc
structure PS : Prop where
  pCheck : ∀ (ok : Nat → Prop) (w : World) (v : Value) (zs : List Int), So ok w v zs → zs.length ≤ 65536 → (∀ z ∈ zs, i64s z) →
    Calls Try.prog 16 #[v] w fun e w' => e = .returned (.int .i64 ((ckT zs : Nat) : Int)) ∧ Below w.heap.size w w'
  pKinds : ∀ (ok : Nat → Prop) (w : World) (v : Value) (zs : List Int), So ok w v zs → zs.length ≤ 65536 → ckT zs = 0 →
    Calls Try.prog 10 #[v] w fun e w' => ∃ u cu, e = .returned (.tuple #[.slice u zs.length cu, .int .i64 0]) ∧ Bl (fun g => w.heap.size ≤ g) w' u (kdTo zs zs.length) ∧ Below w.heap.size w w'
  pKindsE : ∀ (ok : Nat → Prop) (w : World) (v : Value) (zs : List Int), So ok w v zs → zs.length ≤ 65536 → (∀ z ∈ zs, i64s z) → ckT zs ≠ 0 →
    Calls Try.prog 10 #[v] w fun e w' => ∃ u, e = .returned (.tuple #[u, .int .i64 ((ckT zs : Nat) : Int)]) ∧ Below w.heap.size w w'
  pFirsts : ∀ (ok : Nat → Prop) (w : World) (v : Value) (zs : List Int), So ok w v zs → zs.length ≤ 65536 → ckT zs = 0 →
    Calls Try.prog 11 #[v] w fun e w' => ∃ u, e = .returned (.tuple #[u, .int .i64 0]) ∧ So (fun g => w.heap.size ≤ g) w' u (zsN (fsT zs zs.length)) ∧ Below w.heap.size w w'
  pFirstsE : ∀ (ok : Nat → Prop) (w : World) (v : Value) (zs : List Int), So ok w v zs → zs.length ≤ 65536 → (∀ z ∈ zs, i64s z) → ckT zs ≠ 0 →
    Calls Try.prog 11 #[v] w fun e w' => ∃ u, e = .returned (.tuple #[u, .int .i64 ((ckT zs : Nat) : Int)]) ∧ Below w.heap.size w w'
  pLess : ∀ (ok : Nat → Prop) (w : World) (v : Value) (zs : List Int) (a b : Nat), So ok w v zs → zs.length ≤ 65536 → ckT zs = 0 → a < zs.length → b < zs.length →
    Calls Try.prog 12 #[v, .int .i64 (a : Int), .int .i64 (b : Int)] w fun e w' => e = .returned (.tuple #[.bool (lsT zs a b), .int .i64 0]) ∧ Below w.heap.size w w'
  pLessR : ∀ (ok : Nat → Prop) (w : World) (v : Value) (zs : List Int) (a b : Int), So ok w v zs → zs.length ≤ 65536 → ckT zs = 0 → i64s a → i64s b → ¬ ((0 ≤ a ∧ a < zs.length) ∧ 0 ≤ b ∧ b < zs.length) →
    Calls Try.prog 12 #[v, .int .i64 a, .int .i64 b] w fun e w' => ∃ u, e = .returned (.tuple #[u, .int .i64 10]) ∧ Below w.heap.size w w'
  pLessE : ∀ (ok : Nat → Prop) (w : World) (v : Value) (zs : List Int) (a b : Int), So ok w v zs → zs.length ≤ 65536 → (∀ z ∈ zs, i64s z) → ckT zs ≠ 0 → i64s a → i64s b →
    Calls Try.prog 12 #[v, .int .i64 a, .int .i64 b] w fun e w' => ∃ u, e = .returned (.tuple #[u, .int .i64 ((ckT zs : Nat) : Int)]) ∧ Below w.heap.size w w'
  pSort : ∀ (ok : Nat → Prop) (w : World) (v : Value) (zs : List Int), So ok w v zs → zs.length ≤ 65536 → ckT zs = 0 →
    Calls Try.prog 13 #[v] w fun e w' => ∃ u, e = .returned (.tuple #[u, .int .i64 0]) ∧ So (fun g => w.heap.size ≤ g) w' u (zsN (srT zs zs.length)) ∧ Below w.heap.size w w'
  pSortE : ∀ (ok : Nat → Prop) (w : World) (v : Value) (zs : List Int), So ok w v zs → zs.length ≤ 65536 → (∀ z ∈ zs, i64s z) → ckT zs ≠ 0 →
    Calls Try.prog 13 #[v] w fun e w' => ∃ u, e = .returned (.tuple #[u, .int .i64 ((ckT zs : Nat) : Int)]) ∧ Below w.heap.size w w'
  pRight : ∀ (ok ok' : Nat → Prop) (w : World) (v v' : Value) (zs ls : List Int), So ok w v zs → So ok' w v' ls → zs.length ≤ 65536 → (∀ z ∈ zs, i64s z) → ls.length ≤ 65536 → (∀ z ∈ ls, i64s z) →
    Calls Try.prog 19 #[v, v'] w fun e w' => e = .returned (.bool (decide (ckT zs = 0 ∧ ls = zsN (srT zs zs.length)))) ∧ Below w.heap.size w w'
  pCommon : ∀ (ok : Nat → Prop) (w : World) (v : Value) (zs : List Int) (a b : Nat), So ok w v zs → zs.length ≤ 65536 → ckT zs = 0 → a < zs.length → b < zs.length →
    Calls Try.prog 14 #[v, .int .i64 (a : Int), .int .i64 (b : Int)] w fun e w' => e = .returned (.tuple #[.int .i64 ((cmT zs a b : Nat) : Int), .int .i64 0]) ∧ Below w.heap.size w w'
  pCommonR : ∀ (ok : Nat → Prop) (w : World) (v : Value) (zs : List Int) (a b : Int), So ok w v zs → zs.length ≤ 65536 → ckT zs = 0 → i64s a → i64s b → ¬ ((0 ≤ a ∧ a < zs.length) ∧ 0 ≤ b ∧ b < zs.length) →
    Calls Try.prog 14 #[v, .int .i64 a, .int .i64 b] w fun e w' => ∃ u, e = .returned (.tuple #[u, .int .i64 10]) ∧ Below w.heap.size w w'
  pCommonE : ∀ (ok : Nat → Prop) (w : World) (v : Value) (zs : List Int) (a b : Int), So ok w v zs → zs.length ≤ 65536 → (∀ z ∈ zs, i64s z) → ckT zs ≠ 0 → i64s a → i64s b →
    Calls Try.prog 14 #[v, .int .i64 a, .int .i64 b] w fun e w' => ∃ u, e = .returned (.tuple #[u, .int .i64 ((ckT zs : Nat) : Int)]) ∧ Below w.heap.size w w'
  pCommons : ∀ (ok ok' : Nat → Prop) (w : World) (v v' : Value) (zs : List Int), So ok w v zs → So ok' w v' (zsN (srT zs zs.length)) → zs.length ≤ 65536 → ckT zs = 0 →
    Calls Try.prog 17 #[v, v'] w fun e w' => ∃ u, e = .returned (.tuple #[u, .int .i64 0]) ∧ So (fun g => w.heap.size ≤ g) w' u (zsN (cmsT zs (srT zs zs.length))) ∧ Below w.heap.size w w'
  pCommonsF : ∀ (ok ok' : Nat → Prop) (w : World) (v v' : Value) (zs ls : List Int), So ok w v zs → So ok' w v' ls → zs.length ≤ 65536 → ckT zs = 0 → ls.length ≤ 65536 → (∀ z ∈ ls, i64s z) → ls ≠ zsN (srT zs zs.length) →
    Calls Try.prog 17 #[v, v'] w fun e w' => ∃ u, e = .returned (.tuple #[u, .int .i64 3]) ∧ Below w.heap.size w w'
  pCommonsE : ∀ (ok ok' : Nat → Prop) (w : World) (v v' : Value) (zs ls : List Int), So ok w v zs → So ok' w v' ls → zs.length ≤ 65536 → (∀ z ∈ zs, i64s z) → ckT zs ≠ 0 → ls.length ≤ 65536 → (∀ z ∈ ls, i64s z) →
    Calls Try.prog 17 #[v, v'] w fun e w' => ∃ u, e = .returned (.tuple #[u, .int .i64 ((ckT zs : Nat) : Int)]) ∧ Below w.heap.size w w'
  pPiece : ∀ (ok : Nat → Prop) (w : World) (v : Value) (zs : List Int) (a : Nat), So ok w v zs → zs.length ≤ 65536 → ckT zs = 0 → a ∈ fsT zs zs.length →
    Calls Try.prog 15 #[v, .int .i64 (a : Int)] w fun e w' => ∃ u, e = .returned (.tuple #[u, .int .i64 0]) ∧ So (fun g => w.heap.size ≤ g) w' u (pcT zs a) ∧ Below w.heap.size w w'
  pPieceN : ∀ (ok : Nat → Prop) (w : World) (v : Value) (zs : List Int) (a : Nat), So ok w v zs → zs.length ≤ 65536 → ckT zs = 0 → a < zs.length → a ∉ fsT zs zs.length →
    Calls Try.prog 15 #[v, .int .i64 (a : Int)] w fun e w' => ∃ u, e = .returned (.tuple #[u, .int .i64 7]) ∧ Below w.heap.size w w'
  pPieceR : ∀ (ok : Nat → Prop) (w : World) (v : Value) (zs : List Int) (a : Int), So ok w v zs → zs.length ≤ 65536 → ckT zs = 0 → i64s a → ¬ (0 ≤ a ∧ a < zs.length) →
    Calls Try.prog 15 #[v, .int .i64 a] w fun e w' => ∃ u, e = .returned (.tuple #[u, .int .i64 10]) ∧ Below w.heap.size w w'
  pPieceE : ∀ (ok : Nat → Prop) (w : World) (v : Value) (zs : List Int) (a : Int), So ok w v zs → zs.length ≤ 65536 → (∀ z ∈ zs, i64s z) → ckT zs ≠ 0 → i64s a →
    Calls Try.prog 15 #[v, .int .i64 a] w fun e w' => ∃ u, e = .returned (.tuple #[u, .int .i64 ((ckT zs : Nat) : Int)]) ∧ Below w.heap.size w w'
  pTurned : ∀ (ok : Nat → Prop) (w : World) (v : Value) (zs : List Int), So ok w v zs → zs.length ≤ 65536 → (∀ z ∈ zs, i64s z) → okT zs →
    Calls Try.prog 27 #[v] w fun e w' => ∃ u, e = .returned (.tuple #[u, .int .i64 0]) ∧ So (fun g => w.heap.size ≤ g) w' u (zsN (tnT zs)) ∧ Below w.heap.size w w'
  pTurnedBad : ∀ (ok : Nat → Prop) (w : World) (v : Value) (zs : List Int), So ok w v zs → zs.length ≤ 65536 → (∀ z ∈ zs, i64s z) → ¬ okT zs →
    Calls Try.prog 27 #[v] w fun e w' => ∃ a c, e = .returned (.tuple #[.slice a 0 c, .int .i64 3]) ∧ Below w.heap.size w w'
end Go.Proofs.Ytclpoconppmapaa
