/- WHAT IS ASKED OF THE PROGRAM'S CALLS (layer 16): their contracts, in one place, to be proved of what lands. -/
import Derived.Test.YtdobjlaggdnphaaInI
import Derived.Test.YtdobjlaggdnphaaInK
namespace Go.Inc
open Go.RowKit
/-- Heads and tails of all codes' buckets. -/
def hdsT (x : List Int) : List Nat := (List.range (grT x x.length + 1)).map fun s => hdC x.length (cdT x) s
def tlsT (x : List Int) : List Nat := (List.range (grT x x.length + 1)).map fun s => hdC x.length (cdT x) (s + 1)
/-- These are the first Ss. -/
def isFsI (x ls : List Int) : Prop := ∃ fs, ls = zsN fs ∧ isFs x fs
/-- First Ss, ordered so. -/
def bkT (x : List Int) (l : List Nat) : List Nat := l.map fun k => (fsT x x.length).getD k 0
end Go.Inc
namespace Go.Proofs.Ytdobjlaggdnphaa
open Go.RowKit Go.Inc
structure PI16 : Prop where
  pHeads : ∀ (ok : Nat → Prop) (w : World) (v : Value) (zs : List Int), So ok w v zs → zs.length ≤ 65536 → ckT zs = 0 →
    Calls Try.prog 9 #[v] w fun e w' => ∃ u, e = .returned (.tuple #[u, .int .i64 0]) ∧ So (fun g => w.heap.size ≤ g) w' u (zsN (hdsT zs)) ∧ Below w.heap.size w w'
  pHeadsE : ∀ (ok : Nat → Prop) (w : World) (v : Value) (zs : List Int), So ok w v zs → zs.length ≤ 65536 → (∀ z ∈ zs, i64s z) → ckT zs ≠ 0 →
    Calls Try.prog 9 #[v] w fun e w' => ∃ u, e = .returned (.tuple #[u, .int .i64 ((ckT zs : Nat) : Int)]) ∧ Below w.heap.size w w'
  pTails : ∀ (ok : Nat → Prop) (w : World) (v : Value) (zs : List Int), So ok w v zs → zs.length ≤ 65536 → ckT zs = 0 →
    Calls Try.prog 10 #[v] w fun e w' => ∃ u, e = .returned (.tuple #[u, .int .i64 0]) ∧ So (fun g => w.heap.size ≤ g) w' u (zsN (tlsT zs)) ∧ Below w.heap.size w w'
  pTailsE : ∀ (ok : Nat → Prop) (w : World) (v : Value) (zs : List Int), So ok w v zs → zs.length ≤ 65536 → (∀ z ∈ zs, i64s z) → ckT zs ≠ 0 →
    Calls Try.prog 10 #[v] w fun e w' => ∃ u, e = .returned (.tuple #[u, .int .i64 ((ckT zs : Nat) : Int)]) ∧ Below w.heap.size w w'
  pInduce : ∀ (ok ok' : Nat → Prop) (w : World) (v v' : Value) (zs : List Int) (fs : List Nat), So ok w v zs → So ok' w v' (zsN fs) → zs.length ≤ 65536 → ckT zs = 0 → isFs zs fs →
    Calls Try.prog 16 #[v, v'] w fun e w' => ∃ u, e = .returned (.tuple #[u, .int .i64 0]) ∧ So (fun g => w.heap.size ≤ g) w' u (zsN (indT zs fs)) ∧ Below w.heap.size w w'
  pInduceF : ∀ (ok ok' : Nat → Prop) (w : World) (v v' : Value) (zs ls : List Int), So ok w v zs → So ok' w v' ls → zs.length ≤ 65536 → ckT zs = 0 → ls.length ≤ 65536 → (∀ z ∈ ls, i64s z) → ¬ isFsI zs ls →
    Calls Try.prog 16 #[v, v'] w fun e w' => ∃ u, e = .returned (.tuple #[u, .int .i64 3]) ∧ Below w.heap.size w w'
  pInduceE : ∀ (ok ok' : Nat → Prop) (w : World) (v v' : Value) (zs ls : List Int), So ok w v zs → So ok' w v' ls → zs.length ≤ 65536 → (∀ z ∈ zs, i64s z) → ckT zs ≠ 0 → ls.length ≤ 65536 → (∀ z ∈ ls, i64s z) →
    Calls Try.prog 16 #[v, v'] w fun e w' => ∃ u, e = .returned (.tuple #[u, .int .i64 ((ckT zs : Nat) : Int)]) ∧ Below w.heap.size w w'
  pNames : ∀ (ok ok' : Nat → Prop) (w : World) (v v' : Value) (zs : List Int) (l : List Nat), So ok w v zs → So ok' w v' (zsN l) → zs.length ≤ 65536 → ckT zs = 0 → okT (zsN l) → l.length = zs.length →
    Calls Try.prog 19 #[v, v'] w fun e w' => ∃ u, e = .returned (.tuple #[u, .int .i64 ((ncT zs l : Nat) : Int), .int .i64 0]) ∧ So (fun g => w.heap.size ≤ g) w' u (zsN (nmT zs l)) ∧ Below w.heap.size w w'
  pNamesF : ∀ (ok ok' : Nat → Prop) (w : World) (v v' : Value) (zs ls : List Int), So ok w v zs → So ok' w v' ls → zs.length ≤ 65536 → ckT zs = 0 → ls.length ≤ 65536 → (∀ z ∈ ls, i64s z) → ¬ (okT ls ∧ ls.length = zs.length) →
    Calls Try.prog 19 #[v, v'] w fun e w' => ∃ u m, e = .returned (.tuple #[u, m, .int .i64 3]) ∧ Below w.heap.size w w'
  pNamesE : ∀ (ok ok' : Nat → Prop) (w : World) (v v' : Value) (zs ls : List Int), So ok w v zs → So ok' w v' ls → zs.length ≤ 65536 → (∀ z ∈ zs, i64s z) → ckT zs ≠ 0 → ls.length ≤ 65536 → (∀ z ∈ ls, i64s z) →
    Calls Try.prog 19 #[v, v'] w fun e w' => ∃ u m, e = .returned (.tuple #[u, m, .int .i64 ((ckT zs : Nat) : Int)]) ∧ Below w.heap.size w w'
  pReduced : ∀ (ok : Nat → Prop) (w : World) (v : Value) (zs : List Int), So ok w v zs → zs.length ≤ 65536 → ckT zs = 0 →
    Calls Try.prog 23 #[v] w fun e w' => ∃ u, e = .returned (.tuple #[u, .int .i64 0]) ∧ So (fun g => w.heap.size ≤ g) w' u (rdT zs) ∧ Below w.heap.size w w'
  pReducedE : ∀ (ok : Nat → Prop) (w : World) (v : Value) (zs : List Int), So ok w v zs → zs.length ≤ 65536 → (∀ z ∈ zs, i64s z) → ckT zs ≠ 0 →
    Calls Try.prog 23 #[v] w fun e w' => ∃ u, e = .returned (.tuple #[u, .int .i64 ((ckT zs : Nat) : Int)]) ∧ Below w.heap.size w w'
  pBack : ∀ (ok ok' : Nat → Prop) (w : World) (v v' : Value) (zs : List Int) (l : List Nat), So ok w v zs → So ok' w v' (zsN l) → zs.length ≤ 65536 → ckT zs = 0 → okT (zsN l) → l.length = (fsT zs zs.length).length →
    Calls Try.prog 26 #[v, v'] w fun e w' => ∃ u, e = .returned (.tuple #[u, .int .i64 0]) ∧ So (fun g => w.heap.size ≤ g) w' u (zsN (bkT zs l)) ∧ Below w.heap.size w w'
  pBackF : ∀ (ok ok' : Nat → Prop) (w : World) (v v' : Value) (zs ls : List Int), So ok w v zs → So ok' w v' ls → zs.length ≤ 65536 → ckT zs = 0 → ls.length ≤ 65536 → (∀ z ∈ ls, i64s z) → ¬ (okT ls ∧ ls.length = (fsT zs zs.length).length) →
    Calls Try.prog 26 #[v, v'] w fun e w' => ∃ u, e = .returned (.tuple #[u, .int .i64 3]) ∧ Below w.heap.size w w'
  pBackE : ∀ (ok ok' : Nat → Prop) (w : World) (v v' : Value) (zs ls : List Int), So ok w v zs → So ok' w v' ls → zs.length ≤ 65536 → (∀ z ∈ zs, i64s z) → ckT zs ≠ 0 → ls.length ≤ 65536 → (∀ z ∈ ls, i64s z) →
    Calls Try.prog 26 #[v, v'] w fun e w' => ∃ u, e = .returned (.tuple #[u, .int .i64 ((ckT zs : Nat) : Int)]) ∧ Below w.heap.size w w'
end Go.Proofs.Ytdobjlaggdnphaa
