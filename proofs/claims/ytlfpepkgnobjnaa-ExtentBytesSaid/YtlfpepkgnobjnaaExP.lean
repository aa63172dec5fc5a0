/- WHAT IS ASKED OF THE PROGRAM'S CALLS: their contracts, in one place (to be proved of what lands). -/
import Derived.Test.YtlfpepkgnobjnaaExTell
namespace Go.Proofs.Ytlfpepkgnobjnaa
open Go.RowKit Go.Inc
structure PX : Prop where
  pCheck : ∀ (ok : Nat → Prop) (a : Option Addr) (c : Nat) (xs : List Xt) (w : World), XtS ok w a xs → (xs.length : Int) ≤ 65536 → (∀ x ∈ xs, fitsX x) →
    Calls Try.prog 11 #[.slice a xs.length c] w fun e w' => e = .returned (.int .i64 (chkX xs)) ∧ Below w.heap.size w w'
  pOf : ∀ (ok : Nat → Prop) (a : Option Addr) (c : Nat) (ps : List Int) (w : World), Si ok w a ps → (ps.length : Int) ≤ 65536 → (∀ z ∈ ps, -9223372036854775808 ≤ z ∧ z ≤ 9223372036854775807) →
    Calls Try.prog 6 #[.slice a ps.length c] w fun e w' => (∃ v, e = .returned (.tuple #[v, .int .i64 (ofE ps)]) ∧ w'.ownsRow w.heap.size 57 2 v (ofX ps).length (xcells (ofX ps))) ∧ Below w.heap.size w w'
  pPages : ∀ (ok : Nat → Prop) (a : Option Addr) (c : Nat) (xs : List Xt) (w : World), XtS ok w a xs → (xs.length : Int) ≤ 65536 → (∀ x ∈ xs, fitsX x) →
    Calls Try.prog 13 #[.slice a xs.length c] w fun e w' => (∃ v, e = .returned v ∧ w'.ownsRow w.heap.size 3 1 v (pgX xs).length (zvals (pgX xs))) ∧ Below w.heap.size w w'
  pCount : ∀ (ok : Nat → Prop) (a : Option Addr) (c : Nat) (xs : List Xt) (w : World), XtS ok w a xs → (xs.length : Int) ≤ 65536 → (∀ x ∈ xs, fitsX x) →
    Calls Try.prog 14 #[.slice a xs.length c] w fun e w' => e = .returned (.int .i64 (pgX xs).length) ∧ Below w.heap.size w w'
  pAt : ∀ (ok : Nat → Prop) (a : Option Addr) (c : Nat) (xs : List Xt) (i : Int) (w : World), XtS ok w a xs → (xs.length : Int) ≤ 65536 → (∀ x ∈ xs, fitsX x) → (-9223372036854775808 ≤ i ∧ i ≤ 9223372036854775807) →
    Calls Try.prog 17 #[.slice a xs.length c, .int .i64 i] w fun e w' => (∃ p, e = .returned (.tuple #[.int .i64 p, .int .i64 (atE xs i)]) ∧ (atE xs i = 0 → p = (pagesX xs).getD i.toNat 0)) ∧ Below w.heap.size w w'
  pFind : ∀ (ok : Nat → Prop) (a : Option Addr) (c : Nat) (xs : List Xt) (page : Int) (w : World), XtS ok w a xs → (xs.length : Int) ≤ 65536 → (∀ x ∈ xs, fitsX x) → (-9223372036854775808 ≤ page ∧ page ≤ 9223372036854775807) →
    Calls Try.prog 18 #[.slice a xs.length c, .int .i64 page] w fun e w' => (∃ k, e = .returned (.tuple #[.int .i64 k, .int .i64 (fdE xs page)]) ∧ (fdE xs page = 0 → k = ((pagesX xs).idxOf page : Int))) ∧ Below w.heap.size w w'
  pPart : ∀ (ok : Nat → Prop) (a : Option Addr) (c : Nat) (xs : List Xt) (i j : Int) (w : World), XtS ok w a xs → (xs.length : Int) ≤ 65536 → (∀ x ∈ xs, fitsX x) → (-9223372036854775808 ≤ i ∧ i ≤ 9223372036854775807) → (-9223372036854775808 ≤ j ∧ j ≤ 9223372036854775807) →
    Calls Try.prog 19 #[.slice a xs.length c, .int .i64 i, .int .i64 j] w fun e w' => (∃ v, e = .returned (.tuple #[v, .int .i64 (ptE xs i j)]) ∧ w'.ownsRow w.heap.size 57 2 v (ptX xs i j).length (xcells (ptX xs i j))) ∧ Below w.heap.size w w'
  pEncode : ∀ (ok : Nat → Prop) (a : Option Addr) (c : Nat) (xs : List Xt) (w : World), XtS ok w a xs → (xs.length : Int) ≤ 30000 → (∀ x ∈ xs, fitsX x) →
    Calls Try.prog 21 #[.slice a xs.length c] w fun e w' => (∃ v, e = .returned (.tuple #[v, .int .i64 (chkX xs)]) ∧ Row 5 w.heap.size w' v (if chkX xs = 0 then encX xs else [])) ∧ Below w.heap.size w w'
  pDecode : ∀ (ok : Nat → Prop) (a : Option Addr) (c : Nat) (bs : List Nat) (w : World), Sl ok w a bs → (bs.length ≤ c ∧ c ≤ maxLen) → (a = none → c = 0) → Bytes bs → bs.length ≤ 65536 →
    Calls Try.prog 22 #[.slice a bs.length c] w fun e w' => (∃ v u, e = .returned (.tuple #[v, u, .int .i64 (decE bs)]) ∧ w'.ownsRow w.heap.size 57 2 v (decX bs).length (xcells (decX bs)) ∧ Row 5 w.heap.size w' u (decR bs)) ∧ Below w.heap.size w w'
end Go.Proofs.Ytlfpepkgnobjnaa
