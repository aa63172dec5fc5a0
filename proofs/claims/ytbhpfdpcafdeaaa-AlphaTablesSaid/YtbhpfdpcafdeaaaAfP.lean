/- WHAT IS ASKED OF THE PROGRAM'S CALLS (layer 14): their contracts, in one place, to be proved of what lands. A table doesn't turn. -/
import Derived.Test.YtbhpfdpcafdeaaaAfB
import Derived.Test.YtbhpfdpcafdeaaaAfL
namespace Go.Inc
open Go.RowKit
/-- A symbol's code in a list of symbols. -/
def codeT (ss : List Nat) (z : Int) : Nat := ss.idxOf z.toNat
end Go.Inc
namespace Go.Proofs.Ytbhpfdpcafdeaaa
open Go.RowKit Go.Inc
def i64a (z : Int) : Prop := -9223372036854775808 ≤ z ∧ z ≤ 9223372036854775807
instance (z : Int) : Decidable (i64a z) := inferInstanceAs (Decidable (_ ∧ _))
structure PA (Tb : World → Nat → List Nat → List Nat → Prop) : Prop where
  below : ∀ {w w' b ss cs}, Tb w b ss cs → Below w.heap.size w w' → Tb w' b ss cs
  pText : ∀ (ok : Nat → Prop) (w : World) (a : Option Addr) (c : Nat) (ds : List (List Nat)), Pt ok w a ds → (txtD ds).length ≤ 65535 →
    Calls Try.prog 8 #[.slice a ds.length c] w fun e w' => ∃ u cu, e = .returned (.tuple #[.slice u (txtD ds ++ [0]).length cu, .int .i64 0]) ∧ Si (fun g => w.heap.size ≤ g) w' u (nZ (txtD ds ++ [0])) ∧ Below w.heap.size w w' ∧ (txtD ds ++ [0]).length ≤ cu ∧ cu ≤ maxLen
  pNew : ∀ (ok : Nat → Prop) (w : World) (a : Option Addr) (c : Nat) (zs : List Int), Si ok w a zs → zs.length ≤ 65536 → (∀ z ∈ zs, 0 ≤ z ∧ z < 258) →
    Calls Try.prog 15 #[.slice a zs.length c] w fun e w' => ∃ b, e = .returned (.tuple #[.pointer (some ⟨b, 0, none⟩), .int .i64 0]) ∧ Tb w' b (symT zs 258) (cntT zs 258) ∧ Below w.heap.size w w'
  pNewBad : ∀ (ok : Nat → Prop) (w : World) (a : Option Addr) (c : Nat) (zs : List Int), Si ok w a zs → zs.length ≤ 65536 → (∀ z ∈ zs, i64a z) → ¬ (∀ z ∈ zs, 0 ≤ z ∧ z < 258) →
    Calls Try.prog 15 #[.slice a zs.length c] w fun e w' => e = .returned (.tuple #[.pointer none, .int .i64 10]) ∧ Below w.heap.size w w'
  pCodes : ∀ (ok : Nat → Prop) (w : World) (b : Nat) (ss cs : List Nat) (a : Option Addr) (c : Nat) (zs : List Int), Tb w b ss cs → Si ok w a zs → zs.length ≤ 65536 → (∀ z ∈ zs, 0 ≤ z ∧ z.toNat ∈ ss) →
    Calls Try.prog 24 #[.pointer (some ⟨b, 0, none⟩), .slice a zs.length c] w fun e w' => ∃ u cu, e = .returned (.tuple #[.slice u zs.length cu, .int .i64 0]) ∧ Si (fun g => w.heap.size ≤ g) w' u (zs.map fun z => (codeT ss z : Int)) ∧ Below w.heap.size w w'
  pSigma : ∀ (w : World) (b : Nat) (ss cs : List Nat), Tb w b ss cs → Calls Try.prog 17 #[.pointer (some ⟨b, 0, none⟩)] w fun e w' => e = .returned (.int .i64 (ss.length : Int)) ∧ Below w.heap.size w w'
  pLen : ∀ (w : World) (b : Nat) (ss cs : List Nat), Tb w b ss cs → Calls Try.prog 18 #[.pointer (some ⟨b, 0, none⟩)] w fun e w' => e = .returned (.int .i64 (cs.sum : Nat)) ∧ Below w.heap.size w w'
  pC : ∀ (w : World) (b : Nat) (ss cs : List Nat) (i : Int), Tb w b ss cs → i64a i → Calls Try.prog 19 #[.pointer (some ⟨b, 0, none⟩), .int .i64 i] w fun e w' => ∃ z, e = .returned (.tuple #[.int .i64 z, .int .i64 (if 0 ≤ i ∧ i ≤ ss.length then 0 else 10)]) ∧ (0 ≤ i ∧ i ≤ ss.length → z = ((cs.take i.toNat).sum : Nat)) ∧ Below w.heap.size w w'
  pSymbol : ∀ (w : World) (b : Nat) (ss cs : List Nat) (i : Int), Tb w b ss cs → i64a i → Calls Try.prog 20 #[.pointer (some ⟨b, 0, none⟩), .int .i64 i] w fun e w' => ∃ z, e = .returned (.tuple #[.int .i64 z, .int .i64 (if 0 ≤ i ∧ i < ss.length then 0 else 7)]) ∧ (0 ≤ i ∧ i < ss.length → z = (ss.getD i.toNat 0 : Nat)) ∧ Below w.heap.size w w'
  pCode : ∀ (w : World) (b : Nat) (ss cs : List Nat) (i : Int), Tb w b ss cs → i64a i → Calls Try.prog 21 #[.pointer (some ⟨b, 0, none⟩), .int .i64 i] w fun e w' => ∃ z, e = .returned (.tuple #[.int .i64 z, .int .i64 (if 0 ≤ i ∧ i.toNat ∈ ss then 0 else 7)]) ∧ (0 ≤ i ∧ i.toNat ∈ ss → z = (codeT ss i : Nat)) ∧ Below w.heap.size w w'
  pCount : ∀ (w : World) (b : Nat) (ss cs : List Nat) (i : Int), Tb w b ss cs → i64a i → Calls Try.prog 22 #[.pointer (some ⟨b, 0, none⟩), .int .i64 i] w fun e w' => e = .returned (.int .i64 (if 0 ≤ i ∧ i < ss.length then ((cs.getD i.toNat 0 : Nat) : Int) else 0)) ∧ Below w.heap.size w w'
  pSymbols : ∀ (ok : Nat → Prop) (w : World) (b : Nat) (ss cs : List Nat) (a : Option Addr) (c : Nat) (zs : List Int), Tb w b ss cs → Si ok w a zs → zs.length ≤ 65536 → (∀ z ∈ zs, 0 ≤ z ∧ z < ss.length) →
    Calls Try.prog 25 #[.pointer (some ⟨b, 0, none⟩), .slice a zs.length c] w fun e w' => ∃ u cu, e = .returned (.tuple #[.slice u zs.length cu, .int .i64 0]) ∧ Si (fun g => w.heap.size ≤ g) w' u (zs.map fun z => ((ss.getD z.toNat 0 : Nat) : Int)) ∧ Below w.heap.size w w'
  pBytes : ∀ (w : World) (b : Nat) (ss cs : List Nat), Tb w b ss cs → Calls Try.prog 29 #[.pointer (some ⟨b, 0, none⟩)] w fun e w' => ∃ u cu, e = .returned (.slice u (listOf (nZ ss) ++ listOf (nZ cs)).length cu) ∧ Sl (fun g => w.heap.size ≤ g) w' u (listOf (nZ ss) ++ listOf (nZ cs)) ∧ Below w.heap.size w w'
  pPattern : ∀ (ok : Nat → Prop) (w : World) (a : Option Addr) (c : Nat) (bs : List Nat), Sl ok w a bs → Bytes bs → bs.length ≤ 65536 → bs.length ≤ c → c ≤ maxLen →
    Calls Try.prog 31 #[.slice a bs.length c] w fun e w' => ∃ u cu, e = .returned (.slice u bs.length cu) ∧ Si (fun g => w.heap.size ≤ g) w' u (nZ (bs.map (· + 2))) ∧ Below w.heap.size w w'
  pDocs : ∀ (ok : Nat → Prop) (w : World) (a : Option Addr) (c : Nat) (zs : List Int) (ds : List (List Nat)), Si ok w a zs → zs.length ≤ c → c ≤ maxLen → zs.length ≤ 65536 → (∀ z ∈ zs, i64a z) → docsR zs [] [] = some ds →
    Calls Try.prog 9 #[.slice a zs.length c] w fun e w' => ∃ u cu, e = .returned (.tuple #[.slice u ds.length cu, .int .i64 0]) ∧ Pt (fun g => w.heap.size ≤ g) w' u ds ∧ Below w.heap.size w w'
  pDocsBad : ∀ (ok : Nat → Prop) (w : World) (a : Option Addr) (c : Nat) (zs : List Int), Si ok w a zs → zs.length ≤ c → c ≤ maxLen → zs.length ≤ 65536 → (∀ z ∈ zs, i64a z) → docsR zs [] [] = none →
    Calls Try.prog 9 #[.slice a zs.length c] w fun e w' => ∃ u cu, e = .returned (.tuple #[.slice u 0 cu, .int .i64 3]) ∧ Below w.heap.size w w'
  pParse : ∀ (ok : Nat → Prop) (w : World) (a : Option Addr) (c : Nat) (bs : List Nat), Sl ok w a bs → (bs.length ≤ c ∧ c ≤ maxLen) → (a = none → c = 0) → Bytes bs → bs.length ≤ 65536 → paE bs = 0 →
    Calls Try.prog 27 #[.slice a bs.length c] w fun e w' => ∃ b u cu, e = .returned (.tuple #[.pointer (some ⟨b, 0, none⟩), .slice u (paR bs).length cu, .int .i64 0]) ∧ Tb w' b (listVals bs) (listVals (listRest bs)) ∧ Sl (fun g => w.heap.size ≤ g) w' u (paR bs) ∧ Below w.heap.size w w'
  pParseBad : ∀ (ok : Nat → Prop) (w : World) (a : Option Addr) (c : Nat) (bs : List Nat), Sl ok w a bs → (bs.length ≤ c ∧ c ≤ maxLen) → (a = none → c = 0) → Bytes bs → bs.length ≤ 65536 → paE bs ≠ 0 →
    Calls Try.prog 27 #[.slice a bs.length c] w fun e w' => ∃ u, e = .returned (.tuple #[.pointer none, u, .int .i64 (paE bs : Nat)]) ∧ Below w.heap.size w w'
  nCode : ∀ (w : World) (i : Int), i64a i → Calls Try.prog 21 #[.pointer none, .int .i64 i] w fun e w' => ∃ v, e = .returned (.tuple #[v, .int .i64 11]) ∧ Below w.heap.size w w'
  nSymbol : ∀ (w : World) (i : Int), i64a i → Calls Try.prog 20 #[.pointer none, .int .i64 i] w fun e w' => ∃ v, e = .returned (.tuple #[v, .int .i64 11]) ∧ Below w.heap.size w w'
  nC : ∀ (w : World) (i : Int), i64a i → Calls Try.prog 19 #[.pointer none, .int .i64 i] w fun e w' => ∃ v, e = .returned (.tuple #[v, .int .i64 11]) ∧ Below w.heap.size w w'
  nCodes : ∀ (ok : Nat → Prop) (w : World) (a : Option Addr) (c : Nat) (zs : List Int), Si ok w a zs → zs.length ≤ 65536 → Calls Try.prog 24 #[.pointer none, .slice a zs.length c] w fun e w' => ∃ v, e = .returned (.tuple #[v, .int .i64 11]) ∧ Below w.heap.size w w'
  nSymbols : ∀ (ok : Nat → Prop) (w : World) (a : Option Addr) (c : Nat) (zs : List Int), Si ok w a zs → zs.length ≤ 65536 → Calls Try.prog 25 #[.pointer none, .slice a zs.length c] w fun e w' => ∃ v, e = .returned (.tuple #[v, .int .i64 11]) ∧ Below w.heap.size w w'
  nSigma : ∀ (w : World), Calls Try.prog 17 #[.pointer none] w fun e w' => e = .returned (.int .i64 0) ∧ Below w.heap.size w w'
  nCount : ∀ (w : World) (i : Int), i64a i → Calls Try.prog 22 #[.pointer none, .int .i64 i] w fun e w' => e = .returned (.int .i64 0) ∧ Below w.heap.size w w'
  nLen : ∀ (w : World), Calls Try.prog 18 #[.pointer none] w fun e w' => e = .returned (.int .i64 0) ∧ Below w.heap.size w w'
  nBytes : ∀ (w : World), Calls Try.prog 29 #[.pointer none] w fun e w' => ∃ a c, e = .returned (.slice a 0 c) ∧ Below w.heap.size w w'
end Go.Proofs.Ytbhpfdpcafdeaaa
