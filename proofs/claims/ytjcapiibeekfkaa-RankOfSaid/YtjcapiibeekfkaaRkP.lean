/- WHAT IS ASKED OF THE PROGRAM'S CALLS (layer 13): their contracts, in one place, to be proved of what lands. A row may turn at a call: its directory is found out once. -/
import Derived.Test.YtjcapiibeekfkaaRkC
import Derived.Test.YtjcapiibeekfkaaBmRf
namespace Go.Inc
open Go.RowKit
/-- The errors. -/
def atE (m : List Bool) (i : Int) : Int := if 0 ≤ i ∧ i < m.length then 0 else 10
def rkE (m : List Bool) (i : Int) : Int := if 0 ≤ i ∧ i ≤ m.length then 0 else 10
def slE (m : List Bool) (one : Bool) (k : Int) : Int := if 0 ≤ k ∧ k < rkB m one m.length then 0 else 7
def ofE (n : Int) (zs : List Int) : Int := if 65536 < n then 2 else if n < 0 then 1 else if ∀ z ∈ zs, 0 ≤ z ∧ z < n then 0 else 10
/-- The places of ones below n. -/
def plcB (m : List Bool) : Nat → List Nat
  | 0 => []
  | n + 1 => if inB m n then plcB m n ++ [n] else plcB m n
/-- Reading a row. -/
def prN (bs : List Nat) : Nat := Var.val 9223372036854775807 bs
def prP (bs : List Nat) : Nat := Var.pos 9223372036854775807 bs
def prL (bs : List Nat) : List Bool := (List.range (prN bs)).map fun i => (bs.getD (prP bs + i / 8) 0).testBit (i % 8)
def prS (bs : List Nat) : Nat := prP bs + (prN bs + 7) / 8
def prE (bs : List Nat) : Nat := if Var.err 9223372036854775807 bs ≠ 0 then Var.err 9223372036854775807 bs else if 65536 < prN bs then 3 else if bs.length < prS bs then 4 else if rowBs (prL bs) = bs.take (prS bs) then 0 else 3
/-- What a call does with a row: its blocks are those that it had, or new. -/
structure Kp (Rk : World → Nat → List Bool → (Nat → Prop) → Prop) (w w' : World) (b : Nat) (m : List Bool) (S S' : Nat → Prop) : Prop where
  rk : Rk w' b m S'
  sub : ∀ i, S' i → S i ∨ w.heap.size ≤ i
  mv : Mv S w w'
end Go.Inc
namespace Go.Proofs.Ytjcapiibeekfkaa
open Go.RowKit Go.Inc
def i64z (z : Int) : Prop := -9223372036854775808 ≤ z ∧ z ≤ 9223372036854775807
instance (z : Int) : Decidable (i64z z) := inferInstanceAs (Decidable (_ ∧ _))
/-- Laws of the row, and the program's calls. -/
structure PR (Rk : World → Nat → List Bool → (Nat → Prop) → Prop) : Prop where
  lt : ∀ {w b m S}, Rk w b m S → ∀ i, S i → i < w.heap.size
  own : ∀ {w b m S}, Rk w b m S → S b
  le : ∀ {w b m S}, Rk w b m S → m.length ≤ 65536
  keep : ∀ {w w' b m S F}, Rk w b m S → Mv F w w' → (∀ i, S i → ¬ F i) → Rk w' b m S
  pNew : ∀ (ok : Nat → Prop) (w : World) (a : Option Addr) (c : Nat) (m : List Bool), Bl ok w a m → m.length ≤ 65536 →
    Calls Try.prog 8 #[.slice a m.length c] w fun e w' => ∃ b S, e = .returned (.tuple #[.pointer (some ⟨b, 0, none⟩), .int .i64 0]) ∧ Rk w' b m S ∧ (∀ i, S i → w.heap.size ≤ i) ∧ Below w.heap.size w w'
  pOf : ∀ (ok : Nat → Prop) (w : World) (a : Option Addr) (c : Nat) (n : Int) (zs : List Int), Si ok w a zs → i64z n → (∀ z ∈ zs, i64z z) → zs.length ≤ 65536 → ofE n zs = 0 →
    Calls Try.prog 16 #[.int .i64 n, .slice a zs.length c] w fun e w' => ∃ b S, e = .returned (.tuple #[.pointer (some ⟨b, 0, none⟩), .int .i64 0]) ∧ Rk w' b (onesB n.toNat zs zs.length) S ∧ (∀ i, S i → w.heap.size ≤ i) ∧ Below w.heap.size w w'
  pOfBad : ∀ (ok : Nat → Prop) (w : World) (a : Option Addr) (c : Nat) (n : Int) (zs : List Int), Si ok w a zs → i64z n → (∀ z ∈ zs, i64z z) → zs.length ≤ 65536 → ofE n zs ≠ 0 →
    Calls Try.prog 16 #[.int .i64 n, .slice a zs.length c] w fun e w' => e = .returned (.tuple #[.pointer none, .int .i64 (ofE n zs)]) ∧ Below w.heap.size w w'
  pParse : ∀ (ok : Nat → Prop) (w : World) (a : Option Addr) (c : Nat) (bs : List Nat), Sl ok w a bs → (bs.length ≤ c ∧ c ≤ maxLen) → (a = none → c = 0) → Bytes bs → bs.length ≤ 65536 → prE bs = 0 →
    Calls Try.prog 22 #[.slice a bs.length c] w fun e w' => ∃ b S au cu, e = .returned (.tuple #[.pointer (some ⟨b, 0, none⟩), .slice au (bs.drop (prS bs)).length cu, .int .i64 0]) ∧ Rk w' b (prL bs) S ∧ (∀ i, S i → w.heap.size ≤ i) ∧ Sl (fun g => ¬ S g) w' au (bs.drop (prS bs)) ∧ Below w.heap.size w w'
  pParseBad : ∀ (ok : Nat → Prop) (w : World) (a : Option Addr) (c : Nat) (bs : List Nat), Sl ok w a bs → (bs.length ≤ c ∧ c ≤ maxLen) → (a = none → c = 0) → Bytes bs → bs.length ≤ 65536 → prE bs ≠ 0 →
    Calls Try.prog 22 #[.slice a bs.length c] w fun e w' => ∃ u, e = .returned (.tuple #[.pointer none, u, .int .i64 (prE bs : Nat)]) ∧ Below w.heap.size w w'
  pAt : ∀ (w : World) (b : Nat) (m : List Bool) (S : Nat → Prop) (i : Int), Rk w b m S → i64z i →
    Calls Try.prog 10 #[.pointer (some ⟨b, 0, none⟩), .int .i64 i] w fun e w' => ∃ v S', e = .returned (.tuple #[.bool v, .int .i64 (atE m i)]) ∧ (atE m i = 0 → v = inB m i.toNat) ∧ Kp Rk w w' b m S S'
  pRank : ∀ (w : World) (b : Nat) (m : List Bool) (S : Nat → Prop) (one : Bool) (i : Int), Rk w b m S → i64z i →
    Calls Try.prog 11 #[.pointer (some ⟨b, 0, none⟩), .bool one, .int .i64 i] w fun e w' => ∃ z S', e = .returned (.tuple #[.int .i64 z, .int .i64 (rkE m i)]) ∧ (rkE m i = 0 → z = (rkB m one i.toNat : Nat)) ∧ Kp Rk w w' b m S S'
  pSelect : ∀ (w : World) (b : Nat) (m : List Bool) (S : Nat → Prop) (one : Bool) (k : Int), Rk w b m S → i64z k →
    Calls Try.prog 12 #[.pointer (some ⟨b, 0, none⟩), .bool one, .int .i64 k] w fun e w' => ∃ z S', e = .returned (.tuple #[.int .i64 z, .int .i64 (slE m one k)]) ∧ (slE m one k = 0 → z = selB m one k.toNat m.length) ∧ Kp Rk w w' b m S S'
  pCount : ∀ (w : World) (b : Nat) (m : List Bool) (S : Nat → Prop) (one : Bool), Rk w b m S →
    Calls Try.prog 21 #[.pointer (some ⟨b, 0, none⟩), .bool one] w fun e w' => ∃ S', e = .returned (.int .i64 ((rkB m one m.length : Nat) : Int)) ∧ Kp Rk w w' b m S S'
  pLen : ∀ (w : World) (b : Nat) (m : List Bool) (S : Nat → Prop), Rk w b m S →
    Calls Try.prog 17 #[.pointer (some ⟨b, 0, none⟩)] w fun e w' => ∃ S', e = .returned (.int .i64 (m.length : Int)) ∧ Kp Rk w w' b m S S'
  pBytes : ∀ (w : World) (b : Nat) (m : List Bool) (S : Nat → Prop), Rk w b m S →
    Calls Try.prog 27 #[.pointer (some ⟨b, 0, none⟩)] w fun e w' => ∃ S' au cu, e = .returned (.slice au (rowBs m).length cu) ∧ Kp Rk w w' b m S S' ∧ Sl (fun g => w.heap.size ≤ g ∧ ¬ S' g) w' au (rowBs m)
  pOnes : ∀ (w : World) (b : Nat) (m : List Bool) (S : Nat → Prop), Rk w b m S →
    Calls Try.prog 19 #[.pointer (some ⟨b, 0, none⟩)] w fun e w' => ∃ S' au cu, e = .returned (.slice au (plcB m m.length).length cu) ∧ Kp Rk w w' b m S S' ∧ Si (fun g => w.heap.size ≤ g ∧ ¬ S' g) w' au ((plcB m m.length).map fun x : Nat => (x : Int))
  pDirectory : ∀ (w : World) (b : Nat) (m : List Bool) (S : Nat → Prop), Rk w b m S →
    Calls Try.prog 26 #[.pointer (some ⟨b, 0, none⟩)] w fun e w' => ∃ S' au cu av cv, e = .returned (.tuple #[.slice au ((m.length + 511) / 512) cu, .slice av ((m.length + 63) / 64) cv]) ∧ Kp Rk w w' b m S S' ∧
      Si (fun g => w.heap.size ≤ g ∧ ¬ S' g) w' au ((dirB m ((m.length + 511) / 512)).map fun x : Nat => (x : Int)) ∧ Si (fun g => w.heap.size ≤ g ∧ ¬ S' g) w' av ((dirW m ((m.length + 63) / 64)).map fun x : Nat => (x : Int))
  pSame : ∀ (w : World) (b : Nat) (m : List Bool) (S : Nat → Prop) (b2 : Nat) (m2 : List Bool) (S2 : Nat → Prop), Rk w b m S → Rk w b2 m2 S2 → (∀ i, S i → ¬ S2 i) →
    Calls Try.prog 20 #[.pointer (some ⟨b, 0, none⟩), .pointer (some ⟨b2, 0, none⟩)] w fun e w' => ∃ S', e = .returned (.bool (decide (m = m2))) ∧ Rk w' b m S' ∧ (∀ i, S' i → S i ∨ w.heap.size ≤ i) ∧ Mv (fun i => S i ∨ S2 i) w w'
  pSameNil : ∀ (w : World), Calls Try.prog 20 #[.pointer none, .pointer none] w fun e w' => e = .returned (.bool true) ∧ Below w.heap.size w w'
  pSameOne : ∀ (w : World) (b : Nat) (m : List Bool) (S : Nat → Prop), Rk w b m S →
    Calls Try.prog 20 #[.pointer (some ⟨b, 0, none⟩), .pointer none] w fun e w' => ∃ S', e = .returned (.bool false) ∧ Kp Rk w w' b m S S'
  nAt : ∀ (w : World) (i : Int), i64z i → Calls Try.prog 10 #[.pointer none, .int .i64 i] w fun e w' => ∃ v, e = .returned (.tuple #[v, .int .i64 11]) ∧ Below w.heap.size w w'
  nRank : ∀ (w : World) (one : Bool) (i : Int), i64z i → Calls Try.prog 11 #[.pointer none, .bool one, .int .i64 i] w fun e w' => ∃ v, e = .returned (.tuple #[v, .int .i64 11]) ∧ Below w.heap.size w w'
  nSelect : ∀ (w : World) (one : Bool) (i : Int), i64z i → Calls Try.prog 12 #[.pointer none, .bool one, .int .i64 i] w fun e w' => ∃ v, e = .returned (.tuple #[v, .int .i64 11]) ∧ Below w.heap.size w w'
  nLen : ∀ (w : World), Calls Try.prog 17 #[.pointer none] w fun e w' => e = .returned (.int .i64 0) ∧ Below w.heap.size w w'
  nCount : ∀ (w : World) (one : Bool), Calls Try.prog 21 #[.pointer none, .bool one] w fun e w' => e = .returned (.int .i64 0) ∧ Below w.heap.size w w'
  nBytes : ∀ (w : World), Calls Try.prog 27 #[.pointer none] w fun e w' => ∃ a c, e = .returned (.slice a 0 c) ∧ Below w.heap.size w w'
  nOnes : ∀ (w : World), Calls Try.prog 19 #[.pointer none] w fun e w' => ∃ a c, e = .returned (.slice a 0 c) ∧ Below w.heap.size w w'
  nDirectory : ∀ (w : World), Calls Try.prog 26 #[.pointer none] w fun e w' => ∃ a c a' c', e = .returned (.tuple #[.slice a 0 c, .slice a' 0 c']) ∧ Below w.heap.size w w'
end Go.Proofs.Ytjcapiibeekfkaa
