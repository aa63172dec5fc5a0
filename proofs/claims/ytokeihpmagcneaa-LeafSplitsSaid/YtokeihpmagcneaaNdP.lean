/- WHAT IS ASKED OF THE PROGRAM'S CALLS: their contracts, in one place (to be proved of what lands). -/
import Derived.Test.YtokeihpmagcneaaNdE
namespace Go.Inc
open Go.RowKit
/-- A node's slice of entries. -/
def NdOk (w : World) (a : Option Addr) (n c : Nat) (es : List Et) : Prop :=
  n = es.length ∧ EtS (fun _ => True) w a es ∧ n ≤ 1000 ∧ (∀ e ∈ es, fitsE e) ∧ (n ≤ c ∧ c ≤ maxLen) ∧ (a = none → c = 0)
/-- A node. -/
def NdV (w : World) (v : Value) (lf : Bool) (es : List Et) : Prop := ∃ a n c, v = .agg #[.bool lf, .slice a n c] ∧ NdOk w a n c es
/-- Looks like a node. -/
def NdF (v : Value) : Prop := ∃ lf a n c, v = .agg #[.bool lf, .slice a n c]
theorem NdOk.below {w w' : World} {a : Option Addr} {n c : Nat} {es : List Et} (h : NdOk w a n c es) (hb : Below w.heap.size w w') : NdOk w' a n c es :=
  ⟨h.1, h.2.1.below hb, h.2.2⟩
theorem NdOk.mono {ok : Nat → Prop} {w : World} {a : Option Addr} {es : List Et} (h : EtS ok w a es) : EtS (fun _ => True) w a es := by
  rcases h with h | ⟨b, o, h1, _, h2⟩
  · exact .inl h
  · exact .inr ⟨b, o, h1, trivial, h2⟩
theorem NodeN.nd {E B : Nat} {w : World} {v : Value} {lf : Bool} {es : List Et} (h : NodeN E B w v lf es) (hl : es.length ≤ 1000) (hf : ∀ e ∈ es, fitsE e) : NdV w v lf es := by
  obtain ⟨r, rfl, hr⟩ := h
  obtain ⟨a, c, rfl, _, h1, h2, h3, h4⟩ := ownedE hr
  exact ⟨a, es.length, c, rfl, rfl, NdOk.mono h1, hl, hf, ⟨h2, h3⟩, h4⟩
theorem ndS_facts (bs : List Nat) : (ndS bs).length ≤ 16 ∧ ∀ e ∈ ndS bs, fitsE e := by
  by_cases h : decG bs
  · rw [ndS_good h]
    obtain ⟨c1, c2, -, -⟩ := chkN_zero h.2.2.2.2
    exact ⟨c1, fun e he => ok_fits (badN_false.1 c2 e he)⟩
  · rw [ndS_bad h]
    exact ⟨Nat.zero_le _, fun e he => absurd he (by simp)⟩
end Go.Inc
namespace Go.Proofs.Ytokeihpmagcneaa
open Go.RowKit Go.Inc
structure PN : Prop where
  nRight : ∀ (s z : Int) (w : World), fitsK (s, z) → Calls Try.prog 20 #[.agg #[.int .i64 s, .int .i64 z]] w fun e w' => e = .returned (.bool (okK (s, z))) ∧ Below w.heap.size w w'
  nLess : ∀ (s z s' z' : Int) (w : World), okK (s, z) = true → okK (s', z') = true → Calls Try.prog 23 #[.agg #[.int .i64 s, .int .i64 z], .agg #[.int .i64 s', .int .i64 z']] w fun e w' => e = .returned (.bool (lessK (s, z) (s', z'))) ∧ Below w.heap.size w w'
  nCheck : ∀ (a : Option Addr) (n c : Nat) (lf : Bool) (es : List Et) (w : World), NdOk w a n c es → Calls Try.prog 12 #[.agg #[.bool lf, .slice a n c]] w fun e w' => e = .returned (.int .i64 (chkN lf es)) ∧ Below w.heap.size w w'
  nSame : ∀ (a b : Option Addr) (n m c d : Nat) (lf : Bool) (es : List Et) (w : World), NdOk w a n c es → NdOk w b m d es → Calls Try.prog 13 #[.agg #[.bool lf, .slice a n c], .agg #[.bool lf, .slice b m d]] w fun e w' => e = .returned (.bool true) ∧ Below w.heap.size w w'
  nEncode : ∀ (a : Option Addr) (n c : Nat) (lf : Bool) (es : List Et) (w : World), NdOk w a n c es → Calls Try.prog 10 #[.agg #[.bool lf, .slice a n c]] w fun e w' => (∃ v, e = .returned (.tuple #[v, .int .i64 (chkN lf es)]) ∧ Row 5 w.heap.size w' v (if chkN lf es = 0 then encN lf es else [])) ∧ Below w.heap.size w w'
  nDecode : ∀ (ok : Nat → Prop) (a : Option Addr) (n c : Nat) (bs : List Nat) (w : World), Sl ok w a bs → n = bs.length → (n ≤ c ∧ c ≤ maxLen) → (a = none → c = 0) → Bytes bs → n ≤ 1000 → Calls Try.prog 15 #[.slice a n c] w fun e w' => (∃ v, e = .returned (.tuple #[v, .int .i64 (ndE bs)]) ∧ NdV w' v (ndL bs) (ndS bs)) ∧ Below w.heap.size w w'
  nFind : ∀ (a : Option Addr) (n c : Nat) (lf : Bool) (es : List Et) (s z : Int) (w : World), NdOk w a n c es → chkN lf es = 0 → okK (s, z) = true → Calls Try.prog 24 #[.agg #[.bool lf, .slice a n c], .agg #[.int .i64 s, .int .i64 z]] w fun e w' => e = .returned (.tuple #[.int .i64 (atK es (s, z) : Nat), .bool (inK es (s, z))]) ∧ Below w.heap.size w w'
  nChild : ∀ (a : Option Addr) (n c : Nat) (lf : Bool) (es : List Et) (s z : Int) (w : World), NdOk w a n c es → chkN lf es = 0 → okK (s, z) = true → Calls Try.prog 25 #[.agg #[.bool lf, .slice a n c], .agg #[.int .i64 s, .int .i64 z]] w fun e w' => (∃ i, e = .returned (.tuple #[.int .i64 i, .int .i64 (if lf = true then 11 else 0)]) ∧ (lf = false → i = (childK es (s, z) : Nat))) ∧ Below w.heap.size w w'
  nWith : ∀ (a : Option Addr) (n c : Nat) (lf : Bool) (es : List Et) (s z p : Int) (w : World), NdOk w a n c es → fitsE ((s, z), p) → Calls Try.prog 26 #[.agg #[.bool lf, .slice a n c], .agg #[.int .i64 s, .int .i64 z, .int .i64 p]] w fun e w' => (∃ v, e = .returned (.tuple #[v, .int .i64 (wiE lf es ((s, z), p))]) ∧ NdF v ∧ (wiE lf es ((s, z), p) = 0 → NdV w' v lf (insE es ((s, z), p)))) ∧ Below w.heap.size w w'
  nWithout : ∀ (a : Option Addr) (n c : Nat) (lf : Bool) (es : List Et) (s z : Int) (w : World), NdOk w a n c es → fitsK (s, z) → Calls Try.prog 28 #[.agg #[.bool lf, .slice a n c], .agg #[.int .i64 s, .int .i64 z]] w fun e w' => (∃ v, e = .returned (.tuple #[v, .int .i64 (woE lf es (s, z))]) ∧ NdF v ∧ (woE lf es (s, z) = 0 → NdV w' v lf (remE es (s, z)))) ∧ Below w.heap.size w w'
  nSplit : ∀ (a : Option Addr) (n c : Nat) (lf : Bool) (es : List Et) (w : World), NdOk w a n c es → Calls Try.prog 30 #[.agg #[.bool lf, .slice a n c]] w fun e w' => (∃ v u, e = .returned (.tuple #[v, u, .int .i64 (spE lf es)]) ∧ NdF v ∧ NdF u ∧ (spE lf es = 0 → NdV w' v lf (es.take (es.length / 2)) ∧ NdV w' u lf (es.drop (es.length / 2)))) ∧ Below w.heap.size w w'
  nMerge : ∀ (a b : Option Addr) (n m c d : Nat) (lf mf : Bool) (es fs : List Et) (w : World), NdOk w a n c es → NdOk w b m d fs → Calls Try.prog 31 #[.agg #[.bool lf, .slice a n c], .agg #[.bool mf, .slice b m d]] w fun e w' => (∃ v, e = .returned (.tuple #[v, .int .i64 (mgE lf es mf fs)]) ∧ NdF v ∧ (mgE lf es mf fs = 0 → NdV w' v lf (es ++ fs))) ∧ Below w.heap.size w w'
end Go.Proofs.Ytokeihpmagcneaa
