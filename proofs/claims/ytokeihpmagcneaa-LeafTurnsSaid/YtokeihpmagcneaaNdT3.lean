/- THE LAW LeafTurns: the walk. -/
import Derived.Test.YtokeihpmagcneaaNdT2
namespace Go.Proofs.Ytokeihpmagcneaa
open Go.RowKit Go.Inc
theorem leafTurns_walk (P : PN) (a : Option Addr) (n c : Nat) (lf : Bool) (es : List Et) (s z p : Int) (W : World) (hs : EtS (fun _ => True) W a es) (hn : n = es.length) (hf : ∀ e ∈ es, fitsE e) (hfe : fitsE ((s, z), p)) :
    Calls Try.prog 6 #[.agg #[.bool lf, .slice a n c], .agg #[.int .i64 s, .int .i64 z, .int .i64 p]] W fun e w' => e = .returned (.bool true) ∧ Below W.heap.size W w' := by
  by_cases hchk : chkN lf (es.take 18) = 0
  · exact turns_good P a n c lf es s z p W hs hn hf hfe hchk
  · exact turns_bad P a n c lf es s z p W hs hn hf hfe hchk
end Go.Proofs.Ytokeihpmagcneaa
