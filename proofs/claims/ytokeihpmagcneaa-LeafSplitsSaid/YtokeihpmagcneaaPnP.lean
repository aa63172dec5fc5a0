/- ALL THAT IS ASKED OF THE PROGRAM'S CALLS, PROVED. -/
import Derived.Test.YtokeihpmagcneaaPnL
namespace Go.Proofs.Ytokeihpmagcneaa
open Go.RowKit Go.Inc

theorem find_x (a : Option Addr) (n c : Nat) (lf : Bool) (es : List Et) (s z : Int) (w : World) (hnd : NdOk w a n c es) (hck : chkN lf es = 0) (hk : okK (s, z) = true) :
    Calls Try.prog 24 #[.agg #[.bool lf, .slice a n c], .agg #[.int .i64 s, .int .i64 z]] w fun e w' => e = .returned (.tuple #[.int .i64 (atK es (s, z) : Nat), .bool (inK es (s, z))]) ∧ Below w.heap.size w w' := by
  obtain ⟨c1, c2, c3, -⟩ := chkN_zero hck
  refine (find_any a n c lf es s z w hnd c1 c2 c3).mono ?_
  rintro e w' ⟨⟨r, B, rfl, h⟩, hb⟩
  obtain ⟨rfl, rfl⟩ := h.ok hk
  exact ⟨rfl, hb⟩
theorem pn : PN where
  nRight := fun s z w _ => right_any s z w
  nLess := fun s z s' z' w _ _ => less_any s z s' z' w
  nCheck := check_any
  nSame := same_eq
  nEncode := encode_any
  nDecode := decode_any
  nFind := find_x
  nChild := child_any
  nWith := with_any
  nWithout := without_any
  nSplit := split_any
  nMerge := merge_any
end Go.Proofs.Ytokeihpmagcneaa
