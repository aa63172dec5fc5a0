/- CONTRACTS IN THE LAWS' WORDS. -/
import Derived.Test.YtebacgkeolofmaaU14
import Derived.Test.YtebacgkeolofmaaU3
import Derived.Test.YtebacgkeolofmaaU10
import Derived.Test.YtebacgkeolofmaaU13
import Derived.Deep.RegionHeld3
import Derived.Test.YtebacgkeolofmaaU20
import Derived.Test.YtebacgkeolofmaaU15
import Derived.Test.YtebacgkeolofmaaRows
import Derived.Test.YtebacgkeolofmaaU7
import Derived.Lib.SmallJoins
import Derived.Carry
namespace Go.Proofs.Ytebacgkeolofmaa
open Go.RowKit Go.Inc

theorem refEnc_ok (ok : Nat → Prop) (k e pg : Int) (a : Option Addr) (c : Nat) (bs : List Nat) (w : World) (h : chk ⟨k, e, pg, bs⟩ = 0) (hs : Sl ok w a bs) (hby : Bytes bs) (hn : a = none → c = 0) :
    Calls Try.prog 38 #[.agg #[.int .i64 k, .int .i64 e, .int .i64 pg, .slice a bs.length c]] w fun r w' => ∃ v, r = .returned v ∧ Row 5 w.heap.size w' v (enc ⟨k, e, pg, bs⟩) ∧ Below w.heap.size w w' := by
  obtain ⟨h1, h2, h3, h4, h5, h6, h7⟩ := (chk_zero _).1 h
  dsimp only at h1 h2 h3 h4 h5 h6 h7
  obtain ⟨K, rfl⟩ := Int.eq_ofNat_of_zero_le (show 0 ≤ k by omega)
  obtain ⟨E, rfl⟩ := Int.eq_ofNat_of_zero_le h3
  obtain ⟨P, rfl⟩ := Int.eq_ofNat_of_zero_le h5
  exact refEnc_any ok K E P a c bs w h1 h2 h4 h6 (by omega) hs hby hn
theorem same_self (ok ok' : Nat → Prop) (a b : Option Addr) (c d : Nat) (xs : List Nat) (w : World) (ha : Sl ok w a xs) (hb : Sl ok' w b xs) (hm : xs.length ≤ 9223372036854775807) :
    Calls Try.prog 16 #[.slice a xs.length c, .slice b xs.length d] w fun e w' => e = .returned (.bool true) ∧ Below w.heap.size w w' := by
  have h := same_any ok ok' a b c d xs xs w ha hb hm
  rwa [decide_eq_true rfl] at h
end Go.Proofs.Ytebacgkeolofmaa
