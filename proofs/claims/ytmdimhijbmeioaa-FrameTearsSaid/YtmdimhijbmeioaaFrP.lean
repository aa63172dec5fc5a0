/- CONTRACTS IN THE LAWS' WORDS. -/
import Derived.Test.YtmdimhijbmeioaaFrN
import Derived.Test.YtmdimhijbmeioaaFrH
import Derived.Test.YtmdimhijbmeioaaFrI
import Derived.Test.YtmdimhijbmeioaaFrK
import Derived.Test.YtmdimhijbmeioaaFrOpen
namespace Go.Proofs.Ytmdimhijbmeioaa
open Go.RowKit Go.Inc

theorem refEnc_ok (ok : Nat → Prop) (k e pg : Int) (a : Option Addr) (c : Nat) (bs : List Nat) (w : World) (h : chk ⟨k, e, pg, bs⟩ = 0) (hs : Sl ok w a bs) (hby : Bytes bs) (hn : a = none → c = 0) :
    Calls Try.prog 17 #[.agg #[.int .i64 k, .int .i64 e, .int .i64 pg, .slice a bs.length c]] w fun r w' => ∃ v, r = .returned v ∧ Row 5 w.heap.size w' v (enc ⟨k, e, pg, bs⟩) ∧ Below w.heap.size w w' := by
  obtain ⟨h1, h2, h3, h4, h5, h6, h7⟩ := (chk_zero _).1 h
  dsimp only at h1 h2 h3 h4 h5 h6 h7
  obtain ⟨K, rfl⟩ := Int.eq_ofNat_of_zero_le (show 0 ≤ k by omega)
  obtain ⟨E, rfl⟩ := Int.eq_ofNat_of_zero_le h3
  obtain ⟨P, rfl⟩ := Int.eq_ofNat_of_zero_le h5
  exact refEnc_any ok K E P a c bs w h1 h2 h4 h6 (by omega) hs hby hn
theorem fsame_is (ok ok' : Nat → Prop) (f g : Fr) (a a' : Option Addr) (c c' : Nat) (w : World) (hs : Sl ok w a f.b) (hs' : Sl ok' w a' g.b) (hb : Bytes f.b) (hb' : Bytes g.b) (t : Bool) (ht : decide (f = g) = t) :
    Calls Try.prog 13 #[.agg #[.int .i64 f.k, .int .i64 f.e, .int .i64 f.p, .slice a f.b.length c], .agg #[.int .i64 g.k, .int .i64 g.e, .int .i64 g.p, .slice a' g.b.length c']] w fun r w' => r = .returned (.bool t) ∧ Below w.heap.size w w' := by
  have h := fsame_any ok ok' f g a a' c c' w hs hs' hb hb'
  rwa [ht] at h
theorem fsame_self (ok ok' : Nat → Prop) (k e pg : Int) (bs : List Nat) (a a' : Option Addr) (c c' : Nat) (w : World) (hs : Sl ok w a bs) (hs' : Sl ok' w a' bs) (hb : Bytes bs) :
    Calls Try.prog 13 #[.agg #[.int .i64 k, .int .i64 e, .int .i64 pg, .slice a bs.length c], .agg #[.int .i64 k, .int .i64 e, .int .i64 pg, .slice a' bs.length c']] w fun r w' => r = .returned (.bool true) ∧ Below w.heap.size w w' :=
  fsame_is ok ok' ⟨k, e, pg, bs⟩ ⟨k, e, pg, bs⟩ a a' c c' w hs hs' hb hb true (decide_eq_true rfl)
theorem rsame_is (ok ok' : Nat → Prop) (f g : Fr) (a a' : Option Addr) (c c' : Nat) (w : World) (hs : Sl ok w a f.b) (hs' : Sl ok' w a' g.b) (hl : f.b.length ≤ 9223372036854775807) (h : f = g) :
    Calls Try.prog 23 #[.agg #[.int .i64 f.k, .int .i64 f.e, .int .i64 f.p, .slice a f.b.length c], .agg #[.int .i64 g.k, .int .i64 g.e, .int .i64 g.p, .slice a' g.b.length c']] w fun r w' => r = .returned (.bool true) ∧ Below w.heap.size w w' := by
  have h1 := rsame_any ok ok' f g a a' c c' w hs hs' hl
  rwa [decide_eq_true h] at h1
theorem same_self (ok ok' : Nat → Prop) (a b : Option Addr) (c d : Nat) (xs : List Nat) (w : World) (ha : Sl ok w a xs) (hb : Sl ok' w b xs) (hm : xs.length ≤ 9223372036854775807) :
    Calls Try.prog 16 #[.slice a xs.length c, .slice b xs.length d] w fun e w' => e = .returned (.bool true) ∧ Below w.heap.size w w' := by
  have h := same_any ok ok' a b c d xs xs w ha hb hm
  rwa [decide_eq_true rfl] at h
end Go.Proofs.Ytmdimhijbmeioaa
