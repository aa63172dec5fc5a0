/- OPENING A FRAME THAT CAME IN. -/
import Derived.Test.YtmdimhijbmeioaaRows
import Derived.Test.YtmdimhijbmeioaaOpenInts
import Derived.Lib.SmallJoins
import Derived.Carry
namespace Go.Proofs.Ytmdimhijbmeioaa
open Go.RowKit Go.Inc Go.Deep Go.ChangeShapes Go.WideShapes

theorem cells24 : Try.prog.cellsOf 24 = 4 := by kernel_rfl
set_option maxRecDepth 100000 in
theorem open_fr {H : Type} {enc : TypeId × Value → H} {w : World} {base b0 : Nat} {held : Bool} {r : Reach} {v : Value} {d : DataW H} {p : List MemPlace} (hv : Value.okWide Try.prog w r b0 24 v) (h : DataW.Trod enc Try.prog w base (fun _ => true) held 24 v d p) :
    ∃ k e g a c bs, v = .agg #[.int .i64 k, .int .i64 e, .int .i64 g, .slice a (List.length bs) c] ∧ ((-9223372036854775808 ≤ k ∧ k ≤ 9223372036854775807) ∧ (-9223372036854775808 ≤ e ∧ e ≤ 9223372036854775807) ∧ (-9223372036854775808 ≤ g ∧ g ≤ 9223372036854775807)) ∧
      Bytes bs ∧ Sl (fun _ => True) w a bs ∧ bs.length ≤ c ∧ c ≤ maxLen ∧ (a = none → c = 0) := by
  obtain ⟨v0, v1, v2, v3, y0, y1, y2, y3, n, rfl, _, _, t0, t1, t2, t3⟩ := Go.Joins.open_agg4 Try.underlying24 (by kernel_rfl) cells24 hv h
  obtain ⟨x0, e0, _, w0⟩ := DataW.trod_int Try.underlying3 t0
  obtain ⟨x1, e1, _, w1⟩ := DataW.trod_int Try.underlying3 t1
  obtain ⟨x2, e2, _, w2⟩ := DataW.trod_int Try.underlying3 t2
  simp only [List.cons.injEq, and_true] at e0 e1 e2
  subst e0 e1 e2
  obtain ⟨a, c, bs, rfl, hby, hs, hb1, hb2, hn⟩ := open_sl Try.underlying22 Try.underlying5 (by kernel_rfl) t3
  exact ⟨x0, x1, x2, a, c, bs, rfl, ⟨bounds_i64 w0, bounds_i64 w1, bounds_i64 w2⟩, hby, hs, hb1, hb2, hn⟩
end Go.Proofs.Ytmdimhijbmeioaa
