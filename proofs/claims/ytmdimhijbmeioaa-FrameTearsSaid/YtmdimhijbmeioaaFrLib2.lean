/- SMALL LAWS: bytes appended to an empty literal, in a row of operations, in a region. No program is named here. -/
import Derived.Test.YtmdimhijbmeioaaFrLib
namespace Go.Inc
open Go Go.RowKit

/-- 'append([]byte{}, x...)', in a row of operations. -/
theorem wpList_append_lit {P : Program} {w : World} {ops : Array Oper} {rest : List Oper} {o : Oper} {a : Act} {Q : Exit → Act → World → Prop} (hgd : o.guard = none) (s x : Operand) (t : TypeId)
    (ho : o.op = .call { callee := .builtin .append, args := #[s, x], argTypes := #[t, t] }) (e : TypeId) (z : Value) (bytes : Nat) (ht : P.underlying t = some (.slice e)) (hi : (P.info? e).map (fun i => (i.zero, i.size, i.bytes)) = some (some z, 1, bytes))
    (g : Nat) (hs : a.eval s = .slice (some ⟨g, 0, none⟩) 0 0) (ok : Nat → Prop) (ao : Option Addr) (c : Nat) (bs : List Nat) (hx : a.eval x = .slice ao bs.length c) (hsl : Sl ok w ao bs) (hn : ao = none → c = 0) (hm : bs.length ≤ maxLen) (hby : bs.length * bytes ≤ 140737488355328)
    (h : ∀ v' w', Bb (fun b => w.heap.size ≤ b) w' v' bs → Below w.heap.size w w' → wpList P ops Q rest (a.put o.dst v') w') : wpList P ops Q (o :: rest) a w := by
  refine wpList_plain hgd fun K hK => ?_
  obtain ⟨v', w', hr, hv, hb⟩ := run_append_lit w t o.type e z bytes ht hi g ok ao c bs hsl hn hm hby
  unfold Oper.wp
  exact upon_append s x t ho hs hx hr (hK _ _ (h v' w' hv hb))
/-- .. and as an operation of a region. -/
theorem wp_append_lit {P : Program} {w : World} {o : Oper} {a : Act} {K : Act → World → Prop} {Q : Exit → Act → World → Prop} (s x : Operand) (t : TypeId)
    (ho : o.op = .call { callee := .builtin .append, args := #[s, x], argTypes := #[t, t] }) (e : TypeId) (z : Value) (bytes : Nat) (ht : P.underlying t = some (.slice e)) (hi : (P.info? e).map (fun i => (i.zero, i.size, i.bytes)) = some (some z, 1, bytes))
    (g : Nat) (hs : a.eval s = .slice (some ⟨g, 0, none⟩) 0 0) (ok : Nat → Prop) (ao : Option Addr) (c : Nat) (bs : List Nat) (hx : a.eval x = .slice ao bs.length c) (hsl : Sl ok w ao bs) (hn : ao = none → c = 0) (hm : bs.length ≤ maxLen) (hby : bs.length * bytes ≤ 140737488355328)
    (h : ∀ v' w', Bb (fun b => w.heap.size ≤ b) w' v' bs → Below w.heap.size w w' → K (a.put o.dst v') w') : Oper.wp P o a w K Q := by
  obtain ⟨v', w', hr, hv, hb⟩ := run_append_lit w t o.type e z bytes ht hi g ok ao c bs hsl hn hm hby
  unfold Oper.wp
  exact upon_append s x t ho hs hx hr (h v' w' hv hb)

end Go.Inc
