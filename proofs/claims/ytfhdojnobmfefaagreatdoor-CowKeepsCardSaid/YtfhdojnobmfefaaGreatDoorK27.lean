/- MADE SMALL. -/
import Derived.Test.YtfhdojnobmfefaaGreatDoorK1
import Derived.Laws.BitsAllLaws
import Derived.Laws.ShiftsVarLaws
namespace Go.Inc
open Go.RowKit
theorem W64:(2:Nat) ^ 64=18446744073709551616:=by decide
theorem Ey {W:List Nat} (h:∀ x∈W,x < 18446744073709551616) (q:Nat):W.getD q 0 < 18446744073709551616:=by
 rw [List.getD_eq_getElem?_getD];cases hq:W[q]? with
 | none=>simp
 | some x=>exact h x (List.mem_of_getElem? hq)
theorem ZI {W:List Nat} (h:∀ x∈W,x < 18446744073709551616) {q y:Nat} (hy:y < 18446744073709551616):∀ x∈W.set q y,x < 18446744073709551616:=fun x hx=>by
 rcases List.mem_or_eq_of_mem_set hx with h1 | rfl
 ·exact h x h1
 ·exact hy
theorem Hy (k:Nat):2 ^ (k % 64) < 18446744073709551616:=by rw [<- W64];exact Nat.pow_lt_pow_right (by decide) (Nat.mod_lt _ (by decide))
theorem Vj (x k:Nat):x &&& 2 ^ k=if x.testBit k then 2 ^ k else 0:=by
 apply Nat.eq_of_testBit_eq;intro j;rw [Nat.testBit_and,Le];by_cases h:k=j
 ·subst h;cases hx:x.testBit k<;>simp
 ·have:decide (k=j)=false:=by simp [h]
  rw [this,Bool.and_false];split
  ·rw [Le,this]
  ·simp
theorem and_bit_ne {x k:Nat}:(x &&& 2 ^ k≠0)↔x.testBit k=true:=by
 rw [Vj];split
 iterate 2
  ·rename_i h;simp [h]
theorem VV {y:Nat} (hy:y < 18446744073709551616) (j:Nat):(18446744073709551615 - y).testBit j=(decide (j < 64) && !y.testBit j):=by
 have:=Nat.testBit_two_pow_sub_succ (x:=y) (n:=64) (by rw [W64];exact hy) j;rw [W64] at this;rw [<- this]
 congr 1
 omega
theorem Tc {x j:Nat} (hx:x < 18446744073709551616) (h:x.testBit j=true):j < 64:=by
 rcases Nat.lt_or_ge j 64 with h1 | h1
 ·exact h1
 ·rw [Nat.testBit_lt_two_pow (Nat.lt_of_lt_of_le hx (by rw [<- W64];exact Nat.pow_le_pow_right (by decide) h1))] at h;cases h
theorem Nq {x y:Nat} (hx:x < 18446744073709551616) (hy:y < 18446744073709551616) (j:Nat):(x &&& (18446744073709551615 - y)).testBit j=(x.testBit j && !y.testBit j):=by
 rw [Nat.testBit_and,VV hy];cases h:x.testBit j
 ·simp
 ·simp [Tc hx h]
theorem Ry {x:Nat} (hx:x < 18446744073709551616) (y:Nat):x &&& y < 18446744073709551616:=Nat.lt_of_le_of_lt Nat.and_le_left hx
theorem UN {x y:Nat} (hx:x < 18446744073709551616) (hy:y < 18446744073709551616):x ||| y < 18446744073709551616:=by rw [<- W64] at *;exact Nat.or_lt_two_pow hx hy
theorem Xa {x y:Nat} (hx:x < 18446744073709551616) (hy:y < 18446744073709551616):x ^^^ y < 18446744073709551616:=by rw [<- W64] at *;exact Nat.xor_lt_two_pow hx hy
theorem Vr {W:List Nat} (hW:∀ x∈W,x < 18446744073709551616) {i:Nat} (h:i / 64 < W.length) (j:Nat):Cf (W.set (i / 64) (W.getD (i / 64) 0 &&& (18446744073709551615 - 2 ^ (i % 64)))) j=(!decide (j=i) && Cf W j):=by
 rw [JW h];by_cases hq:j / 64=i / 64
 ·rw [if_pos hq,Nq (Ey hW _) (Hy i),Le];have e:(i % 64=j % 64)=(j=i):=propext (by omega);unfold Cf;rw [hq];simp only [e];exact Bool.and_comm _ _
 ·rw [if_neg hq];have:¬ j=i:=fun h=>hq (by rw [h]);simp [this]
theorem Jl (x o j:Nat):(x >>> o <<< o).testBit j=(decide (o<=j) && x.testBit j):=by
 rw [Nat.testBit_shiftLeft];by_cases h:o<=j
 ·rw [Nat.testBit_shiftRight];simp [h]
 ·simp [h]
theorem OQ (x o:Nat):x >>> o <<< o<=x:=by
 rw [Nat.shiftLeft_eq,Nat.shiftRight_eq_div_pow];exact Nat.div_mul_le_self x (2 ^ o)
theorem Rq {p:Nat->Prop} [DecidablePred p] (h:(List.range 256).all fun b=>decide (p b)):∀ b,b < 256->p b:=fun b hb=>by
 have:=List.all_eq_true.1 h b (List.mem_range.2 hb);exact of_decide_eq_true this
def t1 (x M:Nat):Nat:=(x / 2 &&& M)+(x &&& M)
def t2 (x M:Nat):Nat:=(x / 4 &&& M)+(x &&& M)
def t3 (x M:Nat):Nat:=(x / 16+x) &&& M
def b1 (b:Nat):Nat:=(b / 2 &&& 85)+(b &&& 85)
def b2 (b:Nat):Nat:=(b / 4 &&& 51)+(b &&& 51)
def b3 (b:Nat):Nat:=(b / 16+b) &&& 15
theorem hi1:∀ b,b < 256->((b / 2+128) &&& 85=b / 2 &&& 85):=Rq (by decide+kernel)
theorem hi2:∀ b,b < 256->(b / 4+64) &&& 51=b / 4 &&& 51/\(b / 4+128) &&& 51=b / 4 &&& 51/\(b / 4+192) &&& 51=b / 4 &&& 51:=Rq (p:=fun b=>(b / 4+64) &&& 51=b / 4 &&& 51/\(b / 4+128) &&& 51=b / 4 &&& 51/\(b / 4+192) &&& 51=b / 4 &&& 51) (by decide+kernel)
end Go.Inc
