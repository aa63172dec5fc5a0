/- MADE SMALL. -/
import Derived.Test.YtfhdojnobmfefaaGreatDoorG1
import Derived.Laws.BitsAllLaws
import Derived.Laws.ShiftsVarLaws
namespace Go.Inc
open Go.RowKit
theorem W64:(2:Nat) ^ 64=18446744073709551616:=by decide
theorem Ee {W:List Nat} (h:∀ x∈W,x < 18446744073709551616) (q:Nat):W.getD q 0 < 18446744073709551616:=by
 rw [List.getD_eq_getElem?_getD];cases hq:W[q]? with
 | none=>simp
 | some x=>exact h x (List.mem_of_getElem? hq)
theorem ZX {W:List Nat} (h:∀ x∈W,x < 18446744073709551616) {q y:Nat} (hy:y < 18446744073709551616):∀ x∈W.set q y,x < 18446744073709551616:=fun x hx=>by
 rcases List.mem_or_eq_of_mem_set hx with h1 | rfl
 ·exact h x h1
 ·exact hy
theorem Ic (k:Nat):2 ^ (k % 64) < 18446744073709551616:=by rw [<- W64];exact Nat.pow_lt_pow_right (by decide) (Nat.mod_lt _ (by decide))
theorem Vq (x k:Nat):x &&& 2 ^ k=if x.testBit k then 2 ^ k else 0:=by
 apply Nat.eq_of_testBit_eq;intro j;rw [Nat.testBit_and,LD];by_cases h:k=j
 ·subst h;cases hx:x.testBit k<;>simp
 ·have:decide (k=j)=false:=by simp [h]
  rw [this,Bool.and_false];split
  ·rw [LD,this]
  ·simp
theorem and_bit_ne {x k:Nat}:(x &&& 2 ^ k≠0)↔x.testBit k=true:=by
 rw [Vq];split
 iterate 2
  ·rename_i h;simp [h]
theorem V6 {y:Nat} (hy:y < 18446744073709551616) (j:Nat):(18446744073709551615 - y).testBit j=(decide (j < 64) && !y.testBit j):=by
 have:=Nat.testBit_two_pow_sub_succ (x:=y) (n:=64) (by rw [W64];exact hy) j;rw [W64] at this;rw [<- this]
 congr 1
 omega
theorem Tm {x j:Nat} (hx:x < 18446744073709551616) (h:x.testBit j=true):j < 64:=by
 rcases Nat.lt_or_ge j 64 with h1 | h1
 ·exact h1
 ·rw [Nat.testBit_lt_two_pow (Nat.lt_of_lt_of_le hx (by rw [<- W64];exact Nat.pow_le_pow_right (by decide) h1))] at h;cases h
theorem NM {x y:Nat} (hx:x < 18446744073709551616) (hy:y < 18446744073709551616) (j:Nat):(x &&& (18446744073709551615 - y)).testBit j=(x.testBit j && !y.testBit j):=by
 rw [Nat.testBit_and,V6 hy];cases h:x.testBit j
 ·simp
 ·simp [Tm hx h]
theorem RI {x:Nat} (hx:x < 18446744073709551616) (y:Nat):x &&& y < 18446744073709551616:=Nat.lt_of_le_of_lt Nat.and_le_left hx
theorem UW {x y:Nat} (hx:x < 18446744073709551616) (hy:y < 18446744073709551616):x ||| y < 18446744073709551616:=by rw [<- W64] at *;exact Nat.or_lt_two_pow hx hy
theorem Xr {x y:Nat} (hx:x < 18446744073709551616) (hy:y < 18446744073709551616):x ^^^ y < 18446744073709551616:=by rw [<- W64] at *;exact Nat.xor_lt_two_pow hx hy
theorem VA {W:List Nat} (hW:∀ x∈W,x < 18446744073709551616) {i:Nat} (h:i / 64 < W.length) (j:Nat):BF (W.set (i / 64) (W.getD (i / 64) 0 &&& (18446744073709551615 - 2 ^ (i % 64)))) j=(!decide (j=i) && BF W j):=by
 rw [J4 h];by_cases hq:j / 64=i / 64
 ·rw [if_pos hq,NM (Ee hW _) (Ic i),LD];have e:(i % 64=j % 64)=(j=i):=propext (by omega);unfold BF;rw [hq];simp only [e];exact Bool.and_comm _ _
 ·rw [if_neg hq];have:¬ j=i:=fun h=>hq (by rw [h]);simp [this]
theorem Js (x o j:Nat):(x >>> o <<< o).testBit j=(decide (o<=j) && x.testBit j):=by
 rw [Nat.testBit_shiftLeft];by_cases h:o<=j
 ·rw [Nat.testBit_shiftRight];simp [h]
 ·simp [h]
theorem O1 (x o:Nat):x >>> o <<< o<=x:=by
 rw [Nat.shiftLeft_eq,Nat.shiftRight_eq_div_pow];exact Nat.div_mul_le_self x (2 ^ o)
theorem IV (f:Nat->Bool) (a:Nat):∀ b,BB f (a+b)=BB f a+BB (fun j=>f (a+j)) b
 | 0=>rfl
 | b+1=>by
  have ih:=IV f a b;rw [show a+(b+1)=(a+b)+1 from rfl];cases h:f (a+b)
  ·rw [KJ h,KJ (f:=fun j=>f (a+j)) h,ih]
  ·rw [NC h,NC (f:=fun j=>f (a+j)) h,ih];omega
theorem F6 {f g:Nat->Bool} {k:Nat} (h:∀ i,i < k->f i=g i):BB f k=BB g k:=by unfold BB;rw [JG h]
theorem Xb {f:Nat->Bool} {k:Nat} (n:Nat) (h:∀ i,k<=i->i < k+n->f i=false):BB f (k+n)=BB f k:=by unfold BB;rw [GR n h]
def F8 (x n:Nat):Nat:=BB (fun j=>x.testBit j) n
theorem VU (x n:Nat):F8 x (8+n)=F8 (x % 256) 8+F8 (x / 256) n:=by
 unfold F8;rw [IV]
 congr 1
 ·exact F6 fun i hi=>by
   rw [show 256=2 ^ 8 from rfl,Nat.testBit_mod_two_pow,decide_eq_true hi,Bool.true_and]
 ·exact F6 fun i hi=>by
   rw [show 256=2 ^ 8 from rfl,Nat.testBit_div_two_pow,Nat.add_comm]
def LZ (b:Nat):Nat:=b % 2+b / 2 % 2+b / 4 % 2+b / 8 % 2+b / 16 % 2+b / 32 % 2+b / 64 % 2+b / 128 % 2
theorem D8 (x n:Nat):F8 x (1+n)=x % 2+F8 (x / 2) n:=by
 unfold F8;rw [IV]
 congr 1
 ·have h0:x.testBit 0=decide (x % 2=1):=Nat.testBit_zero x;by_cases h:x % 2=1
  ·rw [show (1:Nat)=0+1 from rfl,NC (by rw [h0,decide_eq_true h])];unfold BB;simp [Bc];omega
  ·rw [show (1:Nat)=0+1 from rfl,KJ (by rw [h0];simp [h])];unfold BB;simp [Bc];omega
 ·exact F6 fun i _=>by rw [Nat.add_comm 1 i,Nat.testBit_succ]
theorem eY (b:Nat):F8 b 8=LZ b:=by
 have e:∀ n,F8 n 0=0:=fun _=>rfl;rw [show (8:Nat)=1+7 from rfl,D8,show (7:Nat)=1+6 from rfl,D8,show (6:Nat)=1+5 from rfl,D8,show (5:Nat)=1+4 from rfl,D8,show (4:Nat)=1+3 from rfl,D8,show (3:Nat)=1+2 from rfl,D8,show (2:Nat)=1+1 from rfl,D8,show (1:Nat)=1+0 from rfl,D8,e];unfold LZ;simp only [Nat.div_div_eq_div_mul,Nat.reduceMul,Nat.add_zero,Nat.reduceAdd];omega
theorem Gy (a b c d:Nat) (ha:a < 256) (hc:c < 256):(a+256 * b) &&& (c+256 * d)=(a &&& c)+256 * (b &&& d):=by
 have h1:((a+256 * b) &&& (c+256 * d)) % 2 ^ 8=a &&& c:=by
  rw [Nat.and_mod_two_pow,show (a+256 * b) % 2 ^ 8=a from by omega,show (c+256 * d) % 2 ^ 8=c from by omega]
 have h2:((a+256 * b) &&& (c+256 * d)) / 2 ^ 8=b &&& d:=by
  rw [Nat.and_div_two_pow,show (a+256 * b) / 2 ^ 8=b from by omega,show (c+256 * d) / 2 ^ 8=d from by omega]
 omega
def CY (c:Nat):Nat->Nat
 | 0=>0
 | n+1=>c+256 * CY c n
theorem Jj (c n:Nat):CY c (n+1)=c+256 * CY c n:=rfl
theorem Iy {p:Nat->Prop} [DecidablePred p] (h:(List.range 256).all fun b=>decide (p b)):∀ b,b < 256->p b:=fun b hb=>by
 have:=List.all_eq_true.1 h b (List.mem_range.2 hb);exact of_decide_eq_true this
def t1 (x M:Nat):Nat:=(x / 2 &&& M)+(x &&& M)
def t2 (x M:Nat):Nat:=(x / 4 &&& M)+(x &&& M)
def t3 (x M:Nat):Nat:=(x / 16+x) &&& M
def b1 (b:Nat):Nat:=(b / 2 &&& 85)+(b &&& 85)
def b2 (b:Nat):Nat:=(b / 4 &&& 51)+(b &&& 51)
def b3 (b:Nat):Nat:=(b / 16+b) &&& 15
theorem dY:∀ b,b < 256->b1 b < 256:=Iy (by decide+kernel)
theorem dX:∀ b,b < 256->b2 (b1 b) / 16<=4/\b2 (b1 b) % 16<=4:=Iy (p:=fun b=>b2 (b1 b) / 16<=4/\b2 (b1 b) % 16<=4) (by decide+kernel)
theorem fV:∀ b,b < 256->b3 (b2 (b1 b))=LZ b:=Iy (by decide+kernel)
theorem hi1:∀ b,b < 256->((b / 2+128) &&& 85=b / 2 &&& 85):=Iy (by decide+kernel)
theorem hi2:∀ b,b < 256->(b / 4+64) &&& 51=b / 4 &&& 51/\(b / 4+128) &&& 51=b / 4 &&& 51/\(b / 4+192) &&& 51=b / 4 &&& 51:=Iy (p:=fun b=>(b / 4+64) &&& 51=b / 4 &&& 51/\(b / 4+128) &&& 51=b / 4 &&& 51/\(b / 4+192) &&& 51=b / 4 &&& 51) (by decide+kernel)
theorem ax (b y n:Nat) (hb:b < 256):t1 (b+256 * y) (CY 85 (n+1))=b1 b+256 * t1 y (CY 85 n):=by
 unfold t1 b1;rw [Jj];have e:(b+256 * y) / 2=(b / 2+128 * (y % 2))+256 * (y / 2):=by omega
 have h:=hi1 b hb;rw [e,Gy _ _ _ _ (by omega) (by decide),Gy _ _ _ _ hb (by decide)];have e2:(b / 2+128 * (y % 2)) &&& 85=b / 2 &&& 85:=by
  rcases (by omega:y % 2=0\/y % 2=1) with h0 | h0
  ·rw [h0,Nat.mul_zero,Nat.add_zero]
  ·rw [h0];exact h
 rw [e2];omega
theorem au (b y n:Nat) (hb:b < 256):t2 (b+256 * y) (CY 51 (n+1))=b2 b+256 * t2 y (CY 51 n):=by
 unfold t2 b2;rw [Jj];have e:(b+256 * y) / 4=(b / 4+64 * (y % 4))+256 * (y / 4):=by omega
 have h:=hi2 b hb;rw [e,Gy _ _ _ _ (by omega) (by decide),Gy _ _ _ _ hb (by decide)];have e2:(b / 4+64 * (y % 4)) &&& 51=b / 4 &&& 51:=by
  rcases (by omega:y % 4=0\/y % 4=1\/y % 4=2\/y % 4=3) with h0 | h0 | h0 | h0
  ·rw [h0,Nat.mul_zero,Nat.add_zero]
  ·rw [h0];exact h.1
  ·rw [h0];exact h.2.1
  ·rw [h0];exact h.2.2
 rw [e2];omega
theorem ZH (x:Nat):x &&& 15=x % 16:=Nat.and_two_pow_sub_one_eq_mod x 4
theorem aj (b y n:Nat) (hb:b / 16<=4/\b % 16<=4) (hy:y % 16<=4):t3 (b+256 * y) (CY 15 (n+1))=b3 b+256 * t3 y (CY 15 n):=by
 unfold t3 b3;rw [Jj];have e:(b+256 * y) / 16+(b+256 * y)=(b / 16+b+16 * (y % 16))+256 * (y / 16+y):=by omega
 rw [e,Gy _ _ _ _ (by omega) (by decide),ZH,ZH];have e2:(b / 16+b+16 * (y % 16)) % 16=(b / 16+b) % 16:=by omega
 rw [e2]
def byN (p:Nat->Nat):Nat->Nat
 | 0=>0
 | n+1=>p 0+256 * byN (fun i=>p (i+1)) n
def BK (x i:Nat):Nat:=x / 256 ^ i % 256
theorem FB (x i:Nat):BK x i < 256:=Nat.mod_lt _ (by decide)
theorem La (x:Nat):BK x 0=x % 256:=by unfold BK;simp
theorem Lc (x i:Nat):BK x (i+1)=BK (x / 256) i:=by
 unfold BK;rw [Nat.pow_succ,Nat.mul_comm,<- Nat.div_div_eq_div_mul]
theorem PY (x:Nat):(fun i=>BK x (i+1))=BK (x / 256):=funext fun i=>Lc x i
theorem QD:∀ n x,x < 256 ^ n->byN (BK x) n=x
 | 0,x,h=>by simp at h;unfold byN;omega
 | n+1,x,h=>by
  unfold byN;rw [PY,QD n _ (by rw [Nat.pow_succ] at h;omega),La];omega
theorem Zy {p:Nat->Nat} (hp:∀ i,p i < 256):∀ n,byN p n < 256 ^ n
 | 0=>by simp [byN]
 | n+1=>by
  have:=Zy (p:=fun i=>p (i+1)) (fun i=>hp (i+1)) n;have:=hp 0;unfold byN;rw [Nat.pow_succ];omega
theorem XR (p:Nat->Nat) (hp:∀ i,p i < 256):∀ n,t1 (byN p n) (CY 85 n)=byN (fun i=>b1 (p i)) n
 | 0=>by simp [byN,t1,CY]
 | n+1=>by
  have ih:=XR (fun i=>p (i+1)) (fun i=>hp (i+1)) n;unfold byN;rw [ax _ _ _ (hp 0),ih]
theorem XQ (p:Nat->Nat) (hp:∀ i,p i < 256):∀ n,t2 (byN p n) (CY 51 n)=byN (fun i=>b2 (p i)) n
 | 0=>by simp [byN,t2,CY]
 | n+1=>by
  have ih:=XQ (fun i=>p (i+1)) (fun i=>hp (i+1)) n;unfold byN;rw [au _ _ _ (hp 0),ih]
theorem dN {p:Nat->Nat} (hp:∀ i,p i % 16<=4):∀ n,byN p n % 16<=4
 | 0=>by simp [byN]
 | n+1=>by have:=hp 0;unfold byN;omega
theorem XP (p:Nat->Nat) (hp:∀ i,p i / 16<=4/\p i % 16<=4):∀ n,t3 (byN p n) (CY 15 n)=byN (fun i=>b3 (p i)) n
 | 0=>by simp [byN,t3,CY]
 | n+1=>by
  have ih:=XP (fun i=>p (i+1)) (fun i=>hp (i+1)) n;unfold byN;rw [aj _ _ _ (hp 0) (dN (fun i=>(hp (i+1)).2) n),ih]
theorem LY:∀ n x,F8 x (8 * n)=(List.range n).foldr (fun i s=>LZ (BK x i)+s) 0
 | 0,x=>rfl
 | n+1,x=>by
  rw [show 8 * (n+1)=8+8 * n from by omega,VU,eY,LY n,List.range_succ_eq_map,List.foldr_cons,List.foldr_map,La];simp only [Lc]
theorem EL (b:Nat):LZ b<=8:=by unfold LZ;omega
theorem Xl {a0 a1 a2 a3 a4 a5 a6 a7 z y u:Nat} (q0:a0<=8) (q1:a1<=8) (q2:a2<=8) (q3:a3<=8) (q4:a4<=8) (q5:a5<=8) (q6:a6<=8) (q7:a7<=8)
  (hz:z=a0+256 * (a1+256 * (a2+256 * (a3+256 * (a4+256 * (a5+256 * (a6+256 * (a7+256 * 0)))))))) (hy:y=z+z / 256) (hu:u=y+y / 65536):(u+u / 4294967296) % 128=a0+(a1+(a2+(a3+(a4+(a5+(a6+(a7+0))))))):=by
 obtain ⟨Z6,e6⟩:∃ Z6,Z6=a6+256 * (a7+256 * 0):=⟨_,rfl⟩
 obtain ⟨Z5,e5⟩:∃ Z5,Z5=a5+256 * Z6:=⟨_,rfl⟩
 obtain ⟨Z4,e4⟩:∃ Z4,Z4=a4+256 * Z5:=⟨_,rfl⟩
 obtain ⟨Z3,e3⟩:∃ Z3,Z3=a3+256 * Z4:=⟨_,rfl⟩
 obtain ⟨Z2,e2⟩:∃ Z2,Z2=a2+256 * Z3:=⟨_,rfl⟩
 obtain ⟨Z1,e1⟩:∃ Z1,Z1=a1+256 * Z2:=⟨_,rfl⟩
 rw [<- e6,<- e5,<- e4,<- e3,<- e2,<- e1] at hz;have h1:z / 256=Z1:=by clear hy hu e1 e2 e3 e4 e5 e6;omega
 rw [h1] at hy;have h2:y / 65536=Z2+Z3:=by clear hu e3 e4 e5 e6 h1;omega
 rw [h2] at hu;have y2:y=(a0+256 * a1+65536 * a2+16777216 * a3+4294967296 * Z4)+(a1+256 * a2+65536 * a3+16777216 * a4+4294967296 * Z5):=by clear hu h1 h2;omega
 have z2:Z2=a2+256 * a3+65536 * a4+16777216 * a5+4294967296 * Z6:=by clear hu h1 h2 hy hz e6;omega
 have z3:Z3=a3+256 * a4+65536 * a5+16777216 * a6+4294967296 * a7:=by clear hu h1 h2 hy hz;omega
 rw [y2,z2,z3] at hu;have h3:u / 4294967296=Z4+Z5+Z6+a7:=by clear h1 h2 hy hz y2 z2 z3 e1 e2 e3 e4 e5 e6;omega
 rw [h3,hu,e4,e5,e6];clear h1 h2 hy hz y2 z2 z3 e1 e2 e3 e4 e5 e6 h3 hu;omega
theorem aX (x:Nat) (hx:x < 18446744073709551616):∃ z,z=t3 (t2 (t1 x 6148914691236517205) 3689348814741910323) 1085102592571150095/\z < 2 ^ 60/\
  t1 x 6148914691236517205 < 18446744073709551616/\t2 (t1 x 6148914691236517205) 3689348814741910323 < 4919131752989213765/\
  (z+z / 256+(z+z / 256) / 65536+(z+z / 256+(z+z / 256) / 65536) / 4294967296) % 128=F8 x 64/\F8 x 64<=64:=by
 have m1:(6148914691236517205:Nat)=CY 85 8:=by decide
 have m2:(3689348814741910323:Nat)=CY 51 8:=by decide
 have m3:(1085102592571150095:Nat)=CY 15 8:=by decide
 have e:=QD 8 x (by rw [show (256:Nat) ^ 8=18446744073709551616 from by decide];exact hx);have e1:t1 x (CY 85 8)=byN (fun i=>b1 (BK x i)) 8:=by
  conv=>lhs;rw [<- e]
  exact XR _ (FB x) 8
 have e2:t2 (t1 x (CY 85 8)) (CY 51 8)=byN (fun i=>b2 (b1 (BK x i))) 8:=by
  rw [e1];exact XQ _ (fun i=>dY _ (FB x i)) 8
 have e3:t3 (t2 (t1 x (CY 85 8)) (CY 51 8)) (CY 15 8)=byN (fun i=>LZ (BK x i)) 8:=by
  rw [e2,XP _ (fun i=>dX _ (FB x i)) 8]
  congr 1
  funext i;exact fV _ (FB x i)
 have l1:=Zy (p:=fun i=>b1 (BK x i)) (fun i=>dY _ (FB x i)) 8;have l2:byN (fun i=>b2 (b1 (BK x i))) 8 < 4919131752989213765:=by
  have h:∀ i,b2 (b1 (BK x i))<=68:=fun i=>by have:=dX _ (FB x i);omega
  simp only [byN];have h0:=h 0;have h1:=h 1;have h2:=h 2;have h3:=h 3;have h4:=h 4;have h5:=h 5;have h6:=h 6;have h7:=h 7;simp only [Nat.zero_add,Nat.reduceAdd] at *
  omega
 have hp:=LY 8 x;rw [m1,m2,m3,e3,e2,e1];refine ⟨_,rfl,?_⟩;have r8:List.range 8=[0,1,2,3,4,5,6,7]:=by decide
 rw [r8] at hp;simp only [List.foldr_cons,List.foldr_nil,Nat.reduceMul] at hp;rw [hp];have q0:=EL (BK x 0);have q1:=EL (BK x 1);have q2:=EL (BK x 2);have q3:=EL (BK x 3);have q4:=EL (BK x 4);have q5:=EL (BK x 5);have q6:=EL (BK x 6);have q7:=EL (BK x 7);rw [show (256:Nat) ^ 8=18446744073709551616 from by decide] at l1;refine ⟨?_,l1,l2,?_,?_⟩
 ·clear l1 l2 e1 e2 e3 e hp;simp only [byN,Nat.zero_add,Nat.reduceAdd];omega
 ·clear l1 l2 e1 e2 e3 e hp;simp only [byN,Nat.zero_add,Nat.reduceAdd];exact Xl q0 q1 q2 q3 q4 q5 q6 q7 rfl rfl rfl
 ·omega
end Go.Inc
