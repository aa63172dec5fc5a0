/- MADE SMALL. -/
namespace Go.Inc.Crc
def Po:Nat:=2197175160
def S (r:Nat):Nat:=if r % 2=1 then (r / 2) ^^^ Po else r / 2
def S8 (r:Nat):Nat:=S (S (S (S (S (S (S (S r)))))))
def byte (r c:Nat):Nat:=S8 (r ^^^ c)
def run (r:Nat) (bs:List Nat):Nat:=bs.foldl byte r
def sum (bs:List Nat):Nat:=run 4294967295 bs ^^^ 4294967295
theorem gu (r:Nat):S r=(r / 2) ^^^ (if r % 2=1 then Po else 0):=by
 unfold S;split<;>simp
theorem P9 (a b:Nat):(a ^^^ b) % 2=(a % 2+b % 2) % 2:=by
 have h:(a ^^^ b).testBit 0=(a.testBit 0 ^^ b.testBit 0):=Nat.testBit_xor a b 0;simp only [Nat.testBit_zero] at h;rcases Nat.mod_two_eq_zero_or_one a with ha | ha<;>rcases Nat.mod_two_eq_zero_or_one b with hb | hb <;>
  rcases Nat.mod_two_eq_zero_or_one (a ^^^ b) with hc | hc<;>simp [ha,hb,hc] at h ⊢
theorem Xt (a b:Nat):(a ^^^ b) / 2=(a / 2) ^^^ (b / 2):=by
 apply Nat.eq_of_testBit_eq;intro i;simp [Nat.testBit_xor,<- Nat.testBit_succ]
theorem iq (a b:Nat):S (a ^^^ b)=S a ^^^ S b:=by
 rw [gu,gu,gu,Xt,P9];rcases Nat.mod_two_eq_zero_or_one a with ha | ha<;>rcases Nat.mod_two_eq_zero_or_one b with hb | hb<;>simp [ha,hb]
 ·rw [Nat.xor_assoc]
 ·rw [Nat.xor_assoc,Nat.xor_assoc,Nat.xor_comm Po]
 ·rw [Nat.xor_assoc,Nat.xor_comm Po (b / 2 ^^^ Po),Nat.xor_assoc,Nat.xor_self,Nat.xor_zero]
theorem ZN (a b:Nat):S8 (a ^^^ b)=S8 a ^^^ S8 b:=by
 unfold S8;simp only [iq]
theorem iy:Po < 2 ^ 32:=by decide
theorem S_lt (r:Nat) (h:r < 4294967296):S r < 4294967296:=by
 unfold S;split
 ·exact Nat.xor_lt_two_pow (n:=32) (by omega) iy
 ·omega
theorem S8_lt (r:Nat) (h:r < 4294967296):S8 r < 4294967296:=by
 unfold S8;exact S_lt _ (S_lt _ (S_lt _ (S_lt _ (S_lt _ (S_lt _ (S_lt _ (S_lt _ h)))))))
theorem xor_lt {a b:Nat} (ha:a < 4294967296) (hb:b < 4294967296):a ^^^ b < 4294967296:=
 Nat.xor_lt_two_pow (n:=32) ha hb
theorem dM (r c:Nat) (h:r < 4294967296) (hc:c < 256):byte r c < 4294967296:=S8_lt _ (xor_lt h (by omega))
theorem run_lt (bs:List Nat):∀ r,r < 4294967296->(∀ x∈bs,x < 256)->run r bs < 4294967296:=by
 induction bs with
 | nil=>intro r h _;exact h
 | cons b bs ih=>
  intro r h hb;exact ih _ (dM _ _ h (hb b (by simp))) (fun x hx=>hb x (by simp [hx]))
theorem sum_lt (bs:List Nat) (hb:∀ x∈bs,x < 256):sum bs < 4294967296:=xor_lt (run_lt bs _ (by decide) hb) (by decide)
theorem run_append (r:Nat) (a b:List Nat):run r (a++b)=run (run r a) b:=by simp [run]
theorem run_snoc (r:Nat) (a:List Nat) (c:Nat):run r (a++[c])=byte (run r a) c:=by simp [run]
theorem ZM (m:Nat):S (2 * m)=m:=by unfold S;rw [if_neg (by omega)];omega
theorem gy (m:Nat):S8 (256 * m)=m:=by
 unfold S8;rw [show 256 * m=2 * (2 * (2 * (2 * (2 * (2 * (2 * (2 * m))))))) from by omega];simp only [ZM]
theorem SB (r:Nat):r=(256 * (r / 256)) ^^^ (r % 256):=by
 have h:256 * (r / 256)+r % 256=(256 * (r / 256)) ^^^ (r % 256):=by
  have:=Nat.two_pow_add_eq_or_of_lt (i:=8) (b:=r % 256) (by omega) (r / 256);rw [show (2:Nat) ^ 8=256 from rfl] at this;rw [this];apply Nat.eq_of_testBit_eq;intro i;rw [Nat.testBit_or,Nat.testBit_xor];by_cases hi:i < 8
  ·have:(256 * (r / 256)).testBit i=false:=by
    rw [show 256 * (r / 256)=(r / 256) * 2 ^ 8 from by omega,Nat.testBit_mul_two_pow];simp;omega
   rw [this];simp
  ·have:(r % 256).testBit i=false:=by
    apply Nat.testBit_lt_two_pow;exact Nat.lt_of_lt_of_le (show r % 256 < 2 ^ 8 by omega) (Nat.pow_le_pow_right (by decide) (by omega))
   rw [this];simp
 omega
theorem ZO (r:Nat):S8 r=(r / 256) ^^^ S8 (r % 256):=by
 conv=>lhs;rw [SB r]
 rw [ZN,gy]
theorem byte_table (r c:Nat) (hc:c < 256):byte r c=(r / 256) ^^^ S8 ((r % 256) ^^^ c):=by
 unfold byte;rw [ZO];have h1:(r ^^^ c) / 256=r / 256:=by
  apply Nat.eq_of_testBit_eq;intro i;rw [show (256:Nat)=2 ^ 8 from rfl,Nat.testBit_div_two_pow,Nat.testBit_div_two_pow,Nat.testBit_xor];have:c.testBit (i+8)=false:=Nat.testBit_lt_two_pow (Nat.lt_of_lt_of_le (show c < 2 ^ 8 by omega) (Nat.pow_le_pow_right (by decide) (by omega)));simp [this]
 have h2:(r ^^^ c) % 256=(r % 256) ^^^ c:=by
  apply Nat.eq_of_testBit_eq;intro i;rw [show (256:Nat)=2 ^ 8 from rfl,Nat.testBit_mod_two_pow,Nat.testBit_xor,Nat.testBit_xor,Nat.testBit_mod_two_pow];by_cases hi:i < 8
  ·simp [hi]
  ·have:c.testBit i=false:=Nat.testBit_lt_two_pow (Nat.lt_of_lt_of_le (show c < 2 ^ 8 by omega) (Nat.pow_le_pow_right (by decide) (by omega)));simp [hi,this]
 rw [h1,h2]
theorem S8_bit (j k:Nat) (hk:k < 2 ^ j):S8 (2 ^ j+k)=S8 (2 ^ j) ^^^ S8 k:=by
 rw [<- ZN]
 congr 1
 have:=Nat.two_pow_add_eq_or_of_lt (i:=j) (b:=k) hk 1;rw [Nat.mul_one] at this;rw [this];apply Nat.eq_of_testBit_eq;intro i;rw [Nat.testBit_or,Nat.testBit_xor,Nat.testBit_two_pow];by_cases hi:j=i
 ·subst hi;simp [Nat.testBit_lt_two_pow hk]
 ·simp [hi]
end Go.Inc.Crc
namespace Go.Inc.Var
def put (n:Nat):List Nat:=if h:n < 128 then [n] else (n % 128+128)::put (n / 128)
 termination_by n
 decreasing_by omega
theorem put_low {n:Nat} (h:n < 128):put n=[n]:=by rw [put];simp [h]
theorem put_more {n:Nat} (h:128<=n):put n=(n % 128+128)::put (n / 128):=by rw [put];simp [show ¬ n < 128 by omega]
theorem Qv (n:Nat):1<=(put n).length:=by
 by_cases h:n < 128
 ·rw [put_low h];simp
 ·rw [put_more (by omega)];simp
theorem put_len (k:Nat):∀ n,n < 128 ^ k->1<=k->(put n).length<=k:=by
 induction k with
 | zero=>intro n _ h;omega
 | succ k ih=>
  intro n hn _;by_cases h:n < 128
  ·rw [put_low h];simp
  ·rw [put_more (by omega),List.length_cons];have hk:1<=k:=by
    rcases Nat.eq_zero_or_pos k with rfl | h'
    ·simp at hn;omega
    ·omega
   have:=ih (n / 128) (by rw [Nat.pow_succ] at hn;omega) hk;omega
theorem put_ten {n:Nat} (h:n < 18446744073709551616):(put n).length<=10:=put_len 10 n (by omega) (by omega)
def get (g:Nat):Nat->Nat->List Nat->Nat×Nat×Nat
 | i,_,[]=>(0,i,4)
 | i,n,c::bs=>
  if i=10\/(0 < i/\c=0)\/(g - n) / 128 ^ i < c % 128 then (0,i,3)
  else if c < 128 then (n+c % 128 * 128 ^ i,i+1,0)
  else get g (i+1) (n+c % 128 * 128 ^ i) bs
theorem get_nil (G k n:Nat):get G k n []=(0,k,4):=rfl
theorem get_bad {G k n c:Nat} {bs:List Nat} (h:k=10\/(0 < k/\c=0)\/(G - n) / 128 ^ k < c % 128):get G k n (c::bs)=(0,k,3):=by rw [get,if_pos h]
theorem get_last {G k n c:Nat} {bs:List Nat} (h:¬ (k=10\/(0 < k/\c=0)\/(G - n) / 128 ^ k < c % 128)) (hc:c < 128):get G k n (c::bs)=(n+c % 128 * 128 ^ k,k+1,0):=by rw [get,if_neg h,if_pos hc]
theorem get_next {G k n c:Nat} {bs:List Nat} (h:¬ (k=10\/(0 < k/\c=0)\/(G - n) / 128 ^ k < c % 128)) (hc:¬ c < 128):get G k n (c::bs)=get G (k+1) (n+c % 128 * 128 ^ k) bs:=by rw [get,if_neg h,if_neg hc]
theorem next_le {G k n c:Nat} (hn:n<=G) (h:¬ (G - n) / 128 ^ k < c % 128):n+c % 128 * 128 ^ k<=G:=by
 have h1:c % 128<=(G - n) / 128 ^ k:=by omega
 have h2:=(Nat.le_div_iff_mul_le (Nat.pow_pos (n:=k) (by omega:0 < 128))).1 h1;omega
theorem next_lt {k n c:Nat} (hn:n < 128 ^ k):n+c % 128 * 128 ^ k < 128 ^ (k+1):=by
 have h:c % 128<=127:=by omega
 have:=Nat.mul_le_mul_right (128 ^ k) h;rw [Nat.pow_succ];omega
theorem pow_128 (k:Nat):(2:Nat) ^ (7 * k)=128 ^ k:=by rw [Nat.pow_mul]
theorem or_next {k n y:Nat} (hn:n < 128 ^ k):n ||| (y * 128 ^ k)=n+y * 128 ^ k:=by
 rw [<- pow_128] at hn ⊢;have:=Nat.two_pow_add_eq_or_of_lt hn y;rw [Nat.mul_comm y,Nat.or_comm,<- this,Nat.add_comm]
def val (g:Nat) (bs:List Nat):Nat:=(get g 0 0 bs).1
def pos (g:Nat) (bs:List Nat):Nat:=(get g 0 0 bs).2.1
def err (g:Nat) (bs:List Nat):Nat:=(get g 0 0 bs).2.2
theorem OQ (g:Nat):∀ bs i n,n<=g->(get g i n bs).1<=g/\i<=(get g i n bs).2.1/\(get g i n bs).2.1<=i+bs.length/\
  ((get g i n bs).2.2=0\/(get g i n bs).2.2=3\/(get g i n bs).2.2=4)/\((get g i n bs).2.2≠0->(get g i n bs).1=0)/\((get g i n bs).2.2=0->i < (get g i n bs).2.1):=by
 intro bs
 induction bs with
 | nil=>intro i n h;simp [get]
 | cons c bs ih=>
  intro i n h;unfold get;split
  ·simp
  ·rename_i hc
   have hle:n+c % 128 * 128 ^ i<=g:=by
    have h1:c % 128<=(g - n) / 128 ^ i:=by omega
    have h2:=(Nat.le_div_iff_mul_le (Nat.pow_pos (n:=i) (by omega:0 < 128))).1 h1;omega
   split
   ·simp;omega
   ·have:=ih (i+1) _ hle;refine ⟨this.1,by omega,by rw [List.length_cons];omega,this.2.2.2.1,this.2.2.2.2.1,fun h=>by have:=this.2.2.2.2.2 h;omega⟩
theorem val_le (g:Nat) (bs:List Nat):val g bs<=g:=(OQ g bs 0 0 (Nat.zero_le _)).1
theorem val_bad {g:Nat} {bs:List Nat} (h:err g bs≠0):val g bs=0:=(OQ g bs 0 0 (Nat.zero_le _)).2.2.2.2.1 h
theorem cu (g:Nat):∀ m i n rest,n+m * 128 ^ i<=g->i+(put m).length<=10->(0 < i->0 < m)->get g i n (put m++rest)=(n+m * 128 ^ i,i+(put m).length,0):=by
 intro m
 induction m using Nat.strongRecOn with
 | _ m ih=>
  intro i n rest hg hl hp;have hpow:0 < 128 ^ i:=Nat.pow_pos (by omega);have key:∀ x,x<=m->¬ (g - n) / 128 ^ i < x:=by
   intro x hx;have:x<=(g - n) / 128 ^ i:=(Nat.le_div_iff_mul_le hpow).2 (by
    have:=Nat.mul_le_mul_right (128 ^ i) hx;omega)
   omega
  by_cases h:m < 128
  ·rw [put_low h] at hl ⊢;simp only [List.length_cons,List.length_nil] at hl;have hm:m % 128=m:=Nat.mod_eq_of_lt h;simp only [List.cons_append,List.nil_append,get];rw [if_neg,if_pos h,hm]
   ·rfl
   ·rw [hm];have:=key m (Nat.le_refl _);omega
  ·rw [put_more (by omega)] at hl ⊢;rw [List.length_cons] at hl;have h1:=Qv (m / 128);have hm:(m % 128+128) % 128=m % 128:=by omega
   simp only [List.cons_append,get];have hsum:m % 128 * 128 ^ i+m / 128 * 128 ^ (i+1)=m * 128 ^ i:=by
    rw [Nat.pow_succ,Nat.mul_comm (128 ^ i) 128,<- Nat.mul_assoc,<- Nat.add_mul]
    congr 1
    omega
   rw [if_neg,if_neg (by omega),hm,ih (m / 128) (by omega) (i+1) _ rest (by omega) (by omega) (by omega),List.length_cons]
   ·rw [show n+m % 128 * 128 ^ i+m / 128 * 128 ^ (i+1)=n+m * 128 ^ i from by omega,show i+1+(put (m / 128)).length=i+((put (m / 128)).length+1) from by omega]
   ·rw [hm];have:=key (m % 128) (Nat.mod_le _ _);omega
theorem MZ {g m:Nat} (hg:m<=g) (hb:m < 18446744073709551616) (rest:List Nat):get g 0 0 (put m++rest)=(m,(put m).length,0):=by
 have:=cu g m 0 0 rest (by simpa using hg) (by have:=put_ten hb;omega) (by omega);simpa using this
theorem val_put {g m:Nat} (hg:m<=g) (hb:m < 18446744073709551616) (rest:List Nat):val g (put m++rest)=m:=by unfold val;rw [MZ hg hb]
theorem pos_put {g m:Nat} (hg:m<=g) (hb:m < 18446744073709551616) (rest:List Nat):pos g (put m++rest)=(put m).length:=by unfold pos;rw [MZ hg hb]
theorem err_put {g m:Nat} (hg:m<=g) (hb:m < 18446744073709551616) (rest:List Nat):err g (put m++rest)=0:=by unfold err;rw [MZ hg hb]
def DX:Nat->Nat->List Nat
 | 0,_=>[]
 | k+1,n=>n % 256::DX k (n / 256)
def num:List Nat->Nat
 | []=>0
 | c::bs=>c+256 * num bs
theorem num_lt (bs:List Nat) (h:∀ x∈bs,x < 256):num bs < 256 ^ bs.length:=by
 induction bs with
 | nil=>simp [num]
 | cons c bs ih=>
  have h1:=ih (fun x hx=>h x (List.mem_cons_of_mem _ hx));have h2:=h c (by simp);rw [num,List.length_cons,Nat.pow_succ];omega
theorem num_snoc (bs:List Nat) (c:Nat):num (bs++[c])=num bs+c * 256 ^ bs.length:=by
 induction bs with
 | nil=>simp [num]
 | cons b bs ih=>
  rw [List.cons_append,num,ih,num,List.length_cons,Nat.pow_succ,Nat.mul_add,<- Nat.add_assoc]
  congr 1
  rw [Nat.mul_comm (256 ^ bs.length) 256,<- Nat.mul_assoc,Nat.mul_comm 256 c,Nat.mul_assoc]
end Go.Inc.Var
