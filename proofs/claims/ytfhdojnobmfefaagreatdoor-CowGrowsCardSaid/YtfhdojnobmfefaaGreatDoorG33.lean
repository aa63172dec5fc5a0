/- MADE SMALL. -/
import Derived.Test.YtfhdojnobmfefaaGreatDoorG32
import Derived.Shelf.Spec.TrailingZeros
import Derived.Test.YtfhdojnobmfefaaGreatDoorG29
namespace Go.Proofs.YtfhdojnobmfefaaGreatDoor
open Go.RowKit Go.Inc
def Tab (w:World):Prop:=TabAt 0 Lib.deBruijn64tab w
theorem Tab.mv {F:Nat->Prop} {w w':World} (h:Tab w) (hm:Mv F w w') (hf:¬ F 0):Tab w':=fun j hj=>hm.cell (h j hj) hf
theorem Tab.below {w w':World} (h:Tab w) (hb:Below w.heap.size w w'):Tab w':=h.mv (F:=fun _=>False) (Mv.of_below hb) id
set_option maxHeartbeats 1000000 in
theorem Z9 (x k idx:Nat) (w:World) (hx0:((x:Int) == 0)=false)
  (key:IntKind.u64.wrap (bits BinOp.and IntKind.u64 (x:Int) (IntKind.u64.wrap (-(x:Int))) * 285870213051353865) / 288230376151711744=(idx:Int))
  (hi:idx < 64) (hk:k < 64) (hcell:w.cell? ⟨0,idx,none⟩=some (.int .u8 k)) :
  Calls Tryz.prog 157 #[.int .u64 x] w fun e w'=>e=.returned (.int .i64 k)/\w=w':=by
 go_enter Tryz.func157,Tryz.ntmps157
 go_wp2_with (simp only [key])
 go_ret
 exact ⟨rfl,rfl⟩
theorem eH (x:Nat) (w:World) (hx:x < 18446744073709551616) (h0:x≠0) (hT:Tab w) :
  Calls Tryz.prog 157 #[.int .u64 x] w fun e w'=>e=.returned (.int .i64 (Lib.ctz 64 x))/\w=w':=by
 obtain ⟨hlow,hk⟩:=Lib.lowest_bit 64 x h0 hx;obtain ⟨hi,htab⟩:=Lib.deBruijn64_at _ hk;have hcell:=hT _ hi;rw [htab] at hcell;exact Z9 x _ _ w (by simp;omega) (tz64_key x _ hx h0 hlow) hi hk hcell
theorem dJ {x:Nat} (h0:x≠0) (hx:x < 18446744073709551616):x.testBit (Lib.ctz 64 x)=true/\Lib.ctz 64 x < 64/\∀ j,j < Lib.ctz 64 x->x.testBit j=false:=by
 obtain ⟨m,hm,hk⟩:=Lib.ctzFrom_spec 64 x (by omega) hx;have e:Lib.ctz 64 x=Lib.ctzFrom 64 x:=by simp [Lib.ctz,h0]
 rw [e];generalize Lib.ctzFrom 64 x=k at *
 refine ⟨?_,hk,fun j hj=>?_⟩
 ·rw [hm,Nat.mul_comm,Nat.testBit_mul_two_pow];simp [Nat.testBit_zero]
 ·rw [hm,Nat.mul_comm,Nat.testBit_mul_two_pow];simp;omega
def NoneTo (m:List Bool) (no:Int) (b:Bool) (k:Nat):Prop:=∀ i:Nat,i < k->¬ (no<=i/\inB m i=b)
theorem NoneTo.none {m:List Bool} {no:Int} {b:Bool} {k:Nat} (h:NoneTo m no b k) (hk:m.length<=k):I5 (inB m) no b m.length=-1:=IJ fun i hi=>h i (by omega)
theorem NoneTo.first {m:List Bool} {no:Int} {b:Bool} {k:Nat} (h:NoneTo m no b k) (hk:k < m.length) (h1:no<=k) (h2:inB m k=b):I5 (inB m) no b m.length=k:=GU ⟨h1,h2⟩ h hk
theorem NoneTo.more {m:List Bool} {no:Int} {b:Bool} {k n:Nat} (h:NoneTo m no b k) (hn:∀ j,j < n->inB m (k+j)=!b):NoneTo m no b (k+n):=fun i hi hh=>by
 by_cases hik:i < k
 ·exact h i hik hh
 ·have e:=hn (i - k) (by omega);rw [show k+(i - k)=i from by omega,hh.2] at e;cases b<;>cases e
theorem Jd {m:List Bool} {W:List Nat} {T k j:Nat} {tb:Bool} (hb:∀ i,BF W i=inB m i) (hT:∀ j,j < 64->T.testBit j=tb) (hj:k % 64+j < 64) :
  ((W.getD (k / 64) 0 ^^^ T) >>> (k % 64)).testBit j=(inB m (k+j) ^^ tb):=by
 rw [Nat.testBit_shiftRight,Nat.testBit_xor,hT _ hj,<- hb (k+j)];unfold BF;rw [show (k+j) / 64=k / 64 from by omega,show (k+j) % 64=k % 64+j from by omega]
theorem bx1 {p tb:Bool} (h:false=(p ^^ tb)):p=!(!tb):=by cases p<;>cases tb<;>simp_all
theorem bx2 {p tb:Bool} (h:true=(p ^^ tb)):p=!tb:=by cases p<;>cases tb<;>simp_all
theorem VK {m:List Bool} {W:List Nat} {T k:Nat} {tb:Bool} (hb:∀ i,BF W i=inB m i) (hT:∀ j,j < 64->T.testBit j=tb) (h0:(W.getD (k / 64) 0 ^^^ T) >>> (k % 64)=0) :
  ∀ j,j < 64 - k % 64->inB m (k+j)=!(!tb):=fun j hj=>by
 have e:=Jd (k:=k) (j:=j) hb hT (by omega);rw [h0,Nat.zero_testBit] at e;exact bx1 e
theorem X7 {m:List Bool} {W:List Nat} {T k x:Nat} {tb:Bool} (hb:∀ i,BF W i=inB m i) (hT:∀ j,j < 64->T.testBit j=tb) (hW:W.getD (k / 64) 0 < 18446744073709551616) (hT2:T < 18446744073709551616) (hx:x=(W.getD (k / 64) 0 ^^^ T) >>> (k % 64)) (h0:x≠0) :
  x < 18446744073709551616/\k % 64+Lib.ctz 64 x < 64/\inB m (k+Lib.ctz 64 x)=(!tb)/\∀ j,j < Lib.ctz 64 x->inB m (k+j)=!(!tb):=by
 have hy:W.getD (k / 64) 0 ^^^ T < 18446744073709551616:=Xr hW hT2;have hxl:x < 18446744073709551616:=by
  rw [hx,Nat.shiftRight_eq_div_pow];exact Nat.lt_of_le_of_lt (Nat.div_le_self _ _) hy
 obtain ⟨hb1,hb2,hb3⟩:=dJ h0 hxl;generalize Lib.ctz 64 x=z at *
 have hz:k % 64+z < 64:=by
  have h:=hb1;rw [hx,Nat.testBit_shiftRight] at h;exact Tm hy h
 refine ⟨hxl,hz,?_,fun j hj=>?_⟩
 ·have e:=Jd (k:=k) (j:=z) hb hT hz;rw [<- hx,hb1] at e;exact bx2 e
 ·have e:=Jd (k:=k) (j:=j) hb hT (by omega);rw [<- hx,hb3 j hj] at e;exact bx1 e
def I8 (L:Int):Value:=if 0<=L then .tuple #[.int .i64 L,.int .i64 0] else .tuple #[.int .i64 0,.int .i64 7]
theorem Jg {L:Int} (h:L=-1):I8 L=.tuple #[.int .i64 0,.int .i64 7]:=by subst h;rfl
theorem Ql {L:Int} {k:Nat} (h:L=k):I8 L=.tuple #[.int .i64 (k:Int),.int .i64 0]:=by subst h;unfold I8;rw [if_pos (by omega)]
set_option maxRecDepth 20000 in
set_option maxHeartbeats 1000000 in
theorem X8 (ok:Nat->Prop) (v:Value) (m:List Bool) (no:Int) (tb:Bool) (T:Nat) (w:World) (h:Bm ok w v m) (ht:Tab w) (hT:T < 18446744073709551616) (hTb:∀ j,j < 64->T.testBit j=tb)
  (h1:-9223372036854775808<=no) (h2:no<=9223372036854775807) :
  Calls Tryz.prog 135 #[v,.int .i64 no,.int .u64 (T:Int)] w fun e w'=>e=.returned (I8 (I5 (inB m) no (!tb) m.length))/\w=w':=by
 have HB0:=hid h;have HTB:=hid hTb;obtain ⟨S,hS⟩:∃ S,S=m.length:=⟨_,rfl⟩
 have HS:=hid hS;have hs2:(S:Int)<=2048:=by have:=h.len;omega
 obtain ⟨n0,hn0⟩:∃ n0,n0=(max no 0).toNat:=⟨_,rfl⟩
 have hmax:max no 0=(n0:Int):=by omega
 have hn1:(n0:Int)<=9223372036854775807:=by omega
 have HNO:Hid (no<=n0):=hid (by omega);have HN0:Hid (NoneTo m no (!tb) n0):=hid fun i hi hh=>by omega
 have HSZ:Hid (Calls Tryz.prog 150 #[v] w fun e w'=>e=.returned (.int .i64 (S:Int))/\w=w'):=hid (by rw [HS.out];exact Hy ok v m w h);have HTZ:Hid (∀ x:Nat,x < 18446744073709551616->x≠0->Calls Tryz.prog 157 #[.int .u64 (x:Int)] w fun e w'=>e=.returned (.int .i64 (Lib.ctz 64 x))/\w=w'):=hid fun x hx h0=>eH x w hx h0 ht;clear h ht hTb hS hn0
 go_enter Tryz.func135,Tryz.ntmps135
 go_wp2_with fail
 go_loop [8] (fun i=>∃ k:Nat,(k:Int)<=9223372036854775807/\no<=k/\i=.int .i64 (k:Int)/\NoneTo m no (!tb) k) (fun i=>S - (intOf i).toNat)
 case atStart=>exact ⟨n0,hn1,HNO.out,rfl,HN0.out⟩
 case round=>
  obtain ⟨k,hk,hnk,rfl,hno⟩:=hrel;have HK:=hid hno;clear hno HN0 hmax;by_cases hlt:(k:Int) < S
  ·rcases HB0.out with ⟨_,hm⟩ | ⟨b,g,c,W,rfl,hob,hog,hat,hbits⟩
   ·have:=HS.out;rw [hm] at this;simp at this;omega
   have hlen:=hat.len;obtain ⟨q,hq⟩:∃ q,q=k / 64:=⟨_,rfl⟩
   have hqn:q < W.length:=by rw [hq,hlen,<- HS.out];omega
   have hc1:=hat.hw;have hc2:=hat.cell hqn;have hW:=Ee hat.fits q;have HBT:=hid hbits;obtain ⟨u,hu⟩:∃ u,u=W.getD q 0:=⟨_,rfl⟩
   obtain ⟨r,hr⟩:∃ r,r=k % 64:=⟨_,rfl⟩
   obtain ⟨y,hy⟩:∃ y,y=u ^^^ T:=⟨_,rfl⟩
   obtain ⟨x,hx⟩:∃ x,x=y >>> r:=⟨_,rfl⟩
   rw [<- hu] at hc2 hW;have hxor:bits .xor .u64 (u:Int) (T:Int)=(y:Int):=by rw [hy];exact u64_xor_nat u T hW hT
   have hsh:(y:Int) / 2 ^ r=(x:Int):=by rw [hx,Nat.shiftRight_eq_div_pow];simp
   have HX:Hid (x=(W.getD (k / 64) 0 ^^^ T) >>> (k % 64)):=hid (by rw [hx,hy,hu,hq,hr]);have hki:(k:Int) / 64=(q:Int):=by omega
   have hkr:(k:Int) % 64=(r:Int):=by omega
   have hr64:(r:Int) < 64:=by omega
   obtain ⟨n,hn⟩:∃ n,n=W.length:=⟨_,rfl⟩
   rw [<- hn] at hc1 hqn;have hqn':(q:Int) < (n:Int):=by omega
   have hq32:(q:Int) < 32:=by omega
   have HQ:=hid (And.intro hq hr);have HW:Hid (W.getD (k / 64) 0 < 18446744073709551616):=hid (by rw [<- hq,<- hu];exact hW);have hks:(k < S)=True:=eq_true (by omega);clear hq hr hu hy hx hn hat hbits hlen hob hog HB0 hW;by_cases hx0:x=0
   ·have HNX:Hid (NoneTo m no (!tb) (k+(64 - k % 64))):=hid (HK.out.more (VK HBT.out HTB.out (by rw [<- HX.out];exact hx0)));subst hx0;have hr0:(0:Int)<=r:=by omega
    go_wp2_with fail
    refine HSZ.out.mono ?_;rintro e w1 ⟨rfl,rfl⟩
    go_wp2_with fail
    go_round
    case rel=>exact ⟨k+(64 - k % 64),by have:=HQ.out.2;omega,by omega,by congr 1;have:=HQ.out.2;omega,HNX.out⟩
    case measure=>simp [intOf];have:=HQ.out.2;omega
   ·obtain ⟨hx64,hz64,hin,hno⟩:=X7 HBT.out HTB.out HW.out hT HX.out hx0;have HTX:=hid (HTZ.out x hx64 hx0);generalize Lib.ctz 64 x=z at *
    have HIN:=hid hin;have HNX:Hid (NoneTo m no (!tb) (k+z)):=hid (HK.out.more hno);have hxb:((x:Int) == 0)=false:=by rw [beq_eq_false_iff_ne];omega
    have hzi:(z:Int) < 64:=by omega
    clear hin hno hx64 hx0;by_cases hfar:k+z < S
    ·have HL:Hid (I8 (I5 (inB m) no (!tb) m.length)=.tuple #[.int .i64 ((k+z:Nat):Int),.int .i64 0]):=hid (Ql (HNX.out.first (by rw [<- HS.out];exact hfar) (by omega) HIN.out));have hf2:((S:Int)<=(k:Int)+z)=False:=eq_false (by omega);clear hfar
     go_wp2_with fail
     refine HSZ.out.mono ?_;rintro e w1 ⟨rfl,rfl⟩
     go_wp2_with fail
     refine HTX.out.mono ?_;rintro e w1 ⟨rfl,rfl⟩
     go_wp2_with fail
     refine HSZ.out.mono ?_;rintro e w1 ⟨rfl,rfl⟩
     go_wp2_with fail
     go_ret2
     exact ⟨by rw [HL.out];rfl,rfl⟩
    ·have HL:Hid (I8 (I5 (inB m) no (!tb) m.length)=.tuple #[.int .i64 0,.int .i64 7]):=hid (Jg (HNX.out.none (by have:=HS.out;omega)));have hf2:((S:Int)<=(k:Int)+z)=True:=eq_true (by omega);clear hfar
     go_wp2_with fail
     refine HSZ.out.mono ?_;rintro e w1 ⟨rfl,rfl⟩
     go_wp2_with fail
     refine HTX.out.mono ?_;rintro e w1 ⟨rfl,rfl⟩
     go_wp2_with fail
     refine HSZ.out.mono ?_;rintro e w1 ⟨rfl,rfl⟩
     go_wp2_with fail
     go_ret2
     exact ⟨by rw [HL.out];rfl,rfl⟩
  ·have hks:(k < S)=False:=eq_false (by omega);have hks2:(S<=k)=True:=eq_true (by omega);have HL:Hid (I8 (I5 (inB m) no (!tb) m.length)=.tuple #[.int .i64 0,.int .i64 7]):=hid (Jg (HK.out.none (by have:=HS.out;omega)));clear hlt
   go_wp2_with fail
   refine HSZ.out.mono ?_;rintro e w1 ⟨rfl,rfl⟩
   go_wp2_with fail
   refine HSZ.out.mono ?_;rintro e w1 ⟨rfl,rfl⟩
   go_wp2_with fail
   go_ret2
   exact ⟨by rw [HL.out];rfl,rfl⟩
theorem Yr (j:Nat) (h:j < 64):(18446744073709551615:Nat).testBit j=true:=by
 rw [show (18446744073709551615:Nat)=2 ^ 64 - 1 from by decide,Nat.testBit_two_pow_sub_one,decide_eq_true h]
theorem YW (ok:Nat->Prop) (v:Value) (m:List Bool) (no:Int) (w:World) (h:Bm ok w v m) (ht:Tab w) (h1:-9223372036854775808<=no) (h2:no<=9223372036854775807) :
  Calls Tryz.prog 100 #[v,.int .i64 no] w fun e w'=>e=.returned (I8 (I5 (inB m) no false m.length))/\w=w':=by
 have H:=hid (X8 ok v m no true 18446744073709551615 w h ht (by decide) Yr h1 h2);clear h ht;obtain ⟨L,hL⟩:∃ L,L=I5 (inB m) no false m.length:=⟨_,rfl⟩
 have H2:Hid (Calls Tryz.prog 135 #[v,.int .i64 no,.int .u64 18446744073709551615] w fun e w'=>e=.returned (I8 L)/\w=w'):=hid (by rw [hL];exact H.out);rw [<- hL];clear H hL;unfold I8 at *
 by_cases h0:0<=L
 ·rw [if_pos h0] at *
  go_enter Tryz.func100,Tryz.ntmps100
  go_wp2_with fail
  refine H2.out.mono ?_;rintro e w1 ⟨rfl,rfl⟩
  go_wp2_with fail
  go_ret2
  exact ⟨rfl,rfl⟩
 ·rw [if_neg h0] at *
  go_enter Tryz.func100,Tryz.ntmps100
  go_wp2_with fail
  refine H2.out.mono ?_;rintro e w1 ⟨rfl,rfl⟩
  go_wp2_with fail
  go_ret2
  exact ⟨rfl,rfl⟩
theorem u64_in {n:Int} (h0:0<=n) (h1:n < 18446744073709551616):IntKind.u64.wrap n=n:=by rw [IntKind.wrap_u64];omega
theorem Hu {x y r:Nat} {p q:Int} (hx:x < 18446744073709551616) (hy:y < 18446744073709551616) (hp:p=(x:Int)) (hq:q=(y:Int)) (hr:r=x &&& y):bits .and .u64 p q=(r:Int):=by
 subst hp hq hr;exact u64_and_nat x y hx hy
theorem TI (n:Nat) (h:n < 9223372036854775808):bits .and .i64 (n:Int) 127=((n % 128:Nat):Int):=by
 have e:∀ k:Nat,k < 9223372036854775808->(BitVec.ofInt 64 (k:Int)).toNat=k:=fun k hk=>by
  rw [BitVec.ofInt_natCast,BitVec.toNat_ofNat];exact Nat.mod_eq_of_lt (by omega)
 show IntKind.i64.wrap ((BitVec.ofInt 64 (n:Int) &&& BitVec.ofInt 64 ((127:Nat):Int)).toNat:Int)=_;rw [BitVec.toNat_and,e n h,e 127 (by decide),Nat.and_two_pow_sub_one_eq_mod n 7,IntKind.wrap_i64];omega
set_option maxRecDepth 20000 in
set_option maxHeartbeats 1000000 in
theorem Yt (x:Nat) (w:World) (hx:x < 18446744073709551616) :
  Calls Tryz.prog 120 #[.int .u64 (x:Int)] w fun e w'=>e=.returned (.int .i64 ((F8 x 64:Nat):Int))/\w=w':=by
 obtain ⟨z,hz,hz60,hl1,hl2,hsum,hle⟩:=aX x hx;unfold t3 t2 t1 at hz;unfold t1 at hl1;unfold t2 t1 at hl2;obtain ⟨a,ha⟩:∃ a,a=x / 2 &&& 6148914691236517205:=⟨_,rfl⟩
 obtain ⟨b,hb⟩:∃ b,b=x &&& 6148914691236517205:=⟨_,rfl⟩
 rw [<- ha,<- hb] at hz hl1 hl2;obtain ⟨c,hc⟩:∃ c,c=a+b:=⟨_,rfl⟩
 rw [<- hc] at hz hl1 hl2;obtain ⟨d,hd⟩:∃ d,d=c / 4 &&& 3689348814741910323:=⟨_,rfl⟩
 obtain ⟨e,he⟩:∃ e,e=c &&& 3689348814741910323:=⟨_,rfl⟩
 rw [<- hd,<- he] at hz hl2;obtain ⟨f,hf⟩:∃ f,f=d+e:=⟨_,rfl⟩
 rw [<- hf] at hz hl2;obtain ⟨g,hg⟩:∃ g,g=f / 16+f:=⟨_,rfl⟩
 rw [<- hg] at hz;have h1:bits .and .u64 ((x:Int) / 2) 6148914691236517205=(a:Int):=Hu (x:=x / 2) (by omega) (by decide) (by omega) rfl ha;have h2:bits .and .u64 (x:Int) 6148914691236517205=(b:Int):=Hu hx (by decide) rfl rfl hb;have h3:IntKind.u64.wrap ((a:Int)+b)=(c:Int):=by rw [u64_in (by omega) (by omega)];omega
 have h4:bits .and .u64 ((c:Int) / 4) 3689348814741910323=(d:Int):=Hu (x:=c / 4) (by omega) (by decide) (by omega) rfl hd;have h5:bits .and .u64 (c:Int) 3689348814741910323=(e:Int):=Hu hl1 (by decide) rfl rfl he;have h6:IntKind.u64.wrap ((d:Int)+e)=(f:Int):=by rw [u64_in (by omega) (by omega)];omega
 have h7:IntKind.u64.wrap ((f:Int) / 16+f)=(g:Int):=by rw [u64_in (by omega) (by omega)];omega
 have h8:bits .and .u64 (g:Int) 1085102592571150095=(z:Int):=Hu (x:=g) (by omega) (by decide) rfl rfl hz;obtain ⟨y,hy⟩:∃ y,y=z+z / 256:=⟨_,rfl⟩
 obtain ⟨u,hu⟩:∃ u,u=y+y / 65536:=⟨_,rfl⟩
 obtain ⟨t,ht⟩:∃ t,t=u+u / 4294967296:=⟨_,rfl⟩
 rw [<- hy,<- hu,<- ht] at hsum;have p60:(2:Nat) ^ 60=1152921504606846976:=by decide
 rw [p60] at hz60;have h9:IntKind.u64.wrap ((z:Int)+(z:Int) / 256)=(y:Int):=by rw [u64_in (by omega) (by omega)];omega
 have h10:IntKind.u64.wrap ((y:Int)+(y:Int) / 65536)=(u:Int):=by rw [u64_in (by omega) (by omega)];omega
 have h11:IntKind.u64.wrap ((u:Int)+(u:Int) / 4294967296)=(t:Int):=by rw [u64_in (by omega) (by omega)];omega
 have htl:t < 9223372036854775808:=by omega
 have h12:bits .and .i64 (t:Int) 127=((F8 x 64:Nat):Int):=by rw [TI t htl,hsum]
 have h13:IntKind.i64.wrap (t:Int)=(t:Int):=by rw [IntKind.wrap_i64];omega
 generalize F8 x 64=pp at *
 clear hz hz60 hl1 hl2 hsum ha hb hc hd he hf hg hy hu ht p60 htl hx
 go_enter Tryz.func120,Tryz.ntmps120
 go_wp2_with fail
 go_ret
 exact ⟨rfl,rfl⟩
theorem TB:(Tryz.prog.info? 3).map (fun i=>(i.zero,i.size,i.bytes))=some (some (.int .i64 0),1,8):=by kernel_rfl
theorem W9 {W:List Nat} (k:Nat):BB (BF W) (64 * (k+1))=BB (BF W) (64 * k)+F8 (W.getD k 0) 64:=by
 rw [show 64 * (k+1)=64 * k+64 from by omega,IV]
 congr 1
 unfold F8;exact F6 fun j hj=>by
  unfold BF;rw [show (64 * k+j) / 64=k from by omega,show (64 * k+j) % 64=j from by omega]
theorem dK {m:List Bool} {W:List Nat} (hb:∀ i,BF W i=inB m i) (hl:m.length<=64 * W.length):BB (BF W) (64 * W.length)=BB (inB m) m.length:=by
 rw [show BF W=inB m from funext hb];obtain ⟨n,hn⟩:∃ n,64 * W.length=m.length+n:=⟨64 * W.length - m.length,by omega⟩
 rw [hn];exact Xb n fun i h1 _=>Lt h1
theorem WW (w:World):Calls Tryz.prog 75 #[.pointer none] w fun e w'=>e=.returned (.int .i64 0)/\w=w':=by
 go_enter Tryz.func75,Tryz.ntmps75
 go_wp2_with fail
 go_ret
 exact ⟨rfl,rfl⟩
set_option maxRecDepth 20000 in
set_option maxHeartbeats 2000000 in
theorem Ha (ok:Nat->Prop) (v:Value) (m:List Bool) (w:World) (h:Bm ok w v m) :
  Calls Tryz.prog 75 #[v] w fun e w'=>e=.returned (.int .i64 ((BB (inB m) m.length:Nat):Int))/\w=w':=by
 rcases h with ⟨rfl,rfl⟩ | ⟨b,g,c,W,rfl,_,_,hat,hbits⟩
 ·exact WW w
 ·have HAT:=hid hat;have hc1:=hat.hw;have HC:=hid (dK hbits (by have:=hat.len;omega));obtain ⟨n,hn⟩:∃ n,n=W.length:=⟨_,rfl⟩
  have HN:=hid hn;rw [<- hn] at hc1;have hn32:(n:Int)<=32:=by have:=hat.wlen;omega
  clear hn hat hbits
  go_enter Tryz.func75,Tryz.ntmps75
  go_wp2_with fail
  go_loop [3,13] (fun t i=>∃ k:Nat,k<=n/\i=.int .i64 (k:Int)/\t=.int .i64 ((BB (BF W) (64 * k):Nat):Int)) (fun _ i=>n - (intOf i).toNat)
  case atStart=>exact ⟨0,Nat.zero_le _,rfl,rfl⟩
  case round=>
   obtain ⟨k,hk,rfl,rfl⟩:=hrel;have hcl:BB (BF W) (64 * k)<=64 * k:=GN _ _;obtain ⟨cn,hcn⟩:∃ cn,cn=BB (BF W) (64 * k):=⟨_,rfl⟩
   have HCN:=hid hcn;rw [<- hcn] at hcl ⊢;clear hcn;by_cases hlt:(k:Int) < n
   ·have hcell:=HAT.out.cell (q:=k) (by rw [<- HN.out];omega);have HX:Hid (W.getD k 0 < 18446744073709551616):=hid (Ee HAT.out.fits k);have HSUM:Hid (BB (BF W) (64 * (k+1))=cn+F8 (W.getD k 0) 64):=hid (by rw [W9,HCN.out]);have hpl:F8 (W.getD k 0) 64<=64:=by unfold F8;exact GN _ _
    generalize W.getD k 0=x at *
    have HO:=hid (Yt x w HX.out);generalize F8 x 64=pp at *
    have hkn:(k < n)=True:=eq_true (by omega)
    go_wp2_with fail
    refine HO.out.mono ?_;rintro e w1 ⟨rfl,rfl⟩
    go_wp2_with fail
    go_round
    case rel=>exact ⟨k+1,by omega,by go_num,by rw [HSUM.out];go_num⟩
    case measure=>simp [intOf];omega
   ·have hkf:(k < n)=False:=eq_false (by omega);have HKN:Hid (k=W.length):=hid (by rw [<- HN.out];omega);clear hlt
    go_wp2_with fail
    go_ret
    exact ⟨by rw [<- HC.out,<- HKN.out,<- HCN.out];rfl,rfl⟩
theorem FD {bs:List Int} {k:Nat} (h:k < bs.length):bs.take (k+1)=bs.take k++[bs.getD k 0]:=by
 rw [List.take_succ_eq_append_getElem h,List.getD_eq_getElem?_getD,List.getElem?_eq_getElem h];rfl
theorem V7 (S:Nat) (w:World) (h1:(1:Int)<=S) (h2:(S:Int)<=2048):Calls Tryz.prog 153 #[.int .i64 (S:Int),.slice none 0 0] w fun e w'=>(∃ v,e=.returned (.tuple #[v,.int .i64 0])/\NewSet w.heap.size w' v (List.replicate S false))/\Below w.heap.size w w':=
 bG (fun _=>True) S none 0 [] w (Si.nil _ _ _) h1 h2 (by decide)
def mix (f:Bool->Bool->Bool) (m o:List Bool):List Bool:=(List.range m.length).map fun i=>f (inB m i) (inB o i)
theorem PG (f:Bool->Bool->Bool) (m o:List Bool):(mix f m o).length=m.length:=by simp [mix]
theorem U2 (f:Bool->Bool->Bool) (m o:List Bool) (i:Nat):inB (mix f m o) i=(decide (i < m.length) && f (inB m i) (inB o i)):=by
 by_cases h:i < m.length
 ·unfold mix;rw [decide_eq_true h,Bool.true_and]
  conv=>lhs;unfold inB
  rw [List.getD_eq_getElem?_getD,List.getElem?_map,List.getElem?_range h];rfl
 ·rw [Lt (by rw [PG];omega)];simp [h]
theorem Bm.old {ok:Nat->Prop} {w:World} {v:Value} {m:List Bool} (h:Bm ok w v m):Bm (fun b=>b < w.heap.size) w v m:=h.mono fun _ _ hb=>hb
theorem NewSet.mv {B:Nat} {w w':World} {v:Value} {m:List Bool} {F:Nat->Prop} (h:NewSet B w v m) (hm:Mv F w w') (hk:∀ i,B<=i->¬ F i):NewSet B w' v m:=by
 obtain ⟨b,g,c,W,h1,h2,h3,h4,h5⟩:=h;exact ⟨b,g,c,W,h1,h2,h3,h4.mv hm (hk b h2) (hk g h3),h5⟩
theorem Ub {B:Nat} {w':World} {e:Ending} {m:List Bool} {V:List Nat} (h:ZV B w' e m.length V) (hb:∀ i,BF V i=inB m i):∃ v,e=.returned v/\NewSet B w' v m:=by
 obtain ⟨b2,g2,c2,h1,h2,h3,h4⟩:=h;exact ⟨_,h1,b2,g2,c2,V,rfl,h2,h3,h4,hb⟩
def JX (B:Nat) (v:Value) (m:List Bool) (w':World) (x:Value):Prop:=(v=.pointer none/\m=[]/\x=.pointer none)\/NewSet B w' x m
theorem Rl (ok:Nat->Prop) (v:Value) (m:List Bool) (w:World) (h:Bm ok w v m) :
  Calls Tryz.prog 119 #[v] w fun e w'=>(∃ x,e=.returned x/\JX w.heap.size v m w' x)/\Below w.heap.size w w':=by
 rcases h with ⟨rfl,rfl⟩ | ⟨b,g,c,W,rfl,_,_,hat,hbits⟩
 ·refine (Zn w).mono ?_;rintro e w' ⟨rfl,rfl⟩;exact ⟨⟨_,rfl,.inl ⟨rfl,rfl,rfl⟩⟩,Below.refl _ _⟩
 ·refine (WX b g c m.length W w hat).mono ?_;rintro e w' ⟨h,hb⟩;obtain ⟨v,h1,h2⟩:=Ub h hbits;exact ⟨⟨v,h1,.inr h2⟩,hb⟩
def ZT (F:Nat) (h:Nat->Nat->Nat):Prop:=∀ (ok:Nat->Prop) (b g c S:Nat) (V:List Nat) (vo:Value) (mo:List Bool) (O:List Nat) (w:World),BmAt w b g c S V->BmW ok w vo mo O->(∀ i,ok i->i≠g)->
  Calls Tryz.prog 133 #[.pointer (some ⟨b,0,none⟩),vo,.func (.func F) #[] #[]] w fun e w'=>e=.returned (.tuple #[])/\(∃ V',BmAt w' b g c S V'/\Cut S (EY h V O V.length) V')/\Mv (fun i=>i=g) w w'
theorem YK {F:Nat} {h:Nat->Nat->Nat} {f:Bool->Bool->Bool} (hj:ZT F h) (hf:∀ x y j,x < 18446744073709551616->y < 18446744073709551616->j < 64->(h x y).testBit j=f (x.testBit j) (y.testBit j))
  (B:Nat) (w:World) (v vo:Value) (m mo:List Bool) (hn:NewSet B w v m) (ho:Bm (fun b=>b < B) w vo mo) :
  Calls Tryz.prog 133 #[v,vo,.func (.func F) #[] #[]] w fun e w'=>e=.returned (.tuple #[])/\NewSet B w' v (mix f m mo)/\Mv (fun i=>B<=i) w w':=by
 obtain ⟨b,g,c,W,rfl,h2,h3,h4,h5⟩:=hn;obtain ⟨O,hO⟩:=ho.words;refine (hj _ b g c m.length W vo mo O w h4 hO fun i hi e=>by omega).mono ?_;rintro e w' ⟨h1,⟨V',h6,h7⟩,h8⟩;refine ⟨h1,⟨b,g,c,V',rfl,h2,h3,by rw [PG];exact h6,fun i=>?_⟩,h8.sub fun i _ hi=>by subst hi;exact h3⟩;rw [h7 i,U2];by_cases hi:i < m.length
 ·rw [QP h4.fits hO.fits hf (by have:=h4.len;omega),h5,hO.bits]
 ·simp [hi]
theorem YJ (vo f:Value) (w:World):Calls Tryz.prog 133 #[.pointer none,vo,f] w fun e w'=>e=.returned (.tuple #[])/\w=w':=by
 go_enter Tryz.func133,Tryz.ntmps133
 go_wp2_with fail
 exact bodyPost_ret (v:=.tuple #[]) (results_none rfl _ _ _) rfl ⟨rfl,rfl⟩
theorem bT (B:Nat) (w:World) (v vo:Value) (m mo:List Bool) (hn:NewSet B w v m) (ho:Bm (fun b=>b < B) w vo mo) :
  Calls Tryz.prog 133 #[v,vo,.func (.func 134) #[] #[]] w fun e w'=>e=.returned (.tuple #[])/\NewSet B w' v (mix (fun x y=>x||y) m mo)/\Mv (fun i=>B<=i) w w':=
 YK (fun ok b g c S V vo mo O w=>TA ok b g c S V vo mo O w) (fun x y j _ _ _=>Nat.testBit_or x y j) B w v vo m mo hn ho
theorem PD {w0 a b:World} {B:Nat} (h:Below w0.heap.size w0 a) (k:Mv (fun i=>B<=i) a b) (hB:w0.heap.size<=B):Below w0.heap.size w0 b:=h.trans (k.below h.size fun i hi=>by omega)
def GH (m:List Bool) (ms:Nat->List Bool):Nat->List Bool
 | 0=>m
 | k+1=>mix (fun x y=>x||y) (GH m ms k) (ms k)
theorem KP (m:List Bool) (ms:Nat->List Bool):∀ k,(GH m ms k).length=m.length
 | 0=>rfl
 | k+1=>by unfold GH;rw [PG,KP m ms k]
def BmS (ok:Nat->Prop) (w:World) (a:Option Addr) (n:Nat) (ms:Nat->List Bool):Prop:=∀ i,i < n->∃ b o v,a=some ⟨b,o,none⟩/\ok b/\w.cell? ⟨b,o+i,none⟩=some v/\Bm ok w v (ms i)
theorem BmS.mv {ok:Nat->Prop} {w w':World} {a:Option Addr} {n:Nat} {ms:Nat->List Bool} {F:Nat->Prop} (h:BmS ok w a n ms) (hm:Mv F w w') (hk:∀ i,ok i->¬ F i):BmS ok w' a n ms:=fun i hi=>by
 obtain ⟨b,o,v,h1,h2,h3,h4⟩:=h i hi;exact ⟨b,o,v,h1,h2,hm.cell h3 (hk b h2),h4.mv hm hk⟩
theorem BmS.old {ok:Nat->Prop} {w:World} {a:Option Addr} {n:Nat} {ms:Nat->List Bool} (h:BmS ok w a n ms):BmS (fun b=>b < w.heap.size) w a n ms:=fun i hi=>by
 obtain ⟨b,o,v,h1,h2,h3,h4⟩:=h i hi;exact ⟨b,o,v,h1,AA h3,h3,h4.old⟩
set_option maxRecDepth 20000 in
theorem VE (ok:Nat->Prop) (v:Value) (m:List Bool) (a:Option Addr) (n c:Nat) (ms:Nat->List Bool) (w:World) (h:Bm ok w v m) (hs:BmS ok w a n ms) (hl:(n:Int)<=9223372036854775807) :
  Calls Tryz.prog 98 #[v,.slice a n c] w fun e w'=>(∃ x,e=.returned x/\JX w.heap.size v (GH m ms n) w' x)/\Below w.heap.size w w':=by
 have HS:=hid hs.old;have HC:=hid (Rl ok v m w h);clear h hs
 go_enter Tryz.func98,Tryz.ntmps98
 go_wp2_with fail
 refine HC.out.mono ?_;clear HC;rintro e w1 ⟨⟨x,rfl,hx⟩,hb⟩;have HB1:=hid hb;have HS1:=hid (HS.out.mv (F:=fun _=>False) (Mv.of_below hb) fun _ _=>id);clear hb HS;have HX:=hid hx;clear hx
 go_wp2_with fail
 go_loopw [12] (fun i wr=>∃ k:Nat,k<=n/\i=.int .i64 (k:Int)/\JX w.heap.size v (GH m ms k) wr x/\BmS (fun b=>b < w.heap.size) wr a n ms/\Below w.heap.size w wr) (fun i _=>n - (intOf i).toNat)
 case atStart=>exact ⟨0,Nat.zero_le _,rfl,HX.out,HS1.out,HB1.out⟩
 case round=>
  obtain ⟨k,hk,rfl,hx,hs,hb⟩:=hrel;have HB:=hid hb;have HSR:=hid hs;clear hb hs HX HS1 HB1;by_cases hlt:(k:Int) < n
  ·obtain ⟨b0,o0,vo,rfl,hok,hcell,hbm⟩:=HSR.out k (by omega);have hkn:(k < n)=True:=eq_true (by omega);rcases hx with ⟨rfl,h2,rfl⟩ | hx
   ·have H2:=hid h2;clear h2 hbm
    go_wp2_with fail
    refine (YJ _ _ _).mono ?_;rintro e w2 ⟨rfl,rfl⟩
    go_wp2_with fail
    go_roundw
    case rel=>exact ⟨k+1,by omega,by go_num,.inl ⟨rfl,by unfold GH;rw [H2.out];rfl,rfl⟩,HSR.out,HB.out⟩
    case measure=>simp [intOf];omega
   ·have HX:=hid (bT _ _ _ _ _ _ hx hbm);clear hx hbm
    go_wp2_with fail
    refine HX.out.mono ?_;clear HX;rintro e w2 ⟨rfl,hn,hm⟩;have HN:=hid hn;have HB2:=hid (PD HB.out hm (Nat.le_refl _));have HS2:=hid (HSR.out.mv hm fun i hi=>by omega);clear hn hm HB HSR
    go_wp2_with fail
    go_roundw
    case rel=>exact ⟨k+1,by omega,by go_num,.inr HN.out,HS2.out,HB2.out⟩
    case measure=>simp [intOf];omega
  ·have hkf:(k < n)=False:=eq_false (by omega);have HKN:Hid (k=n):=hid (by omega);have HX:=hid hx;clear hlt hx
   go_wp2_with fail
   go_ret
   exact ⟨⟨_,rfl,by rw [<- HKN.out];exact HX.out⟩,HB.out⟩
end Go.Proofs.YtfhdojnobmfefaaGreatDoor
