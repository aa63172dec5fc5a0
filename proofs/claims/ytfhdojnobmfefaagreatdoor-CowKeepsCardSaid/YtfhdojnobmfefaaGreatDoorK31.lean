/- MADE SMALL. -/
import Derived.Test.YtfhdojnobmfefaaGreatDoorK30
import Derived.Shelf.Spec.TrailingZeros
import Derived.Test.YtfhdojnobmfefaaGreatDoorK27
namespace Go.Proofs.YtfhdojnobmfefaaGreatDoor
open Go.RowKit Go.Inc
def Tab (w:World):Prop:=TabAt 0 Lib.deBruijn64tab w
theorem Tab.mv {F:Nat->Prop} {w w':World} (h:Tab w) (hm:Mv F w w') (hf:¬ F 0):Tab w':=fun j hj=>hm.cell (h j hj) hf
theorem Tab.below {w w':World} (h:Tab w) (hb:Below w.heap.size w w'):Tab w':=h.mv (F:=fun _=>False) (Mv.of_below hb) id
set_option maxHeartbeats 1000000 in
theorem ZN (x k idx:Nat) (w:World) (hx0:((x:Int) == 0)=false)
  (key:IntKind.u64.wrap (bits BinOp.and IntKind.u64 (x:Int) (IntKind.u64.wrap (-(x:Int))) * 285870213051353865) / 288230376151711744=(idx:Int))
  (hi:idx < 64) (hk:k < 64) (hcell:w.cell? ⟨0,idx,none⟩=some (.int .u8 k)) :
  Calls Tryz.prog 157 #[.int .u64 x] w fun e w'=>e=.returned (.int .i64 k)/\w=w':=by
 go_enter Tryz.func157,Tryz.ntmps157
 go_wp2_with (simp only [key])
 go_ret
 exact ⟨rfl,rfl⟩
theorem dN (x:Nat) (w:World) (hx:x < 18446744073709551616) (h0:x≠0) (hT:Tab w) :
  Calls Tryz.prog 157 #[.int .u64 x] w fun e w'=>e=.returned (.int .i64 (Lib.ctz 64 x))/\w=w':=by
 obtain ⟨hlow,hk⟩:=Lib.lowest_bit 64 x h0 hx;obtain ⟨hi,htab⟩:=Lib.deBruijn64_at _ hk;have hcell:=hT _ hi;rw [htab] at hcell;exact ZN x _ _ w (by simp;omega) (tz64_key x _ hx h0 hlow) hi hk hcell
theorem cZ {x:Nat} (h0:x≠0) (hx:x < 18446744073709551616):x.testBit (Lib.ctz 64 x)=true/\Lib.ctz 64 x < 64/\∀ j,j < Lib.ctz 64 x->x.testBit j=false:=by
 obtain ⟨m,hm,hk⟩:=Lib.ctzFrom_spec 64 x (by omega) hx;have e:Lib.ctz 64 x=Lib.ctzFrom 64 x:=by simp [Lib.ctz,h0]
 rw [e];generalize Lib.ctzFrom 64 x=k at *
 refine ⟨?_,hk,fun j hj=>?_⟩
 ·rw [hm,Nat.mul_comm,Nat.testBit_mul_two_pow];simp [Nat.testBit_zero]
 ·rw [hm,Nat.mul_comm,Nat.testBit_mul_two_pow];simp;omega
def NoneTo (m:List Bool) (no:Int) (b:Bool) (k:Nat):Prop:=∀ i:Nat,i < k->¬ (no<=i/\inB m i=b)
theorem NoneTo.none {m:List Bool} {no:Int} {b:Bool} {k:Nat} (h:NoneTo m no b k) (hk:m.length<=k):GM (inB m) no b m.length=-1:=IA fun i hi=>h i (by omega)
theorem NoneTo.first {m:List Bool} {no:Int} {b:Bool} {k:Nat} (h:NoneTo m no b k) (hk:k < m.length) (h1:no<=k) (h2:inB m k=b):GM (inB m) no b m.length=k:=GL ⟨h1,h2⟩ h hk
theorem NoneTo.more {m:List Bool} {no:Int} {b:Bool} {k n:Nat} (h:NoneTo m no b k) (hn:∀ j,j < n->inB m (k+j)=!b):NoneTo m no b (k+n):=fun i hi hh=>by
 by_cases hik:i < k
 ·exact h i hik hh
 ·have e:=hn (i - k) (by omega);rw [show k+(i - k)=i from by omega,hh.2] at e;cases b<;>cases e
theorem I4 {m:List Bool} {W:List Nat} {T k j:Nat} {tb:Bool} (hb:∀ i,Cf W i=inB m i) (hT:∀ j,j < 64->T.testBit j=tb) (hj:k % 64+j < 64) :
  ((W.getD (k / 64) 0 ^^^ T) >>> (k % 64)).testBit j=(inB m (k+j) ^^ tb):=by
 rw [Nat.testBit_shiftRight,Nat.testBit_xor,hT _ hj,<- hb (k+j)];unfold Cf;rw [show (k+j) / 64=k / 64 from by omega,show (k+j) % 64=k % 64+j from by omega]
theorem bx1 {p tb:Bool} (h:false=(p ^^ tb)):p=!(!tb):=by cases p<;>cases tb<;>simp_all
theorem bx2 {p tb:Bool} (h:true=(p ^^ tb)):p=!tb:=by cases p<;>cases tb<;>simp_all
theorem VC {m:List Bool} {W:List Nat} {T k:Nat} {tb:Bool} (hb:∀ i,Cf W i=inB m i) (hT:∀ j,j < 64->T.testBit j=tb) (h0:(W.getD (k / 64) 0 ^^^ T) >>> (k % 64)=0) :
  ∀ j,j < 64 - k % 64->inB m (k+j)=!(!tb):=fun j hj=>by
 have e:=I4 (k:=k) (j:=j) hb hT (by omega);rw [h0,Nat.zero_testBit] at e;exact bx1 e
theorem XI {m:List Bool} {W:List Nat} {T k x:Nat} {tb:Bool} (hb:∀ i,Cf W i=inB m i) (hT:∀ j,j < 64->T.testBit j=tb) (hW:W.getD (k / 64) 0 < 18446744073709551616) (hT2:T < 18446744073709551616) (hx:x=(W.getD (k / 64) 0 ^^^ T) >>> (k % 64)) (h0:x≠0) :
  x < 18446744073709551616/\k % 64+Lib.ctz 64 x < 64/\inB m (k+Lib.ctz 64 x)=(!tb)/\∀ j,j < Lib.ctz 64 x->inB m (k+j)=!(!tb):=by
 have hy:W.getD (k / 64) 0 ^^^ T < 18446744073709551616:=Xa hW hT2;have hxl:x < 18446744073709551616:=by
  rw [hx,Nat.shiftRight_eq_div_pow];exact Nat.lt_of_le_of_lt (Nat.div_le_self _ _) hy
 obtain ⟨hb1,hb2,hb3⟩:=cZ h0 hxl;generalize Lib.ctz 64 x=z at *
 have hz:k % 64+z < 64:=by
  have h:=hb1;rw [hx,Nat.testBit_shiftRight] at h;exact Tc hy h
 refine ⟨hxl,hz,?_,fun j hj=>?_⟩
 ·have e:=I4 (k:=k) (j:=z) hb hT hz;rw [<- hx,hb1] at e;exact bx2 e
 ·have e:=I4 (k:=k) (j:=j) hb hT (by omega);rw [<- hx,hb3 j hj] at e;exact bx1 e
def FH (L:Int):Value:=if 0<=L then .tuple #[.int .i64 L,.int .i64 0] else .tuple #[.int .i64 0,.int .i64 7]
theorem Gy {L:Int} (h:L=-1):FH L=.tuple #[.int .i64 0,.int .i64 7]:=by subst h;rfl
theorem Lu {L:Int} {k:Nat} (h:L=k):FH L=.tuple #[.int .i64 (k:Int),.int .i64 0]:=by subst h;unfold FH;rw [if_pos (by omega)]
set_option maxRecDepth 20000 in
set_option maxHeartbeats 1000000 in
theorem Qc (ok:Nat->Prop) (v:Value) (m:List Bool) (no:Int) (tb:Bool) (T:Nat) (w:World) (h:Bm ok w v m) (ht:Tab w) (hT:T < 18446744073709551616) (hTb:∀ j,j < 64->T.testBit j=tb)
  (h1:-9223372036854775808<=no) (h2:no<=9223372036854775807) :
  Calls Tryz.prog 135 #[v,.int .i64 no,.int .u64 (T:Int)] w fun e w'=>e=.returned (FH (GM (inB m) no (!tb) m.length))/\w=w':=by
 have HB0:=hid h;have HTB:=hid hTb;obtain ⟨S,hS⟩:∃ S,S=m.length:=⟨_,rfl⟩
 have HS:=hid hS;have hs2:(S:Int)<=2048:=by have:=h.len;omega
 obtain ⟨n0,hn0⟩:∃ n0,n0=(max no 0).toNat:=⟨_,rfl⟩
 have hmax:max no 0=(n0:Int):=by omega
 have hn1:(n0:Int)<=9223372036854775807:=by omega
 have HNO:Hid (no<=n0):=hid (by omega);have HN0:Hid (NoneTo m no (!tb) n0):=hid fun i hi hh=>by omega
 have HSZ:Hid (Calls Tryz.prog 150 #[v] w fun e w'=>e=.returned (.int .i64 (S:Int))/\w=w'):=hid (by rw [HS.out];exact Ho ok v m w h);have HTZ:Hid (∀ x:Nat,x < 18446744073709551616->x≠0->Calls Tryz.prog 157 #[.int .u64 (x:Int)] w fun e w'=>e=.returned (.int .i64 (Lib.ctz 64 x))/\w=w'):=hid fun x hx h0=>dN x w hx h0 ht;clear h ht hTb hS hn0
 go_enter Tryz.func135,Tryz.ntmps135
 go_wp2_with fail
 go_loop [8] (fun i=>∃ k:Nat,(k:Int)<=9223372036854775807/\no<=k/\i=.int .i64 (k:Int)/\NoneTo m no (!tb) k) (fun i=>S - (intOf i).toNat)
 case atStart=>exact ⟨n0,hn1,HNO.out,rfl,HN0.out⟩
 case round=>
  obtain ⟨k,hk,hnk,rfl,hno⟩:=hrel;have HK:=hid hno;clear hno HN0 hmax;by_cases hlt:(k:Int) < S
  ·rcases HB0.out with ⟨_,hm⟩ | ⟨b,g,c,W,rfl,hob,hog,hat,hbits⟩
   ·have:=HS.out;rw [hm] at this;simp at this;omega
   have hlen:=hat.len;obtain ⟨q,hq⟩:∃ q,q=k / 64:=⟨_,rfl⟩
   have hqn:q < W.length:=by rw [hq,hlen,<- HS.out];omega
   have hc1:=hat.hw;have hc2:=hat.cell hqn;have hW:=Ey hat.fits q;have HBT:=hid hbits;obtain ⟨u,hu⟩:∃ u,u=W.getD q 0:=⟨_,rfl⟩
   obtain ⟨r,hr⟩:∃ r,r=k % 64:=⟨_,rfl⟩
   obtain ⟨y,hy⟩:∃ y,y=u ^^^ T:=⟨_,rfl⟩
   obtain ⟨x,hx⟩:∃ x,x=y >>> r:=⟨_,rfl⟩
   rw [<- hu] at hc2 hW;have hxor:bits .xor .u64 (u:Int) (T:Int)=(y:Int):=by rw [hy];exact u64_xor_nat u T hW hT
   have hsh:(y:Int) / 2 ^ r=(x:Int):=by rw [hx,Nat.shiftRight_eq_div_pow];simp
   have HX:Hid (x=(W.getD (k / 64) 0 ^^^ T) >>> (k % 64)):=hid (by rw [hx,hy,hu,hq,hr]);have hki:(k:Int) / 64=(q:Int):=by omega
   have hkr:(k:Int) % 64=(r:Int):=by omega
   have hr64:(r:Int) < 64:=by omega
   obtain ⟨n,hn⟩:∃ n,n=W.length:=⟨_,rfl⟩
   rw [<- hn] at hc1 hqn;have hqn':(q:Int) < (n:Int):=by omega
   have hq32:(q:Int) < 32:=by omega
   have HQ:=hid (And.intro hq hr);have HW:Hid (W.getD (k / 64) 0 < 18446744073709551616):=hid (by rw [<- hq,<- hu];exact hW);have hks:(k < S)=True:=eq_true (by omega);clear hq hr hu hy hx hn hat hbits hlen hob hog HB0 hW;by_cases hx0:x=0
   ·have HNX:Hid (NoneTo m no (!tb) (k+(64 - k % 64))):=hid (HK.out.more (VC HBT.out HTB.out (by rw [<- HX.out];exact hx0)));subst hx0;have hr0:(0:Int)<=r:=by omega
    go_wp2_with fail
    refine HSZ.out.mono ?_;rintro e w1 ⟨rfl,rfl⟩
    go_wp2_with fail
    go_round
    case rel=>exact ⟨k+(64 - k % 64),by have:=HQ.out.2;omega,by omega,by congr 1;have:=HQ.out.2;omega,HNX.out⟩
    case measure=>simp [intOf];have:=HQ.out.2;omega
   ·obtain ⟨hx64,hz64,hin,hno⟩:=XI HBT.out HTB.out HW.out hT HX.out hx0;have HTX:=hid (HTZ.out x hx64 hx0);generalize Lib.ctz 64 x=z at *
    have HIN:=hid hin;have HNX:Hid (NoneTo m no (!tb) (k+z)):=hid (HK.out.more hno);have hxb:((x:Int) == 0)=false:=by rw [beq_eq_false_iff_ne];omega
    have hzi:(z:Int) < 64:=by omega
    clear hin hno hx64 hx0;by_cases hfar:k+z < S
    ·have HL:Hid (FH (GM (inB m) no (!tb) m.length)=.tuple #[.int .i64 ((k+z:Nat):Int),.int .i64 0]):=hid (Lu (HNX.out.first (by rw [<- HS.out];exact hfar) (by omega) HIN.out));have hf2:((S:Int)<=(k:Int)+z)=False:=eq_false (by omega);clear hfar
     go_wp2_with fail
     refine HSZ.out.mono ?_;rintro e w1 ⟨rfl,rfl⟩
     go_wp2_with fail
     refine HTX.out.mono ?_;rintro e w1 ⟨rfl,rfl⟩
     go_wp2_with fail
     refine HSZ.out.mono ?_;rintro e w1 ⟨rfl,rfl⟩
     go_wp2_with fail
     go_ret2
     exact ⟨by rw [HL.out];rfl,rfl⟩
    ·have HL:Hid (FH (GM (inB m) no (!tb) m.length)=.tuple #[.int .i64 0,.int .i64 7]):=hid (Gy (HNX.out.none (by have:=HS.out;omega)));have hf2:((S:Int)<=(k:Int)+z)=True:=eq_true (by omega);clear hfar
     go_wp2_with fail
     refine HSZ.out.mono ?_;rintro e w1 ⟨rfl,rfl⟩
     go_wp2_with fail
     refine HTX.out.mono ?_;rintro e w1 ⟨rfl,rfl⟩
     go_wp2_with fail
     refine HSZ.out.mono ?_;rintro e w1 ⟨rfl,rfl⟩
     go_wp2_with fail
     go_ret2
     exact ⟨by rw [HL.out];rfl,rfl⟩
  ·have hks:(k < S)=False:=eq_false (by omega);have hks2:(S<=k)=True:=eq_true (by omega);have HL:Hid (FH (GM (inB m) no (!tb) m.length)=.tuple #[.int .i64 0,.int .i64 7]):=hid (Gy (HK.out.none (by have:=HS.out;omega)));clear hlt
   go_wp2_with fail
   refine HSZ.out.mono ?_;rintro e w1 ⟨rfl,rfl⟩
   go_wp2_with fail
   refine HSZ.out.mono ?_;rintro e w1 ⟨rfl,rfl⟩
   go_wp2_with fail
   go_ret2
   exact ⟨by rw [HL.out];rfl,rfl⟩
theorem Td (ok:Nat->Prop) (v:Value) (m:List Bool) (no:Int) (w:World) (h:Bm ok w v m) (ht:Tab w) (h1:-9223372036854775808<=no) (h2:no<=9223372036854775807) :
  Calls Tryz.prog 116 #[v,.int .i64 no] w fun e w'=>e=.returned (FH (GM (inB m) no true m.length))/\w=w':=by
 have H:=hid (Qc ok v m no false 0 w h ht (by decide) (fun j _=>by simp) h1 h2);clear h ht;obtain ⟨L,hL⟩:∃ L,L=GM (inB m) no true m.length:=⟨_,rfl⟩
 have H2:Hid (Calls Tryz.prog 135 #[v,.int .i64 no,.int .u64 0] w fun e w'=>e=.returned (FH L)/\w=w'):=hid (by rw [hL];exact H.out);rw [<- hL];clear H hL;unfold FH at *
 by_cases h0:0<=L
 ·rw [if_pos h0] at *
  go_enter Tryz.func116,Tryz.ntmps116
  go_wp2_with fail
  refine H2.out.mono ?_;rintro e w1 ⟨rfl,rfl⟩
  go_wp2_with fail
  go_ret2
  exact ⟨rfl,rfl⟩
 ·rw [if_neg h0] at *
  go_enter Tryz.func116,Tryz.ntmps116
  go_wp2_with fail
  refine H2.out.mono ?_;rintro e w1 ⟨rfl,rfl⟩
  go_wp2_with fail
  go_ret2
  exact ⟨rfl,rfl⟩
theorem X8 (j:Nat) (h:j < 64):(18446744073709551615:Nat).testBit j=true:=by
 rw [show (18446744073709551615:Nat)=2 ^ 64 - 1 from by decide,Nat.testBit_two_pow_sub_one,decide_eq_true h]
theorem YD (ok:Nat->Prop) (v:Value) (m:List Bool) (no:Int) (w:World) (h:Bm ok w v m) (ht:Tab w) (h1:-9223372036854775808<=no) (h2:no<=9223372036854775807) :
  Calls Tryz.prog 100 #[v,.int .i64 no] w fun e w'=>e=.returned (FH (GM (inB m) no false m.length))/\w=w':=by
 have H:=hid (Qc ok v m no true 18446744073709551615 w h ht (by decide) X8 h1 h2);clear h ht;obtain ⟨L,hL⟩:∃ L,L=GM (inB m) no false m.length:=⟨_,rfl⟩
 have H2:Hid (Calls Tryz.prog 135 #[v,.int .i64 no,.int .u64 18446744073709551615] w fun e w'=>e=.returned (FH L)/\w=w'):=hid (by rw [hL];exact H.out);rw [<- hL];clear H hL;unfold FH at *
 by_cases h0:0<=L
 ·rw [if_pos h0] at *
  go_enter Tryz.func100,Tryz.ntmps100
  go_wp2_with fail
  refine H2.out.mono ?_;rintro e w1 ⟨rfl,rfl⟩
  go_wp2_with fail
  go_ret2
  exact ⟨rfl,rfl⟩
 ·rw [if_neg h0] at *
  go_enter Tryz.func100,Tryz.ntmps100
  go_wp2_with fail
  refine H2.out.mono ?_;rintro e w1 ⟨rfl,rfl⟩
  go_wp2_with fail
  go_ret2
  exact ⟨rfl,rfl⟩
theorem MF:(Tryz.prog.info? 3).map (fun i=>(i.zero,i.size,i.bytes))=some (some (.int .i64 0),1,8):=by kernel_rfl
def Zn (S:Nat) (no e:Value):Nat:=if intOf e=0 then S+1 - (intOf no).toNat else 0
def dK (m:List Bool) (w:World) (B:Nat) (v no e:Value):Prop:=
 (∃ k:Nat,k < m.length/\inB m k=true/\no=.int .i64 (k:Int)/\e=.int .i64 0/\w.ownsRow B 3 1 v (Gp (inB m) k) (Ce (AO (inB m) k)))\/
 (no=.int .i64 0/\e=.int .i64 7/\w.ownsRow B 3 1 v (Gp (inB m) m.length) (Ce (AO (inB m) m.length)))
def PU (m:List Bool) (K:Nat) (v:Value):Prop:=
 (∃ k:Nat,K<=k/\k < m.length/\inB m k=true/\v=.tuple #[.int .i64 (k:Int),.int .i64 0]/\AO (inB m) k=AO (inB m) K)\/
 (v=.tuple #[.int .i64 0,.int .i64 7]/\(K<=m.length->AO (inB m) m.length=AO (inB m) K))
theorem aK (m:List Bool) (K:Nat):PU m K (FH (GM (inB m) (K:Int) true m.length)):=by
 rcases L6 (inB m) (K:Int) true m.length with ⟨h,hn⟩ | ⟨k,hk,h,⟨h1,h2⟩,hn⟩
 ·refine .inr ⟨Gy h,fun hK=>?_⟩;obtain ⟨n,hnl⟩:∃ n,m.length=K+n:=⟨m.length - K,by omega⟩
  rw [hnl];exact Fh n fun i h1 h2=>by
   have:=hn i (by omega);cases hi:inB m i
   ·rfl
   ·exact absurd ⟨by omega,hi⟩ this
 ·refine .inl ⟨k,by omega,hk,h2,Lu h,?_⟩;obtain ⟨n,rfl⟩:∃ n,k=K+n:=⟨k - K,by omega⟩
  exact Fh n fun i h1 h2=>by
   have:=hn i (by omega);cases hi:inB m i
   ·rfl
   ·exact absurd ⟨by omega,hi⟩ this
theorem KL (ok:Nat->Prop) (v:Value) (m:List Bool) (K:Nat) (w:World) (h:Bm ok w v m) (ht:Tab w) (hK:K<=4096) :
  Calls Tryz.prog 116 #[v,.int .i64 (K:Int)] w fun e w'=>∃ x,e=.returned x/\PU m K x/\w=w':=
 (Td ok v m K w h ht (by omega) (by omega)).mono fun _ _ h=>⟨_,h.1,aK m K,h.2⟩
set_option maxRecDepth 20000 in
set_option maxHeartbeats 2000000 in
theorem Ui (ok:Nat->Prop) (v:Value) (m:List Bool) (w:World) (h:Bm ok w v m) (ht:Tab w) :
  Calls Tryz.prog 69 #[v] w fun e w'=>(∃ x,e=.returned x/\w'.ownsRow w.heap.size 3 1 x (Gp (inB m) m.length) (Ce (AO (inB m) m.length)))/\Below w.heap.size w w':=by
 have HB0:=hid h;have HT0:=hid ht;obtain ⟨S,hS⟩:∃ S,S=m.length:=⟨_,rfl⟩
 have HS:=hid hS;have hs2:(S:Int)<=2048:=by have:=h.len;omega
 have HL0:=hid (KL ok v m 0 w h ht (by omega));have HC:Hid (Calls Tryz.prog 116 #[v,.int .i64 0] w fun e w'=>∃ x,e=.returned x/\PU m 0 x/\w=w'):=hid HL0.out;clear h ht hS HL0
 go_enter Tryz.func69,Tryz.ntmps69
 go_wp2_with fail
 refine HC.out.mono ?_;clear HC;rintro e w1 ⟨x,rfl,hx,rfl⟩;obtain ⟨a1,a2,rfl,HA⟩:∃ a1 a2,x=.tuple #[a1,a2]/\Hid (dK m w w.heap.size (.slice none 0 0) a1 a2):=by
  rcases hx with ⟨k,_,hk,hin,rfl,hn⟩ | ⟨rfl,hn⟩
  ·exact ⟨_,_,rfl,hid (.inl ⟨k,hk,hin,rfl,rfl,by unfold Gp;rw [hn];exact World.ownsRow_nil _ _ _ _⟩)⟩
  ·exact ⟨_,_,rfl,hid (.inr ⟨rfl,rfl,by unfold Gp;rw [hn (Nat.zero_le _)];exact World.ownsRow_nil _ _ _ _⟩)⟩
 clear hx
 go_wp2_with fail
 go_loopw [3,4,5] (fun l no e wr=>dK m wr w.heap.size l no e/\Below w.heap.size w wr) (fun _ no e _=>Zn S no e)
 case atStart=>exact ⟨HA.out,Below.refl _ _⟩
 case round=>
  obtain ⟨hat,hb⟩:=hrel;have HB:=hid hb;clear hb HA;rcases hat with ⟨k,hk,hin,rfl,rfl,hv⟩ | ⟨rfl,rfl,hv⟩
  ·have hkS:(k:Int) < S:=by have:=HS.out;omega
   have hcnt:((Gp (inB m) k:Nat):Int)<=k:=by have:=I9 (inB m) k;unfold Gp;omega
   have HV:=hid hv;have HT:=hid (And.intro (Iy hin) (Y7 hin));clear hk hin hv
   go_wp2_with (refine Bc rfl (.tmp 20) (.tmp 22) 54 rfl w.heap.size 3 (.int .i64 0) 8 Tryz.underlying54 MF rfl _ _ _ rfl (HV.out.alloc _) (some ⟨wr.heap.size,0,none⟩) 1 1 _ rfl rfl (by intro h;cases h) (Pe wr _ _) (by simp [Value.oneCell']) (by unfold maxLen;omega) (by omega) (by have:=HB.out.size;simp;omega) ?_)
   intro v4 w4 hv4 hg4 _;have HB4:Hid (Below w.heap.size w w4):=hid (AX (w0:=w) (HB.out.alloc HB.out.size _) (HV.out.alloc _) (Nat.le_refl _) hg4);have HV4:Hid (w4.ownsRow w.heap.size 3 1 v4 (Gp (inB m) (k+1)) (Ce (AO (inB m) (k+1)))):=hid (by rw [HT.out.1,HT.out.2,I8];exact hv4);clear hv4 hg4 HV HB HT;have HN:=hid (KL ok v m (k+1) w4 (HB0.out.below HB4.out) (HT0.out.below HB4.out) (by have:=HS.out;omega));have HN2:Hid (Calls Tryz.prog 116 #[v,.int .i64 ((k:Int)+1)] w4 fun e w'=>∃ x,e=.returned x/\PU m (k+1) x/\w4=w'):=hid HN.out;clear HN
   go_wp2_with fail
   refine HN2.out.mono ?_;clear HN2;rintro e w5 ⟨x,rfl,hx,rfl⟩;rcases hx with ⟨k2,hk1,hk2,hin2,rfl,hn⟩ | ⟨rfl,hn⟩
   ·have HX:=hid (And.intro hk1 (And.intro hk2 (And.intro hin2 hn)));clear hk1 hk2 hin2 hn
    go_wp2_with fail
    go_roundw
    case rel=>exact ⟨.inl ⟨k2,HX.out.2.1,HX.out.2.2.1,rfl,rfl,by unfold Gp;rw [HX.out.2.2.2];exact HV4.out⟩,HB4.out⟩
    case measure=>
     have:=HX.out.1;have:=HX.out.2.1;have:=HS.out;simp [Zn,intOf];omega
   ·have HX:=hid hn;clear hn
    go_wp2_with fail
    go_roundw
    case rel=>exact ⟨.inr ⟨rfl,rfl,by unfold Gp;rw [HX.out (by have:=HS.out;omega)];exact HV4.out⟩,HB4.out⟩
    case measure=>simp [Zn,intOf];omega
  ·have HV:=hid hv;clear hv
   go_wp2_with fail
   go_ret
   exact ⟨⟨_,rfl,HV.out⟩,HB.out⟩
theorem Ff {bs:List Int} {k:Nat} (h:k < bs.length):bs.take (k+1)=bs.take k++[bs.getD k 0]:=by
 rw [List.take_succ_eq_append_getElem h,List.getD_eq_getElem?_getD,List.getElem?_eq_getElem h];rfl
theorem VW (S:Nat) (w:World) (h1:(1:Int)<=S) (h2:(S:Int)<=2048):Calls Tryz.prog 153 #[.int .i64 (S:Int),.slice none 0 0] w fun e w'=>(∃ v,e=.returned (.tuple #[v,.int .i64 0])/\NewSet w.heap.size w' v (List.replicate S false))/\Below w.heap.size w w':=
 aN (fun _=>True) S none 0 [] w (Si.nil _ _ _) h1 h2 (by decide)
def mix (f:Bool->Bool->Bool) (m o:List Bool):List Bool:=(List.range m.length).map fun i=>f (inB m i) (inB o i)
theorem Pq (f:Bool->Bool->Bool) (m o:List Bool):(mix f m o).length=m.length:=by simp [mix]
theorem UV (f:Bool->Bool->Bool) (m o:List Bool) (i:Nat):inB (mix f m o) i=(decide (i < m.length) && f (inB m i) (inB o i)):=by
 by_cases h:i < m.length
 ·unfold mix;rw [decide_eq_true h,Bool.true_and]
  conv=>lhs;unfold inB
  rw [List.getD_eq_getElem?_getD,List.getElem?_map,List.getElem?_range h];rfl
 ·rw [PG (by rw [Pq];omega)];simp [h]
theorem Bm.old {ok:Nat->Prop} {w:World} {v:Value} {m:List Bool} (h:Bm ok w v m):Bm (fun b=>b < w.heap.size) w v m:=h.mono fun _ _ hb=>hb
theorem TQ {B:Nat} {w':World} {e:Ending} {m:List Bool} {V:List Nat} (h:ZF B w' e m.length V) (hb:∀ i,Cf V i=inB m i):∃ v,e=.returned v/\NewSet B w' v m:=by
 obtain ⟨b2,g2,c2,h1,h2,h3,h4⟩:=h;exact ⟨_,h1,b2,g2,c2,V,rfl,h2,h3,h4,hb⟩
def JR (B:Nat) (v:Value) (m:List Bool) (w':World) (x:Value):Prop:=(v=.pointer none/\m=[]/\x=.pointer none)\/NewSet B w' x m
theorem Y6 (ok:Nat->Prop) (v:Value) (m:List Bool) (w:World) (h:Bm ok w v m) :
  Calls Tryz.prog 119 #[v] w fun e w'=>(∃ x,e=.returned x/\JR w.heap.size v m w' x)/\Below w.heap.size w w':=by
 rcases h with ⟨rfl,rfl⟩ | ⟨b,g,c,W,rfl,_,_,hat,hbits⟩
 ·refine (Y5 w).mono ?_;rintro e w' ⟨rfl,rfl⟩;exact ⟨⟨_,rfl,.inl ⟨rfl,rfl,rfl⟩⟩,Below.refl _ _⟩
 ·refine (WJ b g c m.length W w hat).mono ?_;rintro e w' ⟨h,hb⟩;obtain ⟨v,h1,h2⟩:=TQ h hbits;exact ⟨⟨v,h1,.inr h2⟩,hb⟩
def ZC (F:Nat) (h:Nat->Nat->Nat):Prop:=∀ (ok:Nat->Prop) (b g c S:Nat) (V:List Nat) (vo:Value) (mo:List Bool) (O:List Nat) (w:World),BmAt w b g c S V->BmW ok w vo mo O->(∀ i,ok i->i≠g)->
  Calls Tryz.prog 133 #[.pointer (some ⟨b,0,none⟩),vo,.func (.func F) #[] #[]] w fun e w'=>e=.returned (.tuple #[])/\(∃ V',BmAt w' b g c S V'/\Cut S (EP h V O V.length) V')/\Mv (fun i=>i=g) w w'
theorem Yp {F:Nat} {h:Nat->Nat->Nat} {f:Bool->Bool->Bool} (hj:ZC F h) (hf:∀ x y j,x < 18446744073709551616->y < 18446744073709551616->j < 64->(h x y).testBit j=f (x.testBit j) (y.testBit j))
  (B:Nat) (w:World) (v vo:Value) (m mo:List Bool) (hn:NewSet B w v m) (ho:Bm (fun b=>b < B) w vo mo) :
  Calls Tryz.prog 133 #[v,vo,.func (.func F) #[] #[]] w fun e w'=>e=.returned (.tuple #[])/\NewSet B w' v (mix f m mo)/\Mv (fun i=>B<=i) w w':=by
 obtain ⟨b,g,c,W,rfl,h2,h3,h4,h5⟩:=hn;obtain ⟨O,hO⟩:=ho.words;refine (hj _ b g c m.length W vo mo O w h4 hO fun i hi e=>by omega).mono ?_;rintro e w' ⟨h1,⟨V',h6,h7⟩,h8⟩;refine ⟨h1,⟨b,g,c,V',rfl,h2,h3,by rw [Pq];exact h6,fun i=>?_⟩,h8.sub fun i _ hi=>by subst hi;exact h3⟩;rw [h7 i,UV];by_cases hi:i < m.length
 ·rw [QL h4.fits hO.fits hf (by have:=h4.len;omega),h5,hO.bits]
 ·simp [hi]
theorem Yo (vo f:Value) (w:World):Calls Tryz.prog 133 #[.pointer none,vo,f] w fun e w'=>e=.returned (.tuple #[])/\w=w':=by
 go_enter Tryz.func133,Tryz.ntmps133
 go_wp2_with fail
 exact bodyPost_ret (v:=.tuple #[]) (results_none rfl _ _ _) rfl ⟨rfl,rfl⟩
theorem aV (B:Nat) (w:World) (v vo:Value) (m mo:List Bool) (hn:NewSet B w v m) (ho:Bm (fun b=>b < B) w vo mo) :
  Calls Tryz.prog 133 #[v,vo,.func (.func 134) #[] #[]] w fun e w'=>e=.returned (.tuple #[])/\NewSet B w' v (mix (fun x y=>x||y) m mo)/\Mv (fun i=>B<=i) w w':=
 Yp (fun ok b g c S V vo mo O w=>Tn ok b g c S V vo mo O w) (fun x y j _ _ _=>Nat.testBit_or x y j) B w v vo m mo hn ho
theorem Pm {w0 a b:World} {B:Nat} (h:Below w0.heap.size w0 a) (k:Mv (fun i=>B<=i) a b) (hB:w0.heap.size<=B):Below w0.heap.size w0 b:=h.trans (k.below h.size fun i hi=>by omega)
def Gw (m:List Bool) (ms:Nat->List Bool):Nat->List Bool
 | 0=>m
 | k+1=>mix (fun x y=>x||y) (Gw m ms k) (ms k)
theorem KG (m:List Bool) (ms:Nat->List Bool):∀ k,(Gw m ms k).length=m.length
 | 0=>rfl
 | k+1=>by unfold Gw;rw [Pq,KG m ms k]
def BmS (ok:Nat->Prop) (w:World) (a:Option Addr) (n:Nat) (ms:Nat->List Bool):Prop:=∀ i,i < n->∃ b o v,a=some ⟨b,o,none⟩/\ok b/\w.cell? ⟨b,o+i,none⟩=some v/\Bm ok w v (ms i)
theorem BmS.mv {ok:Nat->Prop} {w w':World} {a:Option Addr} {n:Nat} {ms:Nat->List Bool} {F:Nat->Prop} (h:BmS ok w a n ms) (hm:Mv F w w') (hk:∀ i,ok i->¬ F i):BmS ok w' a n ms:=fun i hi=>by
 obtain ⟨b,o,v,h1,h2,h3,h4⟩:=h i hi;exact ⟨b,o,v,h1,h2,hm.cell h3 (hk b h2),h4.mv hm hk⟩
theorem BmS.old {ok:Nat->Prop} {w:World} {a:Option Addr} {n:Nat} {ms:Nat->List Bool} (h:BmS ok w a n ms):BmS (fun b=>b < w.heap.size) w a n ms:=fun i hi=>by
 obtain ⟨b,o,v,h1,h2,h3,h4⟩:=h i hi;exact ⟨b,o,v,h1,Az h3,h3,h4.old⟩
set_option maxRecDepth 20000 in
theorem Vw (ok:Nat->Prop) (v:Value) (m:List Bool) (a:Option Addr) (n c:Nat) (ms:Nat->List Bool) (w:World) (h:Bm ok w v m) (hs:BmS ok w a n ms) (hl:(n:Int)<=9223372036854775807) :
  Calls Tryz.prog 98 #[v,.slice a n c] w fun e w'=>(∃ x,e=.returned x/\JR w.heap.size v (Gw m ms n) w' x)/\Below w.heap.size w w':=by
 have HS:=hid hs.old;have HC:=hid (Y6 ok v m w h);clear h hs
 go_enter Tryz.func98,Tryz.ntmps98
 go_wp2_with fail
 refine HC.out.mono ?_;clear HC;rintro e w1 ⟨⟨x,rfl,hx⟩,hb⟩;have HB1:=hid hb;have HS1:=hid (HS.out.mv (F:=fun _=>False) (Mv.of_below hb) fun _ _=>id);clear hb HS;have HX:=hid hx;clear hx
 go_wp2_with fail
 go_loopw [12] (fun i wr=>∃ k:Nat,k<=n/\i=.int .i64 (k:Int)/\JR w.heap.size v (Gw m ms k) wr x/\BmS (fun b=>b < w.heap.size) wr a n ms/\Below w.heap.size w wr) (fun i _=>n - (intOf i).toNat)
 case atStart=>exact ⟨0,Nat.zero_le _,rfl,HX.out,HS1.out,HB1.out⟩
 case round=>
  obtain ⟨k,hk,rfl,hx,hs,hb⟩:=hrel;have HB:=hid hb;have HSR:=hid hs;clear hb hs HX HS1 HB1;by_cases hlt:(k:Int) < n
  ·obtain ⟨b0,o0,vo,rfl,hok,hcell,hbm⟩:=HSR.out k (by omega);have hkn:(k < n)=True:=eq_true (by omega);rcases hx with ⟨rfl,h2,rfl⟩ | hx
   ·have H2:=hid h2;clear h2 hbm
    go_wp2_with fail
    refine (Yo _ _ _).mono ?_;rintro e w2 ⟨rfl,rfl⟩
    go_wp2_with fail
    go_roundw
    case rel=>exact ⟨k+1,by omega,by go_num,.inl ⟨rfl,by unfold Gw;rw [H2.out];rfl,rfl⟩,HSR.out,HB.out⟩
    case measure=>simp [intOf];omega
   ·have HX:=hid (aV _ _ _ _ _ _ hx hbm);clear hx hbm
    go_wp2_with fail
    refine HX.out.mono ?_;clear HX;rintro e w2 ⟨rfl,hn,hm⟩;have HN:=hid hn;have HB2:=hid (Pm HB.out hm (Nat.le_refl _));have HS2:=hid (HSR.out.mv hm fun i hi=>by omega);clear hn hm HB HSR
    go_wp2_with fail
    go_roundw
    case rel=>exact ⟨k+1,by omega,by go_num,.inr HN.out,HS2.out,HB2.out⟩
    case measure=>simp [intOf];omega
  ·have hkf:(k < n)=False:=eq_false (by omega);have HKN:Hid (k=n):=hid (by omega);have HX:=hid hx;clear hlt hx
   go_wp2_with fail
   go_ret
   exact ⟨⟨_,rfl,by rw [<- HKN.out];exact HX.out⟩,HB.out⟩
end Go.Proofs.YtfhdojnobmfefaaGreatDoor
