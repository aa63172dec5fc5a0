/- MADE SMALL. -/
import Derived.Test.YtfhdojnobmfefaaGreatDoorG26
import Derived.Deep.CutBlock
import Derived.Lib.AppendZeros
import Derived.Test.YtfhdojnobmfefaaGreatDoorG8
import Derived.Test.YtfhdojnobmfefaaGreatDoorG25
import Derived.Test.YtfhdojnobmfefaaGreatDoorG7
import Derived.Test.YtfhdojnobmfefaaGreatDoorG17
namespace Go.Proofs.YtfhdojnobmfefaaGreatDoor
open Go.RowKit Go.Inc
set_option maxRecDepth 20000 in
set_option maxHeartbeats 2000000 in
theorem Gj (s n:Int) (w:World):Calls Tryz.prog 63 #[.agg #[.int .i64 s,.int .i64 n]] w fun e w'=>e=.returned (.bool (okK (s,n)))/\Below w.heap.size w w':=by
 obtain ⟨O,hO⟩:∃ O,O=okK (s,n):=⟨_,rfl⟩
 rw [<- hO];have HO:=hid hO;have hbad:¬ (0<=s/\s < 16/\0<=n/\n < 65536)->O=false:=fun h=>by
  rw [HO.out];exact Bool.eq_false_iff.2 fun hh=>h (okK_iff.1 hh)
 have HBAD:=hid hbad;clear hbad hO;by_cases h1:(0:Int)<=s
 ·have d1:decide ((0:Int)<=s)=true:=decide_eq_true h1;by_cases h2:s<=15
  ·have d2:decide (s<=15)=true:=decide_eq_true h2;by_cases h3:(0:Int)<=n
   ·have d3:decide ((0:Int)<=n)=true:=decide_eq_true h3;by_cases h4:n<=65535
    ·have d4:decide (n<=65535)=true:=decide_eq_true h4;have hT:O=true:=by rw [HO.out];exact okK_iff.2 ⟨h1,by simp only;omega,h3,by simp only;omega⟩
     subst hT;clear h1 h2 h3 h4
     go_enter Tryz.func63,Tryz.ntmps63
     go_wp2_with fail
     go_ret
     exact ⟨rfl,Ad w _⟩
    ·have d4:decide (n<=65535)=false:=decide_eq_false h4;have hF:O=false:=HBAD.out fun hh=>h4 (by omega);subst hF;clear h1 h2 h3 h4
     go_enter Tryz.func63,Tryz.ntmps63
     go_wp2_with fail
     go_ret
     exact ⟨rfl,Ad w _⟩
   ·have d3:decide ((0:Int)<=n)=false:=decide_eq_false h3;have hF:O=false:=HBAD.out fun hh=>h3 hh.2.2.1;subst hF;clear h1 h2 h3
    go_enter Tryz.func63,Tryz.ntmps63
    go_wp2_with fail
    go_ret
    exact ⟨rfl,Ad w _⟩
  ·have d2:decide (s<=15)=false:=decide_eq_false h2;have hF:O=false:=HBAD.out fun hh=>h2 (by omega);subst hF;clear h1 h2
   go_enter Tryz.func63,Tryz.ntmps63
   go_wp2_with fail
   go_ret
   exact ⟨rfl,Ad w _⟩
 ·have d1:decide ((0:Int)<=s)=false:=decide_eq_false h1;have hF:O=false:=HBAD.out fun hh=>h1 hh.1;subst hF;clear h1
  go_enter Tryz.func63,Tryz.ntmps63
  go_wp2_with fail
  go_ret
  exact ⟨rfl,Ad w _⟩
set_option maxRecDepth 20000 in
set_option maxHeartbeats 2000000 in
theorem EN (s z s' z':Int) (w:World):Calls Tryz.prog 66 #[.agg #[.int .i64 s,.int .i64 z],.agg #[.int .i64 s',.int .i64 z']] w fun e w'=>e=.returned (.bool (CZ (s,z) (s',z')))/\Below w.heap.size w w':=by
 obtain ⟨O,hO⟩:∃ O,O=CZ (s,z) (s',z'):=⟨_,rfl⟩
 have HO:=hid hO;rw [<- hO];unfold CZ at hO;simp only at hO;by_cases hs:s=s'
 ·subst hs;have hE:O=decide (z < z'):=by rw [hO];simp
  have HE:=hid hE;clear hO hE HO
  go_enter Tryz.func66,Tryz.ntmps66
  go_wp2_with fail
  go_ret
  exact ⟨by rw [HE.out];rfl,((Below.refl _ _).alloc (Nat.le_refl _) _).alloc (by simp) _⟩
 ·have hE:O=decide (s < s'):=by rw [hO,decide_eq_false hs];simp
  have HE:=hid hE;have hs1:(s == s')=false:=beq_eq_false_iff_ne.2 hs;have hs2:(s=s')=False:=eq_false hs;clear hO hE HO
  go_enter Tryz.func66,Tryz.ntmps66
  go_wp2_with fail
  go_ret
  exact ⟨by rw [HE.out];rfl,((Below.refl _ _).alloc (Nat.le_refl _) _).alloc (by simp) _⟩
set_option maxRecDepth 20000 in
set_option maxHeartbeats 2000000 in
theorem FW (s n p:Int) (w:World):Calls Tryz.prog 102 #[.agg #[.int .i64 s,.int .i64 n,.int .i64 p]] w fun e w'=>e=.returned (.bool (!okE ((s,n),p)))/\Below w.heap.size w w':=by
 obtain ⟨O,hO⟩:∃ O,O=okE ((s,n),p):=⟨_,rfl⟩
 have HO:=hid hO;rw [<- hO];obtain ⟨w0,hw0⟩:∃ w0,w0=w.alloc (.cells #[.int .i64 s,.int .i64 n,.int .i64 p] 65):=⟨_,rfl⟩
 have HW0:=hid hw0;have HB0:Hid (Below w.heap.size w w0):=hid (by rw [hw0];exact Ad w _);obtain ⟨g,hg⟩:∃ g,g=w.heap.size:=⟨_,rfl⟩
 have HG:=hid hg;have HX0:Hid (w0.heap[g]?=some (.cells #[.int .i64 s,.int .i64 n,.int .i64 p] 65 (0,0))):=hid (by rw [hw0,hg];exact heap_alloc_new w _);have HR:=hid (Gj s n w0);obtain ⟨K,hK⟩:∃ K,K=okK (s,n):=⟨_,rfl⟩
 rw [<- hK] at HR;have hOK:O=(K && decide (1 < p) && decide (p < 2048)):=by rw [hO,hK];rfl
 have HOK:=hid hOK;clear hO hw0 hg hK hOK
 go_enter Tryz.func102,Tryz.ntmps102
 go_upto_region 1 with fail
 rw [<- HW0.out,<- HG.out];have hc0:w0.cell? ⟨g,0,none⟩=some (.int .i64 s):=coR HX0.out;have hc1:w0.cell? ⟨g,1,none⟩=some (.int .i64 n):=coR HX0.out
 go_wp2_with fail
 refine HR.out.mono ?_;rintro e w1 ⟨rfl,hb1⟩;have HB1:Hid (Below w.heap.size w w1):=hid (HB0.out.trans (hb1.mono HB0.out.size));have hx1:=Ac HX0.out hb1;have hc2:w1.cell? ⟨g,2,none⟩=some (.int .i64 p):=coR hx1;clear hc0 hc1 hb1 hx1 HR HW0 HB0 HX0;cases K with
 | false=>
  have HF:Hid (O=false):=hid HOK.out
  go_wp2_with fail
  go_ret
  exact ⟨by rw [HF.out];rfl,HB1.out⟩
 | true=>
  by_cases h1:p < 2
  ·have d1:decide (p < 2)=true:=decide_eq_true h1;have HF:Hid (O=false):=hid (by rw [HOK.out,decide_eq_false (show ¬ 1 < p by omega)];rfl);clear h1
   go_wp2_with fail
   go_ret
   exact ⟨by rw [HF.out];rfl,HB1.out⟩
  ·have d1:decide (p < 2)=false:=decide_eq_false h1;by_cases h2:(2048:Int)<=p
   ·have d2:decide ((2048:Int)<=p)=true:=decide_eq_true h2;have HF:Hid (O=false):=hid (by rw [HOK.out,decide_eq_false (show ¬ p < 2048 by omega)];simp);clear h1 h2
    go_wp2_with fail
    go_ret
    exact ⟨by rw [HF.out];rfl,HB1.out⟩
   ·have d2:decide ((2048:Int)<=p)=false:=decide_eq_false h2;have HF:Hid (O=true):=hid (by rw [HOK.out,decide_eq_true (show p < 2048 by omega),decide_eq_true (show 1 < p by omega)];rfl);clear h1 h2
    go_wp2_with fail
    go_ret
    exact ⟨by rw [HF.out];rfl,HB1.out⟩
theorem Xg {es:List Et} {k:Nat} (h:k < es.length):DZ (es.take (k+1))=(DZ (es.take k)||!okE (es.getD k et0)):=by
 unfold DZ;rw [DK (d:=et0) h,List.any_append];simp
theorem Xh {es:List Et} {k:Nat} (h:DZ (es.take k)=true):DZ es=true:=by
 unfold DZ at *
 rw [List.any_eq_true] at *
 obtain ⟨x,hx,h2⟩:=h;exact ⟨x,List.mem_of_mem_take hx,h2⟩
set_option maxRecDepth 20000 in
set_option maxHeartbeats 2000000 in
theorem TF (ok:Nat->Prop) (a:Option Addr) (c:Nat) (es:List Et) (w:World) (hs:EtS ok w a es) (hl:(es.length:Int)<=1000000) :
  Calls Tryz.prog 136 #[.slice a es.length c,.func (Fn.func 102) #[] #[]] w fun e w'=>(∃ r:Int,e=.returned (.int .i64 r)/\decide (0<=r)=DZ es)/\Below w.heap.size w w':=by
 have HS:=hid hs.old;obtain ⟨n,hn⟩:∃ n,n=es.length:=⟨_,rfl⟩
 have HN:=hid hn;rw [<- hn] at hl ⊢;clear hs hn
 go_enter Tryz.func136,Tryz.ntmps136
 go_wp2_with fail
 go_loopw [8] (fun i wr=>∃ k:Nat,k<=n/\i=.int .i64 (k:Int)/\DZ (es.take k)=false/\Below w.heap.size w wr) (fun i _=>n - (intOf i).toNat)
 case atStart=>exact ⟨0,Nat.zero_le _,rfl,rfl,Below.refl _ _⟩
 case round=>
  obtain ⟨k,hk,rfl,hnb,hb⟩:=hrel;have HNB:=hid hnb;have HB:=hid hb;clear hnb hb;by_cases hlt:(k:Int) < n
  ·have hkn:(k < n)=True:=eq_true (by omega);obtain ⟨b,o,rfl,hx1,hx2,hx3⟩:=(HS.out.below HB.out).cell (i:=k) (by have:=HN.out;omega);have hsn:=Xg (es:=es) (k:=k) (by have:=HN.out;omega);have HM:=hid (Xh (es:=es) (k:=k+1));obtain ⟨⟨⟨s,z⟩,p⟩,hx⟩:∃ x,x=es.getD k et0:=⟨_,rfl⟩
   rw [<- hx] at hx1 hx2 hx3 hsn;simp only at hx1 hx2 hx3;have HSN:=hid hsn;have HR:=hid (FW s z p wr);obtain ⟨O,hO⟩:∃ O,O=okE ((s,z),p):=⟨_,rfl⟩
   rw [<- hO] at HR HSN;clear hx hO hsn
   go_wp2_with fail
   refine HR.out.mono ?_;clear HR;rintro e w1 ⟨rfl,hb1⟩;have HB1:Hid (Below w.heap.size w w1):=hid (HB.out.trans (hb1.mono HB.out.size));clear hb1 hx1 hx2 hx3 HB;cases O with
   | false=>
    have HBAD:Hid (DZ es=true):=hid (HM.out (by rw [HSN.out];simp))
    go_wp2_with fail
    go_ret
    refine ⟨⟨_,rfl,?_⟩,HB1.out⟩;rw [HBAD.out];simp
   | true=>
    have HGD:Hid (DZ (es.take (k+1))=false):=hid (by rw [HSN.out,HNB.out];rfl)
    go_wp2_with fail
    go_roundw
    case rel=>exact ⟨k+1,by omega,by go_num,HGD.out,HB1.out⟩
    case measure=>simp [intOf];omega
  ·have hkf:(k < n)=False:=eq_false (by omega);have HBF:Hid (DZ es=false):=hid (by have h:=HNB.out;rw [show k=n by omega,HN.out,List.take_length] at h;exact h);clear hlt
   go_wp2_with fail
   go_ret
   refine ⟨⟨-1,rfl,?_⟩,HB.out⟩;rw [HBF.out];decide
set_option maxRecDepth 20000 in
theorem Ja (ok:Nat->Prop) (a:Option Addr) (n c:Nat) (es:List Et) (w:World) (hs:EtS ok w a es) (hn:n=es.length) (hl:(n:Int)<=1000000) :
  Calls Tryz.prog 101 #[.slice a n c,.func (Fn.func 102) #[] #[]] w fun e w'=>e=.returned (.bool (DZ es))/\Below w.heap.size w w':=by
 subst hn;have H:=hid (TF ok a c es w hs hl);clear hs hl
 go_enter Tryz.func101,Tryz.ntmps101
 go_wp2_with fail
 refine H.out.mono ?_;rintro e w' ⟨⟨r,rfl,hr⟩,hb⟩;have HR:=hid hr;have HB:=hid hb;clear hr hb
 go_wp2_with fail
 go_ret
 exact ⟨Eg HR.out,HB.out⟩
theorem VM {es:List Et} (hg:∀ e∈es,okE e=true) {j:Nat} (h:j+1 < es.length):EX es (j+1)=CZ (es.getD j et0).1 (es.getD (j+1) et0).1:=by
 unfold EX;rw [Nat.add_sub_cancel,GV (Bj (hg _ (CX (by omega)))) (Bj (hg _ (CX h)))]
set_option maxRecDepth 20000 in
set_option maxHeartbeats 4000000 in
theorem Qm (ok:Nat->Prop) (a:Option Addr) (n c:Nat) (es:List Et) (w:World) (hs:EtS ok w a es) (hn:n=es.length) (hl:(n:Int)<=1000000) (hg:DZ es=false) :
  Calls Tryz.prog 103 #[.slice a n c] w fun e w'=>e=.returned (.bool (!D9 es))/\Below w.heap.size w w':=by
 have HS:=hid hs.old;have HN:=hid hn;have HGA:=hid (badN_false.1 hg);clear hs hn hg
 go_enter Tryz.func103,Tryz.ntmps103
 go_wp2_with fail
 go_loopw [3] (fun i wr=>∃ k:Nat,1<=k/\i=.int .i64 (k:Int)/\(k<=n\/k=1)/\(∀ j,0 < j->j < k->j < n->EX es j=true)/\Below w.heap.size w wr) (fun i _=>n - (intOf i).toNat)
 case atStart=>exact ⟨1,Nat.le_refl _,rfl,.inr rfl,fun j h0 h1=>by omega,Below.refl _ _⟩
 case round=>
  obtain ⟨k,hk1,rfl,hkn0,ht,hb⟩:=hrel;have HT:=hid ht;have HB:=hid hb;clear ht hb;by_cases hlt:(k:Int) < n
  ·have hkn:(k < n)=True:=eq_true (by omega);obtain ⟨j,rfl⟩:∃ j,k=j+1:=⟨k - 1,by omega⟩
   obtain ⟨b,o,rfl,-⟩:=(HS.out.below HB.out).cell (i:=j+1) (by have:=HN.out;omega);have hra:=VM HGA.out (j:=j) (by have:=HN.out;omega);obtain ⟨⟨⟨s1,z1⟩,p1⟩,hx⟩:∃ x,x=es.getD j et0:=⟨_,rfl⟩
   obtain ⟨⟨⟨s2,z2⟩,p2⟩,hx'⟩:∃ x,x=es.getD (j+1) et0:=⟨_,rfl⟩
   rw [<- hx,<- hx'] at hra;have HC:Hid (∀ x,Grew wr.drew x->x.cell? ⟨b,o+j * 3,none⟩=some (.int .i64 s1)/\x.cell? ⟨b,o+j * 3+1,none⟩=some (.int .i64 z1)/\x.cell? ⟨b,o+(j+1) * 3,none⟩=some (.int .i64 s2)/\x.cell? ⟨b,o+(j+1) * 3+1,none⟩=some (.int .i64 z2)):=hid fun x hg=>by
    have hb:Below wr.heap.size wr x:=⟨hg.os,hg.tape,hg.output,hg.size,hg.block⟩
    have hS:=(HS.out.below HB.out).below hb;obtain ⟨b1,o1,e1,q1,q2,-⟩:=hS.cell (i:=j) (by have:=HN.out;omega);cases e1;obtain ⟨b2,o2,e2,r1,r2,-⟩:=hS.cell (i:=j+1) (by have:=HN.out;omega);cases e2;rw [<- hx] at q1 q2;rw [<- hx'] at r1 r2;exact ⟨q1,q2,r1,r2⟩
   obtain ⟨L,hL⟩:∃ L,L=CZ (s1,z1) (s2,z2):=⟨_,rfl⟩
   have HLESS:Hid (∀ y,Calls Tryz.prog 66 #[.agg #[.int .i64 s1,.int .i64 z1],.agg #[.int .i64 s2,.int .i64 z2]] y fun e w'=>e=.returned (.bool L)/\Below y.heap.size y w'):=hid fun y=>by rw [hL];exact EN s1 z1 s2 z2 y
   simp only at hra;rw [<- hL] at hra;have HRA:=hid hra;have hkj:((j+1:Nat):Int) - 1=(j:Int):=by omega
   have hjn:(j < n)=True:=eq_true (by omega);have hjn2:(j:Int) < (n:Int):=by omega
   have hjn3:(j:Int)+1 < (n:Int):=by omega
   have hjc:((j+1:Nat):Int)=(j:Int)+1:=by omega
   have hwj:IntKind.i64.wrap (j:Int)=(j:Int):=by
    have h1:(j:Int) < 9223372036854775808:=by omega
    rw [IntKind.wrap_i64];omega
   clear hx hx' hra hL
   go_wp2_with fail
   refine Ai 13 [EqN (.slice (some ⟨b,o,none⟩) n c),EqN (.int .i64 ((j+1:Nat):Int)),EqN (.int .i64 (j:Int)),EqN (.pointer (some ⟨b,o+j * 3,none⟩)),EqN (.pointer (some ⟨b,o+j * 3,none⟩)),EqN (.agg #[.int .i64 s1,.int .i64 z1]),EqN (.slice (some ⟨b,o,none⟩) n c),EqN (.int .i64 ((j+1:Nat):Int)),EqN (.pointer (some ⟨b,o+(j+1) * 3,none⟩)),EqN (.pointer (some ⟨b,o+(j+1) * 3,none⟩)),EqN (.agg #[.int .i64 s2,.int .i64 z2]),EqN (.bool L),EqN (.bool (!L))] (by kernel_rfl) (by decide) (by kernel_rfl) ?_ ?_ ?_
   ·repeat' (first | exact List.forall_mem_nil _ | refine List.forall_mem_cons.2 ⟨?_,?_⟩)
    all_goals
     intro w w' v hw h
     first | exact h | exact h
   ·simp only [AllLt];refine ⟨⟨⟨⟨⟨⟨⟨⟨⟨⟨⟨⟨⟨trivial,?_⟩,?_⟩,?_⟩,?_⟩,?_⟩,?_⟩,?_⟩,?_⟩,?_⟩,?_⟩,?_⟩,?_⟩,?_⟩
    all_goals
     intro o' ho;simp at ho;subst ho;intro ρ w5 hR hL hS hG;obtain ⟨hl1,hl2,-⟩:=hL
    ·refine Aa rfl ?_;intro bA K Q' hK;have e0:=hS 0 (by kernel_rfl);change ρ (.tmp 0)=_ at e0;simp only [execOp];go_simp;exact hK _ _ rfl (Grew.refl _)
    ·refine Aa rfl ?_;intro bA K Q' hK;have e3:=hS 3 (by kernel_rfl);change ρ (.tmp 3)=_ at e3;simp only [execOp];go_simp;exact hK _ _ rfl (Grew.refl _)
    ·refine Aa rfl ?_;intro bA K Q' hK;have e11:=apG (hG 1 11);change ρ (.tmp 11)=_ at e11;simp only [execOp];go_simp;exact hK _ _ rfl (Grew.refl _)
    ·refine Aa rfl ?_;intro bA K Q' hK;have e10:=apG (hG 0 10);have e12:=apG (hG 2 12);change ρ (.tmp 10)=_ at e10;change ρ (.tmp 12)=_ at e12;simp only [execOp];go_simp;exact hK _ _ rfl (Grew.refl _)
    ·refine Aa rfl ?_;intro bA K Q' hK;have e13:=apG (hG 3 13);change ρ (.tmp 13)=_ at e13;simp only [execOp];go_simp;exact hK _ _ rfl (Grew.refl _)
    ·refine Aa rfl ?_;intro bA K Q' hK;have e14:=apG (hG 4 14);change ρ (.tmp 14)=_ at e14;obtain ⟨y1,y2,y3,y4⟩:=HC.out w5 hR;simp only [execOp];go_simp;exact hK _ _ rfl (Grew.refl _)
    ·refine Aa rfl ?_;intro bA K Q' hK;have e0:=hS 0 (by kernel_rfl);change ρ (.tmp 0)=_ at e0;simp only [execOp];go_simp;exact hK _ _ rfl (Grew.refl _)
    ·refine Aa rfl ?_;intro bA K Q' hK;have e3:=hS 3 (by kernel_rfl);change ρ (.tmp 3)=_ at e3;simp only [execOp];go_simp;exact hK _ _ rfl (Grew.refl _)
    ·refine Aa rfl ?_;intro bA K Q' hK;have e16:=apG (hG 6 16);have e17:=apG (hG 7 17);change ρ (.tmp 16)=_ at e16;change ρ (.tmp 17)=_ at e17;simp only [execOp];go_simp;exact hK _ _ rfl (Grew.refl _)
    ·refine Aa rfl ?_;intro bA K Q' hK;have e18:=apG (hG 8 18);change ρ (.tmp 18)=_ at e18;simp only [execOp];go_simp;exact hK _ _ rfl (Grew.refl _)
    ·refine Aa rfl ?_;intro bA K Q' hK;have e19:=apG (hG 9 19);change ρ (.tmp 19)=_ at e19;obtain ⟨y1,y2,y3,y4⟩:=HC.out w5 hR;simp only [execOp];go_simp;exact hK _ _ rfl (Grew.refl _)
    ·refine Aa rfl ?_;intro bA K Q' hK;have e15:=apG (hG 5 15);have e20:=apG (hG 10 20);change ρ (.tmp 15)=_ at e15;change ρ (.tmp 20)=_ at e20;simp only [execOp];go_simp;refine (HLESS.out w5).mono ?_;rintro r9 w9 ⟨rfl,hb9⟩;exact hK _ _ rfl hb9
    ·refine Aa rfl ?_;intro bA K Q' hK;have e21:=apG (hG 11 21);change ρ (.tmp 21)=_ at e21;simp only [execOp];go_simp;exact hK _ _ rfl (Grew.refl _)
   ·intro vv w5 hR hG;have h12:vv 12=.bool (!L):=hG.2;have hb:Below wr.heap.size wr w5:=⟨hR.os,hR.tape,hR.output,hR.size,hR.block⟩
    have HB5:Hid (Below w.heap.size w w5):=hid (HB.out.trans (hb.mono HB.out.size));clear hG hR hb HC HLESS;simp [stG,stU,Au,Act.put,h12];clear h12;cases L with
    | true=>
     go_wp2_with fail
     go_roundw
     case rel=>exact ⟨j+1+1,by omega,by go_num,.inl (by have:=of_eq_true hkn;omega),fun i h0 h1 h2=>by
      by_cases e:i=j+1
      ·subst e;exact HRA.out
      ·exact HT.out i h0 (by omega) h2,HB5.out⟩
     case measure=>simp [intOf];omega
    | false=>
     have HO:Hid (D9 es=true):=hid (TQ (i:=j+1) (by have:=HN.out;have:=of_eq_true hkn;omega) (by omega) HRA.out)
     go_wp2_with fail
     go_ret
     exact ⟨by rw [HO.out];rfl,HB5.out⟩
  ·have hkf2:(k < n)=False:=eq_false (by omega);have HFF:Hid (D9 es=false):=hid (fallN_false.2 fun i h0 hi=>HT.out i h0 (by have:=HN.out;omega) (by have:=HN.out;omega));clear hlt
   go_wp2_with fail
   go_ret
   exact ⟨by rw [HFF.out];rfl,HB.out⟩
set_option maxRecDepth 20000 in
set_option maxHeartbeats 4000000 in
theorem BJ (a:Option Addr) (n c:Nat) (lf:Bool) (es:List Et) (w:World) (hnd:NdOk w a n c es) :
  Calls Tryz.prog 56 #[.agg #[.bool lf,.slice a n c]] w fun e w'=>e=.returned (.int .i64 (AL lf es))/\Below w.heap.size w w':=by
 obtain ⟨hn,hs,hl0,-⟩:=hnd;have hl:(n:Int)<=1000000:=by omega
 have HS:=hid hs;have HN:=hid hn;obtain ⟨g,hg⟩:∃ g,g=w.heap.size:=⟨_,rfl⟩
 have HG:=hid hg;obtain ⟨w0,hw0⟩:∃ w0,w0=w.alloc (.cells #[.bool lf,.slice a n c] 114):=⟨_,rfl⟩
 have HW0:=hid hw0;have HB0:Hid (Below w.heap.size w w0):=hid (by rw [hw0];exact Ad w _);have HX0:Hid (w0.heap[g]?=some (.cells #[.bool lf,.slice a n c] 114 (0,0))):=hid (by rw [hw0,hg];exact heap_alloc_new w _);have hb0:w0.cell? ⟨g,0,none⟩=some (.bool lf):=coR HX0.out;have hb1:w0.cell? ⟨g,1,none⟩=some (.slice a n c):=coR HX0.out;have HCON:=hid (Ja _ a n c es w0 (HS.out.below HB0.out) hn hl);clear hs hn hg hw0 hl0;by_cases hlong:(16:Int) < n
 ·have hd:decide ((16:Int) < n)=true:=decide_eq_true hlong;have hd2:(16 < n)=True:=eq_true (by omega);have HO:Hid (AL lf es=2):=hid (OY (by have:=HN.out;omega));clear hlong HCON
  go_enter Tryz.func56,Tryz.ntmps56
  go_upto_region 1 with fail
  rw [<- HW0.out,<- HG.out]
  go_wp2_with fail
  go_ret
  exact ⟨by rw [HO.out];rfl,HB0.out⟩
 have hd:decide ((16:Int) < n)=false:=decide_eq_false hlong;have hd2:(16 < n)=False:=eq_false (by omega);have HSH:Hid (es.length<=16):=hid (by have:=HN.out;omega);clear hlong
 go_enter Tryz.func56,Tryz.ntmps56
 go_upto_region 1 with fail
 rw [<- HW0.out,<- HG.out]
 go_wp2_with fail
 refine HCON.out.mono ?_;clear HCON;rintro e w1 ⟨rfl,hb⟩;have HB1:Hid (Below w.heap.size w w1):=hid (HB0.out.trans (hb.mono HB0.out.size));have HX1:=hid (Ac HX0.out hb);clear hb hb0 hb1 HB0 HX0 HW0;have hb0:w1.cell? ⟨g,0,none⟩=some (.bool lf):=coR HX1.out;have hb1:w1.cell? ⟨g,1,none⟩=some (.slice a n c):=coR HX1.out;obtain ⟨BD,hbd⟩:∃ x,x=DZ es:=⟨_,rfl⟩
 rw [<- hbd];cases BD with
 | true=>
  have HO:Hid (AL lf es=10):=hid (NF HSH.out hbd.symm);clear hbd
  go_wp2_with fail
  go_ret
  exact ⟨by rw [HO.out];rfl,HB1.out⟩
 | false=>
  have HBF:=hid hbd.symm;have HRI:=hid (Qm _ a n c es w1 (HS.out.below HB1.out) HN.out hl HBF.out);clear hbd
  go_wp2_with fail
  refine HRI.out.mono ?_;clear HRI;rintro e w2 ⟨rfl,hb⟩;have HB2:Hid (Below w.heap.size w w2):=hid (HB1.out.trans (hb.mono HB1.out.size));have HX2:=hid (Ac HX1.out hb);clear hb hb0 hb1 HB1 HX1;have hb0:w2.cell? ⟨g,0,none⟩=some (.bool lf):=coR HX2.out;have hb1:w2.cell? ⟨g,1,none⟩=some (.slice a n c):=coR HX2.out;obtain ⟨FL,hfl⟩:∃ x,x=D9 es:=⟨_,rfl⟩
  rw [<- hfl];cases FL with
  | true=>
   have HO:Hid (AL lf es=3):=hid (OZ HSH.out HBF.out hfl.symm);clear hfl
   go_wp2_with fail
   go_ret
   exact ⟨by rw [HO.out];rfl,HB2.out⟩
  | false=>
   have HFF:=hid hfl.symm;clear hfl;by_cases hnone:lf=false/\es=[]
   ·have HO:Hid (AL lf es=3):=hid (OX HSH.out HBF.out HFF.out hnone);have hl0:lf=false:=hnone.1;have hn0:n=0:=by rw [HN.out,hnone.2];rfl
    subst hl0 hn0;clear hnone
    go_wp2_with fail
    go_ret
    exact ⟨by rw [HO.out];rfl,HB2.out⟩
   ·have HO:Hid (AL lf es=0):=hid (IX HSH.out HBF.out HFF.out hnone);cases lf
    ·have hn0:((n:Int) == 0)=false:=by
      rw [beq_eq_false_iff_ne];intro h;exact hnone ⟨rfl,List.eq_nil_of_length_eq_zero (by have:=HN.out;omega)⟩
     have hn1:(n=0)=False:=eq_false (fun h=>hnone ⟨rfl,List.eq_nil_of_length_eq_zero (by have:=HN.out;omega)⟩);clear hnone
     go_wp2_with fail
     go_ret
     exact ⟨by rw [HO.out];rfl,HB2.out⟩
    ·clear hnone
     go_wp2_with fail
     go_ret
     exact ⟨by rw [HO.out];rfl,HB2.out⟩
end Go.Proofs.YtfhdojnobmfefaaGreatDoor
namespace Go.Inc
open Go.RowKit
theorem EtS.cellsX {ok:Nat->Prop} {w:World} {es:List Et} {ad:Addr} (h:EtS ok w (some ad) es):∀ j u,(Ak es)[j]?=some u->w.cell? (ad.add j)=some u:=by
 intro j u hu;rcases h with rfl | ⟨b,o,hb,_,hc⟩
 ·simp [Ak] at hu
 ·cases hb;have hj:j < es.length * 3:=by
   have:=(List.getElem?_eq_some_iff.1 hu).1;rwa [FO] at this
  obtain ⟨i,r,rfl,hr⟩:∃ i r,j=i * 3+r/\r < 3:=⟨j / 3,j % 3,by omega,by omega⟩
  have hi:i < es.length:=by omega
  obtain ⟨g1,g2,g3⟩:=Jn es i hi;obtain ⟨q1,q2,q3⟩:=hc i hi;rw [Addr.add_lit];rcases (show r=0\/r=1\/r=2 by omega) with rfl | rfl | rfl
  ·rw [Nat.add_zero] at hu ⊢;rw [g1] at hu;cases hu;exact q1
  ·rw [g2] at hu;cases hu;rw [<- Nat.add_assoc];exact q2
  ·rw [g3] at hu;cases hu;rw [<- Nat.add_assoc];exact q3
theorem EH {P:Program} (w:World) {B E:Nat} (t ty:TypeId) (ht:P.underlying t=some (.slice E)) (hi0:(P.info? E).map (fun i=>(i.zero,i.size,i.bytes))=some (some (.agg #[.int .i64 0,.int .i64 0,.int .i64 0]),3,24))
  {v:Value} {k:Nat} {xs:List Et} (hown:w.ownsRow B E 3 v k (Ak xs)) {ok:Nat->Prop} {a:Option Addr} {n c:Nat} {ys:List Et} (h1:n=ys.length) (h2:EtS ok w a ys) (hk:k<=2000) (hn:n<=2000) (hB:B<=w.heap.size) :
  ∃ v' w',(Builtin.append_ #[t,t] ty #[v,.slice a n c]).run P w=.ok v' w'/\w'.ownsRow B E 3 v' (k+n) (Ak (xs++ys))/\w.grownBy w' v.ownBlock:=by
 obtain ⟨i,hi,hz,hs,hb⟩:=info_parts hi0;cases a with
 | none=>
  have hy:ys=[]:=by
   rcases h2 with h | ⟨b,o,h,_⟩
   ·exact h
   ·cases h
  subst hy;obtain rfl:n=0:=h1;exact ⟨v,w,FH t ty i ht hi v k c _ hown,by rw [List.append_nil];exact hown,Aw _ _⟩
 | some ad=>
  obtain ⟨v',w',hr,ho,hg,-⟩:=run_append_own (P:=P) w B t ty E i (.agg #[.int .i64 0,.int .i64 0,.int .i64 0]) 3 24 ht hi hz hs hb rfl (by decide) v k (Ak xs) hown ad n c (Ak ys) (by rw [FO,h1]) h2.cellsX (Nu _) (by unfold maxLen;omega) (by omega) hB;exact ⟨v',w',hr,by rw [G8];exact ho,hg⟩
theorem Bf {P:Program} {w:World} {ops:Array Oper} {rest:List Oper} {o:Oper} {a:Act} {Q:Exit->Act->World->Prop} (hgd:o.guard=none) (s x:Operand) (t:TypeId)
  (ho:o.op=.call {callee:=.builtin .append,args:=#[s,x],argTypes:=#[t,t]}) (B E:Nat) (ht:P.underlying t=some (.slice E)) (hi0:(P.info? E).map (fun i=>(i.zero,i.size,i.bytes))=some (some (.agg #[.int .i64 0,.int .i64 0,.int .i64 0]),3,24))
  (v:Value) (k:Nat) (xs:List Et) (hs:a.eval s=v) (hown:w.ownsRow B E 3 v k (Ak xs)) (ok:Nat->Prop) (ao:Option Addr) (n c:Nat) (ys:List Et) (hx:a.eval x=.slice ao n c) (h1:n=ys.length) (h2:EtS ok w ao ys) (hk:k<=2000) (hn:n<=2000) (hB:B<=w.heap.size)
  (h:∀ v' w',w'.ownsRow B E 3 v' (k+n) (Ak (xs++ys))->w.grownBy w' v.ownBlock->wpList P ops Q rest (a.put o.dst v') w'):wpList P ops Q (o::rest) a w:=by
 obtain ⟨v',w',hr,h3,h4⟩:=EH (P:=P) w t o.type ht hi0 hown (c:=c) h1 h2 hk hn hB;exact Go.Lib.wpList_append_run w hgd s x t t ho _ _ hs hx v' w' hr (h v' w' h3 h4)
theorem Hm {P:Program} {w:World} {ops:Array Oper} {rest:List Oper} {o:Oper} {a:Act} {Q:Exit->Act->World->Prop} (hgd:o.guard=none) (s x:Operand) (t tn:TypeId)
  (ho:o.op=.call {callee:=.builtin .append,args:=#[s,x],argTypes:=#[t,tn]}) (e:TypeId) (ht:P.underlying t=some (.slice e)) (k kn:IntKind) (htn:P.underlying tn=some (.int kn))
  (hi:(P.info? e).map (fun i=>(i.zero,i.size,i.bytes))=some (some (.agg #[.int .i64 0,.int .i64 0,.int .i64 0]),3,24)) (n:Nat) (hs:a.eval s=.slice none 0 0) (hx:a.eval x=.int k n) (h0:0 < n) (h63:n<=1000000)
  (h:∀ w' cap cur,w'.heap[w.heap.size]?=some (.cells cur e (0,0))->n<=cap->cap<=maxLen->cur.size=cap * 3->Below w.heap.size w w'->wpList P ops Q rest (a.put o.dst (.slice (some ⟨w.heap.size,0,none⟩) n cap)) w'):wpList P ops Q (o::rest) a w:=by
 obtain ⟨i,hi,hz0,hz1,hz2⟩:=info_parts hi;have hge:=grownCap_ge w n 0 e;refine Go.Lib.wpList_append_run w hgd s x t tn ho _ _ hs hx _ _ (Go.Lib.run_append_nil_zeros w t tn o.type e i _ k kn ht htn hi hz0 n h0 (by omega) (by omega) (by rw [hz2];omega)) ?_;refine h _ _ _ (heap_alloc_new w.drew (.cells (Builtin.zeroCells (Value.cells (.agg #[.int .i64 0,.int .i64 0,.int .i64 0])) n++Builtin.zeroCells (Value.cells (.agg #[.int .i64 0,.int .i64 0,.int .i64 0])) (grownCap w n 0 e - n)) e)) hge (grownCap_le_maxLen w n 0 e (by unfold maxLen;omega)) ?_ (((Below.refl _ _).drew).alloc (Nat.le_refl _) _);rw [Array.size_append,size_zeroCells,size_zeroCells,show (Value.cells (.agg #[.int .i64 0,.int .i64 0,.int .i64 0])).size=3 from rfl];omega
end Go.Inc
namespace Go.Proofs.YtfhdojnobmfefaaGreatDoor
open Go.RowKit Go.Inc
theorem Ug (w:World):Calls Tryz.prog 147 #[.slice none 0 0] w fun e w'=>e=.returned (.slice none 0 0)/\w=w':=by
 have hq:=fun w a l c=>Go.Lib.run_eql_slice_nil (P:=Tryz.prog) w 48 65 a l c 0 0 Tryz.underlying48
 go_enter Tryz.func147,Tryz.ntmps147
 go_wp2
 go_ret
 exact ⟨rfl,rfl⟩
theorem Rq (ok:Nat->Prop) (ad:Addr) (n c:Nat) (es:List Et) (w:World) (hs:EtS ok w (some ad) es) (hn:n=es.length) (hl:n<=1000) :
  Calls Tryz.prog 147 #[.slice (some ad) n c] w fun e w'=>(∃ v,e=.returned v/\w'.ownsRow w.heap.size 65 3 v n (Ak es))/\Below w.heap.size w w':=by
 have HS:=hid hs;have HN:=hid hn;clear hs hn;have hq:=fun w a l c=>Go.Lib.run_eql_slice_nil (P:=Tryz.prog) w 48 65 a l c 0 0 Tryz.underlying48
 go_enter Tryz.func147,Tryz.ntmps147
 have hown:Hid ((w.alloc (.cells #[] 65)).ownsRow w.heap.size 65 3 (.slice (some ⟨w.heap.size,0,none⟩) 0 0) 0 (Ak [])):=hid (World.ownsRow_lit w #[] 0 (Nat.le_refl _) (Nat.zero_le _) rfl);have hb1:Below w.heap.size w (w.alloc (.cells #[] 65)):=(Below.refl _ _).alloc (Nat.le_refl _) _;have HS1:=hid (HS.out.below hb1);have HB1:=hid hb1;clear hb1 HS
 go_wp2_with (refine Bf rfl (.tmp 5) (.tmp 6) 48 rfl w.heap.size 65 Tryz.underlying48 EZ _ _ [] rfl hown.out _ _ _ _ es rfl HN.out HS1.out (by omega) (by omega) (by simp) ?_)
 intro v w2 hv hg;have hb2:=A8 HB1.out hown.out (Nat.le_refl _) hg;have HV:=hid hv;clear hv hg
 go_wp2_with fail
 go_ret
 refine ⟨⟨_,rfl,?_⟩,hb2⟩;exact HV.out
theorem Uh (a:Option Addr) (n c:Nat) (es:List Et) (w:World) (h:NdOk w a n c es) :
  Calls Tryz.prog 147 #[.slice a n c] w fun e w'=>(∃ v,e=.returned v/\w'.ownsRow w.heap.size 65 3 v n (Ak es))/\Below w.heap.size w w':=by
 cases a with
 | none=>
  have he:es=[]:=by
   rcases h.2.1 with h1 | ⟨b,o,h1,_⟩
   ·exact h1
   ·cases h1
  subst he;have h0:=h.1;have hc:=h.2.2.2.2.2 rfl;subst h0 hc;refine (Ug w).mono ?_;rintro e w' ⟨rfl,rfl⟩;exact ⟨⟨_,rfl,World.ownsRow_nil _ _ _ _⟩,Below.refl _ _⟩
 | some ad=>exact Rq _ ad n c es w h.2.1 h.1 h.2.2.1
set_option maxRecDepth 20000 in
set_option maxHeartbeats 2000000 in
theorem OM (n:Nat) (w:World) (hl:n<=100000) :
  Calls Tryz.prog 127 #[.slice none 0 0,.int .i64 (n:Int)] w fun e w'=>(∃ v,e=.returned v/\w'.ownsRow w.heap.size 65 3 v 0 (Ak []))/\Below w.heap.size w w':=by
 have hn0:decide ((n:Int) < 0)=false:=decide_eq_false (by omega);by_cases h0:n=0
 ·subst h0
  go_enter Tryz.func127,Tryz.ntmps127
  go_wp2_with fail
  go_ret
  exact ⟨⟨_,rfl,World.ownsRow_nil _ _ _ _⟩,Below.refl _ _⟩
 ·have h1:0 < n:=by omega
  have h2:(0 < n)=True:=eq_true h1;have h3:(0:Int) < n:=by omega
  clear h0
  go_enter Tryz.func127,Tryz.ntmps127
  go_wp2_with (refine Hm rfl (.tmp 20) (.tmp 21) 48 3 rfl 65 Tryz.underlying48 .i64 .i64 Tryz.underlying3 EZ n rfl rfl h1 (by omega) ?_)
  intro w' cap cur hr h4 h5 h6 hb;have HR:Hid (w'.ownsRow w.heap.size 65 3 (.slice (some ⟨w.heap.size,0,none⟩) 0 cap) 0 (Ak [])):=hid ⟨rfl,.inr ⟨w.heap.size,cap,cur,rfl,Nat.le_refl _,hr,Nat.zero_le _,h5,h6,by simp [Ak]⟩⟩;have HB:=hid hb;clear hr hb h6
  go_wp2_with fail
  go_ret
  exact ⟨⟨_,rfl,HR.out⟩,HB.out⟩
set_option maxRecDepth 20000 in
set_option maxHeartbeats 4000000 in
theorem Uc {ok ok':Nat->Prop} (a b:Option Addr) (n m c d g:Nat) (es fs:List Et) (w:World) (T:TypeId) (hg:w.heap[g]?=some (.cells #[.slice a n c,.slice b m d] T (0,0))) (ha:EtS ok w a es) (hb:EtS ok' w b fs) (hn:n=es.length) (hm:m=fs.length) (hl:n<=1000/\m<=1000) :
  Calls Tryz.prog 93 #[.slice (some ⟨g,0,none⟩) 2 2] w fun e w'=>(∃ v,e=.returned v/\w'.ownsRow w.heap.size 65 3 v (n+m) (Ak (es++fs)))/\Below w.heap.size w w':=by
 have HA:=hid ha;have HB:=hid hb;have HNM:=hid (And.intro hn hm);have HROW:=hid hg;have HC:Hid (∀ y,Below w.heap.size w y->y.cell? ⟨g,0,none⟩=some (.slice a n c)/\y.cell? ⟨g,1,none⟩=some (.slice b m d)):=hid fun y hy=>by
  have h:=Ac HROW.out hy;exact ⟨by rw [cell_of_row _ _ _ _ _ _ h];rfl,by rw [cell_of_row _ _ _ _ _ _ h];rfl⟩
 have hl1:(n:Int)<=1000:=by omega
 have hl2:(m:Int)<=1000:=by omega
 have HGR:=hid (OM (n+m) w (by omega));clear ha hb hn hm hg hl HROW;obtain ⟨hc0,hc1⟩:=HC.out w (Below.refl _ _)
 go_enter Tryz.func93,Tryz.ntmps93
 go_wp2_with fail
 go_loop [3,11] (fun z i=>∃ k s:Nat,i=.int .i64 (k:Int)/\z=.int .i64 (s:Int)/\(k=0/\s=0\/k=1/\s=n\/k=2/\s=n+m)) (fun _ i=>2 - (intOf i).toNat)
 case atStart=>exact ⟨0,0,rfl,rfl,.inl ⟨rfl,rfl⟩⟩
 case round=>
  obtain ⟨k,s,rfl,rfl,⟨rfl,rfl⟩ | ⟨rfl,rfl⟩ | ⟨rfl,rfl⟩⟩:=hrel
  ·go_wp2_with fail
   go_round
   case rel=>exact ⟨1,n,by go_num,by go_num,.inr (.inl ⟨rfl,rfl⟩)⟩
   case measure=>simp [intOf]
  ·go_wp2_with fail
   go_round
   case rel=>exact ⟨2,s+m,by go_num,by go_num,.inr (.inr ⟨rfl,rfl⟩)⟩
   case measure=>simp [intOf]
  ·go_wp2_with fail
   refine HGR.out.mono ?_;clear HGR hc0 hc1;rintro e w1 ⟨⟨v,rfl,hv⟩,hb1⟩;have HV:=hid hv;have HB1:=hid hb1;clear hv hb1
   go_wp2_with fail
   go_loopw [6,27] (fun v i wr=>∃ (k s:Nat) (ls:List Et),i=.int .i64 (k:Int)/\(k=0/\s=0/\ls=[]\/k=1/\s=n/\ls=es\/k=2/\s=n+m/\ls=es++fs)/\wr.ownsRow w.heap.size 65 3 v s (Ak ls)/\Below w.heap.size w wr) (fun _ i _=>2 - (intOf i).toNat)
   case atStart=>exact ⟨0,0,[],rfl,.inl ⟨rfl,rfl,rfl⟩,HV.out,HB1.out⟩
   case round=>
    clear HV HB1;obtain ⟨k,s,ls,rfl,h3,hv,hb2⟩:=hrel;have HV:=hid hv;have HB2:=hid hb2;obtain ⟨hc0,hc1⟩:=HC.out wr hb2;clear hv hb2;rcases h3 with ⟨rfl,rfl,rfl⟩ | ⟨rfl,rfl,rfl⟩ | ⟨rfl,rfl,rfl⟩
    ·go_wp2_with (refine Bf rfl (.tmp 31) (.tmp 32) 48 rfl w.heap.size 65 Tryz.underlying48 EZ _ _ _ rfl HV.out _ _ _ _ es rfl HNM.out.1 (HA.out.below HB2.out) (by omega) (by omega) HB2.out.size ?_)
     intro v2 w2 hv2 hg2;have HB3:=hid (A8 HB2.out HV.out (Nat.le_refl _) hg2);have HV2:=hid hv2;clear hv2 hg2 HV hc0 hc1
     go_wp2_with fail
     go_roundw
     case rel=>exact ⟨1,n,es,by go_num,.inr (.inl ⟨rfl,rfl,rfl⟩),HV2.out,HB3.out⟩
     case measure=>simp [intOf]
    ·go_wp2_with (refine Bf rfl (.tmp 31) (.tmp 32) 48 rfl w.heap.size 65 Tryz.underlying48 EZ _ _ _ rfl HV.out _ _ _ _ fs rfl HNM.out.2 (HB.out.below HB2.out) (by omega) (by omega) HB2.out.size ?_)
     intro v2 w2 hv2 hg2;have HB3:=hid (A8 HB2.out HV.out (Nat.le_refl _) hg2);have HV2:=hid hv2;clear hv2 hg2 HV hc0 hc1
     go_wp2_with fail
     go_roundw
     case rel=>exact ⟨2,_,_,by go_num,.inr (.inr ⟨rfl,rfl,rfl⟩),HV2.out,HB3.out⟩
     case measure=>simp [intOf]
    ·clear hc0 hc1
     go_wp2_with fail
     go_ret
     exact ⟨⟨_,rfl,HV.out⟩,HB2.out⟩
end Go.Proofs.YtfhdojnobmfefaaGreatDoor
namespace Go.Inc
open Go.RowKit
theorem QK {a b c:Ky} (h:CZ a b=true) (h2:CZ b c=true):CZ a c=true:=by
 unfold CZ at *
 simp only [Bool.or_eq_true,Bool.and_eq_true,decide_eq_true_eq] at *
 omega
theorem IM {es:List Et} (h:DZ es=false) {i:Nat} (hi:i < es.length):okK (es.getD i et0).1=true:=Bj (badN_false.1 h _ (CX hi))
def geK (es:List Et) (k:Ky) (i:Nat):Bool:=!CZ (es.getD i et0).1 k
theorem YU {es:List Et} {k:Ky} (hb:DZ es=false) (hf:D9 es=false) {i:Nat} (hi:i+1 < es.length) (h:geK es k i=true):geK es k (i+1)=true:=by
 unfold geK at *
 cases hh:CZ (es.getD (i+1) et0).1 k
 ·rfl
 ·have h1:=fallN_false.1 hf (i+1) (by omega) hi;unfold EX at h1;rw [Nat.add_sub_cancel,<- GV (IM hb (by omega)) (IM hb hi)] at h1;rw [QK h1 hh] at h;cases h
theorem gW {es:List Et} {k:Ky} (hb:DZ es=false) (hk:okK k=true) {r:Nat} (hr:r<=es.length) (h1:∀ i,i < r->geK es k i=false) (h2:r < es.length->geK es k r=true):r=atK es k:=by
 refine (fZ hr (fun i hi=>?_) fun hl hh=>?_).symm
 ·have h:=h1 i hi;unfold geK at h;rw [GV (IM hb (by omega)) hk] at h;simpa using h
 ·have h:=h2 hl;unfold geK at h;rw [GV (IM hb hl) hk] at h;rw [decide_eq_true hh] at h;cases h
theorem QS {es:List Et} {k:Ky} (hb:DZ es=false) (hk:okK k=false):inK es k=false:=by
 cases h:inK es k
 ·rfl
 ·obtain ⟨h1,h2⟩:=Ij h;have:=IM hb h1;rw [h2,hk] at this;cases this
def FdK (es:List Et) (k:Ky) (r:Nat) (B:Bool):Prop:=r<=es.length/\B=(decide (r < es.length) && decide ((es.getD r et0).1=k))/\(okK k=true->r=atK es k)
theorem FdK.ok {es:List Et} {k:Ky} {r:Nat} {B:Bool} (h:FdK es k r B) (hk:okK k=true):r=atK es k/\B=inK es k:=by
 obtain ⟨h1,h2,h3⟩:=h;obtain rfl:=h3 hk;exact ⟨rfl,by rw [h2];rfl⟩
theorem FdK.is {es:List Et} {k:Ky} {r:Nat} {B:Bool} (hb:DZ es=false) (h:FdK es k r B):B=inK es k:=by
 cases hk:okK k
 ·rw [QS hb hk];obtain ⟨h1,h2,-⟩:=h;cases hB:B
  ·rfl
  ·rw [hB] at h2;have h2:=h2.symm;rw [Bool.and_eq_true,decide_eq_true_eq,decide_eq_true_eq] at h2;have:=IM hb h2.1;rw [h2.2,hk] at this;cases this
 ·exact (h.ok hk).2
end Go.Inc
namespace Go.Proofs.YtfhdojnobmfefaaGreatDoor
open Go.RowKit Go.Inc
set_option maxRecDepth 20000 in
set_option maxHeartbeats 2000000 in
theorem Ro (ok:Nat->Prop) (g1 g2 i:Nat) (a:Option Addr) (n c:Nat) (lf:Bool) (es:List Et) (s z:Int) (w:World) (h1:w.heap[g1]?=some (.cells #[.bool lf,.slice a n c] 114 (0,0))) (h2:w.heap[g2]?=some (.cells #[.int .i64 s,.int .i64 z] 42 (0,0))) (hs:EtS ok w a es) (hn:n=es.length) (hi:i < n) :
  Calls Tryz.prog 139 #[.int .i64 (i:Int),.pointer (some ⟨g1,0,none⟩),.pointer (some ⟨g2,0,none⟩)] w fun e w'=>e=.returned (.bool (geK es (s,z) i))/\Below w.heap.size w w':=by
 obtain ⟨b,o,rfl,q⟩:=hs.cell (i:=i) (by omega);obtain ⟨L,hL⟩:∃ L,L=CZ (es.getD i et0).1 (s,z):=⟨_,rfl⟩
 have HG:Hid (geK es (s,z) i=!L):=hid (by rw [hL];rfl);obtain ⟨⟨⟨s1,z1⟩,p1⟩,hx⟩:∃ x,x=es.getD i et0:=⟨_,rfl⟩
 rw [<- hx] at hL q;have HLESS:Hid (∀ y,Calls Tryz.prog 66 #[.agg #[.int .i64 s1,.int .i64 z1],.agg #[.int .i64 s,.int .i64 z]] y fun e w'=>e=.returned (.bool L)/\Below y.heap.size y w'):=hid fun y=>by rw [hL];exact EN s1 z1 s z y
 have HC:Hid (∀ x,Grew w.drew x->x.cell? ⟨g1,1,none⟩=some (.slice (some ⟨b,o,none⟩) n c)/\x.cell? ⟨g2,0,none⟩=some (.int .i64 s)/\x.cell? ⟨g2,1,none⟩=some (.int .i64 z)/\x.cell? ⟨b,o+i * 3,none⟩=some (.int .i64 s1)/\x.cell? ⟨b,o+i * 3+1,none⟩=some (.int .i64 z1)):=hid fun x hg=>by
  have hb:Below w.heap.size w x:=⟨hg.os,hg.tape,hg.output,hg.size,hg.block⟩
  have r1:=Ac h1 hb;have r2:=Ac h2 hb;exact ⟨by rw [cell_of_row _ _ _ _ _ _ r1];rfl,by rw [cell_of_row _ _ _ _ _ _ r2];rfl,by rw [cell_of_row _ _ _ _ _ _ r2];rfl,(hb.cell (AA q.1)).trans q.1,(hb.cell (AA q.2.1)).trans q.2.1⟩
 rw [HG.out];have hin:(i < n)=True:=eq_true hi;have hin2:(i:Int) < n:=by omega
 clear h1 h2 hs hn hL hx q HG
 go_enter Tryz.func139,Tryz.ntmps139
 go_wp2_with fail
 refine Ai 9 [EqN (.pointer (some ⟨g1,1,none⟩)),EqN (.slice (some ⟨b,o,none⟩) n c),EqN (.int .i64 (i:Int)),EqN (.pointer (some ⟨b,o+i * 3,none⟩)),EqN (.pointer (some ⟨b,o+i * 3,none⟩)),EqN (.agg #[.int .i64 s1,.int .i64 z1]),EqN (.agg #[.int .i64 s,.int .i64 z]),EqN (.bool L),EqN (.bool (!L))] (by kernel_rfl) (by decide) (by kernel_rfl) ?_ ?_ ?_
 ·repeat' (first | exact List.forall_mem_nil _ | refine List.forall_mem_cons.2 ⟨?_,?_⟩)
  all_goals
   intro w w' v hw h
   first | exact h | exact h
 ·simp only [AllLt];refine ⟨⟨⟨⟨⟨⟨⟨⟨⟨trivial,?_⟩,?_⟩,?_⟩,?_⟩,?_⟩,?_⟩,?_⟩,?_⟩,?_⟩
  all_goals
   intro o' ho;simp at ho;subst ho;intro ρ w5 hR hL hS hG;obtain ⟨hl1,hl2,-⟩:=hL
  ·refine Aa rfl ?_;intro bA K Q' hK;have e1:=hS 1 (by kernel_rfl);change ρ (.tmp 1)=_ at e1;simp only [execOp];go_simp;exact hK _ _ rfl (Grew.refl _)
  ·refine Aa rfl ?_;intro bA K Q' hK;have e5:=apG (hG 0 5);change ρ (.tmp 5)=_ at e5;obtain ⟨y1,y2,y3,y4,y5⟩:=HC.out w5 hR;simp only [execOp];go_simp;exact hK _ _ rfl (Grew.refl _)
  ·refine Aa rfl ?_;intro bA K Q' hK;have e0:=hS 0 (by kernel_rfl);change ρ (.tmp 0)=_ at e0;simp only [execOp];go_simp;exact hK _ _ rfl (Grew.refl _)
  ·refine Aa rfl ?_;intro bA K Q' hK;have e6:=apG (hG 1 6);have e7:=apG (hG 2 7);change ρ (.tmp 6)=_ at e6;change ρ (.tmp 7)=_ at e7;simp only [execOp];go_simp;exact hK _ _ rfl (Grew.refl _)
  ·refine Aa rfl ?_;intro bA K Q' hK;have e8:=apG (hG 3 8);change ρ (.tmp 8)=_ at e8;simp only [execOp];go_simp;exact hK _ _ rfl (Grew.refl _)
  ·refine Aa rfl ?_;intro bA K Q' hK;have e9:=apG (hG 4 9);change ρ (.tmp 9)=_ at e9;obtain ⟨y1,y2,y3,y4,y5⟩:=HC.out w5 hR;simp only [execOp];go_simp;exact hK _ _ rfl (Grew.refl _)
  ·refine Aa rfl ?_;intro bA K Q' hK;have e2:=hS 2 (by kernel_rfl);change ρ (.tmp 2)=_ at e2;obtain ⟨y1,y2,y3,y4,y5⟩:=HC.out w5 hR;simp only [execOp];go_simp;exact hK _ _ rfl (Grew.refl _)
  ·refine Aa rfl ?_;intro bA K Q' hK;have e10:=apG (hG 5 10);have e11:=apG (hG 6 11);change ρ (.tmp 10)=_ at e10;change ρ (.tmp 11)=_ at e11;simp only [execOp];go_simp;refine (HLESS.out w5).mono ?_;rintro r9 w9 ⟨rfl,hb9⟩;exact hK _ _ rfl hb9
  ·refine Aa rfl ?_;intro bA K Q' hK;have e12:=apG (hG 7 12);change ρ (.tmp 12)=_ at e12;simp only [execOp];go_simp;exact hK _ _ rfl (Grew.refl _)
 ·intro vv w5 hR hG;have h8:vv 8=.bool (!L):=hG.2;have hb:Below w.heap.size w w5:=⟨hR.os,hR.tape,hR.output,hR.size,hR.block⟩
  have HB5:=hid hb;clear hG hR hb HC HLESS;simp [stG,stU,Au,Act.put,h8];clear h8
  go_wp2_with fail
  go_ret
  exact ⟨rfl,HB5.out⟩
set_option maxRecDepth 20000 in
set_option maxHeartbeats 2000000 in
theorem SI (n:Nat) (F:Value) (p:Nat->Bool) (w:World) (hl:(n:Int)<=1000) (g1 g2:Nat) (hF:F=.func (Fn.func 139) #[] #[.pointer (some ⟨g1,0,none⟩),.pointer (some ⟨g2,0,none⟩)]) (hp:∀ i,i+1 < n->p i=true->p (i+1)=true)
  (hc:∀ y i,i < n->Below w.heap.size w y->Calls Tryz.prog 139 #[.int .i64 ((i:Nat):Int),.pointer (some ⟨g1,0,none⟩),.pointer (some ⟨g2,0,none⟩)] y fun e w'=>e=.returned (.bool (p i))/\Below y.heap.size y w') :
  Calls Tryz.prog 138 #[.int .i64 (n:Int),F] w fun e w'=>(∃ r:Nat,e=.returned (.int .i64 (r:Int))/\r<=n/\(∀ i,i < r->p i=false)/\(r < n->p r=true))/\Below w.heap.size w w':=by
 subst hF;have HP:Hid (∀ i,p i=true->∀ d,i+d < n->p (i+d)=true):=hid fun i hi d=>by
  induction d with
  | zero=>intro _;exact hi
  | succ d ih=>intro h;exact hp (i+d) (by omega) (ih (by omega))
 have HC:=hid hc;clear hp hc
 go_enter Tryz.func138,Tryz.ntmps138
 go_wp2_with fail
 go_loopw [5,6] (fun a b wr=>∃ i j:Nat,a=.int .i64 (i:Int)/\b=.int .i64 (j:Int)/\i<=j/\j<=n/\(∀ x,x < i->p x=false)/\(j < n->p j=true)/\Below w.heap.size w wr) (fun a b _=>(intOf b).toNat - (intOf a).toNat)
 case atStart=>exact ⟨0,n,rfl,rfl,Nat.zero_le _,Nat.le_refl _,fun x h=>by omega,fun h=>by omega,Below.refl _ _⟩
 case round=>
  obtain ⟨i,j,rfl,rfl,hij,hjn,hlo,hhi,hb⟩:=hrel;have HLO:=hid hlo;have HHI:=hid hhi;have HB:=hid hb;clear hlo hhi hb;by_cases hlt:(i:Int) < j
  ·have hkn:(i < j)=True:=eq_true (by omega);obtain ⟨h,hh⟩:∃ h,h=(i+j) / 2:=⟨_,rfl⟩
   have hh1:((i:Int)+(j:Int)) / 2=(h:Int):=by omega
   have hih:i<=h:=by omega
   have hhj:h < j:=by omega
   have HCL:=hid (HC.out wr h (by omega) HB.out);clear hh
   go_wp2_with fail
   refine HCL.out.mono ?_;clear HCL;rintro e w1 ⟨rfl,hb1⟩;have HB1:Hid (Below w.heap.size w w1):=hid (HB.out.trans (hb1.mono HB.out.size));obtain ⟨Q,hQ⟩:∃ Q,Q=p h:=⟨_,rfl⟩
   have HQ:=hid hQ;rw [<- hQ];clear hb1 HB hQ hh1;cases Q with
   | false=>
    have HLN:Hid (∀ x,x < h+1->p x=false):=hid fun x hx=>by
     cases hpx:p x
     ·rfl
     ·obtain ⟨d,rfl⟩:∃ d,h=x+d:=⟨h - x,by omega⟩
      have h9:=HP.out x hpx d (by omega);rw [<- HQ.out] at h9;cases h9
    go_wp2_with fail
    go_roundw
    case rel=>exact ⟨h+1,j,by go_num,rfl,by omega,hjn,HLN.out,HHI.out,HB1.out⟩
    case measure=>simp [intOf];omega
   | true=>
    go_wp2_with fail
    go_roundw
    case rel=>exact ⟨i,h,rfl,by go_num,hih,by omega,HLO.out,fun _=>HQ.out.symm,HB1.out⟩
    case measure=>simp [intOf];omega
  ·have hkf:(i < j)=False:=eq_false (by omega);have he:i=j:=by omega
   subst he;clear hlt
   go_wp2_with fail
   go_ret
   exact ⟨⟨i,rfl,hjn,HLO.out,HHI.out⟩,HB.out⟩
set_option maxRecDepth 20000 in
set_option maxHeartbeats 4000000 in
theorem Gu (a:Option Addr) (n c:Nat) (lf:Bool) (es:List Et) (s z:Int) (w:World) (hnd:NdOk w a n c es) (hl:es.length<=16) (hbd:DZ es=false) (hfl:D9 es=false) :
  Calls Tryz.prog 105 #[.agg #[.bool lf,.slice a n c],.agg #[.int .i64 s,.int .i64 z]] w fun e w'=>(∃ (r:Nat) (B:Bool),e=.returned (.tuple #[.int .i64 (r:Int),.bool B])/\FdK es (s,z) r B)/\Below w.heap.size w w':=by
 have hn:=hnd.1;have HS:=hid hnd.2.1;have HN:=hid hn;have HBD:=hid hbd;have HFL:=hid hfl;have hln:(n:Int)<=16:=by omega
 obtain ⟨g,hg⟩:∃ g,g=w.heap.size:=⟨_,rfl⟩
 have HG:=hid hg;obtain ⟨w0,hw0⟩:∃ w0,w0=(w.alloc (.cells #[.bool lf,.slice a n c] 114)).alloc (.cells #[.int .i64 s,.int .i64 z] 42):=⟨_,rfl⟩
 have HW0:=hid hw0;have HB0:Hid (Below w.heap.size w w0):=hid (by rw [hw0];exact ((Below.refl _ _).alloc (Nat.le_refl _) _).alloc (by simp) _);have HX1:Hid (w0.heap[g]?=some (.cells #[.bool lf,.slice a n c] 114 (0,0))):=hid (by rw [hw0,hg];exact heap_alloc2_old w _ _);have HX2:Hid (w0.heap[g+1]?=some (.cells #[.int .i64 s,.int .i64 z] 42 (0,0))):=hid (by rw [hw0,hg];exact heap_alloc2_new w _ _);have HSE:=hid (SI n _ (geK es (s,z)) w0 (by omega) g (g+1) rfl (fun i hi=>YU hbd hfl (by omega)) fun y i hi hb=>Ro _ g (g+1) i a n c lf es s z y (Ac HX1.out hb) (Ac HX2.out hb) (HS.out.below (HB0.out.trans (hb.mono HB0.out.size))) hn hi);clear hnd hn hbd hfl hg hw0 hl;have hc1:w0.cell? ⟨g,1,none⟩=some (.slice a n c):=coR HX1.out
 go_enter Tryz.func105,Tryz.ntmps105
 go_upto_region 1 with fail
 rw [<- HW0.out,<- HG.out]
 go_wp2_with fail
 refine HSE.out.mono ?_;clear HSE;rintro e w1 ⟨⟨r,rfl,hrn,hlo,hhi⟩,hb1⟩;have HB1:Hid (Below w.heap.size w w1):=hid (HB0.out.trans (hb1.mono HB0.out.size));have hx1:=Ac HX1.out hb1;have hx2:=Ac HX2.out hb1;have HX11:=hid hx1;have HAT:Hid (okK (s,z)=true->r=atK es (s,z)):=hid fun hk=>gW HBD.out hk (by have:=HN.out;omega) hlo fun h=>hhi (by have:=HN.out;omega);clear hlo hhi hb1 HB0 HX1 HX2 hc1 HW0;have hc1:w1.cell? ⟨g,1,none⟩=some (.slice a n c):=coR hx1;have hk0:w1.cell? ⟨g+1,0,none⟩=some (.int .i64 s):=coR hx2;have hk1:w1.cell? ⟨g+1,1,none⟩=some (.int .i64 z):=coR hx2;clear hx1 hx2;by_cases hlt:r < n
 ·have hd:(r < n)=True:=eq_true hlt;have hlt2:(r:Int) < n:=by omega
  obtain ⟨b,o,rfl,hx1,hx2,hx3⟩:=(HS.out.below HB1.out).cell (i:=r) (by have:=HN.out;omega);obtain ⟨⟨⟨s1,z1⟩,p1⟩,hx⟩:∃ x,x=es.getD r et0:=⟨_,rfl⟩
  rw [<- hx] at hx1 hx2;simp only at hx1 hx2;have HE:Hid (∀ B:Bool,B=decide ((s1,z1)=(s,z))->FdK es (s,z) r B):=hid fun B hB=>⟨by have:=HN.out;omega,by rw [<- hx,hB,decide_eq_true (show r < es.length by have:=HN.out;omega)];rfl,HAT.out⟩
  clear hx hx3 hlt;by_cases e1:s1=s
  ·subst e1;by_cases e2:z1=z
   ·subst e2;have t1:((s1:Int) == s1)=true:=by simp
    have t2:((z1:Int) == z1)=true:=by simp
    go_wp2_with fail
    go_quiet (fail)
    have HBQ:Hid (Below w.heap.size w (w1.drewN nq)):=hid (HB1.out.trans ((BX w1 nq).mono HB1.out.size));generalize w1.drewN nq=wq at *
    clear hc1 hk0 hk1 hx1 hx2
    go_wp2_with fail
    go_ret2
    exact ⟨⟨r,true,rfl,HE.out _ (by simp)⟩,HBQ.out⟩
   ·have t1:((s1:Int) == s1)=true:=by simp
    have t2:((z1:Int) == z)=false:=beq_eq_false_iff_ne.2 e2
    go_wp2_with fail
    go_quiet (fail)
    have HBQ:Hid (Below w.heap.size w (w1.drewN nq)):=hid (HB1.out.trans ((BX w1 nq).mono HB1.out.size));generalize w1.drewN nq=wq at *
    clear hc1 hk0 hk1 hx1 hx2
    go_wp2_with fail
    go_ret2
    exact ⟨⟨r,false,rfl,HE.out _ (by simp [e2])⟩,HBQ.out⟩
  ·have t1:((s1:Int) == s)=false:=beq_eq_false_iff_ne.2 e1
   go_wp2_with fail
   go_quiet (fail)
   have HBQ:Hid (Below w.heap.size w (w1.drewN nq)):=hid (HB1.out.trans ((BX w1 nq).mono HB1.out.size));generalize w1.drewN nq=wq at *
   clear hc1 hk0 hk1 hx1 hx2
   go_wp2_with fail
   go_ret2
   exact ⟨⟨r,false,rfl,HE.out _ (by simp [e1])⟩,HBQ.out⟩
 ·have hd:(r < n)=False:=eq_false hlt;have HE:Hid (FdK es (s,z) r false):=hid ⟨by have:=HN.out;omega,by rw [decide_eq_false (show ¬ r < es.length by have:=HN.out;omega)];rfl,HAT.out⟩;clear hlt
  go_wp2_with fail
  go_quiet (fail)
  have HBQ:Hid (Below w.heap.size w (w1.drewN nq)):=hid (HB1.out.trans ((BX w1 nq).mono HB1.out.size));generalize w1.drewN nq=wq at *
  clear hc1 hk0 hk1
  go_wp2_with fail
  go_ret2
  exact ⟨⟨r,false,rfl,HE.out⟩,HBQ.out⟩
set_option maxRecDepth 20000 in
set_option maxHeartbeats 2000000 in
theorem Xe (a:Option Addr) (n c:Nat) (lf:Bool) (es:List Et) (s z:Int) (w:World) (hnd:NdOk w a n c es) (hck:AL lf es=0) (hk:okK (s,z)=true) :
  Calls Tryz.prog 137 #[.agg #[.bool lf,.slice a n c],.agg #[.int .i64 s,.int .i64 z]] w fun e w'=>(∃ i,e=.returned (.tuple #[.int .i64 i,.int .i64 (if lf=true then 11 else 0)])/\(lf=false->i=(Gf es (s,z):Nat)))/\Below w.heap.size w w':=by
 obtain ⟨c1,c2,c3,c4⟩:=Ba hck;have HN:=hid hnd.1;have hln:(n:Int)<=16:=by have:=hnd.1;omega
 obtain ⟨g,hg⟩:∃ g,g=w.heap.size:=⟨_,rfl⟩
 have HG:=hid hg;obtain ⟨w0,hw0⟩:∃ w0,w0=(w.alloc (.cells #[.bool lf,.slice a n c] 114)).alloc (.cells #[.int .i64 s,.int .i64 z] 42):=⟨_,rfl⟩
 have HW0:=hid hw0;have HB0:Hid (Below w.heap.size w w0):=hid (by rw [hw0];exact ((Below.refl _ _).alloc (Nat.le_refl _) _).alloc (by simp) _);have hx1:w0.heap[g]?=some (.cells #[.bool lf,.slice a n c] 114 (0,0)):=by rw [hw0,hg];exact heap_alloc2_old w _ _
 have hx2:w0.heap[g+1]?=some (.cells #[.int .i64 s,.int .i64 z] 42 (0,0)):=by rw [hw0,hg];exact heap_alloc2_new w _ _
 have HFD:=hid (Gu a n c lf es s z w0 (hnd.below HB0.out) c1 c2 c3);have hc0:w0.cell? ⟨g,0,none⟩=some (.bool lf):=coR hx1;have hc1:w0.cell? ⟨g,1,none⟩=some (.slice a n c):=coR hx1;have hk0:w0.cell? ⟨g+1,0,none⟩=some (.int .i64 s):=coR hx2;have hk1:w0.cell? ⟨g+1,1,none⟩=some (.int .i64 z):=coR hx2;have HKO:=hid hk;have HC4:=hid c4;obtain ⟨V,hV⟩:∃ V:Int,V=if lf=true then 11 else 0:=⟨_,rfl⟩
 rw [<- hV];clear hnd hck hk hg hw0 hx1 hx2 c1 c2 c3 c4;cases lf with
 | true=>
  have HV:Hid (V=11):=hid (by rw [hV];rfl);clear hV
  go_enter Tryz.func137,Tryz.ntmps137
  go_upto_region 1 with fail
  rw [<- HW0.out,<- HG.out]
  go_wp2_with fail
  go_ret2
  exact ⟨⟨0,by rw [HV.out];rfl,fun h=>by cases h⟩,HB0.out⟩
 | false=>
  have HV:Hid (V=0):=hid (by rw [hV];rfl);clear hV;have hn0:((n:Int) == 0)=false:=by
   rw [beq_eq_false_iff_ne];intro h;exact HC4.out ⟨rfl,List.eq_nil_of_length_eq_zero (by have:=HN.out;omega)⟩
  have hn1:(n=0)=False:=eq_false (fun h=>HC4.out ⟨rfl,List.eq_nil_of_length_eq_zero (by have:=HN.out;omega)⟩)
  go_enter Tryz.func137,Tryz.ntmps137
  go_upto_region 1 with fail
  rw [<- HW0.out,<- HG.out]
  go_wp2_with fail
  refine HFD.out.mono ?_;clear HFD;rintro e w1 ⟨⟨r,B,rfl,hf⟩,hb1⟩;have HB1:Hid (Below w.heap.size w w1):=hid (HB0.out.trans (hb1.mono HB0.out.size));obtain ⟨e1,e2⟩:=hf.ok HKO.out;have hrn:=hf.1;have hrl:(r:Int)<=16:=by have:=HN.out;omega
  have HCH:Hid (Gf es (s,z)=if B=true then r else r - 1):=hid (by rw [e1,e2];rfl);clear hb1 hf e1 e2 hrn hc0 hc1 hk0 hk1 HB0 hn0 hn1;cases B with
  | true=>
   go_wp2_with fail
   go_ret2
   exact ⟨⟨_,by rw [HV.out];rfl,fun _=>by rw [HCH.out];rfl⟩,HB1.out⟩
  | false=>
   by_cases h0:r=0
   ·subst h0
    go_wp2_with fail
    go_ret2
    exact ⟨⟨_,by rw [HV.out];rfl,fun _=>by rw [HCH.out];rfl⟩,HB1.out⟩
   ·have h1:(0 < r)=True:=eq_true (by omega);have h2:(0:Int) < r:=by omega
    have h3:((r - 1:Nat):Int)=(r:Int) - 1:=by omega
    clear h0
    go_wp2_with fail
    go_ret2
    exact ⟨⟨_,by rw [HV.out];rfl,fun _=>by rw [HCH.out];simp;omega⟩,HB1.out⟩
theorem Ot {s z p:Int} (h:0<=s/\0<=z/\0<=p):UR [s,z,p]=DI ((s,z),p):=by
 unfold UR;rw [if_neg (by simp [CV];omega)];simp [puts,DI]
set_option maxRecDepth 20000 in
set_option maxHeartbeats 4000000 in
theorem Q4 (a:Option Addr) (n c:Nat) (es:List Et) (w:World) (hnd:NdOk w a n c es) (hck:AL true es=0) :
  Calls Tryz.prog 159 #[.agg #[.bool true,.slice a n c]] w fun e w'=>(∃ v,e=.returned (.tuple #[v,.int .i64 0])/\Row 5 w.heap.size w' v (Dh true es))/\Below w.heap.size w w':=by
 obtain ⟨c1,c2,-,-⟩:=Ba hck;have HN:=hid hnd.1;have HS:=hid hnd.2.1.old;have hln:(n:Int)<=16:=by have:=hnd.1;omega
 have HOK:=hid (badN_false.1 c2);have hnu:IntKind.u8.wrap (n:Int)=(n:Int):=by
  have:IntKind.u8.wrap (n:Int)=(n:Int) % 256:=by simp [IntKind.wrap,IntKind.bits,IntKind.signed]
  rw [this];omega
 obtain ⟨g,hg⟩:∃ g,g=w.heap.size:=⟨_,rfl⟩
 have HG:=hid hg;obtain ⟨w0,hw0⟩:∃ w0,w0=w.alloc (.cells #[.bool true,.slice a n c] 114):=⟨_,rfl⟩
 have HW0:=hid hw0;have HB0:Hid (Below w.heap.size w w0):=hid (by rw [hw0];exact Ad w _);have hx0:w0.heap[g]?=some (.cells #[.bool true,.slice a n c] 114 (0,0)):=by rw [hw0,hg];exact heap_alloc_new w _
 have HX0:=hid hx0;have h:=BJ a n c true es w0 (hnd.below HB0.out);rw [hck] at h;have HCK:=hid h;have hb0:w0.cell? ⟨g,0,none⟩=some (.bool true):=coR hx0;have hb1:w0.cell? ⟨g,1,none⟩=some (.slice a n c):=coR hx0;clear hnd hck hg hw0 hx0 h c1 c2
 go_enter Tryz.func159,Tryz.ntmps159
 go_upto_region 1 with fail
 rw [<- HW0.out,<- HG.out]
 go_wp2_with fail
 refine HCK.out.mono ?_;clear HCK;rintro e w1 ⟨rfl,hb⟩;have HB1:Hid (Below w.heap.size w w1):=hid (HB0.out.trans (hb.mono HB0.out.size));have hx1:=Ac HX0.out hb;have HX1:=hid hx1;clear hb hb0 hb1 HB0 HX0 HW0;obtain ⟨w2,hw2⟩:∃ w2,w2=w1.alloc (.cells #[.int .u8 1,.int .u8 (n:Int)] 5):=⟨_,rfl⟩
 have HW2:=hid hw2;obtain ⟨g2,hg2⟩:∃ g,g=w1.heap.size:=⟨_,rfl⟩
 have HG2:=hid hg2;have HB2:Hid (Below w.heap.size w w2):=hid (by rw [hw2];exact HB1.out.alloc HB1.out.size _);have hrow0:w2.heap[g2]?=some (.cells #[.int .u8 1,.int .u8 (n:Int)] 5 (0,0)):=by rw [hw2,hg2];exact heap_alloc_new w1 _
 have HROW:Hid (Row 5 w.heap.size w2 (.slice (some ⟨g2,0,none⟩) 2 2) ([1,n]++AP (es.take 0))):=hid (by
  refine ⟨rfl,.inr ⟨g2,2,_,rfl,by have:=HB1.out.size;omega,hrow0,Nat.le_refl _,by unfold maxLen;omega,rfl,?_⟩⟩;simp [u8s,AP])
 have hb0:w1.cell? ⟨g,0,none⟩=some (.bool true):=coR hx1;have hb1:w1.cell? ⟨g,1,none⟩=some (.slice a n c):=coR hx1;have hglt:g < w1.heap.size:=(Array.getElem?_eq_some_iff.1 hx1).1;have hgne:(g=w1.heap.size)=False:=eq_false (by omega);have hgne2:(w1.heap.size=g)=False:=eq_false (by omega);clear hx1 hw2 hg2 hrow0
 go_wp2_with fail
 rw [<- HW2.out,<- HG2.out];clear hb0 hb1 hglt hgne hgne2 hnu
 go_loopw [5,25] (fun v i wr=>∃ k:Nat,k<=n/\i=.int .i64 (k:Int)/\Row 5 w.heap.size wr v ([1,n]++AP (es.take k))/\Below w.heap.size w wr) (fun _ i _=>n - (intOf i).toNat)
 case atStart=>exact ⟨0,Nat.zero_le _,rfl,HROW.out,HB2.out⟩
 case round=>
  clear HROW HB2 HX1 HB1 HW2;obtain ⟨k,hk,rfl,hr,hb⟩:=hrel;have HR:=hid hr;have HB:=hid hb;clear hr hb;by_cases hlt:(k:Int) < n
  ·have hkn:(k < n)=True:=eq_true (by omega);obtain ⟨b,o,rfl,hx1,hx2,hx3⟩:=(HS.out.below HB.out).cell (i:=k) (by have:=HN.out;omega);have HSN:=hid (DK (bs:=es) (d:=et0) (k:=k) (by have:=HN.out;omega));have hokk:=HOK.out _ (CX (zs:=es) (d:=et0) (k:=k) (by have:=HN.out;omega));obtain ⟨⟨⟨s,z⟩,p⟩,hx⟩:∃ x,x=es.getD k et0:=⟨_,rfl⟩
   rw [<- hx] at hx1 hx2 hx3 HSN hokk;simp only at hx1 hx2 hx3;have hval:=okE_iff.1 hokk;simp only at hval;have HVAL:Hid ((0<=s/\s < 16)/\(0<=z/\z < 65536)/\1 < p/\p < 2048):=hid (by omega);have HEL:=hid (KE hokk);have HLEN:Hid (([1,n]++AP (es.take k)).length<=600):=hid (by
    have h1:=Jo (es:=es.take k) (fun e he=>HOK.out e (List.mem_of_mem_take he));rw [List.length_take] at h1;rw [List.length_append];simp only [List.length_cons,List.length_nil];omega)
   obtain ⟨X0,hX0⟩:∃ X0,X0=[1,n]++AP (es.take k):=⟨_,rfl⟩
   have HX00:=hid hX0;rw [<- hX0] at HR HLEN;obtain ⟨P1,hP1⟩:∃ P1,P1=DI ((s,z),p):=⟨_,rfl⟩
   have HP1:=hid hP1;rw [<- hP1] at HEL;obtain ⟨x1,hxx1⟩:∃ x1,x1=wr.alloc (.cells #[.int .i64 s,.int .i64 z,.int .i64 p] 65):=⟨_,rfl⟩
   have HXX1:=hid hxx1;obtain ⟨x2,hxx2⟩:∃ x2,x2=x1.alloc (.cells #[.int .i64 s,.int .i64 z,.int .i64 p] 3):=⟨_,rfl⟩
   have HXX2:=hid hxx2;obtain ⟨gi,hgi⟩:∃ gi,gi=x1.heap.size:=⟨_,rfl⟩
   have HGI:=hid hgi;have hbx:Below wr.heap.size wr x1:=by rw [hxx1];exact Ad wr _
   have hbx2:Below wr.heap.size wr x2:=by rw [hxx2];exact hbx.alloc hbx.size _
   have HRX:=hid (HR.out.kept hbx2);have HBX:Hid (Below w.heap.size w x2):=hid (HB.out.trans (hbx2.mono HB.out.size));have hxr:x2.heap[gi]?=some (.cells #[.int .i64 s,.int .i64 z,.int .i64 p] 3 (0,0)):=by rw [hxx2,hgi];exact heap_alloc_new x1 _
   have h:=UN (fun _=>True) (some ⟨gi,0,none⟩) 3 [s,z,p] x2 (.inr ⟨gi,0,rfl,trivial,fun i hi=>by
    rw [cell_of_row _ _ _ _ _ _ hxr]
    match i,hi with
    | 0,_=>rfl
    | 1,_=>rfl
    | 2,_=>rfl
    | i+3,hi=>simp at hi;omega⟩) (by simp) (by
    intro q hq;simp at hq;rcases hq with rfl | rfl | rfl<;>omega)
   rw [Ot ⟨hval.1.1,hval.1.2.2.1,by omega⟩,<- hP1] at h;have HPUT:=hid h;have hxc0:x1.cell? ⟨wr.heap.size,0,none⟩=some (.int .i64 s):=by rw [hxx1,cell_of_row _ _ _ _ _ _ (heap_alloc_new wr _)];rfl
   have hxc1:x1.cell? ⟨wr.heap.size,1,none⟩=some (.int .i64 z):=by rw [hxx1,cell_of_row _ _ _ _ _ _ (heap_alloc_new wr _)];rfl
   have hxc2:x1.cell? ⟨wr.heap.size,2,none⟩=some (.int .i64 p):=by rw [hxx1,cell_of_row _ _ _ _ _ _ (heap_alloc_new wr _)];rfl
   clear hx hokk hval hX0 hP1 hbx hbx2 hxr h hxx1 hxx2 hgi HR HB
   go_upto_region 10 with fail
   rw [<- HXX1.out]
   go_wp2_with fail
   rw [<- HGI.out,<- HXX2.out];refine HPUT.out.mono ?_;clear HPUT;rintro e x3 ⟨v3,rfl,hr3,hb3⟩;obtain ⟨a3,c3,rfl,-,-,-,hs3⟩:=hr3.sl;have HR3:=hid (HRX.out.kept hb3);have HB3:Hid (Below w.heap.size w x3):=hid (HBX.out.trans (hb3.mono HBX.out.size));have HS3:=hid hs3;clear hr3 hb3 hs3 HRX HBX HXX1 HXX2 hxc0 hxc1 hxc2 hx1 hx2 hx3
   go_wp2_with (refine Bq rfl (.tmp 29) (.tmp 39) 74 rfl w.heap.size 5 (.int .u8 0) 1 Tryz.underlying74 U8 rfl _ _ _ rfl HR3.out a3 _ _ (u8s P1) rfl (DU _) HS3.out.some_len HS3.out.cells (IA _) (by have h1:=HLEN.out;have h2:=HEL.out;unfold maxLen;omega) (by have h1:=HLEN.out;have h2:=HEL.out;omega) (by have:=HB3.out.size;omega) ?_)
   intro u4 x4 hv4 hg4 _;have HB4:Hid (Below w.heap.size w x4):=hid (A8 HB3.out HR3.out (Nat.le_refl _) hg4);have HR4:=hid (UK hv4 (by simp only [List.length_append]));clear hv4 hg4 HR3 HB3 HS3;have HFIN:Hid (X0++P1=[1,n]++AP (es.take (k+1))):=hid (by
    rw [HSN.out,EU,HX00.out,HP1.out];simp)
   go_wp2_with fail
   go_roundw
   case rel=>exact ⟨k+1,by omega,by go_num,by have h:=HR4.out;rw [HFIN.out] at h;exact h,HB4.out⟩
   case measure=>simp [intOf];omega
  ·have hkf:(k < n)=False:=eq_false (by omega);have HKN:Hid (k=n):=hid (by omega);clear hlt
   go_wp2_with fail
   go_ret2
   exact ⟨⟨_,rfl,by
    have h:=HR.out;rw [show es.take k=es by rw [HKN.out,HN.out,List.take_length],HN.out] at h;exact h⟩,HB.out⟩
set_option maxRecDepth 20000 in
set_option maxHeartbeats 4000000 in
theorem PT (a:Option Addr) (n c:Nat) (es:List Et) (w:World) (hnd:NdOk w a n c es) (hck:AL false es=0) :
  Calls Tryz.prog 159 #[.agg #[.bool false,.slice a n c]] w fun e w'=>(∃ v,e=.returned (.tuple #[v,.int .i64 0])/\Row 5 w.heap.size w' v (Dh false es))/\Below w.heap.size w w':=by
 obtain ⟨c1,c2,-,-⟩:=Ba hck;have HN:=hid hnd.1;have HS:=hid hnd.2.1.old;have hln:(n:Int)<=16:=by have:=hnd.1;omega
 have HOK:=hid (badN_false.1 c2);have hnu:IntKind.u8.wrap (n:Int)=(n:Int):=by
  have:IntKind.u8.wrap (n:Int)=(n:Int) % 256:=by simp [IntKind.wrap,IntKind.bits,IntKind.signed]
  rw [this];omega
 obtain ⟨g,hg⟩:∃ g,g=w.heap.size:=⟨_,rfl⟩
 have HG:=hid hg;obtain ⟨w0,hw0⟩:∃ w0,w0=w.alloc (.cells #[.bool false,.slice a n c] 114):=⟨_,rfl⟩
 have HW0:=hid hw0;have HB0:Hid (Below w.heap.size w w0):=hid (by rw [hw0];exact Ad w _);have hx0:w0.heap[g]?=some (.cells #[.bool false,.slice a n c] 114 (0,0)):=by rw [hw0,hg];exact heap_alloc_new w _
 have HX0:=hid hx0;have h:=BJ a n c false es w0 (hnd.below HB0.out);rw [hck] at h;have HCK:=hid h;have hb0:w0.cell? ⟨g,0,none⟩=some (.bool false):=coR hx0;have hb1:w0.cell? ⟨g,1,none⟩=some (.slice a n c):=coR hx0;clear hnd hck hg hw0 hx0 h c1 c2
 go_enter Tryz.func159,Tryz.ntmps159
 go_upto_region 1 with fail
 rw [<- HW0.out,<- HG.out]
 go_wp2_with fail
 refine HCK.out.mono ?_;clear HCK;rintro e w1 ⟨rfl,hb⟩;have HB1:Hid (Below w.heap.size w w1):=hid (HB0.out.trans (hb.mono HB0.out.size));have hx1:=Ac HX0.out hb;have HX1:=hid hx1;clear hb hb0 hb1 HB0 HX0 HW0;obtain ⟨w2,hw2⟩:∃ w2,w2=w1.alloc (.cells #[.int .u8 0,.int .u8 (n:Int)] 5):=⟨_,rfl⟩
 have HW2:=hid hw2;obtain ⟨g2,hg2⟩:∃ g,g=w1.heap.size:=⟨_,rfl⟩
 have HG2:=hid hg2;have HB2:Hid (Below w.heap.size w w2):=hid (by rw [hw2];exact HB1.out.alloc HB1.out.size _);have hrow0:w2.heap[g2]?=some (.cells #[.int .u8 0,.int .u8 (n:Int)] 5 (0,0)):=by rw [hw2,hg2];exact heap_alloc_new w1 _
 have HROW:Hid (Row 5 w.heap.size w2 (.slice (some ⟨g2,0,none⟩) 2 2) ([0,n]++AP (es.take 0))):=hid (by
  refine ⟨rfl,.inr ⟨g2,2,_,rfl,by have:=HB1.out.size;omega,hrow0,Nat.le_refl _,by unfold maxLen;omega,rfl,?_⟩⟩;simp [u8s,AP])
 have hb0:w1.cell? ⟨g,0,none⟩=some (.bool false):=coR hx1;have hb1:w1.cell? ⟨g,1,none⟩=some (.slice a n c):=coR hx1;have hglt:g < w1.heap.size:=(Array.getElem?_eq_some_iff.1 hx1).1;have hgne:(g=w1.heap.size)=False:=eq_false (by omega);have hgne2:(w1.heap.size=g)=False:=eq_false (by omega);clear hx1 hw2 hg2 hrow0
 go_wp2_with fail
 rw [<- HW2.out,<- HG2.out];clear hb0 hb1 hglt hgne hgne2 hnu
 go_loopw [5,25] (fun v i wr=>∃ k:Nat,k<=n/\i=.int .i64 (k:Int)/\Row 5 w.heap.size wr v ([0,n]++AP (es.take k))/\Below w.heap.size w wr) (fun _ i _=>n - (intOf i).toNat)
 case atStart=>exact ⟨0,Nat.zero_le _,rfl,HROW.out,HB2.out⟩
 case round=>
  clear HROW HB2 HX1 HB1 HW2;obtain ⟨k,hk,rfl,hr,hb⟩:=hrel;have HR:=hid hr;have HB:=hid hb;clear hr hb;by_cases hlt:(k:Int) < n
  ·have hkn:(k < n)=True:=eq_true (by omega);obtain ⟨b,o,rfl,hx1,hx2,hx3⟩:=(HS.out.below HB.out).cell (i:=k) (by have:=HN.out;omega);have HSN:=hid (DK (bs:=es) (d:=et0) (k:=k) (by have:=HN.out;omega));have hokk:=HOK.out _ (CX (zs:=es) (d:=et0) (k:=k) (by have:=HN.out;omega));obtain ⟨⟨⟨s,z⟩,p⟩,hx⟩:∃ x,x=es.getD k et0:=⟨_,rfl⟩
   rw [<- hx] at hx1 hx2 hx3 HSN hokk;simp only at hx1 hx2 hx3;have hval:=okE_iff.1 hokk;simp only at hval;have HVAL:Hid ((0<=s/\s < 16)/\(0<=z/\z < 65536)/\1 < p/\p < 2048):=hid (by omega);have HEL:=hid (KE hokk);have HLEN:Hid (([0,n]++AP (es.take k)).length<=600):=hid (by
    have h1:=Jo (es:=es.take k) (fun e he=>HOK.out e (List.mem_of_mem_take he));rw [List.length_take] at h1;rw [List.length_append];simp only [List.length_cons,List.length_nil];omega)
   obtain ⟨X0,hX0⟩:∃ X0,X0=[0,n]++AP (es.take k):=⟨_,rfl⟩
   have HX00:=hid hX0;rw [<- hX0] at HR HLEN;obtain ⟨P1,hP1⟩:∃ P1,P1=DI ((s,z),p):=⟨_,rfl⟩
   have HP1:=hid hP1;rw [<- hP1] at HEL;obtain ⟨x1,hxx1⟩:∃ x1,x1=wr.alloc (.cells #[.int .i64 s,.int .i64 z,.int .i64 p] 65):=⟨_,rfl⟩
   have HXX1:=hid hxx1;obtain ⟨x2,hxx2⟩:∃ x2,x2=x1.alloc (.cells #[.int .i64 s,.int .i64 z,.int .i64 p] 3):=⟨_,rfl⟩
   have HXX2:=hid hxx2;obtain ⟨gi,hgi⟩:∃ gi,gi=x1.heap.size:=⟨_,rfl⟩
   have HGI:=hid hgi;have hbx:Below wr.heap.size wr x1:=by rw [hxx1];exact Ad wr _
   have hbx2:Below wr.heap.size wr x2:=by rw [hxx2];exact hbx.alloc hbx.size _
   have HRX:=hid (HR.out.kept hbx2);have HBX:Hid (Below w.heap.size w x2):=hid (HB.out.trans (hbx2.mono HB.out.size));have hxr:x2.heap[gi]?=some (.cells #[.int .i64 s,.int .i64 z,.int .i64 p] 3 (0,0)):=by rw [hxx2,hgi];exact heap_alloc_new x1 _
   have h:=UN (fun _=>True) (some ⟨gi,0,none⟩) 3 [s,z,p] x2 (.inr ⟨gi,0,rfl,trivial,fun i hi=>by
    rw [cell_of_row _ _ _ _ _ _ hxr]
    match i,hi with
    | 0,_=>rfl
    | 1,_=>rfl
    | 2,_=>rfl
    | i+3,hi=>simp at hi;omega⟩) (by simp) (by
    intro q hq;simp at hq;rcases hq with rfl | rfl | rfl<;>omega)
   rw [Ot ⟨hval.1.1,hval.1.2.2.1,by omega⟩,<- hP1] at h;have HPUT:=hid h;have hxc0:x1.cell? ⟨wr.heap.size,0,none⟩=some (.int .i64 s):=by rw [hxx1,cell_of_row _ _ _ _ _ _ (heap_alloc_new wr _)];rfl
   have hxc1:x1.cell? ⟨wr.heap.size,1,none⟩=some (.int .i64 z):=by rw [hxx1,cell_of_row _ _ _ _ _ _ (heap_alloc_new wr _)];rfl
   have hxc2:x1.cell? ⟨wr.heap.size,2,none⟩=some (.int .i64 p):=by rw [hxx1,cell_of_row _ _ _ _ _ _ (heap_alloc_new wr _)];rfl
   clear hx hokk hval hX0 hP1 hbx hbx2 hxr h hxx1 hxx2 hgi HR HB
   go_upto_region 10 with fail
   rw [<- HXX1.out]
   go_wp2_with fail
   rw [<- HGI.out,<- HXX2.out];refine HPUT.out.mono ?_;clear HPUT;rintro e x3 ⟨v3,rfl,hr3,hb3⟩;obtain ⟨a3,c3,rfl,-,-,-,hs3⟩:=hr3.sl;have HR3:=hid (HRX.out.kept hb3);have HB3:Hid (Below w.heap.size w x3):=hid (HBX.out.trans (hb3.mono HBX.out.size));have HS3:=hid hs3;clear hr3 hb3 hs3 HRX HBX HXX1 HXX2 hxc0 hxc1 hxc2 hx1 hx2 hx3
   go_wp2_with (refine Bq rfl (.tmp 29) (.tmp 39) 74 rfl w.heap.size 5 (.int .u8 0) 1 Tryz.underlying74 U8 rfl _ _ _ rfl HR3.out a3 _ _ (u8s P1) rfl (DU _) HS3.out.some_len HS3.out.cells (IA _) (by have h1:=HLEN.out;have h2:=HEL.out;unfold maxLen;omega) (by have h1:=HLEN.out;have h2:=HEL.out;omega) (by have:=HB3.out.size;omega) ?_)
   intro u4 x4 hv4 hg4 _;have HB4:Hid (Below w.heap.size w x4):=hid (A8 HB3.out HR3.out (Nat.le_refl _) hg4);have HR4:=hid (UK hv4 (by simp only [List.length_append]));clear hv4 hg4 HR3 HB3 HS3;have HFIN:Hid (X0++P1=[0,n]++AP (es.take (k+1))):=hid (by
    rw [HSN.out,EU,HX00.out,HP1.out];simp)
   go_wp2_with fail
   go_roundw
   case rel=>exact ⟨k+1,by omega,by go_num,by have h:=HR4.out;rw [HFIN.out] at h;exact h,HB4.out⟩
   case measure=>simp [intOf];omega
  ·have hkf:(k < n)=False:=eq_false (by omega);have HKN:Hid (k=n):=hid (by omega);clear hlt
   go_wp2_with fail
   go_ret2
   exact ⟨⟨_,rfl,by
    have h:=HR.out;rw [show es.take k=es by rw [HKN.out,HN.out,List.take_length],HN.out] at h;exact h⟩,HB.out⟩
set_option maxRecDepth 20000 in
set_option maxHeartbeats 4000000 in
theorem TR (a:Option Addr) (n c:Nat) (lf:Bool) (es:List Et) (w:World) (hnd:NdOk w a n c es) (hck:AL lf es≠0) :
  Calls Tryz.prog 159 #[.agg #[.bool lf,.slice a n c]] w fun e w'=>e=.returned (.tuple #[.slice none 0 0,.int .i64 (AL lf es)])/\Below w.heap.size w w':=by
 obtain ⟨g,hg⟩:∃ g,g=w.heap.size:=⟨_,rfl⟩
 have HG:=hid hg;obtain ⟨w0,hw0⟩:∃ w0,w0=w.alloc (.cells #[.bool lf,.slice a n c] 114):=⟨_,rfl⟩
 have HW0:=hid hw0;have HB0:Hid (Below w.heap.size w w0):=hid (by rw [hw0];exact Ad w _);have hx0:w0.heap[g]?=some (.cells #[.bool lf,.slice a n c] 114 (0,0)):=by rw [hw0,hg];exact heap_alloc_new w _
 have HCK:=hid (BJ a n c lf es w0 (hnd.below HB0.out));have hb0:w0.cell? ⟨g,0,none⟩=some (.bool lf):=coR hx0;have hb1:w0.cell? ⟨g,1,none⟩=some (.slice a n c):=coR hx0;obtain ⟨C,hC⟩:∃ C,C=AL lf es:=⟨_,rfl⟩
 rw [<- hC] at HCK hck ⊢;have hc1:((C:Int) == 0)=false:=beq_eq_false_iff_ne.2 hck;have hc2:(C=0)=False:=eq_false hck;clear hnd hck hg hw0 hx0 hC
 go_enter Tryz.func159,Tryz.ntmps159
 go_upto_region 1 with fail
 rw [<- HW0.out,<- HG.out]
 go_wp2_with fail
 refine HCK.out.mono ?_;clear HCK;rintro e w1 ⟨rfl,hb⟩;have HB1:Hid (Below w.heap.size w w1):=hid (HB0.out.trans (hb.mono HB0.out.size));clear hb hb0 hb1 HB0 HW0
 go_wp2_with fail
 go_ret2
 exact ⟨rfl,HB1.out⟩
theorem Oa (a:Option Addr) (n c:Nat) (lf:Bool) (es:List Et) (w:World) (hnd:NdOk w a n c es) :
  Calls Tryz.prog 159 #[.agg #[.bool lf,.slice a n c]] w fun e w'=>(∃ v,e=.returned (.tuple #[v,.int .i64 (AL lf es)])/\Row 5 w.heap.size w' v (if AL lf es=0 then Dh lf es else []))/\Below w.heap.size w w':=by
 by_cases h:AL lf es=0
 ·rw [if_pos h,h];cases lf
  ·exact PT a n c es w hnd h
  ·exact Q4 a n c es w hnd h
 ·rw [if_neg h];refine (TR a n c lf es w hnd h).mono ?_;rintro e w' ⟨rfl,hb⟩;exact ⟨⟨_,rfl,World.ownsRow_nil _ _ _ _⟩,hb⟩
end Go.Proofs.YtfhdojnobmfefaaGreatDoor
namespace Go.Inc
open Go.RowKit
def eM (b:List Nat):Nat:=Var.err 9223372036854775807 b
def vM (b:List Nat):Nat:=Var.val 9223372036854775807 b
def tM (b:List Nat):List Nat:=if Var.err 9223372036854775807 b=0 then b.drop (Var.pos 9223372036854775807 b) else []
theorem Oj (b:List Nat):vM b<=9223372036854775807:=Var.val_le _ _
theorem SA (b:List Nat):(tM b).length<=b.length:=by
 unfold tM;split
 ·rw [List.length_drop];omega
 ·simp
theorem Jz {b:List Nat} (h:Bytes b):Bytes (tM b):=by
 unfold tM;split
 ·exact h.dropN _
 ·intro x hx;simp at hx
theorem Pg {b:List Nat} (hb:Bytes b) (h:eM b=0):b=Var.put (vM b)++tM b:=by
 have h1:=Var.take_val hb (g:=9223372036854775807) h;unfold vM tM;rw [if_pos (show Var.err 9223372036854775807 b=0 from h),<- h1,List.take_append_drop]
theorem Sz {b:List Nat} {v:Nat} {rest:List Nat} (h:b=Var.put v++rest) (hv:v<=65535):eM b=0/\vM b=v/\tM b=rest:=by
 subst h;have he:Var.err 9223372036854775807 (Var.put v++rest)=0:=Var.err_put (by omega) (by omega) _;refine ⟨he,Var.val_put (by omega) (by omega) _,?_⟩;unfold tM;rw [if_pos he,Var.pos_put (by omega) (by omega)];exact List.drop_left
def tJ (b:List Nat):Nat->List Nat
 | 0=>b
 | j+1=>tM (tJ b j)
theorem Hw {b:List Nat} (h:Bytes b):∀ j,Bytes (tJ b j)
 | 0=>h
 | j+1=>Jz (Hw h j)
def okM (b:List Nat):Prop:=eM (tJ b 0)=0/\eM (tJ b 1)=0/\eM (tJ b 2)=0
def etM (b:List Nat):Et:=(((vM (tJ b 0):Nat),(vM (tJ b 1):Nat)),(vM (tJ b 2):Nat))
def rsM (b:List Nat):Nat->List Nat
 | 0=>b
 | k+1=>tJ (rsM b k) 3
def esM (b:List Nat):Nat->List Et
 | 0=>[]
 | k+1=>esM b k++[etM (rsM b k)]
theorem DT (b:List Nat):∀ k,(esM b k).length=k
 | 0=>rfl
 | k+1=>by
  show (esM b k++[_]).length=_;rw [List.length_append,DT b k];rfl
theorem Oq {b:List Nat} (h:Bytes b):∀ k,Bytes (rsM b k)
 | 0=>h
 | k+1=>Hw (Oq h k) 3
def gdM (b:List Nat) (k:Nat):Prop:=∀ i,i < k->okM (rsM b i)
theorem Y3 (b:List Nat):ET (etM b):=by
 have h0:=Oj (tJ b 0);have h1:=Oj (tJ b 1);have h2:=Oj (tJ b 2);unfold ET Nl etM;simp only;omega
theorem Q3 (b:List Nat):∀ k,∀ e∈esM b k,ET e
 | 0,e,h=>by cases h
 | k+1,e,h=>by
  rcases List.mem_append.1 h with h | h
  ·exact Q3 b k e h
  ·rw [List.mem_singleton] at h;subst h;exact Y3 _
theorem XL {b:List Nat} (hb:Bytes b):∀ k,gdM b k->b=AP (esM b k)++rsM b k
 | 0,_=>rfl
 | k+1,h=>by
  have ih:=XL hb k fun i hi=>h i (by omega);obtain ⟨h1,h2,h3⟩:=h k (by omega);have hr:=Oq hb k;have e1:=Pg (Hw hr 0) h1;have e2:=Pg (Hw hr 1) h2;have e3:=Pg (Hw hr 2) h3;have e4:rsM b k=Var.put (vM (tJ (rsM b k) 0))++(Var.put (vM (tJ (rsM b k) 1))++(Var.put (vM (tJ (rsM b k) 2))++tJ (rsM b k) 3)):=by
   have f1:tM (tJ (rsM b k) 0)=tJ (rsM b k) 1:=rfl;have f2:tM (tJ (rsM b k) 1)=tJ (rsM b k) 2:=rfl;have f3:tM (tJ (rsM b k) 2)=tJ (rsM b k) 3:=rfl;have f0:tJ (rsM b k) 0=rsM b k:=rfl;rw [f3] at e3;rw [f2] at e2;rw [f1,f0] at e1;rw [<- e3,<- e2,f0];exact e1
  show b=AP (esM b k++[etM (rsM b k)])++tJ (rsM b k) 3;rw [EU];have e5:DI (etM (rsM b k))=Var.put (vM (tJ (rsM b k) 0))++Var.put (vM (tJ (rsM b k) 1))++Var.put (vM (tJ (rsM b k) 2)):=by
   unfold DI etM;simp
  rw [e5]
  calc b=AP (esM b k)++rsM b k:=ih
   _=AP (esM b k)++(Var.put (vM (tJ (rsM b k) 0))++(Var.put (vM (tJ (rsM b k) 1))++(Var.put (vM (tJ (rsM b k) 2))++tJ (rsM b k) 3))):=by rw [<- e4]
   _=_:=by simp only [List.append_assoc]
theorem iL {b:List Nat} {e:Et} {rest:List Nat} (h:b=DI e++rest) (he:okE e=true):okM b/\etM b=e/\tJ b 3=rest:=by
 have hv:=okE_iff.1 he;unfold DI at h;rw [List.append_assoc,List.append_assoc] at h;obtain ⟨a1,a2,a3⟩:=Sz h (by omega);obtain ⟨b1,b2,b3⟩:=Sz a3 (by omega);obtain ⟨c1,c2,c3⟩:=Sz b3 (by omega);refine ⟨⟨a1,b1,c1⟩,?_,c3⟩;have g1:vM (tJ b 0)=e.1.1.toNat:=a2;have g2:vM (tJ b 1)=e.1.2.toNat:=b2;have g3:vM (tJ b 2)=e.2.toNat:=c2;unfold etM;rw [g1,g2,g3,Int.toNat_of_nonneg (by omega),Int.toNat_of_nonneg (by omega),Int.toNat_of_nonneg (by omega)]
theorem dV {es:List Et} (hok:∀ e∈es,okE e=true):∀ k,k<=es.length->gdM (AP es) k/\esM (AP es) k=es.take k/\rsM (AP es) k=AP (es.drop k)
 | 0,_=>⟨fun i hi=>absurd hi (by omega),rfl,rfl⟩
 | k+1,hk=>by
  obtain ⟨i1,i2,i3⟩:=dV hok k (by omega);rw [KY (by omega)] at i3;obtain ⟨j1,j2,j3⟩:=iL i3 (hok _ (CX (by omega)));refine ⟨fun i hi=>?_,?_,j3⟩
  ·by_cases h:i=k
   ·rw [h];exact j1
   ·exact i1 i (by omega)
  ·show esM (AP es) k++[etM _]=_;rw [i2,j2,DK (d:=et0) (by omega)]
def KH (bs:List Nat):Prop:=2<=bs.length/\bs.getD 0 0<=1/\ctN bs<=16/\gdM (bs.drop 2) (ctN bs)/\rsM (bs.drop 2) (ctN bs)=[]
theorem Zi {bs:List Nat} (hb:Bytes bs) (h:G9 bs):KH bs/\esM (bs.drop 2) (ctN bs)=ndS bs/\AL (lfN bs) (ndS bs)=0:=by
 have he:=dD hb h;obtain ⟨h1,h2,h3,h4,h5⟩:=h;have hc:AL (ndL bs) (ndS bs)=0:=by rw [JJ ⟨h1,h2,h3,h4,h5⟩,MK ⟨h1,h2,h3,h4,h5⟩];exact h5
 have hL:ndL bs=lfN bs:=JJ ⟨h1,h2,h3,h4,h5⟩;obtain ⟨c1,c2,-,-⟩:=Ba hc;have hd:bs.drop 2=AP (ndS bs):=by
  have h9:(Dh (ndL bs) (ndS bs)).drop 2=AP (ndS bs):=rfl;rw [he] at h9;exact h9
 have hct:ctN bs=(ndS bs).length:=by
  have:ctN (Dh (ndL bs) (ndS bs))=(ndS bs).length:=rfl;rw [he] at this;exact this
 obtain ⟨g1,g2,g3⟩:=dV (badN_false.1 c2) (ndS bs).length (Nat.le_refl _);rw [List.take_length] at g2;rw [List.drop_length] at g3;exact ⟨⟨h1,h2,by rw [hct];exact c1,by rw [hd,hct];exact g1,by rw [hd,hct];exact g3⟩,by rw [hd,hct];exact g2,by rw [<- hL];exact hc⟩
theorem fQ {bs:List Nat} (hb:Bytes bs) (h:KH bs) (hc:AL (lfN bs) (esM (bs.drop 2) (ctN bs))=0):G9 bs/\ndL bs=lfN bs/\ndS bs=esM (bs.drop 2) (ctN bs):=by
 obtain ⟨h1,h2,h3,h4,h5⟩:=h;have ht:=XL (hb.dropN 2) _ h4;rw [h5,List.append_nil] at ht;have e0:Dh (lfN bs) (esM (bs.drop 2) (ctN bs))=bs:=by
  unfold Dh;rw [DT,<- ht];have e2:bs.take 2=[bs.getD 0 0,ctN bs]:=by
   match bs,h1 with
   | a::b::r,_=>rfl
  have e1:(if lfN bs=true then 1 else 0)=bs.getD 0 0:=by
   unfold lfN;by_cases hh:bs.getD 0 0=1
   ·rw [if_pos (decide_eq_true hh)];exact hh.symm
   ·rw [if_neg (by simpa using hh)];omega
  rw [e1,<- e2,List.take_append_drop]
 obtain ⟨g1,-,g3,g4⟩:=enc_dec hc;rw [e0] at g1 g3 g4;exact ⟨g1,g3,g4⟩
def RdAns (E:Nat) (w:World) (bs:List Nat) (e:Ending) (w':World):Prop:=
 (∃ v lf es B,e=.returned (.tuple #[v,.bool B])/\NodeN E w.heap.size w' v lf es/\(B=true->KH bs/\lf=lfN bs/\es=esM (bs.drop 2) (ctN bs))/\(B=false->¬ KH bs))/\Below w.heap.size w w'
theorem RdAns.none {E:Nat} {w w':World} {bs:List Nat} (hb:Below w.heap.size w w') (hn:¬ KH bs):RdAns E w bs (.returned (.tuple #[.agg #[.bool false,.slice none 0 0],.bool false])) w':=
 ⟨⟨_,false,[],false,rfl,⟨_,rfl,World.ownsRow_nil _ _ _ _⟩,fun h=>(by cases h),fun _=>hn⟩,hb⟩
end Go.Inc
namespace Go.Proofs.YtfhdojnobmfefaaGreatDoor
open Go.RowKit Go.Inc
theorem KT (w:World) (g:Nat) (cs:Array Value) (tmps:Array Value) (h2:tmps.getD 2 undef=.pointer (some ⟨g,0,none⟩)) (hg:w.heap[g]?=some (.cells cs 114 (0,0))) (hs:cs.size=2) :
  (results Tryz.f163 tmps).run Tryz.prog w=.ok (.tuple #[.agg cs,tmps.getD 3 undef]) w:=
 CS rfl tmps w g 114 cs (0,0) _ h2 hg Tryz.underlying114 rfl (by rw [hs];kernel_rfl)
def RestS (B:Nat) (w:World) (a:Option Addr) (n c:Nat) (bs:List Nat):Prop:=Sl (fun b=>b < B) w a bs\/Row 5 B w (.slice a n c) bs
theorem RestS.sl {B:Nat} {w:World} {a:Option Addr} {n c:Nat} {bs:List Nat} (h:RestS B w a n c bs):Sl (fun _=>True) w a bs:=by
 rcases h with h | h
 ·exact h.mono fun _ _ _=>trivial
 ·obtain ⟨a',c',e,-,-,-,hs⟩:=h.sl;cases e;exact hs.mono fun _ _ _=>trivial
def RestIn (B:Nat) (w:World) (v:Value) (bs:List Nat):Prop:=
 ∃ a n c,v=.slice a n c/\RestS B w a n c bs/\n=bs.length/\(n<=c/\c<=maxLen)/\(a=none->c=0)/\Bytes bs/\n<=1000
theorem RestIn.below {B:Nat} {w w':World} {v:Value} {bs:List Nat} (h:RestIn B w v bs) (hb:Below w.heap.size w w'):RestIn B w' v bs:=by
 obtain ⟨a,n,c,h1,h2,h3⟩:=h;exact ⟨a,n,c,h1,h2.imp (fun h=>h.below hb) (fun h=>h.kept hb),h3⟩
theorem RestIn.grown {B E k:Nat} {w w':World} {v u:Value} {bs:List Nat} {xs:List Value} (h:RestIn B w v bs) (hr:w.ownsRow B E 3 u k xs) (hg:w.grownBy w' u.ownBlock) (hne:E≠5):RestIn B w' v bs:=by
 obtain ⟨a,n,c,h1,h2,h3⟩:=h;refine ⟨a,n,c,h1,?_,h3⟩;rcases h2 with h2 | h2
 ·left;refine h2.kept fun b hb hlt=>hg.block b hlt fun e=>?_;have:=(hr.lt b e.symm).1;omega
 ·right;refine World.ownsRow.kept h2 hg ?_;rcases h2.2 with ⟨e,_⟩ | ⟨g1,cap,cur,e,_,hg1,_⟩
  ·left;rw [e];rfl
  ·right;have h9:=DV hne hr hg1;rw [e];intro e2;exact h9 e2.symm
theorem RestIn.set {B g:Nat} {w:World} {v:Value} {bs:List Nat} {cs:Array Value} (h:RestIn B w v bs) (hr:w.heap[g]?=some (.cells cs 260 (0,0))) (hg:B<=g) (k:Nat) (u:Value):RestIn B (w.setCell ⟨g,k,none⟩ u) v bs:=by
 obtain ⟨a,n,c,h1,h2,h3⟩:=h;refine ⟨a,n,c,h1,?_,h3⟩;rcases h2 with h2 | h2
 ·left;exact h2.kept fun b hb _=>Below.heap_setCell _ _ _ _ (by simp;omega)
 ·right;exact ownsRow_setCell_other h2 (DV (by decide) h2 hr) _
theorem GK {w:World} {g h k:Nat} {cs ds:Array Value} {T U:TypeId} (hx:w.heap[g]?=some (.cells cs T (0,0))) (ht:w.heap[h]?=some (.cells ds U (0,0))) (hne:T≠U) (u:Value):(w.setCell ⟨h,k,none⟩ u).heap[g]?=some (.cells cs T (0,0)):=by
 have hgh:g≠h:=fun e=>by
  subst e;rw [hx] at ht;simp at ht;exact hne ht.2
 rw [<- hx];exact Below.heap_setCell _ _ _ _ (by simp;omega)
theorem YT (ok:Nat->Prop) (a:Option Addr) (n c:Nat) (bs:List Nat) (w:World) (hs:Sl ok w a bs) (hn:n=bs.length) (hc:n<=c/\c<=maxLen) (hno:a=none->c=0) (hby:Bytes bs) (hl:n<=1000) :
  Calls Tryz.prog 175 #[.slice a n c] w fun e w'=>(∃ v,e=.returned (.tuple #[.int .i64 ((vM bs:Nat):Int),v,.int .i64 ((eM bs:Nat):Int)])/\Row 5 w.heap.size w' v (tM bs))/\Below w.heap.size w w':=by
 subst hn;exact cO ok a c bs w hs hc hno hby (by omega)
theorem fD (w:World) (T:TypeId) (s z p:Int):EtS (fun _=>True) (w.alloc (.cells #[.int .i64 s,.int .i64 z,.int .i64 p] T)) (some ⟨w.heap.size,0,none⟩) [((s,z),p)]:=by
 refine .inr ⟨_,_,rfl,trivial,fun i hi=>?_⟩;have h0:=Yw w [.int .i64 s,.int .i64 z,.int .i64 p] T
 match i,hi with
 | 0,_=>exact ⟨h0 0 _ rfl,h0 1 _ rfl,h0 2 _ rfl⟩
 | i+1,hi=>simp at hi
set_option maxRecDepth 20000 in
set_option maxHeartbeats 1000000 in
theorem SX (a:Option Addr) (n c:Nat) (bs:List Nat) (w:World) (hn:n=bs.length) (hl:n < 2):Calls Tryz.prog 163 #[.slice a n c] w (RdAns 65 w bs):=by
 have HN:Hid (¬ KH bs):=hid fun h=>by have:=h.1;omega
 have hq:decide ((n:Int) < 2)=true:=decide_eq_true (by omega);have hq2:(n < 2)=True:=eq_true hl;clear hl hn
 go_enter Tryz.func163,Tryz.ntmps163
 go_wp2_with fail
 go_step3
 go_wp2_with fail
 rw [Exit.noGoto_ret];refine bodyPost_ret (v:=.tuple #[.agg #[.bool false,.slice none 0 0],.bool false]) (KT _ _ #[.bool false,.slice none 0 0] _ rfl (heap_alloc_new w _) rfl) rfl (RdAns.none ?_ HN.out);exact Ad w _
set_option maxRecDepth 20000 in
set_option maxHeartbeats 1000000 in
theorem SY (ok:Nat->Prop) (a:Option Addr) (n c:Nat) (bs:List Nat) (w:World) (hs:Sl ok w a bs) (hn:n=bs.length) (hl:2<=n) (h1:1 < bs.getD 0 0):Calls Tryz.prog 163 #[.slice a n c] w (RdAns 65 w bs):=by
 have HN:Hid (¬ KH bs):=hid fun h=>by have:=h.2.1;omega
 rcases hs with rfl | ⟨b,off,rfl,_,hc⟩
 ·simp at hn;omega
 have hx0:=hc 0 (by omega);obtain ⟨x,hx⟩:∃ x,x=bs.getD 0 0:=⟨_,rfl⟩
 rw [<- hx] at hx0 h1;have hq:decide ((n:Int) < 2)=false:=decide_eq_false (by omega);have hq2:(n < 2)=False:=eq_false (by omega);have hq0:(0:Int) < n:=by omega
 have hq3:decide ((1:Int) < x)=true:=decide_eq_true (by omega);have hq4:(1 < x)=True:=eq_true h1;have hx1:(w.alloc (.cells #[.bool false,.slice none 0 0] 114)).cell? ⟨b,off,none⟩=some (.int .u8 (x:Int)):=(Below.cell (Ad w _) (AA hx0)).trans hx0;have HB:=hid (Ad w (.cells #[.bool false,.slice none 0 0] 114));have HX:=hid (heap_alloc_new w (.cells #[.bool false,.slice none 0 0] 114));obtain ⟨w0,hw0⟩:∃ w0,w0=w.alloc (.cells #[.bool false,.slice none 0 0] 114):=⟨_,rfl⟩
 have HW0:=hid hw0;rw [<- hw0] at HB HX;clear hl hn h1 hx hc hx0 hw0
 go_enter Tryz.func163,Tryz.ntmps163
 go_wp2_with fail
 go_step3
 go_wp2_with fail
 rw [Exit.noGoto_ret];rw [<- HW0.out];exact bodyPost_ret (v:=.tuple #[.agg #[.bool false,.slice none 0 0],.bool false]) (KT _ _ #[.bool false,.slice none 0 0] _ rfl HX.out rfl) rfl (RdAns.none HB.out HN.out)
set_option maxRecDepth 20000 in
set_option maxHeartbeats 1000000 in
theorem Qu (ok:Nat->Prop) (a:Option Addr) (n c:Nat) (bs:List Nat) (w:World) (hs:Sl ok w a bs) (hn:n=bs.length) (hl:2<=n) (h0:bs.getD 0 0<=1) (h1:16 < bs.getD 1 0):Calls Tryz.prog 163 #[.slice a n c] w (RdAns 65 w bs):=by
 have HN:Hid (¬ KH bs):=hid fun h=>by have:=h.2.2.1;unfold ctN at this;omega
 rcases hs with rfl | ⟨b,off,rfl,_,hc⟩
 ·simp at hn;omega
 have hx0:=hc 0 (by omega);have hy0:=hc 1 (by omega);obtain ⟨x,hx⟩:∃ x,x=bs.getD 0 0:=⟨_,rfl⟩
 obtain ⟨y,hy⟩:∃ x,x=bs.getD 1 0:=⟨_,rfl⟩
 rw [<- hx] at hx0 h0;rw [<- hy] at hy0 h1;have hq:decide ((n:Int) < 2)=false:=decide_eq_false (by omega);have hq2:(n < 2)=False:=eq_false (by omega);have hq0:(0:Int) < n:=by omega
 have hq1:(1:Int) < n:=by omega
 have hq3:decide ((1:Int) < x)=false:=decide_eq_false (by omega);have hq4:(1 < x)=False:=eq_false (by omega);have hq5:decide ((16:Int) < y)=true:=decide_eq_true (by omega);have hq6:(16 < y)=True:=eq_true h1;have hx1:(w.alloc (.cells #[.bool false,.slice none 0 0] 114)).cell? ⟨b,off,none⟩=some (.int .u8 (x:Int)):=(Below.cell (Ad w _) (AA hx0)).trans hx0;have hy1:(w.alloc (.cells #[.bool false,.slice none 0 0] 114)).cell? ⟨b,off+1,none⟩=some (.int .u8 (y:Int)):=(Below.cell (Ad w _) (AA hy0)).trans hy0;have HB:=hid (Ad w (.cells #[.bool false,.slice none 0 0] 114));have HX:=hid (heap_alloc_new w (.cells #[.bool false,.slice none 0 0] 114));obtain ⟨w0,hw0⟩:∃ w0,w0=w.alloc (.cells #[.bool false,.slice none 0 0] 114):=⟨_,rfl⟩
 have HW0:=hid hw0;rw [<- hw0] at HB HX;clear hl hn h0 h1 hx hy hc hx0 hy0 hw0
 go_enter Tryz.func163,Tryz.ntmps163
 go_wp2_with fail
 go_step3
 go_wp2_with fail
 rw [Exit.noGoto_ret];rw [<- HW0.out];exact bodyPost_ret (v:=.tuple #[.agg #[.bool false,.slice none 0 0],.bool false]) (KT _ _ #[.bool false,.slice none 0 0] _ rfl HX.out rfl) rfl (RdAns.none HB.out HN.out)
set_option maxRecDepth 20000 in
set_option maxHeartbeats 8000000 in
theorem aS (ok:Nat->Prop) (a:Option Addr) (n c:Nat) (bs:List Nat) (w:World) (hs:Sl ok w a bs) (hn:n=bs.length) (hc:n<=c/\c<=maxLen) (hby:Bytes bs) (hl:n<=1000) (hl2:2<=n) (h0:bs.getD 0 0<=1) (h1:bs.getD 1 0<=16):Calls Tryz.prog 163 #[.slice a n c] w (RdAns 65 w bs):=by
 have HS0:=hid (hs.mono (ok':=fun b=>b < w.heap.size) fun _ _ h=>h);have HN:=hid hn;rcases hs with rfl | ⟨b,off,rfl,_,hcell⟩
 ·simp at hn;omega
 have HS:=HS0;clear HS0;have HC:Hid (∀ y,Below w.heap.size w y->y.cell? ⟨b,off,none⟩=some (.int .u8 ((bs.getD 0 0:Nat):Int))/\y.cell? ⟨b,off+1,none⟩=some (.int .u8 ((bs.getD 1 0:Nat):Int))):=hid fun y hy=>by
  have q0:=hcell 0 (by omega);have q1:=hcell 1 (by omega);exact ⟨(hy.cell (AA q0)).trans q0,(hy.cell (AA q1)).trans q1⟩
 obtain ⟨R,hR⟩:∃ R,R=bs.drop 2:=⟨_,rfl⟩
 obtain ⟨o2,hcd,HRS0⟩:∃ o2,((c=2)=True/\o2=off\/(c=2)=False/\o2=off+2)/\Hid (∀ y,Below w.heap.size w y->RestIn w.heap.size y (.slice (some ⟨b,o2,none⟩) (n - 2) (c - 2)) R):=by
  by_cases hcc:c=2
  ·refine ⟨off,.inl ⟨eq_true hcc,rfl⟩,hid fun y hy=>?_⟩;have hR0:R=[]:=List.eq_nil_of_length_eq_zero (by rw [hR,List.length_drop];omega);exact ⟨_,n - 2,c - 2,rfl,.inl (.inl hR0),by rw [hR,List.length_drop,HN.out],by omega,fun h=>(by cases h),by rw [hR];exact hby.dropN 2,by omega⟩
  ·refine ⟨off+2,.inr ⟨eq_false hcc,rfl⟩,hid fun y hy=>?_⟩;have hsl:Sl (fun b=>b < w.heap.size) y (some ⟨b,off+2,none⟩) R:=by
    rw [hR];refine (Sl.behind (HS.out.below hy) 2 _ fun _=>?_);simp [Addr.add]
   exact ⟨_,n - 2,c - 2,rfl,.inl hsl,by rw [hR,List.length_drop,HN.out],by unfold maxLen at *;omega,fun h=>(by cases h),by rw [hR];exact hby.dropN 2,by omega⟩
 have HCD:=hid hcd;clear hcd;obtain ⟨lf,hlf⟩:∃ lf,lf=lfN bs:=⟨_,rfl⟩
 obtain ⟨N,hN⟩:∃ N,N=ctN bs:=⟨_,rfl⟩
 have HCT:=hid (And.intro hN (And.intro hR hlf));have HLEN:Hid (2<=bs.length/\bs.getD 0 0<=1/\ctN bs<=16):=hid ⟨by omega,h0,h1⟩;obtain ⟨x,hx⟩:∃ x,x=bs.getD 0 0:=⟨_,rfl⟩
 have hNe:bs.getD 1 0=N:=hN.symm;have hlf2:((x:Int) == 1)=lf:=by
  rw [hlf,hx];unfold lfN;by_cases h:bs.getD 0 0=1
  ·rw [h];rfl
  ·rw [decide_eq_false h,beq_eq_false_iff_ne];omega
 have hx1:x<=1:=by omega
 have hN16:N<=16:=by omega
 rw [<- hx,hNe] at HC;obtain ⟨g,hg⟩:∃ g,g=w.heap.size:=⟨_,rfl⟩
 have HG:=hid hg;obtain ⟨w0,hw0⟩:∃ w0,w0=w.alloc (.cells #[.bool false,.slice none 0 0] 114):=⟨_,rfl⟩
 have HW0:=hid hw0;have HB0:Hid (Below w.heap.size w w0):=hid (by rw [hw0];exact Ad w _);have HX0:Hid (w0.heap[g]?=some (.cells #[.bool false,.slice none 0 0] 114 (0,0))):=hid (by rw [hw0,hg];exact heap_alloc_new w _);have hq:decide ((n:Int) < 2)=false:=decide_eq_false (by omega);have hq2:(n < 2)=False:=eq_false (by omega);have hq0:(0:Int) < n:=by omega
 have hq1:(1:Int) < n:=by omega
 have hq3:decide ((1:Int) < x)=false:=decide_eq_false (by omega);have hq4:(1 < x)=False:=eq_false (by omega);have hq5:decide ((16:Int) < N)=false:=decide_eq_false (by omega);have hq6:(16 < N)=False:=eq_false (by omega);have hnc:(n:Int)<=(c:Int):=by omega
 have hn2:(2:Int)<=n:=by omega
 have hN16i:(N:Int)<=16:=by omega
 rcases HCD.out with ⟨hc2,e⟩ | ⟨hc2,e⟩
 all_goals
  subst e;clear HCD;obtain ⟨hx0,hy0⟩:=HC.out w0 HB0.out;clear hn hc hby hl h0 h1 hcell hR hlf hN hx hNe hx1 hN16 hg hw0 hl2
  go_enter Tryz.func163,Tryz.ntmps163
  go_wp2_with fail
  go_step3
  go_upto_region 1 with fail
  rw [<- HW0.out,<- HG.out];clear HW0
  go_wp2_with fail
  go_quiet (fail)
  have hbq:=BX w0 nq;have HBQ:Hid (Below w.heap.size w (w0.drewN nq)):=hid (HB0.out.trans (hbq.mono HB0.out.size));have HX0q:=hid (Ac HX0.out hbq);generalize w0.drewN nq=wq at *
  have HRS:=hid (HRS0.out wq HBQ.out);clear hbq HB0 HX0 hx0 hy0 HRS0 hq hq2 hq1 hq3 hq4 hq5 hq6 hnc hn2 hc2
  go_wp2_with fail
  go_step3
  go_wp2_with fail
  go_loopw [5,6,35] (fun rv lv i wr=>∃ k:Nat,k<=N/\i=.int .i64 (k:Int)/\gdM R k/\RestIn w.heap.size wr rv (rsM R k)/\wr.ownsRow w.heap.size 65 3 lv k (Ak (esM R k))/\wr.heap[g]?=some (.cells #[.bool false,.slice none 0 0] 114 (0,0))/\Below w.heap.size w wr) (fun _ _ i _=>N - (intOf i).toNat)
  case atStart=>exact ⟨0,Nat.zero_le _,rfl,fun i hi=>absurd hi (by omega),HRS.out,World.ownsRow_nil _ _ _ _,HX0q.out,HBQ.out⟩
  case round=>
   clear HRS HX0q HBQ;obtain ⟨k,hk,rfl,hgd,hrs,hl,hx,hb⟩:=hrel;have HGD:=hid hgd;have HRS:=hid hrs;have HL:=hid hl;have HX:=hid hx;have HB:=hid hb;clear hgd hrs hl hx hb;by_cases hlt:(k:Int) < N
   ·have hkn:(k < N)=True:=eq_true (by omega);have HKN:Hid (k < N):=hid (by omega);obtain ⟨wj,hwj⟩:∃ wj,wj=wr:=⟨_,rfl⟩
    subst hwj;obtain ⟨tg,hh⟩:∃ tg,tg=wj.heap.size:=⟨_,rfl⟩
    have HH:=hid hh;obtain ⟨w5,hw5⟩:∃ w5,w5=wj.alloc (.cells #[.int .i64 0,.int .i64 0,.int .i64 0] 260):=⟨_,rfl⟩
    have HW5:=hid hw5;have hb5:Below wj.heap.size wj w5:=by rw [hw5];exact Ad wj _
    have HRS5:=hid (HRS.out.below hb5);have HL5:Hid (w5.ownsRow w.heap.size 65 3 u6 k (Ak (esM R k))):=hid (by rw [hw5];exact HL.out.alloc _);have HX5:=hid (Ac HX.out hb5);have HB5:Hid (Below w.heap.size w w5):=hid (HB.out.trans (hb5.mono HB.out.size));have HT5:Hid (w5.heap[tg]?=some (.cells #[.int .i64 0,.int .i64 0,.int .i64 0] 260 (0,0))):=hid (by rw [hw5,hh];exact heap_alloc_new wj _);have HHB:Hid (w.heap.size<=tg):=hid (by rw [hh];exact HB.out.size);clear hh hw5 hb5 HRS HL HX HB
    go_upto_region 8 with fail
    rw [<- HW5.out,<- HH.out];clear HW5 HH
    go_wp2_with fail
    go_loopw [5,37] (fun rv i wr=>∃ (j:Nat) (x0 x1 x2:Int),j<=3/\i=.int .i64 (j:Int)/\((0 < j->eM (tJ (rsM R k) 0)=0/\x0=(vM (tJ (rsM R k) 0):Nat))/\(1 < j->eM (tJ (rsM R k) 1)=0/\x1=(vM (tJ (rsM R k) 1):Nat))/\(2 < j->eM (tJ (rsM R k) 2)=0/\x2=(vM (tJ (rsM R k) 2):Nat)))/\RestIn w.heap.size wr rv (tJ (rsM R k) j)/\wr.ownsRow w.heap.size 65 3 u6 k (Ak (esM R k))/\wr.heap[g]?=some (.cells #[.bool false,.slice none 0 0] 114 (0,0))/\wr.heap[tg]?=some (.cells #[.int .i64 x0,.int .i64 x1,.int .i64 x2] 260 (0,0))/\Below w.heap.size w wr) (fun _ i _=>3 - (intOf i).toNat)
    case atStart=>exact ⟨0,0,0,0,Nat.zero_le _,rfl,⟨fun h=>absurd h (by omega),fun h=>absurd h (by omega),fun h=>absurd h (by omega)⟩,HRS5.out,HL5.out,HX5.out,HT5.out,HB5.out⟩
    case round=>
     clear HRS5 HL5 HX5 HT5 HB5;obtain ⟨j,x0,x1,x2,hj,rfl,hxs,hrs,hl,hx,ht,hb⟩:=hrel;have HXS:=hid hxs;have HL:=hid hl;have HX:=hid hx;have HT:=hid ht;have HB:=hid hb;obtain ⟨wi,hwi⟩:∃ wi,wi=wr:=⟨_,rfl⟩
     subst hwi;clear hxs hl hx ht hb;obtain ⟨a5,n5,c5,rfl,hsl,hn5,hc5,hno5,hby5,hle5⟩:=hrs;have HSL:=hid hsl;have HN5:=hid hn5;have hnb:(n5:Int)<=1000:=by omega
     have HFACT:=hid (And.intro hc5 (And.intro hno5 hby5));clear hsl hn5 hc5 hno5 hby5 hle5;rcases (show Hid (j=0)\/Hid (j=1)\/Hid (j=2)\/Hid (j=3) by
      rcases (show j=0\/j=1\/j=2\/j=3 by omega) with h | h | h | h
      ·exact .inl (hid h)
      ·exact .inr (.inl (hid h))
      ·exact .inr (.inr (.inl (hid h)))
      ·exact .inr (.inr (.inr (hid h)))) with hjj | hjj | hjj | hjj
     ·obtain rfl:=hjj.out;clear hjj hj;obtain ⟨v,hv⟩:∃ v,v=vM (tJ (rsM R k) 0):=⟨_,rfl⟩
      obtain ⟨E,hE⟩:∃ E,E=eM (tJ (rsM R k) 0):=⟨_,rfl⟩
      obtain ⟨Tl,hTl⟩:∃ T,T=tM (tJ (rsM R k) 0):=⟨_,rfl⟩
      have HV:=hid (And.intro hE (And.intro hv hTl));have hvb:(v:Int)<=9223372036854775807:=by have:=Oj (tJ (rsM R k) 0);omega
      have HCALL:=hid (YT _ a5 n5 c5 _ wi HSL.out.sl HN5.out HFACT.out.1 HFACT.out.2.1 HFACT.out.2.2 (by omega));rw [<- hv,<- hE,<- hTl] at HCALL;have hTlen:Tl.length<=1000:=by rw [hTl];exact Nat.le_trans (SA _) (by have:=HN5.out;omega)
      have hTby:Bytes Tl:=by rw [hTl];exact Jz HFACT.out.2.2
      have HTT:=hid (And.intro hTlen hTby);clear hv hE hTl hTlen hTby;by_cases hE0:E=0
      ·have HE0:=hid hE0;have hEn:((E:Int) != 0)=false:=by simp [hE0]
       have hEn2:(E=0)=True:=eq_true hE0;clear hE0
       go_wp2_with fail
       refine HCALL.out.mono ?_;clear HCALL;rintro e w6 ⟨⟨y6,rfl,hr6⟩,hb6⟩;obtain ⟨a6,c6,rfl,hn6,hc6,hm6,hs6⟩:=hr6.sl;have HRS6:Hid (RestIn w.heap.size w6 (.slice a6 Tl.length c6) (tJ (rsM R k) 1)):=hid ⟨a6,Tl.length,c6,rfl,.inr (by have h:=hr6.weaken HB.out.size;rw [show Tl=tJ (rsM R k) 1 from HV.out.2.2] at h ⊢;exact h),by rw [show Tl=tJ (rsM R k) 1 from HV.out.2.2],⟨hc6,hm6⟩,hn6,by rw [<- show Tl=tJ (rsM R k) 1 from HV.out.2.2];exact HTT.out.2,HTT.out.1⟩;have HL6:Hid (w6.ownsRow w.heap.size 65 3 u6 k (Ak (esM R k))):=hid (Ag (F:=fun _=>False) HL.out (Mv.of_below hb6) fun _ _=>id);have HX6:=hid (Ac HX.out hb6);have ht6:=Ac HT.out hb6;have HT6:=hid ht6;have HB6:Hid (Below w.heap.size w w6):=hid (HB.out.trans (hb6.mono HB.out.size));have hcell:w6.cell? ⟨tg,0,none⟩=some (.int .i64 x0):=coR ht6;have hfro:w6.frozen? ⟨tg,0,none⟩=false:=frozen_of_row _ _ _ _ _ ht6;obtain ⟨n6,hn66⟩:∃ n,n=Tl.length:=⟨_,rfl⟩
       rw [<- hn66] at HRS6 ⊢;have HN66:=hid hn66;clear hr6 hn6 hc6 hm6 hs6 hb6 ht6 HL HX HT HB HSL HN5 HFACT hn66;have HRS7:Hid (RestIn w.heap.size (w6.setCell ⟨tg,0,none⟩ (.int .i64 (v:Int))) (.slice a6 n6 c6) (tJ (rsM R k) 1)):=hid (HRS6.out.set HT6.out HHB.out _ _);have HL7:Hid ((w6.setCell ⟨tg,0,none⟩ (.int .i64 (v:Int))).ownsRow w.heap.size 65 3 u6 k (Ak (esM R k))):=hid (ownsRow_setCell_other HL6.out (DV (by decide) HL6.out HT6.out) _);have HX7:Hid ((w6.setCell ⟨tg,0,none⟩ (.int .i64 (v:Int))).heap[g]?=some (.cells #[.bool false,.slice none 0 0] 114 (0,0))):=hid (GK HX6.out HT6.out (by decide) _);have HT7:Hid ((w6.setCell ⟨tg,0,none⟩ (.int .i64 (v:Int))).heap[tg]?=some (.cells #[.int .i64 (v:Int),.int .i64 x1,.int .i64 x2] 260 (0,0))):=hid (heap_setCell_same w6 tg 0 _ _ _ HT6.out);have HB7:Hid (Below w.heap.size w (w6.setCell ⟨tg,0,none⟩ (.int .i64 (v:Int)))):=hid (HB6.out.setCell (p:=⟨tg,0,none⟩) HHB.out _)
       go_wp2_with fail
       go_roundw
       case rel=>exact ⟨0+1,(v:Int),x1,x2,by omega,rfl,⟨fun _=>⟨HV.out.1.symm.trans HE0.out,by rw [<- HV.out.2.1]⟩,fun h=>absurd h (by decide),fun h=>absurd h (by decide)⟩,HRS7.out,HL7.out,HX7.out,HT7.out,HB7.out⟩
       case measure=>simp [intOf]
      ·have hEn:((E:Int) != 0)=true:=by rw [bne_iff_ne];omega
       have hEn2:(E=0)=False:=eq_false hE0;have HNO:Hid (¬ KH bs):=hid fun h=>hE0 (by
        have h9:=h.2.2.2.1 k (by rw [<- HCT.out.1];exact HKN.out);rw [<- HCT.out.2.1] at h9;rw [HV.out.1];exact h9.1)
       clear hE0
       go_wp2_with fail
       refine HCALL.out.mono ?_;clear HCALL;rintro e w6 ⟨⟨y6,rfl,hr6⟩,hb6⟩;have HL6:Hid (w6.ownsRow w.heap.size 65 3 u6 k (Ak (esM R k))):=hid (Ag (F:=fun _=>False) HL.out (Mv.of_below hb6) fun _ _=>id);obtain ⟨a9,c9,hu9,hk9,-⟩:=Dk HL6.out;rw [DT] at hu9;have HROWL:=hid HL6.out;subst hu9;have HX6:=hid (Ac HX.out hb6);have HB6:Hid (Below w.heap.size w w6):=hid (HB.out.trans (hb6.mono HB.out.size));have hkk:((k:Int) == N)=false:=by rw [beq_eq_false_iff_ne];have:=HKN.out;omega
       have hkk2:(k=N)=False:=eq_false (by have:=HKN.out;omega);clear hr6 hb6 HL HX HT HB HSL HN5 HFACT hk9;obtain ⟨hx0,-⟩:=HC.out w6 HB6.out
       go_wp2_with (refine Ae rfl 114 _ _ rfl g #[.bool lf,.slice a9 k c9] rfl rfl 114 _ HX6.out (by kernel_rfl) rfl (by simp [Value.oneCell']) ?_)
       intro w9 hr9 hg9;have HB9:Hid (Below w.heap.size w w9):=hid (HB6.out.grown hg9 HB6.out.size fun k hk=>by have:=HG.out;cases hk;omega);have HR9:=hid hr9;have HL9:Hid (w9.ownsRow w.heap.size 65 3 (.slice a9 k c9) k (Ak (esM R k))):=hid (HROWL.out.kept hg9 (.inr (DV (by decide) HROWL.out HX6.out)));clear hg9 hr9 hx0
       go_wp2_with fail
       rw [Exit.noGoto_ret];refine bodyPost_ret (v:=.tuple #[.agg #[.bool lf,.slice a9 k c9],.bool false]) (KT _ _ #[.bool lf,.slice a9 k c9] _ rfl HR9.out rfl) rfl ?_;exact ⟨⟨_,lf,esM R k,false,rfl,⟨_,rfl,by rw [DT];exact HL9.out⟩,fun h=>(by cases h),fun _=>HNO.out⟩,HB9.out⟩
     ·obtain rfl:=hjj.out;clear hjj hj;obtain ⟨v,hv⟩:∃ v,v=vM (tJ (rsM R k) 1):=⟨_,rfl⟩
      obtain ⟨E,hE⟩:∃ E,E=eM (tJ (rsM R k) 1):=⟨_,rfl⟩
      obtain ⟨Tl,hTl⟩:∃ T,T=tM (tJ (rsM R k) 1):=⟨_,rfl⟩
      have HV:=hid (And.intro hE (And.intro hv hTl));have hvb:(v:Int)<=9223372036854775807:=by have:=Oj (tJ (rsM R k) 1);omega
      have HCALL:=hid (YT _ a5 n5 c5 _ wi HSL.out.sl HN5.out HFACT.out.1 HFACT.out.2.1 HFACT.out.2.2 (by omega));rw [<- hv,<- hE,<- hTl] at HCALL;have hTlen:Tl.length<=1000:=by rw [hTl];exact Nat.le_trans (SA _) (by have:=HN5.out;omega)
      have hTby:Bytes Tl:=by rw [hTl];exact Jz HFACT.out.2.2
      have HTT:=hid (And.intro hTlen hTby);clear hv hE hTl hTlen hTby;by_cases hE0:E=0
      ·have HE0:=hid hE0;have hEn:((E:Int) != 0)=false:=by simp [hE0]
       have hEn2:(E=0)=True:=eq_true hE0;clear hE0
       go_wp2_with fail
       refine HCALL.out.mono ?_;clear HCALL;rintro e w6 ⟨⟨y6,rfl,hr6⟩,hb6⟩;obtain ⟨a6,c6,rfl,hn6,hc6,hm6,hs6⟩:=hr6.sl;have HRS6:Hid (RestIn w.heap.size w6 (.slice a6 Tl.length c6) (tJ (rsM R k) 2)):=hid ⟨a6,Tl.length,c6,rfl,.inr (by have h:=hr6.weaken HB.out.size;rw [show Tl=tJ (rsM R k) 2 from HV.out.2.2] at h ⊢;exact h),by rw [show Tl=tJ (rsM R k) 2 from HV.out.2.2],⟨hc6,hm6⟩,hn6,by rw [<- show Tl=tJ (rsM R k) 2 from HV.out.2.2];exact HTT.out.2,HTT.out.1⟩;have HL6:Hid (w6.ownsRow w.heap.size 65 3 u6 k (Ak (esM R k))):=hid (Ag (F:=fun _=>False) HL.out (Mv.of_below hb6) fun _ _=>id);have HX6:=hid (Ac HX.out hb6);have ht6:=Ac HT.out hb6;have HT6:=hid ht6;have HB6:Hid (Below w.heap.size w w6):=hid (HB.out.trans (hb6.mono HB.out.size));have hcell:w6.cell? ⟨tg,1,none⟩=some (.int .i64 x1):=coR ht6;have hfro:w6.frozen? ⟨tg,1,none⟩=false:=frozen_of_row _ _ _ _ _ ht6;obtain ⟨n6,hn66⟩:∃ n,n=Tl.length:=⟨_,rfl⟩
       rw [<- hn66] at HRS6 ⊢;have HN66:=hid hn66;clear hr6 hn6 hc6 hm6 hs6 hb6 ht6 HL HX HT HB HSL HN5 HFACT hn66;have HRS7:Hid (RestIn w.heap.size (w6.setCell ⟨tg,1,none⟩ (.int .i64 (v:Int))) (.slice a6 n6 c6) (tJ (rsM R k) 2)):=hid (HRS6.out.set HT6.out HHB.out _ _);have HL7:Hid ((w6.setCell ⟨tg,1,none⟩ (.int .i64 (v:Int))).ownsRow w.heap.size 65 3 u6 k (Ak (esM R k))):=hid (ownsRow_setCell_other HL6.out (DV (by decide) HL6.out HT6.out) _);have HX7:Hid ((w6.setCell ⟨tg,1,none⟩ (.int .i64 (v:Int))).heap[g]?=some (.cells #[.bool false,.slice none 0 0] 114 (0,0))):=hid (GK HX6.out HT6.out (by decide) _);have HT7:Hid ((w6.setCell ⟨tg,1,none⟩ (.int .i64 (v:Int))).heap[tg]?=some (.cells #[.int .i64 x0,.int .i64 (v:Int),.int .i64 x2] 260 (0,0))):=hid (heap_setCell_same w6 tg 1 _ _ _ HT6.out);have HB7:Hid (Below w.heap.size w (w6.setCell ⟨tg,1,none⟩ (.int .i64 (v:Int)))):=hid (HB6.out.setCell (p:=⟨tg,1,none⟩) HHB.out _)
       go_wp2_with fail
       go_roundw
       case rel=>exact ⟨1+1,x0,(v:Int),x2,by omega,rfl,⟨fun _=>HXS.out.1 (by decide),fun _=>⟨HV.out.1.symm.trans HE0.out,by rw [<- HV.out.2.1]⟩,fun h=>absurd h (by decide)⟩,HRS7.out,HL7.out,HX7.out,HT7.out,HB7.out⟩
       case measure=>simp [intOf]
      ·have hEn:((E:Int) != 0)=true:=by rw [bne_iff_ne];omega
       have hEn2:(E=0)=False:=eq_false hE0;have HNO:Hid (¬ KH bs):=hid fun h=>hE0 (by
        have h9:=h.2.2.2.1 k (by rw [<- HCT.out.1];exact HKN.out);rw [<- HCT.out.2.1] at h9;rw [HV.out.1];exact h9.2.1)
       clear hE0
       go_wp2_with fail
       refine HCALL.out.mono ?_;clear HCALL;rintro e w6 ⟨⟨y6,rfl,hr6⟩,hb6⟩;have HL6:Hid (w6.ownsRow w.heap.size 65 3 u6 k (Ak (esM R k))):=hid (Ag (F:=fun _=>False) HL.out (Mv.of_below hb6) fun _ _=>id);obtain ⟨a9,c9,hu9,hk9,-⟩:=Dk HL6.out;rw [DT] at hu9;have HROWL:=hid HL6.out;subst hu9;have HX6:=hid (Ac HX.out hb6);have HB6:Hid (Below w.heap.size w w6):=hid (HB.out.trans (hb6.mono HB.out.size));have hkk:((k:Int) == N)=false:=by rw [beq_eq_false_iff_ne];have:=HKN.out;omega
       have hkk2:(k=N)=False:=eq_false (by have:=HKN.out;omega);clear hr6 hb6 HL HX HT HB HSL HN5 HFACT hk9;obtain ⟨hx0,-⟩:=HC.out w6 HB6.out
       go_wp2_with (refine Ae rfl 114 _ _ rfl g #[.bool lf,.slice a9 k c9] rfl rfl 114 _ HX6.out (by kernel_rfl) rfl (by simp [Value.oneCell']) ?_)
       intro w9 hr9 hg9;have HB9:Hid (Below w.heap.size w w9):=hid (HB6.out.grown hg9 HB6.out.size fun k hk=>by have:=HG.out;cases hk;omega);have HR9:=hid hr9;have HL9:Hid (w9.ownsRow w.heap.size 65 3 (.slice a9 k c9) k (Ak (esM R k))):=hid (HROWL.out.kept hg9 (.inr (DV (by decide) HROWL.out HX6.out)));clear hg9 hr9 hx0
       go_wp2_with fail
       rw [Exit.noGoto_ret];refine bodyPost_ret (v:=.tuple #[.agg #[.bool lf,.slice a9 k c9],.bool false]) (KT _ _ #[.bool lf,.slice a9 k c9] _ rfl HR9.out rfl) rfl ?_;exact ⟨⟨_,lf,esM R k,false,rfl,⟨_,rfl,by rw [DT];exact HL9.out⟩,fun h=>(by cases h),fun _=>HNO.out⟩,HB9.out⟩
     ·obtain rfl:=hjj.out;clear hjj hj;obtain ⟨v,hv⟩:∃ v,v=vM (tJ (rsM R k) 2):=⟨_,rfl⟩
      obtain ⟨E,hE⟩:∃ E,E=eM (tJ (rsM R k) 2):=⟨_,rfl⟩
      obtain ⟨Tl,hTl⟩:∃ T,T=tM (tJ (rsM R k) 2):=⟨_,rfl⟩
      have HV:=hid (And.intro hE (And.intro hv hTl));have hvb:(v:Int)<=9223372036854775807:=by have:=Oj (tJ (rsM R k) 2);omega
      have HCALL:=hid (YT _ a5 n5 c5 _ wi HSL.out.sl HN5.out HFACT.out.1 HFACT.out.2.1 HFACT.out.2.2 (by omega));rw [<- hv,<- hE,<- hTl] at HCALL;have hTlen:Tl.length<=1000:=by rw [hTl];exact Nat.le_trans (SA _) (by have:=HN5.out;omega)
      have hTby:Bytes Tl:=by rw [hTl];exact Jz HFACT.out.2.2
      have HTT:=hid (And.intro hTlen hTby);clear hv hE hTl hTlen hTby;by_cases hE0:E=0
      ·have HE0:=hid hE0;have hEn:((E:Int) != 0)=false:=by simp [hE0]
       have hEn2:(E=0)=True:=eq_true hE0;clear hE0
       go_wp2_with fail
       refine HCALL.out.mono ?_;clear HCALL;rintro e w6 ⟨⟨y6,rfl,hr6⟩,hb6⟩;obtain ⟨a6,c6,rfl,hn6,hc6,hm6,hs6⟩:=hr6.sl;have HRS6:Hid (RestIn w.heap.size w6 (.slice a6 Tl.length c6) (tJ (rsM R k) 3)):=hid ⟨a6,Tl.length,c6,rfl,.inr (by have h:=hr6.weaken HB.out.size;rw [show Tl=tJ (rsM R k) 3 from HV.out.2.2] at h ⊢;exact h),by rw [show Tl=tJ (rsM R k) 3 from HV.out.2.2],⟨hc6,hm6⟩,hn6,by rw [<- show Tl=tJ (rsM R k) 3 from HV.out.2.2];exact HTT.out.2,HTT.out.1⟩;have HL6:Hid (w6.ownsRow w.heap.size 65 3 u6 k (Ak (esM R k))):=hid (Ag (F:=fun _=>False) HL.out (Mv.of_below hb6) fun _ _=>id);have HX6:=hid (Ac HX.out hb6);have ht6:=Ac HT.out hb6;have HT6:=hid ht6;have HB6:Hid (Below w.heap.size w w6):=hid (HB.out.trans (hb6.mono HB.out.size));have hcell:w6.cell? ⟨tg,2,none⟩=some (.int .i64 x2):=coR ht6;have hfro:w6.frozen? ⟨tg,2,none⟩=false:=frozen_of_row _ _ _ _ _ ht6;obtain ⟨n6,hn66⟩:∃ n,n=Tl.length:=⟨_,rfl⟩
       rw [<- hn66] at HRS6 ⊢;have HN66:=hid hn66;clear hr6 hn6 hc6 hm6 hs6 hb6 ht6 HL HX HT HB HSL HN5 HFACT hn66;have HRS7:Hid (RestIn w.heap.size (w6.setCell ⟨tg,2,none⟩ (.int .i64 (v:Int))) (.slice a6 n6 c6) (tJ (rsM R k) 3)):=hid (HRS6.out.set HT6.out HHB.out _ _);have HL7:Hid ((w6.setCell ⟨tg,2,none⟩ (.int .i64 (v:Int))).ownsRow w.heap.size 65 3 u6 k (Ak (esM R k))):=hid (ownsRow_setCell_other HL6.out (DV (by decide) HL6.out HT6.out) _);have HX7:Hid ((w6.setCell ⟨tg,2,none⟩ (.int .i64 (v:Int))).heap[g]?=some (.cells #[.bool false,.slice none 0 0] 114 (0,0))):=hid (GK HX6.out HT6.out (by decide) _);have HT7:Hid ((w6.setCell ⟨tg,2,none⟩ (.int .i64 (v:Int))).heap[tg]?=some (.cells #[.int .i64 x0,.int .i64 x1,.int .i64 (v:Int)] 260 (0,0))):=hid (heap_setCell_same w6 tg 2 _ _ _ HT6.out);have HB7:Hid (Below w.heap.size w (w6.setCell ⟨tg,2,none⟩ (.int .i64 (v:Int)))):=hid (HB6.out.setCell (p:=⟨tg,2,none⟩) HHB.out _)
       go_wp2_with fail
       go_roundw
       case rel=>exact ⟨2+1,x0,x1,(v:Int),by omega,rfl,⟨fun _=>HXS.out.1 (by decide),fun _=>HXS.out.2.1 (by decide),fun _=>⟨HV.out.1.symm.trans HE0.out,by rw [<- HV.out.2.1]⟩⟩,HRS7.out,HL7.out,HX7.out,HT7.out,HB7.out⟩
       case measure=>simp [intOf]
      ·have hEn:((E:Int) != 0)=true:=by rw [bne_iff_ne];omega
       have hEn2:(E=0)=False:=eq_false hE0;have HNO:Hid (¬ KH bs):=hid fun h=>hE0 (by
        have h9:=h.2.2.2.1 k (by rw [<- HCT.out.1];exact HKN.out);rw [<- HCT.out.2.1] at h9;rw [HV.out.1];exact h9.2.2)
       clear hE0
       go_wp2_with fail
       refine HCALL.out.mono ?_;clear HCALL;rintro e w6 ⟨⟨y6,rfl,hr6⟩,hb6⟩;have HL6:Hid (w6.ownsRow w.heap.size 65 3 u6 k (Ak (esM R k))):=hid (Ag (F:=fun _=>False) HL.out (Mv.of_below hb6) fun _ _=>id);obtain ⟨a9,c9,hu9,hk9,-⟩:=Dk HL6.out;rw [DT] at hu9;have HROWL:=hid HL6.out;subst hu9;have HX6:=hid (Ac HX.out hb6);have HB6:Hid (Below w.heap.size w w6):=hid (HB.out.trans (hb6.mono HB.out.size));have hkk:((k:Int) == N)=false:=by rw [beq_eq_false_iff_ne];have:=HKN.out;omega
       have hkk2:(k=N)=False:=eq_false (by have:=HKN.out;omega);clear hr6 hb6 HL HX HT HB HSL HN5 HFACT hk9;obtain ⟨hx0,-⟩:=HC.out w6 HB6.out
       go_wp2_with (refine Ae rfl 114 _ _ rfl g #[.bool lf,.slice a9 k c9] rfl rfl 114 _ HX6.out (by kernel_rfl) rfl (by simp [Value.oneCell']) ?_)
       intro w9 hr9 hg9;have HB9:Hid (Below w.heap.size w w9):=hid (HB6.out.grown hg9 HB6.out.size fun k hk=>by have:=HG.out;cases hk;omega);have HR9:=hid hr9;have HL9:Hid (w9.ownsRow w.heap.size 65 3 (.slice a9 k c9) k (Ak (esM R k))):=hid (HROWL.out.kept hg9 (.inr (DV (by decide) HROWL.out HX6.out)));clear hg9 hr9 hx0
       go_wp2_with fail
       rw [Exit.noGoto_ret];refine bodyPost_ret (v:=.tuple #[.agg #[.bool lf,.slice a9 k c9],.bool false]) (KT _ _ #[.bool lf,.slice a9 k c9] _ rfl HR9.out rfl) rfl ?_;exact ⟨⟨_,lf,esM R k,false,rfl,⟨_,rfl,by rw [DT];exact HL9.out⟩,fun h=>(by cases h),fun _=>HNO.out⟩,HB9.out⟩
     ·obtain rfl:=hjj.out;clear hjj hj;have HOKT:Hid (okM (rsM R k)/\((x0,x1),x2)=etM (rsM R k)):=hid (by
       obtain ⟨p0,p1,p2⟩:=HXS.out;have q0:=p0 (by decide);have q1:=p1 (by decide);have q2:=p2 (by decide);exact ⟨⟨q0.1,q1.1,q2.1⟩,by rw [q0.2,q1.2,q2.2];rfl⟩)
      have HRS8:Hid (RestIn w.heap.size wi (.slice a5 n5 c5) (rsM R (k+1))):=hid ⟨a5,n5,c5,rfl,HSL.out,HN5.out,HFACT.out.1,HFACT.out.2.1,HFACT.out.2.2,by omega⟩;have hc0:wi.cell? ⟨tg,0,none⟩=some (.int .i64 x0):=coR HT.out;have hc1:wi.cell? ⟨tg,1,none⟩=some (.int .i64 x1):=coR HT.out;have hc2:wi.cell? ⟨tg,2,none⟩=some (.int .i64 x2):=coR HT.out;have HONE:Hid (EtS (fun _=>True) (wi.alloc (.cells #[.int .i64 x0,.int .i64 x1,.int .i64 x2] 65)) (some ⟨wi.heap.size,0,none⟩) [((x0,x1),x2)]):=hid (fD wi 65 x0 x1 x2);clear HSL HN5 HFACT
      go_wp2_with (refine Bf rfl (.tmp 53) (.tmp 62) 48 rfl w.heap.size 65 Tryz.underlying48 EZ _ _ _ rfl (HL.out.alloc _) _ _ _ _ [((x0,x1),x2)] rfl rfl HONE.out (by omega) (by omega) (by have:=HB.out.size;simp;omega) ?_)
      intro v4 w4 hv4 hg4;have hba:Below w.heap.size w (wi.alloc (.cells #[.int .i64 x0,.int .i64 x1,.int .i64 x2] 65)):=HB.out.alloc HB.out.size _;have HB4:Hid (Below w.heap.size w w4):=hid (A8 hba (HL.out.alloc _) (Nat.le_refl _) hg4);have HX4:=hid (LU (by decide) (HL.out.alloc _) hg4 (Ac HX.out (Ad wi _)));have HRS4:=hid ((HRS8.out.below (Ad wi _)).grown (HL.out.alloc _) hg4 (by decide));have HL4:Hid (w4.ownsRow w.heap.size 65 3 v4 (k+1) (Ak (esM R (k+1)))):=hid (by
       show w4.ownsRow w.heap.size 65 3 v4 (k+1) (Ak (esM R k++[etM (rsM R k)]));rw [<- HOKT.out.2];exact hv4)
      clear hv4 hg4 hba hc0 hc1 hc2 HONE HL HX HT HB HRS8
      go_wp2_with fail
      go_roundw
      case rel=>exact ⟨k+1,by have:=HKN.out;omega,by go_num,fun i hi=>by
        by_cases hik:i=k
        ·rw [hik];exact HOKT.out.1
        ·exact HGD.out i (by omega),HRS4.out,HL4.out,HX4.out,HB4.out⟩
      case measure=>have:=HKN.out;simp [intOf];omega
   ·have hkf:(k < N)=False:=eq_false (by omega);have HKE:Hid (k=N):=hid (by omega);obtain ⟨wj,hwj⟩:∃ wj,wj=wr:=⟨_,rfl⟩
    subst hwj;clear hlt;obtain ⟨a5,n5,c5,rfl,hsl,hn5,hc5,hno5,hby5,hle5⟩:=HRS.out;have HN5:=hid hn5;obtain ⟨a9,c9,hu9,hk9,-⟩:=Dk HL.out;rw [DT] at hu9;have HROWL:=hid HL.out;subst hu9;have hkk:((k:Int) == N)=true:=by rw [beq_iff_eq];have:=HKE.out;omega
    clear hsl hn5 hc5 hno5 hby5 hle5 HRS hk9 HL;obtain ⟨hx0,-⟩:=HC.out wj HB.out;by_cases hz:n5=0
    ·have HYES:Hid (KH bs):=hid ⟨HLEN.out.1,HLEN.out.2.1,HLEN.out.2.2,by rw [<- HCT.out.1,<- HKE.out,<- HCT.out.2.1];exact HGD.out,by rw [<- HCT.out.1,<- HKE.out,<- HCT.out.2.1];exact List.eq_nil_of_length_eq_zero (by rw [<- HN5.out,hz])⟩;subst hz
     go_wp2_with (refine Ae rfl 114 _ _ rfl g #[.bool lf,.slice a9 k c9] rfl rfl 114 _ HX.out (by kernel_rfl) rfl (by simp [Value.oneCell']) ?_)
     intro w9 hr9 hg9;have HB9:Hid (Below w.heap.size w w9):=hid (HB.out.grown hg9 HB.out.size fun k hk=>by have:=HG.out;cases hk;omega);have HR9:=hid hr9;have HL9:Hid (w9.ownsRow w.heap.size 65 3 (.slice a9 k c9) k (Ak (esM R k))):=hid (HROWL.out.kept hg9 (.inr (DV (by decide) HROWL.out HX.out)));clear hg9 hr9 hx0
     go_wp2_with fail
     rw [Exit.noGoto_ret];refine bodyPost_ret (v:=.tuple #[.agg #[.bool lf,.slice a9 k c9],.bool true]) (KT _ _ #[.bool lf,.slice a9 k c9] _ rfl HR9.out rfl) rfl ?_;exact ⟨⟨_,lf,esM R k,true,rfl,⟨_,rfl,by rw [DT];exact HL9.out⟩,fun _=>⟨HYES.out,HCT.out.2.2,by rw [HKE.out,HCT.out.1,HCT.out.2.1]⟩,fun h=>(by cases h)⟩,HB9.out⟩
    ·have HNO:Hid (¬ KH bs):=hid fun h=>hz (by
      have h9:=h.2.2.2.2;rw [<- HCT.out.1,<- HKE.out,<- HCT.out.2.1] at h9;rw [HN5.out,h9];rfl)
     have hz1:((n5:Int) == 0)=false:=by rw [beq_eq_false_iff_ne];omega
     have hz2:(n5=0)=False:=eq_false hz;clear hz
     go_wp2_with (refine Ae rfl 114 _ _ rfl g #[.bool lf,.slice a9 k c9] rfl rfl 114 _ HX.out (by kernel_rfl) rfl (by simp [Value.oneCell']) ?_)
     intro w9 hr9 hg9;have HB9:Hid (Below w.heap.size w w9):=hid (HB.out.grown hg9 HB.out.size fun k hk=>by have:=HG.out;cases hk;omega);have HR9:=hid hr9;have HL9:Hid (w9.ownsRow w.heap.size 65 3 (.slice a9 k c9) k (Ak (esM R k))):=hid (HROWL.out.kept hg9 (.inr (DV (by decide) HROWL.out HX.out)));clear hg9 hr9 hx0
     go_wp2_with fail
     rw [Exit.noGoto_ret];refine bodyPost_ret (v:=.tuple #[.agg #[.bool lf,.slice a9 k c9],.bool false]) (KT _ _ #[.bool lf,.slice a9 k c9] _ rfl HR9.out rfl) rfl ?_;exact ⟨⟨_,lf,esM R k,false,rfl,⟨_,rfl,by rw [DT];exact HL9.out⟩,fun h=>(by cases h),fun _=>HNO.out⟩,HB9.out⟩
theorem Yg (ok:Nat->Prop) (a:Option Addr) (n c:Nat) (bs:List Nat) (w:World) (hs:Sl ok w a bs) (hn:n=bs.length) (hc:n<=c/\c<=maxLen) (hby:Bytes bs) (hl:n<=1000):Calls Tryz.prog 163 #[.slice a n c] w (RdAns 65 w bs):=by
 by_cases h:n < 2
 ·exact SX a n c bs w hn h
 ·by_cases h0:bs.getD 0 0<=1
  ·by_cases h1:bs.getD 1 0<=16
   ·exact aS ok a n c bs w hs hn hc hby hl (by omega) h0 h1
   ·exact Qu ok a n c bs w hs hn (by omega) h0 (by omega)
  ·exact SY ok a n c bs w hs hn (by omega) (by omega)
end Go.Proofs.YtfhdojnobmfefaaGreatDoor
namespace Go.Inc
open Go.RowKit
def MX (es:List Et) (k:Ky):Nat->Int
 | 0=>0
 | n+1=>if (es.getD n et0).1=k then (es.getD n et0).2 else MX es k n
theorem Jm (es:List Et) (k:Ky) (n:Nat):MX es k (n+1)=if (es.getD n et0).1=k then (es.getD n et0).2 else MX es k n:=rfl
def Ya (es:List Et) (pf pt:Int) (n:Nat):List Et:=(es.take n).filter fun e=>decide (pf<=plK e.1) && decide (plK e.1 < pt)
end Go.Inc
namespace Go.Proofs.YtfhdojnobmfefaaGreatDoor
open Go.RowKit Go.Inc
end Go.Proofs.YtfhdojnobmfefaaGreatDoor
namespace Go.Inc
open Go.RowKit
theorem NdOk.set2 {x:World} {a:Option Addr} {n c:Nat} {es:List Et} (h:NdOk x a n c es) {b:Nat} {f:Bool} {r:Value} {T:TypeId} (hr:x.heap[b]?=some (.cells #[.bool f,r] T (0,0))) (hn:∀ z,r≠.int .i64 z) (k:Nat) (u:Value):NdOk (x.setCell ⟨b,k,none⟩ u) a n c es:=by
 refine ⟨h.1,?_,h.2.2⟩;rcases h.2.1 with h1 | ⟨b',o,h1,h2,h3⟩
 ·exact .inl h1
 ·by_cases hb:b'=b
  ·left;apply List.eq_nil_of_length_eq_zero;apply Nat.eq_zero_of_not_pos;intro hp;obtain ⟨q1,-,-⟩:=h3 0 hp;rw [hb,cell_of_row _ _ _ _ _ _ hr] at q1;rcases (show o+0 * 3=0\/o+0 * 3=1\/2<=o+0 * 3 by omega) with e | e | e
   ·rw [e] at q1;simp at q1
   ·rw [e] at q1;simp at q1;exact hn _ q1
   ·obtain ⟨d,e⟩:∃ d,o+0 * 3=d+1+1:=⟨o - 2,by omega⟩
    rw [e] at q1;simp at q1
  ·refine .inr ⟨b',o,h1,h2,fun i hi=>?_⟩;have hne:∀ q,(⟨b,k,none⟩:Addr)≠⟨b',q,none⟩:=fun q e=>hb (by cases e;rfl);obtain ⟨q1,q2,q3⟩:=h3 i hi;exact ⟨(World.cell?_setCell_other _ _ _ _ (hne _)).trans q1,(World.cell?_setCell_other _ _ _ _ (hne _)).trans q2,(World.cell?_setCell_other _ _ _ _ (hne _)).trans q3⟩
theorem NdOk.over2 {x y:World} {a:Option Addr} {n c:Nat} {es:List Et} (h:NdOk x a n c es) {b:Nat} {f:Bool} {r:Value} {T:TypeId} (hg:x.grownBy y (some b)) (hr:x.heap[b]?=some (.cells #[.bool f,r] T (0,0))) (hn:∀ z,r≠.int .i64 z):NdOk y a n c es:=by
 have h0:=h.set2 hr hn 0 (.bool f);refine ⟨h.1,?_,h.2.2⟩;rcases h.2.1 with h1 | ⟨b',o,h1,h2,h3⟩
 ·exact .inl h1
 ·by_cases hb:b'=b
  ·rcases h0.2.1 with h1 | ⟨b2,o2,h4,-,h5⟩
   ·exact .inl h1
   ·left;apply List.eq_nil_of_length_eq_zero;apply Nat.eq_zero_of_not_pos;intro hp;obtain ⟨q1,-,-⟩:=h3 0 hp;rw [hb,cell_of_row _ _ _ _ _ _ hr] at q1;rcases (show o+0 * 3=0\/o+0 * 3=1\/2<=o+0 * 3 by omega) with e | e | e
    ·rw [e] at q1;simp at q1
    ·rw [e] at q1;simp at q1;exact hn _ q1
    ·obtain ⟨d,e⟩:∃ d,o+0 * 3=d+1+1:=⟨o - 2,by omega⟩
     rw [e] at q1;simp at q1
  ·refine .inr ⟨b',o,h1,h2,fun i hi=>?_⟩;obtain ⟨q1,q2,q3⟩:=h3 i hi;have key:∀ q,x.heap[b']?=y.heap[b']?->y.cell? ⟨b',q,none⟩=x.cell? ⟨b',q,none⟩:=fun q e=>by simp [World.cell?,e]
   have e:=(hg.block b' (AA q1) (by intro e;cases e;exact hb rfl)).symm;exact ⟨(key _ e).trans q1,(key _ e).trans q2,(key _ e).trans q3⟩
end Go.Inc
namespace Go.Proofs.YtfhdojnobmfefaaGreatDoor
open Go.RowKit Go.Inc
theorem SS (w:World) (g:Nat) (cs:Array Value) (tmps:Array Value) (h2:tmps.getD 2 undef=.pointer (some ⟨g,0,none⟩)) (hg:w.heap[g]?=some (.cells cs 114 (0,0))) (hs:cs.size=2) :
  (results Tryz.f149 tmps).run Tryz.prog w=.ok (.tuple #[.agg cs,tmps.getD 3 undef]) w:=
 CS rfl tmps w g 114 cs (0,0) _ h2 hg Tryz.underlying114 rfl (by rw [hs];kernel_rfl)
set_option maxRecDepth 20000 in
set_option maxHeartbeats 4000000 in
theorem Oc (ok:Nat->Prop) (a:Option Addr) (n c:Nat) (bs:List Nat) (w:World) (hs:Sl ok w a bs) (hn:n=bs.length) (hc:n<=c/\c<=maxLen) (_:a=none->c=0) (hby:Bytes bs) (hl:n<=1000) :
  Calls Tryz.prog 149 #[.slice a n c] w fun e w'=>(∃ v,e=.returned (.tuple #[v,.int .i64 (ndE bs)])/\NdW 65 w.heap.size w' v (ndL bs) (ndS bs))/\Below w.heap.size w w':=by
 obtain ⟨g,hg⟩:∃ g,g=w.heap.size:=⟨_,rfl⟩
 have HG:=hid hg;obtain ⟨w0,hw0⟩:∃ w0,w0=w.alloc (.cells #[.bool false,.slice none 0 0] 114):=⟨_,rfl⟩
 have HW0:=hid hw0;have HB0:Hid (Below w.heap.size w w0):=hid (by rw [hw0];exact Ad w _);have HX0:Hid (w0.heap[g]?=some (.cells #[.bool false,.slice none 0 0] 114 (0,0))):=hid (by rw [hw0,hg];exact heap_alloc_new w _);have HB0L:=hid HB0.out;have HRD:=hid (Yg ok a n c bs w0 (hs.below HB0.out) hn hc hby hl);have HBY:=hid hby;have HBAD:Hid (¬ G9 bs->∀ y,Below w.heap.size w y->(∃ v,Ending.returned (.tuple #[.agg #[.bool false,.slice none 0 0],.int .i64 3])=.returned (.tuple #[v,.int .i64 (ndE bs)])/\NdW 65 w.heap.size y v (ndL bs) (ndS bs))/\Below w.heap.size w y):=hid fun h y hy=>by
  rw [UZ h,bK h,bJ h];exact ⟨⟨_,rfl,Yy _ _ y⟩,hy⟩
 have HGOOD:Hid (G9 bs->∀ y v,NdW 65 w.heap.size y v (ndL bs) (ndS bs)->Below w.heap.size w y->(∃ u,Ending.returned (.tuple #[v,.int .i64 0])=.returned (.tuple #[u,.int .i64 (ndE bs)])/\NdW 65 w.heap.size y u (ndL bs) (ndS bs))/\Below w.heap.size w y):=hid fun h y v hv hy=>by
  rw [QG h];exact ⟨⟨_,rfl,hv⟩,hy⟩
 obtain ⟨QQ,hQQ⟩:∃ QQ:Ending->World->Prop,QQ=fun e w'=>(∃ v,e=.returned (.tuple #[v,.int .i64 (ndE bs)])/\NdW 65 w.heap.size w' v (ndL bs) (ndS bs))/\Below w.heap.size w w':=⟨_,rfl⟩
 have HQ:=hid hQQ;rw [<- hQQ];clear hs hn hc hby hl hg hw0 hQQ
 go_enter Tryz.func149,Tryz.ntmps149
 go_wp2_with fail
 rw [<- HW0.out];refine HRD.out.mono ?_;clear HRD;rintro e w1 ⟨⟨v,lf,es,B,rfl,hv,hyes,hno⟩,hb⟩;have HB1:Hid (Below w.heap.size w w1):=hid (HB0.out.trans (hb.mono HB0.out.size));have HX1:=hid (Ac HX0.out hb);obtain ⟨r,rfl,hr⟩:=hv;obtain ⟨a9,c9,rfl,-,het9,hc9,hm9,hn9⟩:=J9 hr;have he9:=het9.ets;have HET:=hid het9;obtain ⟨m,hm⟩:∃ m,m=es.length:=⟨_,rfl⟩
 rw [<- hm] at hc9 ⊢;have HE:=hid (And.intro he9 (And.intro hm (And.intro hc9 (And.intro hm9 hn9))));obtain ⟨w2,hw2⟩:∃ w2,w2=w1.alloc (.cells #[.bool lf,.slice a9 m c9] 114):=⟨_,rfl⟩
 have HW2:=hid hw2;obtain ⟨g2,hg2⟩:∃ g2,g2=w1.heap.size:=⟨_,rfl⟩
 have HG2:=hid hg2;have hb2:Below w1.heap.size w1 w2:=by rw [hw2];exact Ad w1 _
 have HB2:Hid (Below w.heap.size w w2):=hid (HB1.out.trans (hb2.mono HB1.out.size));have HX2:=hid (Ac HX1.out hb2);have HY2:Hid (w2.heap[g2]?=some (.cells #[.bool lf,.slice a9 m c9] 114 (0,0))):=hid (by rw [hw2,hg2];exact heap_alloc_new w1 _);have HE2:=hid (HE.out.1.below hb2);have HET2:=hid (HET.out.below hb2);have HYES:=hid hyes;have HNO:=hid hno;clear hb hr he9 het9 hm hc9 hm9 hn9 hw2 hg2 hb2 hyes hno HB0 HX0 HW0 HB1 HX1;cases B with
 | false=>
  go_upto_region 3 with fail
  rw [<- HW2.out,<- HG.out]
  go_wp2_with (refine Ae rfl 114 _ _ rfl g #[.bool false,.slice none 0 0] rfl rfl 114 _ HX2.out (by kernel_rfl) rfl (by simp [Value.oneCell']) ?_)
  intro w3 hr3 hg3;have HB3:Hid (Below w.heap.size w w3):=hid (HB2.out.grown hg3 HB2.out.size fun k hk=>by have:=HG.out;cases hk;omega);have HR3:=hid hr3;clear hr3 hg3
  go_wp2_with fail
  refine bodyPost_ret (v:=.tuple #[.agg #[.bool false,.slice none 0 0],.int .i64 3]) (SS _ _ #[.bool false,.slice none 0 0] _ rfl HR3.out rfl) rfl ?_;rw [HQ.out];exact HBAD.out (fun h=>HNO.out (by trivial) (Zi HBY.out h).1) _ HB3.out
 | true=>
  have hy:=HYES.out (by trivial);have hel:es.length<=16:=by rw [hy.2.2,DT];exact hy.1.2.2.1
  have hfit:∀ e∈es,ET e:=by rw [hy.2.2];exact Q3 _ _
  have HND:Hid (∀ y,Below w2.heap.size w2 y->NdOk y a9 m c9 es):=hid fun y hy=>⟨HE.out.2.1,(NdOk.mono HE2.out).below hy,by have:=HE.out.2.1;omega,hfit,⟨HE.out.2.2.1,HE.out.2.2.2.1⟩,HE.out.2.2.2.2⟩
  have HCK:=hid (BJ a9 m c9 lf es w2 (HND.out w2 (Below.refl _ _)));have hl0:w2.cell? ⟨g2,0,none⟩=some (.bool lf):=coR HY2.out;have hl1:w2.cell? ⟨g2,1,none⟩=some (.slice a9 m c9):=coR HY2.out;obtain ⟨C,hC⟩:∃ C,C=AL lf es:=⟨_,rfl⟩
  have HC:=hid hC;rw [<- hC] at HCK;clear hy hel hfit hC
  go_upto_region 2 with fail
  rw [<- HW2.out,<- HG2.out,<- HG.out]
  go_wp2_with fail
  refine HCK.out.mono ?_;clear HCK;rintro e w3 ⟨rfl,hb3⟩;have HB3:Hid (Below w.heap.size w w3):=hid (HB2.out.trans (hb3.mono HB2.out.size));have HX3:=hid (Ac HX2.out hb3);have hy3:=Ac HY2.out hb3;have HN3:=hid (HND.out w3 hb3);have HNE3:=hid (HET2.out.below hb3);clear hb3 hl0 hl1 HND HX2 HY2 HB2 HW2;have hl0:w3.cell? ⟨g2,0,none⟩=some (.bool lf):=coR hy3;have hl1:w3.cell? ⟨g2,1,none⟩=some (.slice a9 m c9):=coR hy3;clear hy3;by_cases hC0:C=0
  ·have hc1:((C:Int) != 0)=false:=by simp [hC0]
   have hc2:(C=0)=True:=eq_true hC0;have HD:Hid (G9 bs/\ndL bs=lf/\ndS bs=es):=hid (by
    obtain ⟨h1,h2,h3⟩:=HYES.out (by trivial);obtain ⟨k1,k2,k3⟩:=fQ HBY.out h1 (by rw [<- h2,<- h3,<- HC.out,hC0]);exact ⟨k1,by rw [k2,h2],by rw [k3,h3]⟩)
   clear hC0
   go_wp2_with (refine Ae rfl 114 _ _ rfl g #[.bool lf,.slice a9 m c9] rfl rfl 114 _ HX3.out (by kernel_rfl) rfl (by simp [Value.oneCell']) ?_)
   intro w4 hr4 hg4;have HB4:Hid (Below w.heap.size w w4):=hid (HB3.out.grown hg4 HB3.out.size fun k hk=>by have:=HG.out;cases hk;omega);have HR4:=hid hr4;have HN4:=hid (HN3.out.over2 hg4 HX3.out (fun z e=>by cases e));have HNE4:=hid (HNE3.out.apart hg4 HX3.out (by decide));clear hr4 hg4
   go_wp2_with fail
   refine bodyPost_ret (v:=.tuple #[.agg #[.bool lf,.slice a9 m c9],.int .i64 0]) (SS _ _ #[.bool lf,.slice a9 m c9] _ rfl HR4.out rfl) rfl ?_;rw [HQ.out];refine HGOOD.out HD.out.1 _ _ ?_ HB4.out;rw [HD.out.2.1,HD.out.2.2];exact ⟨a9,m,c9,rfl,HN4.out,HNE4.out.weaken HB0L.out.size⟩
  ·have hc1:((C:Int) != 0)=true:=by rw [bne_iff_ne];exact hC0
   have hc2:(C=0)=False:=eq_false hC0;have HD:Hid (¬ G9 bs):=hid fun h=>hC0 (by
    obtain ⟨-,h2,h3⟩:=HYES.out (by trivial);obtain ⟨-,k2,k3⟩:=Zi HBY.out h;rw [HC.out,h2,h3,k2];exact k3)
   clear hC0
   go_wp2_with (refine Ae rfl 114 _ _ rfl g #[.bool false,.slice none 0 0] rfl rfl 114 _ HX3.out (by kernel_rfl) rfl (by simp [Value.oneCell']) ?_)
   intro w4 hr4 hg4;have HB4:Hid (Below w.heap.size w w4):=hid (HB3.out.grown hg4 HB3.out.size fun k hk=>by have:=HG.out;cases hk;omega);have HR4:=hid hr4;clear hr4 hg4
   go_wp2_with fail
   refine bodyPost_ret (v:=.tuple #[.agg #[.bool false,.slice none 0 0],.int .i64 3]) (SS _ _ #[.bool false,.slice none 0 0] _ rfl HR4.out rfl) rfl ?_;rw [HQ.out];exact HBAD.out HD.out _ HB4.out
end Go.Proofs.YtfhdojnobmfefaaGreatDoor
