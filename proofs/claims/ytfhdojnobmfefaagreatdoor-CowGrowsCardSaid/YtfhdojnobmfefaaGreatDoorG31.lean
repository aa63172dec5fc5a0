/- MADE SMALL. -/
import Derived.Test.YtfhdojnobmfefaaGreatDoorG30
import Derived.Deep.CutBlock
namespace Go.Proofs.YtfhdojnobmfefaaGreatDoor
open Go.RowKit Go.Inc
abbrev Ah (x:Value):World->Value->Prop:=fun _ v=>v=x
def Pn (b:Bool) (s:List Bool×Nat) (z:Int):List Bool×Nat:=
 if 0<=z/\z < s.1.length/\FV s.1 z≠b then (s.1.set z.toNat b,s.2+1) else s
def Bh (b:Bool) (m:List Bool) (zs:List Int):Nat->List Bool×Nat
 | 0=>(m,0)
 | k+1=>Pn b (Bh b m zs k) (zs.getD k 0)
theorem X5 (b:Bool) (s:List Bool×Nat) (z:Int):(Pn b s z).1.length=s.1.length:=by
 unfold Pn;split
 ·simp
 ·rfl
theorem Dy (b:Bool) (m:List Bool) (zs:List Int):∀ k,(Bh b m zs k).1.length=m.length
 | 0=>rfl
 | k+1=>by unfold Bh;rw [X5,Dy b m zs k]
theorem X6 (b:Bool) (s:List Bool×Nat) (z:Int):(Pn b s z).2<=s.2+1:=by
 unfold Pn;split
 ·exact Nat.le_refl _
 ·exact Nat.le_succ _
theorem J8 (b:Bool) (m:List Bool) (zs:List Int):∀ k,(Bh b m zs k).2<=k
 | 0=>Nat.le_refl _
 | k+1=>by have:=J8 b m zs k;have:=X6 b (Bh b m zs k) (zs.getD k 0);unfold Bh;omega
theorem XY {F:Nat->Prop} {ok:Nat->Prop} {w w':World} {p:Option Addr} {zs:List Int} (h:Si ok w p zs) (hm:Mv F w w') (hk:∀ i,ok i->¬ F i):Si ok w' p zs:=
 h.kept fun i hi hlt=>hm.block i hlt (hk i hi)
theorem DW {F:Nat->Prop} {a w:World} (h:Mv F a w) {g q:Nat} (hg:F g) (u:Value):Mv F a (w.setCell ⟨g,q,none⟩ u):=
 h.trans' ⟨rfl,rfl,rfl,by simp [World.setCell],fun i _ hn=>Below.heap_setCell _ _ _ _ (fun e=>hn e)⟩ fun i _ (hf:i=g)=>by subst hf;exact hg
set_option maxRecDepth 20000 in
set_option maxHeartbeats 4000000 in
theorem NR (ok:Nat->Prop) (b g c:Nat) (m:List Bool) (W:List Nat) (a:Option Addr) (cz:Nat) (zs:List Int) (w:World) (h:BmAt w b g c m.length W) (hbits:∀ i,BF W i=inB m i) (hz:Si ok w a zs) (hok:∀ i,ok i->i≠g) (hl:(zs.length:Int)<=9223372036854775807) :
  Calls Tryz.prog 71 #[.pointer (some ⟨b,0,none⟩),.slice a zs.length cz] w fun e w'=>e=.returned (.int .i64 ((Bh true m zs zs.length).2:Int))/\(∃ W',BmAt w' b g c m.length W'/\∀ i,BF W' i=inB (Bh true m zs zs.length).1 i)/\Mv (fun i=>i=g) w w':=by
 have HZ:=hid hz;have HA:=hid (And.intro h hbits);have HOK:=hid hok;obtain ⟨n,hn⟩:∃ n,n=zs.length:=⟨_,rfl⟩
 have HN:=hid hn;obtain ⟨S,hS⟩:∃ S,S=m.length:=⟨_,rfl⟩
 have HS:=hid hS;have hs2:(S:Int)<=2048:=by have:=h.s2;omega
 rw [<- hn] at hl ⊢;rw [<- hS];clear hz hn h hbits hok hS
 go_enter Tryz.func71,Tryz.ntmps71
 go_wp2_with fail
 go_loopw [5,10] (fun t i wr=>∃ (k:Nat) (V:List Nat),k<=n/\t=.int .i64 ((Bh true m zs k).2:Int)/\i=.int .i64 (k:Int)/\BmAt wr b g c S V/\(∀ i,BF V i=inB (Bh true m zs k).1 i)/\Mv (fun i=>i=g) w wr) (fun _ i _=>n - (intOf i).toNat)
 case atStart=>exact ⟨0,W,Nat.zero_le _,rfl,rfl,by rw [HS.out];exact HA.out.1,HA.out.2,Mv.refl _ _⟩
 case round=>
  obtain ⟨k,V,hk,rfl,rfl,hat,hb,hmv⟩:=hrel;have HAT:=hid hat;have HBT:=hid hb;have HMV:=hid hmv;have hcnt:=J8 true m zs k;obtain ⟨cnt,hc0⟩:∃ cnt,cnt=(Bh true m zs k).2:=⟨_,rfl⟩
  obtain ⟨mk,hmk⟩:∃ mk,mk=(Bh true m zs k).1:=⟨_,rfl⟩
  have HC0:=hid hc0;have HMK:=hid hmk;rw [<- hc0] at hcnt ⊢;have hlk:mk.length=S:=by rw [hmk,Dy,HS.out]
  have HLK:=hid hlk;have HBM:Hid (Bm (fun _=>True) wr (.pointer (some ⟨b,0,none⟩)) mk):=hid (.inr ⟨b,g,c,V,rfl,trivial,trivial,by rw [hlk];exact hat,by rw [hmk];exact hb⟩);clear hat hb hmv HA hc0 hmk;by_cases hlt:(k:Int) < n
  ·obtain ⟨b0,o0,rfl,hc⟩:∃ b0 o0,a=some ⟨b0,o0,none⟩/\wr.cell? ⟨b0,o0+k,none⟩=some (.int .i64 (zs.getD k 0)):=by
    rcases XY HZ.out HMV.out HOK.out with h | ⟨b0,o0,h,_,hc⟩
    ·have:=HN.out;rw [h] at this;simp at this;omega
    ·exact ⟨b0,o0,h,hc k (by have:=HN.out;omega)⟩
   obtain ⟨z,hz⟩:∃ z,z=zs.getD k 0:=⟨_,rfl⟩
   have HSTEP:Hid (Bh true m zs (k+1)=if 0<=z/\z < S/\FV mk z≠true then (mk.set z.toNat true,cnt+1) else (mk,cnt)):=hid (by
    have e:Bh true m zs k=(mk,cnt):=by rw [HMK.out,HC0.out]
    rw [<- hlk,hz]
    conv=>lhs;unfold Bh
    rw [e];rfl)
   rw [<- hz] at hc;have hkn:(k < n)=True:=eq_true (by omega);clear hz hlk;by_cases hin:0<=z/\z < S
   ·have HM:Hid (Calls Tryz.prog 118 #[.pointer (some ⟨b,0,none⟩),.int .i64 z] wr fun e w'=>e=.returned (.bool true)/\wr=w'):=hid ((Eh _ _ mk z wr HBM.out).mono fun _ _ h=>⟨by rw [h.1,HLK.out,decide_eq_true hin.1,decide_eq_true hin.2];rfl,h.2⟩);have HH:Hid (Calls Tryz.prog 74 #[.pointer (some ⟨b,0,none⟩),.int .i64 z] wr fun e w'=>e=.returned (.bool (FV mk z))/\Below wr.heap.size wr w'):=hid (Fq _ _ mk z wr HBM.out);obtain ⟨x,rfl⟩:=Int.eq_ofNat_of_zero_le hin.1;have hxS:x < S:=by omega
    by_cases hhas:FV mk (x:Int)=true
    ·rw [hhas] at HH;have HT:Hid (Bh true m zs (k+1)=(mk,cnt)):=hid (by rw [HSTEP.out,if_neg (by rw [hhas];simp)]);clear HSTEP hhas hin HBM
     go_wp2_with fail
     refine HM.out.mono ?_;rintro e w1 ⟨rfl,rfl⟩
     go_wp2_with fail
     refine HH.out.mono ?_;rintro e w2 ⟨rfl,hb2⟩;have HAT9:=hid (HAT.out.below hb2);have HMV9:=hid (HMV.out.trans (Mv.of_below hb2));clear hb2 HAT HMV HM HH
     go_wp2_with fail
     go_roundw
     case rel=>exact ⟨k+1,V,by omega,by rw [HT.out],by go_num,HAT9.out,by rw [HT.out,HMK.out];exact HBT.out,HMV9.out⟩
     case measure=>simp [intOf];omega
    ·have hhas:FV mk (x:Int)=false:=Bool.eq_false_iff.2 hhas;rw [hhas] at HH;have HT:Hid (Bh true m zs (k+1)=(mk.set x true,cnt+1)):=hid (by rw [HSTEP.out,if_pos ⟨hin.1,hin.2,by rw [hhas];simp⟩];rfl);clear HSTEP hhas hin HBM
     go_wp2_with fail
     refine HM.out.mono ?_;rintro e w1 ⟨rfl,rfl⟩
     go_wp2_with fail
     refine HH.out.mono ?_;rintro e w2 ⟨rfl,hb2⟩;have HAT9:=hid (HAT.out.below hb2);have HMV9:=hid (HMV.out.trans (Mv.of_below hb2));clear hb2 HAT HMV HM HH;obtain ⟨q,hq⟩:∃ q,q=x / 64:=⟨_,rfl⟩
     have hqn0:q < V.length:=by have:=HAT9.out.len;omega
     obtain ⟨nw,hnw⟩:∃ nw,nw=V.length:=⟨_,rfl⟩
     obtain ⟨u,hu⟩:∃ u,u=V.getD q 0:=⟨_,rfl⟩
     obtain ⟨p,hp⟩:∃ p,p=2 ^ (x % 64):=⟨_,rfl⟩
     obtain ⟨y,hy⟩:∃ y,y=u ||| p:=⟨_,rfl⟩
     have hu64:u < 18446744073709551616:=by rw [hu];exact Ee HAT9.out.fits q
     have hp64:p < 18446744073709551616:=by rw [hp];exact Ic x
     have hy64:y < 18446744073709551616:=by rw [hy];exact UW hu64 hp64
     have hop:bits .or .u64 (u:Int) (p:Int)=(y:Int):=by rw [hy];exact u64_or_nat u p hu64 hp64
     have HP:Hid (∀ z,Calls Tryz.prog 117 #[.int .i64 (x:Int)] z fun e w'=>e=.returned (.int .u64 (p:Int))/\z=w'):=hid fun z=>by rw [hp];exact PZ x z (by omega)
     have HC:Hid (∀ z,Grew w2.drew z->z.cell? ⟨b,1,none⟩=some (.slice (some ⟨g,0,none⟩) nw c)/\z.cell? ⟨g,q,none⟩=some (.int .u64 (u:Int))/\z.frozen? ⟨g,q,none⟩=false):=hid fun z hz=>by
      have hbz:Below w2.heap.size w2 z:=⟨hz.os,hz.tape,hz.output,hz.size,hz.block⟩
      have h:=HAT9.out.below hbz;exact ⟨by rw [hnw];exact h.hw,by rw [hu];exact h.cell hqn0,h.row.frozenAt q⟩
     have HNEW:Hid (∀ z,Grew w2.drew z->BmAt (z.setCell ⟨g,q,none⟩ (.int .u64 (y:Int))) b g c S (V.set q y)/\Mv (fun i=>i=g) w (z.setCell ⟨g,q,none⟩ (.int .u64 (y:Int)))):=hid fun z hz=>by
      have hbz:Below w2.heap.size w2 z:=⟨hz.os,hz.tape,hz.output,hz.size,hz.block⟩
      exact ⟨(HAT9.out.below hbz).put q hy64,DW (HMV9.out.trans (Mv.of_below hbz)) rfl _⟩
     have HBITS:Hid (∀ i,BF (V.set q y) i=inB (mk.set x true) i):=hid fun i=>by
      have e:=XB (i:=x) (by rw [<- hq];exact hqn0) i;rw [<- hq,<- hu,<- hp,<- hy] at e;rw [e,IL (by rw [HLK.out];exact hxS),HBT.out i,HMK.out];by_cases hix:i=x<;>simp [hix]
     have hqi:(x:Int) / 64=(q:Int):=by omega
     have hqn:(q:Int) < (nw:Int):=by omega
     have hq32:(q:Int) < 32:=by omega
     have hqw:IntKind.i64.wrap (q:Int)=(q:Int):=by rw [IntKind.wrap_i64];omega
     clear hq hnw hu hp hy hu64 hp64 hy64 hqn0 HBT HAT9 HMV9
     go_upto_region 6 with fail
     refine Ai 12 [Ah (.pointer (some ⟨b,0,none⟩)),Ah (.pointer (some ⟨b,0,none⟩)),Ah (.pointer (some ⟨b,1,none⟩)),Ah (.slice (some ⟨g,0,none⟩) nw c),Ah (.int .i64 (x:Int)),Ah (.int .i64 (q:Int)),Ah (.pointer (some ⟨g,q,none⟩)),Ah (.int .u64 (u:Int)),Ah (.int .i64 (x:Int)),Ah (.int .u64 (p:Int)),Ah (.int .u64 (y:Int)),Ah (.pointer (some ⟨g,q,none⟩))] (by kernel_rfl) (by decide) (by kernel_rfl) ?_ ?_ ?_
     ·repeat' (first | exact List.forall_mem_nil _ | refine List.forall_mem_cons.2 ⟨?_,?_⟩)
      all_goals
       intro w w' v hw h;exact h
     ·simp only [AllLt];refine ⟨⟨⟨⟨⟨⟨⟨⟨⟨⟨⟨⟨trivial,?_⟩,?_⟩,?_⟩,?_⟩,?_⟩,?_⟩,?_⟩,?_⟩,?_⟩,?_⟩,?_⟩,?_⟩
      all_goals
       intro o' ho;simp at ho;subst ho;intro ρ w2 hR hL hS hG;obtain ⟨hl1,hl2,-⟩:=hL
      ·refine Aa rfl ?_;intro bA K Q' hK;have e0:=hS 0 (by kernel_rfl);change ρ (.tmp 0)=_ at e0;simp only [execOp];go_simp;exact hK _ _ rfl (Grew.refl _)
      ·refine Aa rfl ?_;intro bA K Q' hK;have e23:=apG (hG 0 23);change ρ (.tmp 23)=_ at e23;simp only [execOp];go_simp;exact hK _ _ rfl (Grew.refl _)
      ·refine Aa rfl ?_;intro bA K Q' hK;have e24:=apG (hG 1 24);change ρ (.tmp 24)=_ at e24;simp only [execOp];go_simp;exact hK _ _ rfl (Grew.refl _)
      ·refine Aa rfl ?_;intro bA K Q' hK;have e25:=apG (hG 2 25);change ρ (.tmp 25)=_ at e25;obtain ⟨x0,x1,-⟩:=HC.out w2 hR;simp only [execOp];go_simp;exact hK _ _ rfl (Grew.refl _)
      ·refine Aa rfl ?_;intro bA K Q' hK;have e7:=hS 7 (by kernel_rfl);change ρ (.tmp 7)=_ at e7;simp only [execOp];go_simp;exact hK _ _ rfl (Grew.refl _)
      ·refine Aa rfl ?_;intro bA K Q' hK;have e27:=apG (hG 4 27);change ρ (.tmp 27)=_ at e27;simp only [execOp];go_simp;exact hK _ _ rfl (Grew.refl _)
      ·refine Aa rfl ?_;intro bA K Q' hK;have e26:=apG (hG 3 26);have e28:=apG (hG 5 28);change ρ (.tmp 26)=_ at e26;change ρ (.tmp 28)=_ at e28;simp only [execOp];go_simp;exact hK _ _ rfl (Grew.refl _)
      ·refine Aa rfl ?_;intro bA K Q' hK;have e29:=apG (hG 6 29);change ρ (.tmp 29)=_ at e29;obtain ⟨x0,x1,-⟩:=HC.out w2 hR;simp only [execOp];go_simp;exact hK _ _ rfl (Grew.refl _)
      ·refine Aa rfl ?_;intro bA K Q' hK;have e7:=hS 7 (by kernel_rfl);change ρ (.tmp 7)=_ at e7;simp only [execOp];go_simp;exact hK _ _ rfl (Grew.refl _)
      ·refine Aa rfl ?_;intro bA K Q' hK;have e31:=apG (hG 8 31);change ρ (.tmp 31)=_ at e31;simp only [execOp];go_simp;refine (HP.out w2).mono ?_;rintro r9 w9 ⟨rfl,rfl⟩;exact hK _ _ rfl (Grew.refl _)
      ·refine Aa rfl ?_;intro bA K Q' hK;have e30:=apG (hG 7 30);have e32:=apG (hG 9 32);change ρ (.tmp 30)=_ at e30;change ρ (.tmp 32)=_ at e32;simp only [execOp];go_simp;exact hK _ _ rfl (Grew.refl _)
      ·refine Aa rfl ?_;intro bA K Q' hK;have e26:=apG (hG 3 26);have e28:=apG (hG 5 28);change ρ (.tmp 26)=_ at e26;change ρ (.tmp 28)=_ at e28;simp only [execOp];go_simp;exact hK _ _ rfl (Grew.refl _)
     ·intro v w3 hR hG;have h10:v 10=.int .u64 (y:Int):=hG.1.2;have h11:v 11=.pointer (some ⟨g,q,none⟩):=hG.2;obtain ⟨x0,x1,x2⟩:=HC.out w3 hR;have HX:=hid (HNEW.out w3 hR);clear hG hR HC HNEW HP;simp [stG,stU,Au,Act.put,h10,h11]
      go_wp2_with fail
      go_roundw
      case rel=>exact ⟨k+1,V.set q y,by omega,by rw [HT.out];go_num,by go_num,HX.out.1,by rw [HT.out];exact HBITS.out,HX.out.2⟩
      case measure=>simp [intOf];omega
   ·have HM:Hid (Calls Tryz.prog 118 #[.pointer (some ⟨b,0,none⟩),.int .i64 z] wr fun e w'=>e=.returned (.bool false)/\wr=w'):=hid ((Eh _ _ mk z wr HBM.out).mono fun _ _ h=>⟨by rw [h.1,HLK.out];congr 2;rw [<- Bool.not_eq_true];simpa using hin,h.2⟩);have HT:Hid (Bh true m zs (k+1)=(mk,cnt)):=hid (by rw [HSTEP.out,if_neg (fun h=>hin ⟨h.1,h.2.1⟩)]);clear HSTEP hin HBM
    go_wp2_with fail
    refine HM.out.mono ?_;rintro e w1 ⟨rfl,rfl⟩
    go_wp2_with fail
    go_roundw
    case rel=>exact ⟨k+1,V,by omega,by rw [HT.out],by go_num,HAT.out,by rw [HT.out,HMK.out];exact HBT.out,HMV.out⟩
    case measure=>simp [intOf];omega
  ·have hkf:(k < n)=False:=eq_false (by omega);have HKN:Hid (k=n):=hid (by omega);clear hlt HBM
   go_wp2_with fail
   go_ret
   exact ⟨by rw [<- HKN.out,<- HC0.out];rfl,⟨V,HAT.out,by rw [<- HKN.out];exact HBT.out⟩,HMV.out⟩
set_option maxRecDepth 20000 in
set_option maxHeartbeats 4000000 in
theorem Zb (ok:Nat->Prop) (b g c:Nat) (m:List Bool) (W:List Nat) (a:Option Addr) (cz:Nat) (zs:List Int) (w:World) (h:BmAt w b g c m.length W) (hbits:∀ i,BF W i=inB m i) (hz:Si ok w a zs) (hok:∀ i,ok i->i≠g) (hl:(zs.length:Int)<=9223372036854775807) :
  Calls Tryz.prog 70 #[.pointer (some ⟨b,0,none⟩),.slice a zs.length cz] w fun e w'=>e=.returned (.int .i64 ((Bh false m zs zs.length).2:Int))/\(∃ W',BmAt w' b g c m.length W'/\∀ i,BF W' i=inB (Bh false m zs zs.length).1 i)/\Mv (fun i=>i=g) w w':=by
 have HZ:=hid hz;have HA:=hid (And.intro h hbits);have HOK:=hid hok;obtain ⟨n,hn⟩:∃ n,n=zs.length:=⟨_,rfl⟩
 have HN:=hid hn;obtain ⟨S,hS⟩:∃ S,S=m.length:=⟨_,rfl⟩
 have HS:=hid hS;have hs2:(S:Int)<=2048:=by have:=h.s2;omega
 rw [<- hn] at hl ⊢;rw [<- hS];clear hz hn h hbits hok hS
 go_enter Tryz.func70,Tryz.ntmps70
 go_wp2_with fail
 go_loopw [5,10] (fun t i wr=>∃ (k:Nat) (V:List Nat),k<=n/\t=.int .i64 ((Bh false m zs k).2:Int)/\i=.int .i64 (k:Int)/\BmAt wr b g c S V/\(∀ i,BF V i=inB (Bh false m zs k).1 i)/\Mv (fun i=>i=g) w wr) (fun _ i _=>n - (intOf i).toNat)
 case atStart=>exact ⟨0,W,Nat.zero_le _,rfl,rfl,by rw [HS.out];exact HA.out.1,HA.out.2,Mv.refl _ _⟩
 case round=>
  obtain ⟨k,V,hk,rfl,rfl,hat,hb,hmv⟩:=hrel;have HAT:=hid hat;have HBT:=hid hb;have HMV:=hid hmv;have hcnt:=J8 false m zs k;obtain ⟨cnt,hc0⟩:∃ cnt,cnt=(Bh false m zs k).2:=⟨_,rfl⟩
  obtain ⟨mk,hmk⟩:∃ mk,mk=(Bh false m zs k).1:=⟨_,rfl⟩
  have HC0:=hid hc0;have HMK:=hid hmk;rw [<- hc0] at hcnt ⊢;have hlk:mk.length=S:=by rw [hmk,Dy,HS.out]
  have HLK:=hid hlk;have HBM:Hid (Bm (fun _=>True) wr (.pointer (some ⟨b,0,none⟩)) mk):=hid (.inr ⟨b,g,c,V,rfl,trivial,trivial,by rw [hlk];exact hat,by rw [hmk];exact hb⟩);clear hat hb hmv HA hc0 hmk;by_cases hlt:(k:Int) < n
  ·obtain ⟨b0,o0,rfl,hc⟩:∃ b0 o0,a=some ⟨b0,o0,none⟩/\wr.cell? ⟨b0,o0+k,none⟩=some (.int .i64 (zs.getD k 0)):=by
    rcases XY HZ.out HMV.out HOK.out with h | ⟨b0,o0,h,_,hc⟩
    ·have:=HN.out;rw [h] at this;simp at this;omega
    ·exact ⟨b0,o0,h,hc k (by have:=HN.out;omega)⟩
   obtain ⟨z,hz⟩:∃ z,z=zs.getD k 0:=⟨_,rfl⟩
   have HSTEP:Hid (Bh false m zs (k+1)=if 0<=z/\z < S/\FV mk z≠false then (mk.set z.toNat false,cnt+1) else (mk,cnt)):=hid (by
    have e:Bh false m zs k=(mk,cnt):=by rw [HMK.out,HC0.out]
    rw [<- hlk,hz]
    conv=>lhs;unfold Bh
    rw [e];rfl)
   rw [<- hz] at hc;have hkn:(k < n)=True:=eq_true (by omega);clear hz hlk;have HH:Hid (Calls Tryz.prog 74 #[.pointer (some ⟨b,0,none⟩),.int .i64 z] wr fun e w'=>e=.returned (.bool (FV mk z))/\Below wr.heap.size wr w'):=hid (Fq _ _ mk z wr HBM.out);by_cases hhas:FV mk z=true
   ·have hin:0<=z/\z < mk.length:=by
     by_cases h:0<=z/\z < mk.length
     ·exact h
     ·rw [QX h] at hhas;cases hhas
    rw [HLK.out] at hin;obtain ⟨x,rfl⟩:=Int.eq_ofNat_of_zero_le hin.1;have hxS:x < S:=by omega
    rw [hhas] at HH;have HT:Hid (Bh false m zs (k+1)=(mk.set x false,cnt+1)):=hid (by rw [HSTEP.out,if_pos ⟨hin.1,hin.2,by rw [hhas];simp⟩];rfl);clear HSTEP hhas hin HBM
    go_wp2_with fail
    refine HH.out.mono ?_;rintro e w2 ⟨rfl,hb2⟩;have HAT9:=hid (HAT.out.below hb2);have HMV9:=hid (HMV.out.trans (Mv.of_below hb2));clear hb2 HAT HMV HH;obtain ⟨q,hq⟩:∃ q,q=x / 64:=⟨_,rfl⟩
    have hqn0:q < V.length:=by have:=HAT9.out.len;omega
    obtain ⟨nw,hnw⟩:∃ nw,nw=V.length:=⟨_,rfl⟩
    obtain ⟨u,hu⟩:∃ u,u=V.getD q 0:=⟨_,rfl⟩
    obtain ⟨p,hp⟩:∃ p,p=2 ^ (x % 64):=⟨_,rfl⟩
    obtain ⟨y,hy⟩:∃ y,y=u &&& (18446744073709551615 - p):=⟨_,rfl⟩
    have hu64:u < 18446744073709551616:=by rw [hu];exact Ee HAT9.out.fits q
    have hp64:p < 18446744073709551616:=by rw [hp];exact Ic x
    have hy64:y < 18446744073709551616:=by rw [hy];exact RI hu64 _
    have hop:bits .andNot .u64 (u:Int) (p:Int)=(y:Int):=by rw [hy];exact u64_andNot_nat u p hu64 hp64
    have HP:Hid (∀ z,Calls Tryz.prog 117 #[.int .i64 (x:Int)] z fun e w'=>e=.returned (.int .u64 (p:Int))/\z=w'):=hid fun z=>by rw [hp];exact PZ x z (by omega)
    have HC:Hid (∀ z,Grew w2.drew z->z.cell? ⟨b,1,none⟩=some (.slice (some ⟨g,0,none⟩) nw c)/\z.cell? ⟨g,q,none⟩=some (.int .u64 (u:Int))/\z.frozen? ⟨g,q,none⟩=false):=hid fun z hz=>by
     have hbz:Below w2.heap.size w2 z:=⟨hz.os,hz.tape,hz.output,hz.size,hz.block⟩
     have h:=HAT9.out.below hbz;exact ⟨by rw [hnw];exact h.hw,by rw [hu];exact h.cell hqn0,h.row.frozenAt q⟩
    have HNEW:Hid (∀ z,Grew w2.drew z->BmAt (z.setCell ⟨g,q,none⟩ (.int .u64 (y:Int))) b g c S (V.set q y)/\Mv (fun i=>i=g) w (z.setCell ⟨g,q,none⟩ (.int .u64 (y:Int)))):=hid fun z hz=>by
     have hbz:Below w2.heap.size w2 z:=⟨hz.os,hz.tape,hz.output,hz.size,hz.block⟩
     exact ⟨(HAT9.out.below hbz).put q hy64,DW (HMV9.out.trans (Mv.of_below hbz)) rfl _⟩
    have HBITS:Hid (∀ i,BF (V.set q y) i=inB (mk.set x false) i):=hid fun i=>by
     have e:=VA HAT9.out.fits (i:=x) (by rw [<- hq];exact hqn0) i;rw [<- hq,<- hu,<- hp,<- hy] at e;rw [e,IL (by rw [HLK.out];exact hxS),HBT.out i,HMK.out];by_cases hix:i=x<;>simp [hix]
    have hqi:(x:Int) / 64=(q:Int):=by omega
    have hqn:(q:Int) < (nw:Int):=by omega
    have hq32:(q:Int) < 32:=by omega
    have hqw:IntKind.i64.wrap (q:Int)=(q:Int):=by rw [IntKind.wrap_i64];omega
    clear hq hnw hu hp hy hu64 hp64 hy64 hqn0 HBT HAT9 HMV9
    go_upto_region 6 with fail
    refine Ai 12 [Ah (.pointer (some ⟨b,0,none⟩)),Ah (.pointer (some ⟨b,0,none⟩)),Ah (.pointer (some ⟨b,1,none⟩)),Ah (.slice (some ⟨g,0,none⟩) nw c),Ah (.int .i64 (x:Int)),Ah (.int .i64 (q:Int)),Ah (.pointer (some ⟨g,q,none⟩)),Ah (.int .u64 (u:Int)),Ah (.int .i64 (x:Int)),Ah (.int .u64 (p:Int)),Ah (.int .u64 (y:Int)),Ah (.pointer (some ⟨g,q,none⟩))] (by kernel_rfl) (by decide) (by kernel_rfl) ?_ ?_ ?_
    ·repeat' (first | exact List.forall_mem_nil _ | refine List.forall_mem_cons.2 ⟨?_,?_⟩)
     all_goals
      intro w w' v hw h;exact h
    ·simp only [AllLt];refine ⟨⟨⟨⟨⟨⟨⟨⟨⟨⟨⟨⟨trivial,?_⟩,?_⟩,?_⟩,?_⟩,?_⟩,?_⟩,?_⟩,?_⟩,?_⟩,?_⟩,?_⟩,?_⟩
     all_goals
      intro o' ho;simp at ho;subst ho;intro ρ w2 hR hL hS hG;obtain ⟨hl1,hl2,-⟩:=hL
     ·refine Aa rfl ?_;intro bA K Q' hK;have e0:=hS 0 (by kernel_rfl);change ρ (.tmp 0)=_ at e0;simp only [execOp];go_simp;exact hK _ _ rfl (Grew.refl _)
     ·refine Aa rfl ?_;intro bA K Q' hK;have e17:=apG (hG 0 17);change ρ (.tmp 17)=_ at e17;simp only [execOp];go_simp;exact hK _ _ rfl (Grew.refl _)
     ·refine Aa rfl ?_;intro bA K Q' hK;have e18:=apG (hG 1 18);change ρ (.tmp 18)=_ at e18;simp only [execOp];go_simp;exact hK _ _ rfl (Grew.refl _)
     ·refine Aa rfl ?_;intro bA K Q' hK;have e19:=apG (hG 2 19);change ρ (.tmp 19)=_ at e19;obtain ⟨x0,x1,-⟩:=HC.out w2 hR;simp only [execOp];go_simp;exact hK _ _ rfl (Grew.refl _)
     ·refine Aa rfl ?_;intro bA K Q' hK;have e7:=hS 7 (by kernel_rfl);change ρ (.tmp 7)=_ at e7;simp only [execOp];go_simp;exact hK _ _ rfl (Grew.refl _)
     ·refine Aa rfl ?_;intro bA K Q' hK;have e21:=apG (hG 4 21);change ρ (.tmp 21)=_ at e21;simp only [execOp];go_simp;exact hK _ _ rfl (Grew.refl _)
     ·refine Aa rfl ?_;intro bA K Q' hK;have e20:=apG (hG 3 20);have e22:=apG (hG 5 22);change ρ (.tmp 20)=_ at e20;change ρ (.tmp 22)=_ at e22;simp only [execOp];go_simp;exact hK _ _ rfl (Grew.refl _)
     ·refine Aa rfl ?_;intro bA K Q' hK;have e23:=apG (hG 6 23);change ρ (.tmp 23)=_ at e23;obtain ⟨x0,x1,-⟩:=HC.out w2 hR;simp only [execOp];go_simp;exact hK _ _ rfl (Grew.refl _)
     ·refine Aa rfl ?_;intro bA K Q' hK;have e7:=hS 7 (by kernel_rfl);change ρ (.tmp 7)=_ at e7;simp only [execOp];go_simp;exact hK _ _ rfl (Grew.refl _)
     ·refine Aa rfl ?_;intro bA K Q' hK;have e25:=apG (hG 8 25);change ρ (.tmp 25)=_ at e25;simp only [execOp];go_simp;refine (HP.out w2).mono ?_;rintro r9 w9 ⟨rfl,rfl⟩;exact hK _ _ rfl (Grew.refl _)
     ·refine Aa rfl ?_;intro bA K Q' hK;have e24:=apG (hG 7 24);have e26:=apG (hG 9 26);change ρ (.tmp 24)=_ at e24;change ρ (.tmp 26)=_ at e26;simp only [execOp];go_simp;exact hK _ _ rfl (Grew.refl _)
     ·refine Aa rfl ?_;intro bA K Q' hK;have e20:=apG (hG 3 20);have e22:=apG (hG 5 22);change ρ (.tmp 20)=_ at e20;change ρ (.tmp 22)=_ at e22;simp only [execOp];go_simp;exact hK _ _ rfl (Grew.refl _)
    ·intro v w3 hR hG;have h10:v 10=.int .u64 (y:Int):=hG.1.2;have h11:v 11=.pointer (some ⟨g,q,none⟩):=hG.2;obtain ⟨x0,x1,x2⟩:=HC.out w3 hR;have HX:=hid (HNEW.out w3 hR);clear hG hR HC HNEW HP;simp [stG,stU,Au,Act.put,h10,h11]
     go_wp2_with fail
     go_roundw
     case rel=>exact ⟨k+1,V.set q y,by omega,by rw [HT.out];go_num,by go_num,HX.out.1,by rw [HT.out];exact HBITS.out,HX.out.2⟩
     case measure=>simp [intOf];omega
   ·have hhas:FV mk z=false:=Bool.eq_false_iff.2 hhas;rw [hhas] at HH;have HT:Hid (Bh false m zs (k+1)=(mk,cnt)):=hid (by rw [HSTEP.out,if_neg (by rw [hhas];simp)]);clear HSTEP hhas HBM
    go_wp2_with fail
    refine HH.out.mono ?_;rintro e w2 ⟨rfl,hb2⟩;have HAT9:=hid (HAT.out.below hb2);have HMV9:=hid (HMV.out.trans (Mv.of_below hb2));clear hb2 HAT HMV HH
    go_wp2_with fail
    go_roundw
    case rel=>exact ⟨k+1,V,by omega,by rw [HT.out],by go_num,HAT9.out,by rw [HT.out,HMK.out];exact HBT.out,HMV9.out⟩
    case measure=>simp [intOf];omega
  ·have hkf:(k < n)=False:=eq_false (by omega);have HKN:Hid (k=n):=hid (by omega);clear hlt HBM
   go_wp2_with fail
   go_ret
   exact ⟨by rw [<- HKN.out,<- HC0.out];rfl,⟨V,HAT.out,by rw [<- HKN.out];exact HBT.out⟩,HMV.out⟩
end Go.Proofs.YtfhdojnobmfefaaGreatDoor
namespace Go.Proofs.YtfhdojnobmfefaaGreatDoor
open Go.RowKit Go.Inc
theorem U9:(Tryz.prog.info? 24).map (fun i=>(i.zero,i.size,i.bytes))=some (some (.int .u64 0),1,8):=by kernel_rfl
theorem U3 (n:Nat):(madeCells #[Value.int .u64 0] n).toList=D5 (List.replicate n 0):=by
 apply List.ext_getElem?;intro i;by_cases h:i < n
 ·simp [madeCells,D5,h,Nat.mod_one]
 ·simp [madeCells,D5,h]
def NewSet (W0:Nat) (w':World) (v:Value) (m:List Bool):Prop:=
 ∃ b g c W,v=.pointer (some ⟨b,0,none⟩)/\W0<=b/\W0<=g/\BmAt w' b g c m.length W/\∀ i,BF W i=inB m i
theorem NewSet.bm {W0:Nat} {w':World} {v:Value} {m:List Bool} (h:NewSet W0 w' v m):Bm (fun b=>W0<=b) w' v m:=.inr h
theorem NewSet.below {W0:Nat} {w' w2:World} {v:Value} {m:List Bool} (h:NewSet W0 w' v m) (hb:Below w'.heap.size w' w2):NewSet W0 w2 v m:=by
 obtain ⟨b,g,c,W,h1,h2,h3,h4,h5⟩:=h;exact ⟨b,g,c,W,h1,h2,h3,h4.below hb,h5⟩
theorem QI {w0 a b:World} {g:Nat} (h:Below w0.heap.size w0 a) (k:Mv (fun i=>i=g) a b) (hg:w0.heap.size<=g):Below w0.heap.size w0 b:=
 h.trans (k.below h.size fun i hi=>by subst hi;exact hg)
def bI (size:Nat) (zs:List Int):List Bool:=(Bh true (List.replicate size false) zs zs.length).1
theorem Yx (size:Nat) (zs:List Int):(bI size zs).length=size:=by unfold bI;rw [Dy,List.length_replicate]
set_option maxRecDepth 20000 in
set_option maxHeartbeats 1000000 in
theorem bG (ok:Nat->Prop) (size:Nat) (a:Option Addr) (cz:Nat) (zs:List Int) (w:World) (hz:Si ok w a zs) (h1:(1:Int)<=size) (h2:(size:Int)<=2048) (hl:(zs.length:Int)<=9223372036854775807) :
  Calls Tryz.prog 153 #[.int .i64 (size:Int),.slice a zs.length cz] w fun e w'=>(∃ v,e=.returned (.tuple #[v,.int .i64 0])/\NewSet w.heap.size w' v (bI size zs))/\Below w.heap.size w w':=by
 obtain ⟨i0,hi,hz0,hz1,hz2⟩:=info_parts U9;have HI:=hid (And.intro hi (And.intro hz0 (And.intro hz1 hz2)));have HZ:Hid (Si (fun b=>b < w.heap.size) w a zs):=hid (by
  rcases hz with h | ⟨b,o,h1,_,hc⟩
  ·exact .inl h
  ·by_cases h0:zs=[]
   ·exact .inl h0
   ·exact .inr ⟨b,o,h1,AA (hc 0 (List.length_pos_iff.2 h0)),hc⟩)
 obtain ⟨n,hn⟩:∃ n,n=zs.length:=⟨_,rfl⟩
 have HN:=hid hn;rw [<- hn] at hl ⊢;obtain ⟨nw,hnw⟩:∃ nw,nw=(size+63) / 64:=⟨_,rfl⟩
 have HNW:=hid hnw;have hnw32:(nw:Int)<=32:=by omega
 have HP:Hid (∀ z,Calls Tryz.prog 164 #[.int .i64 (size:Int),.int .i64 64] z fun e w'=>e=.returned (.int .i64 (nw:Int))/\z=w'):=hid fun z=>by rw [hnw];exact QA size z (by omega)
 clear hi hz0 hz1 hz2 hz hn hnw
 go_enter Tryz.func153,Tryz.ntmps153
 go_wp2_with fail
 refine (HP.out w).mono ?_;rintro e w0 ⟨rfl,rfl⟩
 go_wp2_with (refine wpList_make_full _ rfl _ _ 186 rfl w.heap.size 24 i0 (.int .u64 0) 1 Tryz.underlying186 HI.out.1 HI.out.2.1 HI.out.2.2.1 .i64 .i64 _ _ nw rfl rfl rfl rfl (by rw [HI.out.2.2.2];omega) (by unfold maxLen;omega) (Nat.le_refl _) ?_)
 intro w1 hown hg;have HR:Hid (w1.ownsRow w.heap.size 24 1 (.slice (some ⟨w.heap.size,0,none⟩) nw nw) nw (D5 (List.replicate nw 0))):=hid (by rw [U3 nw] at hown;exact hown);have HB1:Hid (Below w.heap.size w w1):=hid ⟨hg.os,hg.tape,hg.output,hg.size,fun i hi=>hg.block i hi (by simp)⟩;clear hown hg HI;have HLT:Hid (w.heap.size < w1.heap.size):=hid (by
  have hc:=HR.out.cells (g:=w.heap.size) rfl 0 _ (JY (W:=List.replicate nw 0) (by rw [List.length_replicate];have:=HNW.out;omega));exact AA hc)
 go_wp2_with fail
 have HROW:Hid ((w1.alloc (.cells #[.int .i64 (size:Int),.slice (some ⟨w.heap.size,0,none⟩) nw nw] 188)).heap[w1.heap.size]?=some (.cells #[.int .i64 (size:Int),.slice (some ⟨w.heap.size,0,none⟩) nw nw] 188 (0,0))):=hid (heap_alloc_new w1 _);have HB2:Hid (Below w1.heap.size w1 (w1.alloc (.cells #[.int .i64 (size:Int),.slice (some ⟨w.heap.size,0,none⟩) nw nw] 188))):=hid ((Below.refl _ _).alloc (Nat.le_refl _) _);generalize w1.alloc (.cells #[.int .i64 (size:Int),.slice (some ⟨w.heap.size,0,none⟩) nw nw] 188)=w2 at *
 have HAT:Hid (BmAt w2 w1.heap.size w.heap.size nw size (List.replicate nw 0)):=hid ⟨cell_of_row w2 _ 0 _ _ _ HROW.out,by rw [List.length_replicate];exact cell_of_row w2 _ 1 _ _ _ HROW.out,by
  rw [List.length_replicate];exact Ag (F:=fun _=>False) HR.out (Mv.of_below HB2.out) (fun _ _=>id),by have:=HLT.out;omega,by omega,by omega,by rw [List.length_replicate];exact HNW.out,fun x hx=>by rw [List.mem_replicate] at hx;omega⟩
 have HBB:Hid (Below w.heap.size w w2):=hid (HB1.out.trans (HB2.out.mono HB1.out.size));have hadd:=NR (fun b=>b < w.heap.size) w1.heap.size w.heap.size nw (List.replicate size false) (List.replicate nw 0) a cz zs w2 (by rw [List.length_replicate];exact HAT.out) (fun i=>by rw [Sj,Kv]) ((HZ.out.below HBB.out)) (fun i hi e=>by omega) (by rw [<- HN.out];exact hl);rw [<- HN.out] at hadd;refine hadd.mono ?_;rintro e w3 ⟨rfl,⟨V,hV,hVb⟩,hmv⟩;have HV:=hid (And.intro hV hVb);clear hadd;have HB3:Hid (Below w.heap.size w w3):=hid (QI HBB.out hmv (Nat.le_refl _));clear hV hVb hmv HAT HROW HR HB2 HBB
 go_wp2_with fail
 go_ret2
 exact ⟨⟨_,rfl,_,_,_,V,rfl,by have:=HLT.out;omega,Nat.le_refl _,by rw [Yx];have:=HV.out.1;rwa [List.length_replicate] at this,by unfold bI;rw [<- HN.out];exact HV.out.2⟩,HB3.out⟩
end Go.Proofs.YtfhdojnobmfefaaGreatDoor
namespace Go.Proofs.YtfhdojnobmfefaaGreatDoor
open Go.RowKit Go.Inc
def Cut (size:Nat) (V V':List Nat):Prop:=∀ i,BF V' i=(decide (i < size) && BF V i)
def gB (size:Nat) (V:List Nat) (t:Bool):Prop:=(t=false/\∀ i,size<=i->BF V i=false)\/(t=true/\∃ i,size<=i/\BF V i=true)
theorem Jw {V:List Nat} {i:Nat} (h:V.length * 64<=i):BF V i=false:=by
 unfold BF;rw [List.getD_eq_getElem?_getD,List.getElem?_eq_none (by omega)];simp
theorem Zk {size:Nat} {V:List Nat} (hl:V.length=(size+63) / 64) (h:size % 64=0):Cut size V V/\gB size V false:=by
 have hf:∀ i,size<=i->BF V i=false:=fun i hi=>Jw (by omega);refine ⟨fun i=>?_,.inl ⟨rfl,hf⟩⟩;by_cases hi:i < size
 ·simp [hi]
 ·rw [hf i (by omega)];simp
theorem dE {size o q x bey:Nat} {V:List Nat} (hl:V.length=(size+63) / 64) (hf:∀ x∈V,x < 18446744073709551616) (ho:o=size % 64) (h0:o≠0) (hq:q=size / 64) (hx:x=V.getD q 0) (hb:bey=x >>> o <<< o) :
  Cut size V (V.set q (x &&& (18446744073709551615 - bey)))/\gB size V (!((bey:Int) == 0)):=by
 have hql:q < V.length:=by omega
 have hx64:x < 18446744073709551616:=by rw [hx];exact Ee hf q
 have hb64:bey < 18446744073709551616:=by have:=O1 x o;rw [hb];omega
 have hw:∀ j,j < 64->BF V (64 * q+j)=x.testBit j:=fun j hj=>by
  unfold BF;rw [show (64 * q+j) / 64=q from by omega,show (64 * q+j) % 64=j from by omega,hx]
 refine ⟨fun i=>?_,?_⟩
 ·rw [J4 hql];by_cases hi:i / 64=q
  ·rw [if_pos hi,NM hx64 hb64,hb,Js];have e:i=64 * q+i % 64:=by omega
   rw [e,hw _ (by omega),<- e];have e2:(i < size)=(i % 64 < o):=propext (by omega);simp only [e2];by_cases hj:i % 64 < o
   ·simp [hj,show ¬ o<=i % 64 from by omega]
   ·have hj2:o<=i % 64:=by omega
    simp [hj,hj2]
  ·rw [if_neg hi];by_cases hi2:i < size
   ·simp [hi2]
   ·rw [Jw (by omega)];simp
 ·by_cases hz:bey=0
  ·refine .inl ⟨by rw [hz];rfl,fun i hi=>?_⟩;by_cases hi2:i / 64=q
   ·have e:i=64 * q+i % 64:=by omega
    rw [e,hw _ (by omega)];have hbb:=Js x o (i % 64);rw [<- hb,hz,Nat.zero_testBit,decide_eq_true (show o<=i % 64 by omega),Bool.true_and] at hbb;exact hbb.symm
   ·exact Jw (by omega)
  ·refine .inr ⟨by have:((bey:Int) == 0)=false:=by rw [beq_eq_false_iff_ne];omega
                   rw [this];rfl,?_⟩
   obtain ⟨j,hj⟩:=Nat.exists_testBit_of_ne_zero hz;rw [hb,Js] at hj;simp only [Bool.and_eq_true,decide_eq_true_eq] at hj;have hj64:=Tm hx64 hj.2;exact ⟨64 * q+j,by omega,by rw [hw j hj64];exact hj.2⟩
set_option maxRecDepth 20000 in
set_option maxHeartbeats 1000000 in
theorem XD (b g c size:Nat) (V:List Nat) (w:World) (h:BmAt w b g c size V) :
  Calls Tryz.prog 156 #[.pointer (some ⟨b,0,none⟩)] w fun e w'=>(∃ t V',e=.returned (.bool t)/\BmAt w' b g c size V'/\Cut size V V'/\gB size V t)/\Mv (fun i=>i=g) w w':=by
 have HAT:=hid h;have hc0:=h.hsz;have hs2:(size:Int)<=2048:=by have:=h.s2;omega
 obtain ⟨o,ho⟩:∃ o,o=size % 64:=⟨_,rfl⟩
 have hqo:(size:Int) % 64=(o:Int):=by omega
 have ho64:(o:Int) < 64:=by omega
 by_cases h0:o=0
 ·have HC:=hid (Zk h.len (by omega));subst h0;clear h ho
  go_enter Tryz.func156,Tryz.ntmps156
  go_wp2_with fail
  go_ret
  exact ⟨⟨false,V,rfl,HAT.out,HC.out⟩,Mv.refl _ _⟩
 ·obtain ⟨q,hq⟩:∃ q,q=size / 64:=⟨_,rfl⟩
  obtain ⟨x,hx⟩:∃ x,x=V.getD q 0:=⟨_,rfl⟩
  obtain ⟨bey,hb⟩:∃ bey,bey=x >>> o <<< o:=⟨_,rfl⟩
  obtain ⟨y,hy⟩:∃ y,y=x &&& (18446744073709551615 - bey):=⟨_,rfl⟩
  have HC:=hid (dE h.len h.fits ho h0 hq hx hb);rw [<- hy] at HC;have hql:q < V.length:=by have:=h.len;omega
  have hx64:x < 18446744073709551616:=by rw [hx];exact Ee h.fits q
  have hb64:bey < 18446744073709551616:=by have:=O1 x o;rw [hb];omega
  have hy64:y < 18446744073709551616:=by rw [hy];exact RI hx64 _
  have hc1:=h.hw;have hc2:=h.cell hql;have hfz:=h.row.frozenAt q;rw [<- hx] at hc2;obtain ⟨nw,hnw⟩:∃ nw,nw=V.length:=⟨_,rfl⟩
  rw [<- hnw] at hc1;have hqe:(nw:Int) - 1=(q:Int):=by have:=h.len;omega
  have hqn:(q:Int) < (nw:Int):=by omega
  have hq32:(q:Int) < 32:=by omega
  have hqw:IntKind.i64.wrap (q:Int)=(q:Int):=by rw [IntKind.wrap_i64];omega
  have ho0:((o:Int) == 0)=false:=by rw [beq_eq_false_iff_ne];omega
  have hop:bits .andNot .u64 (x:Int) (bey:Int)=(y:Int):=by rw [hy];exact u64_andNot_nat x bey hx64 hb64
  have hbw:IntKind.u64.wrap (bey:Int)=(bey:Int):=Qb hb64;have hsh:(x:Int) / 2 ^ o * 2 ^ o=(bey:Int):=by
   rw [hb,Nat.shiftLeft_eq,Nat.shiftRight_eq_div_pow];simp
  have HNEW:Hid (∀ n,BmAt ((w.drewN n).setCell ⟨g,q,none⟩ (.int .u64 (y:Int))) b g c size (V.set q y)/\Mv (fun i=>i=g) w ((w.drewN n).setCell ⟨g,q,none⟩ (.int .u64 (y:Int)))):=hid fun n=>⟨(HAT.out.below (Eb w n)).put q hy64,DW (F:=fun i=>i=g) (Mv.of_below (Eb w n)) rfl _⟩
  clear h hq hx hb hy hx64 hb64 hy64 ho hnw hql
  go_enter Tryz.func156,Tryz.ntmps156
  go_wp2_with fail
  go_quiet (fail)
  go_wp2_with fail
  go_ret
  exact ⟨⟨_,V.set q y,rfl,(HNEW.out _).1,HC.out⟩,(HNEW.out _).2⟩
def BmW (ok:Nat->Prop) (w:World) (v:Value) (m:List Bool) (W:List Nat):Prop:=
 (v=.pointer none/\m=[]/\W=[])\/∃ b g c,v=.pointer (some ⟨b,0,none⟩)/\ok b/\ok g/\BmAt w b g c m.length W/\∀ i,BF W i=inB m i
section
variable {ok:Nat->Prop} {w w':World} {v:Value} {m:List Bool} {W:List Nat}
theorem Bm.words (h:Bm ok w v m):∃ W,BmW ok w v m W:=by
 rcases h with ⟨h1,h2⟩ | ⟨b,g,c,W,h1,h2,h3,h4,h5⟩
 ·exact ⟨[],.inl ⟨h1,h2,rfl⟩⟩
 ·exact ⟨W,.inr ⟨b,g,c,h1,h2,h3,h4,h5⟩⟩
theorem BmW.mv {F:Nat->Prop} (h:BmW ok w v m W) (hm:Mv F w w') (hk:∀ i,ok i->¬ F i):BmW ok w' v m W:=by
 rcases h with h | ⟨b,g,c,h1,h2,h3,h4,h5⟩
 ·exact .inl h
 ·exact .inr ⟨b,g,c,h1,h2,h3,h4.mv hm (hk b h2) (hk g h3),h5⟩
theorem BmW.below (h:BmW ok w v m W) (hb:Below w.heap.size w w'):BmW ok w' v m W:=h.mv (F:=fun _=>False) (Mv.of_below hb) fun _ _=>id
theorem BmW.bits (h:BmW ok w v m W) (i:Nat):BF W i=inB m i:=by
 rcases h with ⟨_,rfl,rfl⟩ | ⟨b,g,c,h1,h2,h3,h4,h5⟩
 ·rw [Jw (Nat.zero_le _),Lt (Nat.zero_le _)]
 ·exact h5 i
theorem BmW.fits (h:BmW ok w v m W) (q:Nat):W.getD q 0 < 18446744073709551616:=by
 rcases h with ⟨_,rfl,rfl⟩ | ⟨b,g,c,h1,h2,h3,h4,h5⟩
 ·simp
 ·exact Ee h4.fits q
end
set_option maxRecDepth 20000 in
theorem Xv (ok:Nat->Prop) (v:Value) (m:List Bool) (W:List Nat) (q:Nat) (w:World) (h:BmW ok w v m W) (_hq:(q:Int) < 32) :
  Calls Tryz.prog 155 #[v,.int .i64 (q:Int)] w fun e w'=>e=.returned (.int .u64 ((W.getD q 0:Nat):Int))/\w=w':=by
 rcases h with ⟨rfl,rfl,rfl⟩ | ⟨b,g,c,rfl,_,_,h,_⟩
 ·go_enter Tryz.func155,Tryz.ntmps155
  go_wp2_with fail
  go_ret
  exact ⟨rfl,rfl⟩
 ·have hc1:=h.hw;by_cases hlt:q < W.length
  ·have hc2:=h.cell hlt;have hx:=h.fits;obtain ⟨nw,hnw⟩:∃ nw,nw=W.length:=⟨_,rfl⟩
   rw [<- hnw] at hc1 hlt;obtain ⟨x,hx⟩:∃ x,x=W.getD q 0:=⟨_,rfl⟩
   rw [<- hx] at hc2 ⊢;have hk:(q < nw)=True:=eq_true hlt;have hk2:(q:Int) < (nw:Int):=by omega
   clear h hnw hx
   go_enter Tryz.func155,Tryz.ntmps155
   go_wp2_with fail
   go_ret
   exact ⟨rfl,rfl⟩
  ·have hx:W.getD q 0=0:=by rw [List.getD_eq_getElem?_getD,List.getElem?_eq_none (by omega)];rfl
   rw [hx];obtain ⟨nw,hnw⟩:∃ nw,nw=W.length:=⟨_,rfl⟩
   rw [<- hnw] at hc1 hlt;have hk:(nw<=q)=True:=eq_true (by omega);have hk2:(nw:Int)<=(q:Int):=by omega
   clear h hnw hx hlt
   go_enter Tryz.func155,Tryz.ntmps155
   go_wp2_with fail
   go_ret
   exact ⟨rfl,rfl⟩
theorem fC (x y:Nat) (w:World) (hx:x < 18446744073709551616) (hy:y < 18446744073709551616):Calls Tryz.prog 134 #[.int .u64 (x:Int),.int .u64 (y:Int)] w fun e w'=>e=.returned (.int .u64 ((x ||| y:Nat):Int))/\w=w':=by
 have h:=u64_or_nat x y hx hy;generalize x ||| y=z at *
 go_enter Tryz.func134,Tryz.ntmps134
 go_wp2_with fail
 go_ret
 exact ⟨rfl,rfl⟩
end Go.Proofs.YtfhdojnobmfefaaGreatDoor
namespace Go.Proofs.YtfhdojnobmfefaaGreatDoor
open Go.RowKit Go.Inc
def EY (h:Nat->Nat->Nat) (V O:List Nat):Nat->List Nat
 | 0=>V
 | k+1=>(EY h V O k).set k (h (V.getD k 0) (O.getD k 0))
theorem GZ (h:Nat->Nat->Nat) (V O:List Nat):∀ k,(EY h V O k).length=V.length
 | 0=>rfl
 | k+1=>by unfold EY;rw [List.length_set,GZ h V O k]
theorem getD_set {V:List Nat} {q y:Nat} (h:q < V.length) (j:Nat):(V.set q y).getD j 0=if j=q then y else V.getD j 0:=by
 simp only [List.getD_eq_getElem?_getD,List.getElem?_set];by_cases hj:q=j
 ·subst hj;simp [h]
 ·have:¬ j=q:=fun e=>hj e.symm;simp [hj,this]
theorem Jl (h:Nat->Nat->Nat) (V O:List Nat):∀ k j,k<=V.length->(EY h V O k).getD j 0=if j < k then h (V.getD j 0) (O.getD j 0) else V.getD j 0
 | 0,j,_=>by simp [EY]
 | k+1,j,hk=>by
  unfold EY;rw [getD_set (by rw [GZ];omega),Jl h V O k j (by omega)];by_cases h1:j=k
  ·subst h1;simp
  ·by_cases h2:j < k
   ·rw [if_neg h1,if_pos h2,if_pos (by omega)]
   ·rw [if_neg h1,if_neg h2,if_neg (by omega)]
theorem QP {h:Nat->Nat->Nat} {f:Bool->Bool->Bool} {V O:List Nat} (hV:∀ x∈V,x < 18446744073709551616) (hO:∀ q,O.getD q 0 < 18446744073709551616) (hf:∀ x y j,x < 18446744073709551616->y < 18446744073709551616->j < 64->(h x y).testBit j=f (x.testBit j) (y.testBit j)) {i:Nat} (hi:i / 64 < V.length) :
  BF (EY h V O V.length) i=f (BF V i) (BF O i):=by
 unfold BF;rw [Jl h V O V.length _ (Nat.le_refl _),if_pos hi];exact hf _ _ _ (Ee hV _) (hO _) (by omega)
set_option maxRecDepth 20000 in
set_option maxHeartbeats 4000000 in
theorem TA (ok:Nat->Prop) (b g c S:Nat) (V:List Nat) (vo:Value) (mo:List Bool) (O:List Nat) (w:World) (h:BmAt w b g c S V) (hO:BmW ok w vo mo O) (hok:∀ i,ok i->i≠g) :
  Calls Tryz.prog 133 #[.pointer (some ⟨b,0,none⟩),vo,.func (.func 134) #[] #[]] w fun e w'=>e=.returned (.tuple #[])/\(∃ V',BmAt w' b g c S V'/\Cut S (EY (fun x y=>x ||| y) V O V.length) V')/\Mv (fun i=>i=g) w w':=by
 have HAT:=hid h;have HO:=hid hO;have HOK:=hid hok;have hc1:=h.hw;obtain ⟨nw,hnw⟩:∃ nw,nw=V.length:=⟨_,rfl⟩
 have HNW:=hid hnw;have hn32:(nw:Int)<=32:=by have:=h.wlen;omega
 rw [<- hnw] at hc1;rw [<- hnw];clear h hO hok hnw
 go_enter Tryz.func133,Tryz.ntmps133
 go_wp2_with fail
 go_loopw [15] (fun i wr=>∃ k:Nat,k<=nw/\i=.int .i64 (k:Int)/\BmAt wr b g c S (EY (fun x y=>x ||| y) V O k)/\Mv (fun i=>i=g) w wr) (fun i _=>nw - (intOf i).toNat)
 case atStart=>exact ⟨0,Nat.zero_le _,rfl,HAT.out,Mv.refl _ _⟩
 case round=>
  obtain ⟨k,hk,rfl,hat,hmv⟩:=hrel;have HATR:=hid hat;have HMV:=hid hmv;clear hat hmv hc1;by_cases hlt:(k:Int) < nw
  ·have hkl:k < (EY (fun x y=>x ||| y) V O k).length:=by rw [GZ,<- HNW.out];omega
   have hcell:=HATR.out.cell hkl;rw [Jl _ _ _ _ _ (by rw [<- HNW.out];exact hk),if_neg (Nat.lt_irrefl k)] at hcell;obtain ⟨u,hu⟩:∃ u,u=V.getD k 0:=⟨_,rfl⟩
   obtain ⟨o,ho⟩:∃ o,o=O.getD k 0:=⟨_,rfl⟩
   obtain ⟨y,hy⟩:∃ y,y=u ||| o:=⟨_,rfl⟩
   have hu64:u < 18446744073709551616:=by rw [hu];exact Ee HAT.out.fits k
   have ho64:o < 18446744073709551616:=by rw [ho];exact HO.out.fits k
   have hy64:y < 18446744073709551616:=by rw [hy];exact UW hu64 ho64
   rw [<- hu] at hcell;have HCALL:Hid (∀ z,Calls Tryz.prog 134 #[.int .u64 (u:Int),.int .u64 (o:Int)] z fun e w'=>e=.returned (.int .u64 (y:Int))/\z=w'):=hid fun z=>by rw [hy];exact fC u o z hu64 ho64
   have HWORD:Hid (∀ z,Grew wr.drew z->Calls Tryz.prog 155 #[vo,.int .i64 (k:Int)] z fun e w'=>e=.returned (.int .u64 (o:Int))/\z=w'):=hid fun z hz=>by
    have hbz:Below wr.heap.size wr z:=⟨hz.os,hz.tape,hz.output,hz.size,hz.block⟩
    rw [ho];exact Xv ok vo mo O k z ((HO.out.mv HMV.out HOK.out).below hbz) (by omega)
   have HC:Hid (∀ z,Grew wr.drew z->z.cell? ⟨b,1,none⟩=some (.slice (some ⟨g,0,none⟩) nw c)/\z.frozen? ⟨g,k,none⟩=false):=hid fun z hz=>by
    have hbz:Below wr.heap.size wr z:=⟨hz.os,hz.tape,hz.output,hz.size,hz.block⟩
    have h:=HATR.out.below hbz;exact ⟨by rw [HNW.out,<- GZ (fun x y=>x ||| y) V O k];exact h.hw,h.row.frozenAt k⟩
   have HNEW:Hid (∀ z,Grew wr.drew z->BmAt (z.setCell ⟨g,k,none⟩ (.int .u64 (y:Int))) b g c S (EY (fun x y=>x ||| y) V O (k+1))/\Mv (fun i=>i=g) w (z.setCell ⟨g,k,none⟩ (.int .u64 (y:Int)))):=hid fun z hz=>by
    have hbz:Below wr.heap.size wr z:=⟨hz.os,hz.tape,hz.output,hz.size,hz.block⟩
    have h:=(HATR.out.below hbz).put k hy64;rw [hy,hu,ho] at h ⊢;exact ⟨h,DW (F:=fun i=>i=g) (HMV.out.trans (Mv.of_below hbz)) rfl _⟩
   have hkn:(k < nw)=True:=eq_true (by omega);clear hu ho hy hu64 ho64 hy64 hkl HATR HMV
   go_upto_region 4 with fail
   refine Ai 12 [Ah (.pointer (some ⟨b,0,none⟩)),Ah (.pointer (some ⟨b,0,none⟩)),Ah (.pointer (some ⟨b,1,none⟩)),Ah (.slice (some ⟨g,0,none⟩) nw c),Ah (.int .i64 (k:Int)),Ah (.func (.func 134) #[] #[]),Ah (.int .u64 (u:Int)),Ah vo,Ah (.int .i64 (k:Int)),Ah (.int .u64 (o:Int)),Ah (.int .u64 (y:Int)),Ah (.pointer (some ⟨g,k,none⟩))] (by kernel_rfl) (by decide) (by kernel_rfl) ?_ ?_ ?_
   ·repeat' (first | exact List.forall_mem_nil _ | refine List.forall_mem_cons.2 ⟨?_,?_⟩)
    all_goals
     intro w w' v hw h;exact h
   ·simp only [AllLt];refine ⟨⟨⟨⟨⟨⟨⟨⟨⟨⟨⟨⟨trivial,?_⟩,?_⟩,?_⟩,?_⟩,?_⟩,?_⟩,?_⟩,?_⟩,?_⟩,?_⟩,?_⟩,?_⟩
    all_goals
     intro o' ho;simp at ho;subst ho;intro ρ w2 hR hL hS hG;obtain ⟨hl1,hl2,-⟩:=hL
    ·refine Aa rfl ?_;intro bA K Q' hK;have e0:=hS 0 (by kernel_rfl);change ρ (.tmp 0)=_ at e0;simp only [execOp];go_simp;exact hK _ _ rfl (Grew.refl _)
    ·refine Aa rfl ?_;intro bA K Q' hK;have e20:=apG (hG 0 20);change ρ (.tmp 20)=_ at e20;simp only [execOp];go_simp;exact hK _ _ rfl (Grew.refl _)
    ·refine Aa rfl ?_;intro bA K Q' hK;have e21:=apG (hG 1 21);change ρ (.tmp 21)=_ at e21;simp only [execOp];go_simp;exact hK _ _ rfl (Grew.refl _)
    ·refine Aa rfl ?_;intro bA K Q' hK;have e22:=apG (hG 2 22);change ρ (.tmp 22)=_ at e22;obtain ⟨x0,-⟩:=HC.out w2 hR;simp only [execOp];go_simp;exact hK _ _ rfl (Grew.refl _)
    ·refine Aa rfl ?_;intro bA K Q' hK;have e6:=hS 6 (by kernel_rfl);change ρ (.tmp 6)=_ at e6;simp only [execOp];go_simp;exact hK _ _ rfl (Grew.refl _)
    ·refine Aa rfl ?_;intro bA K Q' hK;have e2:=hS 2 (by kernel_rfl);change ρ (.tmp 2)=_ at e2;simp only [execOp];go_simp;exact hK _ _ rfl (Grew.refl _)
    ·refine Aa rfl ?_;intro bA K Q' hK;have e7:=hS 7 (by kernel_rfl);change ρ (.tmp 7)=_ at e7;simp only [execOp];go_simp;exact hK _ _ rfl (Grew.refl _)
    ·refine Aa rfl ?_;intro bA K Q' hK;have e1:=hS 1 (by kernel_rfl);change ρ (.tmp 1)=_ at e1;simp only [execOp];go_simp;exact hK _ _ rfl (Grew.refl _)
    ·refine Aa rfl ?_;intro bA K Q' hK;have e6:=hS 6 (by kernel_rfl);change ρ (.tmp 6)=_ at e6;simp only [execOp];go_simp;exact hK _ _ rfl (Grew.refl _)
    ·refine Aa rfl ?_;intro bA K Q' hK;have e27:=apG (hG 7 27);have e28:=apG (hG 8 28);change ρ (.tmp 27)=_ at e27;change ρ (.tmp 28)=_ at e28;simp only [execOp];go_simp;refine (HWORD.out w2 hR).mono ?_;rintro r9 w9 ⟨rfl,rfl⟩;exact hK _ _ rfl (Grew.refl _)
    ·refine Aa rfl ?_;intro bA K Q' hK;have e25:=apG (hG 5 25);have e26:=apG (hG 6 26);have e29:=apG (hG 9 29);change ρ (.tmp 25)=_ at e25;change ρ (.tmp 26)=_ at e26;change ρ (.tmp 29)=_ at e29;simp only [execOp];go_simp;refine (HCALL.out w2).mono ?_;rintro r9 w9 ⟨rfl,rfl⟩;exact hK _ _ rfl (Grew.refl _)
    ·refine Aa rfl ?_;intro bA K Q' hK;have e23:=apG (hG 3 23);have e24:=apG (hG 4 24);change ρ (.tmp 23)=_ at e23;change ρ (.tmp 24)=_ at e24;simp only [execOp];go_simp;exact hK _ _ rfl (Grew.refl _)
   ·intro v w3 hR hG;have h10:v 10=.int .u64 (y:Int):=hG.1.2;have h11:v 11=.pointer (some ⟨g,k,none⟩):=hG.2;obtain ⟨x0,x2⟩:=HC.out w3 hR;have HX:=hid (HNEW.out w3 hR);obtain ⟨old,hold⟩:∃ old,w3.cell? ⟨g,k,none⟩=some old:=⟨_,(by
     have hbz:Below wr.heap.size wr w3:=⟨hR.os,hR.tape,hR.output,hR.size,hR.block⟩
     exact (hbz.cell (AA hcell)).trans hcell)⟩
    clear hG hR HC HNEW HWORD HCALL hcell;simp [stG,stU,Au,Act.put,h10,h11]
    go_wp2_with fail
    go_roundw
    case rel=>exact ⟨k+1,by omega,by go_num,HX.out.1,HX.out.2⟩
    case measure=>simp [intOf];omega
  ·have hkf:(k < nw)=False:=eq_false (by omega);have HKN:Hid (k=nw):=hid (by omega);clear hlt
   go_wp2_with fail
   refine (XD b g c S _ wr HATR.out).mono ?_;rintro e w2 ⟨⟨t,V',rfl,hV,hcut,-⟩,hmv2⟩;have HV:=hid (And.intro hV hcut);have HM2:=hid (HMV.out.trans hmv2);clear hV hcut hmv2
   go_wp2_with fail
   refine bodyPost_end (results_none rfl _ _ _) rfl ⟨rfl,⟨V',HV.out.1,by rw [<- HKN.out];exact HV.out.2⟩,HM2.out⟩
end Go.Proofs.YtfhdojnobmfefaaGreatDoor
