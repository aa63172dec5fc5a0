/- MADE SMALL. -/
import Derived.StillTailTactics
import Derived.Laws.EntriesVeiled
import Derived.Test.YtfhdojnobmfefaaGreatDoorN43
namespace Go.Proofs.YtfhdojnobmfefaaGreatDoor
open Go.RowKit Go.Inc
theorem zQqs:Tryz.prog.follows .mixedOrders=true:=by kernel_rfl
theorem zQia (w:World):Below w.heap.size w w.drew:=(Below.refl w.heap.size w).drew
theorem CwR.at {C:Nat->Nat} {w w':World} {tp gd pa pn n:Nat} {S:St} {root:Nat} {ep:Int} {t:TrG} {ns:List Nat} {b b':Nat} {r':Int} (h:CwR C w tp gd pa pn n S root ep t ns b) (hd:Dv C w' gd pn n {S with r:=r'}) (htc:TC w' tp gd pa root ep) (h0:0<=r') (h1:r'<=b') (hb:b<=b'):CwR C w' tp gd pa pn n {S with r:=r'} root ep t ns b':=
 ⟨hd,h.ctp,htc,h.ep1,h.on,h.arm,h.bytes,h.good,h.deep,h.cnt,h.is,h.pg,⟨by have:=h.bud;omega,h0,h1,h.bud.2.2.2.1,by have:=h.bud.2.2.2.2;show S.s<=_;omega⟩⟩
theorem CwR.step' {C:Nat->Nat} {w w':World} {tp gd pa pn n:Nat} {S:St} {root:Nat} {ep:Int} {t:TrG} {ns:List Nat} {b:Nat} (h:CwR C w tp gd pa pn n S root ep t ns b) (hd:Dv C w' gd pn n {S with r:=S.r}) (htc:TC w' tp gd pa root ep):CwR C w' tp gd pa pn n {S with r:=S.r} root ep t ns b:=
 h.at hd htc h.bud.2.1 h.bud.2.2.1 (Nat.le_refl _)
set_option maxRecDepth 20000 in
set_option maxHeartbeats 4000000 in
theorem zQin {C:Nat->Nat} {w:World} {tp gd pa pn n:Nat} {S:St} {root:Nat} {ep:Int} {t:TrG} {ns:List Nat} {b:Nat} (B gl:Nat) (h:CwR C w tp gd pa pn n S root ep t ns b) (hb:b<=900000) (hBw:B<=w.heap.size) (hcb:∀ i,B<=i->C i=0) (htB:tp < B) (hgl:B<=gl) (hx:Boxed w gl 54 (.slice none 0 0)) :
  Calls Tryz.prog 64 #[.pointer (some ⟨tp,0,none⟩),.func (.func 78) #[] #[.pointer (some ⟨gl,0,none⟩)]] w fun e w'=>e=.returned (.int .i64 0)/\(∃ v',Boxed w' gl 54 v'/\w'.ownsRow B 3 1 v' (ns).length (nvals (ns)))/\(∃ r',CwR C w' tp gd pa pn n {S with r:=r'} root ep t ns (b+3000))/\Mv (fun b=>C b≠0\/B<=b) w w':=by
 obtain ⟨g,hg⟩:∃ g,g=w.heap.size:=⟨_,rfl⟩
 obtain ⟨w2,hw2⟩:∃ w2,w2=(w.alloc (.cells #[.pointer (some ⟨tp,0,none⟩)] 27)).alloc (.cells #[.func (.func 78) #[] #[.pointer (some ⟨gl,0,none⟩)]] 127):=⟨_,rfl⟩
 have hb2:Below w.heap.size w w2:=by rw [hw2];exact ((Below.refl _ _).alloc (Nat.le_refl _) _).alloc (by simp) _
 have hxt:Boxed w2 g 27 (.pointer (some ⟨tp,0,none⟩)):=by rw [hw2,hg];exact heap_alloc2_old w _ _
 have hxv:Boxed w2 (g+1) 127 (.func (.func 78) #[] #[.pointer (some ⟨gl,0,none⟩)]):=by rw [hw2,hg];exact heap_alloc2_new w _ _
 have hs2:w2.heap.size=g+2:=by rw [hw2,hg];simp
 have HR2:=hid (h.below hb2)
 have HXL2:Hid (Boxed w2 gl 54 (.slice none 0 0)):=hid (zQa hx hb2)
 have HK2:=hid (show True from trivial)
 have HW:=hid hw2
 have HG:=hid hg
 have HB2:=hid hb2
 have HXT:=hid hxt
 have HXV:=hid hxv
 have HSZ:=hid hs2
 have HBB:=hid hb
 have HCB:=hid hcb
 have HLT:=hid htB
 have HGE:=hid (show B<=w.heap.size/\B<=gl from ⟨hBw,hgl⟩)
 have HON:Hid (S.on=true/\(∀ q,q < pn->Bytes (rd S q))):=hid ⟨h.on,h.bytes⟩
 have HNL:=hid h.is.len
 have HCN:=hid h.cnt
 have hct:=hxt.cell
 have hc0:w2.cell? ⟨tp,0,none⟩=some (.pointer (some ⟨gd,0,none⟩)):=coR HR2.out.tc
 have HDO:=hid (dv_on HR2.out.dv)
 rw [HON.out.1] at HDO
 clear hw2 hg hb2 hxt hxv hs2 h hb hBw hcb htB hgl hx
 go_enter Tryz.func64,Tryz.ntmps64
 go_upto_region 1 with fail
 rw [<- HW.out,<- HG.out]
 clear HW
 go_wp2_with fail
 refine HDO.out.mono ?_
 clear HDO hct hc0
 rintro e w3 ⟨rfl,rfl⟩
 obtain ⟨w5,hw5⟩:∃ w5,w5=(w2.alloc (.cells #[.int .i64 0] 3)).alloc (.cells #[.nilFunc] 182):=⟨_,rfl⟩
 have hb5:Below w2.heap.size w2 w5:=by rw [hw5];exact ((Below.refl _ _).alloc (Nat.le_refl _) _).alloc (by simp) _
 have hxm:Boxed w5 (g+2) 3 (.int .i64 0):=by rw [hw5,<- HSZ.out];exact heap_alloc2_old w2 _ _
 have hxh:Boxed w5 (g+2+1) 182 .nilFunc:=by rw [hw5,<- HSZ.out];exact heap_alloc2_new w2 _ _
 have HW5:=hid hw5
 have HB5:=hid hb5
 have HXM:=hid hxm
 have HXH:=hid hxh
 have hch:=hxh.cell
 have hfh:=hxh.frozen
 clear hw5 hb5 hxm hxh
 go_upto_region 5 with fail
 rw [<- HW5.out,HSZ.out]
 clear HW5
 go_upto_region 6 with fail
 obtain ⟨hv,hhv⟩:∃ hv,hv=Value.func (.func 114) #[] #[.pointer (some ⟨g+2,0,none⟩),.pointer (some ⟨g,0,none⟩),.pointer (some ⟨g+1,0,none⟩),.pointer (some ⟨g+2+1,0,none⟩)]:=⟨_,rfl⟩
 obtain ⟨w6,hw6⟩:∃ w6,w6=w5.setCell ⟨g+2+1,0,none⟩ (Value.func (.func 114) #[] #[.pointer (some ⟨g+2,0,none⟩),.pointer (some ⟨g,0,none⟩),.pointer (some ⟨g+1,0,none⟩),.pointer (some ⟨g+2+1,0,none⟩)]):=⟨_,rfl⟩
 rw [<- hw6]
 have hg6:w5.grownBy w6 (some (g+2+1)):=by rw [hw6];exact grownBy_setCell' w5 _ _
 have hxh6:Boxed w6 (g+2+1) 182 hv:=by rw [hw6,hhv];exact HXH.out.set _
 have hm6:Mv (fun i=>i=g+2+1) w5 w6:=Mv.of_grown hg6 fun j hj _=>by cases hj;rfl
 have hm26:Mv (fun i=>i=g+2+1) w2 w6:=(Mv.of_below HB5.out).trans hm6
 have hlow:∀ i,i < w2.heap.size->¬ i=g+2+1:=fun i hi=>by have:=HSZ.out;omega
 have HMW6:Hid (Mv (fun b=>C b≠0\/B<=b) w w6):=hid ((Mv.of_below HB2.out).trans' hm26 fun i hi h=>by have:=HG.out;omega)
 have HENV:Hid (EnvN C gd pn n S tp pa root ep B (g+2) g (g+1) (g+2+1) gl w6 0 (.slice none 0 0) [] S.r):=hid (by
  have hge:=HGE.out
  have hgg:=HG.out
  have hgl2:=HXL2.out.lt
  have hs:=HSZ.out
  refine ⟨HR2.out.dv.keep (S:=S) hm26 (fun i hi=>HCB.out i (by omega)),HR2.out.tc.mv hm26 (fun e=>by have:=HLT.out;omega),hm6.row HXM.out (by omega),hm26.row HXT.out (hlow _ HXT.out.lt),hm26.row HXV.out (hlow _ HXV.out.lt),by rw [hhv] at hxh6;exact hxh6,hm26.row HXL2.out (hlow _ HXL2.out.lt),World.ownsRow_nil _ _ _ _,⟨by omega,by omega,by omega,by omega,hge.2⟩,HCB.out,HLT.out,(fun e=>by cases e),HR2.out.ctp⟩)
 have HCRW6:Hid (CwR C w6 tp gd pa pn n {S with r:=S.r} root ep t ns b):=hid (HR2.out.step' HENV.out.dv HENV.out.tc)
 have hct:=HENV.out.bt.cell
 have hcr:w6.cell? ⟨tp,2,none⟩=some (.int .i64 (root:Int)):=coR HENV.out.tc
 clear hw6 hg6 hm6 hm26 hlow hch hfh hxh6 HXM HXH HB5 HXT HXV
 cases t with
 | nil=>
  have hr0:root=0:=HCRW6.out.is.1
  have hr1:((root:Int) == 0)=true:=by rw [hr0];rfl
  have hr2:(root=0)=True:=eq_true hr0
  have HNN:Hid (ns=[]):=hid HCRW6.out.is.2
  clear hr0
  go_wp2_with fail
  go_ret
  refine ⟨rfl,⟨_,HENV.out.bl,?_⟩,⟨S.r,HCRW6.out.more (by omega)⟩,HMW6.out⟩
  rw [HNN.out];exact World.ownsRow_nil _ _ _ _
 | mk D sh=>
  have hhead:=IsN.head HCRW6.out.is
  have hpgr:=HCRW6.out.pg root hhead
  have hr1:((root:Int) == 0)=false:=by rw [beq_eq_false_iff_ne];omega
  have hr2:(root=0)=False:=eq_false (by omega)
  go_wp2_with fail
  have hbq:=zQia w6
  have HENV7:=hid (HENV.out.below hbq)
  have HCRW7:=hid (HCRW6.out.below hbq)
  have HMW7:Hid (Mv (fun b=>C b≠0\/B<=b) w w6.drew):=hid (HMW6.out.trans (Mv.of_below hbq))
  have hchh:=HENV.out.bh.cell
  go_still_tail 6,zQqs
  change wpList _ _ _ _ _ w6.drew
  generalize w6.drew=wq at *
  have HTHR:=hid (zQmk HON.out.1 HON.out.2 (by have:=HCRW7.out.bud;have:=HBB.out;omega) D root 1 0 sh ns [] (.slice none 0 0) wq S.r HENV7.out HCRW7.out.is HCRW7.out.good.1 (by decide) (by have:=HCRW7.out.deep;have h:D+1<=8:=this;omega) (by have:=HNL.out;have:=HCN.out;omega) (fun q hq=>(HCRW7.out.pg q hq).2) (by simp) (by have:=HCRW7.out.bud;have:=HBB.out;have:=HNL.out;have:=HCN.out;omega))
  clear hbq hchh hr1 hr2 hpgr hhead hct hcr HENV HCRW6 HMW6
  go_wp2_with fail
  refine HTHR.out.mono ?_
  clear HTHR
  rintro e w8 ⟨rfl,v8,he8,hl8,-,hm8⟩
  have HE8:=hid he8
  have HM8:=hid hm8
  clear he8 hm8 hl8
  go_wp2_with fail
  go_ret
  refine ⟨rfl,⟨v8,HE8.out.bl,?_⟩,⟨S.r+(ns.length:Int),HCRW7.out.at HE8.out.dv HE8.out.tc ?_ ?_ (by omega)⟩,HMW7.out.trans' HM8.out fun i hi h=>?_⟩
  ·have h:=HE8.out.row
   simpa using h
  ·have:=HCRW7.out.bud;omega
  ·have:=HCRW7.out.bud;have:=HNL.out;have:=HCN.out;omega
  ·rcases h with (h | h | h) | h
   ·exact .inl h
   ·exact .inr (by have:=HGE.out.1;have:=HG.out;omega)
   ·exact .inr (by rw [h];exact HGE.out.2)
   ·cases h
end Go.Proofs.YtfhdojnobmfefaaGreatDoor
namespace Go.Inc
open Go Go.RowKit
end Go.Inc
namespace Go.Proofs.YtfhdojnobmfefaaGreatDoor
open Go.RowKit Go.Inc
set_option maxRecDepth 20000 in
theorem zQfb {C:Nat->Nat} {w:World} {tp gd pa pn n:Nat} {S:St} {root:Nat} {ep:Int} {t:TrG} {ns:List Nat} {b:Nat} (h:CwR C w tp gd pa pn n S root ep t ns b) (hb:b<=900000) :
  Calls Tryz.prog 32 #[.pointer (some ⟨tp,0,none⟩)] w fun e w'=>(∃ v:Value,e=.returned (.tuple #[v,.int .i64 0])/\w'.ownsRow w.heap.size 3 1 v ns.length (nvals ns))/\(∃ r',CwR C w' tp gd pa pn n {S with r:=r'} root ep t ns (b+3000))/\Mv (fun i=>C i≠0) w w':=by
 obtain ⟨g,hg⟩:∃ g,g=w.heap.size:=⟨_,rfl⟩
 obtain ⟨w1,hw1⟩:∃ w1,w1=w.alloc (.cells #[.slice none 0 0] 54):=⟨_,rfl⟩
 have HW:=hid hw1
 have HG:=hid hg
 have HB:Hid (Below w.heap.size w w1):=hid (by rw [hw1];exact zQd w _)
 have hx:Boxed w1 g 54 (.slice none 0 0):=by rw [hw1,hg];exact Boxed.new w _ _
 have HIS:=hid (zJs h.tc)
 have HWK:=hid (zQin g g (h.below HB.out) hb (by have:=hx.lt;omega) (fun i hi=>h.dv.new (by omega)) (by rw [hg];exact zQl h.tc) (Nat.le_refl _) hx)
 clear hw1 hg h hb hx
 go_enter Tryz.func32,Tryz.ntmps32
 go_wp2_with fail
 refine HIS.out.mono ?_
 rintro e w2 ⟨rfl,rfl⟩
 go_upto_region 4 with fail
 rw [<- HW.out,<- HG.out]
 clear HW
 go_wp2_with fail
 refine HWK.out.mono ?_
 clear HWK
 rintro e w3 ⟨rfl,⟨v,hv,hr⟩,⟨r',hr'⟩,hm⟩
 have hcv:=hv.cell
 have HR:=hid hr
 have HRR:=hid hr'
 have HM:Hid (Mv (fun i=>C i≠0) w w3):=hid ((Mv.of_below HB.out).trans' hm fun i hi h=>h.elim id fun h=>by have:=HG.out;omega)
 obtain ⟨a2,c2,rfl,-,-,-⟩:=zQt hr
 clear hv hr hr' hm
 obtain ⟨L,hL⟩:∃ L,L=ns.length:=⟨_,rfl⟩
 have HL:=hid hL
 rw [<- hL] at hcv HR
 clear hL
 go_wp2_with fail
 go_ret2
 exact ⟨⟨_,rfl,by rw [<- HG.out,<- HL.out];exact HR.out⟩,⟨r',HRR.out⟩,HM.out⟩
end Go.Proofs.YtfhdojnobmfefaaGreatDoor
