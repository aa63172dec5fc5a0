/- MADE SMALL. -/
import Derived.StillTailTactics
import Derived.Laws.EntriesVeiled
import Derived.Test.YtfhdojnobmfefaaGreatDoorG42
namespace Go.Proofs.YtfhdojnobmfefaaGreatDoor
open Go.RowKit Go.Inc
theorem U1:Tryz.prog.follows .mixedOrders=true:=by kernel_rfl
theorem NK (w:World):Below w.heap.size w w.drew:=(Below.refl w.heap.size w).drew
theorem CwR.at {C:Nat->Nat} {w w':World} {tp gd pa pn n:Nat} {S:St} {root:Nat} {ep:Int} {t:TrG} {ns:List Nat} {b b':Nat} {r':Int} (h:CwR C w tp gd pa pn n S root ep t ns b) (hd:Dv C w' gd pn n {S with r:=r'}) (htc:TC w' tp gd pa root ep) (h0:0<=r') (h1:r'<=b') (hb:b<=b'):CwR C w' tp gd pa pn n {S with r:=r'} root ep t ns b':=
 ⟨hd,h.ctp,htc,h.ep1,h.on,h.arm,h.bytes,h.good,h.deep,h.cnt,h.is,h.pg,⟨by have:=h.bud;omega,h0,h1,h.bud.2.2.2.1,by have:=h.bud.2.2.2.2;show S.s<=_;omega⟩⟩
theorem CwR.step' {C:Nat->Nat} {w w':World} {tp gd pa pn n:Nat} {S:St} {root:Nat} {ep:Int} {t:TrG} {ns:List Nat} {b:Nat} (h:CwR C w tp gd pa pn n S root ep t ns b) (hd:Dv C w' gd pn n {S with r:=S.r}) (htc:TC w' tp gd pa root ep):CwR C w' tp gd pa pn n {S with r:=S.r} root ep t ns b:=
 h.at hd htc h.bud.2.1 h.bud.2.2.1 (Nat.le_refl _)
set_option maxRecDepth 20000 in
set_option maxHeartbeats 4000000 in
theorem VC {C:Nat->Nat} {w:World} {tp gd pa pn n:Nat} {S:St} {root:Nat} {ep:Int} {t:TrG} {ns:List Nat} {b:Nat} (B gl:Nat) (h:CwR C w tp gd pa pn n S root ep t ns b) (hb:b<=900000) (hBw:B<=w.heap.size) (hcb:∀ i,B<=i->C i=0) (htB:tp < B) (hgl:B<=gl) (hx:Boxed w gl 54 (.slice none 0 0)) :
  Calls Tryz.prog 64 #[.pointer (some ⟨tp,0,none⟩),.func (.func 78) #[] #[.pointer (some ⟨gl,0,none⟩)]] w fun e w'=>e=.returned (.int .i64 0)/\(∃ v',Boxed w' gl 54 v'/\w'.ownsRow B 3 1 v' (ns).length (Dl (ns)))/\(∃ r',CwR C w' tp gd pa pn n {S with r:=r'} root ep t ns (b+3000))/\Mv (fun b=>C b≠0\/B<=b) w w':=by
 obtain ⟨g,hg⟩:∃ g,g=w.heap.size:=⟨_,rfl⟩
 obtain ⟨w2,hw2⟩:∃ w2,w2=(w.alloc (.cells #[.pointer (some ⟨tp,0,none⟩)] 27)).alloc (.cells #[.func (.func 78) #[] #[.pointer (some ⟨gl,0,none⟩)]] 127):=⟨_,rfl⟩
 have hb2:Below w.heap.size w w2:=by rw [hw2];exact ((Below.refl _ _).alloc (Nat.le_refl _) _).alloc (by simp) _
 have hxt:Boxed w2 g 27 (.pointer (some ⟨tp,0,none⟩)):=by rw [hw2,hg];exact heap_alloc2_old w _ _
 have hxv:Boxed w2 (g+1) 127 (.func (.func 78) #[] #[.pointer (some ⟨gl,0,none⟩)]):=by rw [hw2,hg];exact heap_alloc2_new w _ _
 have hs2:w2.heap.size=g+2:=by rw [hw2,hg];simp
 have HR2:=hid (h.below hb2);have HXL2:Hid (Boxed w2 gl 54 (.slice none 0 0)):=hid (Ac hx hb2);have HK2:=hid (show True from trivial);have HW:=hid hw2;have HG:=hid hg;have HB2:=hid hb2;have HXT:=hid hxt;have HXV:=hid hxv;have HSZ:=hid hs2;have HBB:=hid hb;have HCB:=hid hcb;have HLT:=hid htB;have HGE:=hid (show B<=w.heap.size/\B<=gl from ⟨hBw,hgl⟩);have HON:Hid (S.on=true/\(∀ q,q < pn->Bytes (rd S q))):=hid ⟨h.on,h.bytes⟩;have HNL:=hid h.is.len;have HCN:=hid h.cnt;have hct:=hxt.cell;have hc0:w2.cell? ⟨tp,0,none⟩=some (.pointer (some ⟨gd,0,none⟩)):=coR HR2.out.tc;have HDO:=hid (Y9 HR2.out.dv);rw [HON.out.1] at HDO;clear hw2 hg hb2 hxt hxv hs2 h hb hBw hcb htB hgl hx
 go_enter Tryz.func64,Tryz.ntmps64
 go_upto_region 1 with fail
 rw [<- HW.out,<- HG.out];clear HW
 go_wp2_with fail
 refine HDO.out.mono ?_;clear HDO hct hc0;rintro e w3 ⟨rfl,rfl⟩;obtain ⟨w5,hw5⟩:∃ w5,w5=(w2.alloc (.cells #[.int .i64 0] 3)).alloc (.cells #[.nilFunc] 182):=⟨_,rfl⟩
 have hb5:Below w2.heap.size w2 w5:=by rw [hw5];exact ((Below.refl _ _).alloc (Nat.le_refl _) _).alloc (by simp) _
 have hxm:Boxed w5 (g+2) 3 (.int .i64 0):=by rw [hw5,<- HSZ.out];exact heap_alloc2_old w2 _ _
 have hxh:Boxed w5 (g+2+1) 182 .nilFunc:=by rw [hw5,<- HSZ.out];exact heap_alloc2_new w2 _ _
 have HW5:=hid hw5;have HB5:=hid hb5;have HXM:=hid hxm;have HXH:=hid hxh;have hch:=hxh.cell;have hfh:=hxh.frozen;clear hw5 hb5 hxm hxh
 go_upto_region 5 with fail
 rw [<- HW5.out,HSZ.out];clear HW5
 go_upto_region 6 with fail
 obtain ⟨hv,hhv⟩:∃ hv,hv=Value.func (.func 114) #[] #[.pointer (some ⟨g+2,0,none⟩),.pointer (some ⟨g,0,none⟩),.pointer (some ⟨g+1,0,none⟩),.pointer (some ⟨g+2+1,0,none⟩)]:=⟨_,rfl⟩
 obtain ⟨w6,hw6⟩:∃ w6,w6=w5.setCell ⟨g+2+1,0,none⟩ (Value.func (.func 114) #[] #[.pointer (some ⟨g+2,0,none⟩),.pointer (some ⟨g,0,none⟩),.pointer (some ⟨g+1,0,none⟩),.pointer (some ⟨g+2+1,0,none⟩)]):=⟨_,rfl⟩
 rw [<- hw6];have hg6:w5.grownBy w6 (some (g+2+1)):=by rw [hw6];exact grownBy_setCell' w5 _ _
 have hxh6:Boxed w6 (g+2+1) 182 hv:=by rw [hw6,hhv];exact HXH.out.set _
 have hm6:Mv (fun i=>i=g+2+1) w5 w6:=Mv.of_grown hg6 fun j hj _=>by cases hj;rfl
 have hm26:Mv (fun i=>i=g+2+1) w2 w6:=(Mv.of_below HB5.out).trans hm6;have hlow:∀ i,i < w2.heap.size->¬ i=g+2+1:=fun i hi=>by have:=HSZ.out;omega
 have HMW6:Hid (Mv (fun b=>C b≠0\/B<=b) w w6):=hid ((Mv.of_below HB2.out).trans' hm26 fun i hi h=>by have:=HG.out;omega);have HENV:Hid (EnvN C gd pn n S tp pa root ep B (g+2) g (g+1) (g+2+1) gl w6 0 (.slice none 0 0) [] S.r):=hid (by
  have hge:=HGE.out;have hgg:=HG.out;have hgl2:=HXL2.out.lt;have hs:=HSZ.out;refine ⟨HR2.out.dv.keep (S:=S) hm26 (fun i hi=>HCB.out i (by omega)),HR2.out.tc.mv hm26 (fun e=>by have:=HLT.out;omega),hm6.row HXM.out (by omega),hm26.row HXT.out (hlow _ HXT.out.lt),hm26.row HXV.out (hlow _ HXV.out.lt),by rw [hhv] at hxh6;exact hxh6,hm26.row HXL2.out (hlow _ HXL2.out.lt),World.ownsRow_nil _ _ _ _,⟨by omega,by omega,by omega,by omega,hge.2⟩,HCB.out,HLT.out,(fun e=>by cases e),HR2.out.ctp⟩)
 have HCRW6:Hid (CwR C w6 tp gd pa pn n {S with r:=S.r} root ep t ns b):=hid (HR2.out.step' HENV.out.dv HENV.out.tc);have hct:=HENV.out.bt.cell;have hcr:w6.cell? ⟨tp,2,none⟩=some (.int .i64 (root:Int)):=coR HENV.out.tc;clear hw6 hg6 hm6 hm26 hlow hch hfh hxh6 HXM HXH HB5 HXT HXV;cases t with
 | nil=>
  have hr0:root=0:=HCRW6.out.is.1;have hr1:((root:Int) == 0)=true:=by rw [hr0];rfl
  have hr2:(root=0)=True:=eq_true hr0;have HNN:Hid (ns=[]):=hid HCRW6.out.is.2;clear hr0
  go_wp2_with fail
  go_ret
  refine ⟨rfl,⟨_,HENV.out.bl,?_⟩,⟨S.r,HCRW6.out.more (by omega)⟩,HMW6.out⟩;rw [HNN.out];exact World.ownsRow_nil _ _ _ _
 | mk D sh=>
  have hhead:=IsN.head HCRW6.out.is;have hpgr:=HCRW6.out.pg root hhead;have hr1:((root:Int) == 0)=false:=by rw [beq_eq_false_iff_ne];omega
  have hr2:(root=0)=False:=eq_false (by omega)
  go_wp2_with fail
  have hbq:=NK w6;have HENV7:=hid (HENV.out.below hbq);have HCRW7:=hid (HCRW6.out.below hbq);have HMW7:Hid (Mv (fun b=>C b≠0\/B<=b) w w6.drew):=hid (HMW6.out.trans (Mv.of_below hbq));have hchh:=HENV.out.bh.cell
  go_still_tail 6,U1
  change wpList _ _ _ _ _ w6.drew;generalize w6.drew=wq at *
  have HTHR:=hid (XH HON.out.1 HON.out.2 (by have:=HCRW7.out.bud;have:=HBB.out;omega) D root 1 0 sh ns [] (.slice none 0 0) wq S.r HENV7.out HCRW7.out.is HCRW7.out.good.1 (by decide) (by have:=HCRW7.out.deep;have h:D+1<=8:=this;omega) (by have:=HNL.out;have:=HCN.out;omega) (fun q hq=>(HCRW7.out.pg q hq).2) (by simp) (by have:=HCRW7.out.bud;have:=HBB.out;have:=HNL.out;have:=HCN.out;omega));clear hbq hchh hr1 hr2 hpgr hhead hct hcr HENV HCRW6 HMW6
  go_wp2_with fail
  refine HTHR.out.mono ?_;clear HTHR;rintro e w8 ⟨rfl,v8,he8,hl8,-,hm8⟩;have HE8:=hid he8;have HM8:=hid hm8;clear he8 hm8 hl8
  go_wp2_with fail
  go_ret
  refine ⟨rfl,⟨v8,HE8.out.bl,?_⟩,⟨S.r+(ns.length:Int),HCRW7.out.at HE8.out.dv HE8.out.tc ?_ ?_ (by omega)⟩,HMW7.out.trans' HM8.out fun i hi h=>?_⟩
  ·have h:=HE8.out.row;simpa using h
  ·have:=HCRW7.out.bud;omega
  ·have:=HCRW7.out.bud;have:=HNL.out;have:=HCN.out;omega
  ·rcases h with (h | h | h) | h
   ·exact .inl h
   ·exact .inr (by have:=HGE.out.1;have:=HG.out;omega)
   ·exact .inr (by rw [h];exact HGE.out.2)
   ·cases h
set_option maxRecDepth 20000 in
set_option maxHeartbeats 4000000 in
theorem VB {C:Nat->Nat} {w:World} {tp gd pa pn n:Nat} {S:St} {root:Nat} {ep:Int} {t:TrG} {ns:List Nat} {b:Nat} (B gl:Nat) (g1 g2:Nat) (s z s' z':Int) (h:CwR C w tp gd pa pn n S root ep t ns b) (hb:b<=900000) (hBw:B<=w.heap.size) (hcb:∀ i,B<=i->C i=0) (htB:tp < B) (hgl:B<=gl) (hx:Boxed w gl 48 (.slice none 0 0)) (hk1:w.heap[g1]?=some (.cells #[.int .i64 s,.int .i64 z] 42 (0,0))) (hk2:w.heap[g2]?=some (.cells #[.int .i64 s',.int .i64 z'] 42 (0,0))) (hg12:B<=g1/\B<=g2) :
  Calls Tryz.prog 64 #[.pointer (some ⟨tp,0,none⟩),.func (.func 65) #[] #[.pointer (some ⟨g1,0,none⟩),.pointer (some ⟨g2,0,none⟩),.pointer (some ⟨gl,0,none⟩)]] w fun e w'=>e=.returned (.int .i64 0)/\(∃ v',Boxed w' gl 48 v'/\w'.ownsRow B 65 3 v' (t.en.filter (rfB (s,z) (s',z'))).length (Ak (t.en.filter (rfB (s,z) (s',z')))))/\(∃ r',CwR C w' tp gd pa pn n {S with r:=r'} root ep t ns (b+3000))/\Mv (fun b=>C b≠0\/B<=b) w w':=by
 obtain ⟨g,hg⟩:∃ g,g=w.heap.size:=⟨_,rfl⟩
 obtain ⟨w2,hw2⟩:∃ w2,w2=(w.alloc (.cells #[.pointer (some ⟨tp,0,none⟩)] 27)).alloc (.cells #[.func (.func 65) #[] #[.pointer (some ⟨g1,0,none⟩),.pointer (some ⟨g2,0,none⟩),.pointer (some ⟨gl,0,none⟩)]] 127):=⟨_,rfl⟩
 have hb2:Below w.heap.size w w2:=by rw [hw2];exact ((Below.refl _ _).alloc (Nat.le_refl _) _).alloc (by simp) _
 have hxt:Boxed w2 g 27 (.pointer (some ⟨tp,0,none⟩)):=by rw [hw2,hg];exact heap_alloc2_old w _ _
 have hxv:Boxed w2 (g+1) 127 (.func (.func 65) #[] #[.pointer (some ⟨g1,0,none⟩),.pointer (some ⟨g2,0,none⟩),.pointer (some ⟨gl,0,none⟩)]):=by rw [hw2,hg];exact heap_alloc2_new w _ _
 have hs2:w2.heap.size=g+2:=by rw [hw2,hg];simp
 have HR2:=hid (h.below hb2);have HXL2:Hid (Boxed w2 gl 48 (.slice none 0 0)):=hid (Ac hx hb2);have HK2:=hid (show True/\w2.heap[g1]?=some (.cells #[.int .i64 s,.int .i64 z] 42 (0,0))/\w2.heap[g2]?=some (.cells #[.int .i64 s',.int .i64 z'] 42 (0,0)) from ⟨trivial,Ac hk1 hb2,Ac hk2 hb2⟩);have HW:=hid hw2;have HG:=hid hg;have HB2:=hid hb2;have HXT:=hid hxt;have HXV:=hid hxv;have HSZ:=hid hs2;have HBB:=hid hb;have HCB:=hid hcb;have HLT:=hid htB;have HGE:=hid (show B<=w.heap.size/\B<=gl/\B<=g1/\B<=g2 from ⟨hBw,hgl,hg12.1,hg12.2⟩);have HON:Hid (S.on=true/\(∀ q,q < pn->Bytes (rd S q))):=hid ⟨h.on,h.bytes⟩;have HNL:=hid h.is.len;have HCN:=hid h.cnt;have hct:=hxt.cell;have hc0:w2.cell? ⟨tp,0,none⟩=some (.pointer (some ⟨gd,0,none⟩)):=coR HR2.out.tc;have HDO:=hid (Y9 HR2.out.dv);rw [HON.out.1] at HDO;clear hw2 hg hb2 hxt hxv hs2 h hb hBw hcb htB hgl hx hk1 hk2 hg12
 go_enter Tryz.func64,Tryz.ntmps64
 go_upto_region 1 with fail
 rw [<- HW.out,<- HG.out];clear HW
 go_wp2_with fail
 refine HDO.out.mono ?_;clear HDO hct hc0;rintro e w3 ⟨rfl,rfl⟩;obtain ⟨w5,hw5⟩:∃ w5,w5=(w2.alloc (.cells #[.int .i64 0] 3)).alloc (.cells #[.nilFunc] 182):=⟨_,rfl⟩
 have hb5:Below w2.heap.size w2 w5:=by rw [hw5];exact ((Below.refl _ _).alloc (Nat.le_refl _) _).alloc (by simp) _
 have hxm:Boxed w5 (g+2) 3 (.int .i64 0):=by rw [hw5,<- HSZ.out];exact heap_alloc2_old w2 _ _
 have hxh:Boxed w5 (g+2+1) 182 .nilFunc:=by rw [hw5,<- HSZ.out];exact heap_alloc2_new w2 _ _
 have HW5:=hid hw5;have HB5:=hid hb5;have HXM:=hid hxm;have HXH:=hid hxh;have hch:=hxh.cell;have hfh:=hxh.frozen;clear hw5 hb5 hxm hxh
 go_upto_region 5 with fail
 rw [<- HW5.out,HSZ.out];clear HW5
 go_upto_region 6 with fail
 obtain ⟨hv,hhv⟩:∃ hv,hv=Value.func (.func 114) #[] #[.pointer (some ⟨g+2,0,none⟩),.pointer (some ⟨g,0,none⟩),.pointer (some ⟨g+1,0,none⟩),.pointer (some ⟨g+2+1,0,none⟩)]:=⟨_,rfl⟩
 obtain ⟨w6,hw6⟩:∃ w6,w6=w5.setCell ⟨g+2+1,0,none⟩ (Value.func (.func 114) #[] #[.pointer (some ⟨g+2,0,none⟩),.pointer (some ⟨g,0,none⟩),.pointer (some ⟨g+1,0,none⟩),.pointer (some ⟨g+2+1,0,none⟩)]):=⟨_,rfl⟩
 rw [<- hw6];have hg6:w5.grownBy w6 (some (g+2+1)):=by rw [hw6];exact grownBy_setCell' w5 _ _
 have hxh6:Boxed w6 (g+2+1) 182 hv:=by rw [hw6,hhv];exact HXH.out.set _
 have hm6:Mv (fun i=>i=g+2+1) w5 w6:=Mv.of_grown hg6 fun j hj _=>by cases hj;rfl
 have hm26:Mv (fun i=>i=g+2+1) w2 w6:=(Mv.of_below HB5.out).trans hm6;have hlow:∀ i,i < w2.heap.size->¬ i=g+2+1:=fun i hi=>by have:=HSZ.out;omega
 have HMW6:Hid (Mv (fun b=>C b≠0\/B<=b) w w6):=hid ((Mv.of_below HB2.out).trans' hm26 fun i hi h=>by have:=HG.out;omega);have HENV:Hid (EnvR C gd pn n S tp pa root ep B (g+2) g (g+1) (g+2+1) gl g1 g2 s z s' z' w6 0 (.slice none 0 0) [] S.r):=hid (by
  have hge:=HGE.out;have hgg:=HG.out;have hgl2:=HXL2.out.lt;have hs:=HSZ.out;refine ⟨HR2.out.dv.keep (S:=S) hm26 (fun i hi=>HCB.out i (by omega)),HR2.out.tc.mv hm26 (fun e=>by have:=HLT.out;omega),hm6.row HXM.out (by omega),hm26.row HXT.out (hlow _ HXT.out.lt),hm26.row HXV.out (hlow _ HXV.out.lt),by rw [hhv] at hxh6;exact hxh6,hm26.row HXL2.out (hlow _ HXL2.out.lt),World.ownsRow_nil _ _ _ _,hm26.row HK2.out.2.1 (hlow _ (Aj HK2.out.2.1)),hm26.row HK2.out.2.2 (hlow _ (Aj HK2.out.2.2)),⟨by omega,by omega,by omega,by omega,hge.2.1,hge.2.2.1,hge.2.2.2⟩,HCB.out,HLT.out,HR2.out.ctp⟩)
 have HCRW6:Hid (CwR C w6 tp gd pa pn n {S with r:=S.r} root ep t ns b):=hid (HR2.out.step' HENV.out.dv HENV.out.tc);have hct:=HENV.out.bt.cell;have hcr:w6.cell? ⟨tp,2,none⟩=some (.int .i64 (root:Int)):=coR HENV.out.tc;clear hw6 hg6 hm6 hm26 hlow hch hfh hxh6 HXM HXH HB5 HXT HXV;cases t with
 | nil=>
  have hr0:root=0:=HCRW6.out.is.1;have hr1:((root:Int) == 0)=true:=by rw [hr0];rfl
  have hr2:(root=0)=True:=eq_true hr0;have HNN:Hid (ns=[]):=hid HCRW6.out.is.2;clear hr0
  go_wp2_with fail
  go_ret
  refine ⟨rfl,⟨_,HENV.out.bl,?_⟩,⟨S.r,HCRW6.out.more (by omega)⟩,HMW6.out⟩;exact World.ownsRow_nil _ _ _ _
 | mk D sh=>
  have hhead:=IsN.head HCRW6.out.is;have hpgr:=HCRW6.out.pg root hhead;have hr1:((root:Int) == 0)=false:=by rw [beq_eq_false_iff_ne];omega
  have hr2:(root=0)=False:=eq_false (by omega)
  go_wp2_with fail
  have hbq:=NK w6;have HENV7:=hid (HENV.out.below hbq);have HCRW7:=hid (HCRW6.out.below hbq);have HMW7:Hid (Mv (fun b=>C b≠0\/B<=b) w w6.drew):=hid (HMW6.out.trans (Mv.of_below hbq));have hchh:=HENV.out.bh.cell
  go_still_tail 6,U1
  change wpList _ _ _ _ _ w6.drew;generalize w6.drew=wq at *
  have HTHR:=hid (XG HON.out.1 HON.out.2 (by have:=HCRW7.out.bud;have:=HBB.out;omega) D root 1 0 sh ns [] (.slice none 0 0) wq S.r HENV7.out HCRW7.out.is HCRW7.out.good.1 (by decide) (by have:=HCRW7.out.deep;have h:D+1<=8:=this;omega) (by have:=HNL.out;have:=HCN.out;omega) (fun q hq=>(HCRW7.out.pg q hq).2) (by simp) (by have:=HCRW7.out.bud;have:=HBB.out;have:=HNL.out;have:=HCN.out;omega));clear hbq hchh hr1 hr2 hpgr hhead hct hcr HENV HCRW6 HMW6
  go_wp2_with fail
  refine HTHR.out.mono ?_;clear HTHR;rintro e w8 ⟨rfl,v8,he8,hl8,-,hm8⟩;have HE8:=hid he8;have HM8:=hid hm8;clear he8 hm8 hl8
  go_wp2_with fail
  go_ret
  refine ⟨rfl,⟨v8,HE8.out.bl,?_⟩,⟨S.r+(ns.length:Int),HCRW7.out.at HE8.out.dv HE8.out.tc ?_ ?_ (by omega)⟩,HMW7.out.trans' HM8.out fun i hi h=>?_⟩
  ·have h:=HE8.out.row;rw [List.nil_append] at h;exact h
  ·have:=HCRW7.out.bud;omega
  ·have:=HCRW7.out.bud;have:=HNL.out;have:=HCN.out;omega
  ·rcases h with (h | h | h) | h
   ·exact .inl h
   ·exact .inr (by have:=HGE.out.1;have:=HG.out;omega)
   ·exact .inr (by rw [h];exact HGE.out.2.1)
   ·cases h
end Go.Proofs.YtfhdojnobmfefaaGreatDoor
namespace Go.Inc
open Go Go.RowKit
theorem aJ {es:List Et} {a b:Ky} (hok:∀ x∈es,okE x=true) (ha:okK a=true) (hb:okK b=true):es.filter (rfB a b)=Pv es a b:=by
 unfold Pv Ya;rw [List.take_length];refine List.filter_congr fun x hx=>?_;have hk:=Bj (hok x hx);unfold rfB;rw [GV hk ha,GV hk hb]
 congr 1
 rw [Bool.eq_iff_iff];simp
end Go.Inc
namespace Go.Proofs.YtfhdojnobmfefaaGreatDoor
open Go.RowKit Go.Inc
set_option maxRecDepth 20000 in
theorem Ri {C:Nat->Nat} {w:World} {tp gd pa pn n:Nat} {S:St} {root:Nat} {ep:Int} {t:TrG} {ns:List Nat} {b:Nat} (h:CwR C w tp gd pa pn n S root ep t ns b) (hb:b<=900000) :
  Calls Tryz.prog 32 #[.pointer (some ⟨tp,0,none⟩)] w fun e w'=>(∃ v:Value,e=.returned (.tuple #[v,.int .i64 0])/\w'.ownsRow w.heap.size 3 1 v ns.length (Dl ns))/\(∃ r',CwR C w' tp gd pa pn n {S with r:=r'} root ep t ns (b+3000))/\Mv (fun i=>C i≠0) w w':=by
 obtain ⟨g,hg⟩:∃ g,g=w.heap.size:=⟨_,rfl⟩
 obtain ⟨w1,hw1⟩:∃ w1,w1=w.alloc (.cells #[.slice none 0 0] 54):=⟨_,rfl⟩
 have HW:=hid hw1;have HG:=hid hg;have HB:Hid (Below w.heap.size w w1):=hid (by rw [hw1];exact Ad w _);have hx:Boxed w1 g 54 (.slice none 0 0):=by rw [hw1,hg];exact Boxed.new w _ _
 have HIS:=hid (Eu h.tc);have HWK:=hid (VC g g (h.below HB.out) hb (by have:=hx.lt;omega) (fun i hi=>h.dv.new (by omega)) (by rw [hg];exact Aj h.tc) (Nat.le_refl _) hx);clear hw1 hg h hb hx
 go_enter Tryz.func32,Tryz.ntmps32
 go_wp2_with fail
 refine HIS.out.mono ?_;rintro e w2 ⟨rfl,rfl⟩
 go_upto_region 4 with fail
 rw [<- HW.out,<- HG.out];clear HW
 go_wp2_with fail
 refine HWK.out.mono ?_;clear HWK;rintro e w3 ⟨rfl,⟨v,hv,hr⟩,⟨r',hr'⟩,hm⟩;have hcv:=hv.cell;have HR:=hid hr;have HRR:=hid hr';have HM:Hid (Mv (fun i=>C i≠0) w w3):=hid ((Mv.of_below HB.out).trans' hm fun i hi h=>h.elim id fun h=>by have:=HG.out;omega);obtain ⟨a2,c2,rfl,-,-,-⟩:=AO hr;clear hv hr hr' hm;obtain ⟨L,hL⟩:∃ L,L=ns.length:=⟨_,rfl⟩
 have HL:=hid hL;rw [<- hL] at hcv HR;clear hL
 go_wp2_with fail
 go_ret2
 exact ⟨⟨_,rfl,by rw [<- HG.out,<- HL.out];exact HR.out⟩,⟨r',HRR.out⟩,HM.out⟩
set_option maxRecDepth 20000 in
theorem Rh {C:Nat->Nat} {w:World} {tp gd pa pn n:Nat} {S:St} {root:Nat} {ep:Int} {t:TrG} {ns:List Nat} {b:Nat} (s z s' z':Int) (h:CwR C w tp gd pa pn n S root ep t ns b) (hb:b<=900000) :
  Calls Tryz.prog 21 #[.pointer (some ⟨tp,0,none⟩),.agg #[.int .i64 s,.int .i64 z],.agg #[.int .i64 s',.int .i64 z']] w fun e w'=>(∃ (v:Value) (er:Int),e=.returned (.tuple #[v,.int .i64 er])/\((okK (s,z)=true/\okK (s',z')=true)->er=0/\w'.ownsRow w.heap.size 65 3 v (Pv t.en (s,z) (s',z')).length (Ak (Pv t.en (s,z) (s',z'))))/\(¬ (okK (s,z)=true/\okK (s',z')=true)->er=10))/\(∃ r',CwR C w' tp gd pa pn n {S with r:=r'} root ep t ns (b+3000))/\Mv (fun i=>C i≠0) w w':=by
 obtain ⟨g,hg⟩:∃ g,g=w.heap.size:=⟨_,rfl⟩
 obtain ⟨w0,hw0⟩:∃ w0,w0=(w.alloc (.cells #[.int .i64 s,.int .i64 z] 42)).alloc (.cells #[.int .i64 s',.int .i64 z'] 42):=⟨_,rfl⟩
 have HW:=hid hw0;have HG:=hid hg;have HB:Hid (Below w.heap.size w w0):=hid (by rw [hw0];exact ((Below.refl _ _).alloc (Nat.le_refl _) _).alloc (by simp) _);have hk1:w0.heap[g]?=some (.cells #[.int .i64 s,.int .i64 z] 42 (0,0)):=by rw [hw0,hg];exact heap_alloc2_old w _ _
 have hk2:w0.heap[g+1]?=some (.cells #[.int .i64 s',.int .i64 z'] 42 (0,0)):=by rw [hw0,hg];exact heap_alloc2_new w _ _
 have HR0:=hid (h.below HB.out);have HIS:=hid (Eu HR0.out.tc);have HRT:=hid (Gj s z w0);have HK1:=hid hk1;have HK2:=hid hk2;have HBB:=hid hb;have HLT:Hid (tp < g):=hid (by rw [hg];exact Aj h.tc);have HCB:Hid (∀ i,g<=i->C i=0):=hid fun i hi=>h.dv.new (by omega);have hc0:w0.cell? ⟨g,0,none⟩=some (.int .i64 s):=coR hk1;have hc1:w0.cell? ⟨g,1,none⟩=some (.int .i64 z):=coR hk1;clear hw0 hg hk1 hk2 h hb;cases hok1:okK (s,z) with
 | false=>
  rw [hok1] at HRT
  go_enter Tryz.func21,Tryz.ntmps21
  go_upto_region 1 with fail
  rw [<- HW.out,<- HG.out];clear HW
  go_wp2_with fail
  refine HIS.out.mono ?_;rintro e w2 ⟨rfl,rfl⟩
  go_wp2_with fail
  refine HRT.out.mono ?_;rintro e w3 ⟨rfl,hb3⟩;have HR3:=hid (HR0.out.below hb3);have HM3:Hid (Mv (fun i=>C i≠0) w w3):=hid ((Mv.of_below HB.out).trans (Mv.of_below hb3));clear hb3 hc0 hc1
  go_wp2_with fail
  go_ret2
  exact ⟨⟨_,_,rfl,(by rintro ⟨h,-⟩;cases h),fun _=>rfl⟩,⟨S.r,HR3.out.more (by omega)⟩,HM3.out⟩
 | true=>
  rw [hok1] at HRT;have HOK1:=hid hok1;clear hok1
  go_enter Tryz.func21,Tryz.ntmps21
  go_upto_region 1 with fail
  rw [<- HW.out,<- HG.out];clear HW
  go_wp2_with fail
  refine HIS.out.mono ?_;rintro e w2 ⟨rfl,rfl⟩
  go_wp2_with fail
  refine HRT.out.mono ?_;clear hc0 hc1;rintro e w3 ⟨rfl,hb3⟩;have HR3:=hid (HR0.out.below hb3);have HK13:=hid (Ac HK1.out hb3);have HK23:=hid (Ac HK2.out hb3);have HM3:Hid (Mv (fun i=>C i≠0) w w3):=hid ((Mv.of_below HB.out).trans (Mv.of_below hb3));have HS3:=hid hb3.size;have HRT2:=hid (Gj s' z' w3);clear hb3 HIS HRT;have hc0:w3.cell? ⟨g+1,0,none⟩=some (.int .i64 s'):=coR HK23.out;have hc1:w3.cell? ⟨g+1,1,none⟩=some (.int .i64 z'):=coR HK23.out;cases hok2:okK (s',z') with
  | false=>
   rw [hok2] at HRT2;have HOK2:=hid hok2;clear hok2
   go_wp2_with fail
   refine HRT2.out.mono ?_;clear hc0 hc1;rintro e w4 ⟨rfl,hb4⟩;have HR4:=hid (HR3.out.below hb4);have HM4:Hid (Mv (fun i=>C i≠0) w w4):=hid (HM3.out.trans (Mv.of_below hb4));clear hb4
   go_wp2_with fail
   go_ret2
   exact ⟨⟨_,_,rfl,(by rintro ⟨-,h⟩;rw [HOK2.out] at h;cases h),fun _=>rfl⟩,⟨S.r,HR4.out.more (by omega)⟩,HM4.out⟩
  | true=>
   rw [hok2] at HRT2;have HOK2:=hid hok2;clear hok2
   go_wp2_with fail
   refine HRT2.out.mono ?_;clear hc0 hc1;rintro e w4 ⟨rfl,hb4⟩;obtain ⟨w5,hw5⟩:∃ w5,w5=w4.alloc (.cells #[.slice none 0 0] 48):=⟨_,rfl⟩
   obtain ⟨gl,hgl⟩:∃ gl,gl=w4.heap.size:=⟨_,rfl⟩
   have hb5:Below w4.heap.size w4 w5:=by rw [hw5];exact Ad w4 _
   have hb35:Below w3.heap.size w3 w5:=hb4.trans (hb5.mono hb4.size);have hx5:Boxed w5 gl 48 (.slice none 0 0):=by rw [hw5,hgl];exact Boxed.new w4 _ _
   have HM5:Hid (Mv (fun i=>C i≠0) w w5):=hid (HM3.out.trans (Mv.of_below hb35));have hg5:g+1 < w3.heap.size:=Aj HK23.out;have HW5:=hid hw5;have HGL:=hid hgl;have HGOOD:=hid HR3.out.good;have HWK:=hid (VB g gl g (g+1) s z s' z' (HR3.out.below hb35) HBB.out (by have:=hb35.size;omega) HCB.out HLT.out (by have:=hb4.size;omega) hx5 (Ac HK13.out hb35) (Ac HK23.out hb35) ⟨Nat.le_refl _,Nat.le_succ _⟩);rw [aJ HGOOD.out.2.2 HOK1.out HOK2.out] at HWK;clear hw5 hgl hb4 hb5 hb35 hx5 hg5 HR3 HM3 HRT2
   go_upto_region 6 with fail
   rw [<- HW5.out,<- HGL.out];clear HW5
   go_wp2_with fail
   refine HWK.out.mono ?_;clear HWK;rintro e w6 ⟨rfl,⟨v,hv,hr⟩,⟨r',hr'⟩,hm⟩;have hcv:=hv.cell;have HR:=hid hr;have HRR:=hid hr';have HM:Hid (Mv (fun i=>C i≠0) w w6):=hid (HM5.out.trans' hm fun i hi h=>h.elim id fun h=>by have:=HG.out;omega);obtain ⟨a2,c2,rfl,-,-,-⟩:=AO hr;clear hv hr hr' hm;obtain ⟨L,hL⟩:∃ L,L=(Pv t.en (s,z) (s',z')).length:=⟨_,rfl⟩
   have HL:=hid hL;rw [<- hL] at hcv HR;clear hL
   go_wp2_with fail
   go_ret2
   exact ⟨⟨_,_,rfl,fun _=>⟨rfl,by rw [<- HG.out,<- HL.out];exact HR.out⟩,(by intro h;exact absurd ⟨by trivial,by trivial⟩ h)⟩,⟨r',HRR.out⟩,HM.out⟩
end Go.Proofs.YtfhdojnobmfefaaGreatDoor
