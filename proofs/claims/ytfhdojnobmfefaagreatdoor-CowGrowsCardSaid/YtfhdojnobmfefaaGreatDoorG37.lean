/- MADE SMALL. -/
import Derived.RangeFuncNested
import Derived.RangeFuncBound
import Derived.RangeFuncCalls
import Derived.RangeFuncLeaves
import Derived.Shelf.Abstract
import Derived.Shelf.RegionOpen
import Derived.WalkKit
import Derived.OwnWalkIn
import Derived.TacticsInMore
import Derived.LoopNIn
import Derived.LoopIn
import Derived.Test.YtfhdojnobmfefaaGreatDoorG36
namespace Go.Proofs.YtfhdojnobmfefaaGreatDoor
open Go.RowKit Go.Inc Go.Shelf
attribute [local go_sem] Oper.semAt_some
theorem NZ {f:Nat->Bool} {a b:Nat} (h:a<=b):Bc f a <+: Bc f b:=by
 obtain ⟨t,rfl⟩:∃ t,b=a+t:=⟨b - a,by omega⟩
 clear h
 induction t with
 | zero=>exact List.prefix_refl _
 | succ t ih=>
  rw [<- Nat.add_assoc];cases hf:f (a+t)
  ·rw [FI hf];exact ih
  ·rw [Kq hf];exact ih.trans (List.prefix_append _ _)
set_option maxRecDepth 100000 in
set_option maxHeartbeats 1000000 in
theorem YX (n:Nat) (hn:1<=n) (l bx:Nat) (okU:Nat->Prop) (vu:Value) (ks:List Nat) (hk:Ks ks) (J Jx:List Nat->World->Prop)
  (hY:∀ (pre:List Nat) (x:Nat) (W:World),J pre W->pre.length < (Az isF ks).length->YieldAt Fence.wide (n - 1) Tryz.prog l #[.int .i64 (x:Int)] W fun e W'=>
   (e=.returned (.bool true)/\J (pre++[x]) W'/\Mv (fun b=>¬ okU b) W W')\/(e=.returned (.bool false)/\Jx (pre++[x]) W'))
  (W:World) (hU:Used okU W bx vu ks) (h0:J [] W) :
  CallsIn Fence.wide n Tryz.prog 99 #[.func (.yield l) #[] #[],.pointer (some ⟨bx,0,none⟩)] W fun e W'=>(∃ v,e=.returned v)/\
   ((∃ ys,ys=Az isF ks/\J ys W')\/(∃ pre,pre <+: Az isF ks/\Jx pre W')):=by
 have HU:=hid hU;have hbx:=hU.box;have hro:Fence.wide.round=none:=rfl;have h49:Fence.wide.fn 100:=trivial;have HS:Hid (∀ x,Used okU x bx vu ks->∀ no:Nat,2<=no->no<=ks.length->CallsIn Fence.wide (n - 1) Tryz.prog 100 #[vu,.int .i64 (no:Int)] x fun e w'=>(∃ pg er,e=.returned (.tuple #[pg,er])/\ZQ ks no pg er)/\x=w'):=hid fun x hx no h2 h3=>callsIn_wide.2 (VD hx hk no h2 h3);have HL:Hid (2<=ks.length/\ks.length<=2048):=hid ⟨hk.n2,hk.n2048⟩;clear hU;refine callsIn_of_wp Tryz.func99 rfl trivial ?_ hro;simp only [Tryz.ntmps99,List.size_toArray,List.length_cons,List.length_nil,Nat.reduceAdd,Nat.reduceSub,Array.replicate_succ,Array.replicate_zero,List.push_toArray,List.append_toArray,List.nil_append,List.cons_append]
 gi_wp2
 refine (HS.out W HU.out 2 (Nat.le_refl _) HL.out.1).mono ?_;clear hbx;rintro e w1 ⟨⟨pg,er,rfl,hnx⟩,rfl⟩;have HNX:=hid hnx;clear hnx
 gi_wp2
 gi_loopw [3,4] (fun pg er wr=>∃ (no:Nat) (pre:List Nat),2<=no/\no<=ks.length/\ZQ ks no pg er/\pre=Bc (fK ks) no/\J pre wr/\Used okU wr bx vu ks)
  (fun pg er _=>if intOf er=0 then ks.length - (intOf pg).toNat else 0)
 case atStart=>
  have hz:Bc (fK ks) 2=[]:=by
   have h1:fK ks 0=false:=by unfold fK;rw [hk.k0];rfl
   have h2:fK ks 1=false:=by unfold fK;rw [hk.k1];rfl
   rw [FI h2,FI h1];rfl
  exact ⟨2,[],Nat.le_refl _,HL.out.1,HNX.out,hz.symm,h0,HU.out⟩
 case round=>
  obtain ⟨no,pre,hn2,hnl,hnx,hpre,hJ,hU⟩:=hrel;have HUR:=hid hU;have HPRE:=hid hpre;rcases hnx with ⟨rfl,rfl,hall⟩ | ⟨k,hk1,hk2,rfl,rfl,hf,hgap⟩
  ·have HALL:=hid hall;clear hall hU hpre
   gi_wp2
   go_end0
   exact ⟨⟨_,rfl⟩,.inl ⟨pre,by rw [HPRE.out,HALL.out],hJ⟩⟩
  ·have hpk:pre=Bc (fK ks) k:=by rw [hpre,hgap]
   have hp1:pre++[k]=Bc (fK ks) (k+1):=by rw [Kq hf,hpk]
   have hfin:pre++[k] <+: Az isF ks:=by
    rw [hp1,UU];exact NZ (by omega)
   have HFIN:=hid hfin;have HP1:=hid hp1;obtain ⟨fn,tmps,assign,body,hy,hR⟩:=hY pre k wr hJ (by have:=hfin.length_le;rw [List.length_append] at this;simp at this;omega);have hkb:(k:Int) < 2048:=by have:=HL.out;omega
   clear hpre hgap hf hpk hp1 hfin hU
   gi_wp2
   refine hR.mono ?_;rintro e W3 (⟨rfl,hJ3,hk3⟩ | ⟨rfl,hJx3⟩)
   ·have hU3:=HUR.out.mv hk3;have HU3:=hid hU3;have hbx:=hU3.box;clear hU3 hk3
    gi_wp2
    by_cases hlast:k+1<=ks.length
    ·refine (HS.out W3 HU3.out (k+1) (by omega) hlast).mono ?_;clear hbx;rintro e w4 ⟨⟨pg,er,rfl,hnx⟩,rfl⟩;have HNX2:=hid hnx;clear hnx
     gi_wp2
     go_roundw
     case rel=>exact ⟨k+1,pre++[k],by omega,hlast,HNX2.out,HP1.out,hJ3,HU3.out⟩
     case measure=>
      rcases HNX2.out with ⟨rfl,rfl,_⟩ | ⟨k2,h1,h2,rfl,rfl,_⟩
      iterate 2
       ·simp [intOf];omega
    ·omega
   ·have HX:=hid hJx3;clear hJx3
    gi_wp2
    refine bodyPost_ret (results_none rfl _ _ _) rfl ?_;exact ⟨⟨_,rfl⟩,.inr ⟨pre++[k],HFIN.out,HX.out⟩⟩
theorem Nb (n:Nat) (hn:1<=n) (bx:Nat) (okU:Nat->Prop) (vu:Value) (ks:List Nat) (hk:Ks ks) (w:World) (hU:Used okU w bx vu ks) :
  SeqStopsK Fence.wide n Tryz.prog 99 #[.pointer (some ⟨bx,0,none⟩)] (fun x:Nat=>#[Value.int .i64 (x:Int)]) (Mv fun b=>¬ okU b) (fun ys=>ys=Az isF ks) (fun pre=>pre <+: Az isF ks) (Az isF ks).length w:=fun l J Jx W hW _ _ hY h0=>
 YX n hn l bx okU vu ks hk J Jx hY W (hU.mv (Mv.of_below hW)) h0
end Go.Proofs.YtfhdojnobmfefaaGreatDoor
