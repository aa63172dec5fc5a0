/- MADE SMALL. -/
import Derived.BigRegion
import Derived.Test.YtfhdojnobmfefaaGreatDoorG44
import Derived.Test.YtfhdojnobmfefaaGreatDoorG17
import Derived.Test.YtfhdojnobmfefaaGreatDoorG46
import Derived.Test.YtfhdojnobmfefaaGreatDoorG12
import Derived.Test.YtfhdojnobmfefaaGreatDoorG42
import Derived.Test.YtfhdojnobmfefaaGreatDoorG40
import Derived.RangeFuncNested
import Derived.RangeFuncBound
import Derived.RangeFuncCalls
import Derived.RangeFuncLeaves
import Derived.Shelf.Abstract
import Derived.Shelf.RegionOpen
import Derived.WalkKit
import Derived.OwnWalkIn
import Derived.TacticsInMore
import Derived.LoopNIn
import Derived.LoopIn
namespace Go.Inc
open Go Go.RowKit
theorem NdW.nm {E B:Nat} {w:World} {v:Value} {lf:Bool} {es:List Et} (h:NdW E B w v lf es):∃ m:Nm,m.lf=lf/\m.es=es/\v=.agg #[.bool m.lf,.slice m.a m.es.length m.c]/\NmOk E B w m:=by
 obtain ⟨a,n,c,e,h1,h2⟩:=h;have hn:=h1.1;subst hn;exact ⟨⟨lf,a,c,es⟩,rfl,rfl,e,h1,h2⟩
theorem MH {E:Nat} (w:World) (m:Nm):(w.alloc (.cells #[.bool m.lf,.slice m.a m.es.length m.c] E)).ownsRow w.heap.size E 2 (.slice (some ⟨w.heap.size,0,none⟩) 1 1) 1 (cl Bd [m]):=
 ⟨rfl,.inr ⟨w.heap.size,1,#[.bool m.lf,.slice m.a m.es.length m.c],rfl,Nat.le_refl _,heap_alloc_new w _,Nat.le_refl _,by unfold maxLen;decide,rfl,rfl⟩⟩
theorem QE {E:Nat} (w:World) (m x:Nm):(w.alloc (.cells #[.bool m.lf,.slice m.a m.es.length m.c,.bool x.lf,.slice x.a x.es.length x.c] E)).ownsRow w.heap.size E 2 (.slice (some ⟨w.heap.size,0,none⟩) 2 2) 2 (cl Bd [m,x]):=
 ⟨rfl,.inr ⟨w.heap.size,2,#[.bool m.lf,.slice m.a m.es.length m.c,.bool x.lf,.slice x.a x.es.length x.c],rfl,Nat.le_refl _,heap_alloc_new w _,Nat.le_refl _,by unfold maxLen;decide,rfl,rfl⟩⟩
theorem Qr {es:List Et} {k:Ky} (h:inK es k=true):(Eo es k).length=es.length - 1:=by
 have hl:=Ij h;unfold Eo;rw [List.length_append,List.length_take,List.length_drop];omega
end Go.Inc
namespace Go.Proofs.YtfhdojnobmfefaaGreatDoor
open Go Go.RowKit Go.Inc
set_option maxRecDepth 20000 in
set_option maxHeartbeats 4000000 in
theorem Xu (m:Nm) (s z:Int) (B:Nat) (w:World) (hm:NmOk 65 B w m) (hlf:m.lf=true) (hc:AL true m.es=0) (hk:Nl (s,z)) (hin:inK m.es (s,z)=true) :
  Calls Tryz.prog 62 #[.agg #[.bool true,.slice m.a m.es.length m.c],.agg #[.int .i64 s,.int .i64 z]] w fun e w'=>(∃ (v:Value) (ms:List Nm),e=.returned v/\w'.ownsRow w.heap.size 114 2 v ms.length (cl Bd ms)/\(∀ x∈ms,x.lf=true/\NmOk 65 w.heap.size w' x)/\ms.map Nm.es=AY 0 m.es (s,z)/\ms.Pairwise Dj)/\Below w.heap.size w w':=by
 obtain ⟨lf,a,c,es⟩:=m;obtain rfl:lf=true:=hlf;simp only at hc hin ⊢;have HM:=hid hm;have HI:=hid hin;obtain ⟨n,hn⟩:∃ n,n=es.length:=⟨_,rfl⟩
 have HN:=hid hn;obtain ⟨g,hg⟩:∃ g,g=w.heap.size:=⟨_,rfl⟩
 have HG:=hid hg;obtain ⟨w0,hw0⟩:∃ w0,w0=(w.alloc (.cells #[.bool true,.slice a n c] 114)).alloc (.cells #[.int .i64 s,.int .i64 z] 42):=⟨_,rfl⟩
 have HW0:=hid hw0;have HB0:Hid (Below w.heap.size w w0):=hid (by rw [hw0];exact ((Below.refl _ _).alloc (Nat.le_refl _) _).alloc (by simp) _);have hx1:w0.heap[g]?=some (.cells #[.bool true,.slice a n c] 114 (0,0)):=by rw [hw0,hg];exact heap_alloc2_old w _ _
 have hx2:w0.heap[g+1]?=some (.cells #[.int .i64 s,.int .i64 z] 42 (0,0)):=by rw [hw0,hg];exact heap_alloc2_new w _ _
 have HX1:=hid hx1;have HX2:=hid hx2;have HND:Hid (NdOk w0 a n c es):=hid (by rw [hn];exact hm.1.below HB0.out);have HCK:=hid (LH a n c true es s z w0 HND.out hk);have HWO:Hid (woE true es (s,z)=0):=hid (Xw hc hin);have hc0:w0.cell? ⟨g,0,none⟩=some (.bool true):=coR hx1;have hc1:w0.cell? ⟨g,1,none⟩=some (.slice a n c):=coR hx1;have hc2:w0.cell? ⟨g+1,0,none⟩=some (.int .i64 s):=coR hx2;have hc3:w0.cell? ⟨g+1,1,none⟩=some (.int .i64 z):=coR hx2;rw [<- hn];by_cases h1:n=1
 ·have h1d:((n:Int) == 1)=true:=by rw [h1];rfl
  have HR:Hid (AY 0 es (s,z)=[]):=hid (by
   unfold AY;rw [if_pos (List.eq_nil_of_length_eq_zero (by rw [Qr hin];omega))])
  clear hm hin hn hg hw0 hx1 hx2 hc hk h1
  go_enter Tryz.func62,Tryz.ntmps62
  go_upto_region 1 with fail
  rw [<- HW0.out,<- HG.out]
  go_wp2_with fail
  go_ret
  refine ⟨⟨_,[],rfl,⟨rfl,.inl ⟨rfl,rfl⟩⟩,?_,?_,List.Pairwise.nil⟩,HB0.out⟩
  ·intro x hx;cases hx
  ·rw [HR.out];rfl
 ·have h1d:((n:Int) == 1)=false:=by
   have:¬ (n:Int)=1:=by omega
   simpa using this
  have HR:Hid (AY 0 es (s,z)=[Eo es (s,z)]):=hid (by
   unfold AY;rw [if_neg fun h=>by
    have h2:=Qr hin;have h3:=Ij hin;rw [h,List.length_nil] at h2;have:=Un es (s,z);omega])
  clear hm hin hn hg hw0 hx1 hx2 hc hk h1
  go_enter Tryz.func62,Tryz.ntmps62
  go_upto_region 1 with fail
  rw [<- HW0.out,<- HG.out]
  go_wp2_with fail
  refine HCK.out.mono ?_;clear HCK;rintro e w1 ⟨⟨v,rfl,-,h⟩,hb⟩;obtain ⟨m,m1,m2,rfl,m3⟩:=(h HWO.out).nm;have HM3:=hid m3;have HM1:=hid m1;have HM2:=hid m2;have HB1:=hid hb;have hx1:=Ac HX1.out hb;have HX11:=hid hx1;clear h hb hx1 m1 m2 m3 hc0 hc1 hc2 hc3
  go_wp2_with (refine Ae rfl 114 _ _ rfl g #[.bool m.lf,.slice m.a m.es.length m.c] rfl rfl 114 _ HX11.out (by kernel_rfl) rfl (by simp [Value.oneCell']) ?_)
  intro w2 hr2 hg2;have HR2:=hid hr2;have HG2:=hid hg2;have hd0:w2.cell? ⟨g,0,none⟩=some (.bool m.lf):=coR hr2;have hd1:w2.cell? ⟨g,1,none⟩=some (.slice m.a m.es.length m.c):=coR hr2;have HM4:Hid (NmOk 65 w0.heap.size w2 m):=hid (HM3.out.apart hg2 HX11.out (by decide));clear hr2 hg2
  go_wp2_with fail
  go_ret
  have hb2:Below w.heap.size w w2:=(HB0.out.trans (HB1.out.mono HB0.out.size)).grown HG2.out (HB0.out.trans (HB1.out.mono HB0.out.size)).size fun k hk=>by have:=HG.out;cases hk;omega
  have hb3:Below w2.heap.size w2 (w2.alloc (.cells #[.bool m.lf,.slice m.a m.es.length m.c] 114)):=(Below.refl _ _).alloc (Nat.le_refl _) _;refine ⟨⟨_,[m],rfl,AV (MH w2 m) hb2.size,?_,?_,List.pairwise_singleton _ _⟩,hb2.trans (hb3.mono hb2.size)⟩
  ·intro x hx;rw [List.mem_singleton] at hx;subst hx;exact ⟨HM1.out,(HM4.out.below hb3).weaken HB0.out.size⟩
  ·rw [HR.out];show [m.es]=_;rw [HM2.out]
end Go.Proofs.YtfhdojnobmfefaaGreatDoor
namespace Go.Inc
open Go Go.RowKit
theorem DC {ok:Nat->Prop} {w:World} {a:Option Addr} {es:List Et} (h:EtS ok w a es) (h0:es≠[]):∃ b o,a=some ⟨b,o,none⟩/\w.cell? ⟨b,o,none⟩=some (.int .i64 (es.getD 0 et0).1.1)/\w.cell? ⟨b,o+1,none⟩=some (.int .i64 (es.getD 0 et0).1.2)/\w.cell? ⟨b,o+2,none⟩=some (.int .i64 (es.getD 0 et0).2):=by
 rcases h with h | ⟨b,o,e1,-,h⟩
 ·exact absurd h h0
 ·have:=h 0 (List.length_pos_iff.2 h0);exact ⟨b,o,e1,by simpa using this⟩
theorem bW {es:List Et} (hc:AL true es=0) (b:Bool) (hl:es.length=16):AL true (if b then es.take 8 else es.drop 8)=0:=by
 cases b
 ·exact Zr hc (by omega)
 ·exact Zp hc (by omega) (by omega)
theorem Vb {es:List Et} {e:Et} (hc:AL true es=0) (he:okE e=true) (hl:es.length=16) (b:Bool):wiE true (if b then es.take 8 else es.drop 8) e=0:=by
 refine O7 (bW hc b hl) he (.inr ?_);cases b<;>simp<;>omega
theorem YQ {es:List Et} {e:Et} {LS:Bool} (hc:AL true es=0) (he:okE e=true) (hl:es.length=16) (hi:inK es e.1=false) (hls:LS=CZ e.1 (es.getD 8 et0).1) :
  BG 0 es e=if LS=true then [BN (es.take 8) e,es.drop 8] else [es.take 8,BN (es.drop 8) e]:=by
 obtain ⟨-,h2,-,-⟩:=Ba hc;have h8:okK (es.getD 8 et0).1=true:=by
  have hm:es.getD 8 et0∈es:=by
   rw [List.getD_eq_getElem?_getD,List.getElem?_eq_getElem (by omega)];exact List.getElem_mem _
  exact Bj (badN_false.1 h2 _ hm)
 unfold BG
 rw [if_neg (by rw [hi,hl];rintro (h | h);· cases h
                ·omega)]
 rw [hls,GV (Bj he) h8];by_cases h:plK e.1 < plK (es.getD 8 et0).1
 ·rw [if_pos h,if_pos (decide_eq_true h)]
 ·rw [if_neg h,if_neg (by simpa using h)]
end Go.Inc
namespace Go.Proofs.YtfhdojnobmfefaaGreatDoor
open Go Go.RowKit Go.Inc
set_option maxRecDepth 20000 in
set_option maxHeartbeats 8000000 in
theorem Ut (m:Nm) (s z p:Int) (B:Nat) (w:World) (hm:NmOk 65 B w m) (hlf:m.lf=true) (hc:AL true m.es=0) (he:okE ((s,z),p)=true) :
  Calls Tryz.prog 59 #[.agg #[.bool true,.slice m.a m.es.length m.c],.agg #[.int .i64 s,.int .i64 z,.int .i64 p]] w fun e w'=>(∃ (v:Value) (ms:List Nm),e=.returned v/\w'.ownsRow w.heap.size 114 2 v ms.length (cl Bd ms)/\(∀ x∈ms,x.lf=true/\NmOk 65 w.heap.size w' x)/\ms.map Nm.es=BG 0 m.es ((s,z),p)/\ms.Pairwise Dj)/\Below w.heap.size w w':=by
 obtain ⟨lf,a,c,es⟩:=m;obtain rfl:lf=true:=hlf;simp only at hc ⊢;have HM:=hid hm;have HCN:=hid hc;have HE:=hid he;obtain ⟨n,hn⟩:∃ n,n=es.length:=⟨_,rfl⟩
 have HN:=hid hn;obtain ⟨g,hg⟩:∃ g,g=w.heap.size:=⟨_,rfl⟩
 have HG:=hid hg;obtain ⟨w0,hw0⟩:∃ w0,w0=(w.alloc (.cells #[.bool true,.slice a n c] 114)).alloc (.cells #[.int .i64 s,.int .i64 z,.int .i64 p] 65):=⟨_,rfl⟩
 have HW0:=hid hw0;have HB0:Hid (Below w.heap.size w w0):=hid (by rw [hw0];exact ((Below.refl _ _).alloc (Nat.le_refl _) _).alloc (by simp) _);have hx1:w0.heap[g]?=some (.cells #[.bool true,.slice a n c] 114 (0,0)):=by rw [hw0,hg];exact heap_alloc2_old w _ _
 have hx2:w0.heap[g+1]?=some (.cells #[.int .i64 s,.int .i64 z,.int .i64 p] 65 (0,0)):=by rw [hw0,hg];exact heap_alloc2_new w _ _
 have HX1:=hid hx1;have HX2:=hid hx2;have HND:Hid (NdOk w0 a n c es):=hid (by rw [hn];exact hm.1.below HB0.out);have HCK:=hid (LJ a n c true es s z p w0 HND.out (JF he));have HC0:Hid (∀ x,Below w0.heap.size w0 x->x.cell? ⟨g,0,none⟩=some (.bool true)/\x.cell? ⟨g,1,none⟩=some (.slice a n c)/\x.cell? ⟨g+1,0,none⟩=some (.int .i64 s)/\x.cell? ⟨g+1,1,none⟩=some (.int .i64 z)/\x.cell? ⟨g+1,2,none⟩=some (.int .i64 p)):=hid fun x hx=>by
  have y1:=Ac HX1.out hx;have y2:=Ac HX2.out hx;refine ⟨?_,?_,?_,?_,?_⟩<;>first | (rw [cell_of_row _ _ _ _ _ _ y1];rfl) | (rw [cell_of_row _ _ _ _ _ _ y2];rfl)
 obtain ⟨hc0,hc1,hc2,hc3,hc4⟩:=HC0.out w0 (Below.refl _ _);rw [<- hn];obtain ⟨WE,hwe⟩:∃ WE,WE=wiE true es ((s,z),p):=⟨_,rfl⟩
 have HWE:=hid hwe;rw [<- hwe] at HCK;by_cases hr:inK es (s,z)=true\/n < 16
 ·have h0:WE=0:=by rw [hwe];exact O7 hc he (hn ▸ hr)
  have HR:Hid (BG 0 es ((s,z),p)=[BN es ((s,z),p)]):=hid (by unfold BG;rw [if_pos (hn ▸ hr)]);have hee:(WE == 0)=true:=by rw [h0];rfl
  have HZ:=hid h0;clear hm hn hg hw0 hx1 hx2 hc he hr hwe h0
  go_enter Tryz.func59,Tryz.ntmps59
  go_upto_region 1 with fail
  rw [<- HW0.out,<- HG.out]
  go_wp2_with fail
  refine HCK.out.mono ?_;clear HCK;rintro e w1 ⟨⟨v,rfl,-,h⟩,hb⟩;obtain ⟨m,m1,m2,rfl,m3⟩:=(h HZ.out).nm;have HM3:=hid m3;have HM1:=hid m1;have HM2:=hid m2;have HB1:=hid hb;clear h hb m1 m2 m3 hc0 hc1 hc2 hc3 hc4
  go_wp2_with (refine Ae rfl 114 _ _ rfl w1.heap.size #[.bool m.lf,.slice m.a m.es.length m.c] rfl rfl 114 _ (heap_alloc_new w1 _) (by kernel_rfl) rfl (by simp [Value.oneCell']) ?_)
  intro w2 hr2 hg2;have HR2:=hid hr2;have hd0:w2.cell? ⟨w1.heap.size,0,none⟩=some (.bool m.lf):=coR hr2;have hd1:w2.cell? ⟨w1.heap.size,1,none⟩=some (.slice m.a m.es.length m.c):=coR hr2;have HB2:Hid (Below w1.heap.size w1 w2):=hid ((Ad w1 _).grown hg2 (Ad w1 _).size fun k hk=>by cases hk;exact Nat.le_refl _);clear hr2 hg2
  go_wp2_with fail
  go_ret
  have hb2:Below w.heap.size w w2:=(HB0.out.trans (HB1.out.mono HB0.out.size)).trans (HB2.out.mono (Nat.le_trans HB0.out.size HB1.out.size));have hb3:Below w2.heap.size w2 (w2.alloc (.cells #[.bool m.lf,.slice m.a m.es.length m.c] 114)):=Ad _ _;refine ⟨⟨_,[m],rfl,AV (MH w2 m) hb2.size,?_,?_,List.pairwise_singleton _ _⟩,hb2.trans (hb3.mono hb2.size)⟩
  ·intro x hx;rw [List.mem_singleton] at hx;subst hx;exact ⟨HM1.out,((HM3.out.below HB2.out).below hb3).weaken HB0.out.size⟩
  ·rw [HR.out];show [m.es]=_;rw [HM2.out]
 ·have h16:n=16:=by
   have:=Ba hc;have h3:es.length<=16:=this.1;omega
  have hi:inK es (s,z)=false:=by
   cases h:inK es (s,z)
   ·rfl
   ·exact absurd (.inl h) hr
  have h0:WE=6:=by rw [hwe];exact LK hc he hi (by omega)
  have hee:(WE == 0)=false:=by rw [h0];rfl
  have HL16:Hid (es.length=16):=hid (hn ▸ h16);have HI:=hid hi;have HSP:Hid (spE true es=0):=hid (by unfold spE;rw [if_neg (by rw [hc];decide),if_neg (by omega)]);obtain ⟨LS,hls⟩:∃ L,L=CZ (s,z) (es.getD 8 et0).1:=⟨_,rfl⟩
  have HLS:=hid hls;clear hm hn hg hw0 hx1 hx2 hc he hr hwe h0 h16 hi hls
  go_enter Tryz.func59,Tryz.ntmps59
  go_upto_region 1 with fail
  rw [<- HW0.out,<- HG.out]
  go_wp2_with fail
  refine HCK.out.mono ?_;clear HCK;rintro e w1 ⟨⟨v,rfl,⟨lf1,a1,n1,c1,rfl⟩,-⟩,hb⟩;have HB1:=hid hb;obtain ⟨hd0,hd1,hd2,hd3,hd4⟩:=HC0.out w1 hb;clear hb hc0 hc1 hc2 hc3 hc4
  go_wp2_with (refine Ae rfl 114 _ _ rfl w1.heap.size #[.bool lf1,.slice a1 n1 c1] rfl rfl 114 _ (heap_alloc_new w1 _) (by kernel_rfl) rfl (by simp [Value.oneCell']) ?_)
  intro w2 hr2 hg2;have HB2:Hid (Below w0.heap.size w0 w2):=hid (HB1.out.trans (((Ad w1 _).grown hg2 (Ad w1 _).size fun k hk=>by cases hk;exact Nat.le_refl _).mono HB1.out.size));have HND2:Hid (NdOk w2 a n c es):=hid (HND.out.below HB2.out);have HSP2:=hid (VI a n c true es w2 HND2.out);clear hr2 hg2 hd0 hd1 hd2 hd3 hd4;obtain ⟨hc0,hc1,hc2,hc3,hc4⟩:=HC0.out w2 HB2.out
  go_wp2_with fail
  refine HSP2.out.mono ?_;clear HSP2;rintro e w3 ⟨⟨v,u,rfl,-,-,h⟩,hb⟩;obtain ⟨h1,h2⟩:=h HSP.out;obtain ⟨m1,m11,m12,rfl,m13⟩:=h1.nm;obtain ⟨m2,m21,m22,rfl,m23⟩:=h2.nm;rw [HL16.out] at m12 m22;have HM1:=hid (And.intro m11 (And.intro m12 m13));have HM2:=hid (And.intro m21 (And.intro m22 m23));have HB3:Hid (Below w0.heap.size w0 w3):=hid (HB2.out.trans (hb.mono HB2.out.size));clear h h1 h2 m11 m12 m13 m21 m22 m23 hb hc0 hc1 hc2 hc3 hc4;obtain ⟨q,hq⟩:∃ q,q=w3.heap.size:=⟨_,rfl⟩
  obtain ⟨y3,hy3⟩:∃ y,y=(w3.alloc (.cells #[.bool false,.slice none 0 0] 114)).alloc (.cells #[.bool false,.slice none 0 0] 114):=⟨_,rfl⟩
  have HBY:Hid (Below w3.heap.size w3 y3):=hid (by rw [hy3];exact ((Below.refl _ _).alloc (Nat.le_refl _) _).alloc (by simp) _);have HY1:Hid (y3.heap[q]?=some (.cells #[.bool false,.slice none 0 0] 114 (0,0))):=hid (by rw [hy3,hq];exact heap_alloc2_old w3 _ _);have HY2:Hid (y3.heap[q+1]?=some (.cells #[.bool false,.slice none 0 0] 114 (0,0))):=hid (by rw [hy3,hq];exact heap_alloc2_new w3 _ _);have HQ:=hid hq;have HY:=hid hy3;clear hq hy3
  go_wp2_with (rw [<- HY.out,<- HQ.out];refine Ae rfl 114 _ _ rfl q #[.bool m1.lf,.slice m1.a m1.es.length m1.c] rfl rfl 114 _ HY1.out (by kernel_rfl) rfl (by simp [Value.oneCell']) ?_)
  intro w4 hr4 hg4;have HR4:=hid hr4;have HY4:=hid (BQ HY2.out hg4 (by omega));have HB4:Hid (Below w3.heap.size w3 w4):=hid (HBY.out.grown hg4 HBY.out.size fun k hk=>by have:=HQ.out;cases hk;omega);clear hr4 hg4
  go_wp2_with (refine Ae rfl 114 _ _ rfl (q+1) #[.bool m2.lf,.slice m2.a m2.es.length m2.c] rfl rfl 114 _ HY4.out (by kernel_rfl) rfl (by simp [Value.oneCell']) ?_)
  intro w5 hr5 hg5;have HR5:=hid hr5;have HR45:=hid (BQ HR4.out hg5 (by omega));have HB5:Hid (Below w3.heap.size w3 w5):=hid (HB4.out.grown hg5 HB4.out.size fun k hk=>by have:=HQ.out;cases hk;omega);have HB05:Hid (Below w0.heap.size w0 w5):=hid (HB3.out.trans (HB5.out.mono HB3.out.size));have HM15:Hid (m1.lf=true/\m1.es=es.take 8/\NmOk 65 w2.heap.size w5 m1):=hid ⟨HM1.out.1,HM1.out.2.1,HM1.out.2.2.below HB5.out⟩;have HM25:Hid (m2.lf=true/\m2.es=es.drop 8/\NmOk 65 w2.heap.size w5 m2):=hid ⟨HM2.out.1,HM2.out.2.1,HM2.out.2.2.below HB5.out⟩;have hn0:m2.es≠[]:=by
   have:=HL16.out;rw [HM25.out.2.1];intro h;have h:=congrArg List.length h;rw [List.length_drop,List.length_nil] at h;omega
  obtain ⟨b,o,hmb,f1,f2,f3⟩:=DC HM25.out.2.2.2.ets hn0;obtain ⟨k0,hk0⟩:∃ k0:Ky,k0=(es.getD 8 et0).1:=⟨_,rfl⟩
  have hg0:(m2.es.getD 0 et0).1=k0:=by
   rw [hk0,HM25.out.2.1];simp [List.getD_eq_getElem?_getD,List.getElem?_drop]
  rw [hg0] at f1 f2;obtain ⟨k1,k2⟩:=k0;simp only at f1 f2;have HLE:Hid (∀ y,Calls Tryz.prog 66 #[.agg #[.int .i64 s,.int .i64 z],.agg #[.int .i64 k1,.int .i64 k2]] y fun e w'=>e=.returned (.bool LS)/\Below y.heap.size y w'):=hid fun y=>by
   rw [HLS.out,<- hk0];exact EN s z k1 k2 y
  obtain ⟨N2,hN2⟩:∃ N2,N2=m2.es.length:=⟨_,rfl⟩
  have hbl:=(HM25.out.2.2.blk hn0 b o hmb).2;have hN21:0 < N2:=by rw [hN2];exact List.length_pos_iff.2 hn0
  have hN20:0 < (N2:Int):=by rw [hN2];have:=List.length_pos_iff.2 hn0;omega
  have HN2:=hid hN2;have HMB:=hid hmb;have HC5:Hid (∀ x,Grew w5.drew x->(x.cell? ⟨g+1,0,none⟩=some (.int .i64 s)/\x.cell? ⟨g+1,1,none⟩=some (.int .i64 z))/\x.cell? ⟨q+1,1,none⟩=some (.slice (some ⟨b,o,none⟩) N2 m2.c)/\x.cell? ⟨b,o,none⟩=some (.int .i64 k1)/\x.cell? ⟨b,o+1,none⟩=some (.int .i64 k2)):=hid fun x hx=>by
   have hx2:Below w5.heap.size w5 x:=⟨hx.os,hx.tape,hx.output,hx.size,hx.block⟩
   obtain ⟨-,-,y1,y2,-⟩:=HC0.out x (HB05.out.trans (hx2.mono HB05.out.size));have y3:=Ac HR5.out hx2;exact ⟨⟨y1,y2⟩,by rw [cell_of_row _ _ _ _ _ _ y3,HN2.out,<- HMB.out];rfl,(hx2.cell hbl).trans f1,(hx2.cell hbl).trans f2⟩
  clear hr5 hg5 hn0 hmb f1 f2 f3 hk0 hg0 hN2
  go_wp2_with fail
  refine Ai 8 [EqN (.pointer (some ⟨g+1,0,none⟩)),EqN (.agg #[.int .i64 s,.int .i64 z]),EqN (.pointer (some ⟨q+1,1,none⟩)),EqN (.slice (some ⟨b,o,none⟩) N2 m2.c),EqN (.pointer (some ⟨b,o,none⟩)),EqN (.pointer (some ⟨b,o,none⟩)),EqN (.agg #[.int .i64 k1,.int .i64 k2]),EqN (.bool LS)] (by kernel_rfl) (by decide) (by kernel_rfl) ?_ ?_ ?_
  ·repeat' (first | exact List.forall_mem_nil _ | refine List.forall_mem_cons.2 ⟨?_,?_⟩)
   all_goals
    intro w w' v hw h
    first | exact h | exact h
  ·simp only [AllLt];refine ⟨⟨⟨⟨⟨⟨⟨⟨trivial,?_⟩,?_⟩,?_⟩,?_⟩,?_⟩,?_⟩,?_⟩,?_⟩
   all_goals
    intro o' ho;simp at ho;subst ho;intro ρ w5 hR hL hS hG;obtain ⟨hl1,hl2,-⟩:=hL
   ·refine Aa rfl ?_;intro bA K Q' hK;have e3:=hS 3 (by kernel_rfl);change ρ (.tmp 3)=_ at e3;simp only [execOp];go_simp;exact hK _ _ rfl (Grew.refl _)
   ·refine Aa rfl ?_;intro bA K Q' hK;have e26:=apG (hG 0 26);change ρ (.tmp 26)=_ at e26;obtain ⟨⟨y1,y2⟩,y3,y4,y5⟩:=HC5.out w5 hR;simp only [execOp];go_simp;exact hK _ _ rfl (Grew.refl _)
   ·refine Aa rfl ?_;intro bA K Q' hK;have e8:=hS 8 (by kernel_rfl);change ρ (.tmp 8)=_ at e8;simp only [execOp];go_simp;exact hK _ _ rfl (Grew.refl _)
   ·refine Aa rfl ?_;intro bA K Q' hK;have e28:=apG (hG 2 28);change ρ (.tmp 28)=_ at e28;obtain ⟨⟨y1,y2⟩,y3,y4,y5⟩:=HC5.out w5 hR;simp only [execOp];go_simp;exact hK _ _ rfl (Grew.refl _)
   ·refine Aa rfl ?_;intro bA K Q' hK;have e29:=apG (hG 3 29);change ρ (.tmp 29)=_ at e29;simp only [execOp];go_simp;exact hK _ _ rfl (Grew.refl _)
   ·refine Aa rfl ?_;intro bA K Q' hK;have e30:=apG (hG 4 30);change ρ (.tmp 30)=_ at e30;simp only [execOp];go_simp;exact hK _ _ rfl (Grew.refl _)
   ·refine Aa rfl ?_;intro bA K Q' hK;have e31:=apG (hG 5 31);change ρ (.tmp 31)=_ at e31;obtain ⟨⟨y1,y2⟩,y3,y4,y5⟩:=HC5.out w5 hR;simp only [execOp];go_simp;exact hK _ _ rfl (Grew.refl _)
   ·refine Aa rfl ?_;intro bA K Q' hK;have e27:=apG (hG 1 27);have e32:=apG (hG 6 32);change ρ (.tmp 27)=_ at e27;change ρ (.tmp 32)=_ at e32;simp only [execOp];go_simp;refine (HLE.out w5).mono ?_;rintro r9 w9 ⟨rfl,hb9⟩;exact hK _ _ rfl hb9
  ·intro vv w6 hR hG;have h12:vv 7=.bool LS:=hG.2;have hb6:Below w5.heap.size w5 w6:=⟨hR.os,hR.tape,hR.output,hR.size,hR.block⟩
   have HB6:=hid hb6;have HR456:=hid (Ac HR45.out hb6);have HR56:=hid (Ac HR5.out hb6);have HB06:Hid (Below w.heap.size w w6):=hid ((HB0.out.trans (HB05.out.mono HB0.out.size)).trans (hb6.mono (Nat.le_trans HB0.out.size HB05.out.size)));have HQW:Hid (w.heap.size<=q):=hid (by have:=HQ.out;have h1:=HB0.out.size;have h2:=HB3.out.size;omega);have HS2:Hid (w.heap.size<=w2.heap.size):=hid (by have h1:=HB0.out.size;have h2:=HB2.out.size;omega);have HNE1:Hid (m1.es≠[]):=hid (by
    have:=HL16.out;rw [HM15.out.2.1];intro h;have h:=congrArg List.length h;rw [List.length_take,List.length_nil] at h;omega)
   have HNE2:Hid (m2.es≠[]):=hid (by
    have:=HL16.out;rw [HM25.out.2.1];intro h;have h:=congrArg List.length h;rw [List.length_drop,List.length_nil] at h;omega)
   obtain ⟨-,-,hz4,hz5,hz6⟩:=HC0.out w6 (HB05.out.trans (hb6.mono HB05.out.size));have hz0:w6.cell? ⟨q,0,none⟩=some (.bool m1.lf):=coR HR456.out;have hz1:w6.cell? ⟨q,1,none⟩=some (.slice m1.a m1.es.length m1.c):=coR HR456.out;have hz2:w6.cell? ⟨q+1,0,none⟩=some (.bool m2.lf):=coR HR56.out;have hz3:w6.cell? ⟨q+1,1,none⟩=some (.slice m2.a m2.es.length m2.c):=coR HR56.out;have HPT:Hid (BG 0 es ((s,z),p)=if LS=true then [BN (es.take 8) ((s,z),p),es.drop 8] else [es.take 8,BN (es.drop 8) ((s,z),p)]):=hid (YQ HCN.out HE.out HL16.out HI.out HLS.out);clear hG hR hb6 HLE HC5;simp [stG,stU,Au,Act.put,h12];clear h12;cases LS with
   | true=>
    rw [if_pos rfl] at HPT;have HWI:Hid (wiE true m1.es ((s,z),p)=0):=hid (by
     rw [HM15.out.2.1];exact Vb HCN.out HE.out HL16.out true)
    have HND6:Hid (NdOk w6 m1.a m1.es.length m1.c m1.es):=hid (HM15.out.2.2.1.below HB6.out);have HCK6:=hid (LJ m1.a m1.es.length m1.c true m1.es s z p w6 HND6.out (JF HE.out))
    go_wp2_with fail
    rw [HM15.out.1];refine HCK6.out.mono ?_;clear HCK6;rintro e w7 ⟨⟨v,rfl,-,h⟩,hb⟩;obtain ⟨m3,m31,m32,rfl,m33⟩:=(h HWI.out).nm;have HM3:=hid (And.intro m31 (And.intro m32 m33));have HB7:=hid hb;have HR7:=hid (Ac HR456.out hb);have HK7:=hid (Ac HR56.out hb);clear h hb m31 m32 m33 hz0 hz1 hz2 hz3 hz4 hz5 hz6
    go_wp2_with (refine Ae rfl 114 _ _ rfl (q) #[.bool m3.lf,.slice m3.a m3.es.length m3.c] rfl rfl 114 _ HR7.out (by kernel_rfl) rfl (by simp [Value.oneCell']) ?_)
    intro w8 hr8 hg8;have hk8:=BQ HK7.out hg8 (by omega);have hd0:w8.cell? ⟨q,0,none⟩=some (.bool m3.lf):=coR hr8;have hd1:w8.cell? ⟨q,1,none⟩=some (.slice m3.a m3.es.length m3.c):=coR hr8;have hd2:w8.cell? ⟨q+1,0,none⟩=some (.bool m2.lf):=coR hk8;have hd3:w8.cell? ⟨q+1,1,none⟩=some (.slice m2.a m2.es.length m2.c):=coR hk8;have HM38:Hid (NmOk 65 w6.heap.size w8 m3):=hid (HM3.out.2.2.apart hg8 HR7.out (by decide));have HM18:Hid (NmOk 65 w2.heap.size w8 m2):=hid (((HM25.out.2.2.below HB6.out).below HB7.out).apart hg8 HR7.out (by decide));have HB8:Hid (Below w.heap.size w w8):=hid ((HB06.out.trans (HB7.out.mono HB06.out.size)).grown hg8 (HB06.out.trans (HB7.out.mono HB06.out.size)).size fun k hk=>by have:=HQW.out;cases hk;omega);have HLT6:Hid (∀ b o,m2.a=some ⟨b,o,none⟩->b < w6.heap.size):=hid fun b o hb=>((HM25.out.2.2.below HB6.out).blk (HNE2.out) b o hb).2;clear hr8 hg8 hk8
    go_wp2_with fail
    go_ret
    have hb9:Below w8.heap.size w8 (w8.alloc (.cells #[.bool m3.lf,.slice m3.a m3.es.length m3.c,.bool m2.lf,.slice m2.a m2.es.length m2.c] 114)):=Ad _ _;refine ⟨⟨_,[m3,m2],rfl,AV (QE w8 m3 m2) HB8.out.size,?_,?_,?_⟩,HB8.out.trans (hb9.mono HB8.out.size)⟩
    ·intro x hx;simp only [List.mem_cons,List.not_mem_nil,or_false] at hx;rcases hx with rfl | rfl
     ·exact ⟨HM3.out.1,(HM38.out.below hb9).weaken HB06.out.size⟩
     ·exact ⟨HM25.out.1,(HM18.out.below hb9).weaken HS2.out⟩
    ·rw [HPT.out];show [m3.es,m2.es]=_;rw [HM3.out.2.1,HM15.out.2.1,HM25.out.2.1]
    ·refine List.pairwise_cons.2 ⟨fun y hy b1 o1 b2 o2 e1 e2=>.inl ?_,List.pairwise_singleton _ _⟩;rw [List.mem_singleton] at hy;subst hy;have h1:=HLT6.out _ _ e2;have h2:=(HM38.out.blk (by rw [HM3.out.2.1];exact FX _ _) _ _ e1).1;omega
   | false=>
    rw [if_neg (by decide)] at HPT;have HWI:Hid (wiE true m2.es ((s,z),p)=0):=hid (by
     rw [HM25.out.2.1];exact Vb HCN.out HE.out HL16.out false)
    have HND6:Hid (NdOk w6 m2.a m2.es.length m2.c m2.es):=hid (HM25.out.2.2.1.below HB6.out);have HCK6:=hid (LJ m2.a m2.es.length m2.c true m2.es s z p w6 HND6.out (JF HE.out))
    go_wp2_with fail
    rw [HM25.out.1];refine HCK6.out.mono ?_;clear HCK6;rintro e w7 ⟨⟨v,rfl,-,h⟩,hb⟩;obtain ⟨m3,m31,m32,rfl,m33⟩:=(h HWI.out).nm;have HM3:=hid (And.intro m31 (And.intro m32 m33));have HB7:=hid hb;have HR7:=hid (Ac HR56.out hb);have HK7:=hid (Ac HR456.out hb);clear h hb m31 m32 m33 hz0 hz1 hz2 hz3 hz4 hz5 hz6
    go_wp2_with (refine Ae rfl 114 _ _ rfl (q+1) #[.bool m3.lf,.slice m3.a m3.es.length m3.c] rfl rfl 114 _ HR7.out (by kernel_rfl) rfl (by simp [Value.oneCell']) ?_)
    intro w8 hr8 hg8;have hk8:=BQ HK7.out hg8 (by omega);have hd0:w8.cell? ⟨q+1,0,none⟩=some (.bool m3.lf):=coR hr8;have hd1:w8.cell? ⟨q+1,1,none⟩=some (.slice m3.a m3.es.length m3.c):=coR hr8;have hd2:w8.cell? ⟨q,0,none⟩=some (.bool m1.lf):=coR hk8;have hd3:w8.cell? ⟨q,1,none⟩=some (.slice m1.a m1.es.length m1.c):=coR hk8;have HM38:Hid (NmOk 65 w6.heap.size w8 m3):=hid (HM3.out.2.2.apart hg8 HR7.out (by decide));have HM18:Hid (NmOk 65 w2.heap.size w8 m1):=hid (((HM15.out.2.2.below HB6.out).below HB7.out).apart hg8 HR7.out (by decide));have HB8:Hid (Below w.heap.size w w8):=hid ((HB06.out.trans (HB7.out.mono HB06.out.size)).grown hg8 (HB06.out.trans (HB7.out.mono HB06.out.size)).size fun k hk=>by have:=HQW.out;cases hk;omega);have HLT6:Hid (∀ b o,m1.a=some ⟨b,o,none⟩->b < w6.heap.size):=hid fun b o hb=>((HM15.out.2.2.below HB6.out).blk (HNE1.out) b o hb).2;clear hr8 hg8 hk8
    go_wp2_with fail
    go_ret
    have hb9:Below w8.heap.size w8 (w8.alloc (.cells #[.bool m1.lf,.slice m1.a m1.es.length m1.c,.bool m3.lf,.slice m3.a m3.es.length m3.c] 114)):=Ad _ _;refine ⟨⟨_,[m1,m3],rfl,AV (QE w8 m1 m3) HB8.out.size,?_,?_,?_⟩,HB8.out.trans (hb9.mono HB8.out.size)⟩
    ·intro x hx;simp only [List.mem_cons,List.not_mem_nil,or_false] at hx;rcases hx with rfl | rfl
     ·exact ⟨HM15.out.1,(HM18.out.below hb9).weaken HS2.out⟩
     ·exact ⟨HM3.out.1,(HM38.out.below hb9).weaken HB06.out.size⟩
    ·rw [HPT.out];show [m1.es,m3.es]=_;rw [HM3.out.2.1,HM15.out.2.1,HM25.out.2.1]
    ·refine List.pairwise_cons.2 ⟨fun y hy b1 o1 b2 o2 e1 e2=>.inl ?_,List.pairwise_singleton _ _⟩;rw [List.mem_singleton] at hy;subst hy;have h1:=HLT6.out _ _ e1;have h2:=(HM38.out.blk (by rw [HM3.out.2.1];exact FX _ _) _ _ e2).1;omega
end Go.Proofs.YtfhdojnobmfefaaGreatDoor
namespace Go.Inc
open Go Go.RowKit
theorem AU {T B s n b T':Nat} {w:World} {v:Value} {xs:List Value} {cs:Array Value} {fz:Nat×Nat} (h:w.ownsRow B T s v n xs) (hb:w.heap[b]?=some (.cells cs T' fz)) (hT:T≠T'):v.ownBlock≠some b:=by
 intro e;rcases h.2 with ⟨rfl,_⟩ | ⟨g,cap,cur,rfl,_,hgg,_⟩
 ·cases e
 ·have:g=b:=by simpa [Value.ownBlock] using e
  subst this;rw [hgg] at hb;simp only [Option.some.injEq,Obj.cells.injEq] at hb;exact hT hb.2.1
theorem Ko {T B s n b:Nat} {w:World} {v:Value} {xs:List Value} (h:w.ownsRow B T s v n xs) (hb:v.ownBlock=some b):b < w.heap.size:=by
 rcases h.2 with ⟨rfl,_⟩ | ⟨g,cap,cur,rfl,_,hgg,_⟩
 ·cases hb
 ·have:g=b:=by simpa [Value.ownBlock] using hb
  subst this;exact Aj hgg
theorem DR {T B s n T' B' s' m:Nat} {w:World} {v u:Value} {xs ys:List Value} (h:w.ownsRow B T s v n xs) (k:w.ownsRow B' T' s' u m ys) (hT:T≠T'):∀ b,v.ownBlock=some b->u.ownBlock≠some b:=by
 intro b hb;rcases h.2 with ⟨rfl,_⟩ | ⟨g,cap,cur,rfl,_,hgg,_⟩
 ·cases hb
 ·have:g=b:=by simpa [Value.ownBlock] using hb
  subst this;exact AU k hgg (Ne.symm hT)
theorem Ia {P:Program} (w:World) (base:Nat) (t ty e:TypeId) (i:TypeInfo) (z:Value) (size bytes:Nat) (ht:P.underlying t=some (.slice e)) (hi:P.info? e=some i) (hz:i.zero=some z)
  (hsize:i.size=size) (hby:i.bytes=bytes) (hzs:z.cells.size=size) (hsz:0 < size)
  (v:Value) (n:Nat) (xs:List Value) (hown:w.ownsRow base e size v n xs)
  (ad:Addr) (m c:Nat) (news:List Value) (hl:news.length=m * size) (hnews:∀ j u,news[j]?=some u->w.cell? (ad.add j)=some u) (h1:∀ u∈news,u.oneCell'=true)
  (h63:n+m<=maxLen) (hbytes:(n+m) * bytes<=140737488355328) (hbase:base<=w.heap.size) :
  ∃ v' w',(Builtin.append_ #[t,t] ty #[v,.slice (some ad) m c]).run P w=.ok v' w'/\w'.ownsRow base e size v' (n+m) (xs++news)/\w.grownBy w' v.ownBlock/\Nw w v v':=by
 obtain ⟨v',w',hr,h2,h3,-⟩:=run_append_own (P:=P) w base t ty e i z size bytes ht hi hz hsize hby hzs hsz v n xs hown ad m c news hl hnews h1 h63 hbytes hbase;have hnw:Nw w v v':=by
  have hsmall:n+m<=9223372036854775807:=by simp only [maxLen] at h63;omega
  rcases hown.2 with ⟨rfl,rfl⟩ | ⟨g,cap,cur,rfl,hbg,hg,hnc,hcm,hcs,htake⟩
  ·by_cases hm:m=0
   ·subst hm;have hn:news=[]:=List.eq_nil_of_length_eq_zero (by simpa using hl);subst hn;have hr2:(Builtin.append_ #[t,t] ty #[.slice none 0 0,.slice (some ad) 0 c]).run P w=.ok (.slice none 0 0) w:=by
     simp [Builtin.append_,run_underlying ht,sizeOf,typeInfo,hi,Builtin.lenOf,Builtin.firstCells,loadCells,loadCellsFrom]
    rw [hr2] at hr;cases hr;exact .inl rfl
   ·have hr2:=run_append_nil (P:=P) w t ty e i z ht hi hz ad m c news (by rw [hsize];exact hl) hnews (by omega) (by omega) (by rw [hby];have hb:=hbytes;simp only [Nat.zero_add] at hb;omega);rw [hr2] at hr;cases hr;exact .inr ⟨_,rfl,Nat.le_refl _⟩
  ·by_cases hroom:n+m<=cap
   ·have hr2:=run_append_room (P:=P) w t ty e i ht hi g n cap cur hg ad m c news (by rw [hsize];exact hl) hnews h1 hroom (by rw [hl,hcs,hsize,<- Nat.add_mul];exact Nat.mul_le_mul_right _ hroom);rw [hr2] at hr;cases hr;exact .inl rfl
   ·have ER:∀ j u,xs[j]?=some u->w.cell? ((⟨g,0,none⟩:Addr).add j)=some u:=hown.cells (g:=g) rfl;have hr2:=run_append_grow (P:=P) w t ty e i z ht hi hz ⟨g,0,none⟩ n cap xs (by rw [hsize];exact hown.1) ER ad m c news (by rw [hsize];exact hl) hnews (by omega) (by omega) (growslice_fits (by omega) (by rw [hby];exact hbytes));rw [hr2] at hr;cases hr;exact .inr ⟨_,rfl,Nat.le_refl _⟩
 exact ⟨v',w',hr,h2,h3,hnw⟩
def zv (gs:List Int):List Value:=gs.map fun z=>.int .i64 z
theorem RU (a b:List Int):zv (a++b)=zv a++zv b:=List.map_append
theorem eu (a:List Int):(zv a).length=a.length:=List.length_map _
def RowN (m:Nm) (T:TypeId) (x:World) (v:Value):Prop:=∃ b,v=.slice (some ⟨b,0,none⟩) 1 1/\x.heap[b]?=some (.cells #[.bool m.lf,.slice m.a m.es.length m.c] T (0,0))
theorem RowN.kept {m:Nm} {T:TypeId} {x y:World} {v:Value} (h:RowN m T x v) (hg:Grew x y):RowN m T y v:=by
 obtain ⟨b,h1,h3⟩:=h;exact ⟨b,h1,Ac h3 hg⟩
theorem SQ {m:Nm} {T:TypeId} {x:World} {b:Nat} (h:x.heap[b]?=some (.cells #[.bool m.lf,.slice m.a m.es.length m.c] T (0,0))):∀ j u,(Bd m)[j]?=some u->x.cell? ((⟨b,0,none⟩:Addr).add j)=some u:=by
 intro j u hu;rw [Addr.add_lit,cell_of_row _ _ _ _ _ _ h];simpa [Bd] using hu
theorem Nw.apart {w:World} {v v1 u:Value} (h:Nw w v v1) (hu:∀ b,u.ownBlock=some b->v.ownBlock≠some b) (hl:∀ b,u.ownBlock=some b->b < w.heap.size):∀ b,u.ownBlock=some b->v1.ownBlock≠some b:=by
 intro b hb e;rcases h with h | ⟨j,h1,h2⟩
 ·exact hu b hb (h ▸ e)
 ·rw [h1] at e;cases e;have:=hl _ hb;omega
theorem Vg {e:Et} {T:TypeId} {x:World} {b:Nat} (h:x.heap[b]?=some (.cells #[.int .i64 e.1.1,.int .i64 e.1.2,.int .i64 e.2] T (0,0))):EtS (fun _=>True) x (some ⟨b,0,none⟩) [e]:=.inr ⟨b,0,rfl,trivial,fun i hi=>by
 obtain rfl:i=0:=by simpa using hi
 refine ⟨?_,?_,?_⟩<;>(rw [cell_of_row _ _ _ _ _ _ h];rfl)⟩
theorem NmOk.far {F:Nat->Prop} {N B:Nat} {w w':World} {m:Nm} (h:NmOk N B w m) (hne:m.es≠[]) (hm:Mv F w w') (h4:∀ b o,m.a=some ⟨b,o,none⟩->¬ F b):NmOk N B w' m:=h.keepA fun b o hb=>hm.block b (h.blk hne b o hb).2 (h4 b o hb)
def Nm.nd (m:Nm):Nd:=(m.lf,m.es)
theorem NmOk.mvT {F:Nat->Prop} {N B:Nat} {w w':World} {m:Nm} (h:NmOk N B w m) (hm:Mv F w w') (hF:∀ b cs,w.heap[b]?=some (.cells cs N (0,0))->¬ F b):NmOk N B w' m:=h.keep fun b cs _ hb=>hm.block b (Aj hb) (hF b cs hb)
theorem Xo (n:Nat) (l:List Nd) (x:Nd):CW n (l++[x])=CW n l++[((x.2.getD 0 et0).1,-((n+l.length:Nat):Int) - 1)]:=by rw [RN];rfl
end Go.Inc
namespace Go.Proofs.YtfhdojnobmfefaaGreatDoor
open Go Go.RowKit Go.Inc
theorem YP:(Tryz.prog.info? 114).map (fun i=>(i.zero,i.size,i.bytes))=some (some (.agg #[.bool false,.slice none 0 0]),2,32):=by kernel_rfl
structure JobM (B:Nat) (w:World) (jb tp:Nat) (fs:List Nm) (gs:List Int) (vf vg:Value):Prop where
 blk:w.heap[jb]?=some (.cells #[.pointer (some ⟨tp,0,none⟩),vf,vg] 168 (0,0))
 fr:w.ownsRow B 114 2 vf fs.length (cl Bd fs)
 gn:w.ownsRow B 3 1 vg gs.length (zv gs)
 nds:∀ x∈fs,x.es≠[]/\NmOk 65 B w x
 dj:fs.Pairwise Dj
 ge:B<=jb
theorem JobM.far {F:Nat->Prop} {B jb tp:Nat} {fs:List Nm} {gs:List Int} {vf vg:Value} {w w':World} (h:JobM B w jb tp fs gs vf vg) (hm:Mv F w w') (h1:¬ F jb) (h2:∀ b,vf.ownBlock=some b->¬ F b) (h3:∀ b,vg.ownBlock=some b->¬ F b) (h4:∀ x∈fs,∀ b o,x.a=some ⟨b,o,none⟩->¬ F b):JobM B w' jb tp fs gs vf vg:=
 ⟨hm.row h.blk h1,Ag h.fr hm h2,Ag h.gn hm h3,fun x hx=>⟨(h.nds x hx).1,(h.nds x hx).2.far (h.nds x hx).1 hm (h4 x hx)⟩,h.dj,h.ge⟩
set_option maxRecDepth 20000 in
set_option maxHeartbeats 8000000 in
theorem P6 {B B2 jb tp:Nat} {fs ms:List Nm} {gs:List Int} {vf vg v:Value} {w:World} (h:JobM B w jb tp fs gs vf vg) (hv:w.ownsRow B2 114 2 v ms.length (cl Bd ms)) (hap:∀ b,v.ownBlock=some b->vf.ownBlock≠some b) (hms:∀ x∈ms,x.es≠[]/\NmOk 65 B w x) (hdj:(fs++ms).Pairwise Dj) (hB:B<=w.heap.size) (hl:fs.length+ms.length<=100) :
  Calls Tryz.prog 106 #[.pointer (some ⟨jb,0,none⟩),v] w fun e w'=>∃ v1 vf',e=.returned v1/\w'.ownsRow w.heap.size 65 3 v1 ms.length (Ak (CW fs.length (ms.map Nm.nd)))/\JobM B w' jb tp (fs++ms) gs vf' vg/\Nw w vf vf'/\Mv (fun b=>b=jb\/vf.ownBlock=some b) w w':=by
 have HH:=hid h;have HV:=hid hv;have HAP:=hid hap;have HMS:=hid hms;have HDJ:=hid hdj;have HB:=hid hB;have HL:=hid hl;obtain ⟨M,hM⟩:∃ M,M=ms.length:=⟨_,rfl⟩
 have HM:=hid hM;obtain ⟨av,cv,rfl,-,hvc,hvm⟩:=AO hv;have HVL:Hid (∀ b,(Value.slice av ms.length cv).ownBlock=some b->b < w.heap.size):=hid fun b hb=>Ko hv hb;have HXL:Hid (∀ x∈fs++ms,∀ b o,x.a=some ⟨b,o,none⟩->b < w.heap.size):=hid fun x hx b o hb=>by
  rcases List.mem_append.1 hx with hx | hx
  ·exact ((h.nds x hx).2.blk (h.nds x hx).1 b o hb).2
  ·exact ((hms x hx).2.blk (hms x hx).1 b o hb).2
 rw [<- hM] at HV HAP HVL ⊢;have hM1:(M:Int)<=100:=by omega
 clear h hv hap hms hdj hB hl hM hvc hvm
 go_enter Tryz.func106,Tryz.ntmps106
 go_wp2_with fail
 go_loopw [5,10] (fun l i wr=>∃ (k:Nat) (vf' v1:Value),v1=l/\i=.int .i64 (k:Int)/\k<=M/\JobM B wr jb tp (fs++ms.take k) gs vf' vg/\wr.ownsRow B2 114 2 (.slice av M cv) M (cl Bd ms)/\(∀ x∈ms,x.es≠[]/\NmOk 65 B wr x)/\wr.ownsRow w.heap.size 65 3 v1 k (Ak (CW fs.length ((ms.take k).map Nm.nd)))/\Nw w vf vf'/\Mv (fun b=>b=jb\/vf.ownBlock=some b) w wr) (fun _ i _=>M - (intOf i).toNat)
 case atStart=>exact ⟨0,vf,_,rfl,rfl,Nat.zero_le _,by rw [List.take_zero,List.append_nil];exact HH.out,HV.out,HMS.out,⟨rfl,.inl ⟨rfl,rfl⟩⟩,Nw.refl _ _,Mv.refl _ _⟩
 case round=>
  obtain ⟨k,vf',v1,rfl,rfl,hkM,hj,hv1,hms1,hl1,hnw,hmv⟩:=hrel;have HJ:=hid hj;have HV1:=hid hv1;have HMS1:=hid hms1;have HL1:=hid hl1;have HNW:=hid hnw;have HMV:=hid hmv;clear hj hv1 hms1 hl1 hnw hmv;by_cases hk:k < M
  ·have hkl:k < ms.length:=by rw [<- HM.out];exact hk
   obtain ⟨x,hx⟩:∃ x,x=ms[k]:=⟨_,rfl⟩
   have hxm:x∈ms:=by rw [hx];exact List.getElem_mem _
   have hxk:ms[k]?=some x:=by rw [List.getElem?_eq_getElem hkl,hx]
   have HXK:Hid (ms.take (k+1)=ms.take k++[x]):=hid (by rw [List.take_add_one,hxk];rfl);have HXM:=hid hxm;obtain ⟨bv,c,hbv,-,hlt,-,hmc,hcl⟩:=GM (HM.out ▸ HV1.out) FM (by intro h;rw [h] at hkl;cases hkl);simp only [Value.slice.injEq] at hbv;obtain ⟨rfl,-,rfl⟩:=hbv;have hcx0:wr.cell? ⟨bv,k * 2,none⟩=some (.bool x.lf):=hcl k 0 x (.bool x.lf) hxk rfl;have hcx1:=hcl k 1 x (.slice x.a x.es.length x.c) hxk rfl;obtain ⟨bx,ox,hxa,f1,f2,f3⟩:=DC (HMS1.out x hxm).2.2.ets (HMS1.out x hxm).1;obtain ⟨⟨k1,k2⟩,hk0⟩:∃ k0:Ky,k0=(x.es.getD 0 et0).1:=⟨_,rfl⟩
   rw [<- hk0] at f1 f2;simp only at f1 f2;obtain ⟨nx,hnx⟩:∃ n,n=x.es.length:=⟨_,rfl⟩
   have hnx0:0 < nx:=by rw [hnx];exact List.length_pos_iff.2 (HMS1.out x hxm).1
   have hnx1:0 < (nx:Int):=by omega
   obtain ⟨cx,hcx⟩:∃ c,c=x.c:=⟨_,rfl⟩
   obtain ⟨gl,hgl⟩:∃ gl,gl=fs++ms.take k:=⟨_,rfl⟩
   have HGL:=hid hgl;rw [<- hgl] at HJ;obtain ⟨L,hL⟩:∃ L,L=gl.length:=⟨_,rfl⟩
   have hLe:L=fs.length+k:=by rw [hL,hgl,List.length_append,List.length_take];omega
   have HLE:=hid hLe;have HLL:=hid hL;have hLm:(L:Int)<=100:=by have:=HL.out;have:=HM.out;omega
   obtain ⟨af,cf,rfl,-,-,-⟩:=AO HJ.out.fr;rw [<- hL] at HJ HNW;have HFR:Hid (wr.ownsRow B 114 2 (.slice af L cf) L (cl Bd gl)):=hid (by have h:=HJ.out.fr;rw [<- hL] at h;exact h);have hxor:bits .xor .i64 (-1) (L:Int)=-(L:Int) - 1:=by rw [Lr _ (by omega) (by omega)];omega
   have hkM1:(k:Int) < (M:Int):=by omega
   have hkf:(k < M)=True:=eq_true hk;have HBX:Hid (bx < wr.heap.size):=hid ((HMS1.out x hxm).2.blk (HMS1.out x hxm).1 _ _ hxa).2;have HJB:Hid (jb < wr.heap.size):=hid (Aj HJ.out.blk);have HK0:=hid hk0;have HF:=hid (And.intro f1 (And.intro f2 hxa));have HNX:=hid hnx;have HCX:=hid hcx;clear hcl hxk hx hkl hxm f1 f2 f3 hk0 hgl hL hLe hlt hmc hxa hnx hcx hk hkM
   go_upto_region 4 with fail
   go_wp2_with (refine Ae rfl 114 _ _ rfl wr.heap.size #[.bool x.lf,.slice x.a x.es.length x.c] rfl rfl 114 _ (heap_alloc_new wr _) (by kernel_rfl) rfl (by simp [Value.oneCell']) ?_)
   intro w4 hr4 hg4;obtain ⟨q,hq⟩:∃ q,q=wr.heap.size:=⟨_,rfl⟩
   rw [<- hq] at hr4;have HQ:=hid hq;have HR4:=hid hr4;have HB4:Hid (Below wr.heap.size wr w4):=hid ((Ad wr _).grown hg4 (Ad wr _).size fun k hk=>by cases hk;exact Nat.le_refl _);rw [<- hq];have HC5:Hid (∀ y,Grew w4.drew y->y.cell? ⟨q,1,none⟩=some (.slice (some ⟨bx,ox,none⟩) nx cx)/\y.cell? ⟨bx,ox,none⟩=some (.int .i64 k1)/\y.cell? ⟨bx,ox+1,none⟩=some (.int .i64 k2)/\y.cell? ⟨jb,1,none⟩=some (.slice af L cf)/\True):=hid fun y hy=>by
    have hy2:Below w4.heap.size w4 y:=⟨hy.os,hy.tape,hy.output,hy.size,hy.block⟩
    have hy3:Below wr.heap.size wr y:=HB4.out.trans (hy2.mono HB4.out.size);have y1:=Ac HR4.out hy2;have y2:=Ac HJ.out.blk hy3;refine ⟨?_,(hy3.cell HBX.out).trans HF.out.1,(hy3.cell HBX.out).trans HF.out.2.1,?_,trivial⟩
    ·rw [cell_of_row _ _ _ _ _ _ y1,HNX.out,HCX.out,<- HF.out.2.2];rfl
    ·rw [cell_of_row _ _ _ _ _ _ y2];rfl
   clear hr4 hg4 hq hcx0 hcx1
   go_wp2_with fail
   refine Ai 14 [EqN v1,EqN (.pointer (some ⟨q,1,none⟩)),EqN (.slice (some ⟨bx,ox,none⟩) nx cx),EqN (.pointer (some ⟨bx,ox,none⟩)),EqN (.pointer (some ⟨bx,ox,none⟩)),EqN (.agg #[.int .i64 k1,.int .i64 k2]),EqN (.pointer (some ⟨jb,0,none⟩)),EqN (.pointer (some ⟨jb,0,none⟩)),EqN (.pointer (some ⟨jb,1,none⟩)),EqN (.slice af L cf),EqN (.int .i64 (L:Int)),EqN (.int .i64 (-(L:Int) - 1)),EqN (.agg #[.int .i64 k1,.int .i64 k2,.int .i64 (-(L:Int) - 1)]),RowE ((k1,k2),-(L:Int) - 1) 65] (by kernel_rfl) (by decide) (by kernel_rfl) ?_ ?_ ?_
   ·repeat' (first | exact List.forall_mem_nil _ | refine List.forall_mem_cons.2 ⟨?_,?_⟩)
    all_goals
     intro w w' v hw h
     first | exact h | exact RowE.kept h hw
   ·simp only [AllLt];refine ⟨⟨⟨⟨⟨⟨⟨⟨⟨⟨⟨⟨⟨⟨trivial,?_⟩,?_⟩,?_⟩,?_⟩,?_⟩,?_⟩,?_⟩,?_⟩,?_⟩,?_⟩,?_⟩,?_⟩,?_⟩,?_⟩
    all_goals
     intro o' ho;simp at ho;subst ho;intro ρ w5 hR hL hS hG;obtain ⟨hl1,hl2,-⟩:=hL
    ·refine Aa rfl ?_;intro bA K Q' hK;have e5:=hS 5 (by kernel_rfl);change ρ (.tmp 5)=_ at e5;simp only [execOp];go_simp;exact hK _ _ rfl (Grew.refl _)
    ·refine Aa rfl ?_;intro bA K Q' hK;have e7:=hS 7 (by kernel_rfl);change ρ (.tmp 7)=_ at e7;simp only [execOp];go_simp;exact hK _ _ rfl (Grew.refl _)
    ·refine Aa rfl ?_;intro bA K Q' hK;have e15:=apG (hG 1 15);change ρ (.tmp 15)=_ at e15;obtain ⟨y1,y2,y3,y4,y5⟩:=HC5.out w5 hR;simp only [execOp];go_simp;exact hK _ _ rfl (Grew.refl _)
    ·refine Aa rfl ?_;intro bA K Q' hK;have e16:=apG (hG 2 16);change ρ (.tmp 16)=_ at e16;simp only [execOp];go_simp;exact hK _ _ rfl (Grew.refl _)
    ·refine Aa rfl ?_;intro bA K Q' hK;have e17:=apG (hG 3 17);change ρ (.tmp 17)=_ at e17;simp only [execOp];go_simp;exact hK _ _ rfl (Grew.refl _)
    ·refine Aa rfl ?_;intro bA K Q' hK;have e18:=apG (hG 4 18);change ρ (.tmp 18)=_ at e18;obtain ⟨y1,y2,y3,y4,y5⟩:=HC5.out w5 hR;simp only [execOp];go_simp;exact hK _ _ rfl (Grew.refl _)
    ·refine Aa rfl ?_;intro bA K Q' hK;have e0:=hS 0 (by kernel_rfl);change ρ (.tmp 0)=_ at e0;simp only [execOp];go_simp;exact hK _ _ rfl (Grew.refl _)
    ·refine Aa rfl ?_;intro bA K Q' hK;have e20:=apG (hG 6 20);change ρ (.tmp 20)=_ at e20;simp only [execOp];go_simp;exact hK _ _ rfl (Grew.refl _)
    ·refine Aa rfl ?_;intro bA K Q' hK;have e21:=apG (hG 7 21);change ρ (.tmp 21)=_ at e21;simp only [execOp];go_simp;exact hK _ _ rfl (Grew.refl _)
    ·refine Aa rfl ?_;intro bA K Q' hK;have e22:=apG (hG 8 22);change ρ (.tmp 22)=_ at e22;obtain ⟨y1,y2,y3,y4,y5⟩:=HC5.out w5 hR;simp only [execOp];go_simp;exact hK _ _ rfl (Grew.refl _)
    ·refine Aa rfl ?_;intro bA K Q' hK;have e23:=apG (hG 9 23);change ρ (.tmp 23)=_ at e23;simp only [execOp];go_simp;exact hK _ _ rfl (Grew.refl _)
    ·refine Aa rfl ?_;intro bA K Q' hK;have e24:=apG (hG 10 24);change ρ (.tmp 24)=_ at e24;simp only [execOp];go_simp;exact hK _ _ (by show Value.int .i64 (bits .xor .i64 (-1) (L:Int))=_;rw [hxor]) (Grew.refl _)
    ·refine Aa rfl ?_;intro bA K Q' hK;have e19:=apG (hG 5 19);have e25:=apG (hG 11 25);change ρ (.tmp 19)=_ at e19;change ρ (.tmp 25)=_ at e25;simp only [execOp];go_simp;exact hK _ _ rfl (Grew.refl _)
    ·refine Aa rfl ?_;intro bA K Q' hK;have e26:=apG (hG 12 26);change ρ (.tmp 26)=_ at e26;simp only [execOp];go_simp;exact hK _ _ ⟨_,rfl,heap_alloc_new w5 _⟩ ((Grew.refl _).alloc _)
   ·intro vv w5 hR hG;have h14:RowE ((k1,k2),-(L:Int) - 1) 65 w5 (vv 13):=hG.2;have h0:vv 0=v1:=hG.1.1.1.1.1.1.1.1.1.1.1.1.1.2;have hb5:Below w4.heap.size w4 w5:=⟨hR.os,hR.tape,hR.output,hR.size,hR.block⟩
    have HB5:Hid (Below wr.heap.size wr w5):=hid (HB4.out.trans (hb5.mono HB4.out.size));have HR5:=hid (Ac HR4.out hb5);obtain ⟨b9,h9,hr9⟩:=h14;have HR9:=hid hr9;have HL5:Hid (w5.ownsRow w.heap.size 65 3 v1 k (Ak (CW fs.length ((ms.take k).map Nm.nd)))):=hid (Ag (F:=fun _=>False) HL1.out (Mv.of_below HB5.out) fun _ _=>id);have HES:Hid (EtS (fun _=>True) w5 (some ⟨b9,0,none⟩) [((k1,k2),-(L:Int) - 1)]):=hid (Vg hr9);clear hG hR hb5 hr9 HC5;simp [stG,stU,Au,Act.put,h0,h9];clear h0 h9
    go_wp2_with (refine Bf rfl (.tmp 14) (.tmp 27) 48 rfl w.heap.size 65 Tryz.underlying48 Va _ _ _ rfl HL5.out _ _ _ _ [((k1,k2),-(L:Int) - 1)] rfl rfl HES.out (by omega) (by omega) (Nat.le_trans HMV.out.size HB5.out.size) ?_)
    intro v6 w6 hv6 hg6;have hge:=AB HL5.out;have hm6:Mv (fun b=>v1.ownBlock=some b) wr w6:=(Mv.of_below HB5.out).trans (Mv.of_grown hg6 fun j hj _=>hj);have HGLS:Hid (∀ y∈gl,y∈fs++ms):=hid fun y hy=>by
     rw [HGL.out] at hy;rcases List.mem_append.1 hy with hy | hy
     ·exact List.mem_append_left _ hy
     ·exact List.mem_append_right _ (List.mem_of_mem_take hy)
    have HJ6:Hid (JobM B w6 jb tp gl gs (.slice af L cf) vg):=hid (HJ.out.far hm6 (AU HL1.out HJ.out.blk (by decide)) (fun b hb e=>DR HL1.out HJ.out.fr (by decide) b e hb) (fun b hb e=>DR HL1.out HJ.out.gn (by decide) b e hb) fun y hy b o hb e=>by
     have h1:=HXL.out y (HGLS.out y hy) b o hb;have h2:=hge b e;omega)
    have HV6:Hid (w6.ownsRow B2 114 2 (.slice (some ⟨bv,0,none⟩) M cv) M (cl Bd ms)):=hid (Ag HV1.out hm6 fun b hb e=>DR HL1.out HV1.out (by decide) b e hb);have HMS6:Hid (∀ y∈ms,y.es≠[]/\NmOk 65 B w6 y):=hid fun y hy=>⟨(HMS1.out y hy).1,(HMS1.out y hy).2.far (HMS1.out y hy).1 hm6 fun b o hb e=>by
     have h1:=HXL.out y (List.mem_append_right _ hy) b o hb;have h2:=hge b e;omega⟩
    have HL6:Hid (w6.ownsRow w.heap.size 65 3 v6 (k+1) (Ak (CW fs.length ((ms.take (k+1)).map Nm.nd)))):=hid (by
     rw [HXK.out,List.map_append];show w6.ownsRow _ _ _ _ _ (Ak (CW fs.length (_++[x.nd])));rw [Xo];have e1:(x.nd.2.getD 0 et0).1=(k1,k2):=HK0.out.symm;have e2:fs.length+((ms.take k).map Nm.nd).length=L:=by rw [List.length_map,List.length_take,HLE.out];have:=HM.out;omega
     rw [e1,e2,List.map_take];exact hv6)
    have HR6:Hid (w6.heap[q]?=some (.cells #[.bool x.lf,.slice x.a x.es.length x.c] 114 (0,0))):=hid ((Mv.of_grown hg6 fun j hj _=>hj:Mv (fun b=>v1.ownBlock=some b) w5 w6).row HR5.out (AU HL5.out HR5.out (by decide)));have HM6:Hid (Mv (fun b=>b=jb\/vf.ownBlock=some b) w w6):=hid (HMV.out.trans' hm6 fun i hi h=>by have:=hge i h;omega);have HFR6:Hid (w6.ownsRow B 114 2 (.slice af L cf) L (cl Bd gl)):=hid (Ag HFR.out hm6 fun b hb e=>DR HL1.out HFR.out (by decide) b e hb);have HBW6:Hid (B<=w6.heap.size):=hid (Nat.le_trans HB.out HM6.out.size);have HFQ:Hid ((Value.slice af L cf).ownBlock≠some q):=hid fun e=>by
     have:=Ko HFR.out e;have:=HQ.out;omega
    have HC6:Hid (∀ y,Mv (fun b=>(Value.slice af L cf).ownBlock=some b) w6.drew y->y.cell? ⟨jb,1,none⟩=some (.slice af L cf)/\y.cell? ⟨q,0,none⟩=some (.bool x.lf)/\y.cell? ⟨q,1,none⟩=some (.slice x.a x.es.length x.c)):=hid fun y hy=>by
     have y1:=hy.row (w:=w6.drew) HJ6.out.blk (AU HFR6.out HJ6.out.blk (by decide));have y2:=hy.row (w:=w6.drew) HR6.out HFQ.out;refine ⟨?_,?_,?_⟩<;>first | (rw [cell_of_row _ _ _ _ _ _ y1];rfl) | (rw [cell_of_row _ _ _ _ _ _ y2];rfl)
    clear hv6 hg6 hge hm6 HR9 HES
    go_wp2_with fail
    refine BL (fun b=>(Value.slice af L cf).ownBlock=some b) 7 (fun y=>Below w6.heap.size w6 y) (fun _=>True) 10 [] [(7,6)] [EqN (.pointer (some ⟨jb,0,none⟩)),EqN (.pointer (some ⟨jb,0,none⟩)),EqN (.pointer (some ⟨jb,0,none⟩)),EqN (.pointer (some ⟨jb,1,none⟩)),EqN (.slice af L cf),EqN (.agg #[.bool x.lf,.slice x.a x.es.length x.c]),RowN x 114,(fun y u=>y.ownsRow B 114 2 u (L+1) (cl Bd gl++Bd x)/\Nw w6 (.slice af L cf) u),EqN (.pointer (some ⟨jb,0,none⟩)),EqN (.pointer (some ⟨jb,1,none⟩))] (by kernel_rfl) (by decide) (by kernel_rfl) (by kernel_rfl) (by kernel_rfl) (by decide) (Below.refl _ _ |>.drew) (fun a b hab h=>h.trans (hab.mono h.size)) (fun _ _ _ _=>trivial) ?_ ?_ ?_
    ·repeat' (first | exact List.forall_mem_nil _ | refine List.forall_mem_cons.2 ⟨?_,?_⟩)
     all_goals
      intro w w' v hw h
      first | exact h | first | exact RowN.kept h hw | exact ⟨Ag (F:=fun _=>False) h.1 (Mv.of_below hw) fun _ _=>id,h.2⟩
    ·simp only [AllLt];refine ⟨⟨⟨⟨⟨⟨⟨⟨⟨⟨trivial,?_⟩,?_⟩,?_⟩,?_⟩,?_⟩,?_⟩,?_⟩,?_⟩,?_⟩,?_⟩
     all_goals
      intro o' ho;simp at ho;subst ho;intro ρ w5 hR hJ hL hS hG;obtain ⟨hl1,hl2,-⟩:=hL
     iterate 2
      ·refine Aa rfl ?_;intro bA K Q' hK;have e0:=hS 0 (by kernel_rfl);change ρ (.tmp 0)=_ at e0;simp only [execOp];go_simp;exact hK _ _ rfl (.inl ⟨by decide,Grew.refl _⟩) (Ap (by decide))
     ·refine Aa rfl ?_;intro bA K Q' hK;have e30:=apG (hG 1 30);change ρ (.tmp 30)=_ at e30;simp only [execOp];go_simp;exact hK _ _ rfl (.inl ⟨by decide,Grew.refl _⟩) (Ap (by decide))
     ·refine Aa rfl ?_;intro bA K Q' hK;have e31:=apG (hG 2 31);change ρ (.tmp 31)=_ at e31;simp only [execOp];go_simp;exact hK _ _ rfl (.inl ⟨by decide,Grew.refl _⟩) (Ap (by decide))
     ·refine Aa rfl ?_;intro bA K Q' hK;have e32:=apG (hG 3 32);change ρ (.tmp 32)=_ at e32;obtain ⟨y1,y2,y3⟩:=HC6.out w5 (hR);simp only [execOp];go_simp;exact hK _ _ rfl (.inl ⟨by decide,Grew.refl _⟩) (Ap (by decide))
     ·refine Aa rfl ?_;intro bA K Q' hK;have e7:=hS 7 (by kernel_rfl);change ρ (.tmp 7)=_ at e7;obtain ⟨y1,y2,y3⟩:=HC6.out w5 (hR);simp only [execOp];go_simp;exact hK _ _ rfl (.inl ⟨by decide,Grew.refl _⟩) (Ap (by decide))
     ·refine Aa rfl ?_;intro bA K Q' hK;have e34:=apG (hG 5 34);change ρ (.tmp 34)=_ at e34;simp only [execOp];go_simp;exact hK _ _ ⟨_,rfl,heap_alloc_new w5 _⟩ (.inl ⟨by decide,(Grew.refl _).alloc _⟩) (Ap (by decide))
     ·refine Aa rfl ?_;intro bA K Q' hK;have e33:=apG (hG 4 33);have e35:=apG (hG 6 35);change ρ (.tmp 33)=_ at e33;obtain ⟨bq,h8,hrx⟩:=e35;have hb5:=hJ rfl;have hfr5:w5.ownsRow B 114 2 (.slice af L cf) L (cl Bd gl):=Ag (F:=fun _=>False) HFR6.out (Mv.of_below hb5) fun _ _=>id;obtain ⟨i0,hi,hz0,hz1,hz2⟩:=info_parts YP;obtain ⟨v',w7,hr,h2,h3,h4⟩:=Ia (P:=Tryz.prog) w5 B 119 119 114 i0 (.agg #[.bool false,.slice none 0 0]) 2 32 Tryz.underlying119 hi hz0 hz1 hz2 rfl (by decide) _ L _ hfr5 ⟨bq,0,none⟩ 1 1 (Bd x) rfl (SQ hrx) (by simp [Bd,Value.oneCell']) (by unfold maxLen;omega) (by omega) (Nat.le_trans HBW6.out hb5.size);refine FC (.tmp 33) (.tmp 35) 119 rfl e33 h8 hr ?_;refine hK _ _ ⟨h2,h4.less hb5.size⟩ (.inr ⟨Mv.of_grown h3 fun j hj _=>hj,⟨fun _=>trivial,fun h=>absurd rfl h⟩,?_⟩) (Ap (by decide))
      ·simp only [AllLt];refine ⟨⟨⟨⟨⟨⟨⟨⟨⟨⟨trivial,?_⟩,?_⟩,?_⟩,?_⟩,?_⟩,?_⟩,?_⟩,?_⟩,?_⟩,?_⟩
       iterate 6
        ·first | exact fun _ x hx=>hx | exact Am (by kernel_rfl)
       iterate 2
        ·exact Am (by kernel_rfl)
       iterate 2
        ·first | exact fun _ x hx=>hx | exact Am (by kernel_rfl)
     ·refine Aa rfl ?_;intro bA K Q' hK;have e29:=apG (hG 0 29);change ρ (.tmp 29)=_ at e29;simp only [execOp];go_simp;exact hK _ _ rfl (.inl ⟨by decide,Grew.refl _⟩) (Ap (by decide))
     ·refine Aa rfl ?_;intro bA K Q' hK;have e37:=apG (hG 8 37);change ρ (.tmp 37)=_ at e37;simp only [execOp];go_simp;exact hK _ _ rfl (.inl ⟨by decide,Grew.refl _⟩) (Ap (by decide))
    ·intro vv w7 hR _ hG _;have h7:w7.ownsRow B 114 2 (vv 7) (L+1) (cl Bd gl++Bd x)/\Nw w6 (.slice af L cf) (vv 7):=hG.1.1.2 (by decide);have h9:vv 9=.pointer (some ⟨jb,1,none⟩):=hG.2 (by decide);obtain ⟨v7,hv7⟩:∃ v7,v7=vv 7:=⟨_,rfl⟩
     rw [<- hv7] at h7;obtain ⟨h71,h72⟩:=h7;obtain ⟨g7,c7,rfl⟩:=ownsRow_succ h71;have HV7:=hid h71;have HN7:=hid h72;have hm7:Mv (fun b=>(Value.slice af L cf).ownBlock=some b) w6 w7:=⟨hR.os,hR.tape,hR.output,hR.size,hR.block⟩
     have HJ7:=hid hm7;have hjb7:=hm7.row HJ6.out.blk (AU HFR6.out HJ6.out.blk (by decide));have HJB7:=hid hjb7;have hc7:w7.cell? ⟨jb,1,none⟩=some (.slice af L cf):=coR hjb7;have hf7:=frozen_of_row w7 jb 1 _ _ hjb7;clear hR hG h71 h72 hm7 hjb7;simp [stG,stU,Au,Act.put,h9,<- hv7];clear h9 hv7
     go_wp2_with fail
     obtain ⟨w8,hw8⟩:∃ w8,w8=w7.setCell ⟨jb,1,none⟩ (.slice (some ⟨g7,0,none⟩) (L+1) c7):=⟨_,rfl⟩
     rw [<- hw8];have hg8:w7.grownBy w8 (some jb):=by rw [hw8];exact Aq (Aw w7 (some jb)) (p:=⟨jb,1,none⟩) (.inl rfl) _
     have hm8:Mv (fun b=>b=jb) w7 w8:=Mv.of_grown hg8 fun j hj _=>by cases hj;rfl
     have hb8:w8.heap[jb]?=some (.cells #[.pointer (some ⟨tp,0,none⟩),.slice (some ⟨g7,0,none⟩) (L+1) c7,vg] 168 (0,0)):=by rw [hw8];exact EI HJB7.out 1 _ (by simp)
     have hm68:Mv (fun b=>(Value.slice af L cf).ownBlock=some b\/b=jb) w6 w8:=((Mv.refl _ w6).trans' HJ7.out fun _ _ h=>.inl h).trans' hm8 fun _ _ h=>.inr h;have hT:∀ b cs,w6.heap[b]?=some (.cells cs 65 (0,0))->¬ ((Value.slice af L cf).ownBlock=some b\/b=jb):=fun b cs hb e=>by
      rcases e with e | e
      ·exact AU HFR6.out hb (by decide) e
      ·subst e;have:=HJ6.out.blk.symm.trans hb;simp at this
     have e1:fs++ms.take (k+1)=gl++[x]:=by rw [HXK.out,<- List.append_assoc,<- HGL.out]
     have hj8:JobM B w8 jb tp (fs++ms.take (k+1)) gs (.slice (some ⟨g7,0,none⟩) (L+1) c7) vg:=by
      refine ⟨hb8,?_,Ag HJ6.out.gn hm68 (fun b hb e=>?_),fun y hy=>?_,?_,HJ6.out.ge⟩
      ·rw [e1,NE,Ui,List.length_append,<- HLL.out];exact Ag HV7.out hm8 fun b hb e=>by subst e;exact AU HV7.out HJB7.out (by decide) hb
      ·rcases e with e | e
       ·exact DR HFR6.out HJ6.out.gn (by decide) b e hb
       ·subst e;exact AU HJ6.out.gn HJ6.out.blk (by decide) hb
      ·rw [e1] at hy;rcases List.mem_append.1 hy with hy | hy
       ·exact ⟨(HJ6.out.nds y hy).1,(HJ6.out.nds y hy).2.mvT hm68 hT⟩
       ·rw [List.mem_singleton] at hy;subst hy;exact ⟨(HMS6.out y HXM.out).1,(HMS6.out y HXM.out).2.mvT hm68 hT⟩
      ·exact HDJ.out.sublist ((List.take_sublist _ _).append_left _)
     have hap:=HNW.out.apart HAP.out HVL.out;have hv8:w8.ownsRow B2 114 2 (.slice (some ⟨bv,0,none⟩) M cv) M (cl Bd ms):=Ag HV6.out hm68 fun b hb e=>by
      rcases e with e | e
      ·exact hap b hb e
      ·subst e;exact AU HV6.out HJ6.out.blk (by decide) hb
     have hl8:w8.ownsRow w.heap.size 65 3 v6 (k+1) (Ak (CW fs.length ((ms.take (k+1)).map Nm.nd))):=Ag HL6.out hm68 fun b hb e=>by
      rcases e with e | e
      ·exact DR HL6.out HFR6.out (by decide) b hb e
      ·subst e;exact AU HL6.out HJ6.out.blk (by decide) hb
     have hms8:∀ y∈ms,y.es≠[]/\NmOk 65 B w8 y:=fun y hy=>⟨(HMS6.out y hy).1,(HMS6.out y hy).2.mvT hm68 hT⟩
     have hn8:=HNW.out.trans HN7.out HM6.out.size;have hm8:Mv (fun b=>b=jb\/vf.ownBlock=some b) w w8:=HM6.out.trans' hm68 fun i hi e=>by
      rcases e with e | e
      ·rcases HNW.out with h | ⟨j,h1,h2⟩
       ·exact .inr (h ▸ e)
       ·rw [h1] at e;cases e;omega
      ·exact .inl e
     clear hw8 hg8 hb8 hm68 hT hap e1
     go_roundw
     case rel=>exact ⟨k+1,_,v6,rfl,by go_num,by omega,hj8,hv8,hms8,hl8,hn8,hm8⟩
     case measure=>simp [intOf];omega
  ·have hkM2:k=M:=by omega
   have hkf:(k < M)=False:=eq_false hk;have HK:=hid hkM2;clear hk hkM
   go_wp2_with fail
   go_ret
   have e:ms.take k=ms:=by rw [HK.out,HM.out];exact List.take_length
   obtain rfl:=HK.out;rw [e] at HJ HL1;exact ⟨_,vf',rfl,HL1.out,HJ.out,HNW.out,HMV.out⟩
end Go.Proofs.YtfhdojnobmfefaaGreatDoor
namespace Go.Inc
open Go Go.RowKit
theorem X4 {f:Nat->Option Nd} {ns ps:List Nat} {D:Nat} {z:Int} {s:Sh D} {zs:List Int} {fr:List Nd} {g:List Int} (ht:TpI f (ns.map fun n:Nat=>(n:Int)) D z s zs fr g) (hn:ns.Nodup) (hok:okS D s) (hs:Srt (enS D s)) (he:∀ e∈enS D s,okE e=true) (hpl:ps.length=fr.length) (hpr:∀ p∈ps,2<=p/\p < 2048) (hnr:∀ q∈ns,2<=q/\q < 2048) (hfl:fr.length<=1000) :
  ∀ n∈fr,n.2.length<=16/\(∀ e∈n.2,-2000<=e.2/\(e.2 < 0->(-e.2 - 1).toNat < fr.length))/\AL n.1 (n.2.map (stl ps))=0:=by
 intro n hnm;obtain ⟨i,hi,hin⟩:=List.getElem_of_mem hnm;have hx:(-(i:Int) - 1)∈zs:=(ht.mem hn).2 (.inl ⟨by omega,by omega⟩);obtain ⟨n',h1,h2⟩:=IsZ.nodes ht.is hok hs he _ hx;rw [F7 (by omega),show (-(-(i:Int) - 1) - 1).toNat=i by omega,List.getElem?_eq_getElem hi,hin] at h1;cases h1;have hsg:∀ x∈zs,2<=sgm ps x/\sgm ps x < 2048:=fun x hx=>by
  rcases (ht.mem hn).1 hx with ⟨a1,a2⟩ | ⟨a1,a2,_⟩
  ·exact hpr _ (List.mem_of_getElem? (Fj a1 (by omega)))
  ·rw [Fh a1];exact hnr _ a2
 refine ⟨h2.le,fun e hem=>?_,h2.chk hsg⟩;cases hl:n.1 with
 | true=>
  have:=(okE_iff.1 (h2.leaf hl e hem)).2;exact ⟨by omega,fun h=>by omega⟩
 | false=>
  rcases (ht.mem hn).1 (h2.up hl e hem) with ⟨a1,a2⟩ | ⟨a1,a2,_⟩
  ·exact ⟨by omega,fun _=>by omega⟩
  ·exact ⟨by omega,fun h=>by omega⟩
theorem X3 {f:Nat->Option Nd} {ns ps:List Nat} {D:Nat} {z:Int} {s:Sh D} {zs:List Int} {fs:List Nm} {g:List Int} (ht:TpI f (ns.map fun n:Nat=>(n:Int)) D z s zs (fs.map Nm.nd) g) (hn:ns.Nodup) (hok:okS D s) (hs:Srt (enS D s)) (he:∀ e∈enS D s,okE e=true) (hpl:ps.length=fs.length) (hpr:∀ p∈ps,2<=p/\p < 2048) (hnr:∀ q∈ns,2<=q/\q < 2048) (hfl:fs.length<=1000) :
  (∀ x∈fs,x.es.length<=16/\(∀ e∈x.es,-2000<=e.2/\(e.2 < 0->(-e.2 - 1).toNat < fs.length))/\AL x.lf (x.es.map (stl ps))=0)/\-2000<=z/\z<=100000/\(z < 0->(-z - 1).toNat < fs.length):=by
 have h:=X4 ht hn hok hs he (by rw [hpl,List.length_map]) hpr hnr (by rw [List.length_map];exact hfl);rw [List.length_map] at h;refine ⟨fun x hx=>h x.nd (List.mem_map.2 ⟨x,hx,rfl⟩),?_⟩;rcases (ht.mem hn).1 ht.is.head with ⟨a1,a2⟩ | ⟨a1,a2,_⟩
 ·rw [List.length_map] at a2;exact ⟨by omega,by omega,fun _=>by omega⟩
 ·have:=hnr _ a2;exact ⟨by omega,by omega,fun h=>by omega⟩
end Go.Inc
namespace Go.Inc
open Go Go.RowKit
theorem QT {x:Int}:∀ {zs:List Int} {k:Nat},k < zs.length->zs.getD k 0=x->x∉zs.take k->zs.idxOf x=k
 | [],k,h,_,_=>by simp at h
 | z::r,0,_,he,_=>by
  have:z=x:=by simpa using he
  subst this;simp
 | z::r,k+1,h,he,hn=>by
  have h1:z≠x:=fun e=>hn (by rw [e];simp);have h2:x∉r.take k:=fun hh=>hn (by simp [hh]);have ih:=QT (zs:=r) (k:=k) (by simpa using h) (by simpa using he) h2;have h3:(z == x)=false:=by rw [beq_eq_false_iff_ne];exact h1
  simp [List.idxOf_cons,h3,ih]
def ixZ (zs:List Int) (x:Int):Int:=if x∈zs then (zs.idxOf x:Int) else -1
theorem IC {T B n:Nat} {w:World} {v:Value} {zs:List Int} (h:w.ownsRow B T 1 v n (zv zs)):∃ a c,v=.slice a zs.length c/\n=zs.length/\Si (fun b=>v.ownBlock=some b) w a zs:=by
 have hn:n=zs.length:=by have:=h.1;rw [eu] at this;omega
 rcases h.2 with ⟨rfl,h0⟩ | ⟨g,cap,cur,rfl,_,hgg,_,_,_,ht⟩
 ·have:zs=[]:=List.eq_nil_of_length_eq_zero (by omega);subst this;exact ⟨none,0,rfl,hn,.inl rfl⟩
 ·refine ⟨_,cap,by rw [hn],hn,.inr ⟨g,0,rfl,rfl,fun i hi=>?_⟩⟩;have h2:=h.cells (g:=g) rfl i (.int .i64 (zs.getD i 0)) (by unfold zv;rw [List.getElem?_map,List.getElem?_eq_getElem hi,List.getD_eq_getElem?_getD,List.getElem?_eq_getElem hi];rfl);rw [Addr.add_lit] at h2;exact h2
theorem VY {T B s n m:Nat} {w:World} {v:Value} {xs:List Value} {g c:Nat} (h:w.ownsRow B T s v n xs) (hv:v=.slice (some ⟨g,0,none⟩) n c) (hm:m<=n):w.ownsRow B T s (.slice (some ⟨g,0,none⟩) m c) m (xs.take (m * s)):=by
 have hl:=h.1;have hms:m * s<=n * s:=Nat.mul_le_mul_right _ hm;refine ⟨by rw [List.length_take,hl];omega,?_⟩;rcases h.2 with ⟨rfl,h0⟩ | ⟨g',cap,cur,rfl,hb,hgg,hc,hc2,hcs,ht⟩
 ·cases hv
 ·simp only [Value.slice.injEq,Option.some.injEq,Addr.mk.injEq] at hv;obtain ⟨⟨rfl,-⟩,-,rfl⟩:=hv;refine .inr ⟨g',cap,cur,rfl,hb,hgg,by omega,hc2,hcs,?_⟩;rw [<- ht,List.take_take,Nat.min_eq_left hms]
theorem Vm {α:Type} {f:α->List Value} {σ:Nat} (h:∀ x,(f x).length=σ):∀ (xs:List α) (m:Nat),cl f (xs.take m)=(cl f xs).take (m * σ)
 | [],m=>by simp [cl]
 | x::r,0=>by simp [cl]
 | x::r,m+1=>by
  rw [List.take_succ_cons];show f x++cl f (r.take m)=(f x++cl f r).take ((m+1) * σ);rw [Vm h,show (m+1) * σ=σ+m * σ by rw [Nat.add_mul];omega,List.take_append,List.take_of_length_le (l:=f x) (by rw [h];exact Nat.le_add_right _ _),h,Nat.add_sub_cancel_left]
end Go.Inc
namespace Go.Proofs.YtfhdojnobmfefaaGreatDoor
open Go Go.RowKit Go.Inc
set_option maxRecDepth 20000 in
set_option maxHeartbeats 1500000 in
theorem Xp (ok:Nat->Prop) (a:Option Addr) (c:Nat) (zs:List Int) (x:Int) (w:World) (hs:Si ok w a zs) (hl:(zs.length:Int)<=65536) (_hx:-9223372036854775808<=x/\x<=9223372036854775807) :
  Calls Tryz.prog 154 #[.slice a zs.length c,.int .i64 x] w fun e w'=>e=.returned (.int .i64 (ixZ zs x))/\Below w.heap.size w w':=by
 have HS:Hid (Si (fun b=>b < w.heap.size) w a zs):=hid (hs.mono fun _ _ h=>h);obtain ⟨n,hn⟩:∃ n,n=zs.length:=⟨_,rfl⟩
 have HN:=hid hn;rw [<- hn] at hl ⊢;clear hs hn
 go_enter Tryz.func154,Tryz.ntmps154
 go_wp2_with fail
 go_loopw [8] (fun i wr=>∃ k:Nat,k<=n/\i=.int .i64 (k:Int)/\x∉zs.take k/\Below w.heap.size w wr) (fun i _=>n - (intOf i).toNat)
 case atStart=>exact ⟨0,Nat.zero_le _,rfl,by simp,Below.refl _ _⟩
 case round=>
  obtain ⟨k,hk,rfl,hni,hb⟩:=hrel;have HNI:=hid hni;have HB:=hid hb;clear hni hb;by_cases hlt:(k:Int) < n
  ·have hkn:(k < n)=True:=eq_true (by omega);obtain ⟨b,o,rfl,hck⟩:=Pm (HS.out.below HB.out) (k:=k) (by have:=HN.out;omega);have HSN:=hid (DK (bs:=zs) (d:=0) (k:=k) (by have:=HN.out;omega));have HM:=hid (CX (zs:=zs) (d:=0) (k:=k) (by have:=HN.out;omega));obtain ⟨y,hy⟩:∃ y,y=zs.getD k 0:=⟨_,rfl⟩
   have HY:=hid hy;rw [<- hy] at hck HSN HM;clear hy;by_cases hxy:x=y
   ·have he:(x == y)=true:=by rw [beq_iff_eq];exact hxy
    have HO:Hid (ixZ zs x=(k:Int)):=hid (by
     unfold ixZ;rw [if_pos (by rw [hxy];exact HM.out),QT (by have:=HN.out;omega) (by rw [hxy,HY.out]) HNI.out])
    clear hxy
    go_wp2_with fail
    go_ret
    exact ⟨by rw [HO.out];rfl,HB.out⟩
   ·have he:(x == y)=false:=by rw [beq_eq_false_iff_ne];exact hxy
    have HXY:=hid hxy;clear hxy
    go_wp2_with fail
    go_roundw
    case rel=>exact ⟨k+1,by omega,by go_num,by rw [HSN.out];intro h;rcases snocMem.1 h with h | h;exact HNI.out h;exact HXY.out h,HB.out⟩
    case measure=>simp [intOf];omega
  ·have hkf:(k < n)=False:=eq_false (by omega);have HO:Hid (ixZ zs x=-1):=hid (if_neg (by have h:=HNI.out;rw [show k=n by omega,HN.out,List.take_length] at h;exact h));clear hlt
   go_wp2_with fail
   go_ret
   exact ⟨by rw [HO.out];rfl,HB.out⟩
theorem PV (ok:Nat->Prop) (a:Option Addr) (c:Nat) (zs:List Int) (x:Int) (w:World) (hs:Si ok w a zs) (hl:(zs.length:Int)<=65536) (hx:-9223372036854775808<=x/\x<=9223372036854775807) :
  Calls Tryz.prog 131 #[.slice a zs.length c,.int .i64 x] w fun e w'=>e=.returned (.bool (decide (x∈zs)))/\Below w.heap.size w w':=by
 have HIX:=hid (Xp ok a c zs x w hs hl hx);obtain ⟨Z,hZ⟩:∃ Z,Z=ixZ zs x:=⟨_,rfl⟩
 rw [<- hZ] at HIX;have HZ:Hid (decide (0<=Z)=decide (x∈zs)):=hid (by
  rw [hZ];unfold ixZ;by_cases h:x∈zs
  ·rw [if_pos h,decide_eq_true h,decide_eq_true (by omega)]
  ·rw [if_neg h,decide_eq_false h];rfl)
 clear hs hZ
 go_enter Tryz.func131,Tryz.ntmps131
 go_wp2_with fail
 refine HIX.out.mono ?_;clear HIX;rintro e w1 ⟨rfl,hb⟩;have HB:=hid hb;clear hb
 go_wp2_with fail
 go_ret
 exact ⟨by rw [<- HZ.out];rfl,HB.out⟩
theorem JobM.putF {B jb tp:Nat} {fs fs':List Nm} {gs:List Int} {vf vf' vg:Value} {w:World} (h:JobM B w jb tp fs gs vf vg) (hfr:w.ownsRow B 114 2 vf' fs'.length (cl Bd fs')) (hnds:∀ x∈fs',x.es≠[]/\NmOk 65 B w x) (hdj:fs'.Pairwise Dj) :
  JobM B (w.setCell ⟨jb,1,none⟩ vf') jb tp fs' gs vf' vg/\Mv (fun b=>b=jb) w (w.setCell ⟨jb,1,none⟩ vf'):=by
 have hg:w.grownBy (w.setCell ⟨jb,1,none⟩ vf') (some jb):=Aq (Aw w (some jb)) (p:=⟨jb,1,none⟩) (.inl rfl) _;have hm:Mv (fun b=>b=jb) w (w.setCell ⟨jb,1,none⟩ vf'):=Mv.of_grown hg fun j hj _=>by cases hj;rfl
 refine ⟨⟨EI h.blk 1 _ (by simp),?_,?_,fun x hx=>⟨(hnds x hx).1,(hnds x hx).2.mvT hm fun b cs hb e=>?_⟩,hdj,h.ge⟩,hm⟩
 ·exact Ag hfr hm fun b hb e=>by subst e;exact AU hfr h.blk (by decide) hb
 ·exact Ag h.gn hm fun b hb e=>by subst e;exact AU h.gn h.blk (by decide) hb
 ·subst e;have:=h.blk.symm.trans hb;simp at this
set_option maxRecDepth 20000 in
theorem Tv {B jb tp:Nat} {fs:List Nm} {gs:List Int} {vf vg:Value} {w:World} (z:Int) (h:JobM B w jb tp fs gs vf vg) (hz:z=-(fs.length:Int)) (h0:fs≠[]) (hl:fs.length<=1000) :
  Calls Tryz.prog 142 #[.pointer (some ⟨jb,0,none⟩),.int .i64 z] w fun e w'=>(∃ u,e=.returned u)/\∃ vf',JobM B w' jb tp (fs.take (fs.length - 1)) gs vf' vg/\vf'.ownBlock=vf.ownBlock/\Mv (fun b=>b=jb) w w':=by
 have hp:=List.length_pos_iff.2 h0;have hfr:=h.fr;obtain ⟨L,hL⟩:∃ L,L=fs.length:=⟨_,rfl⟩
 obtain ⟨k,hk⟩:∃ k,k=L - 1:=⟨_,rfl⟩
 rcases h.fr.2 with ⟨_,h1⟩ | ⟨g,c,cur,rfl,hb,hgg,hnc,hc2,hcs,ht⟩
 ·omega
 rw [<- hL] at hz hl hp hnc h hfr ⊢;have hxor:bits .xor .i64 (-1) z=(k:Int):=by rw [Lr _ (by omega) (by omega)];omega
 have hzl:z < 0:=by omega
 have hkL:(k:Int)<=(c:Int):=by omega
 have hcm:(c:Int)<=9223372036854775807:=by unfold maxLen at hc2;omega
 have hkz:0<=(k:Int):=by omega
 have HFS:Hid (w.ownsRow B 114 2 (.slice (some ⟨g,0,none⟩) k c) (fs.take k).length (cl Bd (fs.take k))):=hid (by
  rw [Vm FM,List.length_take,<- hL,Nat.min_eq_left (by omega)];exact VY hfr rfl (by omega))
 have HH:=hid h;have HK:=hid hk;have hcj:w.cell? ⟨jb,1,none⟩=some (.slice (some ⟨g,0,none⟩) L c):=coR h.blk;have hfj:=frozen_of_row w jb 1 _ _ h.blk;clear h hfr hL hk hb hgg hcs ht h0 hz hc2
 go_enter Tryz.func142,Tryz.ntmps142
 go_wp2_with fail
 obtain ⟨h1,h2⟩:=HH.out.putF HFS.out (fun x hx=>HH.out.nds x (List.mem_of_mem_take hx)) (HH.out.dj.sublist (List.take_sublist _ _));refine bodyPost_ret (results_none rfl _ _ _) rfl ⟨⟨_,rfl⟩,.slice (some ⟨g,0,none⟩) k c,?_,rfl,h2⟩;rw [<- HK.out];exact h1
set_option maxRecDepth 20000 in
theorem Tu {B jb tp:Nat} {fs:List Nm} {gs:List Int} {vf vg:Value} {w:World} (z:Int) (h:JobM B w jb tp fs gs vf vg) (hz:0<=z) (hl:gs.length<=1000) (hB:B<=w.heap.size) :
  Calls Tryz.prog 142 #[.pointer (some ⟨jb,0,none⟩),.int .i64 z] w fun e w'=>(∃ u,e=.returned u)/\∃ vg',JobM B w' jb tp fs (gs++[z]) vf vg'/\Nw w vg vg'/\Mv (fun b=>b=jb\/vg.ownBlock=some b) w w':=by
 obtain ⟨i0,hi,hz0,hz1,hz2⟩:=info_parts PN;have HI:=hid (And.intro hi (And.intro hz0 (And.intro hz1 hz2)));obtain ⟨av,cv,hv,hn,-⟩:=IC h.gn;subst hv;have HH:=hid h;have HB:=hid hB;obtain ⟨L,hL⟩:∃ L,L=gs.length:=⟨_,rfl⟩
 have HL:=hid hL;rw [<- hL] at hl HH ⊢;have hzl:¬ z < 0:=by omega
 have hzd:(z < 0)=False:=eq_false hzl;have hcj:w.cell? ⟨jb,2,none⟩=some (.slice av L cv):=coR HH.out.blk;have hgn:w.ownsRow B 3 1 (.slice av L cv) L (zv gs):=by have h:=HH.out.gn;rw [<- hL] at h;exact h
 have HGN:=hid hgn;clear h hn hi hz0 hz1 hz2 hL hB hgn
 go_enter Tryz.func142,Tryz.ntmps142
 go_wp2_with (refine BZ _ rfl (.tmp 20) (.tmp 22) 54 rfl B 3 i0 (.int .i64 0) 1 8 Tryz.underlying54 HI.out.1 HI.out.2.1 HI.out.2.2.1 HI.out.2.2.2 rfl (by decide) _ L _ rfl (HGN.out.alloc _) ⟨w.heap.size,0,none⟩ 1 1 [.int .i64 z] rfl rfl (Gx w [.int .i64 z] 3) (by simp [Value.oneCell']) (by unfold maxLen;omega) (by omega) (by have:=HB.out;simp;omega) ?_)
 intro v4 w4 hr4 hg4 hn4;obtain ⟨wb,hwb⟩:∃ wb,wb=w.alloc (.cells #[.int .i64 z] 3):=⟨_,rfl⟩
 rw [<- hwb] at hg4 hn4;have hbb:Below w.heap.size w wb:=by rw [hwb];exact Ad w _
 have hm4:Mv (fun b=>(Value.slice av L cv).ownBlock=some b) w w4:=(Mv.of_below hbb).trans (Mv.of_grown hg4 fun j hj _=>hj);have hblk:w4.heap[jb]?=some (.cells #[.pointer (some ⟨tp,0,none⟩),vf,.slice av L cv] 168 (0,0)):=hm4.row HH.out.blk (AU HGN.out HH.out.blk (by decide));obtain ⟨g4,c4,rfl⟩:=ownsRow_succ hr4;have HN4:Hid (Nw w (.slice av L cv) (.slice (some ⟨g4,0,none⟩) (L+1) c4)):=hid (hn4.less hbb.size);have HM4:=hid hm4;have HR4:=hid hr4;have hc4:w4.cell? ⟨jb,2,none⟩=some (.slice av L cv):=coR hblk;have hf4:=frozen_of_row w4 jb 2 _ _ hblk;have HBK:=hid hblk;clear hwb hg4 hn4 hbb hm4 hblk hr4 hcj
 go_wp2_with fail
 have hg5:w4.grownBy (w4.setCell ⟨jb,2,none⟩ (.slice (some ⟨g4,0,none⟩) (L+1) c4)) (some jb):=Aq (Aw w4 (some jb)) (p:=⟨jb,2,none⟩) (.inl rfl) _;have hm5:Mv (fun b=>b=jb) w4 (w4.setCell ⟨jb,2,none⟩ (.slice (some ⟨g4,0,none⟩) (L+1) c4)):=Mv.of_grown hg5 fun j hj _=>by cases hj;rfl
 have hm6:Mv (fun b=>b=jb\/(Value.slice av L cv).ownBlock=some b) w (w4.setCell ⟨jb,2,none⟩ (.slice (some ⟨g4,0,none⟩) (L+1) c4)):=((Mv.refl _ w).trans' HM4.out fun _ _ h=>.inr h).trans' hm5 fun _ _ h=>.inl h;refine bodyPost_end (results_none rfl _ _ _) rfl ⟨⟨_,rfl⟩,_,⟨EI HBK.out 2 _ (by simp),?_,?_,fun x hx=>⟨(HH.out.nds x hx).1,(HH.out.nds x hx).2.mvT hm6 fun b cs hb e=>?_⟩,HH.out.dj,HH.out.ge⟩,HN4.out,hm6⟩
 ·exact Ag HH.out.fr hm6 fun b hb e=>by
   rcases e with e | e
   ·subst e;exact AU HH.out.fr HH.out.blk (by decide) hb
   ·exact DR HH.out.fr HGN.out (by decide) b hb e
 ·rw [RU,List.length_append,<- HL.out];exact Ag HR4.out hm5 fun b hb e=>by subst e;exact AU HR4.out HBK.out (by decide) hb
 ·rcases e with e | e
  ·subst e;have:=HH.out.blk.symm.trans hb;simp at this
  ·exact AU HGN.out hb (by decide) e
end Go.Proofs.YtfhdojnobmfefaaGreatDoor
namespace Go.Proofs.YtfhdojnobmfefaaGreatDoor
open Go Go.RowKit Go.Inc
set_option maxRecDepth 20000 in
set_option maxHeartbeats 4000000 in
theorem OO {C:Nat->Nat} {B jb tp gd pa:Nat} {r ep:Int} {fs:List Nm} {gs:List Int} {vf vg v1 v2 v3:Value} {ks:List Nat} {w:World} (h:JobM B w jb tp fs gs vf vg) (ht:TC w tp gd pa r ep) (ha:Al C w pa v1 v2 v3 ks) (hk:Ks ks) (hkd:∀ z∈gs,DN ks z=2\/DN ks z=3) (hl:gs.length<=1000) :
  Calls Tryz.prog 143 #[.pointer (some ⟨jb,0,none⟩)] w fun e w'=>(∃ v,e=.returned v/\w'.ownsRow w.heap.size 3 1 v gs.length (zv gs))/\Below w.heap.size w w':=by
 obtain ⟨i0,hi,hz0,hz1,hz2⟩:=info_parts PN;have HI:=hid (And.intro hi (And.intro hz0 (And.intro hz1 hz2)));obtain ⟨av,cv,hv,-,hsi⟩:=IC h.gn;subst hv;have HSI:Hid (∀ y,Below w.heap.size w y->Si (fun _=>True) y av gs):=hid fun y hy=>(hsi.mono (ok':=fun b=>b < w.heap.size) fun b hb _=>Ko h.gn hb).below hy |>.mono fun _ _ _=>trivial;have HC:Hid (∀ y,Below w.heap.size w y->y.cell? ⟨jb,0,none⟩=some (.pointer (some ⟨tp,0,none⟩))/\y.cell? ⟨tp,1,none⟩=some (.pointer (some ⟨pa,0,none⟩))):=hid fun y hy=>by
  have y1:=Ac h.blk hy;have y2:=Ac ht hy;exact ⟨by rw [cell_of_row _ _ _ _ _ _ y1];rfl,by rw [cell_of_row _ _ _ _ _ _ y2];rfl⟩
 have HKD:Hid (∀ z y,Below w.heap.size w y->Calls Tryz.prog 132 #[.pointer (some ⟨pa,0,none⟩),.int .i64 z] y fun e w'=>e=.returned (.int .i64 (DN ks z:Int))/\Below y.heap.size y w'):=hid fun z y hy=>QO z (ha.below hy) hk;have HKK:=hid hkd;obtain ⟨L,hL⟩:∃ L,L=gs.length:=⟨_,rfl⟩
 have HL:=hid hL;have hcg:w.cell? ⟨jb,2,none⟩=some (.slice av L cv):=by rw [hL,cell_of_row _ _ _ _ _ _ h.blk];rfl
 rw [<- hL] at hl ⊢;have hlm:(L:Int)<=1000:=by omega
 clear h ht ha hk hkd hsi hi hz0 hz1 hz2 hL
 go_enter Tryz.func143,Tryz.ntmps143
 go_wp2_with fail
 go_loopw [3,12] (fun l i wr=>∃ (k:Nat) (v1:Value),v1=l/\i=.int .i64 (k:Int)/\k<=L/\wr.ownsRow w.heap.size 3 1 v1 k (zv (gs.take k))/\Below w.heap.size w wr) (fun _ i _=>L - (intOf i).toNat)
 case atStart=>exact ⟨0,_,rfl,rfl,Nat.zero_le _,⟨rfl,.inl ⟨rfl,rfl⟩⟩,Below.refl _ _⟩
 case round=>
  obtain ⟨k,u1,rfl,rfl,hkL,hr,hb⟩:=hrel;have HR:=hid hr;have HB:=hid hb;clear hr hb hcg;by_cases hlt:k < L
  ·have hkf:(k < L)=True:=eq_true hlt;have hkl:k < gs.length:=by rw [<- HL.out];exact hlt
   obtain ⟨b,o,rfl,hck⟩:=Pm (HSI.out wr HB.out) (k:=k) hkl;have HSN:=hid (DK (bs:=gs) (d:=0) (k:=k) hkl);obtain ⟨z,hz⟩:∃ z,z=gs.getD k 0:=⟨_,rfl⟩
   have hzm:z∈gs:=by rw [hz,List.getD_eq_getElem?_getD,List.getElem?_eq_getElem hkl];exact List.getElem_mem _
   rw [<- hz] at hck HSN;obtain ⟨y1,y2⟩:=HC.out wr HB.out;obtain ⟨K,hK⟩:∃ K,K=DN ks z:=⟨_,rfl⟩
   have hKD:=HKD.out z wr HB.out;have hk23:=HKK.out z hzm;rw [<- hK] at hKD hk23;have HKD2:=hid hKD;clear hkl hz hzm hK hKD
   go_upto_region 5 with fail
   go_wp2_with fail
   refine HKD2.out.mono ?_;rintro e w1 ⟨rfl,hb1⟩;have HB1:Hid (Below w.heap.size w w1):=hid (HB.out.trans (hb1.mono HB.out.size));have HR1:Hid (w1.ownsRow w.heap.size 3 1 u1 k (zv (gs.take k))):=hid (Ag (F:=fun _=>False) HR.out (Mv.of_below hb1) fun _ _=>id);clear hb1 HKD2 y1 y2 hck HR HB;have hk2:((K:Int) == 2)=true\/((K:Int) == 2)=false/\((K:Int) == 3)=true:=by
    rcases hk23 with h | h
    ·left;rw [h];rfl
    ·right;rw [h];exact ⟨rfl,rfl⟩
   clear hk23;rcases hk2 with h2 | ⟨h2,h3⟩
   all_goals
    go_wp2_with (refine BZ _ rfl (.tmp 31) (.tmp 33) 54 rfl w.heap.size 3 i0 (.int .i64 0) 1 8 Tryz.underlying54 HI.out.1 HI.out.2.1 HI.out.2.2.1 HI.out.2.2.2 rfl (by decide) _ k _ rfl (HR1.out.alloc _) ⟨w1.heap.size,0,none⟩ 1 1 [.int .i64 z] rfl rfl (Gx w1 [.int .i64 z] 3) (by simp [Value.oneCell']) (by unfold maxLen;omega) (by omega) (by have:=HB1.out.size;simp;omega) ?_)
    intro v4 w4 hr4 hg4 _;have HB4:=hid (A8 (HB1.out.alloc (by exact HB1.out.size) _) (HR1.out.alloc _) (Nat.le_refl _) hg4);have HR4:Hid (w4.ownsRow w.heap.size 3 1 v4 (k+1) (zv (gs.take (k+1)))):=hid (by rw [HSN.out,RU];exact hr4);clear hr4 hg4
    go_wp2_with fail
    go_roundw
    case rel=>exact ⟨k+1,v4,rfl,by go_num,by omega,HR4.out,HB4.out⟩
    case measure=>simp [intOf];omega
  ·have hkf:(k < L)=False:=eq_false hlt;have HKL:Hid (k=L):=hid (by omega)
   go_wp2_with fail
   go_ret
   obtain rfl:=HKL.out;have e:gs.take k=gs:=by rw [HL.out];exact List.take_length
   rw [e] at HR;exact ⟨⟨_,rfl,HR.out⟩,HB.out⟩
end Go.Proofs.YtfhdojnobmfefaaGreatDoor
namespace Go.Proofs.YtfhdojnobmfefaaGreatDoor
open Go Go.RowKit Go.Inc
theorem dR (w:World) (g:Nat) (cs:Array Value) (tmps:Array Value) (h2:tmps.getD 4 undef=.pointer (some ⟨g,0,none⟩)) (hg:w.heap[g]?=some (.cells cs 114 (0,0))) (hs:cs.size=2) :
  (results Tryz.f141 tmps).run Tryz.prog w=.ok (.tuple #[.agg cs,tmps.getD 5 undef]) w:=
 CS rfl tmps w g 114 cs (0,0) _ h2 hg Tryz.underlying114 rfl (by rw [hs];kernel_rfl)
set_option maxRecDepth 20000 in
set_option maxHeartbeats 4000000 in
theorem Wi {B jb tp:Nat} {fs:List Nm} {gs:List Int} {vf vg:Value} {w:World} (z lv:Int) (k:Nat) (x:Nm) (h:JobM B w jb tp fs gs vf vg) (hz:z=-(k:Int) - 1) (hx:fs[k]?=some x) (hl:fs.length<=1000) :
  Calls Tryz.prog 141 #[.pointer (some ⟨jb,0,none⟩),.agg #[.int .i64 z,.int .i64 lv]] w fun e w'=>e=.returned (.tuple #[.agg #[.bool x.lf,.slice x.a x.es.length x.c],.int .i64 0])/\Below w.heap.size w w':=by
 have hkl:k < fs.length:=(List.getElem?_eq_some_iff.1 hx).1;obtain ⟨bf,cf,hvf,-,hlt,-,-,hcl⟩:=GM h.fr FM (by intro e;rw [e] at hkl;cases hkl);subst hvf;have f1:w.cell? ⟨bf,k * 2,none⟩=some (.bool x.lf):=hcl k 0 x (.bool x.lf) hx rfl;have f2:=hcl k 1 x (.slice x.a x.es.length x.c) hx rfl;obtain ⟨L,hL⟩:∃ L,L=fs.length:=⟨_,rfl⟩
 rw [<- hL] at h hl hkl;obtain ⟨g,hg⟩:∃ g,g=w.heap.size:=⟨_,rfl⟩
 obtain ⟨w0,hw0⟩:∃ w0,w0=(w.alloc (.cells #[.int .i64 z,.int .i64 lv] 184)).alloc (.cells #[.bool false,.slice none 0 0] 114):=⟨_,rfl⟩
 have hb0:Below w.heap.size w w0:=by rw [hw0];exact ((Below.refl _ _).alloc (Nat.le_refl _) _).alloc (by simp) _
 have hx1:w0.heap[g]?=some (.cells #[.int .i64 z,.int .i64 lv] 184 (0,0)):=by rw [hw0,hg];exact heap_alloc2_old w _ _
 have hx2:w0.heap[g+1]?=some (.cells #[.bool false,.slice none 0 0] 114 (0,0)):=by rw [hw0,hg];exact heap_alloc2_new w _ _
 have HB0:=hid hb0;have HX2:=hid hx2;have HG:=hid hg;have HW0:=hid hw0;have hxor:bits .xor .i64 (-1) z=(k:Int):=by rw [Lr _ (by omega) (by omega)];omega
 have hzl:z < 0:=by omega
 have hkL:(k:Int) < (L:Int):=by omega
 have hkL2:k < L:=by omega
 have hLm:(L:Int)<=1000:=by omega
 have HC2:Hid (∀ y,Grew w0.drew y->y.cell? ⟨jb,1,none⟩=some (.slice (some ⟨bf,0,none⟩) L cf)/\y.cell? ⟨g,0,none⟩=some (.int .i64 z)/\y.cell? ⟨bf,k * 2,none⟩=some (.bool x.lf)/\y.cell? ⟨bf,k * 2+1,none⟩=some (.slice x.a x.es.length x.c)):=hid fun y hy=>by
  have hy2:Below w0.heap.size w0 y:=⟨hy.os,hy.tape,hy.output,hy.size,hy.block⟩
  have hy3:Below w.heap.size w y:=hb0.trans (hy2.mono hb0.size);have y1:=Ac h.blk hy3;have y2:=Ac hx1 hy2;exact ⟨by rw [cell_of_row _ _ _ _ _ _ y1];rfl,by rw [cell_of_row _ _ _ _ _ _ y2];rfl,(hy3.cell hlt).trans f1,(hy3.cell hlt).trans f2⟩
 have hcg:w0.cell? ⟨g,0,none⟩=some (.int .i64 z):=coR hx1;clear h hx hcl f1 f2 hL hg hw0 hb0 hx1 hx2 hlt hz
 go_enter Tryz.func141,Tryz.ntmps141
 go_upto_region 1 with fail
 rw [<- HW0.out,<- HG.out]
 go_wp2_with fail
 refine Ai 9 [EqN (.pointer (some ⟨jb,0,none⟩)),EqN (.pointer (some ⟨jb,0,none⟩)),EqN (.pointer (some ⟨jb,1,none⟩)),EqN (.slice (some ⟨bf,0,none⟩) L cf),EqN (.pointer (some ⟨g,0,none⟩)),EqN (.int .i64 z),EqN (.int .i64 (k:Int)),EqN (.pointer (some ⟨bf,k * 2,none⟩)),EqN (.agg #[.bool x.lf,.slice x.a x.es.length x.c])] (by kernel_rfl) (by decide) (by kernel_rfl) ?_ ?_ ?_
 ·repeat' (first | exact List.forall_mem_nil _ | refine List.forall_mem_cons.2 ⟨?_,?_⟩)
  all_goals
   intro w w' v hw h
   first | exact h | exact h
 ·simp only [AllLt];refine ⟨⟨⟨⟨⟨⟨⟨⟨⟨trivial,?_⟩,?_⟩,?_⟩,?_⟩,?_⟩,?_⟩,?_⟩,?_⟩,?_⟩
  all_goals
   intro o' ho;simp at ho;subst ho;intro ρ w5 hR hL hS hG;obtain ⟨hl1,hl2,-⟩:=hL
  ·refine Aa rfl ?_;intro bA K Q' hK;have e0:=hS 0 (by kernel_rfl);change ρ (.tmp 0)=_ at e0;simp only [execOp];go_simp;exact hK _ _ rfl (Grew.refl _)
  ·refine Aa rfl ?_;intro bA K Q' hK;have e9:=apG (hG 0 9);change ρ (.tmp 9)=_ at e9;simp only [execOp];go_simp;exact hK _ _ rfl (Grew.refl _)
  ·refine Aa rfl ?_;intro bA K Q' hK;have e10:=apG (hG 1 10);change ρ (.tmp 10)=_ at e10;simp only [execOp];go_simp;exact hK _ _ rfl (Grew.refl _)
  ·refine Aa rfl ?_;intro bA K Q' hK;have e11:=apG (hG 2 11);change ρ (.tmp 11)=_ at e11;obtain ⟨y1,y2,y3,y4⟩:=HC2.out w5 hR;simp only [execOp];go_simp;exact hK _ _ rfl (Grew.refl _)
  ·refine Aa rfl ?_;intro bA K Q' hK;have e3:=hS 3 (by kernel_rfl);change ρ (.tmp 3)=_ at e3;simp only [execOp];go_simp;exact hK _ _ rfl (Grew.refl _)
  ·refine Aa rfl ?_;intro bA K Q' hK;have e13:=apG (hG 4 13);change ρ (.tmp 13)=_ at e13;obtain ⟨y1,y2,y3,y4⟩:=HC2.out w5 hR;simp only [execOp];go_simp;exact hK _ _ rfl (Grew.refl _)
  ·refine Aa rfl ?_;intro bA K Q' hK;have e14:=apG (hG 5 14);change ρ (.tmp 14)=_ at e14;simp only [execOp];go_simp;exact hK _ _ (by show Value.int .i64 (bits .xor .i64 (-1) z)=_;rw [hxor]) (Grew.refl _)
  ·refine Aa rfl ?_;intro bA K Q' hK;have e12:=apG (hG 3 12);have e15:=apG (hG 6 15);change ρ (.tmp 12)=_ at e12;change ρ (.tmp 15)=_ at e15;simp only [execOp];go_simp;exact hK _ _ rfl (Grew.refl _)
  ·refine Aa rfl ?_;intro bA K Q' hK;have e16:=apG (hG 7 16);change ρ (.tmp 16)=_ at e16;obtain ⟨y1,y2,y3,y4⟩:=HC2.out w5 hR;simp only [execOp];go_simp;exact hK _ _ rfl (Grew.refl _)
 ·intro vv w5 hR hG;have h8:vv 8=.agg #[.bool x.lf,.slice x.a x.es.length x.c]:=hG.2;have hb5:Below w0.heap.size w0 w5:=⟨hR.os,hR.tape,hR.output,hR.size,hR.block⟩
  have HX5:=hid (Ac HX2.out hb5);have HB5:Hid (Below w.heap.size w w5):=hid (HB0.out.trans (hb5.mono HB0.out.size));clear hG hR hb5 HC2;simp [stG,stU,Au,Act.put,h8];clear h8
  go_wp2_with (refine Ae rfl 114 _ _ rfl (g+1) #[.bool x.lf,.slice x.a x.es.length x.c] rfl rfl 114 _ HX5.out (by kernel_rfl) rfl (by simp [Value.oneCell']) ?_)
  intro w6 hr6 hg6;have HR6:=hid hr6;have HB6:Hid (Below w.heap.size w w6):=hid (HB5.out.grown hg6 HB5.out.size fun k hk=>by have:=HG.out;cases hk;omega);clear hr6 hg6
  go_wp2_with fail
  exact bodyPost_ret (v:=.tuple #[.agg #[.bool x.lf,.slice x.a x.es.length x.c],.int .i64 0]) (dR w6 (g+1) _ _ rfl HR6.out rfl) rfl ⟨rfl,HB6.out⟩
set_option maxRecDepth 20000 in
set_option maxHeartbeats 4000000 in
theorem Wh {C:Nat->Nat} {B jb tp gd pa pn n:Nat} {S:St} {r ep:Int} {fs:List Nm} {gs:List Int} {vf vg:Value} {w:World} (h:JobM B w jb tp fs gs vf vg) (hcj:C jb=0) (hd:Dv C w gd pn n S) (htc:TC w tp gd pa r ep) (hct:C tp=0) (hon:S.on=true) (hn:n<=1000000) (hr:S.r<=1000000) (p:Nat) (lv:Int) (hlv:lv<=8) (hp:p < pn) (hby:Bytes (rd S p)) (lf:Bool) (es:List Et) (hnd:CJ S p=some (lf,es)) :
  Calls Tryz.prog 141 #[.pointer (some ⟨jb,0,none⟩),.agg #[.int .i64 (p:Int),.int .i64 lv]] w fun e w'=>(∃ v,e=.returned (.tuple #[v,.int .i64 0])/\NdW 65 w.heap.size w' v lf es)/\Dv C w' gd pn n {S with r:=S.r+1}/\Mv (fun b=>C b≠0) w w':=by
 obtain ⟨g,hg⟩:∃ g,g=w.heap.size:=⟨_,rfl⟩
 obtain ⟨w0,hw0⟩:∃ w0,w0=(w.alloc (.cells #[.int .i64 (p:Int),.int .i64 lv] 184)).alloc (.cells #[.bool false,.slice none 0 0] 114):=⟨_,rfl⟩
 have hb0:Below w.heap.size w w0:=by rw [hw0];exact ((Below.refl _ _).alloc (Nat.le_refl _) _).alloc (by simp) _
 have hx1:w0.heap[g]?=some (.cells #[.int .i64 (p:Int),.int .i64 lv] 184 (0,0)):=by rw [hw0,hg];exact heap_alloc2_old w _ _
 have hx2:w0.heap[g+1]?=some (.cells #[.bool false,.slice none 0 0] 114 (0,0)):=by rw [hw0,hg];exact heap_alloc2_new w _ _
 have HB0:=hid hb0;have HX2:=hid hx2;have HG:=hid hg;have HW0:=hid hw0;have HCG:Hid (∀ i,g<=i->C i=0):=hid fun i hi=>hd.new (by omega);have HJ0:Hid (Dv C w0 gd pn n S/\TC w0 tp gd pa r ep):=hid ⟨hd.below hb0,htc.mv (F:=fun _=>False) (Mv.of_below hb0) id⟩;have HA:=hid (And.intro hct (And.intro hon (And.intro hn (And.intro hr (And.intro hlv (And.intro hp (And.intro hby hnd)))))));have hzl:¬ (p:Int) < 0:=by omega
 have HC3:Hid (∀ y,Mv (fun b=>C b≠0) w0.drew y->y.cell? ⟨jb,0,none⟩=some (.pointer (some ⟨tp,0,none⟩))/\y.cell? ⟨g,0,none⟩=some (.int .i64 (p:Int))/\y.cell? ⟨g,1,none⟩=some (.int .i64 lv)):=hid fun y hy=>by
  have y1:=hy.row (w:=w0.drew) (show w0.heap[jb]?=_ from Ac h.blk hb0) (fun e=>e hcj);have y2:=hy.row (w:=w0.drew) hx1 (fun e=>e (HCG.out g (Nat.le_refl _)));refine ⟨?_,?_,?_⟩<;>first | (rw [cell_of_row _ _ _ _ _ _ y1];rfl) | (rw [cell_of_row _ _ _ _ _ _ y2];rfl)
 have hcg:w0.cell? ⟨g,0,none⟩=some (.int .i64 (p:Int)):=coR hx1;clear h hg hw0 hb0 hx1 hx2 hd htc hct hon hn hr hlv hp hby hnd hcj
 go_enter Tryz.func141,Tryz.ntmps141
 go_upto_region 1 with fail
 rw [<- HW0.out,<- HG.out]
 go_wp2_with fail
 refine BL (fun b=>C b≠0) 5 (fun x=>Dv C x gd pn n S/\TC x tp gd pa r ep) (fun x=>Dv C x gd pn n {S with r:=S.r+1}) 8 [] [] [EqN (.pointer (some ⟨jb,0,none⟩)),EqN (.pointer (some ⟨jb,0,none⟩)),EqN (.pointer (some ⟨jb,0,none⟩)),EqN (.pointer (some ⟨tp,0,none⟩)),EqN (.agg #[.int .i64 (p:Int),.int .i64 lv]),(fun y v=>∃ u,v=.tuple #[u,.int .i64 0]/\NdW 65 w0.heap.size y u lf es),(fun y u=>NdW 65 w0.heap.size y u lf es),EqN (.int .i64 0)] (by kernel_rfl) (by decide) (by kernel_rfl) (by kernel_rfl) (by kernel_rfl) (by decide) (⟨HJ0.out.1.below ((Below.refl _ _).drew),HJ0.out.2.mv (F:=fun _=>False) (Mv.of_below ((Below.refl _ _).drew)) id⟩) (fun a b hab h=>⟨h.1.below hab,h.2.mv (F:=fun _=>False) (Mv.of_below hab) id⟩) (fun a b hab h=>h.below hab) ?_ ?_ ?_
 ·repeat' (first | exact List.forall_mem_nil _ | refine List.forall_mem_cons.2 ⟨?_,?_⟩)
  all_goals
   intro w w' v hw h
   first | exact h | first | exact NdW.below h hw | (obtain ⟨u,h1,h2⟩:=h;exact ⟨u,h1,h2.below hw⟩)
 ·simp only [AllLt];refine ⟨⟨⟨⟨⟨⟨⟨⟨trivial,?_⟩,?_⟩,?_⟩,?_⟩,?_⟩,?_⟩,?_⟩,?_⟩
  all_goals
   intro o' ho;simp at ho;subst ho;intro ρ w5 hR hJ hL hS hG;obtain ⟨hl1,hl2,-⟩:=hL
  ·refine Aa rfl ?_;intro bA K Q' hK;have e0:=hS 0 (by kernel_rfl);change ρ (.tmp 0)=_ at e0;simp only [execOp];go_simp;exact hK _ _ rfl (.inl ⟨by decide,Grew.refl _⟩) (Ap (by decide))
  ·refine Aa rfl ?_;intro bA K Q' hK;have e18:=apG (hG 0 18);change ρ (.tmp 18)=_ at e18;simp only [execOp];go_simp;exact hK _ _ rfl (.inl ⟨by decide,Grew.refl _⟩) (Ap (by decide))
  ·refine Aa rfl ?_;intro bA K Q' hK;have e19:=apG (hG 1 19);change ρ (.tmp 19)=_ at e19;simp only [execOp];go_simp;exact hK _ _ rfl (.inl ⟨by decide,Grew.refl _⟩) (Ap (by decide))
  ·refine Aa rfl ?_;intro bA K Q' hK;have e20:=apG (hG 2 20);change ρ (.tmp 20)=_ at e20;obtain ⟨y1,y2,y3⟩:=HC3.out w5 hR;simp only [execOp];go_simp;exact hK _ _ rfl (.inl ⟨by decide,Grew.refl _⟩) (Ap (by decide))
  ·refine Aa rfl ?_;intro bA K Q' hK;have e3:=hS 3 (by kernel_rfl);change ρ (.tmp 3)=_ at e3;obtain ⟨y1,y2,y3⟩:=HC3.out w5 hR;simp only [execOp];go_simp;exact hK _ _ rfl (.inl ⟨by decide,Grew.refl _⟩) (Ap (by decide))
  ·refine Aa rfl ?_;intro bA K Q' hK;have e21:=apG (hG 3 21);have e22:=apG (hG 4 22);change ρ (.tmp 21)=_ at e21;change ρ (.tmp 22)=_ at e22;simp only [execOp];go_simp;obtain ⟨hj1,hj2⟩:=hJ rfl;obtain ⟨hct,hon,hn,hr,hlv,hp,hby,hnd⟩:=HA.out;refine (EM hj1 hj2 hct hon hn hr p lv hlv hp hby lf es hnd).mono ?_;rintro r9 w9 ⟨⟨u,rfl,hu⟩,hd9,hm9⟩;refine hK _ _ ⟨u,rfl,hu.weaken hR.size⟩ (.inr ⟨hm9,⟨fun _=>hd9,fun h=>absurd rfl h⟩,?_⟩) (Ap (by decide))
   ·simp only [AllLt];refine ⟨⟨⟨⟨⟨⟨⟨⟨trivial,?_⟩,?_⟩,?_⟩,?_⟩,?_⟩,?_⟩,?_⟩,?_⟩
    iterate 5
     ·first | exact fun _ x hx=>hx | exact Am (by kernel_rfl)
    ·exact Am (by kernel_rfl)
    iterate 2
     ·first | exact fun _ x hx=>hx | exact Am (by kernel_rfl)
  ·refine Aa rfl ?_;intro bA K Q' hK;have e23:=apG (hG 5 23);obtain ⟨u,e23,hu⟩:=e23;change ρ (.tmp 23)=_ at e23;simp only [execOp];go_simp;exact hK _ _ hu (.inl ⟨by decide,Grew.refl _⟩) (Ap (by decide))
  ·refine Aa rfl ?_;intro bA K Q' hK;have e23:=apG (hG 5 23);obtain ⟨u,e23,-⟩:=e23;change ρ (.tmp 23)=_ at e23;simp only [execOp];go_simp;exact hK _ _ rfl (.inl ⟨by decide,Grew.refl _⟩) (Ap (by decide))
 ·intro vv w5 hR hJ hG _;have h6:NdW 65 w0.heap.size w5 (vv 6) lf es:=hG.1.2 (by decide);have h7:vv 7=.int .i64 0:=hG.2 (by decide);obtain ⟨m,m1,m2,m3,m4⟩:=h6.nm;have hm5:Mv (fun b=>C b≠0) w0 w5:=⟨hR.os,hR.tape,hR.output,hR.size,hR.block⟩
  have HX5:=hid (hm5.row HX2.out fun e=>e (HCG.out _ (Nat.le_succ _)));have HM5:Hid (Mv (fun b=>C b≠0) w w5):=hid ((Mv.of_below HB0.out).trans hm5);have HD5:=hid hJ;have HNM:=hid (And.intro m1 (And.intro m2 m4));clear hG hR hJ hm5 HC3 h6 m1 m2 m4;simp [stG,stU,Au,Act.put,m3,h7];clear m3 h7
  go_wp2_with (refine Ae rfl 114 _ _ rfl (g+1) #[.bool m.lf,.slice m.a m.es.length m.c] rfl rfl 114 _ HX5.out (by kernel_rfl) rfl (by simp [Value.oneCell']) ?_)
  intro w6 hr6 hg6;have HR6:=hid hr6;have hm6:Mv (fun b=>b=g+1) w5 w6:=Mv.of_grown hg6 fun k hk _=>by cases hk;rfl
  have HM6:Hid (Mv (fun b=>C b≠0) w w6):=hid (HM5.out.trans' hm6 fun i hi e=>by have:=HG.out;omega);have HD6:Hid (Dv C w6 gd pn n {S with r:=S.r+1}):=hid (HD5.out.keep hm6 fun i hi=>by rw [hi];exact HCG.out _ (Nat.le_succ _));have HNM6:Hid (NmOk 65 w0.heap.size w6 m):=hid (HNM.out.2.2.apart hg6 HX5.out (by decide));clear hr6 hg6 hm6
  go_wp2_with fail
  refine bodyPost_ret (v:=.tuple #[.agg #[.bool m.lf,.slice m.a m.es.length m.c],.int .i64 0]) (dR w6 (g+1) _ _ rfl HR6.out rfl) rfl ⟨⟨_,rfl,?_⟩,HD6.out,HM6.out⟩;have:=HNM6.out.weaken HB0.out.size;rw [HNM.out.1];exact ⟨m.a,m.es.length,m.c,rfl,by rw [<- HNM.out.2.1];exact this.1,by rw [<- HNM.out.2.1];exact this.2⟩
end Go.Proofs.YtfhdojnobmfefaaGreatDoor
namespace Go.Inc
open Go Go.RowKit
theorem TpI.isTop {f:Nat->Option Nd} {ns0:List Int} {D:Nat} {z:Int} {s:Sh D} {zs:List Int} {fr:List Nd} {g:List Int} {lf:Bool} {es:List Et} (h:TpI f ns0 D z s zs fr g) (hv:vw f fr z=some (lf,es)) (hc:lf=true\/es.length≠1):(TrG.mk D s).top:=by
 match D,s,h.is with
 | 0,_,_=>trivial
 | D+1,cs,⟨l,h1,h2,_,_⟩=>
  rw [hv] at h2;simp only [Option.some.injEq,Prod.mk.injEq] at h2;obtain ⟨rfl,rfl⟩:=h2;have hl:=BV (D:=D) h1.len;show List.length cs≠1;rcases hc with hc | hc
  ·cases hc
  ·rw [<- hl];exact hc
theorem TpI.mem0 {f:Nat->Option Nd} {ns0:List Int} {D:Nat} {z:Int} {s:Sh D} {zs:List Int} {fr:List Nd} {g:List Int} (h:TpI f ns0 D z s zs fr g) (hz:0<=z):z∈ns0:=by
 have h1:=h.cnt z;have h2:=cn_mem.1 h.is.head;have h3:cn z (Dz 0 fr.length)=0:=Dc fun hm=>by have:=negs_mem.1 hm;omega
 exact cn_mem.2 (by omega)
theorem TpI.lo {f:Nat->Option Nd} {ns0:List Int} {D:Nat} {z:Int} {s:Sh D} {zs:List Int} {fr:List Nd} {g:List Int} (h:TpI f ns0 D z s zs fr g):-(fr.length:Int)<=z:=Qe (IsZ.there h.is z h.is.head)
theorem Col.trans {a b c:TrG} (h:Col a b) (k:Col b c):Col a c:=by
 induction h with
 | refl _=>exact k
 | step _ ih=>exact .step (ih k)
end Go.Inc
namespace Go.Proofs.YtfhdojnobmfefaaGreatDoor
open Go Go.RowKit Go.Inc
theorem JobM.below {B jb tp:Nat} {fs:List Nm} {gs:List Int} {vf vg:Value} {w w':World} (h:JobM B w jb tp fs gs vf vg) (hb:Below w.heap.size w w'):JobM B w' jb tp fs gs vf vg:=
 h.far (F:=fun _=>False) (Mv.of_below hb) id (fun _ _=>id) (fun _ _=>id) fun _ _ _ _ _=>id
theorem JobM.cfar {C:Nat->Nat} {B jb tp:Nat} {fs:List Nm} {gs:List Int} {vf vg:Value} {w w':World} (h:JobM B w jb tp fs gs vf vg) (hCB:∀ i,B<=i->C i=0) (hm:Mv (fun b=>C b≠0) w w'):JobM B w' jb tp fs gs vf vg:=
 h.far hm (fun e=>e (hCB jb h.ge)) (fun b hb e=>e (hCB b (AB h.fr b hb))) (fun b hb e=>e (hCB b (AB h.gn b hb))) fun x hx b o hb e=>e (hCB b ((h.nds x hx).2.blk (h.nds x hx).1 b o hb).1)
theorem YD {C:Nat->Nat} {B jb tp gd pa pn n:Nat} {S:St} {r ep:Int} {fs:List Nm} {gs:List Int} {vf vg:Value} {w:World} (h:JobM B w jb tp fs gs vf vg) (hCB:∀ i,B<=i->C i=0) (hd:Dv C w gd pn n S) (htc:TC w tp gd pa r ep) (hct:C tp=0) (hon:S.on=true) (hn:n<=1000000) (hr:S.r<=1000000) (hB:B<=w.heap.size) (z lv:Int) (hlv:lv<=8) (hpg:0<=z->z.toNat < pn/\Bytes (rd S z.toNat)) (lf:Bool) (es:List Et) (hnd:vw (CJ S) (fs.map Nm.nd) z=some (lf,es)) (hl:fs.length<=1000) :
  Calls Tryz.prog 141 #[.pointer (some ⟨jb,0,none⟩),.agg #[.int .i64 z,.int .i64 lv]] w fun e w'=>(∃ v,e=.returned (.tuple #[v,.int .i64 0])/\NdW 65 B w' v lf es)/\(∃ r',S.r<=r'/\r'<=S.r+1/\Dv C w' gd pn n {S with r:=r'})/\Mv (fun b=>C b≠0) w w':=by
 by_cases hz:z < 0
 ·rw [F7 hz,List.getElem?_map] at hnd;obtain ⟨x,hx,hxe⟩:∃ x,fs[(-z - 1).toNat]?=some x/\x.nd=(lf,es):=by
   cases hx:fs[(-z - 1).toNat]? with
   | none=>rw [hx] at hnd;cases hnd
   | some x=>rw [hx] at hnd;exact ⟨x,rfl,by simpa using hnd⟩
  refine (Wi z lv (-z - 1).toNat x h (by omega) hx hl).mono ?_;rintro e w' ⟨rfl,hb⟩;have hk:=((h.nds x (List.mem_of_getElem? hx)).2).below hb;cases hxe;exact ⟨⟨_,rfl,x.a,_,x.c,rfl,hk.1,hk.2⟩,⟨S.r,Int.le_refl _,by omega,hd.below hb⟩,Mv.of_below hb⟩
 ·obtain ⟨p,rfl⟩:=Int.eq_ofNat_of_zero_le (by omega:0<=z);rw [Hq (by omega)] at hnd;obtain ⟨h1,h2⟩:=hpg (by omega);refine (Wh h (hCB jb h.ge) hd htc hct hon hn hr p lv hlv h1 h2 lf es hnd).mono ?_;rintro e w' ⟨⟨v,rfl,hv⟩,hd',hm⟩;exact ⟨⟨v,rfl,hv.weaken hB⟩,⟨S.r+1,by omega,Int.le_refl _,hd'⟩,hm⟩
def ZJ (C:Nat->Nat) (B jb tp gd pa pn n:Nat) (S:St) (r ep:Int) (fs0:List Nm) (gs0:List Int) (vg0:Value) (ns0:List Int) (D0:Nat) (s0:Sh D0) (w wr:World) (z:Int) (D:Nat) (s:Sh D) (zs:List Int) (fs:List Nm) (gs:List Int) (vf vg:Value) (r' k:Int):Prop:=
 JobM B wr jb tp fs gs vf vg/\TpI (CJ S) ns0 D z s zs (fs.map Nm.nd) gs/\okS D s/\Col (.mk D0 s0) (.mk D s)/\Dv C wr gd pn n {S with r:=r'}/\S.r<=r'/\r'+(D:Int)<=S.r+(D0:Int)+k/\TC wr tp gd pa r ep/\fs.length<=fs0.length/\gs.length+D<=gs0.length+D0/\Nw w vg0 vg/\Mv (fun b=>C b≠0\/b=jb\/vg0.ownBlock=some b) w wr
def gY (C:Nat->Nat) (B jb tp gd pa pn n:Nat) (S:St) (r ep:Int) (fs:List Nm) (gs:List Int) (vg:Value) (ns0:List Int) (D0:Nat) (s0:Sh D0) (w:World) (e:Ending) (w':World):Prop:=∃ (z:Int) (D:Nat) (s:Sh D) (zs:List Int) (fs':List Nm) (gs':List Int) (vf' vg':Value) (r':Int),e=.returned (.tuple #[.int .i64 z,.int .i64 0])/\ZJ C B jb tp gd pa pn n S r ep fs gs vg ns0 D0 s0 w w' z D s zs fs' gs' vf' vg' r' 1/\(TrG.mk D s).top
set_option maxRecDepth 20000 in
set_option maxHeartbeats 8000000 in
theorem UA {C:Nat->Nat} {B jb tp gd pa pn n:Nat} {S:St} {r ep:Int} {fs:List Nm} {gs:List Int} {vf vg:Value} {w:World} {ns0:List Int} {D0:Nat} {s0:Sh D0} {z0:Int} {zs0:List Int} (h:JobM B w jb tp fs gs vf vg) (hCB:∀ i,B<=i->C i=0) (hd:Dv C w gd pn n S) (htc:TC w tp gd pa r ep) (hct:C tp=0) (hon:S.on=true) (hn:n<=1000000) (hr:S.r<=900100) (hB:B<=w.heap.size) (a:Option Addr) (c:Nat) (ky:Ky) (hl:EtS (fun _=>True) w a [(ky,z0)]) (ht:TpI (CJ S) ns0 D0 z0 s0 zs0 (fs.map Nm.nd) gs) (hnd:ns0.Nodup) (h0:∀ x∈ns0,0<=x/\x.toNat < pn/\Bytes (rd S x.toNat)) (hok:okS D0 s0) (hD:D0<=7) (hfs:fs.length<=100) (hgs:gs.length<=100) (hpn:pn<=100000) :
  Calls Tryz.prog 109 #[.pointer (some ⟨jb,0,none⟩),.slice a 1 c] w fun e w'=>gY C B jb tp gd pa pn n S r ep fs gs vg ns0 D0 s0 w e w':=by
 obtain ⟨be,oe,rfl,f1,f2,f3⟩:=DC hl (by simp);have f3:w.cell? ⟨be,oe+2,none⟩=some (.int .i64 z0):=f3;have HA:=hid (And.intro hCB (And.intro hct (And.intro hon (And.intro hn (And.intro hr (And.intro hB (And.intro hnd (And.intro h0 (And.intro hfs (And.intro hgs (And.intro hD hpn)))))))))));have HI0:Hid (ZJ C B jb tp gd pa pn n S r ep fs gs vg ns0 D0 s0 w w z0 D0 s0 zs0 fs gs vf vg S.r 0):=hid ⟨h,ht,hok,.refl _,hd,Int.le_refl _,by omega,htc,Nat.le_refl _,Nat.le_refl _,Nw.refl _ _,Mv.refl _ _⟩;clear hCB hd htc hct hon hn hr hB hl ht hnd h0 hok hfs hgs hpn h f1 f2
 go_enter Tryz.func109,Tryz.ntmps109
 go_wp2_with (refine Ae rfl 184 _ _ rfl w.heap.size #[.int .i64 z0,.int .i64 1] rfl rfl 184 _ (heap_alloc_new w _) (by kernel_rfl) rfl (by simp [Value.oneCell']) ?_)
 intro w1 hr1 hg1;obtain ⟨q6,hq6⟩:∃ q,q=w.heap.size:=⟨_,rfl⟩
 rw [<- hq6] at hr1;rw [<- hq6];have HR1:=hid hr1;have HQ6:=hid hq6;have hb1:Below w.heap.size w w1:=(Ad w _).grown hg1 (Ad w _).size fun k hk=>by cases hk;omega
 have HI1:Hid (ZJ C B jb tp gd pa pn n S r ep fs gs vg ns0 D0 s0 w w1 z0 D0 s0 zs0 fs gs vf vg S.r 0):=hid (by
  obtain ⟨i1,i2,i3,i4,i5,i6,i7,i8,i9,i10,i11,i12⟩:=HI0.out;exact ⟨i1.below hb1,i2,i3,i4,i5.below hb1,i6,i7,i8.mv (F:=fun _=>False) (Mv.of_below hb1) id,i9,i10,i11,Mv.of_below hb1⟩)
 clear hr1 hg1 hb1 HI0 hq6 f3
 go_wp2_with fail
 go_loopw [4] (fun _ wr=>∃ (z lv:Int) (D:Nat) (s:Sh D) (zs:List Int) (fs':List Nm) (gs':List Int) (vf' vg':Value) (r':Int),wr.heap[q6]?=some (.cells #[.int .i64 z,.int .i64 lv] 184 (0,0))/\ZJ C B jb tp gd pa pn n S r ep fs gs vg ns0 D0 s0 w wr z D s zs fs' gs' vf' vg' r' 0/\1<=lv/\lv+(D:Int)<=8) (fun _ wr=>20 - (intOf ((wr.cell? ⟨q6,1,none⟩).getD undef)).toNat)
 case atStart=>exact ⟨z0,1,D0,s0,zs0,fs,gs,vf,vg,S.r,HR1.out,HI1.out,by omega,by have:=HA.out.2.2.2.2.2.2.2.2.2.2.1;omega⟩
 case round=>
  clear HR1 HI1;obtain ⟨z,lv,D,s,zs,fs',gs',vf',vg',r',hrow,hti,hlv1,hlv8⟩:=hrel;have HROW:=hid hrow;have HTI:=hid hti;obtain ⟨aCB,act,aon,an,ar,aB,and',a0,afs,ags,aD,apn⟩:=HA.out;obtain ⟨i1,i2,i3,i4,i5,i6,i7,i8,i9,i10,i11,i12⟩:=hti;have hBr:B<=wr.heap.size:=Nat.le_trans aB i12.size;obtain ⟨av,cv,hvg,hgl,hsi⟩:=IC i1.gn;obtain ⟨Lg,hLg⟩:∃ L,L=gs'.length:=⟨_,rfl⟩
  rw [<- hLg] at hvg hgl;have hzlo:-100<=z:=by have:=i2.lo;rw [List.length_map] at this;omega
  have hzhi:z<=100000:=by
   by_cases hz:0<=z
   ·have:=(a0 z (i2.mem0 hz)).2.1;omega
   ·omega
  have HCON:Hid (∀ y,Below wr.heap.size wr y->Calls Tryz.prog 131 #[.slice av Lg cv,.int .i64 z] y fun e w'=>e=.returned (.bool false)/\Below y.heap.size y w'):=hid fun y hy=>by
   have h1:=PV _ av cv gs' z y ((hsi.mono (ok':=fun b=>b < wr.heap.size) fun b hb _=>Ko i1.gn hb).below hy) (by omega) ⟨by omega,by omega⟩;rw [decide_eq_false (i2.not and'),<- hLg] at h1;exact h1
  have HC4:Hid (∀ y,Grew wr.drew y->y.cell? ⟨jb,2,none⟩=some (.slice av Lg cv)/\y.cell? ⟨q6,0,none⟩=some (.int .i64 z)):=hid fun y hy=>by
   have hy2:Below wr.heap.size wr y:=⟨hy.os,hy.tape,hy.output,hy.size,hy.block⟩
   have y1:=Ac i1.blk hy2;have y2:=Ac hrow hy2;exact ⟨by rw [cell_of_row _ _ _ _ _ _ y1,hvg];rfl,by rw [cell_of_row _ _ _ _ _ _ y2];rfl⟩
  obtain ⟨lf,es,hvw,hne,h16,hone⟩:=i2.node i3;have HVW:=hid hvw;have HNE:=hid hne;have HONE:=hid hone;have HLKA:Hid (∀ y,Below wr.heap.size wr y->Calls Tryz.prog 141 #[.pointer (some ⟨jb,0,none⟩),.agg #[.int .i64 z,.int .i64 lv]] y fun e w'=>(∃ v,e=.returned (.tuple #[v,.int .i64 0])/\NdW 65 B w' v lf es)/\(∃ r2,r'<=r2/\r2<=r'+1/\Dv C w' gd pn n {S with r:=r2})/\Mv (fun b=>C b≠0) y w'):=hid fun y hy=>
   YD (S:={S with r:=r'}) (i1.below hy) aCB (i5.below hy) (i8.mv (F:=fun _=>False) (Mv.of_below hy) id) act aon an (by show r'<=_;omega) (Nat.le_trans hBr hy.size) z lv (by omega) (fun hz=>(a0 z (i2.mem0 hz)).2) lf es hvw (by omega)
  have HZ:=hid (And.intro hzlo hzhi);have HLV:=hid (And.intro hlv1 hlv8);have HBR:=hid hBr;clear i1 i2 i3 i4 i5 i6 i7 i8 i9 i10 i11 i12 aCB act aon an ar aB and' a0 afs ags aD apn hvg hgl hsi hLg hzlo hzhi hvw hne h16 hone hBr hrow
  go_wp2_with fail
  refine Ai 7 [EqN (.pointer (some ⟨jb,0,none⟩)),EqN (.pointer (some ⟨jb,0,none⟩)),EqN (.pointer (some ⟨jb,2,none⟩)),EqN (.slice av Lg cv),EqN (.pointer (some ⟨q6,0,none⟩)),EqN (.int .i64 z),EqN (.bool false)] (by kernel_rfl) (by decide) (by kernel_rfl) ?_ ?_ ?_
  ·repeat' (first | exact List.forall_mem_nil _ | refine List.forall_mem_cons.2 ⟨?_,?_⟩)
   all_goals
    intro w w' v hw h
    first | exact h | exact h
  ·simp only [AllLt];refine ⟨⟨⟨⟨⟨⟨⟨trivial,?_⟩,?_⟩,?_⟩,?_⟩,?_⟩,?_⟩,?_⟩
   all_goals
    intro o' ho;simp at ho;subst ho;intro ρ w5 hR hL hS hG;obtain ⟨hl1,hl2,-⟩:=hL
   ·refine Aa rfl ?_;intro bA K Q' hK;have e0:=hS 0 (by kernel_rfl);change ρ (.tmp 0)=_ at e0;simp only [execOp];go_simp;exact hK _ _ rfl (Grew.refl _)
   ·refine Aa rfl ?_;intro bA K Q' hK;have e17:=apG (hG 0 17);change ρ (.tmp 17)=_ at e17;simp only [execOp];go_simp;exact hK _ _ rfl (Grew.refl _)
   ·refine Aa rfl ?_;intro bA K Q' hK;have e18:=apG (hG 1 18);change ρ (.tmp 18)=_ at e18;simp only [execOp];go_simp;exact hK _ _ rfl (Grew.refl _)
   ·refine Aa rfl ?_;intro bA K Q' hK;have e19:=apG (hG 2 19);change ρ (.tmp 19)=_ at e19;obtain ⟨y1,y2⟩:=HC4.out w5 hR;simp only [execOp];go_simp;exact hK _ _ rfl (Grew.refl _)
   ·refine Aa rfl ?_;intro bA K Q' hK;have e6:=hS 6 (by kernel_rfl);change ρ (.tmp 6)=_ at e6;simp only [execOp];go_simp;exact hK _ _ rfl (Grew.refl _)
   ·refine Aa rfl ?_;intro bA K Q' hK;have e21:=apG (hG 4 21);change ρ (.tmp 21)=_ at e21;obtain ⟨y1,y2⟩:=HC4.out w5 hR;simp only [execOp];go_simp;exact hK _ _ rfl (Grew.refl _)
   ·refine Aa rfl ?_;intro bA K Q' hK;have e20:=apG (hG 3 20);have e22:=apG (hG 5 22);change ρ (.tmp 20)=_ at e20;change ρ (.tmp 22)=_ at e22;simp only [execOp];go_simp;refine (HCON.out w5 ⟨hR.os,hR.tape,hR.output,hR.size,hR.block⟩).mono ?_;rintro r9 w9 ⟨rfl,hb9⟩;exact hK _ _ rfl hb9
  ·intro vv w2 hR hG;have h6:vv 6=.bool false:=hG.2;have hb2:Below wr.heap.size wr w2:=⟨hR.os,hR.tape,hR.output,hR.size,hR.block⟩
   have HB2:=hid hb2;have hrow2:=Ac HROW.out hb2;have HROW2:=hid hrow2;have hq0:w2.cell? ⟨q6,0,none⟩=some (.int .i64 z):=coR hrow2;have hq1:w2.cell? ⟨q6,1,none⟩=some (.int .i64 lv):=coR hrow2;have HLK:=hid (HLKA.out w2 hb2);clear hG hR hb2 HC4 HCON HLKA hrow2;simp [stG,stU,Au,Act.put,h6];clear h6
   go_wp2_with fail
   refine HLK.out.mono ?_;clear HLK;rintro e w3 ⟨⟨v,rfl,hv⟩,⟨r2,hr21,hr22,hd3⟩,hm3⟩;obtain ⟨m,m1,m2,rfl,m3⟩:=hv.nm;have HNM:=hid (And.intro m1 (And.intro m2 m3));have HD3:=hid hd3;have HM3:=hid hm3;have HR2:=hid (And.intro hr21 hr22);have HCQ:Hid (∀ i,B<=i->C i=0):=hid HA.out.1;have HQB:Hid (B<=q6):=hid (by rw [HQ6.out];exact HA.out.2.2.2.2.2.1);have HROW3:Hid (w3.heap[q6]?=some (.cells #[.int .i64 z,.int .i64 lv] 184 (0,0))):=hid (hm3.row HROW2.out fun e=>e (HCQ.out q6 HQB.out));clear hv m1 m2 m3 hr21 hr22 hd3 hm3 hq0 hq1
   go_wp2_with (refine Ae rfl 114 _ _ rfl w3.heap.size #[.bool m.lf,.slice m.a m.es.length m.c] rfl rfl 114 _ (heap_alloc_new w3 _) (by kernel_rfl) rfl (by simp [Value.oneCell']) ?_)
   intro w4 hr4 hg4;obtain ⟨q7,hq7⟩:∃ q,q=w3.heap.size:=⟨_,rfl⟩
   rw [<- hq7] at hr4;rw [<- hq7];have HR4:=hid hr4;have HQ7:=hid hq7;have HB4:Hid (Below w3.heap.size w3 w4):=hid ((Ad w3 _).grown hg4 (Ad w3 _).size fun k hk=>by cases hk;exact Nat.le_refl _);have HNM4:Hid (NmOk 65 B w4 m):=hid (HNM.out.2.2.below HB4.out);have HROW4:=hid (Ac HROW3.out HB4.out);have HJ4:Hid (JobM B w4 jb tp fs' gs' vf' vg'):=hid (((HTI.out.1.below HB2.out).cfar HCQ.out HM3.out).below HB4.out);have HD4:Hid (Dv C w4 gd pn n {S with r:=r2}):=hid (HD3.out.below HB4.out);have HMV4:Hid (Mv (fun b=>C b≠0\/b=jb\/vg.ownBlock=some b) w w4):=hid (((HTI.out.2.2.2.2.2.2.2.2.2.2.2.trans (Mv.of_below HB2.out)).trans' HM3.out fun _ _ e=>.inl e).trans (Mv.of_below HB4.out));have HTC4:Hid (TC w4 tp gd pa r ep):=hid ((((HTI.out.2.2.2.2.2.2.2.1).mv (F:=fun _=>False) (Mv.of_below HB2.out) id).mv HM3.out fun e=>e HA.out.2.1).mv (F:=fun _=>False) (Mv.of_below HB4.out) id);have hd0:w4.cell? ⟨q7,0,none⟩=some (.bool lf):=by rw [cell_of_row _ _ _ _ _ _ hr4,<- HNM.out.1];rfl
   obtain ⟨N,hN⟩:∃ N,N=m.es.length:=⟨_,rfl⟩
   have hd1:w4.cell? ⟨q7,1,none⟩=some (.slice m.a N m.c):=by rw [cell_of_row _ _ _ _ _ _ hr4,hN];rfl
   have hq0:w4.cell? ⟨q6,0,none⟩=some (.int .i64 z):=coR HROW4.out;have HN:=hid hN;clear hr4 hg4 hq7 hN;have HEND:Hid (lf=true\/es.length≠1->gY C B jb tp gd pa pn n S r ep fs gs vg ns0 D0 s0 w (.returned (.tuple #[.int .i64 z,.int .i64 0])) w4):=hid fun hc=>by
    obtain ⟨i1,i2,i3,i4,i5,i6,i7,i8,i9,i10,i11,i12⟩:=HTI.out;have:=HR2.out;exact ⟨z,D,s,zs,fs',gs',vf',vg',r2,rfl,⟨HJ4.out,i2,i3,i4,HD4.out,by omega,by omega,HTC4.out,i9,i10,i11,HMV4.out⟩,i2.isTop HVW.out hc⟩
   cases lf with
   | true=>
    go_wp2_with fail
    go_ret2
    exact HEND.out (by first | exact .inl rfl | exact .inl trivial)
   | false=>
    by_cases h1:1 < N
    ·have h1i:1 < (N:Int):=by omega
     go_wp2_with fail
     go_ret2
     exact HEND.out (.inr (by have:=HN.out;rw [HNM.out.2.1] at this;omega))
    ·have h1i:¬ 1 < (N:Int):=by omega
     have hes1:es.length=1:=by
      have h2:=HN.out;rw [HNM.out.2.1] at h2;have h3:=List.length_pos_iff.2 HNE.out;omega
     obtain ⟨D',c',he⟩:=HONE.out rfl hes1;cases he;have HLEAVE:Hid (∃ (kq:Ky) (zq:Int) (zsq:List Int),es=[(kq,zq)]/\Calls Tryz.prog 142 #[.pointer (some ⟨jb,0,none⟩),.int .i64 z] w4 fun e w5=>(∃ u,e=.returned u)/\∃ fs5 gs5 vf5 vg5,JobM B w5 jb tp fs5 gs5 vf5 vg5/\TpI (CJ S) ns0 D' zq c' zsq (fs5.map Nm.nd) gs5/\fs5.length<=fs'.length/\gs5.length<=gs'.length+1/\Nw w4 vg' vg5/\Mv (fun b=>b=jb\/vg'.ownBlock=some b) w4 w5):=hid (by
      obtain ⟨aCB,act,aon,an,ar,aB,and',a0,afs,ags,aD,apn⟩:=HA.out;obtain ⟨i1,i2,i3,i4,i5,i6,i7,i8,i9,i10,i11,i12⟩:=HTI.out;by_cases hz:z < 0
      ·obtain ⟨q,e1,e2⟩:=i2.new (fun x hx=>(a0 x hx).1) hz;obtain ⟨l1,l2⟩:=i2.last hz;rw [List.length_map] at l1 l2 e2;rw [HVW.out] at e1;simp only [Option.some.injEq,Prod.mk.injEq,true_and] at e1;refine ⟨_,q.1,q.2,e1,(Tv z HJ4.out l1 (List.length_pos_iff.1 l2) (by omega)).mono ?_⟩;rintro e w5 ⟨hu,vf5,j1,j2,j3⟩;exact ⟨hu,_,gs',vf5,vg',j1,by rw [List.map_take];exact e2,by rw [List.length_take];omega,by omega,Nw.refl _ _,(show Mv (fun b=>b=jb\/vg'.ownBlock=some b) w4 w5 from (Mv.refl _ w4).trans' j3 fun _ _ h=>.inl h)⟩
      ·obtain ⟨q,e1,e2⟩:=i2.old (by omega);rw [HVW.out] at e1;simp only [Option.some.injEq,Prod.mk.injEq,true_and] at e1;refine ⟨_,q.1,q.2,e1,(Tu z HJ4.out (by omega) (by omega) (Nat.le_trans aB HMV4.out.size)).mono ?_⟩;rintro e w5 ⟨hu,vg5,j1,j2,j3⟩;exact ⟨hu,fs',_,vf',vg5,j1,e2,Nat.le_refl _,by rw [List.length_append];exact Nat.le_refl _,j2,j3⟩)
     obtain ⟨kq,zq,zsq,hes,hcall⟩:=HLEAVE.out;have HES:=hid hes;have HCALL:=hid hcall;clear hes hcall HLEAVE hes1 HEND
     go_wp2_with fail
     refine HCALL.out.mono ?_;clear HCALL;rintro e w5 ⟨⟨u,rfl⟩,fs5,gs5,vf5,vg5,j1,j2,j3,j4,j5,hm5⟩;have hT:∀ b cs T,w4.heap[b]?=some (.cells cs T (0,0))->T≠168->T≠3->¬ (b=jb\/vg'.ownBlock=some b):=fun b cs T hb h1 h2 e=>by
      rcases e with e | e
      ·subst e;have:=HJ4.out.blk.symm.trans hb;simp only [Option.some.injEq,Obj.cells.injEq] at this;exact h1 this.2.1.symm
      ·exact AU HJ4.out.gn hb (Ne.symm h2) e
     have hr7:=hm5.row HR4.out (hT _ _ _ HR4.out (by decide) (by decide));have hr6:=hm5.row HROW4.out (hT _ _ _ HROW4.out (by decide) (by decide));have htc5:TC w5 tp gd pa r ep:=HTC4.out.mv hm5 (hT _ _ _ HTC4.out (by decide) (by decide));have hd5:Dv C w5 gd pn n {S with r:=r2}:=HD4.out.keep hm5 fun i hi=>by
      rcases hi with hi | hi
      ·subst hi;exact HCQ.out _ HJ4.out.ge
      ·exact HCQ.out _ (AB HJ4.out.gn _ hi)
     have hnm5:NmOk 65 B w5 m:=HNM4.out.mvT hm5 fun b cs hb=>hT b cs _ hb (by decide) (by decide);have hme:m.es=[(kq,zq)]:=HNM.out.2.1.trans HES.out;obtain ⟨b5,o5,hma,g1,g2,g3⟩:=DC hnm5.2.ets (by rw [hme];simp);rw [hme] at g3;have g3:w5.cell? ⟨b5,o5+2,none⟩=some (.int .i64 zq):=g3;have hb5l:=(hnm5.blk (by rw [hme];simp) b5 o5 hma).2;have HC12:Hid (∀ y,Grew w5.drew y->y.cell? ⟨q7,1,none⟩=some (.slice (some ⟨b5,o5,none⟩) N m.c)/\y.cell? ⟨b5,o5+2,none⟩=some (.int .i64 zq)/\y.cell? ⟨q6,1,none⟩=some (.int .i64 lv)):=hid fun y hy=>by
      have hy2:Below w5.heap.size w5 y:=⟨hy.os,hy.tape,hy.output,hy.size,hy.block⟩
      have y1:=Ac hr7 hy2;have y2:=Ac hr6 hy2;exact ⟨by rw [cell_of_row _ _ _ _ _ _ y1,HN.out,<- hma];rfl,(hy2.cell hb5l).trans g3,by rw [cell_of_row _ _ _ _ _ _ y2];rfl⟩
     have hN0:0 < N:=by rw [HN.out,hme];simp
     have hN0i:0 < (N:Int):=by omega
     have hwrap:IntKind.i64.wrap (lv+1)=lv+1:=by rw [IntKind.wrap_i64];have:=HLV.out;omega
     have HR6:=hid hr6;have HTC5:=hid htc5;have HD5:=hid hd5;have HM5:=hid hm5;have HJ5:=hid (And.intro j1 (And.intro j2 (And.intro j3 (And.intro j4 j5))));clear hr7 hr6 htc5 hd5 hnm5 hma g1 g2 g3 hb5l hm5 j1 j2 j3 j4 j5 hT hme hd0 hd1 hq0
     go_wp2_with fail
     refine Ai 9 [EqN (.pointer (some ⟨q7,1,none⟩)),EqN (.slice (some ⟨b5,o5,none⟩) N m.c),EqN (.pointer (some ⟨b5,o5,none⟩)),EqN (.pointer (some ⟨b5,o5+2,none⟩)),EqN (.int .i64 zq),EqN (.pointer (some ⟨q6,1,none⟩)),EqN (.int .i64 lv),EqN (.int .i64 (lv+1)),EqN (.agg #[.int .i64 zq,.int .i64 (lv+1)])] (by kernel_rfl) (by decide) (by kernel_rfl) ?_ ?_ ?_
     ·repeat' (first | exact List.forall_mem_nil _ | refine List.forall_mem_cons.2 ⟨?_,?_⟩)
      all_goals
       intro w w' v hw h
       first | exact h | exact h
     ·simp only [AllLt];refine ⟨⟨⟨⟨⟨⟨⟨⟨⟨trivial,?_⟩,?_⟩,?_⟩,?_⟩,?_⟩,?_⟩,?_⟩,?_⟩,?_⟩
      all_goals
       intro o' ho;simp at ho;subst ho;intro ρ w5 hR hL hS hG;obtain ⟨hl1,hl2,-⟩:=hL
      ·refine Aa rfl ?_;intro bA K Q' hK;have e7:=hS 7 (by kernel_rfl);change ρ (.tmp 7)=_ at e7;simp only [execOp];go_simp;exact hK _ _ rfl (Grew.refl _)
      ·refine Aa rfl ?_;intro bA K Q' hK;have e47:=apG (hG 0 47);change ρ (.tmp 47)=_ at e47;obtain ⟨y1,y2,y3⟩:=HC12.out w5 hR;simp only [execOp];go_simp;exact hK _ _ rfl (Grew.refl _)
      ·refine Aa rfl ?_;intro bA K Q' hK;have e48:=apG (hG 1 48);change ρ (.tmp 48)=_ at e48;simp only [execOp];go_simp;exact hK _ _ rfl (Grew.refl _)
      ·refine Aa rfl ?_;intro bA K Q' hK;have e49:=apG (hG 2 49);change ρ (.tmp 49)=_ at e49;simp only [execOp];go_simp;exact hK _ _ rfl (Grew.refl _)
      ·refine Aa rfl ?_;intro bA K Q' hK;have e50:=apG (hG 3 50);change ρ (.tmp 50)=_ at e50;obtain ⟨y1,y2,y3⟩:=HC12.out w5 hR;simp only [execOp];go_simp;exact hK _ _ rfl (Grew.refl _)
      ·refine Aa rfl ?_;intro bA K Q' hK;have e6:=hS 6 (by kernel_rfl);change ρ (.tmp 6)=_ at e6;simp only [execOp];go_simp;exact hK _ _ rfl (Grew.refl _)
      ·refine Aa rfl ?_;intro bA K Q' hK;have e52:=apG (hG 5 52);change ρ (.tmp 52)=_ at e52;obtain ⟨y1,y2,y3⟩:=HC12.out w5 hR;simp only [execOp];go_simp;exact hK _ _ rfl (Grew.refl _)
      ·refine Aa rfl ?_;intro bA K Q' hK;have e53:=apG (hG 6 53);change ρ (.tmp 53)=_ at e53;simp only [execOp];go_simp;exact hK _ _ rfl (Grew.refl _)
      ·refine Aa rfl ?_;intro bA K Q' hK;have e51:=apG (hG 4 51);have e54:=apG (hG 7 54);change ρ (.tmp 51)=_ at e51;change ρ (.tmp 54)=_ at e54;simp only [execOp];go_simp;exact hK _ _ rfl (Grew.refl _)
     ·intro vv6 w6 hR hG;have h8:vv6 8=.agg #[.int .i64 zq,.int .i64 (lv+1)]:=hG.2;have hb6:Below w5.heap.size w5 w6:=⟨hR.os,hR.tape,hR.output,hR.size,hR.block⟩
      have HB6:=hid hb6;have HR66:=hid (Ac HR6.out hb6);clear hG hR hb6 HC12;simp [stG,stU,Au,Act.put,h8];clear h8
      go_wp2_with (refine Ae rfl 184 _ _ rfl q6 #[.int .i64 zq,.int .i64 (lv+1)] rfl rfl 184 _ HR66.out (by kernel_rfl) rfl (by simp [Value.oneCell']) ?_)
      intro w7 hr7 hg7;have hm7:Mv (fun b=>b=q6) w6 w7:=Mv.of_grown hg7 fun j hj _=>by cases hj;rfl
      obtain ⟨j1,j2,j3,j4,j5⟩:=HJ5.out;obtain ⟨i1,i2,i3,i4,i5,i6,i7,i8,i9,i10,i11,i12⟩:=HTI.out;have hj6:=j1.below HB6.out;have hT:∀ b cs T,w6.heap[b]?=some (.cells cs T (0,0))->T≠184->b≠q6:=fun b cs T hb h1 e=>by
       subst e;have:=HR66.out.symm.trans hb;simp only [Option.some.injEq,Obj.cells.injEq] at this;exact h1 this.2.1.symm
      have hj7:JobM B w7 jb tp fs5 gs5 vf5 vg5:=⟨hm7.row hj6.blk (hT _ _ _ hj6.blk (by decide)),Ag hj6.fr hm7 (fun b hb e=>by subst e;exact AU hj6.fr HR66.out (by decide) hb),Ag hj6.gn hm7 (fun b hb e=>by subst e;exact AU hj6.gn HR66.out (by decide) hb),fun x hx=>⟨(hj6.nds x hx).1,(hj6.nds x hx).2.mvT hm7 fun b cs hb=>hT b cs _ hb (by decide)⟩,hj6.dj,hj6.ge⟩
      have htc6:TC w6 tp gd pa r ep:=HTC5.out.mv (F:=fun _=>False) (Mv.of_below HB6.out) id;have htc7:TC w7 tp gd pa r ep:=htc6.mv hm7 (hT _ _ _ htc6 (by decide));have hd7:Dv C w7 gd pn n {S with r:=r2}:=(HD5.out.below HB6.out).keep hm7 fun i hi=>by rw [hi];exact HCQ.out _ HQB.out
      have hmv7:Mv (fun b=>C b≠0\/b=jb\/vg.ownBlock=some b) w w7:=((HMV4.out.trans' HM5.out fun i hi e=>by
       rcases e with e | e
       ·exact .inr (.inl e)
       ·rcases i11 with h | ⟨j,h1,h2⟩
        ·exact .inr (.inr (h ▸ e))
        ·rw [h1] at e;cases e;omega).trans (Mv.of_below HB6.out)).trans' hm7 fun i hi e=>by have:=HQ6.out;omega
      have hok':okS D' c':=by
       have h3:=i3;exact h3.2.2 c' (List.mem_singleton.2 rfl)
      have:=HR2.out;have hti7:ZJ C B jb tp gd pa pn n S r ep fs gs vg ns0 D0 s0 w w7 zq D' c' zsq fs5 gs5 vf5 vg5 r2 0:=⟨hj7,j2,hok',i4.trans (.step (.refl _)),hd7,by omega,by omega,htc7,by omega,by omega,i11.trans j5 HMV4.out.size,hmv7⟩
      have hcm:w7.cell? ⟨q6,1,none⟩=some (.int .i64 (lv+1)):=coR hr7;have hcr:wr.cell? ⟨q6,1,none⟩=some (.int .i64 lv):=coR HROW.out;have HRR:=hid hr7;have HTT:=hid hti7;clear hg7 hm7 j1 j2 j3 j4 j5 i1 i2 i3 i4 i5 i6 i7 i8 i9 i10 i11 i12 hj6 hT hj7 htc6 htc7 hd7 hmv7 hok' hti7 hr7
      go_wp2_with fail
      go_roundw
      case rel=>exact ⟨zq,lv+1,D',c',zsq,fs5,gs5,vf5,vg5,r2,HRR.out,HTT.out,by omega,by omega⟩
      case measure=>rw [hcm,hcr];simp [intOf];omega
end Go.Proofs.YtfhdojnobmfefaaGreatDoor
namespace Go.Inc
open Go Go.RowKit
theorem QV {w:World} {b c q:Nat} {cs:Array Value} {E:TypeId} {v:Value} (h:w.heap[c]?=some (.cells cs E (0,0))):∃ cs',(w.setCell ⟨b,q,none⟩ v).heap[c]?=some (.cells cs' E (0,0)):=by
 by_cases hb:c=b
 ·subst hb;exact ⟨_,heap_setCell_same w c q _ _ _ h⟩
 ·have hg:w.grownBy (w.setCell ⟨b,q,none⟩ v) (some b):=Aq (Aw w (some b)) (p:=⟨b,q,none⟩) (.inl rfl) _;exact ⟨cs,(hg.block c (Aj h) (fun e=>hb (by cases e;rfl))).trans h⟩
theorem EW {w:World} {b q c r:Nat} {v:Value} (h:b≠c\/q≠r):(w.setCell ⟨b,q,none⟩ v).cell? ⟨c,r,none⟩=w.cell? ⟨c,r,none⟩:=World.cell?_setCell_other (w:=w) (v:=v) (a:=⟨b,q,none⟩) (b:=⟨c,r,none⟩) (h:=fun e=>by
 simp only [Addr.mk.injEq,and_true] at e;rcases h with h | h
 ·exact h e.1
 ·exact h e.2)
theorem Xf {w:World} {p:Addr} {u v:Value} (h:w.cell? p=some u):(w.setCell p v).cell? p=some v:=World.cell?_setCell_same' w p v (by rw [h];rfl)
theorem EtT.put {E B:Nat} {w:World} {a:Option Addr} {es:List Et} (h:EtT E B w a es) (b q:Nat) (v:Value) (hne:∀ b' o',a=some ⟨b',o',none⟩->b≠b'\/q < o'\/o'+3 * es.length<=q):EtT E B (w.setCell ⟨b,q,none⟩ v) a es:=by
 rcases h with h | ⟨b',o',e1,⟨e2,cs,e3⟩,e4⟩
 ·exact .inl h
 ·obtain ⟨cs',e5⟩:=QV (b:=b) (q:=q) (v:=v) e3;refine .inr ⟨b',o',e1,⟨e2,cs',e5⟩,fun i hi=>?_⟩;obtain ⟨g1,g2,g3⟩:=e4 i hi;have hn:∀ r,r < 3->b≠b'\/q≠o'+i * 3+r:=fun r hr=>by
   rcases hne b' o' e1 with h | h | h
   ·exact .inl h
   iterate 2
    ·exact .inr (by omega)
  exact ⟨(EW (hn 0 (by decide))).trans g1,(EW (hn 1 (by decide))).trans g2,(EW (hn 2 (by decide))).trans g3⟩
theorem getD_set {es:List Et} {k i:Nat} {e:Et} (hi:i < es.length):(es.set k e).getD i et0=if k=i then e else es.getD i et0:=by
 rw [List.getD_eq_getElem?_getD,List.getD_eq_getElem?_getD,List.getElem?_set];by_cases h:k=i
 ·rw [if_pos h,if_pos h,if_pos (by omega)];rfl
 ·rw [if_neg h,if_neg h]
theorem EtT.setE {E B b o:Nat} {w:World} {es:List Et} (h:EtT E B w (some ⟨b,o,none⟩) es) {k:Nat} (hk:k < es.length) (v:Int):EtT E B (w.setCell ⟨b,o+k * 3+2,none⟩ (.int .i64 v)) (some ⟨b,o,none⟩) (es.set k ((es.getD k et0).1,v)):=by
 rcases h with h | ⟨b',o',e1,⟨e2,cs,e3⟩,e4⟩
 ·rw [h] at hk;cases hk
 ·simp only [Option.some.injEq,Addr.mk.injEq,and_true] at e1;obtain ⟨rfl,rfl⟩:=e1;obtain ⟨cs',e5⟩:=QV (b:=b) (q:=o+k * 3+2) (v:=.int .i64 v) e3;refine .inr ⟨b,o,rfl,⟨e2,cs',e5⟩,fun i hi=>?_⟩;rw [List.length_set] at hi;obtain ⟨g1,g2,g3⟩:=e4 i hi;rw [getD_set hi];by_cases hki:k=i
  ·subst hki;rw [if_pos rfl];exact ⟨(EW (.inr (by omega))).trans g1,(EW (.inr (by omega))).trans g2,Xf g3⟩
  ·rw [if_neg hki];exact ⟨(EW (.inr (by omega))).trans g1,(EW (.inr (by omega))).trans g2,(EW (.inr (by omega))).trans g3⟩
def Nm.setE (m:Nm) (k:Nat) (v:Int):Nm:=⟨m.lf,m.a,m.c,m.es.set k ((m.es.getD k et0).1,v)⟩
theorem Nm.setE_len (m:Nm) (k:Nat) (v:Int):(m.setE k v).es.length=m.es.length:=List.length_set
theorem Nm.setE_cells (m:Nm) (k:Nat) (v:Int):Bd (m.setE k v)=Bd m:=by
 unfold Bd;rw [Nm.setE_len];rfl
theorem fU {α:Type} {f:α->List Value} {x y:α} (h:f x=f y) (l r:List α):cl f (l++x::r)=cl f (l++y::r):=by
 rw [NE,NE];show _++(f x++_)=_++(f y++_)
 rw [h]
theorem NmOk.put {N B:Nat} {w:World} {m:Nm} (h:NmOk N B w m) (b q:Nat) (v:Value) (hne:∀ b' o',m.a=some ⟨b',o',none⟩->b≠b'\/q < o'\/o'+3 * m.es.length<=q):NmOk N B (w.setCell ⟨b,q,none⟩ v) m:=
 have h2:=h.2.put b q v hne
 ⟨⟨h.1.1,NdOk.mono h2.ets,h.1.2.2⟩,h2⟩
theorem NmOk.setE {N B b o:Nat} {w:World} {m:Nm} (h:NmOk N B w m) (ha:m.a=some ⟨b,o,none⟩) {k:Nat} (hk:k < m.es.length) (v:Int) (hv:-9223372036854775808<=v/\v<=9223372036854775807):NmOk N B (w.setCell ⟨b,o+k * 3+2,none⟩ (.int .i64 v)) (m.setE k v):=by
 have h2:EtT N B (w.setCell ⟨b,o+k * 3+2,none⟩ (.int .i64 v)) m.a (m.es.set k ((m.es.getD k et0).1,v)):=by
  have h3:=h.2;rw [ha] at h3 ⊢;exact h3.setE hk v
 obtain ⟨n1,-,n3,n4,n5,n6⟩:=h.1;refine ⟨⟨rfl,NdOk.mono h2.ets,by rw [Nm.setE_len];exact n3,fun e he=>?_,by rw [Nm.setE_len];exact n5,n6⟩,h2⟩;rcases List.mem_or_eq_of_mem_set he with he | he
 ·exact n4 e he
 ·rw [he];have hm:m.es.getD k et0∈m.es:=by
   rw [List.getD_eq_getElem?_getD,List.getElem?_eq_getElem hk];exact List.getElem_mem _
  exact ⟨(n4 _ hm).1,hv⟩
theorem dC {x y:Nm} {l1 l2:List Nm} (ha:x.a=y.a) (hl:x.es.length=y.es.length) (h:(l1++x::l2).Pairwise Dj):(l1++y::l2).Pairwise Dj:=by
 rw [List.pairwise_append,List.pairwise_cons] at h ⊢;obtain ⟨h1,⟨h2,h3⟩,h4⟩:=h;refine ⟨h1,⟨fun u hu b o b' o' e1 e2=>?_,h3⟩,fun u hu v hv b o b' o' e1 e2=>?_⟩
 ·have:=h2 u hu b o b' o' (ha.trans e1) e2;rwa [hl] at this
 ·rcases List.mem_cons.1 hv with rfl | hv
  ·exact h4 u hu x (List.mem_cons_self ..) b o b' o' e1 (ha.trans e2)
  ·exact h4 u hu v (List.mem_cons_of_mem _ hv) b o b' o' e1 e2
end Go.Inc
namespace Go.Proofs.YtfhdojnobmfefaaGreatDoor
open Go Go.RowKit Go.Inc
theorem JobM.setE {B jb tp b o k:Nat} {l1 l2:List Nm} {x:Nm} {gs:List Int} {vf vg:Value} {w:World} (h:JobM B w jb tp (l1++x::l2) gs vf vg) (ha:x.a=some ⟨b,o,none⟩) (hk:k < x.es.length) (v:Int) (hv:-9223372036854775808<=v/\v<=9223372036854775807) :
  JobM B (w.setCell ⟨b,o+k * 3+2,none⟩ (.int .i64 v)) jb tp (l1++x.setE k v::l2) gs vf vg/\Mv (fun c=>c=b) w (w.setCell ⟨b,o+k * 3+2,none⟩ (.int .i64 v))/\∃ cs,w.heap[b]?=some (.cells cs 65 (0,0)):=by
 have hg:w.grownBy (w.setCell ⟨b,o+k * 3+2,none⟩ (.int .i64 v)) (some b):=Aq (Aw w (some b)) (p:=⟨b,o+k * 3+2,none⟩) (.inl rfl) _;have hm:Mv (fun c=>c=b) w (w.setCell ⟨b,o+k * 3+2,none⟩ (.int .i64 v)):=Mv.of_grown hg fun j hj _=>by cases hj;rfl
 have hx:=h.nds x (List.mem_append_right _ (List.mem_cons_self ..));obtain ⟨cs,hcs⟩:∃ cs,w.heap[b]?=some (.cells cs 65 (0,0)):=by
  rcases hx.2.2 with h0 | ⟨b',o',e1,⟨-,cs,e3⟩,-⟩
  ·exact absurd h0 hx.1
  ·rw [ha] at e1;cases e1;exact ⟨cs,e3⟩
 have hT:∀ c ds T,w.heap[c]?=some (.cells ds T (0,0))->T≠65->c≠b:=fun c ds T hc h1 e=>by
  subst e;have:=hcs.symm.trans hc;simp only [Option.some.injEq,Obj.cells.injEq] at this;exact h1 this.2.1.symm
 have hd:=h.dj;rw [List.pairwise_append,List.pairwise_cons] at hd;obtain ⟨-,⟨d2,-⟩,d4⟩:=hd;refine ⟨⟨hm.row h.blk (hT _ _ _ h.blk (by decide)),?_,Ag h.gn hm fun c hc e=>by subst e;exact AU h.gn hcs (by decide) hc,fun y hy=>?_,dC (x:=x) (y:=x.setE k v) rfl (Nm.setE_len x k v).symm h.dj,h.ge⟩,hm,cs,hcs⟩
 ·have h1:=Ag h.fr hm fun c hc e=>by subst e;exact AU h.fr hcs (by decide) hc
  rw [fU (Nm.setE_cells x k v) l1 l2];have e:(l1++x.setE k v::l2).length=(l1++x::l2).length:=by simp
  rw [e];exact h1
 ·rcases List.mem_append.1 hy with hy | hy
  ·have hy':=h.nds y (List.mem_append_left _ hy);exact ⟨hy'.1,hy'.2.put _ _ _ fun b' o' e=>by
    rcases d4 y hy x (List.mem_cons_self ..) b' o' b o e ha with h1 | h1
    ·exact .inl (Ne.symm h1)
    ·exact .inr (.inr (by omega))⟩
  ·rcases List.mem_cons.1 hy with rfl | hy
   ·refine ⟨fun e=>hx.1 ?_,hx.2.setE ha hk v hv⟩;have:=congrArg List.length e;rw [Nm.setE_len] at this;exact List.eq_nil_of_length_eq_zero this
   ·have hy':=h.nds y (List.mem_append_right _ (List.mem_cons_of_mem _ hy));exact ⟨hy'.1,hy'.2.put _ _ _ fun b' o' e=>by
     rcases d2 y hy b o b' o' ha e with h1 | h1
     ·exact .inl h1
     ·exact .inr (.inl (by omega))⟩
end Go.Proofs.YtfhdojnobmfefaaGreatDoor
namespace Go.Proofs.YtfhdojnobmfefaaGreatDoor
open Go Go.RowKit Go.Inc
structure gX (C:Nat->Nat) (B BP jb tp gd pa pn n:Nat) (S:St) (r ep:Int) (ps:List Nat) (fs:List Nm) (gs:List Int) (vf vg vp:Value) (w:World):Prop where
 job:JobM B w jb tp fs gs vf vg
 new:∀ i,B<=i->C i=0
 low:B<=w.heap.size
 dv:Dv C w gd pn n S
 tc:TC w tp gd pa r ep
 ctp:C tp=0
 on:S.on=true
 bytes:∀ q,q < pn->Bytes (rd S q)
 nd:ps.Nodup
 arm:S.armed=false
 ep1:1<=ep/\ep<=4294967295
 pg:Vs BP w vp ps.length (ps.map fun p:Nat=>(p:Int))
 lowP:B<=BP
 old:∀ x∈fs,∀ b o,x.a=some ⟨b,o,none⟩->b < BP
 len:ps.length=fs.length
 few:fs.length<=100
 rng:∀ p∈ps,2<=p/\p < pn/\p < 2048
 set:∀ x∈fs,x.es.length<=16/\(∀ e∈x.es,-2000<=e.2/\(e.2 < 0->(-e.2 - 1).toNat < ps.length))/\AL x.lf (x.es.map (stl ps))=0
 bud:n<=900000/\0<=S.s/\S.s<=900000
def FTw (B BP:Nat) (w:World) (b:Nat):Prop:=B<=b/\b < BP/\∃ cs,w.heap[b]?=some (.cells cs 65 (0,0))
def iO (C:Nat->Nat) (B BP gd pn n:Nat) (S:St) (ps:List Nat) (fs:List Nm) (w:World) (e:Ending) (w':World):Prop:=
 e=.returned (.int .i64 0)/\(∃ C' S',Dv C' w' gd pn (n+fs.length) S'/\Ext w C C'/\P7 S S' ps (fs.map Nm.nd)/\S'.on=true/\S'.armed=false/\S'.r=S.r/\S'.s=S.s+(fs.length:Int)/\∀ q,q < pn->Bytes (rd S' q))/\Mv (fun b=>C b≠0\/FTw B BP w b) w w'
def stN (ps:List Nat) (m:Nm):Nm:=⟨m.lf,m.a,m.c,m.es.map (stl ps)⟩
def stF (ps:List Nat) (k:Nat) (fs:List Nm):List Nm:=(fs.take k).map (stN ps)++fs.drop k
def stP (ps:List Nat) (j:Nat) (m:Nm):Nm:=⟨m.lf,m.a,m.c,(m.es.take j).map (stl ps)++m.es.drop j⟩
theorem UF (ps:List Nat) (j:Nat) (m:Nm):(stP ps j m).es.length=m.es.length:=by
 show ((m.es.take j).map (stl ps)++m.es.drop j).length=_;rw [List.length_append,List.length_map,<- List.length_append,List.take_append_drop]
theorem XT (ps:List Nat) (m:Nm):stP ps 0 m=m:=by unfold stP;simp
theorem ay (ps:List Nat) (m:Nm):stP ps m.es.length m=stN ps m:=by unfold stP stN;simp
theorem UG {ps:List Nat} {j:Nat} {m:Nm} (h:j < m.es.length):(stP ps j m).es.getD j et0=m.es.getD j et0:=by
 show ((m.es.take j).map (stl ps)++m.es.drop j).getD j et0=_;have hl:((m.es.take j).map (stl ps)).length=j:=by rw [List.length_map,List.length_take];omega
 rw [List.getD_eq_getElem?_getD,List.getElem?_append_right (by omega),hl,Nat.sub_self,List.getElem?_drop,Nat.add_zero,List.getD_eq_getElem?_getD]
theorem XU {ps:List Nat} {j:Nat} {m:Nm} (h:j < m.es.length):(stP ps j m).setE j ((sgm ps (m.es.getD j et0).2:Nat):Int)=stP ps (j+1) m:=by
 unfold Nm.setE;rw [UG h];unfold stP;simp only [Nm.mk.injEq,true_and];have hl:((m.es.take j).map (stl ps)).length=j:=by rw [List.length_map,List.length_take];omega
 rw [List.set_append,if_neg (by omega),hl,Nat.sub_self,List.drop_eq_getElem_cons h,List.set_cons_zero,List.take_succ_eq_append_getElem h,List.map_append,List.append_assoc,List.getD_eq_getElem?_getD,List.getElem?_eq_getElem h];rfl
theorem eQ {ps:List Nat} {k:Nat} {fs:List Nm} {x:Nm} (h:fs[k]?=some x):stF ps k fs=(fs.take k).map (stN ps)++x::fs.drop (k+1)/\stF ps (k+1) fs=(fs.take k).map (stN ps)++stN ps x::fs.drop (k+1):=by
 obtain ⟨hk,hx⟩:=List.getElem?_eq_some_iff.1 h;unfold stF;constructor
 ·rw [List.drop_eq_getElem_cons hk,hx]
 ·rw [List.take_succ_eq_append_getElem hk,List.map_append,List.append_assoc,hx];rfl
theorem XW (ps:List Nat) (fs:List Nm):stF ps 0 fs=fs:=by unfold stF;simp
theorem UE (ps:List Nat) (z:Int):stZ (ps.map fun p:Nat=>(p:Int)) z=(sgm ps z:Int):=by
 unfold stZ sgm;by_cases h:z < 0
 ·rw [if_pos h,if_pos h,List.getD_eq_getElem?_getD,List.getElem?_map,List.getD_eq_getElem?_getD];cases ps[(-z - 1).toNat]?<;>rfl
 ·rw [if_neg h,if_neg h];omega
structure Fm where
 p:Nat
 a:Option Addr
 c:Nat
 bs:List Nat
def Iu (ep:Int) (m:Fm):List Value:=[.int .i64 2,.int .i64 ep,.int .i64 (m.p:Int),.slice m.a m.bs.length m.c]
theorem TP (ep:Int) (m:Fm):(Iu ep m).length=4:=rfl
def iC (B:Nat) (ps:List Nat) (fs:List Nm) (w:World) (ms:List Fm):Prop:=
 ∀ (i p:Nat) (m:Fm) (x:Nm),ms[i]?=some m->fs[i]?=some x->ps[i]?=some p->m.p=p/\m.bs=Dh x.lf (x.es.map (stl ps))/\w.ownsRow B 5 1 (.slice m.a m.bs.length m.c) m.bs.length (u8s m.bs)
theorem WP {e:Et} (h:okE e=true):(DI e).length<=6:=by
 have:=okE_iff.1 h;have h1:=Var.put_len 1 e.1.1.toNat (by omega) (by decide);have h2:=Var.put_len 3 e.1.2.toNat (by omega) (by decide);have h3:=Var.put_len 2 e.2.toNat (by omega) (by decide);unfold DI;rw [List.length_append,List.length_append];omega
theorem Nv:∀ {es:List Et},(∀ e∈es,okE e=true)->(AP es).length<=6 * es.length
 | [],_=>Nat.zero_le _
 | e::r,h=>by
  have ih:=Nv (es:=r) fun x hx=>h x (List.mem_cons_of_mem _ hx);have h1:=WP (h e (List.mem_cons_self ..));show (DI e++AP r).length<=_;rw [List.length_append,List.length_cons];omega
theorem Ns {lf:Bool} {es:List Et} (h:AL lf es=0):(Dh lf es).length<=238:=by
 obtain ⟨c1,c2,-,-⟩:=Ba h;have:=Nv (badN_false.1 c2);rw [Nr];omega
theorem Px (n:Nat):Bytes (Var.put n):=by
 induction n using Nat.strongRecOn with
 | _ n ih=>
  by_cases h:n < 128
  ·rw [Var.put_low h];intro x hx;rw [List.mem_singleton] at hx;omega
  ·rw [Var.put_more (by omega)];intro x hx;rcases List.mem_cons.1 hx with rfl | hx
   ·omega
   ·exact ih (n / 128) (by omega) x hx
theorem WO (es:List Et):Bytes (AP es):=by
 intro x hx;obtain ⟨e,_,h⟩:=List.mem_flatMap.1 hx;exact Bytes.append (Bytes.append (Px _) (Px _)) (Px _) x h
theorem df {lf:Bool} {es:List Et} (hl:es.length<=16):Bytes (Dh lf es):=by
 intro x hx;unfold Dh at hx;rw [List.mem_append] at hx;rcases hx with h | h
 ·simp only [List.mem_cons,List.not_mem_nil,or_false] at h;rcases h with rfl | rfl
  ·cases lf<;>decide
  ·omega
 ·exact WO es x h
theorem TS {f:Fr} (hb:Bytes f.b):Bytes (enc f):=by
 unfold enc Le;exact (GX hb).append (OC (Crc.sum_lt _ (GX hb)))
def dZ (S S':St) (ps:List Nat) (fs:List Nm) (j:Nat):Prop:=
 (∀ (i p:Nat) (x:Nm),i < j->ps[i]?=some p->fs[i]?=some x->CJ S' p=some (x.lf,x.es.map (stl ps)))/\∀ q,q∉ps.take j->CJ S' q=CJ S q
theorem fJ:(Tryz.prog.info? 233).map (fun i=>(i.zero,i.size,i.bytes))=some (some (.agg #[.int .i64 0,.int .i64 0,.int .i64 0,.slice none 0 0]),4,48):=by kernel_rfl
set_option maxRecDepth 20000 in
set_option maxHeartbeats 8000000 in
theorem Vx {C:Nat->Nat} {B BP jb tp gd pa pn n:Nat} {S:St} {r ep:Int} {ps:List Nat} {fs:List Nm} {gs:List Int} {vf vg vp:Value} {w:World} (h:gX C B BP jb tp gd pa pn n S r ep ps fs gs vf vg vp w) :
  Calls Tryz.prog 145 #[.pointer (some ⟨jb,0,none⟩),vp] w (iO C B BP gd pn n S ps fs w):=by
 have HIN:=hid h;obtain ⟨ap,cp,rfl,hsi⟩:=h.pg;obtain ⟨L,hL⟩:∃ L,L=ps.length:=⟨_,rfl⟩
 have HL:=hid hL;rw [<- hL];have hLm:(L:Int)<=100:=by have:=h.few;have:=h.len;omega
 by_cases h0:L=0
 ·have hgt:decide ((0:Int) < (L:Int))=false:=by rw [h0];rfl
  subst h0;clear h hsi hL
  go_enter Tryz.func145,Tryz.ntmps145
  go_wp2_with fail
  refine Ai 18 [EqN (.int .i64 0),EqN (.bool false),EqN (.bool false),EqN undef,EqN undef,EqN undef,EqN undef,EqN undef,EqN undef,EqN undef,EqN undef,EqN undef,EqN undef,EqN undef,EqN undef,EqN undef,EqN undef,EqN (.bool false)] (by kernel_rfl) (by decide) (by kernel_rfl) ?_ ?_ ?_
  ·repeat' (first | exact List.forall_mem_nil _ | refine List.forall_mem_cons.2 ⟨?_,?_⟩)
   all_goals
    intro w w' v hw h
    first | exact h | exact h
  ·simp only [AllLt];refine ⟨⟨⟨⟨⟨⟨⟨⟨⟨⟨⟨⟨⟨⟨⟨⟨⟨⟨trivial,?_⟩,?_⟩,?_⟩,?_⟩,?_⟩,?_⟩,?_⟩,?_⟩,?_⟩,?_⟩,?_⟩,?_⟩,?_⟩,?_⟩,?_⟩,?_⟩,?_⟩,?_⟩
   all_goals
    intro o' ho;simp at ho;subst ho;intro ρ w5 hR hL hS hG;obtain ⟨hl1,hl2,-⟩:=hL
   ·refine Aa rfl ?_;intro bA K Q' hK;have e5:=hS 5 (by kernel_rfl);change ρ (.tmp 5)=_ at e5;simp only [execOp];go_simp;exact hK _ _ rfl (Grew.refl _)
   ·refine Aa rfl ?_;intro bA K Q' hK;have e18:=apG (hG 0 18);change ρ (.tmp 18)=_ at e18;simp only [execOp];go_simp;exact hK _ _ rfl (Grew.refl _)
   ·refine Aa rfl ?_;intro bA K Q' hK;have e19:=apG (hG 1 19);change ρ (.tmp 19)=_ at e19;simp only [execOp];go_simp;exact hK _ _ rfl (Grew.refl _)
   iterate 14
    ·have eG:ρ (.tmp 20)=_:=apG (hG 2 20);exact Gm rfl (by kernel_rfl) eG rfl rfl
   ·refine Aa rfl ?_;intro bA K Q' hK;have e20:=apG (hG 2 20);have e34:=apG (hG 16 34);change ρ (.tmp 20)=_ at e20;change ρ (.tmp 34)=_ at e34;simp only [execOp];go_simp;exact hK _ _ rfl (Grew.refl _)
  ·intro vv w2 hR hG;have h5:vv 17=.bool false:=hG.2;have hb2:Below w.heap.size w w2:=⟨hR.os,hR.tape,hR.output,hR.size,hR.block⟩
   have HB2:=hid hb2;have hfs:fs=[]:=List.eq_nil_of_length_eq_zero (by rw [<- HIN.out.len,<- HL.out]);have hvf:∃ cf,vf=.slice none 0 cf\/∃ g,vf=.slice (some ⟨g,0,none⟩) 0 cf:=by
    obtain ⟨a,c,e,-⟩:=AO HIN.out.job.fr;rw [hfs] at e;rcases HIN.out.job.fr.2 with ⟨e2,_⟩ | ⟨g,cap,cur,e2,_⟩
    ·exact ⟨0,.inl e2⟩
    ·rw [hfs] at e2;exact ⟨cap,.inr ⟨g,e2⟩⟩
   obtain ⟨a,cf,hva⟩:∃ a cf,vf=.slice a 0 cf:=by
    obtain ⟨cf,h | ⟨g,h⟩⟩:=hvf
    iterate 2
     ·exact ⟨_,cf,h⟩
   have hc1:w2.cell? ⟨jb,1,none⟩=some (.slice a 0 cf):=by rw [cell_of_row _ _ _ _ _ _ (Ac HIN.out.job.blk hb2),hva];rfl
   clear hG hR hb2 hfs hvf hva;simp [stG,stU,Au,Act.put,h5];clear h5
   go_wp2_with fail
   go_loopw [6,41] (fun a b wr=>a=.slice none 0 0/\b=.int .i64 0/\Below w.heap.size w wr) (fun _ _ _=>0)
   case atStart=>exact ⟨rfl,rfl,HB2.out⟩
   case round=>
    obtain ⟨rfl,rfl,hb⟩:=hrel;have HB:=hid hb;clear hb
    go_wp2_with fail
    go_loopw [90] (fun b wr=>b=.int .i64 0/\Below w.heap.size w wr) (fun _ _=>0)
    case atStart=>exact ⟨rfl,HB.out⟩
    case round=>
     obtain ⟨rfl,hb⟩:=hrel;have HBB:=hid hb;clear hb
     go_wp2_with fail
     go_ret
     have hp0:ps=[]:=List.eq_nil_of_length_eq_zero HL.out.symm;have hf0:fs=[]:=List.eq_nil_of_length_eq_zero (by rw [<- HIN.out.len,<- HL.out]);refine ⟨rfl,⟨C,S,?_,fun _ _=>rfl,⟨?_,fun _ _=>rfl⟩,HIN.out.on,HIN.out.arm,rfl,?_,HIN.out.bytes⟩,Mv.of_below HBB.out⟩
     ·rw [hf0];exact HIN.out.dv.below HBB.out
     ·intro i p n h1;rw [hp0] at h1;cases h1
     ·rw [hf0];show S.s=S.s+0;omega
 ·obtain ⟨l1,hl1⟩:∃ l1,l1=L - 1:=⟨_,rfl⟩
  have hl1i:(L:Int) - 1=(l1:Int):=by omega
  have hLp:(0:Int) < (L:Int):=by omega
  have hl1L:(l1:Int) < (L:Int):=by omega
  have hl1n:l1 < L:=by omega
  have hd1:decide (0 < L)=true:=decide_eq_true (by omega);have hwl:IntKind.i64.wrap (l1:Int)=(l1:Int):=by rw [IntKind.wrap_i64];omega
  obtain ⟨bp,op,rfl,hcp⟩:=Pm hsi (k:=l1) (by rw [List.length_map];omega);obtain ⟨pl,hpl⟩:∃ pl:Nat,pl=ps.getD l1 0:=⟨_,rfl⟩
  have hplm:pl∈ps:=by rw [hpl,List.getD_eq_getElem?_getD,List.getElem?_eq_getElem (by omega)];exact List.getElem_mem _
  have hplp:(pl:Int) < (pn:Int):=by have:=(h.rng pl hplm).2.1;omega
  have hd2:decide (pn<=pl)=false:=decide_eq_false (by omega);have hcp:w.cell? ⟨bp,op+l1,none⟩=some (.int .i64 (pl:Int)):=by
   rw [hcp,hpl,List.getD_eq_getElem?_getD,List.getD_eq_getElem?_getD,List.getElem?_map,List.getElem?_eq_getElem (by omega)];rfl
  have hbl:bp < w.heap.size:=AA hcp;have HPG:Hid (∀ y,Below w.heap.size w y->Calls Tryz.prog 158 #[.pointer (some ⟨gd,0,none⟩)] y fun e w'=>e=.returned (.int .i64 (pn:Int))/\y=w'):=hid fun y hy=>Y8 (h.dv.below hy);have HC2:Hid (∀ y,Grew w.drew y->y.cell? ⟨bp,op+l1,none⟩=some (.int .i64 (pl:Int))/\y.cell? ⟨jb,0,none⟩=some (.pointer (some ⟨tp,0,none⟩))/\y.cell? ⟨tp,0,none⟩=some (.pointer (some ⟨gd,0,none⟩))):=hid fun y hy=>by
   have hy2:Below w.heap.size w y:=⟨hy.os,hy.tape,hy.output,hy.size,hy.block⟩
   have y1:=Ac h.job.blk hy2;have y2:=Ac h.tc hy2;exact ⟨(hy2.cell hbl).trans hcp,by rw [cell_of_row _ _ _ _ _ _ y1];rfl,by rw [cell_of_row _ _ _ _ _ _ y2];rfl⟩
  clear h hL hpl hplm hcp hbl h0 hl1
  go_enter Tryz.func145,Tryz.ntmps145
  go_wp2_with fail
  refine Ai 18 [EqN (.int .i64 (L:Int)),EqN (.bool true),EqN (.bool true),EqN (.slice (some ⟨bp,op,none⟩) L cp),EqN (.int .i64 (L:Int)),EqN (.int .i64 (l1:Int)),EqN (.pointer (some ⟨bp,op+l1,none⟩)),EqN (.int .i64 (pl:Int)),EqN (.pointer (some ⟨jb,0,none⟩)),EqN (.pointer (some ⟨jb,0,none⟩)),EqN (.pointer (some ⟨jb,0,none⟩)),EqN (.pointer (some ⟨tp,0,none⟩)),EqN (.pointer (some ⟨tp,0,none⟩)),EqN (.pointer (some ⟨tp,0,none⟩)),EqN (.pointer (some ⟨gd,0,none⟩)),EqN (.int .i64 (pn:Int)),EqN (.bool false),EqN (.bool false)] (by kernel_rfl) (by decide) (by kernel_rfl) ?_ ?_ ?_
  ·repeat' (first | exact List.forall_mem_nil _ | refine List.forall_mem_cons.2 ⟨?_,?_⟩)
   all_goals
    intro w w' v hw h
    first | exact h | exact h
  ·simp only [AllLt];refine ⟨⟨⟨⟨⟨⟨⟨⟨⟨⟨⟨⟨⟨⟨⟨⟨⟨⟨trivial,?_⟩,?_⟩,?_⟩,?_⟩,?_⟩,?_⟩,?_⟩,?_⟩,?_⟩,?_⟩,?_⟩,?_⟩,?_⟩,?_⟩,?_⟩,?_⟩,?_⟩,?_⟩
   all_goals
    intro o' ho;simp at ho;subst ho;intro ρ w5 hR hL hS hG;obtain ⟨hl1,hl2,-⟩:=hL
   ·refine Aa rfl ?_;intro bA K Q' hK;have e5:=hS 5 (by kernel_rfl);change ρ (.tmp 5)=_ at e5;simp only [execOp];go_simp;exact hK _ _ rfl (Grew.refl _)
   ·refine Aa rfl ?_;intro bA K Q' hK;have e18:=apG (hG 0 18);change ρ (.tmp 18)=_ at e18;simp only [execOp];go_simp;exact hK _ _ rfl (Grew.refl _)
   ·refine Aa rfl ?_;intro bA K Q' hK;have e19:=apG (hG 1 19);change ρ (.tmp 19)=_ at e19;simp only [execOp];go_simp;exact hK _ _ rfl (Grew.refl _)
   ·have eG:ρ (.tmp 20)=_:=apG (hG 2 20);refine onG rfl (by kernel_rfl) eG ?_;intro bA K Q' hK;have e1:=hS 1 (by kernel_rfl);change ρ (.tmp 1)=_ at e1;simp only [execOp];go_simp;exact hK _ _ rfl (Grew.refl _)
   ·have eG:ρ (.tmp 20)=_:=apG (hG 2 20);refine onG rfl (by kernel_rfl) eG ?_;intro bA K Q' hK;have e5:=hS 5 (by kernel_rfl);change ρ (.tmp 5)=_ at e5;simp only [execOp];go_simp;exact hK _ _ rfl (Grew.refl _)
   ·have eG:ρ (.tmp 20)=_:=apG (hG 2 20);refine onG rfl (by kernel_rfl) eG ?_;intro bA K Q' hK;have e22:=apG (hG 4 22);change ρ (.tmp 22)=_ at e22;simp only [execOp];go_simp;exact hK _ _ rfl (Grew.refl _)
   ·have eG:ρ (.tmp 20)=_:=apG (hG 2 20);refine onG rfl (by kernel_rfl) eG ?_;intro bA K Q' hK;have e21:=apG (hG 3 21);have e23:=apG (hG 5 23);change ρ (.tmp 21)=_ at e21;change ρ (.tmp 23)=_ at e23;simp only [execOp];go_simp;exact hK _ _ rfl (Grew.refl _)
   ·have eG:ρ (.tmp 20)=_:=apG (hG 2 20);refine onG rfl (by kernel_rfl) eG ?_;intro bA K Q' hK;have e24:=apG (hG 6 24);change ρ (.tmp 24)=_ at e24;obtain ⟨y1,y2,y3⟩:=HC2.out w5 hR;simp only [execOp];go_simp;exact hK _ _ rfl (Grew.refl _)
   ·have eG:ρ (.tmp 20)=_:=apG (hG 2 20);refine onG rfl (by kernel_rfl) eG ?_;intro bA K Q' hK;have e0:=hS 0 (by kernel_rfl);change ρ (.tmp 0)=_ at e0;simp only [execOp];go_simp;exact hK _ _ rfl (Grew.refl _)
   ·have eG:ρ (.tmp 20)=_:=apG (hG 2 20);refine onG rfl (by kernel_rfl) eG ?_;intro bA K Q' hK;have e26:=apG (hG 8 26);change ρ (.tmp 26)=_ at e26;simp only [execOp];go_simp;exact hK _ _ rfl (Grew.refl _)
   ·have eG:ρ (.tmp 20)=_:=apG (hG 2 20);refine onG rfl (by kernel_rfl) eG ?_;intro bA K Q' hK;have e27:=apG (hG 9 27);change ρ (.tmp 27)=_ at e27;simp only [execOp];go_simp;exact hK _ _ rfl (Grew.refl _)
   ·have eG:ρ (.tmp 20)=_:=apG (hG 2 20);refine onG rfl (by kernel_rfl) eG ?_;intro bA K Q' hK;have e28:=apG (hG 10 28);change ρ (.tmp 28)=_ at e28;obtain ⟨y1,y2,y3⟩:=HC2.out w5 hR;simp only [execOp];go_simp;exact hK _ _ rfl (Grew.refl _)
   ·have eG:ρ (.tmp 20)=_:=apG (hG 2 20);refine onG rfl (by kernel_rfl) eG ?_;intro bA K Q' hK;have e29:=apG (hG 11 29);change ρ (.tmp 29)=_ at e29;simp only [execOp];go_simp;exact hK _ _ rfl (Grew.refl _)
   ·have eG:ρ (.tmp 20)=_:=apG (hG 2 20);refine onG rfl (by kernel_rfl) eG ?_;intro bA K Q' hK;have e30:=apG (hG 12 30);change ρ (.tmp 30)=_ at e30;simp only [execOp];go_simp;exact hK _ _ rfl (Grew.refl _)
   ·have eG:ρ (.tmp 20)=_:=apG (hG 2 20);refine onG rfl (by kernel_rfl) eG ?_;intro bA K Q' hK;have e31:=apG (hG 13 31);change ρ (.tmp 31)=_ at e31;obtain ⟨y1,y2,y3⟩:=HC2.out w5 hR;simp only [execOp];go_simp;exact hK _ _ rfl (Grew.refl _)
   ·have eG:ρ (.tmp 20)=_:=apG (hG 2 20);refine onG rfl (by kernel_rfl) eG ?_;intro bA K Q' hK;have e32:=apG (hG 14 32);change ρ (.tmp 32)=_ at e32;simp only [execOp];go_simp;refine (HPG.out w5 ⟨hR.os,hR.tape,hR.output,hR.size,hR.block⟩).mono ?_;rintro r9 w9 ⟨rfl,rfl⟩;exact hK _ _ rfl (Grew.refl _)
   ·have eG:ρ (.tmp 20)=_:=apG (hG 2 20);refine onG rfl (by kernel_rfl) eG ?_;intro bA K Q' hK;have e25:=apG (hG 7 25);have e33:=apG (hG 15 33);change ρ (.tmp 25)=_ at e25;change ρ (.tmp 33)=_ at e33;simp only [execOp];go_simp;exact hK _ _ rfl (Grew.refl _)
   ·refine Aa rfl ?_;intro bA K Q' hK;have e20:=apG (hG 2 20);have e34:=apG (hG 16 34);change ρ (.tmp 20)=_ at e20;change ρ (.tmp 34)=_ at e34;simp only [execOp];go_simp;exact hK _ _ rfl (Grew.refl _)
  ·intro vv w2 hR hG;have h5:vv 17=.bool false:=hG.2;have hb2:Below w.heap.size w w2:=⟨hR.os,hR.tape,hR.output,hR.size,hR.block⟩
   have HB2:=hid hb2;have HJ2:=hid (HIN.out.job.below hb2);have hLf:L=fs.length:=by rw [HL.out,HIN.out.len]
   have HLF:=hid hLf;have HSG:Hid (∀ z:Int,(-2000<=z/\(z < 0->(-z - 1).toNat < ps.length))->z<=9223372036854775807->(sgm ps z:Int)<=9223372036854775807):=hid fun z hz hz2=>by
    by_cases h:z < 0
    ·have h1:=HIN.out.rng _ (List.mem_of_getElem? (Fj h (hz.2 h)));omega
    ·rw [Fh (by omega)];omega
   have HF:Hid (∀ y,Mv (FTw B BP w) w y->TC y tp gd pa r ep/\Si (fun _=>True) y (some ⟨bp,op,none⟩) (ps.map fun p:Nat=>(p:Int))):=hid fun y hy=>by
    have h:=HIN.out;refine ⟨h.tc.mv hy fun e=>?_,aG (hsi.mono fun b hb _=>hb) hy (fun i hi e=>by have:=e.2.1;omega) |>.mono fun _ _ _=>trivial⟩;obtain ⟨-,-,cs,e⟩:=e;have:=h.tc.symm.trans e;simp at this
   obtain ⟨bf,cf,hvf,-,-,-,-,-⟩:=GM HIN.out.job.fr FM (by intro e;rw [e] at hLf;simp at hLf;omega);have hc1:w2.cell? ⟨jb,1,none⟩=some (.slice (some ⟨bf,0,none⟩) L cf):=by rw [cell_of_row _ _ _ _ _ _ HJ2.out.blk,hvf,<- hLf];rfl
   rw [<- hLf] at hvf;subst hvf;clear hG hR hb2 HC2 HPG hsi hLf hcp hd1 hwl hplp hd2;simp [stG,stU,Au,Act.put,h5];clear h5
   go_wp2_with fail
   go_loopw [6,41] (fun v6 i wr=>∃ (k:Nat) (u6:Value) (ms:List Fm),u6=v6/\i=.int .i64 (k:Int)/\k<=L/\ms.length=k/\JobM B wr jb tp (stF ps k fs) gs (.slice (some ⟨bf,0,none⟩) L cf) vg/\wr.ownsRow w.heap.size 233 4 u6 k (cl (Iu ep) ms)/\iC w.heap.size ps fs wr ms/\Mv (FTw B BP w) w wr) (fun _ i _=>L - (intOf i).toNat)
   case atStart=>exact ⟨0,_,[],rfl,rfl,Nat.zero_le _,rfl,by rw [XW];exact HJ2.out,⟨rfl,.inl ⟨rfl,rfl⟩⟩,fun i p m x h=>by simp at h,Mv.of_below HB2.out⟩
   case round=>
    obtain ⟨k,u6,ms,rfl,rfl,hkL,hml,hj,hfr,hfm,hmv⟩:=hrel;have HJ:=hid hj;have HFR:=hid hfr;have HFM:=hid hfm;have HMV:=hid hmv;have HML:=hid hml;clear hj hfr hfm hmv hml HB2 HJ2 hc1;by_cases hk:k < L
    ·have hkf:(k < L)=True:=eq_true hk;have hki:(k:Int) < (L:Int):=by omega
     obtain ⟨x,hx⟩:∃ x,fs[k]?=some x:=⟨_,List.getElem?_eq_getElem (by rw [<- HLF.out];exact hk)⟩
     obtain ⟨e1,e2⟩:=eQ (ps:=ps) hx;have HX:=hid hx;have HE2:=hid e2;rw [e1] at HJ;obtain ⟨l1',hl1'⟩:∃ l,l=(fs.take k).map (stN ps):=⟨_,rfl⟩
     obtain ⟨l2',hl2'⟩:∃ l,l=fs.drop (k+1):=⟨_,rfl⟩
     rw [<- hl1',<- hl2'] at HJ HE2;have hl1k:l1'.length=k:=by rw [hl1',List.length_map,List.length_take,<- HLF.out];omega
     have hxm:(l1'++x::l2')[k]?=some x:=by rw [List.getElem?_append_right (by omega),hl1k,Nat.sub_self];rfl
     obtain ⟨bf',cf',hbf,-,-,-,-,hcl⟩:=GM HJ.out.fr FM (by simp);simp only [Value.slice.injEq,Option.some.injEq,Addr.mk.injEq,and_true] at hbf;obtain ⟨rfl,hLl,rfl⟩:=hbf;have hcx0:wr.cell? ⟨bf,k * 2,none⟩=some (.bool x.lf):=hcl k 0 x (.bool x.lf) hxm rfl;have hcx1:wr.cell? ⟨bf,k * 2+1,none⟩=some (.slice x.a x.es.length x.c):=hcl k 1 x (.slice x.a x.es.length x.c) hxm rfl;have hxo:=HJ.out.nds x (List.mem_append_right _ (List.mem_cons_self ..));obtain ⟨bx,ox,hxa,-,-,-⟩:=DC hxo.2.2.ets hxo.1;have HXA:=hid hxa;have HXS:=hid (HIN.out.set x (List.mem_of_getElem? hx));obtain ⟨N,hN⟩:∃ N,N=x.es.length:=⟨_,rfl⟩
     have HN:=hid hN;rw [<- hN,hxa] at hcx1;obtain ⟨cx,hcx⟩:∃ c,c=x.c:=⟨_,rfl⟩
     rw [<- hcx] at hcx1;have HCX:=hid hcx;have hN16:(N:Int)<=16:=by have:=HXS.out.1;omega
     have hNcm:(N:Int)<=(cx:Int):=by have:=hxo.2.1.2.2.2.2.1.1;omega
     clear e1 e2 hcl hxm hl1' hl2' hxo hxa hN hcx hx hkL;have HLl:=hid hLl;clear hLl;have HBX:Hid (FTw B BP w bx):=hid (by
      have h1:=HIN.out.job.nds x (List.mem_of_getElem? HX.out);have h2:=HIN.out.old x (List.mem_of_getElem? HX.out) bx ox HXA.out;rcases h1.2.2 with h0 | ⟨b',o',q1,⟨q2,q3⟩,-⟩
      ·exact absurd h0 h1.1
      ·rw [HXA.out] at q1;cases q1;exact ⟨q2,h2,q3⟩)
     have HBXW:Hid (bx < wr.heap.size):=hid (by
      obtain ⟨-,-,cs,q⟩:=HBX.out;exact Nat.lt_of_lt_of_le (Aj q) HMV.out.size)
     go_upto_region 8 with fail
     obtain ⟨w3,hw3⟩:∃ y,y=wr.alloc (.cells #[.bool x.lf,.slice (some ⟨bx,ox,none⟩) N cx] 114):=⟨_,rfl⟩
     obtain ⟨q8,hq8⟩:∃ q,q=wr.heap.size:=⟨_,rfl⟩
     rw [<- hw3,<- hq8];have HQ8:=hid hq8;have hr8:w3.heap[q8]?=some (.cells #[.bool x.lf,.slice (some ⟨bx,ox,none⟩) N cx] 114 (0,0)):=by rw [hw3,hq8];exact heap_alloc_new wr _
     have HR8:=hid hr8;have HB3:Hid (Below wr.heap.size wr w3):=hid (by rw [hw3];exact Ad wr _);have hd1:w3.cell? ⟨q8,1,none⟩=some (.slice (some ⟨bx,ox,none⟩) N cx):=coR hr8;clear hw3 hq8 hr8 hcx0 hcx1
     go_wp2_with fail
     generalize wr=wo at *
     go_loopw [49] (fun i wr=>∃ j:Nat,i=.int .i64 (j:Int)/\j<=N/\JobM B wr jb tp (l1'++stP ps j x::l2') gs (.slice (some ⟨bf,0,none⟩) L cf) vg/\Mv (fun b=>b=bx) w3 wr) (fun i _=>N - (intOf i).toNat)
     case atStart=>exact ⟨0,rfl,Nat.zero_le _,by rw [XT];exact HJ.out.below HB3.out,Mv.refl _ _⟩
     case round=>
      obtain ⟨j,rfl,hjN,hjz,hmz⟩:=hrel;have HJZ:=hid hjz;have HMZ:=hid hmz;have hrz:=hmz.row HR8.out (fun e=>by have:=HQ8.out;have:=HBXW.out;omega);have HRZ:=hid hrz;have HMW:Hid (Mv (FTw B BP w) w wr):=hid ((HMV.out.trans (Mv.of_below HB3.out)).trans' hmz fun i _ e=>by rw [e];exact HBX.out);clear hjz hmz hd1;by_cases hjl:j < N
      ·have hjf:(j < N)=True:=eq_true hjl;have hji:(j:Int) < (N:Int):=by omega
       have hjx:j < x.es.length:=by rw [<- HN.out];exact hjl
       obtain ⟨⟨⟨k1,k2⟩,pg⟩,hee⟩:∃ e:Et,e=x.es.getD j et0:=⟨_,rfl⟩
       have HEE:=hid hee;have hem:((k1,k2),pg)∈x.es:=by rw [hee,List.getD_eq_getElem?_getD,List.getElem?_eq_getElem hjx];exact List.getElem_mem _
       have hpgb:=HXS.out.2.1 _ hem;simp only at hpgb;have hxz:=HJZ.out.nds (stP ps j x) (List.mem_append_right _ (List.mem_cons_self ..));have hcz:wr.cell? ⟨bx,ox+j * 3,none⟩=some (.int .i64 k1)/\wr.cell? ⟨bx,ox+j * 3+1,none⟩=some (.int .i64 k2)/\wr.cell? ⟨bx,ox+j * 3+2,none⟩=some (.int .i64 pg):=by
        rcases hxz.2.2 with h0 | ⟨b',o',q1,-,q4⟩
        ·exact absurd h0 hxz.1
        ·have q1:x.a=some ⟨b',o',none⟩:=q1;rw [HXA.out] at q1;cases q1;have q5:=q4 j (by rw [UF];exact hjx);rw [UG hjx,<- hee] at q5;exact q5
       obtain ⟨hz0,hz1,hz2⟩:=hcz;have HZ2:=hid hz2;obtain ⟨csx,hcsx⟩:∃ cs,wr.heap[bx]?=some (.cells cs 65 (0,0)):=by
        rcases hxz.2.2 with h0 | ⟨b',o',q1,⟨-,q3⟩,-⟩
        ·exact absurd h0 hxz.1
        ·have q1:x.a=some ⟨b',o',none⟩:=q1;rw [HXA.out] at q1;cases q1;exact q3
       have HCSX:=hid hcsx;have hq81:wr.cell? ⟨q8,1,none⟩=some (.slice (some ⟨bx,ox,none⟩) N cx):=coR hrz;have HPGB:=hid hpgb;have HPGF:Hid (pg<=9223372036854775807):=hid ((HJ.out.nds x (List.mem_append_right _ (List.mem_cons_self ..))).2.1.2.2.2.1 _ hem).2.2;clear hee hem hpgb hxz hcsx
       go_upto_region 11 with fail
       obtain ⟨w4,hw4⟩:∃ y,y=wr.alloc (.cells #[.int .i64 k1,.int .i64 k2,.int .i64 pg] 65):=⟨_,rfl⟩
       obtain ⟨q10,hq10⟩:∃ q,q=wr.heap.size:=⟨_,rfl⟩
       rw [<- hw4,<- hq10];have HB4:Hid (Below wr.heap.size wr w4):=hid (by rw [hw4];exact Ad wr _);have hr10:w4.heap[q10]?=some (.cells #[.int .i64 k1,.int .i64 k2,.int .i64 pg] 65 (0,0)):=by rw [hw4,hq10];exact heap_alloc_new wr _
       have HC11:Hid (∀ y,Grew w4.drew y->y.cell? ⟨q8,1,none⟩=some (.slice (some ⟨bx,ox,none⟩) N cx)/\y.cell? ⟨q10,2,none⟩=some (.int .i64 pg)):=hid fun y hy=>by
        have hy2:Below w4.heap.size w4 y:=⟨hy.os,hy.tape,hy.output,hy.size,hy.block⟩
        have y1:=Ac (Ac HRZ.out HB4.out) hy2;have y2:=Ac hr10 hy2;exact ⟨by rw [cell_of_row _ _ _ _ _ _ y1];rfl,by rw [cell_of_row _ _ _ _ _ _ y2];rfl⟩
       have HST:Hid (∀ y,Grew w4.drew y->Calls Tryz.prog 146 #[.int .i64 pg,.slice (some ⟨bp,op,none⟩) L cp] y fun e w'=>e=.returned (.int .i64 (sgm ps pg:Int))/\y=w'):=hid fun y hy=>by
        have hy2:Below w4.heap.size w4 y:=⟨hy.os,hy.tape,hy.output,hy.size,hy.block⟩
        have hs:=(HF.out y (((HMW.out.trans (Mv.of_below HB4.out))).trans (Mv.of_below hy2))).2;have h1:=KQ _ _ cp _ pg y hs (fun h=>by rw [List.length_map];exact HPGB.out.2 h) (by rw [List.length_map,<- HL.out];omega) HPGB.out.1;rw [UE,List.length_map,<- HL.out] at h1;exact h1
       clear hw4 hq10 hr10 hz0 hz1 hz2 hrz;refine Ai 9 [EqN (.pointer (some ⟨q8,1,none⟩)),EqN (.slice (some ⟨bx,ox,none⟩) N cx),EqN (.int .i64 (j:Int)),EqN (.pointer (some ⟨q10,2,none⟩)),EqN (.int .i64 pg),EqN (.slice (some ⟨bp,op,none⟩) L cp),EqN (.int .i64 (sgm ps pg:Int)),EqN (.pointer (some ⟨bx,ox+j * 3,none⟩)),EqN (.pointer (some ⟨bx,ox+j * 3+2,none⟩))] (by kernel_rfl) (by decide) (by kernel_rfl) ?_ ?_ ?_
       ·repeat' (first | exact List.forall_mem_nil _ | refine List.forall_mem_cons.2 ⟨?_,?_⟩)
        all_goals
         intro w w' v hw h
         first | exact h | exact h
       ·simp only [AllLt];refine ⟨⟨⟨⟨⟨⟨⟨⟨⟨trivial,?_⟩,?_⟩,?_⟩,?_⟩,?_⟩,?_⟩,?_⟩,?_⟩,?_⟩
        all_goals
         intro o' ho;simp at ho;subst ho;intro ρ w5 hR hL hS hG;obtain ⟨hl1,hl2,-⟩:=hL
        ·refine Aa rfl ?_;intro bA K Q' hK;have e8:=hS 8 (by kernel_rfl);change ρ (.tmp 8)=_ at e8;simp only [execOp];go_simp;exact hK _ _ rfl (Grew.refl _)
        ·refine Aa rfl ?_;intro bA K Q' hK;have e54:=apG (hG 0 54);change ρ (.tmp 54)=_ at e54;obtain ⟨y1,y2⟩:=HC11.out w5 hR;simp only [execOp];go_simp;exact hK _ _ rfl (Grew.refl _)
        ·refine Aa rfl ?_;intro bA K Q' hK;have e9:=hS 9 (by kernel_rfl);change ρ (.tmp 9)=_ at e9;simp only [execOp];go_simp;exact hK _ _ rfl (Grew.refl _)
        ·refine Aa rfl ?_;intro bA K Q' hK;have e10:=hS 10 (by kernel_rfl);change ρ (.tmp 10)=_ at e10;simp only [execOp];go_simp;exact hK _ _ rfl (Grew.refl _)
        ·refine Aa rfl ?_;intro bA K Q' hK;have e57:=apG (hG 3 57);change ρ (.tmp 57)=_ at e57;obtain ⟨y1,y2⟩:=HC11.out w5 hR;simp only [execOp];go_simp;exact hK _ _ rfl (Grew.refl _)
        ·refine Aa rfl ?_;intro bA K Q' hK;have e1:=hS 1 (by kernel_rfl);change ρ (.tmp 1)=_ at e1;simp only [execOp];go_simp;exact hK _ _ rfl (Grew.refl _)
        ·refine Aa rfl ?_;intro bA K Q' hK;have e58:=apG (hG 4 58);have e59:=apG (hG 5 59);change ρ (.tmp 58)=_ at e58;change ρ (.tmp 59)=_ at e59;simp only [execOp];go_simp;refine (HST.out w5 hR).mono ?_;rintro r9 w9 ⟨rfl,rfl⟩;exact hK _ _ rfl (Grew.refl _)
        ·refine Aa rfl ?_;intro bA K Q' hK;have e55:=apG (hG 1 55);have e56:=apG (hG 2 56);change ρ (.tmp 55)=_ at e55;change ρ (.tmp 56)=_ at e56;simp only [execOp];go_simp;exact hK _ _ rfl (Grew.refl _)
        ·refine Aa rfl ?_;intro bA K Q' hK;have e61:=apG (hG 7 61);change ρ (.tmp 61)=_ at e61;simp only [execOp];go_simp;exact hK _ _ rfl (Grew.refl _)
       ·intro vv2 w5 hR hG;have h6:vv2 6=.int .i64 (sgm ps pg:Int):=hG.1.1.2;have h8:vv2 8=.pointer (some ⟨bx,ox+j * 3+2,none⟩):=hG.2;have hb5:Below w4.heap.size w4 w5:=⟨hR.os,hR.tape,hR.output,hR.size,hR.block⟩
        have HB5:Hid (Below wr.heap.size wr w5):=hid (HB4.out.trans (hb5.mono HB4.out.size));have HJ5:=hid (HJZ.out.below HB5.out);have hcs5:=Ac HCSX.out HB5.out;have hc5:w5.cell? ⟨bx,ox+j * 3+2,none⟩=some (.int .i64 pg):=(HB5.out.cell (Aj HCSX.out)).trans HZ2.out;have hf5:=frozen_of_row w5 bx (ox+j * 3+2) _ _ hcs5;clear hG hR hb5 HC11 HST hcs5 hq81;simp [stG,stU,Au,Act.put,h6,h8];clear h6 h8
        go_wp2_with fail
        obtain ⟨w6,hw6⟩:∃ y,y=w5.setCell ⟨bx,ox+j * 3+2,none⟩ (.int .i64 (sgm ps pg:Int)):=⟨_,rfl⟩
        rw [<- hw6];have hsg:(0:Int)<=(sgm ps pg:Int)/\(sgm ps pg:Int)<=9223372036854775807:=⟨by omega,HSG.out pg HPGB.out HPGF.out⟩
        obtain ⟨j1,j2,-⟩:=HJ5.out.setE (x:=stP ps j x) (k:=j) HXA.out (by rw [UF];exact hjx) (sgm ps pg:Int) ⟨by omega,hsg.2⟩;rw [<- hw6] at j1 j2;have hj6:JobM B w6 jb tp (l1'++stP ps (j+1) x::l2') gs (.slice (some ⟨bf,0,none⟩) L cf) vg:=by
         have e:=XU (ps:=ps) hjx;rw [<- HEE.out] at e;rw [<- e];exact j1
        have hm6:Mv (fun b=>b=bx) w3 w6:=(HMZ.out.trans (Mv.of_below HB5.out)).trans j2;clear hw6 j1 j2 hc5 hf5 hsg
        go_roundw
        case rel=>exact ⟨j+1,by go_num,by omega,hj6,hm6⟩
        case measure=>simp [intOf];omega
      ·have hjf:(j < N)=False:=eq_false hjl;have HJN:Hid (j=N):=hid (by omega);have HJZ2:Hid (JobM B wr jb tp (l1'++stN ps x::l2') gs (.slice (some ⟨bf,0,none⟩) L cf) vg):=hid (by
        have h:=HJZ.out;rw [HJN.out,HN.out,ay] at h;exact h)
       have hnd:NdOk wr x.a N cx (x.es.map (stl ps)):=by
        have h:=(HJZ2.out.nds (stN ps x) (List.mem_append_right _ (List.mem_cons_self ..))).2.1;have h:NdOk wr x.a (x.es.map (stl ps)).length x.c (x.es.map (stl ps)):=h;rw [List.length_map,<- HN.out,<- HCX.out] at h;exact h
       rw [HXA.out] at hnd;have hen:=Oa _ _ _ x.lf _ wr hnd;rw [HXS.out.2.2,if_pos rfl] at hen;have HEN:=hid hen;have hq80:wr.cell? ⟨q8,0,none⟩=some (.bool x.lf):=coR hrz;have hq81:wr.cell? ⟨q8,1,none⟩=some (.slice (some ⟨bx,ox,none⟩) N cx):=coR hrz;clear hnd hen hrz hjN
       go_wp2_with fail
       refine HEN.out.mono ?_;clear HEN;rintro e w7 ⟨⟨v,rfl,hv⟩,hb7⟩;obtain ⟨ab,cb,rfl,hb0,hb1,hb2,-⟩:=Row.sl hv;obtain ⟨bs,hbs⟩:∃ bs,bs=Dh x.lf (x.es.map (stl ps)):=⟨_,rfl⟩
       rw [<- hbs] at hv;rw [<- hbs];obtain ⟨nb,hnb⟩:∃ n,n=bs.length:=⟨_,rfl⟩
       have HBS:=hid hbs;have HNB:=hid hnb;have HV:Hid (w7.ownsRow w.heap.size 5 1 (.slice ab nb cb) nb (u8s bs)):=hid (by rw [hnb];exact AV hv HMW.out.size);rw [<- hnb];have HB7:=hid hb7;clear hv hb0 hb1 hb2 hb7 hq80 hq81 hbs hnb;obtain ⟨pk,hpk⟩:∃ pk:Nat,ps[k]?=some pk:=⟨_,List.getElem?_eq_getElem (by rw [<- HL.out];exact hk)⟩
       have HPK:=hid hpk;have hM7:Mv (FTw B BP w) w w7:=HMW.out.trans (Mv.of_below HB7.out);have hFRr:wr.ownsRow w.heap.size 233 4 u6 k (cl (Iu ep) ms):=by
        obtain ⟨-,-,csb,hcb⟩:=HBX.out;have h3:=Ag (F:=fun _=>False) HFR.out (Mv.of_below HB3.out) fun _ _=>id;exact Ag h3 HMZ.out fun b hb e=>by
         subst e;have h4:=AB HFR.out _ hb;have h5:=Aj hcb;omega
       have HFR7:Hid (w7.ownsRow w.heap.size 233 4 u6 k (cl (Iu ep) ms)):=hid (Ag (F:=fun _=>False) hFRr (Mv.of_below HB7.out) fun _ _=>id);have HJ7:=hid (HJZ2.out.below HB7.out);have HM7:=hid hM7;have HC16:Hid (∀ y,Grew w7.drew y->y.cell? ⟨jb,0,none⟩=some (.pointer (some ⟨tp,0,none⟩))/\y.cell? ⟨tp,3,none⟩=some (.int .i64 ep)/\y.cell? ⟨bp,op+k,none⟩=some (.int .i64 (pk:Int))):=hid fun y hy=>by
        have hy2:Below w7.heap.size w7 y:=⟨hy.os,hy.tape,hy.output,hy.size,hy.block⟩
        obtain ⟨f1,f2⟩:=HF.out y (HM7.out.trans (Mv.of_below hy2));have y1:=Ac HJ7.out.blk hy2;obtain ⟨b9,o9,q1,q2⟩:=Pm f2 (k:=k) (by rw [List.length_map,<- HL.out];exact hk);cases q1;refine ⟨by rw [cell_of_row _ _ _ _ _ _ y1];rfl,by rw [cell_of_row _ _ _ _ _ _ f1];rfl,?_⟩;rw [q2,List.getD_eq_getElem?_getD,List.getElem?_map,HPK.out];rfl
       clear hpk hM7 hFRr
       go_wp2_with fail
       refine Ai 15 [EqN u6,EqN (.pointer (some ⟨jb,0,none⟩)),EqN (.pointer (some ⟨jb,0,none⟩)),EqN (.pointer (some ⟨jb,0,none⟩)),EqN (.pointer (some ⟨tp,0,none⟩)),EqN (.pointer (some ⟨tp,0,none⟩)),EqN (.pointer (some ⟨tp,3,none⟩)),EqN (.int .i64 ep),EqN (.slice (some ⟨bp,op,none⟩) L cp),EqN (.int .i64 (k:Int)),EqN (.pointer (some ⟨bp,op+k,none⟩)),EqN (.int .i64 (pk:Int)),EqN (.slice ab nb cb),EqN (.agg #[.int .i64 2,.int .i64 ep,.int .i64 (pk:Int),.slice ab nb cb]),(fun y v=>∃ b,v=.slice (some ⟨b,0,none⟩) 1 1/\y.heap[b]?=some (.cells #[.int .i64 2,.int .i64 ep,.int .i64 (pk:Int),.slice ab nb cb] 233 (0,0)))] (by kernel_rfl) (by decide) (by kernel_rfl) ?_ ?_ ?_
       ·repeat' (first | exact List.forall_mem_nil _ | refine List.forall_mem_cons.2 ⟨?_,?_⟩)
        all_goals
         intro w w' v hw h
         first | exact h | (obtain ⟨b,h1,h2⟩:=h;exact ⟨b,h1,Ac h2 hw⟩)
       ·simp only [AllLt];refine ⟨⟨⟨⟨⟨⟨⟨⟨⟨⟨⟨⟨⟨⟨⟨trivial,?_⟩,?_⟩,?_⟩,?_⟩,?_⟩,?_⟩,?_⟩,?_⟩,?_⟩,?_⟩,?_⟩,?_⟩,?_⟩,?_⟩,?_⟩
        all_goals
         intro o' ho;simp at ho;subst ho;intro ρ w5 hR hL hS hG;obtain ⟨hl1,hl2,-⟩:=hL
        ·refine Aa rfl ?_;intro bA K Q' hK;have e6:=hS 6 (by kernel_rfl);change ρ (.tmp 6)=_ at e6;simp only [execOp];go_simp;exact hK _ _ rfl (Grew.refl _)
        ·refine Aa rfl ?_;intro bA K Q' hK;have e0:=hS 0 (by kernel_rfl);change ρ (.tmp 0)=_ at e0;simp only [execOp];go_simp;exact hK _ _ rfl (Grew.refl _)
        ·refine Aa rfl ?_;intro bA K Q' hK;have e72:=apG (hG 1 72);change ρ (.tmp 72)=_ at e72;simp only [execOp];go_simp;exact hK _ _ rfl (Grew.refl _)
        ·refine Aa rfl ?_;intro bA K Q' hK;have e73:=apG (hG 2 73);change ρ (.tmp 73)=_ at e73;simp only [execOp];go_simp;exact hK _ _ rfl (Grew.refl _)
        ·refine Aa rfl ?_;intro bA K Q' hK;have e74:=apG (hG 3 74);change ρ (.tmp 74)=_ at e74;obtain ⟨y1,y2,y3⟩:=HC16.out w5 hR;simp only [execOp];go_simp;exact hK _ _ rfl (Grew.refl _)
        ·refine Aa rfl ?_;intro bA K Q' hK;have e75:=apG (hG 4 75);change ρ (.tmp 75)=_ at e75;simp only [execOp];go_simp;exact hK _ _ rfl (Grew.refl _)
        ·refine Aa rfl ?_;intro bA K Q' hK;have e76:=apG (hG 5 76);change ρ (.tmp 76)=_ at e76;simp only [execOp];go_simp;exact hK _ _ rfl (Grew.refl _)
        ·refine Aa rfl ?_;intro bA K Q' hK;have e77:=apG (hG 6 77);change ρ (.tmp 77)=_ at e77;obtain ⟨y1,y2,y3⟩:=HC16.out w5 hR;simp only [execOp];go_simp;exact hK _ _ rfl (Grew.refl _)
        ·refine Aa rfl ?_;intro bA K Q' hK;have e1:=hS 1 (by kernel_rfl);change ρ (.tmp 1)=_ at e1;simp only [execOp];go_simp;exact hK _ _ rfl (Grew.refl _)
        ·refine Aa rfl ?_;intro bA K Q' hK;have e7:=hS 7 (by kernel_rfl);change ρ (.tmp 7)=_ at e7;simp only [execOp];go_simp;exact hK _ _ rfl (Grew.refl _)
        ·refine Aa rfl ?_;intro bA K Q' hK;have e79:=apG (hG 8 79);have e80:=apG (hG 9 80);change ρ (.tmp 79)=_ at e79;change ρ (.tmp 80)=_ at e80;simp only [execOp];go_simp;exact hK _ _ rfl (Grew.refl _)
        ·refine Aa rfl ?_;intro bA K Q' hK;have e81:=apG (hG 10 81);change ρ (.tmp 81)=_ at e81;obtain ⟨y1,y2,y3⟩:=HC16.out w5 hR;simp only [execOp];go_simp;exact hK _ _ rfl (Grew.refl _)
        ·refine Aa rfl ?_;intro bA K Q' hK;have e11:=hS 11 (by kernel_rfl);change ρ (.tmp 11)=_ at e11;simp only [execOp];go_simp;exact hK _ _ rfl (Grew.refl _)
        ·refine Aa rfl ?_;intro bA K Q' hK;have e78:=apG (hG 7 78);have e82:=apG (hG 11 82);have e83:=apG (hG 12 83);change ρ (.tmp 78)=_ at e78;change ρ (.tmp 82)=_ at e82;change ρ (.tmp 83)=_ at e83;simp only [execOp];go_simp;exact hK _ _ rfl (Grew.refl _)
        ·refine Aa rfl ?_;intro bA K Q' hK;have e84:=apG (hG 13 84);change ρ (.tmp 84)=_ at e84;simp only [execOp];go_simp;exact hK _ _ ⟨_,rfl,heap_alloc_new w5 _⟩ ((Grew.refl _).alloc _)
       ·intro vv3 w8 hR hG;have h14:∃ b,vv3 14=.slice (some ⟨b,0,none⟩) 1 1/\w8.heap[b]?=some (.cells #[.int .i64 2,.int .i64 ep,.int .i64 (pk:Int),.slice ab nb cb] 233 (0,0)):=hG.2;have h0:vv3 0=u6:=hG.1.1.1.1.1.1.1.1.1.1.1.1.1.1.2;obtain ⟨b9,h9,hr9⟩:=h14;have hb8:Below w7.heap.size w7 w8:=⟨hR.os,hR.tape,hR.output,hR.size,hR.block⟩
        have HB8:=hid hb8;have HFR8:Hid (w8.ownsRow w.heap.size 233 4 u6 k (cl (Iu ep) ms)):=hid (Ag (F:=fun _=>False) HFR7.out (Mv.of_below hb8) fun _ _=>id);have HJ8:=hid (HJ7.out.below hb8);have hcl9:∀ i u,([.int .i64 2,.int .i64 ep,.int .i64 (pk:Int),.slice ab nb cb]:List Value)[i]?=some u->w8.cell? ((⟨b9,0,none⟩:Addr).add i)=some u:=fun i u hu=>by
         rw [Addr.add_lit,cell_of_row _ _ _ _ _ _ hr9];simpa using hu
        have HCL9:=hid hcl9;have hk100:(k:Int)<=100:=by omega
        obtain ⟨i0,hi,hz0,hz1,hz2⟩:=info_parts fJ;have HI:=hid (And.intro hi (And.intro hz0 (And.intro hz1 hz2)));clear hG hR hb8 hr9 hcl9 HC16 hi hz0 hz1 hz2;simp [stG,stU,Au,Act.put,h0,h9];clear h0 h9
        go_wp2_with (refine BZ _ rfl (.tmp 71) (.tmp 85) 243 rfl w.heap.size 233 i0 (.agg #[.int .i64 0,.int .i64 0,.int .i64 0,.slice none 0 0]) 4 48 Tryz.underlying243 HI.out.1 HI.out.2.1 HI.out.2.2.1 HI.out.2.2.2 rfl (by decide) _ k _ rfl HFR8.out ⟨b9,0,none⟩ 1 1 [.int .i64 2,.int .i64 ep,.int .i64 (pk:Int),.slice ab nb cb] rfl rfl HCL9.out (by simp [Value.oneCell']) (by unfold maxLen;omega) (by omega) (Nat.le_trans HM7.out.size HB8.out.size) ?_)
        intro v9 w9 hr9 hg9 _;have hm9:Mv (fun b=>u6.ownBlock=some b) w8 w9:=Mv.of_grown hg9 fun b hb _=>hb;have hge:=AB HFR8.out;have hj9:JobM B w9 jb tp (stF ps (k+1) fs) gs (.slice (some ⟨bf,0,none⟩) L cf) vg:=by
         rw [HE2.out];have h:=HJ8.out;exact ⟨hm9.row h.blk (AU HFR8.out h.blk (by decide)),Ag h.fr hm9 (fun b hb e=>DR HFR8.out h.fr (by decide) b e hb),Ag h.gn hm9 (fun b hb e=>DR HFR8.out h.gn (by decide) b e hb),fun y hy=>⟨(h.nds y hy).1,(h.nds y hy).2.mvT hm9 fun b cs hb=>AU HFR8.out hb (by decide)⟩,h.dj,h.ge⟩
        have hM9:Mv (FTw B BP w) w w9:=(HM7.out.trans (Mv.of_below HB8.out)).trans' hm9 fun i hi e=>by have:=hge i e;omega
        have hfm9:iC w.heap.size ps fs w9 (ms++[⟨pk,ab,cb,bs⟩]):=by
         intro i p m y h1 h2 h3;by_cases hik:i < k
         ·rw [List.getElem?_append_left (by rw [HML.out];exact hik)] at h1;obtain ⟨g1,g2,g3⟩:=HFM.out i p m y h1 h2 h3;refine ⟨g1,g2,?_⟩;obtain ⟨-,-,csb,hcb⟩:=HBX.out;have k1:=Ag (F:=fun _=>False) g3 (Mv.of_below HB3.out) fun _ _=>id;have k2:=Ag k1 HMZ.out fun b hb e=>by
           subst e;have h4:=AB g3 _ hb;have h5:=Aj hcb;omega
          have k3:=Ag (F:=fun _=>False) k2 (Mv.of_below (HB7.out.trans (HB8.out.mono HB7.out.size))) fun _ _=>id;exact Ag k3 hm9 fun b hb e=>DR HFR8.out k3 (by decide) b e hb
         ·have hil:i < (ms++[(⟨pk,ab,cb,bs⟩:Fm)]).length:=(List.getElem?_eq_some_iff.1 h1).1;rw [List.length_append,HML.out] at hil;have hik2:i=k:=by simp at hil;omega
          subst hik2;rw [List.getElem?_append_right (by rw [HML.out];exact Nat.le_refl _),HML.out,Nat.sub_self] at h1;cases h1;rw [HX.out] at h2;cases h2;rw [HPK.out] at h3;cases h3;refine ⟨rfl,HBS.out,?_⟩;show w9.ownsRow w.heap.size 5 1 (.slice ab bs.length cb) bs.length (u8s bs);rw [<- HNB.out];have k3:=Ag (F:=fun _=>False) HV.out (Mv.of_below HB8.out) fun _ _=>id;exact Ag k3 hm9 fun b hb e=>DR HFR8.out k3 (by decide) b e hb
        have hr10:w9.ownsRow w.heap.size 233 4 v9 (k+1) (cl (Iu ep) (ms++[⟨pk,ab,cb,bs⟩])):=by
         rw [NE,Ui];show w9.ownsRow _ _ _ _ _ (_++[.int .i64 2,.int .i64 ep,.int .i64 (pk:Int),.slice ab bs.length cb]);rw [<- HNB.out];exact hr9
        have hml9:(ms++[(⟨pk,ab,cb,bs⟩:Fm)]).length=k+1:=by rw [List.length_append,HML.out];rfl
        clear hr9 hg9 hm9 hge
        go_wp2_with fail
        go_roundw
        case rel=>exact ⟨k+1,v9,_,rfl,by go_num,by omega,hml9,hj9,hr10,hfm9,hM9⟩
        case measure=>simp [intOf];omega
    ·have hkf:(k < L)=False:=eq_false hk;have HKL:Hid (k=L):=hid (by omega);have hkL2:k=L:=HKL.out;subst hkL2;obtain ⟨g9,c9,hu6,hg90,hg9l,-,hc9m,hcl⟩:=GM (by rw [HML.out];exact HFR.out:wr.ownsRow w.heap.size 233 4 u6 ms.length (cl (Iu ep) ms)) (TP ep) (by intro e;have:=HML.out;rw [e] at this;simp at this;omega);rw [HML.out] at hu6;subst hu6;have HG9:=hid (And.intro hg90 hg9l);have HCL:=hid hcl;have HJR:=hid (And.intro HJ.out.blk (HF.out wr HMV.out).1);have HDW:Hid (Dv C wr gd pn (n+0) S):=hid (HIN.out.dv.keep HMV.out fun i hi=>HIN.out.new i hi.1);have HCW:Hid (∀ i,w.heap.size<=i->C i=0):=hid fun i hi=>HIN.out.new i (Nat.le_trans HIN.out.low hi);have HCJ:Hid (C jb=0):=hid (HIN.out.new jb HIN.out.job.ge);have hL100:k<=100:=by omega
     have hLM2:(k:Int)<=9223372036854775807:=by omega
     clear hg90 hg9l hcl hkL hkf hk hc9m
     go_wp2_with fail
     generalize wr=wo at *
     go_loopw [90] (fun i wr=>∃ (j:Nat) (C':Nat->Nat) (S':St),i=.int .i64 (j:Int)/\j<=k/\Dv C' wr gd pn (n+j) S'/\Ext wo C C'/\dZ S S' ps fs j/\S'.on=true/\S'.armed=false/\S'.r=S.r/\S'.s=S.s+(j:Int)/\(∀ q,q < pn->Bytes (rd S' q))/\Mv (fun b=>C b≠0) wo wr) (fun i _=>k - (intOf i).toNat)
     case atStart=>exact ⟨0,C,S,rfl,Nat.zero_le _,HDW.out,fun _ _=>rfl,⟨fun i p x h=>absurd h (Nat.not_lt_zero _),fun _ _=>rfl⟩,HIN.out.on,HIN.out.arm,rfl,by omega,HIN.out.bytes,Mv.refl _ _⟩
     case round=>
      obtain ⟨j,C',S',rfl,hjL,hd,hext,hpre,hon,harm,hsr,hss,hby,hmv⟩:=hrel;have HD:=hid hd;have HA:=hid (And.intro hext (And.intro hpre (And.intro hon (And.intro harm (And.intro hsr (And.intro hss hby))))));have HM:=hid hmv;clear hd hext hpre hon harm hsr hss hby hmv;by_cases hjl:j < k
      ·have hjf:(j < k)=True:=eq_true hjl;have hji:(j:Int) < (k:Int):=by omega
       obtain ⟨m,hm⟩:∃ m,ms[j]?=some m:=⟨_,List.getElem?_eq_getElem (by rw [HML.out];exact hjl)⟩
       obtain ⟨p,hp⟩:∃ p,ps[j]?=some p:=⟨_,List.getElem?_eq_getElem (by rw [<- HL.out];exact hjl)⟩
       obtain ⟨x,hx⟩:∃ x,fs[j]?=some x:=⟨_,List.getElem?_eq_getElem (by rw [<- HLF.out];exact hjl)⟩
       obtain ⟨m1,m2,m3⟩:=HFM.out j p m x hm hx hp;have hcell:∀ (i:Nat) (u:Value),(Iu ep m)[i]?=some u->wr.cell? ⟨g9,j * 4+i,none⟩=some u:=fun i u hu=>by
        have h1:=HCL.out j i m u hm hu;exact (World.cell?_of_block (HM.out.block g9 HG9.out.2 fun e=>e (HCW.out g9 HG9.out.1))).trans h1
       have hx0:wr.cell? ⟨g9,j * 4,none⟩=some (.int .i64 2):=hcell 0 _ rfl;have hx1:wr.cell? ⟨g9,j * 4+1,none⟩=some (.int .i64 ep):=hcell 1 _ rfl;have hx2:wr.cell? ⟨g9,j * 4+2,none⟩=some (.int .i64 (m.p:Int)):=hcell 2 _ rfl;have hx3:wr.cell? ⟨g9,j * 4+3,none⟩=some (.slice m.a m.bs.length m.c):=hcell 3 _ rfl;have hrow:wr.ownsRow w.heap.size 5 1 (.slice m.a m.bs.length m.c) m.bs.length (u8s m.bs):=Ag m3 HM.out fun b hb e=>e (HCW.out b (AB m3 b hb));have HROW:=hid hrow;have HMX:=hid (And.intro hp (And.intro hx (And.intro m1 m2)));obtain ⟨nb,hnb⟩:∃ nb,nb=m.bs.length:=⟨_,rfl⟩
       have HNB:=hid hnb;rw [<- hnb] at hx3;clear hm hp hx m1 m2 m3 hcell hrow hnb hjL
       go_upto_region 21 with fail
       obtain ⟨w4,hw4⟩:∃ y,y=wr.alloc (.cells #[.int .i64 2,.int .i64 ep,.int .i64 (m.p:Int),.slice m.a nb m.c] 233):=⟨_,rfl⟩
       obtain ⟨q14,hq14⟩:∃ q,q=wr.heap.size:=⟨_,rfl⟩
       rw [<- hw4,<- hq14];have HB4:Hid (Below wr.heap.size wr w4):=hid (by rw [hw4];exact Ad wr _);have hr14:w4.heap[q14]?=some (.cells #[.int .i64 2,.int .i64 ep,.int .i64 (m.p:Int),.slice m.a nb m.c] 233 (0,0)):=by rw [hw4,hq14];exact heap_alloc_new wr _
       have HC21:Hid (∀ y,Grew w4.drew y->y.cell? ⟨jb,0,none⟩=some (.pointer (some ⟨tp,0,none⟩))/\y.cell? ⟨tp,0,none⟩=some (.pointer (some ⟨gd,0,none⟩))/\(y.cell? ⟨q14,0,none⟩=some (.int .i64 2)/\y.cell? ⟨q14,1,none⟩=some (.int .i64 ep)/\y.cell? ⟨q14,2,none⟩=some (.int .i64 (m.p:Int))/\y.cell? ⟨q14,3,none⟩=some (.slice m.a nb m.c))):=hid fun y hy=>by
        have hy2:Below w4.heap.size w4 y:=⟨hy.os,hy.tape,hy.output,hy.size,hy.block⟩
        have y1:=Ac (Ac (HM.out.row HJR.out.1 fun e=>e HCJ.out) HB4.out) hy2;have y2:=Ac (Ac (HJR.out.2.mv HM.out fun e=>e HIN.out.ctp) HB4.out) hy2;have y3:=Ac hr14 hy2;refine ⟨by rw [cell_of_row _ _ _ _ _ _ y1];rfl,by rw [cell_of_row _ _ _ _ _ _ y2];rfl,?_,?_,?_,?_⟩<;>(rw [cell_of_row _ _ _ _ _ _ y3];rfl)
       clear hw4 hq14 hr14 hx0 hx1 hx2 hx3;refine Ai 8 [EqN (.pointer (some ⟨jb,0,none⟩)),EqN (.pointer (some ⟨jb,0,none⟩)),EqN (.pointer (some ⟨jb,0,none⟩)),EqN (.pointer (some ⟨tp,0,none⟩)),EqN (.pointer (some ⟨tp,0,none⟩)),EqN (.pointer (some ⟨tp,0,none⟩)),EqN (.pointer (some ⟨gd,0,none⟩)),EqN (.agg #[.int .i64 2,.int .i64 ep,.int .i64 (m.p:Int),.slice m.a nb m.c])] (by kernel_rfl) (by decide) (by kernel_rfl) ?_ ?_ ?_
       ·repeat' (first | exact List.forall_mem_nil _ | refine List.forall_mem_cons.2 ⟨?_,?_⟩)
        all_goals
         intro w w' v hw h
         first | exact h | exact h
       ·simp only [AllLt];refine ⟨⟨⟨⟨⟨⟨⟨⟨trivial,?_⟩,?_⟩,?_⟩,?_⟩,?_⟩,?_⟩,?_⟩,?_⟩
        all_goals
         intro o' ho;simp at ho;subst ho;intro ρ w5 hR hL hS hG;obtain ⟨hl1,hl2,-⟩:=hL
        ·refine Aa rfl ?_;intro bA K Q' hK;have e0:=hS 0 (by kernel_rfl);change ρ (.tmp 0)=_ at e0;simp only [execOp];go_simp;exact hK _ _ rfl (Grew.refl _)
        ·refine Aa rfl ?_;intro bA K Q' hK;have e94:=apG (hG 0 94);change ρ (.tmp 94)=_ at e94;simp only [execOp];go_simp;exact hK _ _ rfl (Grew.refl _)
        ·refine Aa rfl ?_;intro bA K Q' hK;have e95:=apG (hG 1 95);change ρ (.tmp 95)=_ at e95;simp only [execOp];go_simp;exact hK _ _ rfl (Grew.refl _)
        ·refine Aa rfl ?_;intro bA K Q' hK;have e96:=apG (hG 2 96);change ρ (.tmp 96)=_ at e96;obtain ⟨y1,y2,y3,y4,y5,y6⟩:=HC21.out w5 hR;simp only [execOp];go_simp;exact hK _ _ rfl (Grew.refl _)
        ·refine Aa rfl ?_;intro bA K Q' hK;have e97:=apG (hG 3 97);change ρ (.tmp 97)=_ at e97;simp only [execOp];go_simp;exact hK _ _ rfl (Grew.refl _)
        ·refine Aa rfl ?_;intro bA K Q' hK;have e98:=apG (hG 4 98);change ρ (.tmp 98)=_ at e98;simp only [execOp];go_simp;exact hK _ _ rfl (Grew.refl _)
        ·refine Aa rfl ?_;intro bA K Q' hK;have e99:=apG (hG 5 99);change ρ (.tmp 99)=_ at e99;obtain ⟨y1,y2,y3,y4,y5,y6⟩:=HC21.out w5 hR;simp only [execOp];go_simp;exact hK _ _ rfl (Grew.refl _)
        ·refine Aa rfl ?_;intro bA K Q' hK;have e14:=hS 14 (by kernel_rfl);change ρ (.tmp 14)=_ at e14;obtain ⟨y1,y2,y3,y4,y5,y6⟩:=HC21.out w5 hR;simp only [execOp];go_simp;exact hK _ _ rfl (Grew.refl _)
       ·intro vv4 w5 hR hG;have h6:vv4 6=.pointer (some ⟨gd,0,none⟩):=hG.1.2;have h7:vv4 7=.agg #[.int .i64 2,.int .i64 ep,.int .i64 (m.p:Int),.slice m.a nb m.c]:=hG.2;have hb5:Below w4.heap.size w4 w5:=⟨hR.os,hR.tape,hR.output,hR.size,hR.block⟩
        have HB5:Hid (Below wr.heap.size wr w5):=hid (HB4.out.trans (hb5.mono HB4.out.size));have hdw:=HD.out.below HB5.out;have hrw:w5.ownsRow w.heap.size 5 1 (.slice m.a m.bs.length m.c) m.bs.length (u8s m.bs):=Ag (F:=fun _=>False) HROW.out (Mv.of_below HB5.out) fun _ _=>id;obtain ⟨a5,c5,e5,e6,e7,e8,e9⟩:=Row.sl (E:=5) (bs:=m.bs) hrw;simp only [Value.slice.injEq] at e5;obtain ⟨e51,-,e53⟩:=e5;rw [<- e51,<- e53] at e6;rw [<- e53] at e7 e8;rw [<- e51] at e9;obtain ⟨hpj,hxj,hmp,hmb⟩:=HMX.out;obtain ⟨hext,hpre,hon,harm,hsr,hss,hby⟩:=HA.out;have hck:=(HIN.out.set x (List.mem_of_getElem? hxj)).2.2;have hprg:=HIN.out.rng p (List.mem_of_getElem? hpj);have hb16:(x.es.map (stl ps)).length<=16:=(Ba hck).1;have hbb:Bytes m.bs:=by rw [hmb];exact df hb16
        have h238:m.bs.length<=238:=by rw [hmb];exact Ns hck
        have hep:=HIN.out.ep1;have hbud:=HIN.out.bud;have hchk:chk ⟨2,ep,(m.p:Int),m.bs⟩=0:=Zq ⟨by show (1:Int)<=2;decide,by show (2:Int)<=9;decide,by show 0<=ep;omega,by show ep<=4294967295;omega,by show (0:Int)<=(m.p:Int);omega,by show (m.p:Int)<=2047;omega,h238⟩;have hwg:=RX hdw _ 2 ep m.p m.a m.c m.bs e9 hbb ⟨e7,e8⟩ e6 hchk hon (by omega) (by unfold EF;rw [harm];rfl) (by omega) (by omega);rw [<- HNB.out] at hwg;have HWG:=hid hwg;have HFIN:Hid (∀ C9 w9,Dv C9 w9 gd pn (n+j+1) (KO S' m.p (enc ⟨2,ep,(m.p:Int),m.bs⟩))->Ext w5 C' C9->Mv (fun b=>C' b≠0) w5 w9->∃ (j9:Nat) (C9:Nat->Nat) (S9:St),Value.int .i64 ((j:Int)+1)=.int .i64 (j9:Int)/\j9<=k/\Dv C9 w9 gd pn (n+j9) S9/\Ext wo C C9/\dZ S S9 ps fs j9/\S9.on=true/\S9.armed=false/\S9.r=S.r/\S9.s=S.s+(j9:Int)/\(∀ q,q < pn->Bytes (rd S9 q))/\Mv (fun b=>C b≠0) wo w9):=hid fun C9 w9 hd9 hx9 hm9=>by
         refine ⟨j+1,C9,_,by go_num,by omega,hd9,fun b hb=>?_,⟨fun i p' x' hi hp' hx'=>?_,fun q hq=>?_⟩,hon,harm,hsr,?_,fun q hq=>?_,?_⟩
         ·rw [hx9 b (Nat.lt_of_lt_of_le hb (Nat.le_trans HM.out.size HB5.out.size)),hext b hb]
         ·rw [hmb,hmp,ML hck ⟨by omega,by omega⟩ hprg.2.2 (Ns hck)];by_cases hij:i=j
          ·subst hij;rw [hpj] at hp';rw [hxj] at hx';cases hp';cases hx';rw [if_pos rfl]
          ·rw [if_neg fun e=>hij ((List.getElem?_inj (i:=i) (j:=j) (List.getElem?_eq_some_iff.1 hp').1 HIN.out.nd).1 (by rw [hp',hpj,e]))];exact hpre.1 i p' x' (by omega) hp' hx'
         ·have hqt:ps.take (j+1)=ps.take j++[p]:=by rw [List.take_add_one,hpj];rfl
          rw [hqt] at hq;rw [hmb,hmp,ML hck ⟨by omega,by omega⟩ hprg.2.2 (Ns hck),if_neg fun e=>hq (List.mem_append_right _ (by rw [e];exact List.mem_singleton.2 rfl))];exact hpre.2 q fun e=>hq (List.mem_append_left _ e)
         ·show S'.s+1=_;omega
         ·rw [UL];by_cases hqp:q=m.p
          ·rw [if_pos hqp];exact TS hbb
          ·rw [if_neg hqp];exact hby q hq
         ·refine (HM.out.trans (Mv.of_below HB5.out)).trans' hm9 fun i hi e=>?_;rw [hext i hi] at e;exact e
        clear hG hR hb5 HC21 hdw hrw e6 e7 e8 e9 e51 e53 hpj hxj hmp hmb hext hpre hon harm hsr hss hby hck hprg hb16 hbb h238 hep hbud hchk hwg;simp [stG,stU,Au,Act.put,h6,h7];clear h6 h7
        go_wp2_with fail
        refine HWG.out.mono ?_;clear HWG;rintro e w9 ⟨rfl,⟨C9,hd9,hx9⟩,hm9⟩;have HREL:=hid (HFIN.out C9 w9 hd9 hx9 hm9);clear hd9 hx9 hm9 HFIN
        go_wp2_with fail
        go_roundw
        case rel=>exact HREL.out
        case measure=>simp [intOf];omega
      ·have hjf:(j < k)=False:=eq_false hjl;have HJK:Hid (j=k):=hid (by omega)
       go_wp2_with fail
       go_ret
       obtain ⟨hext,hpre,hon,harm,hsr,hss,hby⟩:=HA.out;have hd:=HD.out;rw [HJK.out] at hd hpre hss;have hkl:ps.length=k:=HL.out.symm;refine ⟨rfl,⟨C',S',by rw [<- HLF.out];exact hd,fun b hb=>hext b (Nat.lt_of_lt_of_le hb HMV.out.size),⟨fun i p m hp hm=>?_,fun q hq=>?_⟩,hon,harm,hsr,by rw [<- HLF.out];exact hss,hby⟩,?_⟩
       ·rw [List.getElem?_map] at hm;cases hx:fs[i]? with
        | none=>rw [hx] at hm;cases hm
        | some x=>
         rw [hx] at hm;cases hm;exact hpre.1 i p x (by rw [<- hkl];exact (List.getElem?_eq_some_iff.1 hp).1) hp hx
       ·exact hpre.2 q fun e=>hq (List.mem_of_mem_take e)
       ·exact (((Mv.refl _ w).trans' HMV.out fun _ _ e=>.inr e).trans' HM.out fun _ _ e=>.inl e)
end Go.Proofs.YtfhdojnobmfefaaGreatDoor
namespace Go.Proofs.YtfhdojnobmfefaaGreatDoor
open Go Go.RowKit Go.Inc
set_option maxRecDepth 20000 in
set_option maxHeartbeats 8000000 in
theorem KX {C K:Nat->Nat} {B jb tp gd pa pn n:Nat} {S:St} {r ep:Int} {fs:List Nm} {gs:List Int} {vf vg v1 v2 v3:Value} {ks:List Nat} {W w:World} (z:Int) (h:JobM B w jb tp fs gs vf vg) (hCB:∀ i,B<=i->C i=0) (hKB:∀ i,B<=i->K i=0) (hd:Dv C w gd pn n S) (htc:TC w tp gd pa r ep) (hkt:K tp=0) (hap:∀ i,C i=0\/K i=0) (ho:Own K W w pa v1 v2 v3 ks) (hkd:∀ z∈gs,DN ks z=2\/DN ks z=3) (hgl:gs.length<=1000) (hfl:fs.length<=100) (hfree:CE ks < fs.length) :
  Calls Tryz.prog 110 #[.pointer (some ⟨jb,0,none⟩),.int .i64 z] w fun e w'=>e=.returned (.int .i64 6)/\Own K W w' pa v1 v2 v3 ks/\Dv C w' gd pn n S/\TC w' tp gd pa r ep/\Mv (fun b=>K b≠0) w w':=by
 have HGV:=hid (OO h htc ho.al ho.ks hkd hgl);obtain ⟨L,hL⟩:∃ L,L=fs.length:=⟨_,rfl⟩
 obtain ⟨af,cf,hvf,-,-,-⟩:=AO h.fr;rw [<- hL] at hvf hfree hfl;subst hvf;have HA:=hid (And.intro h (And.intro hCB (And.intro hKB (And.intro hd (And.intro htc (And.intro hkt (And.intro hap ho)))))));have HFREE:=hid hfree;have hLm:(L:Int)<=100:=by omega
 clear h hCB hKB hd htc hkt hap ho hkd hgl hfl hfree hL
 go_enter Tryz.func110,Tryz.ntmps110
 go_wp2_with fail
 refine HGV.out.mono ?_;clear HGV;rintro e w1 ⟨⟨gv,rfl,hgv⟩,hb1⟩;obtain ⟨h,hCB,hKB,hd,htc,hkt,hap,ho⟩:=HA.out;have HB1:=hid hb1;have HO1:=hid (ho.below hb1);have HTK:Hid (∀ y,Own K W y pa v1 v2 v3 ks->Calls Tryz.prog 144 #[.pointer (some ⟨pa,0,none⟩),.int .i64 (L:Int)] y fun e w'=>e=.returned (.tuple #[.slice none 0 0,.int .i64 6])/\Own K W w' pa v1 v2 v3 ks/\Mv (fun b=>K b≠0) y w'):=hid fun y hy=>(QB hy L (by omega)).mono fun e w' hh=>by
  rcases hh with ⟨_,h2,h3,h4⟩ | ⟨h1,_⟩
  ·exact ⟨h2,h3,h4⟩
  ·have:=HFREE.out;unfold CE at this;omega
 have HC2:Hid (∀ y,Mv (fun b=>K b≠0) w1.drew y->y.cell? ⟨jb,0,none⟩=some (.pointer (some ⟨tp,0,none⟩))/\y.cell? ⟨tp,1,none⟩=some (.pointer (some ⟨pa,0,none⟩))/\y.cell? ⟨jb,1,none⟩=some (.slice af L cf)):=hid fun y hy=>by
  have y1:=hy.row (w:=w1.drew) (show w1.heap[jb]?=_ from Ac h.blk hb1) (fun e=>e (hKB jb h.ge));have y2:=hy.row (w:=w1.drew) (show w1.heap[tp]?=_ from Ac htc hb1) (fun e=>e hkt);refine ⟨?_,?_,?_⟩<;>first | (rw [cell_of_row _ _ _ _ _ _ y1];rfl) | (rw [cell_of_row _ _ _ _ _ _ y2];rfl)
 clear h hCB hKB hd htc hkt hap ho hgv hb1
 go_wp2_with fail
 refine BL (fun b=>K b≠0) 12 (fun x=>Own K W x pa v1 v2 v3 ks) (fun x=>Own K W x pa v1 v2 v3 ks) 18 [] [] [EqN (.pointer (some ⟨jb,0,none⟩)),EqN (.pointer (some ⟨jb,0,none⟩)),EqN (.pointer (some ⟨jb,0,none⟩)),EqN (.pointer (some ⟨tp,0,none⟩)),EqN (.pointer (some ⟨tp,0,none⟩)),EqN (.pointer (some ⟨tp,1,none⟩)),EqN (.pointer (some ⟨pa,0,none⟩)),EqN (.pointer (some ⟨jb,0,none⟩)),EqN (.pointer (some ⟨jb,0,none⟩)),EqN (.pointer (some ⟨jb,1,none⟩)),EqN (.slice af L cf),EqN (.int .i64 (L:Int)),EqN (.tuple #[.slice none 0 0,.int .i64 6]),EqN (.tuple #[.slice none 0 0,.int .i64 6]),EqN (.slice none 0 0),EqN (.int .i64 6),EqN (.slice none 0 0),EqN (.int .i64 6)] (by kernel_rfl) (by decide) (by kernel_rfl) (by kernel_rfl) (by kernel_rfl) (by decide) (HO1.out.below ((Below.refl _ _).drew)) (fun a b hab h=>h.below hab) (fun a b hab h=>h.below hab) ?_ ?_ ?_
 ·repeat' (first | exact List.forall_mem_nil _ | refine List.forall_mem_cons.2 ⟨?_,?_⟩)
  all_goals
   intro w w' v hw h
   first | exact h | exact h
 ·simp only [AllLt];refine ⟨⟨⟨⟨⟨⟨⟨⟨⟨⟨⟨⟨⟨⟨⟨⟨⟨⟨trivial,?_⟩,?_⟩,?_⟩,?_⟩,?_⟩,?_⟩,?_⟩,?_⟩,?_⟩,?_⟩,?_⟩,?_⟩,?_⟩,?_⟩,?_⟩,?_⟩,?_⟩,?_⟩
  all_goals
   intro o' ho;simp at ho;subst ho;intro ρ w5 hR hJ hL hS hG;obtain ⟨hl1,hl2,-⟩:=hL
  ·refine Aa rfl ?_;intro bA K Q' hK;have e0:=hS 0 (by kernel_rfl);change ρ (.tmp 0)=_ at e0;simp only [execOp];go_simp;exact hK _ _ rfl (.inl ⟨by decide,Grew.refl _⟩) (Ap (by decide))
  ·refine Aa rfl ?_;intro bA K Q' hK;have e12:=apG (hG 0 12);change ρ (.tmp 12)=_ at e12;simp only [execOp];go_simp;exact hK _ _ rfl (.inl ⟨by decide,Grew.refl _⟩) (Ap (by decide))
  ·refine Aa rfl ?_;intro bA K Q' hK;have e13:=apG (hG 1 13);change ρ (.tmp 13)=_ at e13;simp only [execOp];go_simp;exact hK _ _ rfl (.inl ⟨by decide,Grew.refl _⟩) (Ap (by decide))
  ·refine Aa rfl ?_;intro bA K Q' hK;have e14:=apG (hG 2 14);change ρ (.tmp 14)=_ at e14;obtain ⟨y1,y2,y3⟩:=HC2.out w5 hR;simp only [execOp];go_simp;exact hK _ _ rfl (.inl ⟨by decide,Grew.refl _⟩) (Ap (by decide))
  ·refine Aa rfl ?_;intro bA K Q' hK;have e15:=apG (hG 3 15);change ρ (.tmp 15)=_ at e15;simp only [execOp];go_simp;exact hK _ _ rfl (.inl ⟨by decide,Grew.refl _⟩) (Ap (by decide))
  ·refine Aa rfl ?_;intro bA K Q' hK;have e16:=apG (hG 4 16);change ρ (.tmp 16)=_ at e16;simp only [execOp];go_simp;exact hK _ _ rfl (.inl ⟨by decide,Grew.refl _⟩) (Ap (by decide))
  ·refine Aa rfl ?_;intro bA K Q' hK;have e17:=apG (hG 5 17);change ρ (.tmp 17)=_ at e17;obtain ⟨y1,y2,y3⟩:=HC2.out w5 hR;simp only [execOp];go_simp;exact hK _ _ rfl (.inl ⟨by decide,Grew.refl _⟩) (Ap (by decide))
  ·refine Aa rfl ?_;intro bA K Q' hK;have e0:=hS 0 (by kernel_rfl);change ρ (.tmp 0)=_ at e0;simp only [execOp];go_simp;exact hK _ _ rfl (.inl ⟨by decide,Grew.refl _⟩) (Ap (by decide))
  ·refine Aa rfl ?_;intro bA K Q' hK;have e19:=apG (hG 7 19);change ρ (.tmp 19)=_ at e19;simp only [execOp];go_simp;exact hK _ _ rfl (.inl ⟨by decide,Grew.refl _⟩) (Ap (by decide))
  ·refine Aa rfl ?_;intro bA K Q' hK;have e20:=apG (hG 8 20);change ρ (.tmp 20)=_ at e20;simp only [execOp];go_simp;exact hK _ _ rfl (.inl ⟨by decide,Grew.refl _⟩) (Ap (by decide))
  ·refine Aa rfl ?_;intro bA K Q' hK;have e21:=apG (hG 9 21);change ρ (.tmp 21)=_ at e21;obtain ⟨y1,y2,y3⟩:=HC2.out w5 hR;simp only [execOp];go_simp;exact hK _ _ rfl (.inl ⟨by decide,Grew.refl _⟩) (Ap (by decide))
  ·refine Aa rfl ?_;intro bA K Q' hK;have e22:=apG (hG 10 22);change ρ (.tmp 22)=_ at e22;simp only [execOp];go_simp;exact hK _ _ rfl (.inl ⟨by decide,Grew.refl _⟩) (Ap (by decide))
  ·refine Aa rfl ?_;intro bA K Q' hK;have e18:=apG (hG 6 18);have e23:=apG (hG 11 23);change ρ (.tmp 18)=_ at e18;change ρ (.tmp 23)=_ at e23;simp only [execOp];go_simp;refine (HTK.out w5 (hJ rfl)).mono ?_;rintro r9 w9 ⟨rfl,ho9,hm9⟩;refine hK _ _ rfl (.inr ⟨hm9,⟨fun _=>ho9,fun h=>absurd rfl h⟩,?_⟩) (Ap (by decide))
   ·simp only [AllLt];refine ⟨⟨⟨⟨⟨⟨⟨⟨⟨⟨⟨⟨⟨⟨⟨⟨⟨⟨trivial,?_⟩,?_⟩,?_⟩,?_⟩,?_⟩,?_⟩,?_⟩,?_⟩,?_⟩,?_⟩,?_⟩,?_⟩,?_⟩,?_⟩,?_⟩,?_⟩,?_⟩,?_⟩
    iterate 12
     ·first | exact fun _ x hx=>hx | exact Am (by kernel_rfl)
    ·exact Am (by kernel_rfl)
    iterate 5
     ·first | exact fun _ x hx=>hx | exact Am (by kernel_rfl)
  ·refine Aa rfl ?_;intro bA K Q' hK;have e24:=apG (hG 12 24);change ρ (.tmp 24)=_ at e24;simp only [execOp];go_simp;exact hK _ _ rfl (.inl ⟨by decide,Grew.refl _⟩) (Ap (by decide))
  iterate 2
   ·refine Aa rfl ?_;intro bA K Q' hK;have e11:=apG (hG 13 11);change ρ (.tmp 11)=_ at e11;simp only [execOp];go_simp;exact hK _ _ rfl (.inl ⟨by decide,Grew.refl _⟩) (Ap (by decide))
  ·refine Aa rfl ?_;intro bA K Q' hK;have e25:=apG (hG 14 25);change ρ (.tmp 25)=_ at e25;simp only [execOp];go_simp;exact hK _ _ rfl (.inl ⟨by decide,Grew.refl _⟩) (Ap (by decide))
  ·refine Aa rfl ?_;intro bA K Q' hK;have e26:=apG (hG 15 26);change ρ (.tmp 26)=_ at e26;simp only [execOp];go_simp;exact hK _ _ rfl (.inl ⟨by decide,Grew.refl _⟩) (Ap (by decide))
 ·intro vv w2 hR hJ hG _;have h6:vv 16=.slice none 0 0:=hG.1.2 (by decide);have h7:vv 17=.int .i64 6:=hG.2 (by decide);have hm2:Mv (fun b=>K b≠0) w1 w2:=⟨hR.os,hR.tape,hR.output,hR.size,hR.block⟩
  have HM2:=hid hm2;have HJ2:=hid hJ;clear hG hR hJ hm2 HC2 HTK;simp [stG,stU,Au,Act.put,h6,h7];clear h6 h7
  go_wp2_with fail
  go_ret
  obtain ⟨h,hCB,hKB,hd,htc,hkt,hap,ho⟩:=HA.out;have hm:Mv (fun b=>K b≠0) w w2:=(Mv.of_below HB1.out).trans HM2.out;exact ⟨rfl,HJ2.out,(hd.below HB1.out).keep HM2.out fun i hi=>(hap i).resolve_right hi,htc.mv hm fun e=>e hkt,hm⟩
end Go.Proofs.YtfhdojnobmfefaaGreatDoor
namespace Go.Proofs.YtfhdojnobmfefaaGreatDoor
open Go Go.RowKit Go.Inc
def Vt (C K:Nat->Nat) (B BP tp gd pa pn n:Nat) (S:St) (ep:Int) (fs:List Nm) (gs:List Int) (W:World) (v1 v2 v3:Value) (ks:List Nat) (z:Int) (w w1:World) (e:Ending) (w':World):Prop:=
 e=.returned (.int .i64 0)/\Own K W w' pa v1 v2 v3 (Fb (BR ks fs.length) gs)/\(∃ C' S',Dv C' w' gd pn (n+fs.length) S'/\Ext w C C'/\P7 S S' ((Az isF ks).take fs.length) (fs.map Nm.nd)/\S'.on=true/\S'.armed=false/\S'.r=S.r/\S'.s=S.s+(fs.length:Int)/\∀ q,q < pn->Bytes (rd S' q))/\TC w' tp gd pa (sgm ((Az isF ks).take fs.length) z:Int) ep/\Mv (fun b=>C b≠0\/K b≠0\/b=tp\/FTw B BP w1 b) w w'
set_option maxRecDepth 20000 in
set_option maxHeartbeats 8000000 in
theorem Iq {C K:Nat->Nat} {B jb tp gd pa pn n:Nat} {S:St} {r ep:Int} {fs:List Nm} {gs:List Int} {vf vg v1 v2 v3:Value} {ks:List Nat} {W w:World} (z:Int) (h:JobM B w jb tp fs gs vf vg) (hB:B<=w.heap.size) (hCB:∀ i,B<=i->C i=0) (hKB:∀ i,B<=i->K i=0) (hd:Dv C w gd pn n S) (htc:TC w tp gd pa r ep) (hct:C tp=0) (hkt:K tp=0) (hap:∀ i,C i=0\/K i=0) (ho:Own K W w pa v1 v2 v3 ks) (hW0:0 < W.heap.size) (hCW:(∀ i,C i≠0->W.heap.size<=i)/\W.heap.size<=B/\W.heap.size<=tp) (hkd:∀ z∈gs,DN ks z=2\/DN ks z=3) (hgl:gs.length<=1000) (hfl:fs.length<=100) (hfree:fs.length<=CE ks)
  (hon:S.on=true) (harm:S.armed=false) (hep:1<=ep/\ep<=4294967295) (hby:∀ q,q < pn->Bytes (rd S q)) (hkl:ks.length=pn) (hge:Io (BR ks fs.length) gs=0)
  (hset:∀ x∈fs,x.es.length<=16/\(∀ e∈x.es,-2000<=e.2/\(e.2 < 0->(-e.2 - 1).toNat < fs.length))/\AL x.lf (x.es.map (stl ((Az isF ks).take fs.length)))=0) (hz:-2000<=z/\z<=100000/\(z < 0->(-z - 1).toNat < fs.length)) (hbud:n<=900000/\0<=S.s/\S.s<=900000) :
  Calls Tryz.prog 110 #[.pointer (some ⟨jb,0,none⟩),.int .i64 z] w fun e w'=>∃ BP w1,B<=BP/\Below w.heap.size w w1/\BP=w1.heap.size/\Vt C K B BP tp gd pa pn n S ep fs gs W v1 v2 v3 ks z w w1 e w':=by
 have HGV:=hid (OO h htc ho.al ho.ks hkd hgl);obtain ⟨L,hL⟩:∃ L,L=fs.length:=⟨_,rfl⟩
 have HL:=hid hL;obtain ⟨af,cf,hvf,-,-,-⟩:=AO h.fr;rw [<- hL] at hvf hfree hfl;subst hvf;have HA:=hid (And.intro h (And.intro hCB (And.intro hKB (And.intro hd (And.intro htc (And.intro hkt (And.intro hap (And.intro ho (And.intro hct (And.intro hB (And.intro hset (And.intro hz hbud))))))))))));have HE:=hid (And.intro hW0 (And.intro hCW (And.intro hon (And.intro harm (And.intro hep (And.intro hby (And.intro hkl (And.intro hge (And.intro hgl hfl)))))))));have HFREE:=hid hfree;have hLm:(L:Int)<=100:=by omega
 clear h hCB hKB hd htc hkt hap ho hkd hgl hfl hfree hL hct hB hset hz hbud hW0 hCW hon harm hep hby hkl hge
 go_enter Tryz.func110,Tryz.ntmps110
 go_wp2_with fail
 refine HGV.out.mono ?_;clear HGV;rintro e w1 ⟨⟨gv,rfl,hgv⟩,hb1⟩;obtain ⟨h,hCB,hKB,hd,htc,hkt,hap,ho,hct,hB,hset,hz,hbud⟩:=HA.out;have HB1:=hid hb1;have HO1:=hid (ho.below hb1);have HGV:=hid hgv;have HTK:Hid (∀ y,Own K W y pa v1 v2 v3 ks->Calls Tryz.prog 144 #[.pointer (some ⟨pa,0,none⟩),.int .i64 (L:Int)] y fun e w'=>(∃ x,e=.returned (.tuple #[x,.int .i64 0])/\Vs y.heap.size w' x L (DF ks L))/\Own K W w' pa v1 v2 v3 (BR ks L)/\Mv (fun b=>K b≠0) y w'):=hid fun y hy=>(QB hy L (by omega)).mono fun e w' hh=>by
  rcases hh with ⟨h1,_⟩ | ⟨_,h2,h3,h4⟩
  ·have:=HFREE.out;unfold CE at this;omega
  ·exact ⟨h2,h3,h4⟩
 have HC2:Hid (∀ y,Mv (fun b=>K b≠0) w1.drew y->y.cell? ⟨jb,0,none⟩=some (.pointer (some ⟨tp,0,none⟩))/\y.cell? ⟨tp,1,none⟩=some (.pointer (some ⟨pa,0,none⟩))/\y.cell? ⟨jb,1,none⟩=some (.slice af L cf)):=hid fun y hy=>by
  have y1:=hy.row (w:=w1.drew) (show w1.heap[jb]?=_ from Ac h.blk hb1) (fun e=>e (hKB jb h.ge));have y2:=hy.row (w:=w1.drew) (show w1.heap[tp]?=_ from Ac htc hb1) (fun e=>e hkt);refine ⟨?_,?_,?_⟩<;>first | (rw [cell_of_row _ _ _ _ _ _ y1];rfl) | (rw [cell_of_row _ _ _ _ _ _ y2];rfl)
 clear h hCB hKB hd htc hkt hap ho hgv hb1 hct hB hset hz hbud
 go_wp2_with fail
 refine BL (fun b=>K b≠0) 12 (fun x=>Own K W x pa v1 v2 v3 ks) (fun x=>Own K W x pa v1 v2 v3 (BR ks L)) 18 [] [] [EqN (.pointer (some ⟨jb,0,none⟩)),EqN (.pointer (some ⟨jb,0,none⟩)),EqN (.pointer (some ⟨jb,0,none⟩)),EqN (.pointer (some ⟨tp,0,none⟩)),EqN (.pointer (some ⟨tp,0,none⟩)),EqN (.pointer (some ⟨tp,1,none⟩)),EqN (.pointer (some ⟨pa,0,none⟩)),EqN (.pointer (some ⟨jb,0,none⟩)),EqN (.pointer (some ⟨jb,0,none⟩)),EqN (.pointer (some ⟨jb,1,none⟩)),EqN (.slice af L cf),EqN (.int .i64 (L:Int)),(fun y v=>∃ a c,v=.tuple #[.slice a L c,.int .i64 0]/\Si (fun b=>w1.heap.size<=b) y a (DF ks L)),(fun y v=>∃ a c,v=.tuple #[.slice a L c,.int .i64 0]/\Si (fun b=>w1.heap.size<=b) y a (DF ks L)),(fun y v=>∃ a c,v=.slice a L c/\Si (fun b=>w1.heap.size<=b) y a (DF ks L)),EqN (.int .i64 0),(fun y v=>∃ a c,v=.slice a L c/\Si (fun b=>w1.heap.size<=b) y a (DF ks L)),EqN (.int .i64 0)] (by kernel_rfl) (by decide) (by kernel_rfl) (by kernel_rfl) (by kernel_rfl) (by decide) (HO1.out.below ((Below.refl _ _).drew)) (fun a b hab h=>h.below hab) (fun a b hab h=>h.below hab) ?_ ?_ ?_
 ·repeat' (first | exact List.forall_mem_nil _ | refine List.forall_mem_cons.2 ⟨?_,?_⟩)
  all_goals
   intro w w' v hw h
   first | exact h | (obtain ⟨a,c,h1,h2⟩:=h;exact ⟨a,c,h1,h2.mono (fun b hb _=>hb) |>.below hw⟩)
 ·simp only [AllLt];refine ⟨⟨⟨⟨⟨⟨⟨⟨⟨⟨⟨⟨⟨⟨⟨⟨⟨⟨trivial,?_⟩,?_⟩,?_⟩,?_⟩,?_⟩,?_⟩,?_⟩,?_⟩,?_⟩,?_⟩,?_⟩,?_⟩,?_⟩,?_⟩,?_⟩,?_⟩,?_⟩,?_⟩
  all_goals
   intro o' ho;simp at ho;subst ho;intro ρ w5 hR hJ hL hS hG;obtain ⟨hl1,hl2,-⟩:=hL
  ·refine Aa rfl ?_;intro bA K Q' hK;have e0:=hS 0 (by kernel_rfl);change ρ (.tmp 0)=_ at e0;simp only [execOp];go_simp;exact hK _ _ rfl (.inl ⟨by decide,Grew.refl _⟩) (Ap (by decide))
  ·refine Aa rfl ?_;intro bA K Q' hK;have e12:=apG (hG 0 12);change ρ (.tmp 12)=_ at e12;simp only [execOp];go_simp;exact hK _ _ rfl (.inl ⟨by decide,Grew.refl _⟩) (Ap (by decide))
  ·refine Aa rfl ?_;intro bA K Q' hK;have e13:=apG (hG 1 13);change ρ (.tmp 13)=_ at e13;simp only [execOp];go_simp;exact hK _ _ rfl (.inl ⟨by decide,Grew.refl _⟩) (Ap (by decide))
  ·refine Aa rfl ?_;intro bA K Q' hK;have e14:=apG (hG 2 14);change ρ (.tmp 14)=_ at e14;obtain ⟨y1,y2,y3⟩:=HC2.out w5 hR;simp only [execOp];go_simp;exact hK _ _ rfl (.inl ⟨by decide,Grew.refl _⟩) (Ap (by decide))
  ·refine Aa rfl ?_;intro bA K Q' hK;have e15:=apG (hG 3 15);change ρ (.tmp 15)=_ at e15;simp only [execOp];go_simp;exact hK _ _ rfl (.inl ⟨by decide,Grew.refl _⟩) (Ap (by decide))
  ·refine Aa rfl ?_;intro bA K Q' hK;have e16:=apG (hG 4 16);change ρ (.tmp 16)=_ at e16;simp only [execOp];go_simp;exact hK _ _ rfl (.inl ⟨by decide,Grew.refl _⟩) (Ap (by decide))
  ·refine Aa rfl ?_;intro bA K Q' hK;have e17:=apG (hG 5 17);change ρ (.tmp 17)=_ at e17;obtain ⟨y1,y2,y3⟩:=HC2.out w5 hR;simp only [execOp];go_simp;exact hK _ _ rfl (.inl ⟨by decide,Grew.refl _⟩) (Ap (by decide))
  ·refine Aa rfl ?_;intro bA K Q' hK;have e0:=hS 0 (by kernel_rfl);change ρ (.tmp 0)=_ at e0;simp only [execOp];go_simp;exact hK _ _ rfl (.inl ⟨by decide,Grew.refl _⟩) (Ap (by decide))
  ·refine Aa rfl ?_;intro bA K Q' hK;have e19:=apG (hG 7 19);change ρ (.tmp 19)=_ at e19;simp only [execOp];go_simp;exact hK _ _ rfl (.inl ⟨by decide,Grew.refl _⟩) (Ap (by decide))
  ·refine Aa rfl ?_;intro bA K Q' hK;have e20:=apG (hG 8 20);change ρ (.tmp 20)=_ at e20;simp only [execOp];go_simp;exact hK _ _ rfl (.inl ⟨by decide,Grew.refl _⟩) (Ap (by decide))
  ·refine Aa rfl ?_;intro bA K Q' hK;have e21:=apG (hG 9 21);change ρ (.tmp 21)=_ at e21;obtain ⟨y1,y2,y3⟩:=HC2.out w5 hR;simp only [execOp];go_simp;exact hK _ _ rfl (.inl ⟨by decide,Grew.refl _⟩) (Ap (by decide))
  ·refine Aa rfl ?_;intro bA K Q' hK;have e22:=apG (hG 10 22);change ρ (.tmp 22)=_ at e22;simp only [execOp];go_simp;exact hK _ _ rfl (.inl ⟨by decide,Grew.refl _⟩) (Ap (by decide))
  ·refine Aa rfl ?_;intro bA K Q' hK;have e18:=apG (hG 6 18);have e23:=apG (hG 11 23);change ρ (.tmp 18)=_ at e18;change ρ (.tmp 23)=_ at e23;simp only [execOp];go_simp;refine (HTK.out w5 (hJ rfl)).mono ?_;rintro r9 w9 ⟨⟨x9,rfl,a9,c9,rfl,hs9⟩,ho9,hm9⟩;refine hK _ _ ⟨a9,c9,rfl,hs9.mono fun b hb _=>Nat.le_trans hR.size hb⟩ (.inr ⟨hm9,⟨fun _=>ho9,fun h=>absurd rfl h⟩,?_⟩) (Ap (by decide))
   ·simp only [AllLt];refine ⟨⟨⟨⟨⟨⟨⟨⟨⟨⟨⟨⟨⟨⟨⟨⟨⟨⟨trivial,?_⟩,?_⟩,?_⟩,?_⟩,?_⟩,?_⟩,?_⟩,?_⟩,?_⟩,?_⟩,?_⟩,?_⟩,?_⟩,?_⟩,?_⟩,?_⟩,?_⟩,?_⟩
    iterate 12
     ·first | exact fun _ x hx=>hx | exact Am (by kernel_rfl)
    ·exact Am (by kernel_rfl)
    iterate 5
     ·first | exact fun _ x hx=>hx | exact Am (by kernel_rfl)
  ·refine Aa rfl ?_;intro bA K Q' hK;have e24:=apG (hG 12 24);obtain ⟨a9,c9,e24,hs9⟩:=e24;change ρ (.tmp 24)=_ at e24;simp only [execOp];go_simp;exact hK _ _ ⟨a9,c9,rfl,hs9⟩ (.inl ⟨by decide,Grew.refl _⟩) (Ap (by decide))
  ·refine Aa rfl ?_;intro bA K Q' hK;have e11:=apG (hG 13 11);obtain ⟨a9,c9,e11,hs9⟩:=e11;change ρ (.tmp 11)=_ at e11;simp only [execOp];go_simp;exact hK _ _ ⟨a9,c9,rfl,hs9⟩ (.inl ⟨by decide,Grew.refl _⟩) (Ap (by decide))
  ·refine Aa rfl ?_;intro bA K Q' hK;have e11:=apG (hG 13 11);obtain ⟨a9,c9,e11,hs9⟩:=e11;change ρ (.tmp 11)=_ at e11;simp only [execOp];go_simp;exact hK _ _ rfl (.inl ⟨by decide,Grew.refl _⟩) (Ap (by decide))
  ·refine Aa rfl ?_;intro bA K Q' hK;have e25:=apG (hG 14 25);obtain ⟨a9,c9,e25,hs9⟩:=e25;change ρ (.tmp 25)=_ at e25;simp only [execOp];go_simp;exact hK _ _ ⟨a9,c9,rfl,hs9⟩ (.inl ⟨by decide,Grew.refl _⟩) (Ap (by decide))
  ·refine Aa rfl ?_;intro bA K Q' hK;have e26:=apG (hG 15 26);change ρ (.tmp 26)=_ at e26;simp only [execOp];go_simp;exact hK _ _ rfl (.inl ⟨by decide,Grew.refl _⟩) (Ap (by decide))
 ·intro vv w2 hR hJ hG _;have h6:∃ a c,vv 16=.slice a L c/\Si (fun b=>w1.heap.size<=b) w2 a (DF ks L):=hG.1.2 (by decide);have h7:vv 17=.int .i64 0:=hG.2 (by decide);obtain ⟨a9,c9,e9,hs9⟩:=h6;have hm2:Mv (fun b=>K b≠0) w1 w2:=⟨hR.os,hR.tape,hR.output,hR.size,hR.block⟩
  have HM2:=hid hm2;have HJ2:=hid hJ;obtain ⟨h,hCB,hKB,hd,htc,hkt,hap,ho,hct,hB,hset,hz,hbud⟩:=HA.out;obtain ⟨hW0,hCW,hon,harm,hep,hby,hkl,hge,hgl,hfl⟩:=HE.out;obtain ⟨ps,hps⟩:∃ ps,ps=(Az isF ks).take L:=⟨_,rfl⟩
  have hpl:ps.length=L:=by rw [hps,List.length_take];have:=HFREE.out;unfold CE at this;omega
  have hpz:DF ks L=ps.map fun p:Nat=>(p:Int):=by rw [hps];exact Jy _ _
  have hks2:=ho.ks.n2048;have hk0:=ho.ks.k0;have hk1:=ho.ks.k1;have hpm:∀ p∈ps,2<=p/\p < pn/\p < 2048:=fun p hp=>by
   rw [hps] at hp;have g1:=pagesK_mem.1 (List.mem_of_mem_take hp);have g2:=isF_iff.1 g1.2;refine ⟨?_,by rw [<- hkl];exact g1.1,by omega⟩;apply Classical.byContradiction;intro h3;rcases (by omega:p=0\/p=1) with rfl | rfl
   ·omega
   ·omega
  have hpn:ps.Nodup:=by
   rw [hps];refine List.Pairwise.sublist (List.take_sublist _ _) ?_;unfold Az Bc;exact List.Pairwise.filter _ List.nodup_range
  have hj2:JobM B w2 jb tp fs gs (.slice af L cf) vg:=(h.below HB1.out).cfar hKB hm2;have hwin:gX C B w1.heap.size jb tp gd pa pn n S r ep ps fs gs (.slice af L cf) vg (.slice a9 L c9) w2:=⟨hj2,hCB,Nat.le_trans hB (Nat.le_trans HB1.out.size hm2.size),(hd.below HB1.out).keep hm2 fun i hi=>(hap i).resolve_right hi,(htc.mv (F:=fun _=>False) (Mv.of_below HB1.out) id).mv hm2 fun e=>e hkt,hct,hon,hby,hpn,harm,hep,⟨a9,c9,by rw [hpl],by rw [<- hpz];exact hs9⟩,Nat.le_trans hB HB1.out.size,fun x hx b o hb=>(((h.nds x hx).2.below HB1.out).blk (h.nds x hx).1 b o hb).2,by rw [hpl,HL.out],by rw [<- HL.out];exact hfl,hpm,fun x hx=>by rw [hpl,HL.out,hps,HL.out];exact hset x hx,hbud⟩
  have HWR:=hid (Vx hwin);have HPS:=hid hps;have HPZ:=hid hpz;have HPL:=hid hpl;have HS9:=hid hs9;have HWIN:=hid hwin;clear hG hR hJ hm2 HC2 HTK h hCB hKB hd htc hkt hap ho hct hB hset hz hbud hW0 hCW hon harm hep hby hkl hge hgl hfl hps hpl hpz hks2 hk0 hk1 hpm hpn hj2 hwin hs9;simp [stG,stU,Au,Act.put,e9,h7];clear e9 h7
  go_wp2_with fail
  refine HWR.out.mono ?_;clear HWR;rintro e w3 ⟨rfl,hw3,hm3⟩;have HW3:=hid hw3;have HM3:=hid hm3;clear hw3 hm3;have HC9:Hid (w3.cell? ⟨jb,0,none⟩=some (.pointer (some ⟨tp,0,none⟩))/\TC w3 tp gd pa r ep):=hid (by
   have hT:∀ b cs T,w2.heap[b]?=some (.cells cs T (0,0))->T≠65->C b=0->¬ (C b≠0\/FTw B w1.heap.size w2 b):=fun b cs T hb h1 h2 e=>by
    rcases e with e | ⟨-,-,ds,e⟩
    ·exact e h2
    ·have:=hb.symm.trans e;simp only [Option.some.injEq,Obj.cells.injEq] at this;exact h1 this.2.1
   have y1:=HM3.out.row HWIN.out.job.blk (hT _ _ _ HWIN.out.job.blk (by decide) (HWIN.out.new jb HWIN.out.job.ge));exact ⟨by rw [cell_of_row _ _ _ _ _ _ y1];rfl,HWIN.out.tc.mv HM3.out (hT _ _ _ HWIN.out.tc (by decide) HWIN.out.ctp)⟩)
  have HBK:Hid (∀ i,B<=i->K i=0):=hid HA.out.2.2.1;have HO3:Hid (Own K W w3 pa v1 v2 v3 (BR ks L)):=hid (HJ2.out.mv HM3.out (fun i hi=>by
   obtain ⟨h,hCB,hKB,hd,htc,hkt,hap,ho,hct,hB,hset,hz,hbud⟩:=HA.out;obtain ⟨hW0,hCW,hon,harm,hep,hby,hkl,hge,hgl,hfl⟩:=HE.out;rcases hi with hi | hi
   ·exact ⟨(hap i).resolve_left hi,hCW.1 i hi⟩
   ·exact ⟨hKB i hi.1,Nat.le_trans hCW.2.1 hi.1⟩) HE.out.1)
  have HGB:Hid (∀ b,gv.ownBlock=some b->B<=b):=hid fun b hb=>Nat.le_trans HA.out.2.2.2.2.2.2.2.2.2.1 (AB HGV.out b hb);have hgv2:w2.ownsRow w.heap.size 3 1 gv gs.length (zv gs):=Ag HGV.out HM2.out fun b hb e=>e (HBK.out b (HGB.out b hb));have hgv3:w3.ownsRow w.heap.size 3 1 gv gs.length (zv gs):=Ag hgv2 HM3.out fun b hb e=>by
   rcases e with e | ⟨-,-,ds,e⟩
   ·exact e (HWIN.out.new b (HGB.out b hb))
   ·exact AU hgv2 e (by decide) hb
  obtain ⟨ag,cg,hgvs,-,hsg⟩:=IC hgv3;have hgive:=Yo HO3.out _ ag cg gs hsg (fun i hi=>HBK.out i (HGB.out i hi)) (by have:=HE.out.2.2.2.2.2.2.2.2.1;omega);rw [<- HL.out] at HE;rw [HE.out.2.2.2.2.2.2.2.1] at hgive;have HGIVE:=hid hgive;rw [hgvs];obtain ⟨Lg,hLg⟩:∃ Lg,Lg=gs.length:=⟨_,rfl⟩
  rw [<- hLg] at HGIVE ⊢;obtain ⟨hc1,htc3⟩:=HC9.out;have hc2:w3.cell? ⟨tp,1,none⟩=some (.pointer (some ⟨pa,0,none⟩)):=coR htc3;clear hgv2 hgv3 hgvs hsg hgive htc3 HGV HGB hLg
  go_wp2_with fail
  refine HGIVE.out.mono ?_;clear HGIVE;rintro e w4 ⟨rfl,ho4,hm4⟩;have HO4:=hid ho4;have HM4:=hid hm4;clear ho4 hm4 hc1 hc2;have HT4:Hid (w4.cell? ⟨jb,0,none⟩=some (.pointer (some ⟨tp,0,none⟩))/\TC w4 tp gd pa r ep):=hid (by
   have h1:w4.cell? ⟨jb,0,none⟩=w3.cell? ⟨jb,0,none⟩:=World.cell?_of_block (HM4.out.block jb (AA HC9.out.1) fun e=>e (HBK.out jb HWIN.out.job.ge));exact ⟨h1.trans HC9.out.1,HC9.out.2.mv HM4.out fun e=>e HA.out.2.2.2.2.2.1⟩)
  have HC10:Hid (∀ y,Grew w4.drew y->y.cell? ⟨jb,0,none⟩=some (.pointer (some ⟨tp,0,none⟩))):=hid fun y hy=>by
   have hy2:Below w4.heap.size w4 y:=⟨hy.os,hy.tape,hy.output,hy.size,hy.block⟩
   exact (hy2.cell (AA HT4.out.1)).trans HT4.out.1
  have HST:Hid (∀ y,Grew w4.drew y->Calls Tryz.prog 146 #[.int .i64 z,.slice a9 L c9] y fun e w'=>e=.returned (.int .i64 (sgm ps z:Int))/\y=w'):=hid fun y hy=>by
   have hy2:Below w4.heap.size w4 y:=⟨hy.os,hy.tape,hy.output,hy.size,hy.block⟩
   have hB:=HA.out.2.2.2.2.2.2.2.2.2.1;have hz:=HA.out.2.2.2.2.2.2.2.2.2.2.2.1;have hlo:∀ i,w1.heap.size<=i->B<=i:=fun i hi=>Nat.le_trans hB (Nat.le_trans HB1.out.size hi);have s3:Si (fun b=>w1.heap.size<=b) w3 a9 (DF ks L):=aG HS9.out HM3.out fun i hi e=>by
    rcases e with e | e
    ·exact e (HWIN.out.new i (hlo i hi))
    ·have:=e.2.1;omega
   have s4:Si (fun b=>w1.heap.size<=b) w4 a9 (DF ks L):=aG s3 HM4.out fun i hi e=>e (HBK.out i (hlo i hi));have s5:Si (fun b=>w1.heap.size<=b) y a9 (DF ks L):=aG (F:=fun _=>False) s4 (Mv.of_below hy2) fun _ _=>id;rw [HPZ.out] at s5;have h1:=KQ _ _ c9 _ z y s5 (fun h=>by rw [List.length_map,HPL.out,HL.out];exact hz.2.2 h) (by rw [List.length_map,HPL.out];omega) hz.1;rw [UE,List.length_map,HPL.out] at h1;exact h1
  go_wp2_with fail
  refine Ai 9 [EqN (.pointer (some ⟨jb,0,none⟩)),EqN (.pointer (some ⟨jb,0,none⟩)),EqN (.pointer (some ⟨jb,0,none⟩)),EqN (.pointer (some ⟨tp,0,none⟩)),EqN (.int .i64 z),EqN (.slice a9 L c9),EqN (.int .i64 (sgm ps z:Int)),EqN (.pointer (some ⟨tp,0,none⟩)),EqN (.pointer (some ⟨tp,2,none⟩))] (by kernel_rfl) (by decide) (by kernel_rfl) ?_ ?_ ?_
  ·repeat' (first | exact List.forall_mem_nil _ | refine List.forall_mem_cons.2 ⟨?_,?_⟩)
   all_goals
    intro w w' v hw h
    first | exact h | exact h
  ·simp only [AllLt];refine ⟨⟨⟨⟨⟨⟨⟨⟨⟨trivial,?_⟩,?_⟩,?_⟩,?_⟩,?_⟩,?_⟩,?_⟩,?_⟩,?_⟩
   all_goals
    intro o' ho;simp at ho;subst ho;intro ρ w5 hR hL hS hG;obtain ⟨hl1,hl2,-⟩:=hL
   ·refine Aa rfl ?_;intro bA K Q' hK;have e0:=hS 0 (by kernel_rfl);change ρ (.tmp 0)=_ at e0;simp only [execOp];go_simp;exact hK _ _ rfl (Grew.refl _)
   ·refine Aa rfl ?_;intro bA K Q' hK;have e54:=apG (hG 0 54);change ρ (.tmp 54)=_ at e54;simp only [execOp];go_simp;exact hK _ _ rfl (Grew.refl _)
   ·refine Aa rfl ?_;intro bA K Q' hK;have e55:=apG (hG 1 55);change ρ (.tmp 55)=_ at e55;simp only [execOp];go_simp;exact hK _ _ rfl (Grew.refl _)
   ·refine Aa rfl ?_;intro bA K Q' hK;have e56:=apG (hG 2 56);change ρ (.tmp 56)=_ at e56;have y1:=HC10.out w5 hR;simp only [execOp];go_simp;exact hK _ _ rfl (Grew.refl _)
   ·refine Aa rfl ?_;intro bA K Q' hK;have e1:=hS 1 (by kernel_rfl);change ρ (.tmp 1)=_ at e1;simp only [execOp];go_simp;exact hK _ _ rfl (Grew.refl _)
   ·refine Aa rfl ?_;intro bA K Q' hK;have e6:=hS 6 (by kernel_rfl);change ρ (.tmp 6)=_ at e6;simp only [execOp];go_simp;exact hK _ _ rfl (Grew.refl _)
   ·refine Aa rfl ?_;intro bA K Q' hK;have e58:=apG (hG 4 58);have e59:=apG (hG 5 59);change ρ (.tmp 58)=_ at e58;change ρ (.tmp 59)=_ at e59;simp only [execOp];go_simp;refine (HST.out w5 hR).mono ?_;rintro r9 w9 ⟨rfl,rfl⟩;exact hK _ _ rfl (Grew.refl _)
   ·refine Aa rfl ?_;intro bA K Q' hK;have e57:=apG (hG 3 57);change ρ (.tmp 57)=_ at e57;simp only [execOp];go_simp;exact hK _ _ rfl (Grew.refl _)
   ·refine Aa rfl ?_;intro bA K Q' hK;have e61:=apG (hG 7 61);change ρ (.tmp 61)=_ at e61;simp only [execOp];go_simp;exact hK _ _ rfl (Grew.refl _)
  ·intro vv2 w5 hR hG;have h6:vv2 6=.int .i64 (sgm ps z:Int):=hG.1.1.2;have h8:vv2 8=.pointer (some ⟨tp,2,none⟩):=hG.2;have hb5:Below w4.heap.size w4 w5:=⟨hR.os,hR.tape,hR.output,hR.size,hR.block⟩
   have HB5:=hid hb5;have htc5:TC w5 tp gd pa r ep:=HT4.out.2.mv (F:=fun _=>False) (Mv.of_below hb5) id;have HTC5:=hid htc5;have hc5:w5.cell? ⟨tp,2,none⟩=some (.int .i64 r):=coR htc5;have hf5:=frozen_of_row w5 tp 2 _ _ htc5;clear hG hR hb5 HC10 HST htc5;simp [stG,stU,Au,Act.put,h6,h8];clear h6 h8
   go_wp2_with fail
   go_ret
   obtain ⟨w6,hw6⟩:∃ y,y=w5.setCell ⟨tp,2,none⟩ (.int .i64 (sgm ps z:Int)):=⟨_,rfl⟩
   rw [<- hw6];have hm6:Mv (fun b=>b=tp) w5 w6:=by
    rw [hw6];exact Mv.of_grown (Aq (Aw w5 (some tp)) (p:=⟨tp,2,none⟩) (.inl rfl) _) fun j hj _=>by cases hj;rfl
   have htc6:TC w6 tp gd pa (sgm ps z:Int) ep:=by rw [hw6];exact EI HTC5.out 2 _ (by simp)
   obtain ⟨h,hCB,hKB,hd,htc,hkt,hap,ho,hct,hB,hset,hz,hbud⟩:=HA.out;obtain ⟨hW0,hCW,-⟩:=HE.out;obtain ⟨C',S',w31,w32,w33,w34⟩:=HW3.out;have hold:∀ i,i < w2.heap.size->C' i=C i:=w32;have hs2:w.heap.size<=w2.heap.size:=Nat.le_trans HB1.out.size HM2.out.size;have htl:tp < w2.heap.size:=Nat.lt_of_lt_of_le (Aj htc) hs2;have hd6:Dv C' w6 gd pn (n+fs.length) S':=((w31.keep HM4.out fun i hi=>by
    have h1:i < w2.heap.size:=HJ2.out.al.old i hi;rw [hold i h1];exact (hap i).resolve_right hi).below HB5.out).keep hm6 fun i hi=>by rw [hi,hold tp htl];exact hct
   refine ⟨w1.heap.size,w1,Nat.le_trans hB HB1.out.size,HB1.out,rfl,rfl,?_,⟨C',S',hd6,fun b hb=>hold b (Nat.lt_of_lt_of_le hb hs2),?_,w34⟩,?_,?_⟩
   ·rw [<- HL.out];exact (HO4.out.below HB5.out).mv hm6 (fun i hi=>by rw [hi];exact ⟨hkt,hCW.2.2⟩) hW0
   ·rw [<- HL.out,<- HPS.out];exact w33
   ·rw [<- HL.out,<- HPS.out];exact htc6
   ·have q1:Mv (fun b=>C b≠0\/K b≠0\/b=tp\/FTw B w1.heap.size w1 b) w w2:=((Mv.refl _ w).trans (Mv.of_below HB1.out)).trans' HM2.out fun _ _ e=>.inr (.inl e);have q2:=q1.trans' HM3.out fun i hi e=>by
     rcases e with e | ⟨e1,e2,cs,e3⟩
     ·exact .inl e
     ·exact .inr (.inr (.inr ⟨e1,e2,cs,(HM2.out.block i e2 fun e=>e (hKB i e1)).symm.trans e3⟩))
    exact ((q2.trans' HM4.out fun _ _ e=>.inr (.inl e)).trans (Mv.of_below HB5.out)).trans' hm6 fun _ _ e=>.inr (.inr (.inl e))
end Go.Proofs.YtfhdojnobmfefaaGreatDoor
namespace Go.Inc
open Go Go.RowKit
theorem OB:∀ (n:Nat) (l:List Nat),l.Nodup->(∀ x∈l,x < n)->l.length<=n
 | 0,l,_,h=>by
  cases l with
  | nil=>exact Nat.le_refl _
  | cons a r=>exact absurd (h a (List.mem_cons_self ..)) (Nat.not_lt_zero _)
 | n+1,l,hn,h=>by
  have h1:=OB n (l.erase n) (hn.erase n) fun x hx=>by
   have h2:=(hn.mem_erase_iff).1 hx;have h3:=h x h2.2;have h4:=h2.1;omega
  have h2:l.length - 1<=(l.erase n).length:=by
   by_cases hm:n∈l
   ·rw [List.length_erase_of_mem hm];exact Nat.le_refl _
   ·rw [List.erase_of_not_mem hm];omega
  omega
theorem KN:∀ {l:List Nd} {m:Nat},(∀ n∈l,n.2≠[]/\∀ e∈n.2,ET e)->m+l.length<=100000->∀ e∈CW m l,ET e
 | [],_,_,_,e,he=>by cases he
 | n::r,m,h,hm,e,he=>by
  obtain ⟨h1,h2⟩:=h n (List.mem_cons_self ..);rw [List.length_cons] at hm;rcases List.mem_cons.1 he with rfl | he
  ·have h3:=h2 _ (CX (zs:=n.2) (d:=et0) (k:=0) (List.length_pos_iff.2 h1));exact ⟨h3.1,by show -9223372036854775808<=-(m:Int) - 1;omega,by show -(m:Int) - 1<=9223372036854775807;omega⟩
  ·exact KN (l:=r) (m:=m+1) (fun x hx=>h x (List.mem_cons_of_mem _ hx)) (by omega) e he
theorem Gw {lv:List Nd} {s:Stp} {r:List Stp} (h:s.lf=true):chg lv (s::r)=⟨(chg lv r).fr,(chg lv r).l,(chg lv r).g++[s.page]⟩:=if_pos h
theorem KL {lv:List Nd} {s:Stp} {r:List Stp} (h:s.lf=false):chg lv (s::r)=⟨(chg lv r).fr++abv (Cf (Ig s (chg lv r).l)),CW (chg lv r).fr.length (abv (Cf (Ig s (chg lv r).l))),(chg lv r).g++[s.page]⟩:=if_neg (by rw [h];decide)
theorem Zu {lv:List Nd} {s:Stp} {r:List Stp}:(chg lv r).fr.length<=(chg lv (s::r)).fr.length:=by
 by_cases h:s.lf=true
 ·rw [Gw h];exact Nat.le_refl _
 ·rw [KL (by simpa using h)];show _<=List.length (_++_);rw [List.length_append];omega
theorem YA {s:Stp} {l:List Et} {e:Et} (h:e∈Ig s l):e∈s.es\/e∈l:=by
 unfold Ig at h;rcases List.mem_append.1 h with h | h
 ·rcases List.mem_append.1 h with h | h
  ·exact .inl (List.mem_of_mem_take h)
  ·exact .inr h
 ·exact .inl (List.mem_of_mem_drop h)
theorem NI {lv:List Nd} (hlv:∀ n∈lv,n.2≠[]/\∀ e∈n.2,ET e):∀ st:List Stp,(∀ s∈st,∀ e∈s.es,ET e)->(chg lv st).fr.length<=1000->∀ e∈(chg lv st).l,ET e
 | [],_,hl,e,he=>KN hlv (by have:lv.length<=1000:=hl;omega) e he
 | s::r,hs,hl,e,he=>by
  have ih:=NI hlv r (fun x hx=>hs x (List.mem_cons_of_mem _ hx)) (Nat.le_trans Zu hl);by_cases h:s.lf=true
  ·rw [Gw h] at he;exact ih e he
  ·rw [KL (by simpa using h)] at he hl;have hl':((chg lv r).fr++abv (Cf (Ig s (chg lv r).l))).length<=1000:=hl;rw [List.length_append] at hl';refine KN (l:=abv (Cf (Ig s (chg lv r).l))) (m:=(chg lv r).fr.length) (fun n hn=>?_) (by omega) e he;obtain ⟨x,hx,rfl⟩:=List.mem_map.1 hn;refine ⟨PU x hx,fun y hy=>?_⟩;rcases YA (Rk x hx y hy) with h1 | h1
   ·exact hs s (List.mem_cons_self ..) y h1
   ·exact ih y h1
theorem JbOk.len {f:Nat->Option Nd} {D m:Nat} {rs:List (Sh D)} {ns:List Int} {j:Jb} (h:JbOk f D rs ns j m):j.l.length=rs.length:=by
 obtain ⟨lq,h1,h2,-⟩:=h.is;rw [h2,BV h1.len]
theorem Vo {lv:List Nd} (hl:lv.length<=2):∀ st:List Stp,(chg lv st).l.length<=2
 | []=>by show (CW 0 lv).length<=2;rw [Gz];exact hl
 | s::r=>by
  by_cases h:s.lf=true
  ·rw [Gw h];exact Vo hl r
  ·rw [KL (by simpa using h)];show List.length (CW _ _)<=2;rw [Gz];unfold abv;rw [List.length_map];exact Nz _
theorem Vp {lv:List Nd} (hl:lv.length<=2):∀ st:List Stp,(chg lv st).fr.length<=2+2 * st.length
 | []=>by show lv.length<=_;omega
 | s::r=>by
  have ih:=Vp hl r;by_cases h:s.lf=true
  ·rw [Gw h,List.length_cons];show (chg lv r).fr.length<=_;omega
  ·rw [KL (by simpa using h),List.length_cons];show List.length (_++_)<=_;rw [List.length_append];unfold abv;rw [List.length_map];have:=Nz (Ig s (chg lv r).l);omega
theorem Uk {lv:List Nd}:∀ st:List Stp,(chg lv st).g.length=st.length
 | []=>rfl
 | s::r=>by
  have ih:=Uk (lv:=lv) r;by_cases h:s.lf=true
  ·rw [Gw h,List.length_cons];show List.length (_++_)=_;rw [List.length_append,ih];rfl
  ·rw [KL (by simpa using h),List.length_cons];show List.length (_++_)=_;rw [List.length_append,ih];rfl
theorem Zg {v:Int->Option Nd} {k:Int} {D:Nat} {p:Int} {s:Sh D} {zs:List Int} {st:List Stp} (h:Dn v k D p s zs st) (hok:okS D s):∀ x∈st,x.es.length<=16/\(x.lf=false->0<=x.ix/\x.ix.toNat < x.es.length):=by
 intro x hx;obtain ⟨i,hi,he⟩:=List.getElem_of_mem hx;obtain ⟨D1,p1,s1,zs1,g1,g2,g3⟩:=Vk D p s zs st i h hok hi;rw [List.drop_eq_getElem_cons hi,he] at g1;obtain ⟨f1,-,-,-,f5⟩:=Zh g1 g2;exact ⟨f1,fun hh=>(f5 hh).2⟩
theorem aK {α:Type} (l:List α):((List.finRange l.length).map fun x:Fin l.length=>l[l.length - 1 - x.1]'(by omega)).reverse=l:=by
 apply List.ext_getElem
 ·simp
 ·intro i h1 h2;rw [List.getElem_reverse];simp only [List.getElem_map,List.getElem_finRange,List.length_map,List.length_finRange,Fin.val_cast]
  congr 1
  omega
end Go.Inc
namespace Go.Proofs.YtfhdojnobmfefaaGreatDoor
open Go Go.RowKit Go.Inc
theorem Ve {C K:Nat->Nat} {W w:World} {tp gd pa pn n:Nat} {S:St} {root:Nat} {ep:Int} {t t':TrG} {ns:List Nat} {b:Nat} {v1 v2 v3:Value} {ks:List Nat} (h:CwF C K W w tp gd pa pn n S root ep t ns b v1 v2 v3 ks) {w2 w1 w':World} {B BP:Nat} {z:Int} {zs:List Int} {fs:List Nm} {gs:List Int} {r' r:Int} {e:Ending}
  (hmem:∀ x:Int,x∈zs↔(x < 0/\-((fs.map Nm.nd).length:Int)<=x)\/(0<=x/\x.toNat∈ns/\x∉gs)) (hgm0:∀ x∈gs,0<=x/\x.toNat∈ns) (hgn:gs.Nodup) (hzn:zs.Nodup)
  (hist:∀ S',(∀ x∈zs,∀ n:Nd,vw (CJ S) (fs.map Nm.nd) x=some n->CJ S' (sgm ((Az isF ks).take (fs.map Nm.nd).length) x)=some (n.1,n.2.map (stl ((Az isF ks).take (fs.map Nm.nd).length))))->IsT (CJ S') t' (sgm ((Az isF ks).take (fs.map Nm.nd).length) z) (zs.map (sgm ((Az isF ks).take (fs.map Nm.nd).length))))
  (hg:t'.good) (hD:t'.deep<=8) (hr:0<=r'/\r'<=b+30) (hfl:fs.length<=30) (hfree:fs.length<=CE ks) (ho:Own K W w2 pa v1 v2 v3 ks) (htc:TC w2 tp gd pa r ep) (hfin:Vt C K B BP tp gd pa pn n {S with r:=r'} ep fs gs W v1 v2 v3 ks z w2 w1 e w') :
  e=.returned (.int .i64 0)/\∃ C' n' S' root' ns' ks',CwF C' K W w' tp gd pa pn n' S' root' ep t' ns' (b+30) v1 v2 v3 ks'/\Ext w2 C C'/\KsTo ks ns' ks'/\RS S S' ks ks':=by
 obtain ⟨he,hal,⟨C',S',hd,hx,hw,hon,harm,hSr,hSs,hby⟩,htc',hm⟩:=hfin;have hw':P7 S S' ((Az isF ks).take (fs.map Nm.nd).length) (fs.map Nm.nd):=by rw [List.length_map];exact hw
 have hF:=WL h.al.ks h.used hmem hgm0 hgn hzn rfl (by rw [List.length_map];exact hfree) hw';have hi:=hist S' hF.2.1;rw [List.length_map] at hF hi;obtain ⟨f1,-,f3,f4,f5,f6,f7⟩:=hF;have hks:=h.al.ks.n2048;have hbud:=h.r.bud;have htl:=Aj htc;refine ⟨he,C',n+fs.length,S',_,_,_,⟨⟨hd,?_,htc',h.r.ep1,hon,harm,hby,hg,hD,?_,hi,?_,?_⟩,hal,?_,h.ktp,f5.1.trans h.kl,f4,f3,?_,h.lowT⟩,hx,f5,f6⟩
 ·rw [hx tp htl];exact h.r.ctp
 ·have h1:=IsT.len hi;have h2:=OB ks.length _ f3 fun q hq=>(f7 q hq).2;omega
 ·intro q hq;have:=f7 q hq;have:=h.kl;omega
 ·have hfr:S'.r=r':=hSr;have hfs:S'.s=S.s+(fs.length:Int):=hSs;obtain ⟨q1,q2,q3,q4,q5⟩:=hbud;refine ⟨by omega,by omega,by omega,by omega,by omega⟩
 ·intro i;by_cases hi:i < w2.heap.size
  ·rw [hx i hi];exact h.apart i
  ·exact .inr (ho.far (by omega))
 ·intro i hi;by_cases hl:i < w2.heap.size
  ·rw [hx i hl] at hi;exact h.lowC i hi
  ·have:=ho.bel.size;omega
theorem Y1 {C K:Nat->Nat} {W w:World} {tp gd pa pn n:Nat} {S:St} {root:Nat} {ep:Int} {t:TrG} {ns:List Nat} {b:Nat} {v1 v2 v3:Value} {ks:List Nat} (h:CwF C K W w tp gd pa pn n S root ep t ns b v1 v2 v3 ks) {w2 w1 w':World} {B BP:Nat} {D:Nat} {z:Int} {s:Sh D} {zs:List Int} {fs:List Nm} {gs:List Int} {r' r:Int} {e:Ending}
  (ht:TpI (CJ S) (ns.map fun n:Nat=>(n:Int)) D z s zs (fs.map Nm.nd) gs) (hg:(TrG.mk D s).good) (hD:D<=7) (hr:0<=r'/\r'<=b+30) (hfl:fs.length<=30) (hfree:fs.length<=CE ks) (ho:Own K W w2 pa v1 v2 v3 ks) (htc:TC w2 tp gd pa r ep) (hfin:Vt C K B BP tp gd pa pn n {S with r:=r'} ep fs gs W v1 v2 v3 ks z w2 w1 e w') :
  e=.returned (.int .i64 0)/\∃ C' n' S' root' ns' ks',CwF C' K W w' tp gd pa pn n' S' root' ep (.mk D s) ns' (b+30) v1 v2 v3 ks'/\Ext w2 C C'/\KsTo ks ns' ks'/\RS S S' ks ks':=
 Ve h (fun _=>ht.mem h.nodup) (fun _ hx=>ht.gmem hx) (ht.gnd h.nodup).1 (ht.gnd h.nodup).2 (fun _ hv=>IsZ.to_N ht.is hv fun x hx=>by have:=(okE_iff.1 (hg.2.2 x hx)).2.1;omega) hg (by show D+1<=8;omega) hr hfl hfree ho htc hfin
theorem cZ {C K:Nat->Nat} {W w:World} {tp gd pa pn n:Nat} {S:St} {root:Nat} {ep:Int} {t:TrG} {ns:List Nat} {b:Nat} {v1 v2 v3:Value} {ks:List Nat} (h:CwF C K W w tp gd pa pn n S root ep t ns b v1 v2 v3 ks) {w2 w1 w':World} {B BP:Nat} {gs:List Int} {r' r:Int} {e:Ending}
  (hgs:∀ x,cn x gs=cn x (ns.map fun n:Nat=>(n:Int))) (hr:0<=r'/\r'<=b+30) (ho:Own K W w2 pa v1 v2 v3 ks) (htc:TC w2 tp gd pa r ep) (hfin:Vt C K B BP tp gd pa pn n {S with r:=r'} ep [] gs W v1 v2 v3 ks 0 w2 w1 e w') :
  e=.returned (.int .i64 0)/\∃ C' n' S' root' ns' ks',CwF C' K W w' tp gd pa pn n' S' root' ep .nil ns' (b+30) v1 v2 v3 ks'/\Ext w2 C C'/\KsTo ks ns' ks'/\RS S S' ks ks':=
 Ve (zs:=[]) (t':=.nil) h (fun x=>⟨fun h=>(by cases h),fun hh=>by
   rcases hh with ⟨h1,h2⟩ | ⟨h1,h2,h3⟩
   ·have h2':-((0:Nat):Int)<=x:=h2;omega
   ·have h4:cn x gs=0:=Dc h3;have h5:=cn_mem.1 (mem_ints.2 ⟨h1,h2⟩);have:=hgs x;omega⟩)
  (fun x hx=>mem_ints.1 (cn_mem.2 (by have:=hgs x;have:=cn_mem.1 hx;omega)))
  (cn_nodup.1 fun z=>by rw [hgs z];exact cn_nodup.2 (II h.nodup) z) List.nodup_nil (fun _ _=>⟨rfl,rfl⟩) ⟨trivial,List.Pairwise.nil,fun x hx=>by cases hx⟩ (Nat.zero_le _) hr (Nat.zero_le _) (Nat.zero_le _) ho htc hfin
end Go.Proofs.YtfhdojnobmfefaaGreatDoor
namespace Go.Proofs.YtfhdojnobmfefaaGreatDoor
open Go Go.RowKit Go.Inc Go.Shelf
attribute [local go_sem] Oper.semAt_some
structure BwU (okU:Nat->Prop) (w:World) (bs g c:Nat) (a:Option Addr) (ms:List Sm4):Prop where
 cs:w.cell? ⟨bs,0,none⟩=some (.slice a ms.length c)
 ca:0 < ms.length->a=some ⟨g,0,none⟩/\okU g
 cells:∀ (i r:Nat) (x:Sm4) (u:Value),ms[i]?=some x->(EG x)[r]?=some u->w.cell? ⟨g,i * 4+r,none⟩=some u
 ks:okU bs
theorem BwU.mv {okU:Nat->Prop} {w w':World} {bs g c:Nat} {a:Option Addr} {ms:List Sm4} (h:BwU okU w bs g c a ms) (hm:Mv (fun b=>¬ okU b) w w'):BwU okU w' bs g c a ms:=
 ⟨hm.cell h.cs fun hh=>hh h.ks,h.ca,fun i r x u hx hu=>hm.cell (h.cells i r x u hx hu) fun hh=>hh (h.ca (by
  have:=(List.getElem?_eq_some_iff.1 hx).1;omega)).2,h.ks⟩
def bwE (ms:List Sm4) (x:Fin ms.length):Array Value:=#[.int .i64 ((ms.length - 1 - x.1:Nat):Int),.agg (EG (ms[ms.length - 1 - x.1]'(by omega))).toArray]
set_option maxRecDepth 100000 in
set_option maxHeartbeats 2000000 in
theorem ZC (n:Nat) (hn:1<=n) (l bs g c:Nat) (a:Option Addr) (okU:Nat->Prop) (ms:List Sm4) (hml:ms.length<=1000) (J Jx:List (Fin ms.length)->World->Prop)
  (hY:∀ (pre:List (Fin ms.length)) (x:Fin ms.length) (W:World),J pre W->pre.length < ms.length->YieldAt Fence.wide (n - 1) Tryz.prog l (bwE ms x) W fun e W'=>
   (e=.returned (.bool true)/\J (pre++[x]) W'/\Mv (fun b=>¬ okU b) W W')\/(e=.returned (.bool false)/\Jx (pre++[x]) W'))
  (W:World) (hU:BwU okU W bs g c a ms) (h0:J [] W) :
  CallsIn Fence.wide n Tryz.prog 140 #[.func (.yield l) #[] #[],.pointer (some ⟨bs,0,none⟩)] W fun e W'=>(∃ v,e=.returned v)/\
   ((∃ ys,ys=List.finRange ms.length/\J ys W')\/(∃ pre,pre <+: List.finRange ms.length/\Jx pre W')):=by
 have HU:=hid hU;have hcs0:=hU.cs;obtain ⟨m,hm⟩:∃ m,m=ms.length:=⟨_,rfl⟩
 have HM:=hid hm;rw [<- hm] at hcs0;have hmi:(m:Int)<=1000:=by omega
 have hro:Fence.wide.round=none:=rfl;clear hU hm;refine callsIn_of_wp Tryz.func140 rfl trivial ?_ hro;simp only [Tryz.ntmps140,List.size_toArray,List.length_cons,List.length_nil,Nat.reduceAdd,Nat.reduceSub,Array.replicate_succ,Array.replicate_zero,List.push_toArray,List.append_toArray,List.nil_append,List.cons_append]
 gi_wp2
 gi_loopw [3] (fun i wr=>∃ k:Nat,k<=m/\i=.int .i64 ((m:Int) - 1 - (k:Int))/\J ((List.finRange ms.length).take k) wr/\BwU okU wr bs g c a ms) (fun i _=>(intOf i+1).toNat)
 case atStart=>exact ⟨0,Nat.zero_le _,by simp,h0,HU.out⟩
 case round=>
  obtain ⟨k,hk,rfl,hJ,hU⟩:=hrel;have HUR:=hid hU;have hcs:=hU.cs;rw [<- HM.out] at hcs;clear hU hcs0;by_cases hlt:k < m
  ·obtain ⟨q,hq⟩:∃ q,q=m - 1 - k:=⟨_,rfl⟩
   have HQ:=hid hq;have hqi:(m:Int) - 1 - (k:Int)=(q:Int):=by omega
   rw [hqi];have hqm:q < m:=by omega
   have hqmi:(q:Int) < (m:Int):=by omega
   have hq0:0<=(q:Int):=by omega
   have hkm:k < ms.length:=by rw [<- HM.out];exact hlt
   obtain ⟨rfl,hokb⟩:=HUR.out.ca (by omega);obtain ⟨x,hx⟩:∃ x,ms[q]?=some x:=⟨_,List.getElem?_eq_getElem (by rw [<- HM.out];exact hqm)⟩
   have c0:wr.cell? ⟨g,q * 4,none⟩=some (.int .i64 x.page):=HUR.out.cells q 0 x _ hx rfl;have c1:wr.cell? ⟨g,q * 4+1,none⟩=some (.int .i64 x.ix):=HUR.out.cells q 1 x _ hx rfl;have c2:wr.cell? ⟨g,q * 4+2,none⟩=some (.bool x.nd.lf):=HUR.out.cells q 2 x _ hx rfl;have c3:wr.cell? ⟨g,q * 4+3,none⟩=some (.slice x.nd.a x.nd.es.length x.nd.c):=HUR.out.cells q 3 x _ hx rfl;have hts:(List.finRange ms.length).take (k+1)=(List.finRange ms.length).take k++[⟨k,hkm⟩]:=by
    rw [List.take_succ_eq_append_getElem (by simpa using hkm)];simp
   have HTS:=hid hts;have hy:=hY _ ⟨k,hkm⟩ wr hJ (by rw [List.length_take];simp;omega);have hbe:bwE ms ⟨k,hkm⟩=#[.int .i64 (q:Int),.agg #[.int .i64 x.page,.int .i64 x.ix,.bool x.nd.lf,.slice x.nd.a x.nd.es.length x.nd.c]]:=by
    have e1:ms.length - 1 - k=q:=by rw [<- HM.out];omega
    have e2:ms[q]'(by rw [<- HM.out];exact hqm)=x:=(List.getElem?_eq_some_iff.1 hx).2;unfold bwE;simp only [e1,e2];rfl
   rw [hbe] at hy;obtain ⟨fn,tmps,assign,body,hy,hR⟩:=hy;clear hts hbe hJ hx hq hlt
   gi_wp2
   refine hR.mono ?_;rintro e W3 (⟨rfl,hJ3,hk3⟩ | ⟨rfl,hJx3⟩)
   ·have hU3:=HUR.out.mv hk3;have HU3:=hid hU3;clear hU3 hk3 hcs c0 c1 c2 c3
    gi_wp2
    go_roundw
    case rel=>exact ⟨k+1,by omega,by have:=HQ.out;congr 1;omega,by rw [HTS.out];exact hJ3,HU3.out⟩
    case measure=>simp [intOf]
   ·have HX:=hid hJx3;clear hJx3
    gi_wp2
    refine bodyPost_ret (results_none rfl _ _ _) rfl ?_;refine ⟨⟨_,rfl⟩,.inr ⟨(List.finRange ms.length).take k++[⟨k,hkm⟩],?_,HX.out⟩⟩;rw [<- HTS.out];exact List.take_prefix _ _
  ·have HKM:Hid (k=m):=hid (by omega);have hqi:(m:Int) - 1 - (k:Int)=-1:=by omega
   rw [hqi];clear hlt
   gi_wp2
   go_end0
   exact ⟨⟨_,rfl⟩,.inl ⟨(List.finRange ms.length).take k,by rw [HKM.out,List.take_of_length_le (by simp;rw [HM.out];exact Nat.le_refl _)],hJ⟩⟩
theorem Ul (n:Nat) (hn:1<=n) (bs g c:Nat) (a:Option Addr) (okU:Nat->Prop) (ms:List Sm4) (hml:ms.length<=1000) (w:World) (hU:BwU okU w bs g c a ms) :
  SeqStopsK Fence.wide n Tryz.prog 140 #[.pointer (some ⟨bs,0,none⟩)] (fun x:Fin ms.length=>bwE ms x) (Mv fun b=>¬ okU b) (fun ys=>ys=List.finRange ms.length) (fun pre=>pre <+: List.finRange ms.length) ms.length w:=fun l J Jx W hW _ _ hY h0=>
 ZC n hn l bs g c a okU ms hml J Jx hY W (hU.mv (Mv.of_below hW)) h0
theorem ZB (a:Option Addr) (n c:Nat) (w:World) :
  Calls Tryz.prog 107 #[.slice a n c] w fun e w'=>e=.returned (.func (.func 140) #[] #[.pointer (some ⟨w.heap.size,0,none⟩)])/\w'=w.alloc (.cells #[.slice a n c] 115):=by
 go_enter Tryz.func107,Tryz.ntmps107
 go_wp2_with fail
 go_ret
 exact ⟨rfl,rfl⟩
end Go.Proofs.YtfhdojnobmfefaaGreatDoor
namespace Go.Proofs.YtfhdojnobmfefaaGreatDoor
open Go Go.RowKit Go.Inc
theorem PR {ks ns:List Nat} {m:Nat} {g:List Int} (hks:Ks ks) (hu:∀ i,i∈ns↔(kd ks i=2\/kd ks i=3)) (hgm0:∀ x∈g,0<=x/\x.toNat∈ns) (hgn:g.Nodup):Io (BR ks m) g=0:=by
 have hgl:(BR ks m).length=ks.length:=by unfold BR;exact Ci _ _ _
 have hnl:∀ i∈ns,i < ks.length/\2<=i:=fun i hi=>by
  have h1:=(hu i).1 hi;refine ⟨U6 (by omega),?_⟩;have k0:=hks.k0;have k1:=hks.k1;apply Classical.byContradiction;intro h3;rcases (by omega:i=0\/i=1) with rfl | rfl
  ·omega
  ·omega
 refine PX (outR_false.2 fun x hx=>?_) (fun x hx=>?_) hgn
 ·obtain ⟨h1,h2⟩:=hgm0 x hx;have:=hnl _ h2;rw [hgl];omega
 ·obtain ⟨h1,h2⟩:=hgm0 x hx;have h3:=(hu _).1 h2;have hno:¬ ((x.toNat:Nat):Int)∈DF ks m:=fun hh=>by
   obtain ⟨i,e,_,h4⟩:=Fz hh;have:x.toNat=i:=by omega
   rw [this,h4] at h3;omega
  have hk:kd (BR ks m) x.toNat=kd ks x.toNat:=by
   unfold BR;rw [GY (hnl _ h2).1,if_neg hno]
  rw [hk];unfold isG;rcases h3 with h | h<;>rw [h]<;>rfl
theorem CwF.far {C K:Nat->Nat} {W w w':World} {tp gd pa pn n:Nat} {S:St} {root:Nat} {ep:Int} {t:TrG} {ns:List Nat} {b:Nat} {v1 v2 v3:Value} {ks:List Nat} {F:Nat->Prop} (h:CwF C K W w tp gd pa pn n S root ep t ns b v1 v2 v3 ks) (hm:Mv F w w') (hF:∀ i,F i->C i=0/\K i=0/\i≠tp/\W.heap.size<=i) (h0:0 < W.heap.size):CwF C K W w' tp gd pa pn n S root ep t ns b v1 v2 v3 ks:=
 ⟨⟨h.r.dv.keep hm fun i hi=>(hF i hi).1,h.r.ctp,h.r.tc.mv hm fun hh=>(hF _ hh).2.2.1 rfl,h.r.ep1,h.r.on,h.r.arm,h.r.bytes,h.r.good,h.r.deep,h.r.cnt,h.r.is,h.r.pg,h.r.bud⟩,h.al.mv hm (fun i hi=>⟨(hF i hi).2.1,(hF i hi).2.2.2⟩) h0,h.apart,h.ktp,h.kl,h.used,h.nodup,h.lowC,h.lowT⟩
theorem CwF.more {C K:Nat->Nat} {W w:World} {tp gd pa pn n:Nat} {S:St} {root:Nat} {ep:Int} {t:TrG} {ns:List Nat} {b b':Nat} {v1 v2 v3:Value} {ks:List Nat} (h:CwF C K W w tp gd pa pn n S root ep t ns b v1 v2 v3 ks) (hb:b<=b'):CwF C K W w tp gd pa pn n S root ep t ns b' v1 v2 v3 ks:=
 ⟨⟨h.r.dv,h.r.ctp,h.r.tc,h.r.ep1,h.r.on,h.r.arm,h.r.bytes,h.r.good,h.r.deep,h.r.cnt,h.r.is,h.r.pg,by have:=h.r.bud;omega⟩,h.al,h.apart,h.ktp,h.kl,h.used,h.nodup,h.lowC,h.lowT⟩
set_option maxRecDepth 20000 in
theorem XE (jb:Nat) (a:Option Addr) (c:Nat) (w:World) :
  Calls Tryz.prog 109 #[.pointer (some ⟨jb,0,none⟩),.slice a 0 c] w fun e w'=>e=.returned (.tuple #[.int .i64 0,.int .i64 0])/\Below w.heap.size w w':=by
 go_enter Tryz.func109,Tryz.ntmps109
 go_wp2_with fail
 go_ret2
 exact ⟨rfl,Below.refl _ _⟩
end Go.Proofs.YtfhdojnobmfefaaGreatDoor
