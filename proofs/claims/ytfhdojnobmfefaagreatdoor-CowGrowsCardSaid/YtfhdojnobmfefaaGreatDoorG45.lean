/- MADE SMALL. -/
import Derived.Test.YtfhdojnobmfefaaGreatDoorG28
import Derived.Test.YtfhdojnobmfefaaGreatDoorG12
import Derived.ArgAppend
namespace Go.Inc
open Go.RowKit
theorem YL {es:List Et} {e:Et} (h:∀ x∈es,okE x=true) (he:okE e=true):∀ x∈BN es e,okE x=true:=by
 intro x hx;unfold BN at hx;rcases List.mem_append.1 hx with h1 | h1
 ·rcases List.mem_append.1 h1 with h2 | h2
  ·exact h x (List.mem_of_mem_take h2)
  ·rw [List.mem_singleton] at h2;subst h2;exact he
 ·exact h x (List.mem_of_mem_drop h1)
theorem Ib {P:Program} (w:World) {E T:Nat} (t ty:TypeId) (ht:P.underlying t=some (.slice E)) (hi0:(P.info? E).map (fun i=>(i.zero,i.size,i.bytes))=some (some (.agg #[.int .i64 0,.int .i64 0,.int .i64 0]),3,24))
  {ok:Nat->Prop} {a:Option Addr} {i:Nat} {es:List Et} (h:EtS ok w a es) (hi:i<=es.length) (hl:i<=1000) {d:Nat} {e:Et} (hd:w.heap[d]?=some (.cells #[.int .i64 e.1.1,.int .i64 e.1.2,.int .i64 e.2] T (0,0))) :
  ∃ v' w',(Builtin.append_ #[t,t] ty #[.slice a i i,.slice (some ⟨d,0,none⟩) 1 1]).run P w=.ok v' w'/\w'.ownsRow w.heap.size E 3 v' (i+1) (Ak (es.take i++[e]))/\Grew w w':=by
 have hone:EtS (fun _=>True) w (some ⟨d,0,none⟩) [e]:=.inr ⟨d,0,rfl,trivial,fun j hj=>by
  match j,hj with
  | 0,_=>exact ⟨by rw [cell_of_row _ _ _ _ _ _ hd];rfl,by rw [cell_of_row _ _ _ _ _ _ hd];rfl,by rw [cell_of_row _ _ _ _ _ _ hd];rfl⟩
  | j+1,hj=>simp at hj⟩
 cases a with
 | none=>
  have he:es=[]:=by
   rcases h with h | ⟨b,o,h,_⟩
   ·exact h
   ·cases h
  subst he;obtain rfl:i=0:=by simpa using hi
  obtain ⟨v',w',hr,h1,h2⟩:=EH (P:=P) w t ty ht hi0 (k:=0) (xs:=[]) (World.ownsRow_nil w w.heap.size E 3) (c:=1) rfl hone (by omega) (by simp) (Nat.le_refl _);refine ⟨v',w',hr,h1,⟨h2.os,h2.tape,h2.output,h2.size,fun k hk=>h2.block k hk (by simp [Value.ownBlock])⟩⟩
 | some ad=>
  obtain ⟨I,hi1,hz,hs,hb⟩:=info_parts hi0;obtain ⟨v',w',hr,h1,h2⟩:=run_append_arg_grows (P:=P) w t ty E I (.agg #[.int .i64 0,.int .i64 0,.int .i64 0]) 3 24 ht hi1 hz hs hb rfl (by decide) ad i i (Ak (es.take i)) (by rw [FO,List.length_take];omega) (h.front i).cellsX ⟨d,0,none⟩ 1 1 (Ak [e]) rfl hone.cellsX (by omega) (by unfold maxLen;omega) (by omega);refine ⟨v',w',hr,by rw [G8];exact h1,⟨h2.os,h2.tape,h2.output,h2.size,fun k hk=>h2.block k hk (by simp)⟩⟩
def BxJ (w:World) (g1:Nat) (c1:Array Value) (T1:TypeId) (g2:Nat) (c2:Array Value) (T2:TypeId) (x:World):Prop:=
 Below w.heap.size w x/\x.heap[g1]?=some (.cells c1 T1 (0,0))/\x.heap[g2]?=some (.cells c2 T2 (0,0))
theorem BxJ.grew {w:World} {g1 g2:Nat} {T1 T2:TypeId} {c1 c2:Array Value} {a b:World} (hg:Grew a b) (h:BxJ w g1 c1 T1 g2 c2 T2 a):BxJ w g1 c1 T1 g2 c2 T2 b:=
 ⟨h.1.trans (Below.mono hg h.1.size),Ac h.2.1 hg,Ac h.2.2 hg⟩
theorem BxJ.row {w:World} {g1 g2:Nat} {T1 T2:TypeId} {c1 c2:Array Value} {a b:World} {E B s n:Nat} {v:Value} {xs:List Value} (h:BxJ w g1 c1 T1 g2 c2 T2 a) (hr:a.ownsRow B E s v n xs) (hg:a.grownBy b v.ownBlock) (hB:w.heap.size<=B) (h1:E≠T1) (h2:E≠T2):BxJ w g1 c1 T1 g2 c2 T2 b:=
 ⟨A8 (w0:=w) h.1 hr hB hg,LU h1 hr hg h.2.1,LU h2 hr hg h.2.2⟩
end Go.Inc
namespace Go.Proofs.YtfhdojnobmfefaaGreatDoor
open Go.RowKit Go.Inc
theorem Qo (w:World) (g:Nat) (cs:Array Value) (tmps:Array Value) (h2:tmps.getD 4 undef=.pointer (some ⟨g,0,none⟩)) (hg:w.heap[g]?=some (.cells cs 114 (0,0))) (hs:cs.size=2) :
  (results Tryz.f111 tmps).run Tryz.prog w=.ok (.tuple #[.agg cs,tmps.getD 5 undef]) w:=
 CS rfl tmps w g 114 cs (0,0) _ h2 hg Tryz.underlying114 rfl (by rw [hs];kernel_rfl)
set_option maxRecDepth 20000 in
set_option maxHeartbeats 4000000 in
theorem ZZ (a:Option Addr) (n c:Nat) (lf:Bool) (es:List Et) (s z p:Int) (w:World) (hnd:NdOk w a n c es) (hck:AL lf es=0) (hoe:okE ((s,z),p)=true) (hin:inK es (s,z)=true) :
  Calls Tryz.prog 111 #[.agg #[.bool lf,.slice a n c],.agg #[.int .i64 s,.int .i64 z,.int .i64 p]] w fun e w'=>(∃ v,e=.returned (.tuple #[v,.int .i64 0])/\NdW 65 w.heap.size w' v lf (BN es ((s,z),p)))/\Below w.heap.size w w':=by
 obtain ⟨c1,c2,c3,-⟩:=Ba hck;have HN:=hid hnd.1;have hln:(n:Int)<=16:=by have:=hnd.1;omega
 have hncn:=hnd.2.2.2.2.1.1;have hnc:(n:Int)<=c:=by omega
 obtain ⟨g,hg⟩:∃ g,g=w.heap.size:=⟨_,rfl⟩
 have HG:=hid hg;obtain ⟨w0,hw0⟩:∃ w0,w0=((w.alloc (.cells #[.bool lf,.slice a n c] 114)).alloc (.cells #[.int .i64 s,.int .i64 z,.int .i64 p] 65)).alloc (.cells #[.bool false,.slice none 0 0] 114):=⟨_,rfl⟩
 have HW0:=hid hw0;have HB0:Hid (Below w.heap.size w w0):=hid (by rw [hw0];exact (((Below.refl _ _).alloc (Nat.le_refl _) _).alloc (by simp) _).alloc (by simp;omega) _);have hx1:w0.heap[g]?=some (.cells #[.bool lf,.slice a n c] 114 (0,0)):=by rw [hw0,hg];exact Ac (heap_alloc2_old w _ _) (Ad _ _)
 have hx2:w0.heap[g+1]?=some (.cells #[.int .i64 s,.int .i64 z,.int .i64 p] 65 (0,0)):=by rw [hw0,hg];exact Ac (heap_alloc2_new w _ _) (Ad _ _)
 have hx3:w0.heap[g+1+1]?=some (.cells #[.bool false,.slice none 0 0] 114 (0,0)):=by
  rw [hw0,hg];have h:=heap_alloc_new ((w.alloc (.cells #[.bool lf,.slice a n c] 114)).alloc (.cells #[.int .i64 s,.int .i64 z,.int .i64 p] 65)) (.cells #[.bool false,.slice none 0 0] 114);simpa using h
 have HX1:=hid hx1;have HX2:=hid hx2;have HX3:=hid hx3;have HND:=hid hnd;have HBD:=hid (And.intro c2 c3);have HLE:=hid c1;have h7:=BJ a n c lf es w0 (hnd.below HB0.out);rw [hck] at h7;have HCK:=hid h7;have h8:=FW s z p;rw [hoe] at h8;have HIW:=hid h8;have HOE:=hid hoe;have HIN:=hid hin;clear hnd hck hoe hin hg hw0 h7 h8 c1 c2 c3;have hc0:w0.cell? ⟨g,0,none⟩=some (.bool lf):=coR hx1;have hc1:w0.cell? ⟨g,1,none⟩=some (.slice a n c):=coR hx1;clear hx1 hx2 hx3
 go_enter Tryz.func111,Tryz.ntmps111
 go_upto_region 1 with fail
 rw [<- HW0.out,<- HG.out]
 go_wp2_with fail
 refine HCK.out.mono ?_;clear HCK;rintro e w1 ⟨rfl,hb⟩;have HB1:Hid (Below w.heap.size w w1):=hid (HB0.out.trans (hb.mono HB0.out.size));have hx1:=Ac HX1.out hb;have hx2:=Ac HX2.out hb;have HX31:=hid (Ac HX3.out hb);have HX11:=hid hx1;have HX21:=hid hx2;have hd0:w1.cell? ⟨g+1,0,none⟩=some (.int .i64 s):=coR hx2;have hd1:w1.cell? ⟨g+1,1,none⟩=some (.int .i64 z):=coR hx2;have hd2:w1.cell? ⟨g+1,2,none⟩=some (.int .i64 p):=coR hx2;clear hx1 hx2 hb hc0 hc1 HX1 HX2 HX3 HB0 HW0
 go_wp2_with fail
 refine (HIW.out w1).mono ?_;clear HIW;rintro e w2 ⟨rfl,hb⟩;have HB2:Hid (Below w.heap.size w w2):=hid (HB1.out.trans (hb.mono HB1.out.size));have hx1:=Ac HX11.out hb;have hx2:=Ac HX21.out hb;have HX32:=hid (Ac HX31.out hb);have HX12:=hid hx1;have HX22:=hid hx2;have HFD:=hid (Gu a n c lf es s z w2 (HND.out.below HB2.out) HLE.out HBD.out.1 HBD.out.2);clear hd0 hd1 hd2 hb HX11 HX21 HX31 HB1;have hd0:w2.cell? ⟨g+1,0,none⟩=some (.int .i64 s):=coR hx2;have hd1:w2.cell? ⟨g+1,1,none⟩=some (.int .i64 z):=coR hx2;have hc0:w2.cell? ⟨g,0,none⟩=some (.bool lf):=coR hx1;have hc1:w2.cell? ⟨g,1,none⟩=some (.slice a n c):=coR hx1;clear hx1 hx2
 go_wp2_with fail
 refine HFD.out.mono ?_;clear HFD;rintro e w3 ⟨⟨i,B,rfl,hf⟩,hb⟩;have HB3:Hid (Below w.heap.size w w3):=hid (HB2.out.trans (hb.mono HB2.out.size));have hx1:=Ac HX12.out hb;have hx2:=Ac HX22.out hb;have HX33:=hid (Ac HX32.out hb);have HX13:=hid hx1;have HX23:=hid hx2;obtain ⟨e1,e2⟩:=hf.ok (Bj HOE.out);have HAT:=hid (And.intro e1 e2);have hin:(i:Int)<=n:=by have:=hf.1;have:=HN.out;omega
 clear hd0 hd1 hc0 hc1 hb HX12 HX22 HX32 HB2 e1 e2 hf;have hc1:w3.cell? ⟨g,1,none⟩=some (.slice a n c):=coR hx1;clear hx1 hx2;cases B with
 | false=>exact absurd (HAT.out.2.trans HIN.out) (by decide)
 | true=>
  have hil:=(Ij HIN.out).1;rw [<- HAT.out.1] at hil;have hlt:(i:Int) < n:=by have:=HN.out;omega
  have hlt2:(1:Int)<=((n - i:Nat):Int):=by omega
  obtain ⟨b,o,rfl,-⟩:=HND.out.2.1.cell (i:=i) hil;obtain ⟨ob,hob⟩:∃ ob,ob=o+i * 3:=⟨_,rfl⟩
  have hci:(c=i)=False:=eq_false (by omega);have hob2:o+i * 3=ob:=hob.symm;obtain ⟨ab,hab⟩:∃ ab,(if c - i=1 then some (⟨b,ob,none⟩:Addr) else some ⟨b,ob+3,none⟩)=ab:=⟨_,rfl⟩
  obtain ⟨nb,hnb⟩:∃ nb,n - i - 1=nb:=⟨_,rfl⟩
  obtain ⟨cb,hcb⟩:∃ cb,c - i - 1=cb:=⟨_,rfl⟩
  obtain ⟨j,hj⟩:∃ j,j=i+1:=⟨_,rfl⟩
  have HS0:=hid HND.out.2.1;have HS:Hid (∀ y:World,Below w.heap.size w y->EtS (fun _=>True) y ab (es.drop j)):=hid fun y hy=>by
   rw [hj];refine (HS0.out.below hy).back (i+1) ab fun hlt9=>?_;have hne:¬ c - i=1:=by have:=HN.out;omega
   rw [<- hab,if_neg hne,<- hob2];simp [Addr.add]
  have HNB:Hid (nb=(es.drop j).length/\nb<=16):=hid (by rw [List.length_drop,hj];have:=HN.out;omega);have HINS:Hid (es.take i++[((s,z),p)]++es.drop j=BN es ((s,z),p)):=hid (by
   unfold BN;rw [if_pos HIN.out,hj,HAT.out.1])
  have HA:=hid (And.intro hab (And.intro hob2 hci));clear hil hob hj
  go_upto_region 12 with fail
  clear hab hob2 hci hlt hlt2 hnb hcb HA;have HCC:Hid (∀ x,Grew w3.drew x->x.cell? ⟨g,1,none⟩=some (.slice (some ⟨b,o,none⟩) n c)/\(x.cell? ⟨g+1,0,none⟩=some (.int .i64 s)/\x.cell? ⟨g+1,1,none⟩=some (.int .i64 z)/\x.cell? ⟨g+1,2,none⟩=some (.int .i64 p))/\Below w3.heap.size w3 x/\EtS (fun _=>True) x (some ⟨b,o,none⟩) es):=hid fun x hg=>by
   have hb:Below w3.heap.size w3 x:=⟨hg.os,hg.tape,hg.output,hg.size,hg.block⟩
   have r1:=Ac HX13.out hb;have r2:=Ac HX23.out hb;exact ⟨by rw [cell_of_row _ _ _ _ _ _ r1];rfl,⟨by rw [cell_of_row _ _ _ _ _ _ r2];rfl,by rw [cell_of_row _ _ _ _ _ _ r2];rfl,by rw [cell_of_row _ _ _ _ _ _ r2];rfl⟩,hb,HS0.out.below (HB3.out.trans (hb.mono HB3.out.size))⟩
  have hic:(i:Int)<=c:=by omega
  clear hc1;refine Ai 8 [EqN (.pointer (some ⟨g,1,none⟩)),EqN (.slice (some ⟨b,o,none⟩) n c),EqN (.int .i64 (i:Int)),EqN (.int .i64 (i:Int)),EqN (.slice (some ⟨b,o,none⟩) i i),EqN (.agg #[.int .i64 s,.int .i64 z,.int .i64 p]),RowE ((s,z),p) 65,(fun x v=>x.ownsRow w3.heap.size 65 3 v (i+1) (Ak (es.take i++[((s,z),p)])))] (by kernel_rfl) (by decide) (by kernel_rfl) ?_ ?_ ?_
  ·repeat' (first | exact List.forall_mem_nil _ | refine List.forall_mem_cons.2 ⟨?_,?_⟩)
   all_goals
    intro w w' v hw h
    first | exact h | exact RowE.kept h hw | exact Ag (F:=fun _=>False) h (Mv.of_below hw) fun _ _=>id
  ·simp only [AllLt];refine ⟨⟨⟨⟨⟨⟨⟨⟨trivial,?_⟩,?_⟩,?_⟩,?_⟩,?_⟩,?_⟩,?_⟩,?_⟩
   all_goals
    intro o' ho;simp at ho;subst ho;intro ρ w5 hR hL hS hG;obtain ⟨hl1,hl2,-⟩:=hL
   ·refine Aa rfl ?_;intro bA K Q' hK;have e2:=hS 2 (by kernel_rfl);change ρ (.tmp 2)=_ at e2;simp only [execOp];go_simp;exact hK _ _ rfl (Grew.refl _)
   ·refine Aa rfl ?_;intro bA K Q' hK;have e39:=apG (hG 0 39);change ρ (.tmp 39)=_ at e39;obtain ⟨y1,⟨y2,y3,y4⟩,-⟩:=HCC.out w5 hR;simp only [execOp];go_simp;exact hK _ _ rfl (Grew.refl _)
   iterate 2
    ·refine Aa rfl ?_;intro bA K Q' hK;have e7:=hS 7 (by kernel_rfl);change ρ (.tmp 7)=_ at e7;simp only [execOp];go_simp;exact hK _ _ rfl (Grew.refl _)
   ·refine Aa rfl ?_;intro bA K Q' hK;have e40:=apG (hG 1 40);have e41:=apG (hG 2 41);have e42:=apG (hG 3 42);change ρ (.tmp 40)=_ at e40;change ρ (.tmp 41)=_ at e41;change ρ (.tmp 42)=_ at e42;simp only [execOp];go_simp;exact hK _ _ rfl (Grew.refl _)
   ·refine Aa rfl ?_;intro bA K Q' hK;have e3:=hS 3 (by kernel_rfl);change ρ (.tmp 3)=_ at e3;obtain ⟨y1,⟨y2,y3,y4⟩,-⟩:=HCC.out w5 hR;simp only [execOp];go_simp;exact hK _ _ rfl (Grew.refl _)
   ·refine Aa rfl ?_;intro bA K Q' hK;have e44:=apG (hG 5 44);change ρ (.tmp 44)=_ at e44;simp only [execOp];go_simp;exact hK _ _ ⟨_,rfl,heap_alloc_new w5 _⟩ ((Grew.refl _).alloc _)
   ·refine Aa rfl ?_;intro bA K Q' hK;have e43:=apG (hG 4 43);have e45:=apG (hG 6 45);change ρ (.tmp 43)=_ at e43
    skip
    obtain ⟨bx,h8,hrx⟩:=e45;obtain ⟨v',w6,hr,ho',hgr⟩:=Ib (P:=Tryz.prog) (i:=i) (es:=es) w5 48 48 Tryz.underlying48 EZ (HCC.out w5 hR).2.2.2 (by have:=HN.out;omega) (by omega) hrx;refine FC (.tmp 43) (.tmp 45) 48 rfl e43 h8 hr ?_;refine hK _ _ (AV ho' hR.size) hgr
  ·intro vv w4 hR hG;have h7:w4.ownsRow w3.heap.size 65 3 (vv 7) (i+1) (Ak (es.take i++[((s,z),p)])):=hG.2;have hb:Below w3.heap.size w3 w4:=⟨hR.os,hR.tape,hR.output,hR.size,hR.block⟩
   have h7w:=AV h7 HB3.out.size;obtain ⟨v8,hv8⟩:∃ v8,v8=vv 7:=⟨_,rfl⟩
   rw [<- hv8] at h7w;obtain ⟨a8,c8,hs8,-⟩:=Dk h7w;rw [show (es.take i++[((s,z),p)]).length=i+1 by rw [List.length_append,List.length_take];have:=HN.out;simp;omega] at hs8;have HJ:Hid (BxJ w g #[.bool lf,.slice (some ⟨b,o,none⟩) n c] 114 (g+1+1) #[.bool false,.slice none 0 0] 114 w4/\w4.ownsRow w.heap.size 65 3 v8 (i+1) (Ak (es.take i++[((s,z),p)]))):=hid ⟨⟨HB3.out.trans (hb.mono HB3.out.size),Ac HX13.out hb,Ac HX33.out hb⟩,h7w⟩;subst hs8;clear hG hR hb HCC h7 h7w hic HX13 HX23 HX33 HB3;simp [stG,stU,Au,Act.put,<- hv8];clear hv8;have HCX:Hid (∀ x,BxJ w g #[.bool lf,.slice (some ⟨b,o,none⟩) n c] 114 (g+1+1) #[.bool false,.slice none 0 0] 114 x->x.cell? ⟨g,0,none⟩=some (.bool lf)):=hid fun x hx=>by
    rw [cell_of_row _ _ _ _ _ _ hx.2.1];rfl
   go_wp2_with fail
   refine Ej 5 4 (fun x=>BxJ w g #[.bool lf,.slice (some ⟨b,o,none⟩) n c] 114 (g+1+1) #[.bool false,.slice none 0 0] 114 x/\x.ownsRow w.heap.size 65 3 (.slice a8 (i+1) c8) (i+1) (Ak (es.take i++[((s,z),p)]))) (BxJ w g #[.bool lf,.slice (some ⟨b,o,none⟩) n c] 114 (g+1+1) #[.bool false,.slice none 0 0] 114) [] [EqN (.pointer (some ⟨g,0,none⟩)),EqN (.bool lf),EqN (.slice a8 (i+1) c8),EqN (.slice ab nb cb),(fun x v=>x.ownsRow w.heap.size 65 3 v (i+1+nb) (Ak ((es.take i++[((s,z),p)])++es.drop j)))] (by kernel_rfl) (by decide) (by kernel_rfl) (by kernel_rfl) (by decide) ?_ ?_ ?_ ?_ ?_ ?_
   ·exact ⟨BxJ.grew (BX w4 1) HJ.out.1,Ag (F:=fun _=>False) HJ.out.2 (Mv.of_below (BX w4 1)) fun _ _=>id⟩
   ·exact fun a b hg h=>⟨BxJ.grew hg h.1,Ag (F:=fun _=>False) h.2 (Mv.of_below hg) fun _ _=>id⟩
   ·exact fun a b=>BxJ.grew
   ·repeat' (first | exact List.forall_mem_nil _ | refine List.forall_mem_cons.2 ⟨?_,?_⟩)
    all_goals
     intro w w' v hw h
     first | exact h | exact Ag (F:=fun _=>False) h (Mv.of_below hw) fun _ _=>id
   ·simp only [AllLt];refine ⟨⟨⟨⟨⟨trivial,?_⟩,?_⟩,?_⟩,?_⟩,?_⟩
    all_goals
     intro o' ho;simp at ho;subst ho;intro ρ w5 hR hL hS hG;obtain ⟨hl1,hl2,-⟩:=hL
    ·refine Aa rfl ?_;intro bA K Q' hK;have e2:=hS 2 (by kernel_rfl);change ρ (.tmp 2)=_ at e2;simp only [execOp];go_simp;exact hK _ _ rfl (fun _=>Grew.refl _) (fun h=>absurd h (by decide))
    ·refine Aa rfl ?_;intro bA K Q' hK;have e47:=apG (hG 0 47);change ρ (.tmp 47)=_ at e47;have y0:=(HCX.out w5 (hR.any.elim (fun h=>h.1) id))
     simp only [execOp];go_simp;exact hK _ _ rfl (fun _=>Grew.refl _) (fun h=>absurd h (by decide))
    ·refine Aa rfl ?_;intro bA K Q' hK;have e10:=hS 10 (by kernel_rfl);change ρ (.tmp 10)=_ at e10;simp only [execOp];go_simp;exact hK _ _ rfl (fun _=>Grew.refl _) (fun h=>absurd h (by decide))
    ·refine Aa rfl ?_;intro bA K Q' hK;have e9:=hS 9 (by kernel_rfl);change ρ (.tmp 9)=_ at e9;simp only [execOp];go_simp;exact hK _ _ rfl (fun _=>Grew.refl _) (fun h=>absurd h (by decide))
    ·refine Aa rfl ?_;intro bA K Q' hK;have e49:=apG (hG 2 49);have e50:=apG (hG 3 50);change ρ (.tmp 49)=_ at e49;change ρ (.tmp 50)=_ at e50;obtain ⟨hj1,hj2⟩:=hR.ahead (by decide);obtain ⟨v',w6,hr,ho',hgr⟩:=EH (P:=Tryz.prog) w5 48 48 Tryz.underlying48 EZ hj2 (c:=cb) HNB.out.1 (HS.out _ hj1.1) (by omega) (by have:=HNB.out.2;omega) hj1.1.size;refine FC (.tmp 49) (.tmp 50) 48 rfl e49 e50 hr ?_;refine hK _ _ ho' (fun h=>absurd rfl h) (fun _=>⟨hj1.row hj2 hgr (Nat.le_refl _) (by decide) (by decide),?_⟩);simp only [AllLt];refine ⟨⟨⟨⟨⟨trivial,?_⟩,?_⟩,?_⟩,?_⟩,?_⟩
     iterate 4
      ·exact fun _ _ y hy=>hy
     ·exact fun hne _=>absurd rfl hne
   ·intro vv w5 hR hG;have h4:w5.ownsRow w.heap.size 65 3 (vv 4) (i+1+nb) (Ak ((es.take i++[((s,z),p)])++es.drop j)):=hG.2 (by decide);have hv1:vv 1=.bool lf:=hG.1.1.1.2 (by decide);obtain ⟨v9,hv9⟩:∃ v9,v9=vv 4:=⟨_,rfl⟩
    rw [<- hv9] at h4;obtain ⟨a9,c9,hs9,-⟩:=Dk h4;obtain ⟨L,hL⟩:∃ L,L=((es.take i++[((s,z),p)])++es.drop j).length:=⟨_,rfl⟩
    have HJ5:=hid hR;rw [<- hL] at hs9;subst hs9;have HROW:=hid h4;have HL:=hid hL;clear hG hR h4 hL HJ HCX;simp [stG,stU,Au,Act.put,<- hv9,hv1];clear hv9 hv1
    go_wp2_with (refine Ae rfl 114 _ _ rfl (g+1+1) #[.bool lf,.slice a9 L c9] rfl rfl 114 _ HJ5.out.2.2 (by kernel_rfl) rfl (by simp [Value.oneCell']) ?_)
    intro w6 hr6 hg6;have HB6:Hid (Below w.heap.size w w6):=hid (HJ5.out.1.grown hg6 HJ5.out.1.size fun k hk=>by have:=HG.out;cases hk;omega);have HR6:=hid hr6;have HRW6:=hid (HROW.out.kept hg6 (.inr (DV (by decide) HROW.out HJ5.out.2.2)));clear hr6 hg6 HROW HJ5
    go_wp2_with fail
    refine bodyPost_ret (v:=.tuple #[.agg #[.bool lf,.slice a9 L c9],.int .i64 0]) (Qo _ _ #[.bool lf,.slice a9 L c9] _ rfl HR6.out rfl) rfl ⟨⟨_,rfl,?_⟩,HB6.out⟩;have hlen:i+1+nb=(BN es ((s,z),p)).length:=by
     have h1:=HNB.out.1;rw [List.length_drop] at h1;rw [<- HINS.out,List.length_append,List.length_append,List.length_take,List.length_drop];have:=HN.out;simp;omega
    have h:=HRW6.out;rw [HINS.out,hlen] at h;have h9:NodeN 65 w.heap.size w6 (.agg #[.bool lf,.slice a9 L c9]) lf (BN es ((s,z),p)):=⟨_,rfl,h⟩
    refine h9.ndw ?_ fun e he=>JF (YL (badN_false.1 HBD.out.1) HOE.out e he);have h1:=Dp es ((s,z),p);have h2:=HLE.out;split at h1<;>omega
set_option maxRecDepth 20000 in
set_option maxHeartbeats 4000000 in
theorem Xy (a:Option Addr) (n c:Nat) (lf:Bool) (es:List Et) (s z p:Int) (w:World) (hnd:NdOk w a n c es) (hck:AL lf es=0) (hoe:okE ((s,z),p)=true) (hin:inK es (s,z)=false) (hlen:es.length < 16) :
  Calls Tryz.prog 111 #[.agg #[.bool lf,.slice a n c],.agg #[.int .i64 s,.int .i64 z,.int .i64 p]] w fun e w'=>(∃ v,e=.returned (.tuple #[v,.int .i64 0])/\NdW 65 w.heap.size w' v lf (BN es ((s,z),p)))/\Below w.heap.size w w':=by
 obtain ⟨c1,c2,c3,-⟩:=Ba hck;have HN:=hid hnd.1;have hln:(n:Int)<=16:=by have:=hnd.1;omega
 have hncn:=hnd.2.2.2.2.1.1;have hnc:(n:Int)<=c:=by omega
 obtain ⟨g,hg⟩:∃ g,g=w.heap.size:=⟨_,rfl⟩
 have HG:=hid hg;obtain ⟨w0,hw0⟩:∃ w0,w0=((w.alloc (.cells #[.bool lf,.slice a n c] 114)).alloc (.cells #[.int .i64 s,.int .i64 z,.int .i64 p] 65)).alloc (.cells #[.bool false,.slice none 0 0] 114):=⟨_,rfl⟩
 have HW0:=hid hw0;have HB0:Hid (Below w.heap.size w w0):=hid (by rw [hw0];exact (((Below.refl _ _).alloc (Nat.le_refl _) _).alloc (by simp) _).alloc (by simp;omega) _);have hx1:w0.heap[g]?=some (.cells #[.bool lf,.slice a n c] 114 (0,0)):=by rw [hw0,hg];exact Ac (heap_alloc2_old w _ _) (Ad _ _)
 have hx2:w0.heap[g+1]?=some (.cells #[.int .i64 s,.int .i64 z,.int .i64 p] 65 (0,0)):=by rw [hw0,hg];exact Ac (heap_alloc2_new w _ _) (Ad _ _)
 have hx3:w0.heap[g+1+1]?=some (.cells #[.bool false,.slice none 0 0] 114 (0,0)):=by
  rw [hw0,hg];have h:=heap_alloc_new ((w.alloc (.cells #[.bool lf,.slice a n c] 114)).alloc (.cells #[.int .i64 s,.int .i64 z,.int .i64 p] 65)) (.cells #[.bool false,.slice none 0 0] 114);simpa using h
 have HX1:=hid hx1;have HX2:=hid hx2;have HX3:=hid hx3;have HND:=hid hnd;have HBD:=hid (And.intro c2 c3);have HLE:=hid c1;have h7:=BJ a n c lf es w0 (hnd.below HB0.out);rw [hck] at h7;have HCK:=hid h7;have h8:=FW s z p;rw [hoe] at h8;have HIW:=hid h8;have HOE:=hid hoe;have HIN:=hid hin;clear hnd hck hoe hin hg hw0 h7 h8 c1 c2 c3;have hc0:w0.cell? ⟨g,0,none⟩=some (.bool lf):=coR hx1;have hc1:w0.cell? ⟨g,1,none⟩=some (.slice a n c):=coR hx1;clear hx1 hx2 hx3
 go_enter Tryz.func111,Tryz.ntmps111
 go_upto_region 1 with fail
 rw [<- HW0.out,<- HG.out]
 go_wp2_with fail
 refine HCK.out.mono ?_;clear HCK;rintro e w1 ⟨rfl,hb⟩;have HB1:Hid (Below w.heap.size w w1):=hid (HB0.out.trans (hb.mono HB0.out.size));have hx1:=Ac HX1.out hb;have hx2:=Ac HX2.out hb;have HX31:=hid (Ac HX3.out hb);have HX11:=hid hx1;have HX21:=hid hx2;have hd0:w1.cell? ⟨g+1,0,none⟩=some (.int .i64 s):=coR hx2;have hd1:w1.cell? ⟨g+1,1,none⟩=some (.int .i64 z):=coR hx2;have hd2:w1.cell? ⟨g+1,2,none⟩=some (.int .i64 p):=coR hx2;clear hx1 hx2 hb hc0 hc1 HX1 HX2 HX3 HB0 HW0
 go_wp2_with fail
 refine (HIW.out w1).mono ?_;clear HIW;rintro e w2 ⟨rfl,hb⟩;have HB2:Hid (Below w.heap.size w w2):=hid (HB1.out.trans (hb.mono HB1.out.size));have hx1:=Ac HX11.out hb;have hx2:=Ac HX21.out hb;have HX32:=hid (Ac HX31.out hb);have HX12:=hid hx1;have HX22:=hid hx2;have HFD:=hid (Gu a n c lf es s z w2 (HND.out.below HB2.out) HLE.out HBD.out.1 HBD.out.2);clear hd0 hd1 hd2 hb HX11 HX21 HX31 HB1;have hd0:w2.cell? ⟨g+1,0,none⟩=some (.int .i64 s):=coR hx2;have hd1:w2.cell? ⟨g+1,1,none⟩=some (.int .i64 z):=coR hx2;have hc0:w2.cell? ⟨g,0,none⟩=some (.bool lf):=coR hx1;have hc1:w2.cell? ⟨g,1,none⟩=some (.slice a n c):=coR hx1;clear hx1 hx2
 go_wp2_with fail
 refine HFD.out.mono ?_;clear HFD;rintro e w3 ⟨⟨i,B,rfl,hf⟩,hb⟩;have HB3:Hid (Below w.heap.size w w3):=hid (HB2.out.trans (hb.mono HB2.out.size));have hx1:=Ac HX12.out hb;have hx2:=Ac HX22.out hb;have HX33:=hid (Ac HX32.out hb);have HX13:=hid hx1;have HX23:=hid hx2;obtain ⟨e1,e2⟩:=hf.ok (Bj HOE.out);have HAT:=hid (And.intro e1 e2);have hin:(i:Int)<=n:=by have:=hf.1;have:=HN.out;omega
 clear hd0 hd1 hc0 hc1 hb HX12 HX22 HX32 HB2 e1 e2 hf;have hc1:w3.cell? ⟨g,1,none⟩=some (.slice a n c):=coR hx1;clear hx1 hx2;cases B with
 | true=>exact absurd (HAT.out.2.trans HIN.out) (by decide)
 | false=>
  have hn16:((n:Int) == 16)=false:=by rw [beq_eq_false_iff_ne];have:=HN.out;omega
  have hn16':(n=16)=False:=eq_false (by have:=HN.out;omega);obtain ⟨ab,hab⟩:∃ ab,(if c=i then a else a.map fun x=>x.add (i * 3))=ab:=⟨_,rfl⟩
  obtain ⟨nb,hnb⟩:∃ nb,n - i=nb:=⟨_,rfl⟩
  obtain ⟨cb,hcb⟩:∃ cb,c - i=cb:=⟨_,rfl⟩
  obtain ⟨j,hj⟩:∃ j,j=i:=⟨_,rfl⟩
  have HS0:=hid HND.out.2.1;have HS:Hid (∀ y:World,Below w.heap.size w y->EtS (fun _=>True) y ab (es.drop j)):=hid fun y hy=>by
   rw [hj];refine (HS0.out.below hy).back i ab fun hlt9=>?_;have hne:¬ c=i:=by have:=HN.out;omega
   rw [<- hab,if_neg hne]
  have HNB:Hid (nb=(es.drop j).length/\nb<=16):=hid (by rw [List.length_drop,hj];have:=HN.out;omega);have HINS:Hid (es.take i++[((s,z),p)]++es.drop j=BN es ((s,z),p)):=hid (by
   unfold BN;rw [if_neg (by rw [HIN.out];decide),hj,HAT.out.1])
  clear hj
  go_upto_region 12 with fail
  clear hab hn16 hn16' hnb hcb;have HCC:Hid (∀ x,Grew w3.drew x->x.cell? ⟨g,1,none⟩=some (.slice a n c)/\(x.cell? ⟨g+1,0,none⟩=some (.int .i64 s)/\x.cell? ⟨g+1,1,none⟩=some (.int .i64 z)/\x.cell? ⟨g+1,2,none⟩=some (.int .i64 p))/\Below w3.heap.size w3 x/\EtS (fun _=>True) x a es):=hid fun x hg=>by
   have hb:Below w3.heap.size w3 x:=⟨hg.os,hg.tape,hg.output,hg.size,hg.block⟩
   have r1:=Ac HX13.out hb;have r2:=Ac HX23.out hb;exact ⟨by rw [cell_of_row _ _ _ _ _ _ r1];rfl,⟨by rw [cell_of_row _ _ _ _ _ _ r2];rfl,by rw [cell_of_row _ _ _ _ _ _ r2];rfl,by rw [cell_of_row _ _ _ _ _ _ r2];rfl⟩,hb,HS0.out.below (HB3.out.trans (hb.mono HB3.out.size))⟩
  have hic:(i:Int)<=c:=by omega
  clear hc1;refine Ai 8 [EqN (.pointer (some ⟨g,1,none⟩)),EqN (.slice a n c),EqN (.int .i64 (i:Int)),EqN (.int .i64 (i:Int)),EqN (.slice a i i),EqN (.agg #[.int .i64 s,.int .i64 z,.int .i64 p]),RowE ((s,z),p) 65,(fun x v=>x.ownsRow w3.heap.size 65 3 v (i+1) (Ak (es.take i++[((s,z),p)])))] (by kernel_rfl) (by decide) (by kernel_rfl) ?_ ?_ ?_
  ·repeat' (first | exact List.forall_mem_nil _ | refine List.forall_mem_cons.2 ⟨?_,?_⟩)
   all_goals
    intro w w' v hw h
    first | exact h | exact RowE.kept h hw | exact Ag (F:=fun _=>False) h (Mv.of_below hw) fun _ _=>id
  ·simp only [AllLt];refine ⟨⟨⟨⟨⟨⟨⟨⟨trivial,?_⟩,?_⟩,?_⟩,?_⟩,?_⟩,?_⟩,?_⟩,?_⟩
   all_goals
    intro o' ho;simp at ho;subst ho;intro ρ w5 hR hL hS hG;obtain ⟨hl1,hl2,-⟩:=hL
   ·refine Aa rfl ?_;intro bA K Q' hK;have e2:=hS 2 (by kernel_rfl);change ρ (.tmp 2)=_ at e2;simp only [execOp];go_simp;exact hK _ _ rfl (Grew.refl _)
   ·refine Aa rfl ?_;intro bA K Q' hK;have e39:=apG (hG 0 39);change ρ (.tmp 39)=_ at e39;obtain ⟨y1,⟨y2,y3,y4⟩,-⟩:=HCC.out w5 hR;simp only [execOp];go_simp;exact hK _ _ rfl (Grew.refl _)
   iterate 2
    ·refine Aa rfl ?_;intro bA K Q' hK;have e7:=hS 7 (by kernel_rfl);change ρ (.tmp 7)=_ at e7;simp only [execOp];go_simp;exact hK _ _ rfl (Grew.refl _)
   ·refine Aa rfl ?_;intro bA K Q' hK;have e40:=apG (hG 1 40);have e41:=apG (hG 2 41);have e42:=apG (hG 3 42);change ρ (.tmp 40)=_ at e40;change ρ (.tmp 41)=_ at e41;change ρ (.tmp 42)=_ at e42;simp only [execOp];go_simp;exact hK _ _ rfl (Grew.refl _)
   ·refine Aa rfl ?_;intro bA K Q' hK;have e3:=hS 3 (by kernel_rfl);change ρ (.tmp 3)=_ at e3;obtain ⟨y1,⟨y2,y3,y4⟩,-⟩:=HCC.out w5 hR;simp only [execOp];go_simp;exact hK _ _ rfl (Grew.refl _)
   ·refine Aa rfl ?_;intro bA K Q' hK;have e44:=apG (hG 5 44);change ρ (.tmp 44)=_ at e44;simp only [execOp];go_simp;exact hK _ _ ⟨_,rfl,heap_alloc_new w5 _⟩ ((Grew.refl _).alloc _)
   ·refine Aa rfl ?_;intro bA K Q' hK;have e43:=apG (hG 4 43);have e45:=apG (hG 6 45);change ρ (.tmp 43)=_ at e43
    skip
    obtain ⟨bx,h8,hrx⟩:=e45;obtain ⟨v',w6,hr,ho',hgr⟩:=Ib (P:=Tryz.prog) (i:=i) (es:=es) w5 48 48 Tryz.underlying48 EZ (HCC.out w5 hR).2.2.2 (by have:=HN.out;omega) (by omega) hrx;refine FC (.tmp 43) (.tmp 45) 48 rfl e43 h8 hr ?_;refine hK _ _ (AV ho' hR.size) hgr
  ·intro vv w4 hR hG;have h7:w4.ownsRow w3.heap.size 65 3 (vv 7) (i+1) (Ak (es.take i++[((s,z),p)])):=hG.2;have hb:Below w3.heap.size w3 w4:=⟨hR.os,hR.tape,hR.output,hR.size,hR.block⟩
   have h7w:=AV h7 HB3.out.size;obtain ⟨v8,hv8⟩:∃ v8,v8=vv 7:=⟨_,rfl⟩
   rw [<- hv8] at h7w;obtain ⟨a8,c8,hs8,-⟩:=Dk h7w;rw [show (es.take i++[((s,z),p)]).length=i+1 by rw [List.length_append,List.length_take];have:=HN.out;simp;omega] at hs8;have HJ:Hid (BxJ w g #[.bool lf,.slice a n c] 114 (g+1+1) #[.bool false,.slice none 0 0] 114 w4/\w4.ownsRow w.heap.size 65 3 v8 (i+1) (Ak (es.take i++[((s,z),p)]))):=hid ⟨⟨HB3.out.trans (hb.mono HB3.out.size),Ac HX13.out hb,Ac HX33.out hb⟩,h7w⟩;subst hs8;clear hG hR hb HCC h7 h7w hic HX13 HX23 HX33 HB3;simp [stG,stU,Au,Act.put,<- hv8];clear hv8;have HCX:Hid (∀ x,BxJ w g #[.bool lf,.slice a n c] 114 (g+1+1) #[.bool false,.slice none 0 0] 114 x->x.cell? ⟨g,0,none⟩=some (.bool lf)):=hid fun x hx=>by
    rw [cell_of_row _ _ _ _ _ _ hx.2.1];rfl
   go_wp2_with fail
   refine Ej 5 4 (fun x=>BxJ w g #[.bool lf,.slice a n c] 114 (g+1+1) #[.bool false,.slice none 0 0] 114 x/\x.ownsRow w.heap.size 65 3 (.slice a8 (i+1) c8) (i+1) (Ak (es.take i++[((s,z),p)]))) (BxJ w g #[.bool lf,.slice a n c] 114 (g+1+1) #[.bool false,.slice none 0 0] 114) [] [EqN (.pointer (some ⟨g,0,none⟩)),EqN (.bool lf),EqN (.slice a8 (i+1) c8),EqN (.slice ab nb cb),(fun x v=>x.ownsRow w.heap.size 65 3 v (i+1+nb) (Ak ((es.take i++[((s,z),p)])++es.drop j)))] (by kernel_rfl) (by decide) (by kernel_rfl) (by kernel_rfl) (by decide) ?_ ?_ ?_ ?_ ?_ ?_
   ·exact ⟨BxJ.grew (BX w4 1) HJ.out.1,Ag (F:=fun _=>False) HJ.out.2 (Mv.of_below (BX w4 1)) fun _ _=>id⟩
   ·exact fun a b hg h=>⟨BxJ.grew hg h.1,Ag (F:=fun _=>False) h.2 (Mv.of_below hg) fun _ _=>id⟩
   ·exact fun a b=>BxJ.grew
   ·repeat' (first | exact List.forall_mem_nil _ | refine List.forall_mem_cons.2 ⟨?_,?_⟩)
    all_goals
     intro w w' v hw h
     first | exact h | exact Ag (F:=fun _=>False) h (Mv.of_below hw) fun _ _=>id
   ·simp only [AllLt];refine ⟨⟨⟨⟨⟨trivial,?_⟩,?_⟩,?_⟩,?_⟩,?_⟩
    all_goals
     intro o' ho;simp at ho;subst ho;intro ρ w5 hR hL hS hG;obtain ⟨hl1,hl2,-⟩:=hL
    ·refine Aa rfl ?_;intro bA K Q' hK;have e2:=hS 2 (by kernel_rfl);change ρ (.tmp 2)=_ at e2;simp only [execOp];go_simp;exact hK _ _ rfl (fun _=>Grew.refl _) (fun h=>absurd h (by decide))
    ·refine Aa rfl ?_;intro bA K Q' hK;have e47:=apG (hG 0 47);change ρ (.tmp 47)=_ at e47;have y0:=(HCX.out w5 (hR.any.elim (fun h=>h.1) id))
     simp only [execOp];go_simp;exact hK _ _ rfl (fun _=>Grew.refl _) (fun h=>absurd h (by decide))
    ·refine Aa rfl ?_;intro bA K Q' hK;have e10:=hS 10 (by kernel_rfl);change ρ (.tmp 10)=_ at e10;simp only [execOp];go_simp;exact hK _ _ rfl (fun _=>Grew.refl _) (fun h=>absurd h (by decide))
    ·refine Aa rfl ?_;intro bA K Q' hK;have e9:=hS 9 (by kernel_rfl);change ρ (.tmp 9)=_ at e9;simp only [execOp];go_simp;exact hK _ _ rfl (fun _=>Grew.refl _) (fun h=>absurd h (by decide))
    ·refine Aa rfl ?_;intro bA K Q' hK;have e49:=apG (hG 2 49);have e50:=apG (hG 3 50);change ρ (.tmp 49)=_ at e49;change ρ (.tmp 50)=_ at e50;obtain ⟨hj1,hj2⟩:=hR.ahead (by decide);obtain ⟨v',w6,hr,ho',hgr⟩:=EH (P:=Tryz.prog) w5 48 48 Tryz.underlying48 EZ hj2 (c:=cb) HNB.out.1 (HS.out _ hj1.1) (by omega) (by have:=HNB.out.2;omega) hj1.1.size;refine FC (.tmp 49) (.tmp 50) 48 rfl e49 e50 hr ?_;refine hK _ _ ho' (fun h=>absurd rfl h) (fun _=>⟨hj1.row hj2 hgr (Nat.le_refl _) (by decide) (by decide),?_⟩);simp only [AllLt];refine ⟨⟨⟨⟨⟨trivial,?_⟩,?_⟩,?_⟩,?_⟩,?_⟩
     iterate 4
      ·exact fun _ _ y hy=>hy
     ·exact fun hne _=>absurd rfl hne
   ·intro vv w5 hR hG;have h4:w5.ownsRow w.heap.size 65 3 (vv 4) (i+1+nb) (Ak ((es.take i++[((s,z),p)])++es.drop j)):=hG.2 (by decide);have hv1:vv 1=.bool lf:=hG.1.1.1.2 (by decide);obtain ⟨v9,hv9⟩:∃ v9,v9=vv 4:=⟨_,rfl⟩
    rw [<- hv9] at h4;obtain ⟨a9,c9,hs9,-⟩:=Dk h4;obtain ⟨L,hL⟩:∃ L,L=((es.take i++[((s,z),p)])++es.drop j).length:=⟨_,rfl⟩
    have HJ5:=hid hR;rw [<- hL] at hs9;subst hs9;have HROW:=hid h4;have HL:=hid hL;clear hG hR h4 hL HJ HCX;simp [stG,stU,Au,Act.put,<- hv9,hv1];clear hv9 hv1
    go_wp2_with (refine Ae rfl 114 _ _ rfl (g+1+1) #[.bool lf,.slice a9 L c9] rfl rfl 114 _ HJ5.out.2.2 (by kernel_rfl) rfl (by simp [Value.oneCell']) ?_)
    intro w6 hr6 hg6;have HB6:Hid (Below w.heap.size w w6):=hid (HJ5.out.1.grown hg6 HJ5.out.1.size fun k hk=>by have:=HG.out;cases hk;omega);have HR6:=hid hr6;have HRW6:=hid (HROW.out.kept hg6 (.inr (DV (by decide) HROW.out HJ5.out.2.2)));clear hr6 hg6 HROW HJ5
    go_wp2_with fail
    refine bodyPost_ret (v:=.tuple #[.agg #[.bool lf,.slice a9 L c9],.int .i64 0]) (Qo _ _ #[.bool lf,.slice a9 L c9] _ rfl HR6.out rfl) rfl ⟨⟨_,rfl,?_⟩,HB6.out⟩;have hlen:i+1+nb=(BN es ((s,z),p)).length:=by
     have h1:=HNB.out.1;rw [List.length_drop] at h1;rw [<- HINS.out,List.length_append,List.length_append,List.length_take,List.length_drop];have:=HN.out;simp;omega
    have h:=HRW6.out;rw [HINS.out,hlen] at h;have h9:NodeN 65 w.heap.size w6 (.agg #[.bool lf,.slice a9 L c9]) lf (BN es ((s,z),p)):=⟨_,rfl,h⟩
    refine h9.ndw ?_ fun e he=>JF (YL (badN_false.1 HBD.out.1) HOE.out e he);have h1:=Dp es ((s,z),p);have h2:=HLE.out;split at h1<;>omega
end Go.Proofs.YtfhdojnobmfefaaGreatDoor
namespace Go.Inc
open Go.RowKit
theorem FK:NdF (.agg #[.bool false,.slice none 0 0]):=⟨false,none,0,0,rfl⟩
theorem Ux {lf:Bool} {es:List Et} {e:Et} (h:AL lf es≠0):wiE lf es e=AL lf es:=if_pos h
theorem Uw {lf:Bool} {es:List Et} {e:Et} (h:AL lf es=0) (h2:okE e=false):wiE lf es e=10:=by
 unfold wiE;rw [if_neg (by rw [h];decide),if_pos h2]
theorem LK {lf:Bool} {es:List Et} {e:Et} (h:AL lf es=0) (h2:okE e=true) (h3:inK es e.1=false) (h4:16<=es.length):wiE lf es e=6:=by
 unfold wiE;rw [if_neg (by rw [h];decide),if_neg (by rw [h2];decide),if_pos ⟨h3,h4⟩]
theorem O7 {lf:Bool} {es:List Et} {e:Et} (h:AL lf es=0) (h2:okE e=true) (h3:inK es e.1=true\/es.length < 16):wiE lf es e=0:=by
 unfold wiE;rw [if_neg (by rw [h];decide),if_neg (by rw [h2];decide),if_neg];rintro ⟨h4,h5⟩;rcases h3 with h3 | h3
 ·rw [h3] at h4;cases h4
 ·omega
end Go.Inc
namespace Go.Proofs.YtfhdojnobmfefaaGreatDoor
open Go.RowKit Go.Inc
set_option maxRecDepth 20000 in
set_option maxHeartbeats 4000000 in
theorem Xz (a:Option Addr) (n c:Nat) (lf:Bool) (es:List Et) (s z p:Int) (w:World) (hnd:NdOk w a n c es) (hbad:wiE lf es ((s,z),p)≠0) :
  Calls Tryz.prog 111 #[.agg #[.bool lf,.slice a n c],.agg #[.int .i64 s,.int .i64 z,.int .i64 p]] w fun e w'=>e=.returned (.tuple #[.agg #[.bool false,.slice none 0 0],.int .i64 (wiE lf es ((s,z),p))])/\Below w.heap.size w w':=by
 have HN:=hid hnd.1;have HBAD:=hid hbad;obtain ⟨g,hg⟩:∃ g,g=w.heap.size:=⟨_,rfl⟩
 have HG:=hid hg;obtain ⟨w0,hw0⟩:∃ w0,w0=((w.alloc (.cells #[.bool lf,.slice a n c] 114)).alloc (.cells #[.int .i64 s,.int .i64 z,.int .i64 p] 65)).alloc (.cells #[.bool false,.slice none 0 0] 114):=⟨_,rfl⟩
 have HW0:=hid hw0;have HB0:Hid (Below w.heap.size w w0):=hid (by rw [hw0];exact (((Below.refl _ _).alloc (Nat.le_refl _) _).alloc (by simp) _).alloc (by simp;omega) _);have hx1:w0.heap[g]?=some (.cells #[.bool lf,.slice a n c] 114 (0,0)):=by rw [hw0,hg];exact Ac (heap_alloc2_old w _ _) (Ad _ _)
 have hx2:w0.heap[g+1]?=some (.cells #[.int .i64 s,.int .i64 z,.int .i64 p] 65 (0,0)):=by rw [hw0,hg];exact Ac (heap_alloc2_new w _ _) (Ad _ _)
 have hx3:w0.heap[g+1+1]?=some (.cells #[.bool false,.slice none 0 0] 114 (0,0)):=by
  rw [hw0,hg];have h:=heap_alloc_new ((w.alloc (.cells #[.bool lf,.slice a n c] 114)).alloc (.cells #[.int .i64 s,.int .i64 z,.int .i64 p] 65)) (.cells #[.bool false,.slice none 0 0] 114);simpa using h
 have HX1:=hid hx1;have HX2:=hid hx2;have HX3:=hid hx3;have HND:=hid hnd;obtain ⟨C,hC⟩:∃ C,C=AL lf es:=⟨_,rfl⟩
 have h7:=BJ a n c lf es w0 (hnd.below HB0.out);rw [<- hC] at h7;have HCK:=hid h7;obtain ⟨O,hO⟩:∃ O,O=okE ((s,z),p):=⟨_,rfl⟩
 have h8:=FW s z p;rw [<- hO] at h8;have HIW:=hid h8;have HC:=hid hC;have HO:=hid hO;obtain ⟨FF,hF⟩:∃ F,F=wiE lf es ((s,z),p):=⟨_,rfl⟩
 have HF:=hid hF;rw [<- hF];clear hnd hbad hg hw0 h7 h8 hC hO hF;have hc0:w0.cell? ⟨g,0,none⟩=some (.bool lf):=coR hx1;have hc1:w0.cell? ⟨g,1,none⟩=some (.slice a n c):=coR hx1;clear hx1 hx2 hx3
 go_enter Tryz.func111,Tryz.ntmps111
 go_upto_region 1 with fail
 rw [<- HW0.out,<- HG.out]
 go_wp2_with fail
 refine HCK.out.mono ?_;clear HCK;rintro e w1 ⟨rfl,hb⟩;have HB1:Hid (Below w.heap.size w w1):=hid (HB0.out.trans (hb.mono HB0.out.size));have hx1:=Ac HX1.out hb;have hx2:=Ac HX2.out hb;have HX31:=hid (Ac HX3.out hb);have HX11:=hid hx1;have HX21:=hid hx2;have hd0:w1.cell? ⟨g+1,0,none⟩=some (.int .i64 s):=coR hx2;have hd1:w1.cell? ⟨g+1,1,none⟩=some (.int .i64 z):=coR hx2;have hd2:w1.cell? ⟨g+1,2,none⟩=some (.int .i64 p):=coR hx2;clear hx1 hx2 hb hc0 hc1 HX1 HX2 HX3 HB0 HW0;by_cases hC0:C=0
 ·have HC0:=hid hC0;have hcc:((C:Int) != 0)=false:=by rw [hC0];rfl
  have hcc2:(C=0)=True:=eq_true hC0;clear hC0
  go_wp2_with fail
  refine (HIW.out w1).mono ?_;clear HIW hcc hcc2;rintro e w2 ⟨rfl,hb⟩;have HB2:Hid (Below w.heap.size w w2):=hid (HB1.out.trans (hb.mono HB1.out.size));have hx1:=Ac HX11.out hb;have hx2:=Ac HX21.out hb;have HX32:=hid (Ac HX31.out hb);have HX12:=hid hx1;have HX22:=hid hx2;clear hd0 hd1 hd2 hb HX11 HX21 HX31 HB1;cases O with
  | false=>
   have HFF:Hid (FF=10):=hid (HF.out.trans (Uw (HC.out.symm.trans HC0.out) HO.out.symm));clear hx1 hx2
   go_wp2_with (refine Ae rfl 114 _ _ rfl (g+1+1) #[.bool false,.slice none 0 0] rfl rfl 114 _ HX32.out (by kernel_rfl) rfl (by simp [Value.oneCell']) ?_)
   intro w9 hr9 hg9;have HB9:Hid (Below w.heap.size w w9):=hid (HB2.out.grown hg9 HB2.out.size fun k hk=>by have:=HG.out;cases hk;omega);have HR9:=hid hr9;clear hr9 hg9
   go_wp2_with fail
   refine bodyPost_ret (v:=.tuple #[.agg #[.bool false,.slice none 0 0],.int .i64 10]) (Qo _ _ #[.bool false,.slice none 0 0] _ rfl HR9.out rfl) rfl ⟨?_,HB9.out⟩;rw [HFF.out]
  | true=>
   obtain ⟨c1,c2,c3,-⟩:=Ba (HC.out.symm.trans HC0.out);have hln:(n:Int)<=16:=by have:=HN.out;omega
   have hncn:=HND.out.2.2.2.2.1.1;have hnc:(n:Int)<=c:=by omega
   have HFD:=hid (Gu a n c lf es s z w2 (HND.out.below HB2.out) c1 c2 c3);have HLE:=hid c1;have HBD:=hid c2;have hd0:w2.cell? ⟨g+1,0,none⟩=some (.int .i64 s):=coR hx2;have hd1:w2.cell? ⟨g+1,1,none⟩=some (.int .i64 z):=coR hx2;have hc0:w2.cell? ⟨g,0,none⟩=some (.bool lf):=coR hx1;have hc1:w2.cell? ⟨g,1,none⟩=some (.slice a n c):=coR hx1;clear hx1 hx2 c1 c2 c3 hncn
   go_wp2_with fail
   refine HFD.out.mono ?_;clear HFD;rintro e w3 ⟨⟨i,B,rfl,hf⟩,hb⟩;have HB3:Hid (Below w.heap.size w w3):=hid (HB2.out.trans (hb.mono HB2.out.size));have hx1:=Ac HX12.out hb;have HX33:=hid (Ac HX32.out hb);have hin:(i:Int)<=n:=by have:=hf.1;have:=HN.out;omega
   have HIS:=hid (hf.is HBD.out);clear hd0 hd1 hc0 hc1 hb HX12 HX22 HX32 HB2 hf;have hc1:w3.cell? ⟨g,1,none⟩=some (.slice a n c):=coR hx1;clear hx1;cases B with
   | true=>exact absurd (O7 (HC.out.symm.trans HC0.out) HO.out.symm (.inl HIS.out.symm)) HBAD.out
   | false=>
    have h16:16<=es.length:=Nat.le_of_not_lt fun h=>HBAD.out (O7 (HC.out.symm.trans HC0.out) HO.out.symm (.inr h));have HFF:Hid (FF=6):=hid (HF.out.trans (LK (HC.out.symm.trans HC0.out) HO.out.symm HIS.out.symm h16));have hn16:((n:Int) == 16)=true:=by rw [beq_iff_eq];have:=HN.out;have:=HLE.out;omega
    have hn16':(n=16)=True:=eq_true (by have:=HN.out;have:=HLE.out;omega);obtain ⟨ab,hab⟩:∃ ab,(if c=i then a else a.map fun x=>x.add (i * 3))=ab:=⟨_,rfl⟩
    clear h16
    go_upto_region 11 with fail
    clear hn16 hn16' hln hab
    go_wp2_with (refine Ae rfl 114 _ _ rfl (g+1+1) #[.bool false,.slice none 0 0] rfl rfl 114 _ HX33.out (by kernel_rfl) rfl (by simp [Value.oneCell']) ?_)
    intro w9 hr9 hg9;have HB9:Hid (Below w.heap.size w w9):=hid (HB3.out.grown hg9 HB3.out.size fun k hk=>by have:=HG.out;cases hk;omega);have HR9:=hid hr9;clear hr9 hg9
    go_wp2_with fail
    refine bodyPost_ret (v:=.tuple #[.agg #[.bool false,.slice none 0 0],.int .i64 6]) (Qo _ _ #[.bool false,.slice none 0 0] _ rfl HR9.out rfl) rfl ⟨?_,HB9.out⟩;rw [HFF.out]
 ·have hcc:((C:Int) != 0)=true:=by rw [bne_iff_ne];exact hC0
  have hcc2:(C=0)=False:=eq_false hC0;have HFF:Hid (FF=C):=hid (HF.out.trans ((Ux (by rw [<- HC.out];exact hC0)).trans HC.out.symm));clear hC0 hd0 hd1 hd2
  go_wp2_with (refine Ae rfl 114 _ _ rfl (g+1+1) #[.bool false,.slice none 0 0] rfl rfl 114 _ HX31.out (by kernel_rfl) rfl (by simp [Value.oneCell']) ?_)
  intro w9 hr9 hg9;have HB9:Hid (Below w.heap.size w w9):=hid (HB1.out.grown hg9 HB1.out.size fun k hk=>by have:=HG.out;cases hk;omega);have HR9:=hid hr9;clear hr9 hg9
  go_wp2_with fail
  refine bodyPost_ret (v:=.tuple #[.agg #[.bool false,.slice none 0 0],.int .i64 C]) (Qo _ _ #[.bool false,.slice none 0 0] _ rfl HR9.out rfl) rfl ⟨?_,HB9.out⟩;rw [HFF.out]
theorem LJ (a:Option Addr) (n c:Nat) (lf:Bool) (es:List Et) (s z p:Int) (w:World) (hnd:NdOk w a n c es) (_:ET ((s,z),p)) :
  Calls Tryz.prog 111 #[.agg #[.bool lf,.slice a n c],.agg #[.int .i64 s,.int .i64 z,.int .i64 p]] w fun e w'=>(∃ v,e=.returned (.tuple #[v,.int .i64 (wiE lf es ((s,z),p))])/\NdF v/\(wiE lf es ((s,z),p)=0->NdW 65 w.heap.size w' v lf (BN es ((s,z),p))))/\Below w.heap.size w w':=by
 by_cases h0:wiE lf es ((s,z),p)=0
 ·have hck:AL lf es=0:=by
   by_cases h:AL lf es=0
   ·exact h
   ·rw [Ux h] at h0;exact h0
  have hok:okE ((s,z),p)=true:=by
   cases h:okE ((s,z),p)
   ·rw [Uw hck h] at h0;exact absurd h0 (by decide)
   ·rfl
  rw [h0];cases hi:inK es (s,z)
  ·have hl:es.length < 16:=Nat.lt_of_not_le fun h=>absurd ((LK hck hok hi h).symm.trans h0) (by decide);refine (Xy a n c lf es s z p w hnd hck hok hi hl).mono ?_;rintro e w' ⟨⟨v,rfl,hv⟩,hb⟩;obtain ⟨a',n',c',rfl,h⟩:=hv;exact ⟨⟨_,rfl,⟨_,_,_,_,rfl⟩,fun _=>⟨a',n',c',rfl,h⟩⟩,hb⟩
  ·refine (ZZ a n c lf es s z p w hnd hck hok hi).mono ?_;rintro e w' ⟨⟨v,rfl,hv⟩,hb⟩;obtain ⟨a',n',c',rfl,h⟩:=hv;exact ⟨⟨_,rfl,⟨_,_,_,_,rfl⟩,fun _=>⟨a',n',c',rfl,h⟩⟩,hb⟩
 ·refine (Xz a n c lf es s z p w hnd h0).mono ?_;rintro e w' ⟨rfl,hb⟩;exact ⟨⟨_,rfl,FK,fun h=>absurd h h0⟩,hb⟩
end Go.Proofs.YtfhdojnobmfefaaGreatDoor
namespace Go.Inc
open Go.RowKit
def BoxTwo (x:World) (v:Value) (a:Option Addr) (n c:Nat) (b:Option Addr) (m d:Nat) (T:TypeId):Prop:=∃ q,v=.slice (some ⟨q,0,none⟩) 2 2/\x.heap[q]?=some (.cells #[.slice a n c,.slice b m d] T (0,0))
theorem BoxTwo.grew {x y:World} {v:Value} {a b:Option Addr} {n c m d:Nat} {T:TypeId} (hg:Grew x y) (h:BoxTwo x v a n c b m d T):BoxTwo y v a n c b m d T:=by
 obtain ⟨q,h1,h2⟩:=h;exact ⟨q,h1,Ac h2 hg⟩
theorem ZY {lf:Bool} {es:List Et} {k:Ky} (h:AL lf es≠0):woE lf es k=AL lf es:=if_pos h
theorem Xx {lf:Bool} {es:List Et} {k:Ky} (h:AL lf es=0) (h2:inK es k=false):woE lf es k=7:=by
 unfold woE;rw [if_neg (by rw [h];decide),if_pos h2]
theorem Xw {lf:Bool} {es:List Et} {k:Ky} (h:AL lf es=0) (h2:inK es k=true):woE lf es k=0:=by
 unfold woE;rw [if_neg (by rw [h];decide),if_neg (by rw [h2];decide)]
theorem VQ {es:List Et} {k:Ky} (h:∀ x∈es,ET x):∀ x∈Eo es k,ET x:=fun x hx=>by
 rcases List.mem_append.1 hx with h1 | h1
 ·exact h x (List.mem_of_mem_take h1)
 ·exact h x (List.mem_of_mem_drop h1)
end Go.Inc
namespace Go.Proofs.YtfhdojnobmfefaaGreatDoor
open Go.RowKit Go.Inc
theorem Yc (w:World) (g:Nat) (cs:Array Value) (tmps:Array Value) (h2:tmps.getD 4 undef=.pointer (some ⟨g,0,none⟩)) (hg:w.heap[g]?=some (.cells cs 114 (0,0))) (hs:cs.size=2) :
  (results Tryz.f113 tmps).run Tryz.prog w=.ok (.tuple #[.agg cs,tmps.getD 5 undef]) w:=
 CS rfl tmps w g 114 cs (0,0) _ h2 hg Tryz.underlying114 rfl (by rw [hs];kernel_rfl)
set_option maxRecDepth 20000 in
set_option maxHeartbeats 4000000 in
theorem LH (a:Option Addr) (n c:Nat) (lf:Bool) (es:List Et) (s z:Int) (w:World) (hnd:NdOk w a n c es) (_:Nl (s,z)) :
  Calls Tryz.prog 113 #[.agg #[.bool lf,.slice a n c],.agg #[.int .i64 s,.int .i64 z]] w fun e w'=>(∃ v,e=.returned (.tuple #[v,.int .i64 (woE lf es (s,z))])/\NdF v/\(woE lf es (s,z)=0->NdW 65 w.heap.size w' v lf (Eo es (s,z))))/\Below w.heap.size w w':=by
 have HN:=hid hnd.1;obtain ⟨g,hg⟩:∃ g,g=w.heap.size:=⟨_,rfl⟩
 have HG:=hid hg;obtain ⟨w0,hw0⟩:∃ w0,w0=((w.alloc (.cells #[.bool lf,.slice a n c] 114)).alloc (.cells #[.int .i64 s,.int .i64 z] 42)).alloc (.cells #[.bool false,.slice none 0 0] 114):=⟨_,rfl⟩
 have HW0:=hid hw0;have HB0:Hid (Below w.heap.size w w0):=hid (by rw [hw0];exact (((Below.refl _ _).alloc (Nat.le_refl _) _).alloc (by simp) _).alloc (by simp;omega) _);have hx1:w0.heap[g]?=some (.cells #[.bool lf,.slice a n c] 114 (0,0)):=by rw [hw0,hg];exact Ac (heap_alloc2_old w _ _) (Ad _ _)
 have hx2:w0.heap[g+1]?=some (.cells #[.int .i64 s,.int .i64 z] 42 (0,0)):=by rw [hw0,hg];exact Ac (heap_alloc2_new w _ _) (Ad _ _)
 have hx3:w0.heap[g+1+1]?=some (.cells #[.bool false,.slice none 0 0] 114 (0,0)):=by
  rw [hw0,hg];have h:=heap_alloc_new ((w.alloc (.cells #[.bool lf,.slice a n c] 114)).alloc (.cells #[.int .i64 s,.int .i64 z] 42)) (.cells #[.bool false,.slice none 0 0] 114);simpa using h
 have HX1:=hid hx1;have HX2:=hid hx2;have HX3:=hid hx3;have HND:=hid hnd;obtain ⟨C,hC⟩:∃ C,C=AL lf es:=⟨_,rfl⟩
 have h7:=BJ a n c lf es w0 (hnd.below HB0.out);rw [<- hC] at h7;have HCK:=hid h7;have HC:=hid hC;obtain ⟨FF,hF⟩:∃ F,F=woE lf es (s,z):=⟨_,rfl⟩
 have HF:=hid hF;rw [<- hF];clear hnd hg hw0 h7 hC hF;have hc0:w0.cell? ⟨g,0,none⟩=some (.bool lf):=coR hx1;have hc1:w0.cell? ⟨g,1,none⟩=some (.slice a n c):=coR hx1;clear hx1 hx2 hx3
 go_enter Tryz.func113,Tryz.ntmps113
 go_upto_region 1 with fail
 rw [<- HW0.out,<- HG.out]
 go_wp2_with fail
 refine HCK.out.mono ?_;clear HCK;rintro e w1 ⟨rfl,hb⟩;have HB1:Hid (Below w.heap.size w w1):=hid (HB0.out.trans (hb.mono HB0.out.size));have hx1:=Ac HX1.out hb;have hx2:=Ac HX2.out hb;have HX31:=hid (Ac HX3.out hb);have HX11:=hid hx1;have HX21:=hid hx2;clear hb hc0 hc1 HX1 HX2 HX3 HB0 HW0;by_cases hC0:C=0
 ·have HC0:=hid hC0;have hcc:((C:Int) != 0)=false:=by rw [hC0];rfl
  have hcc2:(C=0)=True:=eq_true hC0;obtain ⟨c1,c2,c3,-⟩:=Ba (HC.out.symm.trans HC0.out);have hln:(n:Int)<=16:=by have:=HN.out;omega
  have hncn:=HND.out.2.2.2.2.1.1;have hnc:(n:Int)<=c:=by omega
  have HFD:=hid (Gu a n c lf es s z w1 (HND.out.below HB1.out) c1 c2 c3);have HLE:=hid c1;have HBD:=hid c2;have hd0:w1.cell? ⟨g+1,0,none⟩=some (.int .i64 s):=coR hx2;have hd1:w1.cell? ⟨g+1,1,none⟩=some (.int .i64 z):=coR hx2;have hc0:w1.cell? ⟨g,0,none⟩=some (.bool lf):=coR hx1;have hc1:w1.cell? ⟨g,1,none⟩=some (.slice a n c):=coR hx1;clear hx1 hx2 c1 c2 c3 hC0
  go_wp2_with fail
  refine HFD.out.mono ?_;clear HFD hcc hcc2;rintro e w3 ⟨⟨i,B,rfl,hf⟩,hb⟩;have HB3:Hid (Below w.heap.size w w3):=hid (HB1.out.trans (hb.mono HB1.out.size));have HX13:=hid (Ac HX11.out hb);have HX33:=hid (Ac HX31.out hb);have hin:(i:Int)<=n:=by have:=hf.1;have:=HN.out;omega
  have HIS:=hid (hf.is HBD.out);have HFD:=hid hf;clear hd0 hd1 hc0 hc1 hb HX11 HX21 HX31 HB1 hf;cases B with
  | false=>
   have HFF:Hid (FF=7):=hid (HF.out.trans (Xx (HC.out.symm.trans HC0.out) HIS.out.symm))
   go_wp2_with (refine Ae rfl 114 _ _ rfl (g+1+1) #[.bool false,.slice none 0 0] rfl rfl 114 _ HX33.out (by kernel_rfl) rfl (by simp [Value.oneCell']) ?_)
   intro w9 hr9 hg9;have HB9:Hid (Below w.heap.size w w9):=hid (HB3.out.grown hg9 HB3.out.size fun k hk=>by have:=HG.out;cases hk;omega);have HR9:=hid hr9;clear hr9 hg9
   go_wp2_with fail
   refine bodyPost_ret (v:=.tuple #[.agg #[.bool false,.slice none 0 0],.int .i64 7]) (Yc _ _ #[.bool false,.slice none 0 0] _ rfl HR9.out rfl) rfl ⟨?_,HB9.out⟩;rw [HFF.out];exact ⟨_,rfl,FK,fun h=>absurd h (by decide)⟩
  | true=>
   have HFF:Hid (FF=0):=hid (HF.out.trans (Xw (HC.out.symm.trans HC0.out) HIS.out.symm));have hok:okK (s,z)=true:=by
    cases hk:okK (s,z)
    ·have:=QS HBD.out hk;rw [this] at HIS;exact absurd HIS.out (by decide)
    ·rfl
   obtain ⟨e1,-⟩:=HFD.out.ok hok;have hil:=(Ij HIS.out.symm).1;rw [<- e1] at hil;obtain ⟨b,o,rfl,-⟩:=HND.out.2.1.cell (i:=i) hil;obtain ⟨j,hj⟩:∃ j,j=i+1:=⟨_,rfl⟩
   have hjn:(j:Int)<=n:=by have:=HN.out;omega
   have hjc:(j:Int)<=c:=by omega
   obtain ⟨ob,hob⟩:∃ ob,ob=o+j * 3:=⟨_,rfl⟩
   have hob2:o+j * 3=ob:=hob.symm;obtain ⟨ab,hab⟩:∃ ab,(if c=j then (some ⟨b,o,none⟩:Option Addr) else some ⟨b,ob,none⟩)=ab:=⟨_,rfl⟩
   obtain ⟨nb,hnb⟩:∃ nb,n - j=nb:=⟨_,rfl⟩
   obtain ⟨cb,hcb⟩:∃ cb,c - j=cb:=⟨_,rfl⟩
   have HS0:=hid HND.out.2.1;have HS:Hid (∀ y:World,Below w3.heap.size w3 y->EtS (fun _=>True) y ab (es.drop j)):=hid fun y hy=>by
    refine ((HS0.out.below HB3.out).below hy).back j ab fun hlt9=>?_;have hne:¬ c=j:=by have:=HN.out;omega
    rw [<- hab,if_neg hne,<- hob2];simp [Addr.add];omega
   have HNB:Hid (nb=(es.drop j).length/\nb<=16):=hid (by rw [List.length_drop];have:=HN.out;omega);have HREM:Hid (es.take i++es.drop j=Eo es (s,z)):=hid (by
    unfold Eo;rw [hj,e1])
   have HJ:=hid hj;have HAB:=hid (And.intro hab (And.intro hob2 (And.intro hnb hcb)));clear hil hob hj hab hob2 hnb hcb e1 hok
   go_upto_region 7 with fail
   have HCC:Hid (∀ x,Grew w3.drew x->x.cell? ⟨g,0,none⟩=some (.bool lf)/\x.cell? ⟨g,1,none⟩=some (.slice (some ⟨b,o,none⟩) n c)/\Below w3.heap.size w3 x/\EtS (fun _=>True) x (some ⟨b,o,none⟩) es):=hid fun x hg=>by
    have hb:Below w3.heap.size w3 x:=⟨hg.os,hg.tape,hg.output,hg.size,hg.block⟩
    have r1:=Ac HX13.out hb;exact ⟨by rw [cell_of_row _ _ _ _ _ _ r1];rfl,by rw [cell_of_row _ _ _ _ _ _ r1];rfl,hb,HS0.out.below (HB3.out.trans (hb.mono HB3.out.size))⟩
   have hic:(i:Int)<=c:=by omega
   refine Ai 13 [EqN (.pointer (some ⟨g,0,none⟩)),EqN (.bool lf),EqN (.pointer (some ⟨g,1,none⟩)),EqN (.slice (some ⟨b,o,none⟩) n c),EqN (.int .i64 (i:Int)),EqN (.slice (some ⟨b,o,none⟩) i c),EqN (.pointer (some ⟨g,1,none⟩)),EqN (.slice (some ⟨b,o,none⟩) n c),EqN (.int .i64 (i:Int)),EqN (.int .i64 (j:Int)),EqN (.slice ab nb cb),(fun x v=>BoxTwo x v (some ⟨b,o,none⟩) i c ab nb cb 48),(fun x v=>x.ownsRow w3.heap.size 65 3 v (i+nb) (Ak (es.take i++es.drop j)))] (by kernel_rfl) (by decide) (by kernel_rfl) ?_ ?_ ?_
   ·repeat' (first | exact List.forall_mem_nil _ | refine List.forall_mem_cons.2 ⟨?_,?_⟩)
    all_goals
     intro w w' v hw h
     first | exact h | exact BoxTwo.grew hw h | exact Ag (F:=fun _=>False) h (Mv.of_below hw) fun _ _=>id
   ·simp only [AllLt];refine ⟨⟨⟨⟨⟨⟨⟨⟨⟨⟨⟨⟨⟨trivial,?_⟩,?_⟩,?_⟩,?_⟩,?_⟩,?_⟩,?_⟩,?_⟩,?_⟩,?_⟩,?_⟩,?_⟩,?_⟩
    all_goals
     intro o' ho;simp at ho;subst ho;intro ρ w5 hR hL hS hG;obtain ⟨hl1,hl2,-⟩:=hL
    ·refine Aa rfl ?_;intro bA K Q' hK;have e2:=hS 2 (by kernel_rfl);change ρ (.tmp 2)=_ at e2;simp only [execOp];go_simp;exact hK _ _ rfl (Grew.refl _)
    ·refine Aa rfl ?_;intro bA K Q' hK;have e24:=apG (hG 0 24);change ρ (.tmp 24)=_ at e24;obtain ⟨y0,y1,-⟩:=HCC.out w5 hR;simp only [execOp];go_simp;exact hK _ _ rfl (Grew.refl _)
    ·refine Aa rfl ?_;intro bA K Q' hK;have e2:=hS 2 (by kernel_rfl);change ρ (.tmp 2)=_ at e2;simp only [execOp];go_simp;exact hK _ _ rfl (Grew.refl _)
    ·refine Aa rfl ?_;intro bA K Q' hK;have e26:=apG (hG 2 26);change ρ (.tmp 26)=_ at e26;obtain ⟨y0,y1,-⟩:=HCC.out w5 hR;simp only [execOp];go_simp;exact hK _ _ rfl (Grew.refl _)
    ·refine Aa rfl ?_;intro bA K Q' hK;have e7:=hS 7 (by kernel_rfl);change ρ (.tmp 7)=_ at e7;simp only [execOp];go_simp;exact hK _ _ rfl (Grew.refl _)
    ·refine Aa rfl ?_;intro bA K Q' hK;have e27:=apG (hG 3 27);have e28:=apG (hG 4 28);change ρ (.tmp 27)=_ at e27;change ρ (.tmp 28)=_ at e28;simp only [execOp];go_simp;exact hK _ _ rfl (Grew.refl _)
    ·refine Aa rfl ?_;intro bA K Q' hK;have e2:=hS 2 (by kernel_rfl);change ρ (.tmp 2)=_ at e2;simp only [execOp];go_simp;exact hK _ _ rfl (Grew.refl _)
    ·refine Aa rfl ?_;intro bA K Q' hK;have e30:=apG (hG 6 30);change ρ (.tmp 30)=_ at e30;obtain ⟨y0,y1,-⟩:=HCC.out w5 hR;simp only [execOp];go_simp;exact hK _ _ rfl (Grew.refl _)
    ·refine Aa rfl ?_;intro bA K Q' hK;have e7:=hS 7 (by kernel_rfl);change ρ (.tmp 7)=_ at e7;simp only [execOp];go_simp;exact hK _ _ rfl (Grew.refl _)
    ·refine Aa rfl ?_;intro bA K Q' hK;have e32:=apG (hG 8 32);change ρ (.tmp 32)=_ at e32;simp only [execOp];go_simp;refine hK _ _ ?_ (Grew.refl _);show Value.int _ _=Value.int _ _;have hj1:(j:Int)=(i:Int)+1:=by rw [HJ.out];push_cast;rfl
     rw [hj1,show IntKind.i64.wrap ((i:Int)+1)=(i:Int)+1 by rw [IntKind.wrap_i64];omega]
    ·refine Aa rfl ?_;intro bA K Q' hK;have e31:=apG (hG 7 31);have e33:=apG (hG 9 33);change ρ (.tmp 31)=_ at e31;change ρ (.tmp 33)=_ at e33;have hab:=HAB.out.1;have hob2:=HAB.out.2.1;have hnb:=HAB.out.2.2.1;have hcb:=HAB.out.2.2.2;simp only [execOp];go_simp;exact hK _ _ rfl (Grew.refl _)
    ·refine Aa rfl ?_;intro bA K Q' hK;have e29:=apG (hG 5 29);have e34:=apG (hG 10 34);change ρ (.tmp 29)=_ at e29;change ρ (.tmp 34)=_ at e34;simp only [execOp];go_simp;exact hK _ _ ⟨_,rfl,heap_alloc_new w5 _⟩ ((Grew.refl _).alloc _)
    ·refine Aa rfl ?_;intro bA K Q' hK;have e35:=apG (hG 11 35);obtain ⟨q,e35',hq⟩:=e35;change ρ (.tmp 35)=_ at e35';simp only [execOp];go_simp;refine (Uc (ok:=fun _=>True) (ok':=fun _=>True) (some ⟨b,o,none⟩) ab i nb c cb q (es.take i) (es.drop j) w5 _ hq ((HCC.out w5 hR).2.2.2.front i) (HS.out _ (HCC.out w5 hR).2.2.1) (by rw [List.length_take];have:=HN.out;omega) HNB.out.1 ⟨by omega,by have:=HNB.out.2;omega⟩).mono ?_;rintro r9 w9 ⟨⟨v9,rfl,h9⟩,hb9⟩;exact hK _ _ (AV h9 hR.size) hb9
   ·intro vv w4 hR hG;have hv1:vv 1=.bool lf:=hG.1.1.1.1.1.1.1.1.1.1.1.2;have h12:w4.ownsRow w3.heap.size 65 3 (vv 12) (i+nb) (Ak (es.take i++es.drop j)):=hG.2;have hb:Below w3.heap.size w3 w4:=⟨hR.os,hR.tape,hR.output,hR.size,hR.block⟩
    obtain ⟨v9,hv9⟩:∃ v9,v9=vv 12:=⟨_,rfl⟩
    rw [<- hv9] at h12;obtain ⟨a9,c9,hs9,-⟩:=Dk h12;obtain ⟨L,hL⟩:∃ L,L=(es.take i++es.drop j).length:=⟨_,rfl⟩
    rw [<- hL] at hs9;subst hs9;have HROW:=hid (AV h12 HB3.out.size);have HL:=hid hL;have HB4:Hid (Below w.heap.size w w4):=hid (HB3.out.trans (hb.mono HB3.out.size));have HX4:=hid (Ac HX33.out hb);clear hG hR h12 hL HCC hb HX13 HX33;simp [stG,stU,Au,Act.put,<- hv9,hv1];clear hv9 hv1
    go_wp2_with (refine Ae rfl 114 _ _ rfl (g+1+1) #[.bool lf,.slice a9 L c9] rfl rfl 114 _ HX4.out (by kernel_rfl) rfl (by simp [Value.oneCell']) ?_)
    intro w6 hr6 hg6;have HB6:Hid (Below w.heap.size w w6):=hid (HB4.out.grown hg6 HB4.out.size fun k hk=>by have:=HG.out;cases hk;omega);have HR6:=hid hr6;have HRW6:=hid (HROW.out.kept hg6 (.inr (DV (by decide) HROW.out HX4.out)));clear hr6 hg6 HROW HX4
    go_wp2_with fail
    refine bodyPost_ret (v:=.tuple #[.agg #[.bool lf,.slice a9 L c9],.int .i64 0]) (Yc _ _ #[.bool lf,.slice a9 L c9] _ rfl HR6.out rfl) rfl ⟨?_,HB6.out⟩;rw [HFF.out];refine ⟨_,rfl,⟨_,_,_,_,rfl⟩,fun _=>?_⟩;have hlen:i+nb=(Eo es (s,z)).length:=by
     have h1:=HNB.out.1;rw [List.length_drop] at h1;rw [<- HREM.out,List.length_append,List.length_take,List.length_drop];have:=HN.out;omega
    have h:=HRW6.out;rw [HREM.out,hlen] at h;have h9:NodeN 65 w.heap.size w6 (.agg #[.bool lf,.slice a9 L c9]) lf (Eo es (s,z)):=⟨_,rfl,h⟩
    refine h9.ndw ?_ (VQ HND.out.2.2.2.1);have h2:=HNB.out.2;omega
 ·have hcc:((C:Int) != 0)=true:=by rw [bne_iff_ne];exact hC0
  have hcc2:(C=0)=False:=eq_false hC0;have HFF:Hid (FF=C/\C≠0):=hid ⟨HF.out.trans ((ZY (by rw [<- HC.out];exact hC0)).trans HC.out.symm),hC0⟩;clear hC0 hx1 hx2
  go_wp2_with (refine Ae rfl 114 _ _ rfl (g+1+1) #[.bool false,.slice none 0 0] rfl rfl 114 _ HX31.out (by kernel_rfl) rfl (by simp [Value.oneCell']) ?_)
  intro w9 hr9 hg9;have HB9:Hid (Below w.heap.size w w9):=hid (HB1.out.grown hg9 HB1.out.size fun k hk=>by have:=HG.out;cases hk;omega);have HR9:=hid hr9;clear hr9 hg9
  go_wp2_with fail
  refine bodyPost_ret (v:=.tuple #[.agg #[.bool false,.slice none 0 0],.int .i64 C]) (Yc _ _ #[.bool false,.slice none 0 0] _ rfl HR9.out rfl) rfl ⟨?_,HB9.out⟩;rw [HFF.out.1];exact ⟨_,rfl,FK,fun h=>absurd h HFF.out.2⟩
end Go.Proofs.YtfhdojnobmfefaaGreatDoor
