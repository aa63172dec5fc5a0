/- MADE SMALL. -/
import Derived.Test.YtfhdojnobmfefaaGreatDoorG16
import Derived.Test.YtfhdojnobmfefaaGreatDoorG15
import Derived.Test.YtfhdojnobmfefaaGreatDoorG22
import Derived.Deep.CutBlock
namespace Go.Proofs.YtfhdojnobmfefaaGreatDoor
open Go.RowKit Go.Inc
section
variable {C:Nat->Nat} {w:World} {g p n:Nat} {S:St}
set_option maxHeartbeats 2000000 in
theorem RX (h:Dv C w g p n S) (ok:Nat->Prop) (k e:Int) (pg:Nat) (a:Option Addr) (c:Nat) (bs:List Nat) (hs:Sl ok w a bs) (hby:Bytes bs) (hc:bs.length<=c/\c<=maxLen) (hn:a=none->c=0) (h0:chk ⟨k,e,(pg:Int),bs⟩=0) (ho:S.on=true) (hp:pg < p) (hsp:EF S.armed S.left=true) (hnn:n<=1000000) (hsn:S.s<=1000000) :
  Calls Tryz.prog 160 #[.pointer (some ⟨g,0,none⟩),.agg #[.int .i64 k,.int .i64 e,.int .i64 (pg:Int),.slice a bs.length c]] w fun r w'=>r=.returned (.int .i64 0)/\(∃ C',Dv C' w' g p (n+1) (KO S pg (enc ⟨k,e,(pg:Int),bs⟩))/\Ext w C C')/\Mv (fun b=>C b≠0) w w':=by
 have hb:=(Below.refl w.heap.size w).alloc (Nat.le_refl _) (.cells #[.int .i64 k,.int .i64 e,.int .i64 (pg:Int),.slice a bs.length c] 233);have HE:=hid (Ob ok k e pg a c bs _ (hs.below hb) hby hc hn);have hrow:=heap_alloc_new w (.cells #[.int .i64 k,.int .i64 e,.int .i64 (pg:Int),.slice a bs.length c] 233);have HROW:=hid hrow;have HD0:=hid h;have HD:=hid (h.below hb);have HB:=hid hb;have HO:=hid ho;have HP:=hid hp;have H0:=hid h0;have HX:=hid (And.intro hsp (And.intro hnn hsn));have HL:Hid ((enc ⟨k,e,(pg:Int),bs⟩).length=256):=hid (Vj ((JR _).1 h0).2.2.2.2.2.2);clear hs hby hc hn hb h0 h hrow ho hp hsp hnn hsn
 go_enter Tryz.func160,Tryz.ntmps160
 go_wp2_with fail
 refine HE.out.mono ?_;rintro r w1 ⟨⟨v,rfl,hv⟩,hb1⟩;rw [H0.out,if_pos rfl] at hv;rw [H0.out];obtain ⟨a1,c1,rfl,hs1,hlc1,hm1,hn1⟩:=hv;have HB1:Hid (Below w.heap.size w w1):=hid (HB.out.trans (hb1.mono HB.out.size));have hrow1:w1.heap[w.heap.size]?=_:=Ac HROW.out hb1;have q2:=cell_of_row w1 _ 2 _ _ _ hrow1;have HD1:=hid (HD.out.below hb1);have HW:=hid (Y7 HD1.out pg HP.out (fun b=>w.heap.size<=b) a1 c1 (enc ⟨k,e,(pg:Int),bs⟩) (hs1.mono fun b h _=>Nat.le_trans HB.out.size h) (fun b hb=>HD0.out.new hb) HL.out HO.out HX.out.1 HX.out.2.1 HX.out.2.2);rw [HL.out];clear hs1 hlc1 hm1 hn1 hb1 hrow1 HE HD HROW
 go_wp2_with fail
 refine HW.out.mono ?_;rintro r w2 ⟨rfl,⟨C',hd2,hx2⟩,hm2⟩;have HD2:=hid hd2;have HM2:Hid (Mv (fun b=>C b≠0) w w2):=hid ((Mv.of_below (F:=fun b=>C b≠0) HB1.out).trans hm2);have HEX:Hid (Ext w C C'):=hid fun b hb=>hx2 b (Nat.lt_of_lt_of_le hb HB1.out.size);clear hd2 hx2 hm2 HW q2
 go_wp2_with fail
 go_ret
 exact ⟨rfl,⟨C',HD2.out,HEX.out⟩,HM2.out⟩
theorem gI (w:World) (g:Nat) (cs:Array Value) (tmps:Array Value) (h2:tmps.getD 6 undef=.pointer (some ⟨g,0,none⟩)) (hg:w.heap[g]?=some (.cells cs 233 (0,0))) (hs:cs.size=4) :
  (results Tryz.f148 tmps).run Tryz.prog w=.ok (.tuple #[.agg cs,tmps.getD 7 undef]) w:=
 GL rfl tmps w g 233 cs (0,0) _ h2 hg Tryz.underlying233 rfl (by rw [hs];kernel_rfl)
end
end Go.Proofs.YtfhdojnobmfefaaGreatDoor
namespace Go.Proofs.YtfhdojnobmfefaaGreatDoor
open Go.RowKit Go.Inc
set_option maxHeartbeats 2000000 in
theorem aT {C:Nat->Nat} {w:World} {g p n:Nat} {S:St} (h:Dv C w g p n S) (pg:Nat) (ok2:Nat->Prop) (a2:Option Addr) (c2:Nat) (kinds:List Int) (hk:Si ok2 w a2 kinds) (hok2:∀ b,ok2 b->C b=0) (hkl:(kinds.length:Int)<=9223372036854775807) (ho:S.on=true) (hp:pg < p) (hn:n<=1000000) (hrr:S.r<=1000000) (hby:Bytes (rd S pg)) :
  Calls Tryz.prog 148 #[.pointer (some ⟨g,0,none⟩),.int .i64 (pg:Int),.slice a2 kinds.length c2] w fun r w'=>P8 (rd S pg) (pg:Int) kinds w.heap.size r w'/\Mv (fun b=>C b≠0) w w'/\Dv C w' g p n {S with r:=S.r+1}:=by
 obtain ⟨wb,hwb⟩:∃ wb,wb=w.alloc (.cells #[.int .i64 0,.int .i64 0,.int .i64 0,.slice none 0 0] 233):=⟨_,rfl⟩
 have hb:Below w.heap.size w wb:=by rw [hwb];exact (Below.refl _ _).alloc (Nat.le_refl _) _
 have hr:wb.heap[w.heap.size]?=some (.cells #[.int .i64 0,.int .i64 0,.int .i64 0,.slice none 0 0] 233 (0,0)):=by rw [hwb];exact heap_alloc_new w _
 have hnew:C w.heap.size=0:=h.new (Nat.le_refl _);have HNEW:=hid hnew;have HDV:=hid h;have HD:=hid (dm (h.below hb) pg hp ho hn hrr);have HB:=hid hb;have HR:=hid hr;have HWB:=hid hwb;have HK:=hid (hk.below hb);have HOK:=hid hok2;have HBY:=hid hby;have HLEN:Hid ((rd S pg).length=256):=hid (Yh h hp);clear hb hr hwb h hk hok2 hby ho hp hn hrr hnew;generalize rd S pg=bs at *
 go_enter Tryz.func148,Tryz.ntmps148
 go_wp2_with fail
 rw [<- HWB.out];refine HD.out.mono ?_;rintro r w1 ⟨v,rfl,hv,hd1,hm1⟩;have HD1:=hid hd1;clear hd1;obtain ⟨a1,c1,rfl,hn1,hlc1,hmm1,hs1⟩:=hv.sl;have hk1:Si ok2 w1 a2 kinds:=HK.out.kept fun b hb hlt=>hm1.block b hlt (fun h=>h (HOK.out b hb));have HO:=hid (Yq _ ok2 a1 c1 bs (pg:Int) a2 c2 kinds w1 hs1 HBY.out ⟨hlc1,hmm1⟩ hk1 hkl);have HM1:Hid (Mv (fun b=>C b≠0) w w1):=hid ((Mv.of_below (F:=fun b=>C b≠0) HB.out).trans hm1);have HR1:Hid (w1.heap[w.heap.size]?=some (.cells zc 233 (0,0))):=hid (by
  have:=hm1.block w.heap.size (Aj HR.out) (fun h=>h HNEW.out);rw [this];exact HR.out)
 clear hv hm1 hs1 hk1 hn1 hlc1 hmm1 HD HK HWB HB HR
 go_wp2_with fail
 refine HO.out.mono ?_;rintro r w2 ⟨⟨v,rfl,hv⟩,hb2⟩;obtain ⟨a3,c3,rfl,hs3,hlc3,hm3,hn3⟩:=hv;have HM2:Hid (Mv (fun b=>C b≠0) w w2):=hid (HM1.out.trans (Mv.of_below hb2));have HR2:Hid (w2.heap[w.heap.size]?=some (.cells zc 233 (0,0))):=hid (Ac HR1.out hb2);have HS2:Hid (Bb (fun b=>w1.heap.size<=b) w2 (.slice a3 (Ec bs pg kinds).b.length c3) (Ec bs pg kinds).b):=hid ⟨a3,c3,rfl,hs3,hlc3,hm3,hn3⟩;have HLT:Hid (w.heap.size < w1.heap.size):=hid (Aj HR1.out);have HD2:=hid (HD1.out.below hb2);clear hs3 hlc3 hm3 hn3 hb2 HM1 HR1 HO HD1
 dsimp only
 refine ‹∀ (a:Act) (w:World),wpList Tryz.prog _ _ _ a w->_› _ _ ?_;refine wpList_plain rfl fun K hK=>?_;go_simp;refine hK _ _ ?_;refine wpList_plain rfl fun K hK=>?_;go_simp;refine hK _ _ ?_;refine Ae rfl 233 _ _ rfl w.heap.size #[.int .i64 (Ec bs pg kinds).k,.int .i64 (Ec bs pg kinds).e,.int .i64 (Ec bs pg kinds).p,.slice a3 (Ec bs pg kinds).b.length c3] rfl rfl 233 _ HR2.out (by kernel_rfl) rfl (by simp [Value.oneCell']) ?_;intro w9 hr9 hg9;have HR9:=hid hr9;have HM9:Hid (Mv (fun b=>C b≠0) w w9):=hid (HM2.out.trans' (Mv.of_grown (F:=fun b=>b=w.heap.size) hg9 (fun g h _=>by cases h;rfl)) (fun i hi hf=>by omega));have HS9:Hid (Bb (fun b=>w.heap.size<=b) w9 (.slice a3 (Ec bs pg kinds).b.length c3) (Ec bs pg kinds).b):=hid (by
  obtain ⟨a1',c1',he,hs1,hr1⟩:=HS2.out;exact ⟨a1',c1',he,(hs1.grown hg9 (fun b hb=>by have:=HLT.out;omega)).mono fun b hb _=>by have:=HLT.out;omega,hr1⟩)
 have HD9:=hid (HD2.out.keep (Mv.of_grown (F:=fun b=>b=w.heap.size) hg9 (fun g h _=>by cases h;rfl)) fun b hb=>by subst hb;exact HNEW.out);clear hr9 hg9
 go_wp2_with fail
 exact bodyPost_ret (v:=.tuple #[.agg #[.int .i64 (Ec bs pg kinds).k,.int .i64 (Ec bs pg kinds).e,.int .i64 (Ec bs pg kinds).p,.slice a3 (Ec bs pg kinds).b.length c3],.int .i64 (F9 bs pg kinds:Nat)]) (gI _ _ _ _ rfl HR9.out rfl) rfl ⟨⟨_,rfl,HS9.out⟩,HM9.out,HD9.out⟩
end Go.Proofs.YtfhdojnobmfefaaGreatDoor
