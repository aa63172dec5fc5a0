/- MADE SMALL. -/
import Derived.Test.YtfhdojnobmfefaaGreatDoorG11
import Derived.Test.YtfhdojnobmfefaaGreatDoorG13
import Derived.Test.YtfhdojnobmfefaaGreatDoorG14
import Derived.Lib.MinMax
import Derived.Test.YtfhdojnobmfefaaGreatDoorG5
import Derived.Test.YtfhdojnobmfefaaGreatDoorRows
import Derived.Test.YtfhdojnobmfefaaGreatDoorG1
import Derived.Deep.QuietTactic
import Derived.BigQuiet
import Derived.Test.YtfhdojnobmfefaaGreatDoorG3
namespace Go.Proofs.YtfhdojnobmfefaaGreatDoor
open Go.RowKit Go.Inc
set_option maxRecDepth 20000 in
set_option maxHeartbeats 2000000 in
theorem Yk (ok:Nat->Prop) (b o c:Nat) (bs:List Nat) (w:World) (hs:Sl ok w (some ⟨b,o,none⟩) bs) (hby:Bytes bs) (hl:bs.length=256) (hc:256<=c/\c<=maxLen) :
  Calls Tryz.prog 187 #[.slice (some ⟨b,o,none⟩) 256 c] w fun r w'=>∃ v,r=.returned (.agg #[.int .i64 (Af bs).k,.int .i64 (Af bs).e,.int .i64 (Af bs).p,v])/\Bb (fun b=>w.heap.size<=b) w' v (Af bs).b/\Below w.heap.size w w':=by
 obtain ⟨wb,hwb⟩:∃ wb,wb=w.alloc (.cells #[.int .i64 0,.int .i64 0,.int .i64 0,.slice none 0 0] 233):=⟨_,rfl⟩
 have hb:Below w.heap.size w wb:=by rw [hwb];exact (Below.refl _ _).alloc (Nat.le_refl _) _
 have hr:wb.heap[w.heap.size]?=some (.cells #[.int .i64 0,.int .i64 0,.int .i64 0,.slice none 0 0] 233 (0,0)):=by rw [hwb];exact heap_alloc_new w _
 have H8:=hid (EJ ok b o c bs 8 2 8 10 wb (hs.below hb) hby hl hc (by decide) (by decide) (by decide) rfl rfl);have hN:Var.num (BH bs 8 2) < 65536:=bD (Nh (by omega)) (G5 hby _ _);have hpl:=Tf hl;unfold frN at hpl;obtain ⟨E,hE⟩:∃ E,E=10+min (Var.num (BH bs 8 2)) 238:=⟨_,rfl⟩
 have hmin:min (10+(Var.num (BH bs 8 2):Nat):Int) 248=(E:Int):=by omega
 have hpb:Af bs=⟨(Var.num (BH bs 1 1):Nat),(Var.num (BH bs 2 4):Nat),(Var.num (BH bs 6 2):Nat),(Af bs).b⟩:=rfl;have hbody:(Af bs).b=BH bs 10 (E - 10):=by unfold Af frN;rw [hE,Nat.add_sub_cancel_left]
 have HPB:=hid hpb;have HPL:Hid ((Af bs).b.length=E - 10):=hid (by rw [hpl,hE];omega);have HSL:=hid (hs.below hb);have HBD:=hid hbody;have HBY:=hid hby;have HL:=hid hl;have HCC:=hid hc;have HB:=hid hb;have HR:=hid hr;have HWB:=hid hwb;have HSZB:Hid (w.heap.size+1<=wb.heap.size):=hid (by rw [hwb];simp);have hE1:(10:Int)<=E:=by omega
 have hE2:(E:Int)<=248:=by omega
 have hcE:(E:Int)<=c:=by omega
 have hm:(c:Int)<=9223372036854775807:=by have:=hc.2;unfold maxLen at this;omega
 have hN':((Var.num (BH bs 8 2):Nat):Int) < 65536:=by omega
 clear hs hby hl hc hpl hb hr hwb hpb hbody hE hN;generalize Var.num (BH bs 8 2)=N at *
 go_enter Tryz.func187,Tryz.ntmps187
 go_wp2_with fail
 rw [<- HWB.out];refine H8.out.mono ?_;rintro r w1 ⟨rfl,hb1⟩;have HSL1:=hid (HSL.out.below hb1);have HB1:Hid (Below w.heap.size w w1):=hid (HB.out.trans (hb1.mono HB.out.size));have HR1:Hid (w1.heap[w.heap.size]?=_):=hid (Ac HR.out hb1);have HSZ:Hid (w.heap.size+1<=w1.drew.heap.size):=hid (Nat.le_trans HSZB.out hb1.size);clear HSL HB HR HSZB H8 hb1;have HSL:=HSL1;clear HSL1
 go_wp2_with fail
 have HBODY:Hid (∀ x,Grew w1.drew x->Sl ok x (some ⟨b,o+10,none⟩) (Af bs).b):=hid fun x hx=>by
  rw [HBD.out];exact Sl.at (Sl.below (w:=w1.drew) HSL.out hx) 10 (E - 10)
 refine Ai 12 [Ar (.slice (some ⟨b,o,none⟩) 256 c),Ar (.int .i64 (Var.num (BH bs 1 1):Nat)),Ar (.slice (some ⟨b,o,none⟩) 256 c),Ar (.int .i64 (Var.num (BH bs 2 4):Nat)),Ar (.slice (some ⟨b,o,none⟩) 256 c),Ar (.int .i64 (Var.num (BH bs 6 2):Nat)),
  Ar (.slice (some ⟨b,o,none⟩) 256 c),Ar (.int .i64 E),Ar (.int .i64 E),(fun x v=>∃ a',v=.slice a' (E - 10) (E - 10)/\Sl ok x a' (Af bs).b/\a'≠none),(fun x v=>Bb (fun b=>w.heap.size+1<=b) x v (Af bs).b),
  (fun x v=>∃ a' c',v=.agg #[.int .i64 (Af bs).k,.int .i64 (Af bs).e,.int .i64 (Af bs).p,.slice a' (Af bs).b.length c']/\Sl (fun b=>w.heap.size+1<=b) x a' (Af bs).b/\(Af bs).b.length<=c'/\c'<=maxLen/\(a'=none->c'=0))] (by kernel_rfl) (by decide) (by kernel_rfl) ?_ ?_ ?_
 ·repeat' (first | exact List.forall_mem_nil _ | refine List.forall_mem_cons.2 ⟨?_,?_⟩)
  all_goals
   intro w w' v hw h
   first | exact h | exact Bb.below h hw | (obtain ⟨a',c',rfl,h1,h2⟩:=h;exact ⟨a',c',rfl,h1.below hw,h2⟩) | (obtain ⟨a',rfl,h1,h2⟩:=h;exact ⟨a',rfl,h1.below hw,h2⟩)
 ·simp only [AllLt];refine ⟨⟨⟨⟨⟨⟨⟨⟨⟨⟨⟨⟨trivial,?_⟩,?_⟩,?_⟩,?_⟩,?_⟩,?_⟩,?_⟩,?_⟩,?_⟩,?_⟩,?_⟩,?_⟩
  all_goals
   intro o' ho;simp at ho;subst ho;intro ρ w2 hR hL hS hG;obtain ⟨hl1,hl2,-⟩:=hL
  ·refine Aa rfl ?_;intro bA K Q' hK;have e0:=hS 0 (by kernel_rfl);change ρ (.tmp 0)=_ at e0;simp only [execOp];go_simp;exact hK _ _ rfl (Grew.refl _)
  ·refine Aa rfl ?_;intro bA K Q' hK;have e8:=apG (hG 0 8);change ρ (.tmp 8)=_ at e8;have hn:=EJ ok b o c bs 1 1 1 2 w2 (Sl.below (w:=w1.drew) HSL.out hR) HBY.out HL.out HCC.out (by decide) (by decide) (by decide) rfl rfl;simp only [execOp];go_simp;refine hn.mono ?_;rintro r w3 ⟨rfl,hb⟩;exact hK _ _ rfl hb
  ·refine Aa rfl ?_;intro bA K Q' hK;have e0:=hS 0 (by kernel_rfl);change ρ (.tmp 0)=_ at e0;simp only [execOp];go_simp;exact hK _ _ rfl (Grew.refl _)
  ·refine Aa rfl ?_;intro bA K Q' hK;have e10:=apG (hG 2 10);change ρ (.tmp 10)=_ at e10;have hn:=EJ ok b o c bs 2 4 2 6 w2 (Sl.below (w:=w1.drew) HSL.out hR) HBY.out HL.out HCC.out (by decide) (by decide) (by decide) rfl rfl;simp only [execOp];go_simp;refine hn.mono ?_;rintro r w3 ⟨rfl,hb⟩;exact hK _ _ rfl hb
  ·refine Aa rfl ?_;intro bA K Q' hK;have e0:=hS 0 (by kernel_rfl);change ρ (.tmp 0)=_ at e0;simp only [execOp];go_simp;exact hK _ _ rfl (Grew.refl _)
  ·refine Aa rfl ?_;intro bA K Q' hK;have e12:=apG (hG 4 12);change ρ (.tmp 12)=_ at e12;have hn:=EJ ok b o c bs 6 2 6 8 w2 (Sl.below (w:=w1.drew) HSL.out hR) HBY.out HL.out HCC.out (by decide) (by decide) (by decide) rfl rfl;simp only [execOp];go_simp;refine hn.mono ?_;rintro r w3 ⟨rfl,hb⟩;exact hK _ _ rfl hb
  ·refine Aa rfl ?_;intro bA K Q' hK;have e0:=hS 0 (by kernel_rfl);change ρ (.tmp 0)=_ at e0;simp only [execOp];go_simp;exact hK _ _ rfl (Grew.refl _)
  iterate 2
   ·refine Aa rfl ?_;intro bA K Q' hK;have e3:=hS 3 (by kernel_rfl);change ρ (.tmp 3)=_ at e3;simp only [execOp];go_simp;exact hK _ _ rfl (Grew.refl _)
  ·refine Aa rfl ?_;intro bA K Q' hK;have e14:=apG (hG 6 14);have e15:=apG (hG 7 15);have e16:=apG (hG 8 16);change ρ (.tmp 14)=_ at e14;change ρ (.tmp 15)=_ at e15;change ρ (.tmp 16)=_ at e16;have hsb:=HBODY.out w2 hR;by_cases hE:E=10
   ·subst hE;simp only [execOp];go_simp;rw [if_pos (by omega)];have hnil:(Af bs).b=[]:=List.eq_nil_of_length_eq_zero HPL.out;exact hK _ _ ⟨_,rfl,.inl hnil,by simp⟩ (Grew.refl _)
   ·simp only [execOp];go_simp;exact hK _ _ ⟨_,rfl,hsb,by simp⟩ (Grew.refl _)
  ·refine Aa rfl ?_;intro bA K Q' hK;have e17:=apG (hG 9 17);obtain ⟨a17,e17,hs17,hn17⟩:=e17;simp only [execOp];go_simp;have hcl:=Oi ok a17 (E - 10) (Af bs).b w2 hs17 (by rw [HPL.out];omega) (fun h=>absurd h hn17);rw [HPL.out] at hcl;refine hcl.mono ?_;rintro r w3 ⟨v,rfl,hv,hb⟩;have hv':Row 5 w2.heap.size w3 v (Af bs).b:=by unfold Row;rw [HPL.out];exact hv
   exact hK _ _ (hv'.bb.mono fun b h _=>Nat.le_trans (Nat.le_trans HSZ.out hR.size) h) hb
  ·refine Aa rfl ?_;intro bA K Q' hK;have e9:=apG (hG 1 9);have e11:=apG (hG 3 11);have e13:=apG (hG 5 13);have e18:=apG (hG 10 18);change ρ (.tmp 9)=_ at e9;change ρ (.tmp 11)=_ at e11;change ρ (.tmp 13)=_ at e13;obtain ⟨a1,c1,e18,hs1⟩:=e18;simp only [execOp];go_simp;exact hK _ _ ⟨a1,c1,rfl,hs1⟩ (Grew.refl _)
 ·intro v w2 hR hG;obtain ⟨a',c',h15,hs',hc'⟩:=hG.2;have HV:Hid (Bb (fun b=>w.heap.size+1<=b) w2 (.slice a' (Af bs).b.length c') (Af bs).b):=hid ⟨a',c',rfl,hs',hc'⟩;have HB2:Hid (Below w.heap.size w w2):=hid (Grew.on HB1.out hR);have hrow:w2.heap[w.heap.size]?=_:=Ac (w:=w1.drew) HR1.out hR;have HROW:=hid hrow;clear hG hR HBODY hs' hc' hrow;simp [stG,stU,Au,Act.put,h15];refine Ae rfl 233 _ _ rfl w.heap.size #[.int .i64 (Af bs).k,.int .i64 (Af bs).e,.int .i64 (Af bs).p,.slice a' (Af bs).b.length c'] rfl rfl 233 _ HROW.out (by kernel_rfl) rfl (by simp [Value.oneCell']) ?_;intro w3 hr3 hg3;have HR3:=hid hr3;have HB3:Hid (Below w.heap.size w w3):=hid (Bi HB2.out hg3 (Nat.le_refl _) HB2.out.size);have HV3:Hid (Bb (fun b=>w.heap.size<=b) w3 (.slice a' (Af bs).b.length c') (Af bs).b):=hid (by
   obtain ⟨a1,c1,he,hs1,hr1⟩:=HV.out;exact ⟨a1,c1,he,(hs1.grown hg3 (fun b hb=>by omega)).mono fun b hb _=>by omega,hr1⟩)
  clear hr3 hg3
  go_wp2_with fail
  refine bodyPost_ret (v:=.agg #[.int .i64 (Af bs).k,.int .i64 (Af bs).e,.int .i64 (Af bs).p,.slice a' (Af bs).b.length c']) (results_cell_row rfl _ _ w.heap.size 233 _ (0,0) _ rfl HR3.out Tryz.underlying233 rfl (by kernel_rfl)) rfl ⟨_,rfl,HV3.out,HB3.out⟩
def ZU (f:Fr) (B:Nat) (r:Ending) (w':World):Prop:=∃ v,r=.returned (.tuple #[v,.int .i64 (chk f:Nat)])/\Bb (fun b=>B<=b) w' v (if chk f=0 then enc f else [])
set_option maxHeartbeats 2000000 in
theorem Ob (ok:Nat->Prop) (k e p:Int) (a:Option Addr) (c:Nat) (bs:List Nat) (w:World) (hs:Sl ok w a bs) (hby:Bytes bs) (hc:bs.length<=c/\c<=maxLen) (hn:a=none->c=0) :
  Calls Tryz.prog 166 #[.agg #[.int .i64 k,.int .i64 e,.int .i64 p,.slice a bs.length c]] w fun r w'=>ZU ⟨k,e,p,bs⟩ w.heap.size r w'/\Below w.heap.size w w':=by
 have hb:=(Below.refl w.heap.size w).alloc (Nat.le_refl _) (.cells #[.int .i64 k,.int .i64 e,.int .i64 p,.slice a bs.length c] 233);have HC:=hid (JS k e p a c bs (w.alloc (.cells #[.int .i64 k,.int .i64 e,.int .i64 p,.slice a bs.length c] 233)));have HSL:=hid (hs.below hb);have HB:=hid hb;have HROW:=hid (heap_alloc_new w (.cells #[.int .i64 k,.int .i64 e,.int .i64 p,.slice a bs.length c] 233));have HBY:=hid hby;have HCC:=hid hc;have HN:=hid hn;clear hs hby hc hn hb
 go_enter Tryz.func166,Tryz.ntmps166
 go_wp2_with fail
 refine HC.out.mono ?_;rintro r w1 ⟨rfl,hb1⟩;have HSL1:=hid (HSL.out.below hb1);have HB1:Hid (Below w.heap.size w w1):=hid (HB.out.trans (hb1.mono HB.out.size));have hrow1:w1.heap[w.heap.size]?=_:=Ac HROW.out hb1;clear HSL HB HROW hb1 HC;have c0:=cell_of_row w1 _ 0 _ _ _ hrow1;have c1:=cell_of_row w1 _ 1 _ _ _ hrow1;have c2:=cell_of_row w1 _ 2 _ _ _ hrow1;have c3:=cell_of_row w1 _ 3 _ _ _ hrow1;have HF:Hid (chk ⟨k,e,p,bs⟩=0->Fr.ok ⟨k,e,p,bs⟩):=hid (JR _).1;have HA:Hid (∀ w' v,Bb (fun b=>w.heap.size<=b) w' v (if chk ⟨k,e,p,bs⟩=0 then enc ⟨k,e,p,bs⟩ else [])->ZU ⟨k,e,p,bs⟩ w.heap.size (.returned (.tuple #[v,.int .i64 (chk ⟨k,e,p,bs⟩:Nat)])) w'):=hid fun w' v h=>⟨v,rfl,h⟩
 generalize chk ⟨k,e,p,bs⟩=q at *
 clear hrow1;by_cases hq:q=0
 ·subst hq;have HL:=hid (MO ok k e p a c bs w1 (HF.out rfl) HSL1.out HBY.out HCC.out HN.out);have hlb:Bytes (laid ⟨k,e,p,bs⟩):=GX HBY.out;have hll:(laid ⟨k,e,p,bs⟩).length=252:=Ih (HF.out rfl).2.2.2.2.2.2;have HE:Hid (enc ⟨k,e,p,bs⟩=Le (laid ⟨k,e,p,bs⟩)):=hid rfl;have HLB:=hid hlb;have HLL:=hid hll;clear hlb hll
  go_wp2_with fail
  refine HL.out.mono ?_;rintro r w2 ⟨v,rfl,hv,hb2⟩;obtain ⟨a2,c2',rfl,hn2,hc2,hm2,hs2⟩:=hv.sl;have HM:=hid (YB _ a2 c2' _ w2 hs2 HLB.out ⟨hc2,hm2⟩ (by rw [HLL.out];decide));have HB2:Hid (Below w.heap.size w w2):=hid (HB1.out.trans (hb2.mono HB1.out.size));clear hv hs2 hb2 HL hn2 hc2 hm2 c0 c1 c2 c3
  go_wp2_with fail
  refine HM.out.mono ?_;rintro r w3 ⟨v3,rfl,hv3,hb3⟩;have hv3':Row 5 w2.heap.size w3 v3 (enc ⟨k,e,p,bs⟩):=by rw [HE.out];exact hv3
  have HV3:=hid (hv3'.bb.mono (ok':=fun b=>w.heap.size<=b) fun b h _=>Nat.le_trans HB2.out.size h);have HB3:Hid (Below w.heap.size w w3):=hid (HB2.out.trans (hb3.mono HB2.out.size));clear hv3 hv3' hb3 HM
  go_wp2_with fail
  go_ret2
  exact ⟨HA.out w3 v3 (by simp only [if_true];exact HV3.out),HB3.out⟩
 ·have hq1:((q:Int) != 0)=true:=by rw [bne_iff_ne];omega
  have HQ:=hid hq;clear hq
  go_wp2_with fail
  go_ret2
  exact ⟨HA.out _ _ (by rw [if_neg HQ.out];exact ⟨none,0,rfl,Sl.nil _ _ _,Nat.le_refl _,Nat.zero_le _,fun _=>rfl⟩),HB1.out⟩
end Go.Proofs.YtfhdojnobmfefaaGreatDoor
