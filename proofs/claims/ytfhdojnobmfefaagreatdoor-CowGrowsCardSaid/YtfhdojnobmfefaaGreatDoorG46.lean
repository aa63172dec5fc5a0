/- MADE SMALL. -/
import Derived.Test.YtfhdojnobmfefaaGreatDoorG45
import Derived.Test.YtfhdojnobmfefaaGreatDoorG41
namespace Go
theorem JC {fn:Func} {p q u:Tmp} {ty tz:TypeId} (h:fn.results=#[.cell p ty,.cell q tz,.tmp u]) (tmps:Array Value) (P:Program) (w:World) :
  (results fn tmps).run P w =
   ((asAddr (tmps.getD p undef)).run P w).andThen fun a w₁=>((loadVar ty a).run P w₁).andThen fun v w₂=>((asAddr (tmps.getD q undef)).run P w₂).andThen fun a' w₃=>((loadVar tz a').run P w₃).andThen fun v' w₄=>.ok (.tuple #[v,v',tmps.getD u undef]) w₄:=by
 simp only [results,h];simp [Sem.run_bind,Result.andThen]
end Go
namespace Go.Inc
open Go.RowKit
theorem NU {P:Program} {fn:Func} {p q u:Tmp} {ty:TypeId} (h:fn.results=#[.cell p ty,.cell q ty,.tmp u]) (tmps:Array Value) (w:World) (g g':Nat) (t:TypeId) (cs ds:Array Value) (d:TypeDesc)
  (hp:tmps.getD p undef=.pointer (some ⟨g,0,none⟩)) (hq:tmps.getD q undef=.pointer (some ⟨g',0,none⟩)) (hg:w.heap[g]?=some (.cells cs t (0,0))) (hg':w.heap[g']?=some (.cells ds t (0,0)))
  (hu:P.underlying ty=some d) (hd:(match d with | .struct _ | .array _ _=>true | _=>false)=true) (hi:(P.info? ty).map (·.size)=some cs.size) (hi':(P.info? ty).map (·.size)=some ds.size) :
  (results fn tmps).run P w=.ok (.tuple #[.agg cs,.agg ds,tmps.getD u undef]) w:=by
 rw [JC h,hp,hq];simp only [asAddr,Sem.run_pure,Result.andThen_ok];rw [run_loadVar_row w g t ty cs (0,0) d hg hu hd hi];simp only [Result.andThen_ok];rw [run_loadVar_row w g' t ty ds (0,0) d hg' hu hd hi'];rfl
def SpJ (w:World) (g:Nat) (c1:Array Value) (T:TypeId) (c2 c3:Array Value) (E n:Nat) (v:Value) (xs:List Value) (x:World):Prop:=
 Below w.heap.size w x/\x.heap[g]?=some (.cells c1 T (0,0))/\x.heap[g+1]?=some (.cells c2 T (0,0))/\x.heap[g+1+1]?=some (.cells c3 T (0,0))/\x.ownsRow w.heap.size E 3 v n xs
theorem SpJ.grew {w:World} {g:Nat} {c1:Array Value} {T:TypeId} {c2 c3:Array Value} {E n:Nat} {v:Value} {xs:List Value} {x y:World} (hg:Grew x y) (h:SpJ w g c1 T c2 c3 E n v xs x):SpJ w g c1 T c2 c3 E n v xs y:=
 ⟨h.1.trans (Below.mono hg h.1.size),Ac h.2.1 hg,Ac h.2.2.1 hg,Ac h.2.2.2.1 hg,Ag (F:=fun _=>False) h.2.2.2.2 (Mv.of_below hg) fun _ _=>id⟩
theorem SpJ.store {w:World} {g:Nat} {c1:Array Value} {T:TypeId} {c2 c3 d2:Array Value} {E n:Nat} {v:Value} {xs:List Value} {x y:World} (h:SpJ w g c1 T c2 c3 E n v xs x) (hr:y.heap[g+1]?=some (.cells d2 T (0,0))) (hg:x.grownBy y (some (g+1))) (hgw:g=w.heap.size) (hE:E≠T):SpJ w g c1 T d2 c3 E n v xs y:=
 ⟨h.1.grown hg h.1.size fun k hk=>by cases hk;omega,BQ h.2.1 hg (by omega),hr,BQ h.2.2.2.1 hg (by omega),h.2.2.2.2.kept hg (.inr (DV hE h.2.2.2.2 h.2.2.1))⟩
end Go.Inc
namespace Go.Proofs.YtfhdojnobmfefaaGreatDoor
open Go.RowKit Go.Inc
theorem Yd (w:World) (g g':Nat) (cs ds:Array Value) (tmps:Array Value) (h2:tmps.getD 2 undef=.pointer (some ⟨g,0,none⟩)) (h3:tmps.getD 3 undef=.pointer (some ⟨g',0,none⟩)) (hg:w.heap[g]?=some (.cells cs 114 (0,0))) (hg':w.heap[g']?=some (.cells ds 114 (0,0))) (hs:cs.size=2) (hs':ds.size=2) :
  (results Tryz.f112 tmps).run Tryz.prog w=.ok (.tuple #[.agg cs,.agg ds,tmps.getD 4 undef]) w:=
 NU rfl tmps w g g' 114 cs ds _ h2 h3 hg hg' Tryz.underlying114 rfl (by rw [hs];kernel_rfl) (by rw [hs'];kernel_rfl)
set_option maxRecDepth 20000 in
set_option maxHeartbeats 4000000 in
theorem VI (a:Option Addr) (n c:Nat) (lf:Bool) (es:List Et) (w:World) (hnd:NdOk w a n c es) :
  Calls Tryz.prog 112 #[.agg #[.bool lf,.slice a n c]] w fun e w'=>(∃ v u,e=.returned (.tuple #[v,u,.int .i64 (spE lf es)])/\NdF v/\NdF u/\(spE lf es=0->NdW 65 w.heap.size w' v lf (es.take (es.length / 2))/\NdW 65 w.heap.size w' u lf (es.drop (es.length / 2))))/\Below w.heap.size w w':=by
 have HN:=hid hnd.1;obtain ⟨g,hg⟩:∃ g,g=w.heap.size:=⟨_,rfl⟩
 have HG:=hid hg;obtain ⟨w0,hw0⟩:∃ w0,w0=((w.alloc (.cells #[.bool lf,.slice a n c] 114)).alloc (.cells #[.bool false,.slice none 0 0] 114)).alloc (.cells #[.bool false,.slice none 0 0] 114):=⟨_,rfl⟩
 have HW0:=hid hw0;have HB0:Hid (Below w.heap.size w w0):=hid (by rw [hw0];exact (((Below.refl _ _).alloc (Nat.le_refl _) _).alloc (by simp) _).alloc (by simp;omega) _);have hx1:w0.heap[g]?=some (.cells #[.bool lf,.slice a n c] 114 (0,0)):=by rw [hw0,hg];exact Ac (heap_alloc2_old w _ _) (Ad _ _)
 have hx2:w0.heap[g+1]?=some (.cells #[.bool false,.slice none 0 0] 114 (0,0)):=by rw [hw0,hg];exact Ac (heap_alloc2_new w _ _) (Ad _ _)
 have hx3:w0.heap[g+1+1]?=some (.cells #[.bool false,.slice none 0 0] 114 (0,0)):=by
  rw [hw0,hg];have h:=heap_alloc_new ((w.alloc (.cells #[.bool lf,.slice a n c] 114)).alloc (.cells #[.bool false,.slice none 0 0] 114)) (.cells #[.bool false,.slice none 0 0] 114);simpa using h
 have HX1:=hid hx1;have HX2:=hid hx2;have HX3:=hid hx3;have HND:=hid hnd;obtain ⟨C,hC⟩:∃ C,C=AL lf es:=⟨_,rfl⟩
 have h7:=BJ a n c lf es w0 (hnd.below HB0.out);rw [<- hC] at h7;have HCK:=hid h7;have HC:=hid hC;obtain ⟨FF,hF⟩:∃ F,F=spE lf es:=⟨_,rfl⟩
 have HF:=hid hF;rw [<- hF];clear hnd hg hw0 h7 hC hF;have hc0:w0.cell? ⟨g,0,none⟩=some (.bool lf):=coR hx1;have hc1:w0.cell? ⟨g,1,none⟩=some (.slice a n c):=coR hx1;clear hx1 hx2 hx3
 go_enter Tryz.func112,Tryz.ntmps112
 go_upto_region 1 with fail
 rw [<- HW0.out,<- HG.out]
 go_wp2_with fail
 refine HCK.out.mono ?_;clear HCK;rintro e w1 ⟨rfl,hb⟩;have HB1:Hid (Below w.heap.size w w1):=hid (HB0.out.trans (hb.mono HB0.out.size));have hx1:=Ac HX1.out hb;have HX21:=hid (Ac HX2.out hb);have HX31:=hid (Ac HX3.out hb);have HX11:=hid hx1;clear hb hc0 hc1 HX1 HX2 HX3 HB0 HW0;by_cases hC0:C=0
 ·have HC0:=hid hC0;have hcc:((C:Int) != 0)=false:=by rw [hC0];rfl
  have hcc2:(C=0)=True:=eq_true hC0;obtain ⟨c1,-,-,-⟩:=Ba (HC.out.symm.trans HC0.out);have hln:(n:Int)<=16:=by have:=HN.out;omega
  have hc1:w1.cell? ⟨g,1,none⟩=some (.slice a n c):=coR hx1;clear c1 hC0;by_cases h2:n < 2
  ·have h2i:(n:Int) < 2:=by omega
   have h2d:decide ((n:Int) < 2)=true:=decide_eq_true h2i;have HFF:Hid (FF=11):=hid (HF.out.trans (iH (HC.out.symm.trans HC0.out) (by have:=HN.out;omega)));clear hx1 h2
   go_wp2_with (refine Ae rfl 114 _ _ rfl (g+1) #[.bool false,.slice none 0 0] rfl rfl 114 _ HX21.out (by kernel_rfl) rfl (by simp [Value.oneCell']) ?_)
   intro w8 hr9 hg9;have HB8:Hid (Below w.heap.size w w8):=hid (HB1.out.grown hg9 HB1.out.size fun k hk=>by have:=HG.out;cases hk;omega);have HR8:=hid hr9;have HX38:=hid (BQ HX31.out hg9 (by omega));clear hr9 hg9
   go_wp2_with (refine Ae rfl 114 _ _ rfl (g+1+1) #[.bool false,.slice none 0 0] rfl rfl 114 _ HX38.out (by kernel_rfl) rfl (by simp [Value.oneCell']) ?_)
   intro w9 hr9 hg9;have HB9:Hid (Below w.heap.size w w9):=hid (HB8.out.grown hg9 HB8.out.size fun k hk=>by have:=HG.out;cases hk;omega);have HR9:=hid hr9;have HR89:=hid (BQ HR8.out hg9 (by omega));clear hr9 hg9 HR8 HX38 HB8
   go_wp2_with fail
   refine bodyPost_ret (v:=.tuple #[.agg #[.bool false,.slice none 0 0],.agg #[.bool false,.slice none 0 0],.int .i64 11]) (Yd _ _ _ #[.bool false,.slice none 0 0] #[.bool false,.slice none 0 0] _ rfl rfl HR89.out HR9.out rfl rfl) rfl ⟨?_,HB9.out⟩;rw [HFF.out];exact ⟨_,_,rfl,FK,FK,fun h=>absurd h (by decide)⟩
  ·have h2i:(2:Int)<=n:=by omega
   have h2d:decide ((n:Int) < 2)=false:=decide_eq_false (by omega);have HFF:Hid (FF=0):=hid (HF.out.trans (iG (HC.out.symm.trans HC0.out) (by have:=HN.out;omega)));have HCL:=hid (Uh a n c es w1 (HND.out.below HB1.out));clear h2 hx1
   go_wp2_with fail
   refine HCL.out.mono ?_;clear HCL hcc hcc2 hc1;rintro e w2 ⟨⟨v,rfl,hv⟩,hb⟩;have HB2:Hid (Below w.heap.size w w2):=hid (HB1.out.trans (hb.mono HB1.out.size));have HX12:=hid (Ac HX11.out hb);have HX22:=hid (Ac HX21.out hb);have HX32:=hid (Ac HX31.out hb);obtain ⟨a5,c5,hs5,hn5,h5,h6,h7,-⟩:=Dk hv;rw [<- hn5] at hs5 h6;subst hs5;obtain ⟨b,o,rfl,-⟩:=h5.cell (i:=0) (by rw [<- hn5];omega);obtain ⟨k,hk⟩:∃ k,k=n / 2:=⟨_,rfl⟩
   have HKK:=hid hk;have hq1:(n:Int) / 2=(k:Int):=by omega
   have hq2:Int.tdiv (n:Int) 2=(k:Int):=by rw [Int.tdiv_eq_ediv_of_nonneg (by omega)];exact hq1
   have hkn:(k:Int)<=n:=by omega
   have hnc5:(n:Int)<=c5:=by omega
   have hkc5:(k:Int)<=c5:=by omega
   obtain ⟨ob,hob⟩:∃ ob,o+k * 3=ob:=⟨_,rfl⟩
   obtain ⟨nb,hnb⟩:∃ nb,n - k=nb:=⟨_,rfl⟩
   obtain ⟨cb,hcb⟩:∃ cb,c5 - k=cb:=⟨_,rfl⟩
   have hck:(c5=k)=False:=eq_false (by omega);have HNK:Hid (2<=n/\n<=c5/\c5<=maxLen/\n=es.length):=hid ⟨by omega,h6,h7,hn5⟩;have HAB:=hid (And.intro hob (And.intro hnb (And.intro hcb hck)));have HROW:=hid (AV hv HB1.out.size);clear hb hv hn5 h5 h6 h7 hk hob hnb hcb hck HB1 HX11 HX21 HX31
   go_upto_region 8 with fail
   clear hq1 hq2;have HJ:Hid ((SpJ w g #[.bool lf,.slice a n c] 114 #[.bool false,.slice none 0 0] #[.bool false,.slice none 0 0] 65 n (.slice (some ⟨b,o,none⟩) n c5) (Ak es)) w2):=hid ⟨HB2.out,HX12.out,HX22.out,HX32.out,HROW.out⟩;have HCC:Hid (∀ x,(SpJ w g #[.bool lf,.slice a n c] 114 #[.bool false,.slice none 0 0] #[.bool false,.slice none 0 0] 65 n (.slice (some ⟨b,o,none⟩) n c5) (Ak es)) x\/(SpJ w g #[.bool lf,.slice a n c] 114 #[.bool lf,.slice (some ⟨b,o,none⟩) k k] #[.bool false,.slice none 0 0] 65 n (.slice (some ⟨b,o,none⟩) n c5) (Ak es)) x->x.cell? ⟨g,0,none⟩=some (.bool lf)/\x.cell? ⟨g,1,none⟩=some (.slice a n c)):=hid fun x hx=>by
    have r1:=hx.elim (fun h=>h.2.1) (fun h=>h.2.1);exact ⟨by rw [cell_of_row _ _ _ _ _ _ r1];rfl,by rw [cell_of_row _ _ _ _ _ _ r1];rfl⟩
   clear HB2 HX12 HX22 HX32 HROW;refine Ej 14 13 (SpJ w g #[.bool lf,.slice a n c] 114 #[.bool false,.slice none 0 0] #[.bool false,.slice none 0 0] 65 n (.slice (some ⟨b,o,none⟩) n c5) (Ak es)) (SpJ w g #[.bool lf,.slice a n c] 114 #[.bool lf,.slice (some ⟨b,o,none⟩) k k] #[.bool false,.slice none 0 0] 65 n (.slice (some ⟨b,o,none⟩) n c5) (Ak es)) [] [EqN (.pointer (some ⟨g,0,none⟩)),EqN (.bool lf),EqN (.slice (some ⟨b,o,none⟩) n c5),EqN (.int .i64 (k:Int)),EqN (.int .i64 (k:Int)),EqN (.slice (some ⟨b,o,none⟩) k k),EqN (.agg #[.bool lf,.slice (some ⟨b,o,none⟩) k k]),EqN (.pointer (some ⟨g,0,none⟩)),EqN (.bool lf),EqN (.slice (some ⟨b,o,none⟩) n c5),EqN (.int .i64 (k:Int)),EqN (.slice (some ⟨b,ob,none⟩) nb cb),EqN (.agg #[.bool lf,.slice (some ⟨b,ob,none⟩) nb cb]),(fun _ _=>True)] (by kernel_rfl) (by decide) (by kernel_rfl) (by kernel_rfl) (by decide) ?_ ?_ ?_ ?_ ?_ ?_
   ·exact SpJ.grew (BX w2 1) HJ.out
   iterate 2
    ·exact fun a b=>SpJ.grew
   ·repeat' (first | exact List.forall_mem_nil _ | refine List.forall_mem_cons.2 ⟨?_,?_⟩)
    all_goals
     intro w w' v hw h
     first | exact h | exact absurd h (by trivial)
   ·simp only [AllLt];refine ⟨⟨⟨⟨⟨⟨⟨⟨⟨⟨⟨⟨⟨⟨trivial,?_⟩,?_⟩,?_⟩,?_⟩,?_⟩,?_⟩,?_⟩,?_⟩,?_⟩,?_⟩,?_⟩,?_⟩,?_⟩,?_⟩
    all_goals
     intro o' ho;simp at ho;subst ho;intro ρ w5 hR hL hS hG;obtain ⟨hl1,hl2,-⟩:=hL
    ·refine Aa rfl ?_;intro bA K Q' hK;have e1:=hS 1 (by kernel_rfl);change ρ (.tmp 1)=_ at e1;simp only [execOp];go_simp;exact hK _ _ rfl (fun _=>Grew.refl _) (fun h=>absurd h (by decide))
    ·refine Aa rfl ?_;intro bA K Q' hK;have e27:=apG (hG 0 27);change ρ (.tmp 27)=_ at e27;obtain ⟨y0,y1⟩:=HCC.out w5 hR.any;simp only [execOp];go_simp;exact hK _ _ rfl (fun _=>Grew.refl _) (fun h=>absurd h (by decide))
    ·refine Aa rfl ?_;intro bA K Q' hK;have e6:=hS 6 (by kernel_rfl);change ρ (.tmp 6)=_ at e6;simp only [execOp];go_simp;exact hK _ _ rfl (fun _=>Grew.refl _) (fun h=>absurd h (by decide))
    iterate 2
     ·refine Aa rfl ?_;intro bA K Q' hK;have e7:=hS 7 (by kernel_rfl);change ρ (.tmp 7)=_ at e7;simp only [execOp];go_simp;exact hK _ _ rfl (fun _=>Grew.refl _) (fun h=>absurd h (by decide))
    ·refine Aa rfl ?_;intro bA K Q' hK;have e29:=apG (hG 2 29);have e30:=apG (hG 3 30);have e31:=apG (hG 4 31);change ρ (.tmp 29)=_ at e29;change ρ (.tmp 30)=_ at e30;change ρ (.tmp 31)=_ at e31;simp only [execOp];go_simp;exact hK _ _ rfl (fun _=>Grew.refl _) (fun h=>absurd h (by decide))
    ·refine Aa rfl ?_;intro bA K Q' hK;have e28:=apG (hG 1 28);have e32:=apG (hG 5 32);change ρ (.tmp 28)=_ at e28;change ρ (.tmp 32)=_ at e32;simp only [execOp];go_simp;exact hK _ _ rfl (fun _=>Grew.refl _) (fun h=>absurd h (by decide))
    ·refine Aa rfl ?_;intro bA K Q' hK;have e1:=hS 1 (by kernel_rfl);change ρ (.tmp 1)=_ at e1;simp only [execOp];go_simp;exact hK _ _ rfl (fun _=>Grew.refl _) (fun h=>absurd h (by decide))
    ·refine Aa rfl ?_;intro bA K Q' hK;have e34:=apG (hG 7 34);change ρ (.tmp 34)=_ at e34;obtain ⟨y0,y1⟩:=HCC.out w5 hR.any;simp only [execOp];go_simp;exact hK _ _ rfl (fun _=>Grew.refl _) (fun h=>absurd h (by decide))
    ·refine Aa rfl ?_;intro bA K Q' hK;have e6:=hS 6 (by kernel_rfl);change ρ (.tmp 6)=_ at e6;simp only [execOp];go_simp;exact hK _ _ rfl (fun _=>Grew.refl _) (fun h=>absurd h (by decide))
    ·refine Aa rfl ?_;intro bA K Q' hK;have e7:=hS 7 (by kernel_rfl);change ρ (.tmp 7)=_ at e7;simp only [execOp];go_simp;exact hK _ _ rfl (fun _=>Grew.refl _) (fun h=>absurd h (by decide))
    ·refine Aa rfl ?_;intro bA K Q' hK;have e36:=apG (hG 9 36);have e37:=apG (hG 10 37);change ρ (.tmp 36)=_ at e36;change ρ (.tmp 37)=_ at e37;have hob2:=HAB.out.1;have hnb:=HAB.out.2.1;have hcb:=HAB.out.2.2.1;have hck:=HAB.out.2.2.2;simp only [execOp];go_simp;exact hK _ _ rfl (fun _=>Grew.refl _) (fun h=>absurd h (by decide))
    ·refine Aa rfl ?_;intro bA K Q' hK;have e35:=apG (hG 8 35);have e38:=apG (hG 11 38);change ρ (.tmp 35)=_ at e35;change ρ (.tmp 38)=_ at e38;simp only [execOp];go_simp;exact hK _ _ rfl (fun _=>Grew.refl _) (fun h=>absurd h (by decide))
    ·refine Aa rfl ?_;intro bA K Q' hK;have e2:=hS 2 (by kernel_rfl);have e33:=apG (hG 6 33);change ρ (.tmp 2)=_ at e2;change ρ (.tmp 33)=_ at e33;have hj:=hR.ahead (by decide);refine Hr 114 (.tmp 2) (.tmp 33) rfl (g+1) #[.bool lf,.slice (some ⟨b,o,none⟩) k k] e2 e33 114 _ hj.2.2.1 (by kernel_rfl) rfl (by simp [Value.oneCell']) ?_;intro w6 hr6 hg6;refine hK _ _ trivial (fun h=>absurd rfl h) (fun _=>⟨hj.store hr6 hg6 HG.out (by decide),?_⟩);simp only [AllLt];refine ⟨⟨⟨⟨⟨⟨⟨⟨⟨⟨⟨⟨⟨⟨trivial,?_⟩,?_⟩,?_⟩,?_⟩,?_⟩,?_⟩,?_⟩,?_⟩,?_⟩,?_⟩,?_⟩,?_⟩,?_⟩,?_⟩
     all_goals first | exact fun _ _ y hy=>hy | exact fun hne _=>absurd rfl hne
   ·intro vv w5 hR hG;have hv12:vv 12=.agg #[.bool lf,.slice (some ⟨b,ob,none⟩) nb cb]:=hG.1.2 (by decide);have HB5:=hid hR.1;have HR5:=hid hR.2.2.1;have HX35:=hid hR.2.2.2.1;have HROW5:=hid hR.2.2.2.2;clear hG hR HCC HJ;simp [stG,stU,Au,Act.put,hv12];clear hv12
    go_wp2_with (refine Ae rfl 114 _ _ rfl (g+1+1) #[.bool lf,.slice (some ⟨b,ob,none⟩) nb cb] rfl rfl 114 _ HX35.out (by kernel_rfl) rfl (by simp [Value.oneCell']) ?_)
    intro w6 hr9 hg9;have HB6:Hid (Below w.heap.size w w6):=hid (HB5.out.grown hg9 HB5.out.size fun k hk=>by have:=HG.out;cases hk;omega);have HR6:=hid hr9;have HROW6:=hid (HROW5.out.kept hg9 (.inr (DV (by decide) HROW5.out HX35.out)));have HR56:=hid (BQ HR5.out hg9 (by omega));clear hr9 hg9 HROW5 HX35 HB5 HR5
    go_wp2_with fail
    refine bodyPost_ret (v:=.tuple #[.agg #[.bool lf,.slice (some ⟨b,o,none⟩) k k],.agg #[.bool lf,.slice (some ⟨b,ob,none⟩) nb cb],.int .i64 0]) (Yd _ _ _ _ _ _ rfl rfl HR56.out HR6.out rfl rfl) rfl ⟨?_,HB6.out⟩;rw [HFF.out];refine ⟨_,_,rfl,⟨_,_,_,_,rfl⟩,⟨_,_,_,_,rfl⟩,fun _=>?_⟩;obtain ⟨a7,c7,hs7,hn7,h7,-⟩:=J9 HROW6.out;have ha7:some ⟨b,o,none⟩=a7:=by cases hs7;rfl
    subst ha7;have hall:=NdOk.mono h7.ets;obtain ⟨k1,k2,k3,k4⟩:=HNK.out;obtain ⟨m1,m2,m3,-⟩:=HAB.out;have hkk:=HKK.out;have hfit:=HND.out.2.2.2.1;rw [<- k4,<- hkk];have hbk:k < es.length->(some ⟨b,ob,none⟩:Option Addr)=(some ⟨b,o,none⟩:Option Addr).map fun x=>x.add (k * 3):=fun _=>by
     rw [<- m1];simp [Addr.add];omega
    refine ⟨⟨_,_,_,rfl,⟨by rw [List.length_take];omega,hall.front k,by omega,fun e he=>hfit e (List.mem_of_mem_take he),⟨Nat.le_refl _,by omega⟩,fun h=>by cases h⟩,h7.front k⟩,⟨_,_,_,rfl,⟨by rw [List.length_drop];omega,hall.back k _ hbk,by omega,fun e he=>hfit e (List.mem_of_mem_drop he),⟨by omega,by omega⟩,fun h=>by cases h⟩,h7.back k _ hbk⟩⟩
 ·have hcc:((C:Int) != 0)=true:=by rw [bne_iff_ne];exact hC0
  have hcc2:(C=0)=False:=eq_false hC0;have HFF:Hid (FF=C/\C≠0):=hid ⟨HF.out.trans ((iI (by rw [<- HC.out];exact hC0)).trans HC.out.symm),hC0⟩;clear hC0 hx1
  go_wp2_with (refine Ae rfl 114 _ _ rfl (g+1) #[.bool false,.slice none 0 0] rfl rfl 114 _ HX21.out (by kernel_rfl) rfl (by simp [Value.oneCell']) ?_)
  intro w8 hr9 hg9;have HB8:Hid (Below w.heap.size w w8):=hid (HB1.out.grown hg9 HB1.out.size fun k hk=>by have:=HG.out;cases hk;omega);have HR8:=hid hr9;have HX38:=hid (BQ HX31.out hg9 (by omega));clear hr9 hg9
  go_wp2_with (refine Ae rfl 114 _ _ rfl (g+1+1) #[.bool false,.slice none 0 0] rfl rfl 114 _ HX38.out (by kernel_rfl) rfl (by simp [Value.oneCell']) ?_)
  intro w9 hr9 hg9;have HB9:Hid (Below w.heap.size w w9):=hid (HB8.out.grown hg9 HB8.out.size fun k hk=>by have:=HG.out;cases hk;omega);have HR9:=hid hr9;have HR89:=hid (BQ HR8.out hg9 (by omega));clear hr9 hg9 HR8 HX38 HB8
  go_wp2_with fail
  refine bodyPost_ret (v:=.tuple #[.agg #[.bool false,.slice none 0 0],.agg #[.bool false,.slice none 0 0],.int .i64 C]) (Yd _ _ _ #[.bool false,.slice none 0 0] #[.bool false,.slice none 0 0] _ rfl rfl HR89.out HR9.out rfl rfl) rfl ⟨?_,HB9.out⟩;rw [HFF.out.1];exact ⟨_,_,rfl,FK,FK,fun h=>absurd h HFF.out.2⟩
end Go.Proofs.YtfhdojnobmfefaaGreatDoor
