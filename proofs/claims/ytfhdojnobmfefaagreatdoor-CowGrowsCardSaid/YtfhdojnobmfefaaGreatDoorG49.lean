/- MADE SMALL. -/
import Derived.BigRegion
import Derived.RangeFuncNested
import Derived.RangeFuncBound
import Derived.RangeFuncCalls
import Derived.RangeFuncLeaves
import Derived.RangeFuncFrom
import Derived.RangeFuncBox
import Derived.Maps.AppendAt
import Derived.Shelf.Abstract
import Derived.Shelf.RegionOpen
import Derived.WalkKit
import Derived.OwnWalkIn
import Derived.TacticsInMore
import Derived.LoopNIn
import Derived.LoopIn
import Derived.Test.YtfhdojnobmfefaaGreatDoorG47
import Derived.Test.YtfhdojnobmfefaaGreatDoorG44
import Derived.Test.YtfhdojnobmfefaaGreatDoorG48
import Derived.Test.YtfhdojnobmfefaaGreatDoorG43
import Derived.Test.YtfhdojnobmfefaaGreatDoorG42
import Derived.Test.YtfhdojnobmfefaaGreatDoorG39
namespace Go.Inc
open Go Go.RowKit
theorem PI {F:Nat->Prop} {B:Nat} {W W':World} (hm:Mv F W W') (hF:∀ b o,F b->W.heap[b]?=some o->o.isCells=true):KeepsFrom B W W':=
 ⟨hm.size,fun k o _ hk ho=>(hm.block k (Array.getElem?_eq_some_iff.1 hk).1 fun hf=>by rw [hF k o hf hk] at ho;cases ho).trans hk⟩
theorem BM {T B s n b:Nat} {w:World} {v:Value} {xs:List Value} (h:w.ownsRow B T s v n xs) (hb:v.ownBlock=some b):∃ cs fz,w.heap[b]?=some (.cells cs T fz):=by
 rcases h.2 with ⟨rfl,_⟩ | ⟨g,cap,cur,rfl,_,hgg,_⟩
 ·cases hb
 ·have:g=b:=by simpa [Value.ownBlock] using hb
  subst this;exact ⟨_,_,hgg⟩
theorem NmOk.cells {N B:Nat} {w:World} {m:Nm} (h:NmOk N B w m) (hne:m.es≠[]):∀ b o,m.a=some ⟨b,o,none⟩->∃ cs,w.heap[b]?=some (.cells cs N (0,0)):=fun b o hb=>by
 rcases h.2 with h0 | ⟨b',o',e1,⟨e2,e3⟩,-⟩
 ·exact absurd h0 hne
 ·rw [hb] at e1;simp only [Option.some.injEq,Addr.mk.injEq] at e1;obtain ⟨rfl,-,-⟩:=e1;exact e3
theorem O8 {F:Fence} {nF:Nat} {P:Program} {o:Oper} {b:Act} {K:Act->World->Prop} {Q:Exit->Act->World->Prop} {ρ:Operand->Value} {w w':World} {v u v':Value} (s x:Operand) (t:TypeId)
  (ho:o.op=.call {callee:=.builtin .append,args:=#[s,x],argTypes:=#[t,t]}) (hs:ρ s=v) (hx:ρ x=u) (hr:(Builtin.append_ #[t,t] o.type #[v,u]).run P w=.ok v' w') (hk:K (b.put o.dst v') w') :
  o.uponIn F nF P b K Q ((execOp ρ o).run P w):=by
 unfold execOp;simp only [ho,resolve,invoke,builtin,Sem.run_bind,Sem.run_pure,Result.andThen_ok,List.map_toArray,List.map_cons,List.map_nil,hs,hx,hr];exact hk
def RowZ (z:Int) (T:TypeId) (x:World) (v:Value):Prop:=∃ b,v=.slice (some ⟨b,0,none⟩) 1 1/\x.heap[b]?=some (.cells #[.int .i64 z] T (0,0))
theorem RowZ.kept {z:Int} {T:TypeId} {x y:World} {v:Value} (h:RowZ z T x v) (hg:Grew x y):RowZ z T y v:=by
 obtain ⟨b,h1,h3⟩:=h;exact ⟨b,h1,Ac h3 hg⟩
theorem SN {z:Int} {T:TypeId} {x:World} {b:Nat} (h:x.heap[b]?=some (.cells #[.int .i64 z] T (0,0))):∀ j u,[Value.int .i64 z][j]?=some u->x.cell? ((⟨b,0,none⟩:Addr).add j)=some u:=by
 intro j u hu;rw [Addr.add_lit,cell_of_row _ _ _ _ _ _ h];simpa using hu
def GnV (T B:Nat) (zs:List Int) (W:World) (vg:Value) (x:World) (v:Value):Prop:=x.ownsRow B T 1 v zs.length (zv zs)/\Nw W vg v
theorem GnV.kept {T B:Nat} {zs:List Int} {W:World} {vg:Value} {x y:World} {v:Value} (h:GnV T B zs W vg x v) (hg:Grew x y):GnV T B zs W vg y v:=
 ⟨Ag (F:=fun _=>False) h.1 (Mv.of_below hg) fun _ _=>id,h.2⟩
def SlE (es:List Et) (x:World) (v:Value):Prop:=∃ a c,v=.slice a es.length c/\EtS (fun _=>True) x a es
theorem SlE.kept {es:List Et} {x y:World} {v:Value} (h:SlE es x v) (hg:Grew x y):SlE es y v:=by
 obtain ⟨a,c,h1,h2⟩:=h;exact ⟨a,c,h1,(h2.mono fun b _ hb=>trivial).below hg⟩
def Sl3 (T:TypeId) (es fs gs:List Et) (x:World) (v:Value):Prop:=∃ g u1 u2 u3,v=.slice (some ⟨g,0,none⟩) 3 3/\x.heap[g]?=some (.cells #[u1,u2,u3] T (0,0))/\SlE es x u1/\SlE fs x u2/\SlE gs x u3
theorem Sl3.kept {T:TypeId} {es fs gs:List Et} {x y:World} {v:Value} (h:Sl3 T es fs gs x v) (hg:Grew x y):Sl3 T es fs gs y v:=by
 obtain ⟨g,u1,u2,u3,h1,h2,h3,h4,h5⟩:=h;exact ⟨g,u1,u2,u3,h1,Ac h2 hg,h3.kept hg,h4.kept hg,h5.kept hg⟩
def NwNs (N E B:Nat) (ess:List (List Et)) (x:World) (v:Value):Prop:=∃ ms:List Nm,x.ownsRow B N 2 v ms.length (cl Bd ms)/\(∀ m∈ms,m.lf=false/\NmOk E B x m)/\ms.map Nm.es=ess/\ms.Pairwise Dj
theorem NwNs.kept {N E B:Nat} {ess:List (List Et)} {x y:World} {v:Value} (h:NwNs N E B ess x v) (hg:Grew x y):NwNs N E B ess y v:=by
 obtain ⟨ms,h1,h2,h3,h4⟩:=h;exact ⟨ms,Ag (F:=fun _=>False) h1 (Mv.of_below hg) (fun _ _=>id),fun m hm=>⟨(h2 m hm).1,(h2 m hm).2.below hg⟩,h3,h4⟩
end Go.Inc
namespace Go.Proofs.YtfhdojnobmfefaaGreatDoor
open Go.RowKit Go.Inc Go.Shelf
attribute [local go_sem] Oper.semAt_some
structure ChM (B0 B jb tp bl:Nat) (j:Jb) (fs:List Nm) (vf vg vl:Value) (W:World):Prop where
 job:JobM B W jb tp fs j.g vf vg
 nd:fs.map Nm.nd=j.fr
 box:Boxed W bl 48 vl
 row:W.ownsRow B 65 3 vl j.l.length (Ak j.l)
 nf:∀ b,vf.ownBlock=some b->B0<=b
 ng:∀ b,vg.ownBlock=some b->B0<=b
 nj:B0<=jb
 nb:B0<=bl
 sp:∀ x∈fs,∀ b o,x.a=some ⟨b,o,none⟩->vl.ownBlock≠some b
def ChF (jb bl:Nat) (vf vg:Value) (b:Nat):Prop:=b=jb\/b=bl\/vf.ownBlock=some b\/vg.ownBlock=some b
theorem ChM.cells {B0 B jb tp bl:Nat} {j:Jb} {fs:List Nm} {vf vg vl:Value} {W:World} (h:ChM B0 B jb tp bl j fs vf vg vl W):∀ b,ChF jb bl vf vg b->∃ cs T fz,W.heap[b]?=some (.cells cs T fz)/\(T=168\/T=48\/T=114\/T=3)/\B0<=b:=by
 rintro b (rfl | rfl | hb | hb)
 ·exact ⟨_,_,_,h.job.blk,.inl rfl,h.nj⟩
 ·exact ⟨_,_,_,h.box,.inr (.inl rfl),h.nb⟩
 ·obtain ⟨cs,fz,hc⟩:=BM h.job.fr hb;exact ⟨_,_,_,hc,.inr (.inr (.inl rfl)),h.nf b hb⟩
 ·obtain ⟨cs,fz,hc⟩:=BM h.job.gn hb;exact ⟨_,_,_,hc,.inr (.inr (.inr rfl)),h.ng b hb⟩
theorem ChM.own {B0 B jb tp bl:Nat} {j:Jb} {fs:List Nm} {vf vg vl:Value} {W W':World} {row:Option Nat} (h:ChM B0 B jb tp bl j fs vf vg vl W) (hg:W.grownBy W' row) (hr:∀ r,row=some r->∃ o:Obj,W.heap[r]?=some o/\o.isCells=false):ChM B0 B jb tp bl j fs vf vg vl W':=by
 have hm:Mv (fun b=>row=some b) W W':=Mv.of_grown hg fun g e _=>e;have hc:∀ {b:Nat} {cs:Array Value} {T:TypeId} {fz:Nat×Nat},W.heap[b]?=some (.cells cs T fz)->row≠some b:=fun hb e=>by
  obtain ⟨o,ho,hc⟩:=hr _ e;rw [hb] at ho;cases ho;cases hc
 refine ⟨h.job.far hm (hc h.job.blk) (fun b hb=>?_) (fun b hb=>?_) (fun x hx b o hb=>?_),h.nd,h.box.kept hg fun e=>hc h.box e.symm,Ag h.row hm fun b hb=>?_,h.nf,h.ng,h.nj,h.nb,h.sp⟩
 ·obtain ⟨cs,fz,hb⟩:=BM h.job.fr hb;exact hc hb
 ·obtain ⟨cs,fz,hb⟩:=BM h.job.gn hb;exact hc hb
 ·obtain ⟨cs,hb⟩:=(h.job.nds x hx).2.cells (h.job.nds x hx).1 b o hb;exact hc hb
 ·obtain ⟨cs,fz,hb⟩:=BM h.row hb;exact hc hb
theorem ChM.round {B0 B jb tp bl:Nat} {j:Jb} {fs:List Nm} {vf vg vl:Value} {W W':World} (h:ChM B0 B jb tp bl j fs vf vg vl W) {F:Nat->Prop} (hm:Mv F W W') (hF:∀ b,F b->b < W.heap.size->ChF jb bl vf vg b) {w:World} (hw:B0=w.heap.size) (hb:Below w.heap.size w W) {bs q7:Nat} {cs:Array Value} {u:Value} (hbs:W.heap[bs]?=some (.cells cs 115 (0,0))) (hq:Boxed W q7 166 u) (Bl:Nat) :
  KeepsFrom Bl W W'/\Mv (fun b=>¬ (b=bs\/b < w.heap.size)) W W'/\Below w.heap.size w W'/\W'.heap[bs]?=some (.cells cs 115 (0,0))/\Boxed W' q7 166 u:=by
 have hm':Mv (ChF jb bl vf vg) W W':=hm.sub fun i hi hf=>hF i hf hi;have hne:∀ {b:Nat} {cs:Array Value} {T:TypeId} {fz:Nat×Nat},W.heap[b]?=some (.cells cs T fz)->(T=115\/T=166)->¬ ChF jb bl vf vg b:=fun hb hT hf=>by
  obtain ⟨cs',T',fz',hc,hT',-⟩:=h.cells _ hf;rw [hb] at hc;simp only [Option.some.injEq,Obj.cells.injEq] at hc;rw [<- hc.2.1] at hT';rcases hT with rfl | rfl<;>revert hT'<;>decide
 refine ⟨PI hm' fun b o hf ho=>?_,hm'.sub fun b _ hf hh=>?_,?_,(hm'.block _ (Aj hbs) (hne hbs (.inl rfl))).trans hbs,(hm'.block _ (Aj hq) (hne hq (.inr rfl))).trans hq⟩
 ·obtain ⟨cs',T',fz',hc,-⟩:=h.cells _ hf;rw [hc] at ho;cases ho;rfl
 ·rcases hh with rfl | hh
  ·exact hne hbs (.inl rfl) hf
  ·obtain ⟨cs',T',fz',hc,-,hge⟩:=h.cells _ hf;omega
 ·exact hb.trans (hm'.below hb.size fun b hf=>by
   obtain ⟨cs',T',fz',hc,-,hge⟩:=h.cells _ hf;omega)
def iE (C K:Nat->Nat) (Wa w w':World) (tp gd pa pn B M:Nat) (S:St) (root:Nat) (ep:Int) (t:TrG) (ns:List Nat) (b:Nat) (ks:List Nat) (D:Nat) (rs:List (Sh D)) (e:Ending):Prop:=
 (e=.returned (.int .i64 6)/\CE ks < M+(rs.length - 1)/\∃ C' n' S' v1' v2' v3',CwF C' K Wa w' tp gd pa pn n' S' root ep t ns (b+30) v1' v2' v3' ks/\Ext w C C'/\RS S S' ks ks/\Mv (fun i=>Trn C K tp i\/B<=i) w w')\/
  (e=.returned (.int .i64 0)/\∃ C' n' S' root' t' ns' v1' v2' v3' ks',CwF C' K Wa w' tp gd pa pn n' S' root' ep t' ns' (b+30) v1' v2' v3' ks'/\Ext w C C'/\KsTo ks ns' ks'/\RS S S' ks ks'/\Col (Je D rs) t'/\Mv (fun i=>Trn C K tp i\/B<=i) w w')
theorem Rn {a b:TrG} (h:Col a b):b.deep<=a.deep:=by
 induction h with
 | refl=>exact Nat.le_refl _
 | step _ ih=>exact Nat.le_trans ih (Nat.le_succ _)
theorem Yz:∀ {ms:List Nm} {l:List (List Et)},(∀ m∈ms,m.lf=false)->ms.map Nm.es=l->ms.map Nm.nd=abv l
 | [],_,_,h=>by rw [<- h];rfl
 | m::r,l,h1,h=>by
  rw [<- h];have ih:=Yz (ms:=r) (fun x hx=>h1 x (List.mem_cons_of_mem _ hx)) rfl;show (m.lf,m.es)::r.map Nm.nd=(false,m.es)::abv (r.map Nm.es);rw [ih,h1 m (List.mem_cons_self ..)]
def stL (ms:List Sm4) (pre:List (Fin ms.length)):List Stp:=(pre.map fun x=>(ms[ms.length - 1 - x.1]'(by have:=x.2;omega)).stp).reverse
theorem XV (ms:List Sm4) (pre:List (Fin ms.length)) (x:Fin ms.length):stL ms (pre++[x])=(ms[ms.length - 1 - x.1]'(by have:=x.2;omega)).stp::stL ms pre:=by
 unfold stL;rw [List.map_append,List.reverse_append];rfl
theorem aA (ms:List Sm4) (pre:List (Fin ms.length)):(stL ms pre).length=pre.length:=by unfold stL;simp
theorem aC (ms:List Sm4):stL ms (List.finRange ms.length)=ms.map Sm4.stp:=by
 have h:=aK ms;unfold stL;have e:(List.finRange ms.length).map (fun x:Fin ms.length=>(ms[ms.length - 1 - x.1]'(by have:=x.2;omega)).stp)=((List.finRange ms.length).map fun x:Fin ms.length=>ms[ms.length - 1 - x.1]'(by have:=x.2;omega)).map Sm4.stp:=by rw [List.map_map];rfl
 rw [e,<- List.map_reverse,h]
theorem az {ms:List Sm4} {pre:List (Fin ms.length)} {s:Stp} (h:s∈stL ms pre):∃ m∈ms,s=m.stp:=by
 unfold stL at h;rw [List.mem_reverse,List.mem_map] at h;obtain ⟨x,_,rfl⟩:=h;exact ⟨_,List.getElem_mem _,rfl⟩
set_option maxRecDepth 100000 in
set_option maxHeartbeats 16000000 in
theorem Jr {C K:Nat->Nat} {Wa w:World} {tp gd pa pn n:Nat} {S:St} {root:Nat} {ep:Int} {t:TrG} {ns:List Nat} {b:Nat} {v1 v2 v3:Value} {ks:List Nat} (h:CwF C K Wa w tp gd pa pn n S root ep t ns b v1 v2 v3 ks) (hb9:n<=900000/\S.s<=900000/\S.r<=900100) (hWa:0 < Wa.heap.size) {B:Nat} {vw vl0:Value} {ms:List Sm4} {lms:List Nm} (hway:WayM 174 65 B w vw ms) (hlv:w.ownsRow B 114 2 vl0 lms.length (cl Bd lms)) (hlm:∀ x∈lms,x.es≠[]/\NmOk 65 B w x) (hdj:lms.Pairwise Dj) (hl2:lms.length<=2) (hml:ms.length<=7) (hst:∀ m∈ms,m.nd.es.length<=16/\(m.nd.lf=false->0<=m.ix/\m.ix.toNat < m.nd.es.length)) (hBw:B<=w.heap.size)
  (hCB:∀ i,B<=i->C i=0) (hKB:∀ i,B<=i->K i=0) (hWB:Wa.heap.size<=B) (htB:tp < B) {D M:Nat} {rs:List (Sh D)} (hJ:JbOk (CJ S) D rs (ns.map fun n:Nat=>(n:Int)) (chg (lms.map Nm.nd) (ms.map Sm4.stp)) M) (hM:M<=16) (hrs:rs.length<=2) (hok:∀ c∈rs,okS D c) (hsr:Srt (enL D rs)) (hoe:∀ e∈enL D rs,okE e=true) (hD:D<=6) :
  Calls Tryz.prog 58 #[.pointer (some ⟨tp,0,none⟩),vw,vl0] w fun e w'=>iE C K Wa w w' tp gd pa pn B M S root ep t ns b ks D rs e:=by
 have HF:=hid h;have HX:=hid (And.intro hb9 (And.intro hWa (And.intro hCB (And.intro hKB (And.intro hWB (And.intro htB (And.intro hM (And.intro hrs (And.intro hok (And.intro hsr (And.intro hoe hD)))))))))));have HJX:=hid hJ;clear h hb9 hWa hCB hKB hWB htB hJ hM hrs hok hsr hoe hD;obtain ⟨aw,cw,rfl,hwn,hwc,hwm⟩:=AO hway.row;have HWAY:=hid hway;have HLV:=hid hlv;have HLM:=hid hlm;have HDJ:=hid hdj;have HL2:=hid hl2;have HML:=hid hml;have HST:=hid hst;have HBW:=hid hBw;obtain ⟨Mw,hMw⟩:∃ Mw,Mw=ms.length:=⟨_,rfl⟩
 rw [<- hMw];have HMW:=hid hMw;obtain ⟨jb,hjb⟩:∃ jb,jb=w.heap.size:=⟨_,rfl⟩
 have HJB:=hid hjb;obtain ⟨w0,hw0⟩:∃ w0,w0=(w.alloc (.cells #[.pointer (some ⟨tp,0,none⟩),.slice none 0 0,.slice none 0 0] 168)).alloc (.cells #[.pointer (some ⟨jb,0,none⟩)] 166):=⟨_,rfl⟩
 have HW0:=hid hw0;have hb0:Below w.heap.size w w0:=by rw [hw0];exact ((Below.refl _ _).alloc (Nat.le_refl _) _).alloc (by simp) _
 have HB0:=hid hb0;have HJ0:Hid (JobM B w0 jb tp [] [] (.slice none 0 0) (.slice none 0 0)):=hid (by
  refine ⟨by rw [hw0,hjb];exact heap_alloc2_old w _ _,World.ownsRow_nil _ _ _ _,World.ownsRow_nil _ _ _ _,(fun x hx=>by cases hx),List.Pairwise.nil,by rw [hjb];exact hBw⟩)
 have HQ7:Hid (Boxed w0 (jb+1) 166 (.pointer (some ⟨jb,0,none⟩))):=hid (by rw [hw0,hjb];exact heap_alloc2_new w _ _);have HAD:=hid (P6 (fs:=[]) (ms:=lms) HJ0.out (Ag (F:=fun _=>False) hlv (Mv.of_below hb0) fun _ _=>id) (fun b _ h=>by cases h) (fun x hx=>⟨(hlm x hx).1,(hlm x hx).2.below hb0⟩) (by rw [List.nil_append];exact hdj) (Nat.le_trans hBw hb0.size) (by rw [List.length_nil];omega));have hc7:=HQ7.out.cell;have hj1:w.heap.size+1=jb+1:=by rw [hjb]
 clear hway hlv hlm hdj hl2 hml hst hBw hMw hjb hw0 hb0 hwn hwc hwm;refine (callsIn_wide (n:=6)).1 ?_;refine callsIn_of_wp_marks Tryz.func58 rfl trivial ?_ rfl;simp only [Tryz.ntmps58,List.size_toArray,List.length_cons,List.length_nil,Nat.reduceAdd,Nat.reduceSub,Array.replicate_succ,Array.replicate_zero,List.push_toArray,List.append_toArray,List.nil_append,List.cons_append];refine wpIn_wide.2 ?_
 go_wp2_with fail
 rw [<- HJB.out,<- HW0.out];refine HAD.out.mono ?_;clear HAD;rintro e w1 ⟨v1,vf1,rfl,hr1,hjm1,hn1,hm1⟩;rw [List.length_nil,List.nil_append] at *
 obtain ⟨av,cv,rfl,hvn,-,-,-,-⟩:=Dk hr1;obtain ⟨Lv,hLv⟩:∃ Lv,Lv=(CW 0 (lms.map Nm.nd)).length:=⟨_,rfl⟩
 rw [<- hLv];have HLV2:=hid hLv;have HB1:Hid (Below w.heap.size w w1):=hid (HB0.out.trans (hm1.below HB0.out.size fun b hb=>by
  rcases hb with rfl | hb
  ·have:=HJB.out;omega
  ·cases hb))
 have HR1:=hid hr1;have HJM1:=hid hjm1;have HNF1:Hid (∀ b,vf1.ownBlock=some b->w.heap.size<=b):=hid fun b hb=>by
  rcases hn1 with e | ⟨j,e1,e2⟩
  ·rw [e] at hb;cases hb
  ·rw [hb] at e1;cases e1;exact Nat.le_trans HB0.out.size e2
 have HQ71:Hid (Boxed w1 (jb+1) 166 (.pointer (some ⟨jb,0,none⟩))):=hid (hm1.row HQ7.out fun hb=>by
  rcases hb with hb | hb
  ·omega
  ·cases hb)
 obtain ⟨bl,hbl⟩:∃ bl,bl=w1.heap.size:=⟨_,rfl⟩
 have HBL:=hid hbl;obtain ⟨w2,hw2⟩:∃ w2,w2=w1.alloc (.cells #[.slice av Lv cv] 48):=⟨_,rfl⟩
 have HW2:=hid hw2;obtain ⟨w3,hw3⟩:∃ w3,w3=w2.alloc (.cells #[.slice aw Mw cw] 115):=⟨_,rfl⟩
 have HW3:=hid hw3;have hs2:w2.heap.size=bl+1:=by rw [hw2,hbl];simp
 have HBK:Hid (Calls Tryz.prog 107 #[.slice aw Mw cw] w2 fun e w'=>e=.returned (.func (.func 140) #[] #[.pointer (some ⟨bl+1,0,none⟩)])/\w'=w3):=hid (by
  have h:=ZB aw Mw cw w2;rw [hs2,<- hw3] at h;exact h)
 have HS3:Hid (w3.heap.size=bl+2):=hid (by rw [hw3];simp [hs2]);have HB12:Hid (Below w1.heap.size w1 w3):=hid (by
  rw [hw3,hw2];exact ((Below.refl _ w1).alloc (Nat.le_refl _) _).alloc (by simp) _)
 have HBX:Hid (Boxed w3 bl 48 (.slice av Lv cv)):=hid (by
  have h2:Boxed w2 bl 48 (.slice av Lv cv):=by rw [hw2,hbl];exact Boxed.new w1 _ _
  rw [hw3];exact h2.alloc _)
 have HBS:Hid (w3.heap[bl+1]?=some (.cells #[.slice aw Mw cw] 115 (0,0))):=hid (by
  rw [hw3,<- hs2];exact heap_alloc_new w2 _)
 clear hr1 hjm1 hn1 hm1 hvn hLv hbl hw2 hw3 hs2 HW0 HJ0 HQ7
 go_wp2_with fail
 rw [<- HW2.out];refine HBK.out.mono ?_;clear HBK;rintro e w3 ⟨rfl,rfl⟩
 go_wp2_with fail
 rw [<- HBL.out];refine (wpIn_wide (n:=6)).1 ?_;have HB3:Hid (Below w.heap.size w w3):=hid (HB1.out.trans (HB12.out.mono HB1.out.size));have HCH:Hid (ChM w.heap.size B jb tp bl (chg (lms.map Nm.nd) []) lms vf1 (.slice none 0 0) (.slice av Lv cv) w3):=hid (by
  refine ⟨HJM1.out.below HB12.out,rfl,HBX.out,?_,HNF1.out,(fun b h=>by cases h),by rw [HJB.out];exact Nat.le_refl _,by rw [HBL.out];exact HB1.out.size,fun x hx b o hb e=>?_⟩
  rotate_left
  ·have h1:=((HLM.out x hx).2.blk (HLM.out x hx).1 b o hb).2;have h2:=HR1.out;rw [<- HLV2.out] at h2;have h3:=AB h2 b e;have h4:=HB0.out.size;omega
  show w3.ownsRow B _ 3 _ (CW 0 (lms.map Nm.nd)).length (Ak (CW 0 (lms.map Nm.nd)));refine Ag (F:=fun _=>False) ?_ (Mv.of_below HB12.out) fun _ _=>id;have h:=HR1.out;have e:lms.length=(CW 0 (lms.map Nm.nd)).length:=by rw [Gz,List.length_map]
  rw [e] at h;rw [HLV2.out];exact AV h (Nat.le_trans HBW.out HB0.out.size))
 have HQ73:Hid (Boxed w3 (jb+1) 166 (.pointer (some ⟨jb,0,none⟩))):=hid ((Mv.of_below (F:=fun _=>False) HB12.out).row HQ71.out id);have HJL:Hid (jb+1 < bl):=hid (by have:=HQ71.out.lt;have:=HBL.out;omega);obtain ⟨gw,hgw⟩:∃ gw,(0 < ms.length->aw=some ⟨gw,0,none⟩/\gw < w.heap.size)/\∀ (i r:Nat) (x:Sm4) (u:Value),ms[i]?=some x->(EG x)[r]?=some u->w.cell? ⟨gw,i * 4+r,none⟩=some u:=by
  by_cases hn:ms=[]
  ·exact ⟨0,fun h=>by rw [hn] at h;simp at h,fun i r x u hx=>by rw [hn] at hx;simp at hx⟩
  ·obtain ⟨g,c,hv,-,hlt,-,-,hcl⟩:=GM HWAY.out.row KR hn;simp only [Value.slice.injEq] at hv;exact ⟨g,fun _=>⟨hv.1,hlt⟩,hcl⟩
 have HU:Hid (BwU (fun b=>b=bl+1\/b < w.heap.size) w3 (bl+1) gw cw aw ms):=hid (by
  refine ⟨by rw [cell_of_row _ _ _ _ _ _ HBS.out,HMW.out];rfl,fun h=>⟨(hgw.1 h).1,.inr (hgw.1 h).2⟩,fun i r x u hx hu=>?_,.inl rfl⟩;exact (Mv.of_below (F:=fun _=>False) HB3.out).cell (hgw.2 i r x u hx hu) id)
 clear hgw hc7 hj1;refine wpIn_rangeFunc_ownH (n:=6) rfl (by omega) (gf:=140) (lb:=#[.pointer (some ⟨bl+1,0,none⟩)]) rfl trivial (enters_of Tryz.func140 (by kernel_rfl) rfl)
  (Ul 5 (by omega) (bl+1) gw cw aw _ ms (by have:=HML.out;omega) w3 HU.out) (fun h k=>h.trans k) (fun W l o o' hl _ _ _=>BU W o' (fun hh=>by have:=HS3.out;have:=HB3.out.size;have:=HJL.out;have:=HJB.out;omega)) (Below.refl _ _) (fun _=>rfl)
  (fun pre W=>(∃ fs vf vg vl,ChM w.heap.size B jb tp bl (chg (lms.map Nm.nd) (stL ms pre)) fs vf vg vl W)/\Below w.heap.size w W/\W.heap[bl+1]?=some (.cells #[.slice aw Mw cw] 115 (0,0))/\Boxed W (jb+1) 166 (.pointer (some ⟨jb,0,none⟩)))
  (fun _ _ _=>False)
  (fun pre X Y row hs hg hr=>?hI)
  (fun _ _ _ _ _ hs _ _=>hs)
  ⟨⟨lms,vf1,_,_,HCH.out⟩,HB3.out,HBS.out,HQ73.out⟩
  (fun x a' W=>∃ (Bx:Nat) (m:Sm4),m=ms[ms.length - 1 - x.1]'(by have:=x.2;omega)/\bl+1 < Bx/\W.heap[Bx]?=some (.cells #[.int .i64 m.page,.int .i64 m.ix,.bool m.nd.lf,.slice m.nd.a m.nd.es.length m.nd.c] 174 (0,0))/\a'={tmps:=#[.pointer (some ⟨tp,0,none⟩),.slice aw Mw cw,vl0,undef,undef,undef,.int .i64 0,.pointer (some ⟨jb+1,0,none⟩),.pointer (some ⟨bl,0,none⟩),undef,.pointer (some ⟨Bx,0,none⟩),undef,undef,.pointer (some ⟨tp,0,none⟩),.agg #[.pointer (some ⟨tp,0,none⟩),.slice none 0 0,.slice none 0 0],.pointer (some ⟨jb,0,none⟩),.pointer (some ⟨jb,0,none⟩),vl0,.slice av Lv cv,.slice aw Mw cw,.func (.func 140) #[] #[.pointer (some ⟨bl+1,0,none⟩)],.int .i64 ((ms.length - 1 - x.1:Nat):Int),.agg #[.int .i64 m.page,.int .i64 m.ix,.bool m.nd.lf,.slice m.nd.a m.nd.es.length m.nd.c],undef,undef,undef,undef,undef,undef,undef,undef,undef,undef,undef,undef,undef,undef,undef,undef,undef,undef,undef,undef,undef,undef,undef,undef,undef,undef,undef,undef,undef,undef,undef,undef,undef,undef,undef,undef,undef,undef,undef,undef,undef,undef,undef,undef,undef,undef,undef,undef,undef,undef,undef,undef,undef,undef,undef,undef,undef],defers:=[]})
  (fun x a' _ X Y row hs hg hr=>?hAx) ?assign ?body ?done ?stop
 case hI=>
  obtain ⟨⟨fs,vf,vg,vl,hch⟩,hb,hbs,hq⟩:=hs;have hc:∀ {b:Nat} {cs:Array Value} {T:TypeId} {fz:Nat×Nat},X.heap[b]?=some (.cells cs T fz)->row≠some b:=fun hb e=>by
   obtain ⟨-,o,ho,hcc⟩:=hr _ e;rw [hb] at ho;cases ho;cases hcc
  exact ⟨⟨fs,vf,vg,vl,hch.own hg fun r e=>(hr r e).2⟩,hb.grown hg hb.size (fun k e=>Nat.le_trans HB3.out.size (hr k e).1),(hg.block _ (Aj hbs) fun e=>hc hbs e.symm).trans hbs,hq.kept hg fun e=>hc hq e.symm⟩
 case hAx=>
  obtain ⟨Bx,m,hm,h1,h2,h3⟩:=hs;refine ⟨Bx,m,hm,h1,(hg.block _ (Aj h2) fun e=>?_).trans h2,h3⟩;obtain ⟨-,o,ho,hcc⟩:=hr _ e.symm;rw [h2] at ho;cases ho;cases hcc
 case assign=>
  rintro l pre x W K hi hK;obtain ⟨m,hm⟩:∃ m,m=ms[ms.length - 1 - x.1]'(by have:=x.2;omega):=⟨_,rfl⟩
  have hbe:bwE ms x=#[.int .i64 ((ms.length - 1 - x.1:Nat):Int),.agg #[.int .i64 m.page,.int .i64 m.ix,.bool m.nd.lf,.slice m.nd.a m.nd.es.length m.nd.c]]:=by rw [hm];rfl
  rw [hbe];have HMX:=hid hm;obtain ⟨⟨fs,vf,vg,vl,hch⟩,hb,hbs,hq⟩:=hi;have HI:=hid (And.intro hch (And.intro hb (And.intro hbs hq)));clear hch hb hbs hq hm hbe
  gi_wp2
  obtain ⟨hch,hb,hbs,hq⟩:=HI.out;have hgr:=World.grownBy_alloc W (.cells #[.int .i64 m.page,.int .i64 m.ix,.bool m.nd.lf,.slice m.nd.a m.nd.es.length m.nd.c] 174) none;exact hK _ _ ((KeepsOthers.alloc _ _).from _) (Mv.of_below (Ad W _)) ⟨⟨fs,vf,vg,vl,hch.own hgr fun r e=>by cases e⟩,hb.alloc hb.size _,(hgr.block _ (Aj hbs) (by simp)).trans hbs,hq.alloc _⟩ ⟨W.heap.size,m,HMX.out,Aj hbs,heap_alloc_new W _,rfl⟩
 case body=>
  rintro l pre x a' W hl ⟨rl,hrl⟩ ⟨⟨fs,vf,vg,vl,hch⟩,hbw,hbs,hq7⟩ ⟨Bx,m,hm,hBx,hbx,rfl⟩ hlt;have hmem:m∈ms:=by rw [hm];exact List.getElem_mem _
  have HNMW:=hid ((HWAY.out.nds m hmem).below (w':=W) hbw);have HSTM:=hid (HST.out m hmem);have HSN:Hid (stL ms (pre++[x])=m.stp::stL ms pre):=hid (by rw [XV,<- hm]);obtain ⟨st,hst⟩:∃ st,st=stL ms pre:=⟨_,rfl⟩
  rw [<- hst] at HSN hch;have hsl:st.length<=7:=by rw [hst,aA];have:=HML.out;omega
  obtain ⟨j,hj⟩:∃ j,j=chg (lms.map Nm.nd) st:=⟨_,rfl⟩
  have hgl:=Uk (lv:=lms.map Nm.nd) st;have hfl:=Vp (lv:=lms.map Nm.nd) (by rw [List.length_map];exact HL2.out) st;have hll:=Vo (lv:=lms.map Nm.nd) (by rw [List.length_map];exact HL2.out) st;have hfit:=NI (lv:=lms.map Nm.nd) (fun n hn=>by
   obtain ⟨y,hy,rfl⟩:=List.mem_map.1 hn;exact ⟨(HLM.out y hy).1,(HLM.out y hy).2.1.2.2.2.1⟩) st (fun s hs=>by
   rw [hst] at hs;obtain ⟨y,hy,rfl⟩:=az hs;exact (HWAY.out.nds y hy).1.2.2.2.1) (by omega)
  rw [<- hj] at hch hgl hfl hll hfit;have HJD:=hid hj;have HCH0:=hid hch;obtain ⟨gs,hgs⟩:∃ gs,gs=j.g:=⟨_,rfl⟩
  have hjob:JobM B W jb tp fs gs vf vg:=by rw [hgs];exact hch.job
  obtain ⟨ag,cg,rfl,-⟩:=AO hjob.gn;obtain ⟨Lg,hLg⟩:∃ Lg,Lg=gs.length:=⟨_,rfl⟩
  obtain ⟨al,cl',rfl,-⟩:=AO hch.row;obtain ⟨ls,hls⟩:∃ ls,ls=j.l:=⟨_,rfl⟩
  obtain ⟨Ll,hLl⟩:∃ Ll,Ll=ls.length:=⟨_,rfl⟩
  obtain ⟨i0,hi,hz0,hz1,hz2⟩:=info_parts PN;have HI:=hid (And.intro hi (And.intro hz0 (And.intro hz1 hz2)));rw [<- hgs] at hgl;rw [<- hls] at hll hfit;rw [<- hLg] at hjob;rw [<- hLl] at hll;have HGN:Hid (W.ownsRow B 3 1 (.slice ag Lg cg) Lg (zv gs)):=hid (by have h:=hjob.gn;rw [<- hLg] at h;exact h);have HGLB:Hid (Lg<=7):=hid (by omega);have HGL:=hid hLg;have HBWW:Hid (B<=W.heap.size):=hid (Nat.le_trans HBW.out hbw.size);obtain ⟨pg,hpg⟩:∃ pg,pg=m.page:=⟨_,rfl⟩
  have HJOB:=hid hjob;have HCELL:=hid (ChM.cells hch);have HBXR:=hid hbx;have HRND:=hid (fun (F:Nat->Prop) (W':World) (hm:Mv F W W') (hF:∀ b,F b->b < W.heap.size->ChF jb bl vf (.slice ag Lg cg) b)=>ChM.round (hLg ▸ hch) hm hF rfl hbw hbs hq7 w3.heap.size);have HPG:=hid hpg;have HGS:=hid hgs;have HLS:=hid hls;have HLL:=hid hLl;have HFB:=hid (And.intro hfl (And.intro hll hfit));have HC5:Hid (∀ y,Mv (fun b=>(Value.slice ag Lg cg).ownBlock=some b) W y->y.cell? ⟨jb+1,0,none⟩=some (.pointer (some ⟨jb,0,none⟩))/\y.cell? ⟨jb,2,none⟩=some (.slice ag Lg cg)/\y.cell? ⟨Bx,0,none⟩=some (.int .i64 pg)):=hid fun y hy=>by
   have y1:=hy.row hq7 (AU HGN.out hq7 (by decide));have y2:=hy.row hjob.blk (AU HGN.out hjob.blk (by decide));have y3:=hy.row hbx (AU HGN.out hbx (by decide));refine ⟨?_,?_,?_⟩
   ·rw [cell_of_row _ _ _ _ _ _ y1];rfl
   ·rw [cell_of_row _ _ _ _ _ _ y2];rfl
   ·rw [cell_of_row _ _ _ _ _ _ y3,hpg];rfl
  clear hch hgs hjob hLg hls hLl hi hz0 hz1 hz2 hpg hst hj hgl hlt hm hmem hfl hll hfit
  gi_wp2
  refine Jc 11 8 (fun y=>Below W.heap.size W y) (fun y=>Mv (fun b=>(Value.slice ag Lg cg).ownBlock=some b) W y) [7] [EqN (.pointer (some ⟨jb,0,none⟩)),EqN (.pointer (some ⟨jb,0,none⟩)),EqN (.pointer (some ⟨jb,0,none⟩)),EqN (.pointer (some ⟨jb,2,none⟩)),EqN (.slice ag Lg cg),EqN (.pointer (some ⟨Bx,0,none⟩)),EqN (.int .i64 pg),RowZ pg 3,GnV 3 B (gs++[pg]) W (.slice ag Lg cg),EqN (.pointer (some ⟨jb,0,none⟩)),EqN (.pointer (some ⟨jb,2,none⟩))] (by kernel_rfl) (by decide) (by kernel_rfl) (fun _=>trivial) (by kernel_rfl) (by kernel_rfl) (by decide) ?_ ?_ ?_ ?_ ?_ ?_
  ·exact BX W 1
  ·exact fun a b hg h=>h.trans (Below.mono hg h.size)
  ·exact fun a b hg h=>h.trans (Mv.of_below hg)
  ·repeat' (first | exact List.forall_mem_nil _ | refine List.forall_mem_cons.2 ⟨?_,?_⟩)
   all_goals
    intro w w' v hw h
    first | exact h | exact RowZ.kept h hw | exact GnV.kept h hw
  ·simp only [AllLt];refine ⟨⟨⟨⟨⟨⟨⟨⟨⟨⟨⟨trivial,?_⟩,?_⟩,?_⟩,?_⟩,?_⟩,?_⟩,?_⟩,?_⟩,?_⟩,?_⟩,?_⟩
   all_goals
    intro o' ho;simp at ho;subst ho;intro ρ w5 hR hL hS hG;obtain ⟨hl1,hl2,-⟩:=hL
   iterate 2
    ·refine Aa rfl ?_;intro bA K Q' hK;have e7:=hS 7 (by kernel_rfl);change ρ (.tmp 7)=_ at e7;obtain ⟨y1,y2,y3⟩:=HC5.out w5 (hR.any.elim (fun h=>Mv.of_below h) id);simp only [execOp];go_simp;exact hK _ _ rfl (fun _=>Grew.refl _) (fun h=>absurd h (by decide))
   ·refine Aa rfl ?_;intro bA K Q' hK;have e24:=apG (hG 1 24);change ρ (.tmp 24)=_ at e24;simp only [execOp];go_simp;exact hK _ _ rfl (fun _=>Grew.refl _) (fun h=>absurd h (by decide))
   ·refine Aa rfl ?_;intro bA K Q' hK;have e25:=apG (hG 2 25);change ρ (.tmp 25)=_ at e25;simp only [execOp];go_simp;exact hK _ _ rfl (fun _=>Grew.refl _) (fun h=>absurd h (by decide))
   ·refine Aa rfl ?_;intro bA K Q' hK;have e26:=apG (hG 3 26);change ρ (.tmp 26)=_ at e26;obtain ⟨y1,y2,y3⟩:=HC5.out w5 (hR.any.elim (fun h=>Mv.of_below h) id);simp only [execOp];go_simp;exact hK _ _ rfl (fun _=>Grew.refl _) (fun h=>absurd h (by decide))
   ·refine Aa rfl ?_;intro bA K Q' hK;have e10:=hS 10 (by kernel_rfl);change ρ (.tmp 10)=_ at e10;simp only [execOp];go_simp;exact hK _ _ rfl (fun _=>Grew.refl _) (fun h=>absurd h (by decide))
   ·refine Aa rfl ?_;intro bA K Q' hK;have e28:=apG (hG 5 28);change ρ (.tmp 28)=_ at e28;obtain ⟨y1,y2,y3⟩:=HC5.out w5 (hR.any.elim (fun h=>Mv.of_below h) id);simp only [execOp];go_simp;exact hK _ _ rfl (fun _=>Grew.refl _) (fun h=>absurd h (by decide))
   ·refine Aa rfl ?_;intro bA K Q' hK;have e29:=apG (hG 6 29);change ρ (.tmp 29)=_ at e29;simp only [execOp];go_simp;exact hK _ _ ⟨_,rfl,heap_alloc_new w5 _⟩ (fun _=>(Grew.refl _).alloc _) (fun h=>absurd h (by decide))
   ·refine Aa rfl ?_;intro bA K Q' hK;have e27:=apG (hG 4 27);have e30:=apG (hG 7 30);change ρ (.tmp 27)=_ at e27;obtain ⟨bx,h8,hrx⟩:=e30;have hj1:=hR.ahead (by decide);have hown:w5.ownsRow B 3 1 (.slice ag Lg cg) Lg (zv gs):=Ag (F:=fun _=>False) HGN.out (Mv.of_below hj1) fun _ _=>id;obtain ⟨v',w6,hr,ho',hgr,hnw⟩:=Ia (P:=Tryz.prog) w5 B 54 54 3 i0 (.int .i64 0) 1 8 Tryz.underlying54 HI.out.1 HI.out.2.1 HI.out.2.2.1 HI.out.2.2.2 rfl (by decide) (.slice ag Lg cg) Lg (zv gs) hown ⟨bx,0,none⟩ 1 1 [.int .i64 pg] rfl (SN hrx) (by simp [Value.oneCell']) (by have:=HGLB.out;unfold maxLen;omega) (by have:=HGLB.out;omega) (Nat.le_trans HBWW.out hj1.size);refine O8 (.tmp 27) (.tmp 30) 54 rfl e27 h8 hr ?_;refine hK _ _ ⟨by rw [RU,List.length_append,<- HGL.out];exact ho',hnw.less hj1.size⟩ (fun h=>absurd rfl h) (fun _=>⟨(Mv.of_below hj1).trans (Mv.of_grown hgr fun j hj _=>hj),?_⟩)
    ·simp only [AllLt];refine ⟨⟨⟨⟨⟨⟨⟨⟨⟨⟨⟨trivial,?_⟩,?_⟩,?_⟩,?_⟩,?_⟩,?_⟩,?_⟩,?_⟩,?_⟩,?_⟩,?_⟩
     iterate 7
      ·exact fun _ _ y hy=>hy
     ·exact fun _ hl=>absurd hl (by decide)
     ·exact fun hne _=>absurd rfl hne
     iterate 2
      ·exact fun _ _ y hy=>hy
   ·refine Aa rfl ?_;intro bA K Q' hK;have e23:=apG (hG 0 23);change ρ (.tmp 23)=_ at e23;simp only [execOp];go_simp;exact hK _ _ rfl (fun _=>Grew.refl _) (fun h=>absurd h (by decide))
   ·refine Aa rfl ?_;intro bA K Q' hK;have e32:=apG (hG 9 32);change ρ (.tmp 32)=_ at e32;simp only [execOp];go_simp;exact hK _ _ rfl (fun _=>Grew.refl _) (fun h=>absurd h (by decide))
  ·intro v w4 hJ1 hG;have h0:v 0=.pointer (some ⟨jb,0,none⟩):=(hG.1.1.1.1.1.1.1.1.1.1.2 (by decide))
   have h8:GnV 3 B (gs++[pg]) W (.slice ag Lg cg) w4 (v 8):=(hG.1.1.2 (by decide))
   have h10:v 10=.pointer (some ⟨jb,2,none⟩):=(hG.2 (by decide))
   obtain ⟨hown8,hnw8⟩:=h8;have hown9:w4.ownsRow B 3 1 (v 8) (Lg+1) (zv (gs++[pg])):=by
    rw [List.length_append,<- HGL.out] at hown8;exact hown8
   obtain ⟨g4,c4,hv8⟩:=ownsRow_succ hown9;rw [hv8] at hown9 hnw8;have HOWN:=hid hown9;have HNW:=hid hnw8;have hblk4:=hJ1.row HJOB.out.blk (AU HGN.out HJOB.out.blk (by decide));have hbx4:=hJ1.row HBXR.out (AU HGN.out HBXR.out (by decide));have hq74:=hJ1.row hq7 (AU HGN.out hq7 (by decide));obtain ⟨w6,hw6⟩:∃ w6,w6=w4.setCell ⟨jb,2,none⟩ (.slice (some ⟨g4,0,none⟩) (Lg+1) c4):=⟨_,rfl⟩
   have HW6:=hid hw6;have hg6:w4.grownBy w6 (some jb):=by rw [hw6];exact Aq (Aw w4 (some jb)) (p:=⟨jb,2,none⟩) (.inl rfl) _
   have hm6:Mv (fun b=>b=jb) w4 w6:=Mv.of_grown hg6 fun j hj _=>by cases hj;rfl
   have HM6:Hid (Mv (fun b=>b=jb\/(Value.slice ag Lg cg).ownBlock=some b) W w6):=hid (((Mv.refl _ W).trans' hJ1 fun _ _ h=>.inr h).trans' hm6 fun _ _ h=>.inl h);have hbx6:w6.heap[Bx]?=_:=hm6.row hbx4 (fun e=>by subst e;have h:=HBXR.out.symm.trans HJOB.out.blk;simp at h);have HQ76:Hid (Boxed w6 (jb+1) 166 (.pointer (some ⟨jb,0,none⟩))):=hid (hm6.row hq74 (by omega));have HJ6:Hid (JobM B w6 jb tp fs (gs++[pg]) vf (.slice (some ⟨g4,0,none⟩) (Lg+1) c4)):=hid (by
    have hF:∀ b,(b=jb\/(Value.slice ag Lg cg).ownBlock=some b)->∀ T cs fz,W.heap[b]?=some (.cells cs T fz)->T=168\/T=3:=fun b hb T cs fz hc=>by
     rcases hb with rfl | hb
     ·rw [HJOB.out.blk] at hc;simp at hc;exact .inl hc.2.1.symm
     ·obtain ⟨cs',fz',hc'⟩:=BM HGN.out hb;rw [hc'] at hc;simp at hc;exact .inr hc.2.1.symm
    refine ⟨by rw [hw6];exact EI hblk4 2 _ (by simp),Ag HJOB.out.fr HM6.out fun b hb e=>?_,?_,fun y hy=>⟨(HJOB.out.nds y hy).1,(HJOB.out.nds y hy).2.mvT HM6.out fun b cs hb e=>?_⟩,HJOB.out.dj,HJOB.out.ge⟩
    ·obtain ⟨cs',fz',hc'⟩:=BM HJOB.out.fr hb;exact absurd (hF b e _ _ _ hc') (by decide)
    ·rw [List.length_append,<- HGL.out];exact Ag HOWN.out hm6 fun b hb e=>by subst e;exact AU HOWN.out hblk4 (by decide) hb
    ·exact absurd (hF b e _ _ _ hb) (by decide))
   have hcj4:w4.cell? ⟨jb,2,none⟩=some (.slice ag Lg cg):=coR hblk4;have hfj4:=frozen_of_row w4 jb 2 _ _ hblk4;have hbox6:Boxed w6 bl 48 (.slice al Ll cl'):=by
    have h:=HCH0.out.box;rw [<- HLS.out,<- HLL.out] at h;refine HM6.out.row h fun e=>?_;rcases e with e | e
    ·have h2:=HCH0.out.job.blk;rw [<- e,h] at h2;simp at h2
    ·exact AU HGN.out h (by decide) e
   have HROW6:Hid (w6.ownsRow B 65 3 (.slice al Ll cl') Ll (Ak ls)):=hid (by
    have h:=HCH0.out.row;rw [<- HLS.out,<- HLL.out] at h;refine Ag h HM6.out fun b hb e=>?_;rcases e with e | e
    ·subst e;exact AU h HJOB.out.blk (by decide) hb
    ·exact DR h HGN.out (by decide) b hb e)
   have HNG6:Hid (∀ b,(Value.slice (some ⟨g4,0,none⟩) (Lg+1) c4).ownBlock=some b->w.heap.size<=b):=hid fun b hb=>by
    rcases HNW.out with e | ⟨q,e1,e2⟩
    ·rw [e] at hb;have h:=HCH0.out.ng;rw [<- HGL.out] at h;exact h b hb
    ·rw [hb] at e1;cases e1;exact Nat.le_trans hbw.size e2
   have HNM6:Hid (NmOk 65 B w6 m.nd):=hid (HNMW.out.mvT HM6.out fun b cs hb e=>by
    rcases e with rfl | e
    ·have h2:=HJOB.out.blk.symm.trans hb;simp at h2
    ·exact AU HGN.out hb (by decide) e)
   have HBW6:Hid (B<=w6.heap.size):=hid (Nat.le_trans HBWW.out HM6.out.size);have HBOX6:=hid hbox6;have HBX6:=hid hbx6;have hc60:w6.cell? ⟨Bx,2,none⟩=some (.bool m.nd.lf):=coR hbx6;rw [hw6] at hc60;clear hown8 hnw8 hown9 hJ1 hG hblk4 hbx4 hq74 hg6 hm6 hbx6 hw6 hq7 hbox6 hbw hbs hrl;simp [stG,stU,Au,Act.put,h0,h10,hv8];clear h0 h10 hv8;cases hlf:m.nd.lf with
   | true=>
    rw [hlf] at hc60
    gi_wp2
    rw [<- HW6.out];obtain ⟨r1,r2,r3,r4,r5⟩:=HRND.out _ w6 HM6.out fun b hb _=>by
     rcases hb with rfl | hb
     ·exact .inl rfl
     ·exact .inr (.inr (.inr hb))
    refine ⟨r1,r2,⟨fs,vf,.slice (some ⟨g4,0,none⟩) (Lg+1) c4,.slice al Ll cl',?_⟩,r3,r4,r5⟩;rw [HSN.out,Gw (show m.stp.lf=true from hlf),<- HJD.out];have hcc:=HCH0.out;exact ⟨by rw [<- HGS.out,show m.stp.page=pg from HPG.out.symm];exact HJ6.out,hcc.nd,HBOX6.out,by show w6.ownsRow B _ 3 _ j.l.length (Ak j.l);rw [<- HLS.out,<- HLL.out];exact HROW6.out,hcc.nf,HNG6.out,hcc.nj,hcc.nb,by have h:=HCH0.out.sp;rw [<- HLS.out,<- HLL.out] at h;exact h⟩
   | false=>
    rw [hlf] at hc60;obtain ⟨hes16,hix⟩:=HSTM.out;obtain ⟨hix0,hixl⟩:=hix hlf;obtain ⟨es,hes⟩:∃ es,es=m.nd.es:=⟨_,rfl⟩
    have hnm:=HNM6.out;obtain ⟨be,oe,hae,-⟩:=DC hnm.2.ets (by intro h;rw [h] at hixl;simp at hixl);obtain ⟨k,hk⟩:∃ k:Nat,k=m.ix.toNat:=⟨_,rfl⟩
    have hki:m.ix=(k:Int):=by omega
    rw [<- hk] at hixl;obtain ⟨L,hL⟩:∃ L,L=m.nd.es.length:=⟨_,rfl⟩
    obtain ⟨c,hc⟩:∃ c,c=m.nd.c:=⟨_,rfl⟩
    have hncap:=hnm.1.2.2.2.2.1;rw [<- hL] at hixl hes16 hncap;rw [<- hc] at hncap;have hcm:(c:Int)<=9223372036854775807:=by have:=hncap.2;unfold maxLen at this;omega
    have hkL:(k:Int)+1<=(L:Int):=by omega
    have hLc:(L:Int)<=(c:Int):=by omega
    have hL16:(L:Int)<=16:=by omega
    have HTK:Hid ((es.take k).length=k):=hid (by rw [List.length_take,hes];omega);have HDP:Hid ((es.drop (k+1)).length=L - (k+1)):=hid (by rw [List.length_drop,hes,hL]);have HLE:Hid (es.length=L):=hid (by rw [hes,hL]);have HLC:Hid (k < L/\L<=c/\L<=16):=hid ⟨by omega,hncap.1,hes16⟩;have HE1:Hid (EtS (fun b=>B<=b) w6 (some ⟨be,oe,none⟩) (es.take k)):=hid (by
     have h:=(hnm.part k (by omega)).2.ets;rw [<- hes] at h;rw [<- hae];exact h)
    have HE2:Hid (EtS (fun b=>B<=b) w6 (some ⟨be,oe+(k+1) * 3,none⟩) (es.drop (k+1))):=hid (by
     have h:=(hnm.rest (k+1) (by omega) be oe hae).2.ets;rw [<- hes] at h;exact h)
    have HES:Hid (EtS (fun b=>B<=b) w6 al ls):=hid (by
     obtain ⟨a',c'',hv,-,he,-⟩:=Dk HROW6.out;simp only [Value.slice.injEq] at hv;rw [hv.1];exact he)
    obtain ⟨mid,hmid⟩:∃ mid,mid=es.take k++ls++es.drop (k+1):=⟨_,rfl⟩
    have HMID:=hid hmid;obtain ⟨hfl,hll,hfit⟩:=HFB.out;have HLB:Hid (es.length<=16/\ls.length<=2):=hid ⟨by rw [hes];omega,by rw [<- HLL.out];exact hll⟩;have HMF:Hid (mid.length<=1000/\∀ e∈mid,ET e):=hid ⟨by
     rw [hmid,List.length_append,List.length_append,List.length_take,List.length_drop];have:=HLB.out;omega,fun e he=>by
     rw [hmid] at he;rcases List.mem_append.1 he with he | he
     ·rcases List.mem_append.1 he with he | he
      ·exact hnm.1.2.2.2.1 e (by rw [<- hes];exact List.mem_of_mem_take he)
      ·exact hfit e he
     ·exact hnm.1.2.2.2.1 e (by rw [<- hes];exact List.mem_of_mem_drop he)⟩
    have HME:Hid (Ig m.stp ls=mid):=hid (by
     rw [hmid];unfold Ig;show m.nd.es.take m.ix.toNat++ls++m.nd.es.drop (m.ix.toNat+1)=_;rw [<- hk,<- hes])
    have HC7:Hid (∀ y,Grew w6.drew y->y.cell? ⟨jb+1,0,none⟩=some (.pointer (some ⟨jb,0,none⟩))/\y.cell? ⟨Bx,1,none⟩=some (.int .i64 (k:Int))/\y.cell? ⟨Bx,3,none⟩=some (.slice (some ⟨be,oe,none⟩) L c)/\y.cell? ⟨bl,0,none⟩=some (.slice al Ll cl')/\True):=hid fun y hy=>by
     have hb:Below w6.heap.size w6 y:=⟨hy.os,hy.tape,hy.output,hy.size,hy.block⟩
     have y1:=Ac HBX6.out hb;refine ⟨?_,?_,?_,?_,trivial⟩
     ·rw [cell_of_row _ _ _ _ _ _ (Ac HQ76.out hb)];rfl
     ·rw [cell_of_row _ _ _ _ _ _ y1,<- hki];rfl
     ·rw [cell_of_row _ _ _ _ _ _ y1,hL,hc,<- hae];rfl
     ·rw [cell_of_row _ _ _ _ _ _ (Ac HBOX6.out hb)];rfl
    have hck1:((k:Int)+1)<=(c:Int):=by omega
    have hk0:(0:Int)<=(k:Int):=by omega
    have HK1W:Hid (IntKind.i64.wrap ((k:Int)+1)=(k:Int)+1):=hid (by rw [IntKind.wrap_i64];omega);have hkcT:(k<=c)=True:=eq_true (by omega);clear hes16 hix hix0 hixl hes hnm hae hk hki hL hc hncap hmid hfl hll hfit
    gi_wp2
    rw [<- HW6.out];refine Jv 18 [EqN (.pointer (some ⟨jb,0,none⟩)),EqN (.pointer (some ⟨Bx,2,none⟩)),EqN (.pointer (some ⟨Bx,3,none⟩)),EqN (.slice (some ⟨be,oe,none⟩) L c),EqN (.pointer (some ⟨Bx,1,none⟩)),EqN (.int .i64 (k:Int)),SlE (es.take k),EqN (.slice al Ll cl'),EqN (.pointer (some ⟨Bx,2,none⟩)),EqN (.pointer (some ⟨Bx,3,none⟩)),EqN (.slice (some ⟨be,oe,none⟩) L c),EqN (.pointer (some ⟨Bx,1,none⟩)),EqN (.int .i64 (k:Int)),EqN (.int .i64 ((k:Int)+1)),SlE (es.drop (k+1)),Sl3 48 (es.take k) ls (es.drop (k+1)),RowV 65 w6.heap.size mid,NwNs 114 65 w6.heap.size (Cf mid)] (by kernel_rfl) (by decide) (by kernel_rfl) (fun _=>trivial) (by kernel_rfl) ?_ ?_ ?_
    ·repeat' (first | exact List.forall_mem_nil _ | refine List.forall_mem_cons.2 ⟨?_,?_⟩)
     all_goals
      intro w w' v hw h
      first | exact h | exact SlE.kept h hw | exact Sl3.kept h hw | exact RowV.kept h hw | exact NwNs.kept h hw
    ·simp only [AllLt];refine ⟨⟨⟨⟨⟨⟨⟨⟨⟨⟨⟨⟨⟨⟨⟨⟨⟨⟨trivial,?_⟩,?_⟩,?_⟩,?_⟩,?_⟩,?_⟩,?_⟩,?_⟩,?_⟩,?_⟩,?_⟩,?_⟩,?_⟩,?_⟩,?_⟩,?_⟩,?_⟩,?_⟩
     all_goals
      intro o' ho;simp at ho;subst ho;intro ρ w5 hR hL hS hG;obtain ⟨hl1,hl2,-⟩:=hL
     ·refine Aa rfl ?_;intro bA K Q' hK;have hR':Below w6.heap.size w6 w5:=⟨hR.os,hR.tape,hR.output,hR.size,hR.block⟩
      have e7:=hS 7 (by kernel_rfl);change ρ (.tmp 7)=_ at e7;obtain ⟨y0,y1,y2,y3,y4⟩:=HC7.out w5 hR;simp only [execOp];go_simp;exact hK _ _ rfl (Grew.refl _)
     ·refine Aa rfl ?_;intro bA K Q' hK;have hR':Below w6.heap.size w6 w5:=⟨hR.os,hR.tape,hR.output,hR.size,hR.block⟩
      have e10:=hS 10 (by kernel_rfl);change ρ (.tmp 10)=_ at e10;simp only [execOp];go_simp;exact hK _ _ rfl (Grew.refl _)
     ·refine Aa rfl ?_;intro bA K Q' hK;have hR':Below w6.heap.size w6 w5:=⟨hR.os,hR.tape,hR.output,hR.size,hR.block⟩
      have e39:=apG (hG 1 39);change ρ (.tmp 39)=_ at e39;simp only [execOp];go_simp;exact hK _ _ rfl (Grew.refl _)
     ·refine Aa rfl ?_;intro bA K Q' hK;have hR':Below w6.heap.size w6 w5:=⟨hR.os,hR.tape,hR.output,hR.size,hR.block⟩
      have e40:=apG (hG 2 40);change ρ (.tmp 40)=_ at e40;obtain ⟨y0,y1,y2,y3,y4⟩:=HC7.out w5 hR;simp only [execOp];go_simp;exact hK _ _ rfl (Grew.refl _)
     ·refine Aa rfl ?_;intro bA K Q' hK;have hR':Below w6.heap.size w6 w5:=⟨hR.os,hR.tape,hR.output,hR.size,hR.block⟩
      have e10:=hS 10 (by kernel_rfl);change ρ (.tmp 10)=_ at e10;simp only [execOp];go_simp;exact hK _ _ rfl (Grew.refl _)
     ·refine Aa rfl ?_;intro bA K Q' hK;have hR':Below w6.heap.size w6 w5:=⟨hR.os,hR.tape,hR.output,hR.size,hR.block⟩
      have e42:=apG (hG 4 42);change ρ (.tmp 42)=_ at e42;obtain ⟨y0,y1,y2,y3,y4⟩:=HC7.out w5 hR;simp only [execOp];go_simp;exact hK _ _ rfl (Grew.refl _)
     ·refine Aa rfl ?_;intro bA K Q' hK;have hR':Below w6.heap.size w6 w5:=⟨hR.os,hR.tape,hR.output,hR.size,hR.block⟩
      have e41:=apG (hG 3 41);have e43:=apG (hG 5 43);change ρ (.tmp 41)=_ at e41;change ρ (.tmp 43)=_ at e43;simp only [execOp];go_simp;refine hK _ _ ⟨some ⟨be,oe,none⟩,c,by rw [HTK.out],?_⟩ (Grew.refl _);exact EtS.below (HE1.out.mono fun _ _ _=>trivial) hR'
     ·refine Aa rfl ?_;intro bA K Q' hK;have hR':Below w6.heap.size w6 w5:=⟨hR.os,hR.tape,hR.output,hR.size,hR.block⟩
      have e8:=hS 8 (by kernel_rfl);change ρ (.tmp 8)=_ at e8;obtain ⟨y0,y1,y2,y3,y4⟩:=HC7.out w5 hR;simp only [execOp];go_simp;exact hK _ _ rfl (Grew.refl _)
     ·refine Aa rfl ?_;intro bA K Q' hK;have hR':Below w6.heap.size w6 w5:=⟨hR.os,hR.tape,hR.output,hR.size,hR.block⟩
      have e10:=hS 10 (by kernel_rfl);change ρ (.tmp 10)=_ at e10;simp only [execOp];go_simp;exact hK _ _ rfl (Grew.refl _)
     ·refine Aa rfl ?_;intro bA K Q' hK;have hR':Below w6.heap.size w6 w5:=⟨hR.os,hR.tape,hR.output,hR.size,hR.block⟩
      have e46:=apG (hG 8 46);change ρ (.tmp 46)=_ at e46;simp only [execOp];go_simp;exact hK _ _ rfl (Grew.refl _)
     ·refine Aa rfl ?_;intro bA K Q' hK;have hR':Below w6.heap.size w6 w5:=⟨hR.os,hR.tape,hR.output,hR.size,hR.block⟩
      have e47:=apG (hG 9 47);change ρ (.tmp 47)=_ at e47;obtain ⟨y0,y1,y2,y3,y4⟩:=HC7.out w5 hR;simp only [execOp];go_simp;exact hK _ _ rfl (Grew.refl _)
     ·refine Aa rfl ?_;intro bA K Q' hK;have hR':Below w6.heap.size w6 w5:=⟨hR.os,hR.tape,hR.output,hR.size,hR.block⟩
      have e10:=hS 10 (by kernel_rfl);change ρ (.tmp 10)=_ at e10;simp only [execOp];go_simp;exact hK _ _ rfl (Grew.refl _)
     ·refine Aa rfl ?_;intro bA K Q' hK;have hR':Below w6.heap.size w6 w5:=⟨hR.os,hR.tape,hR.output,hR.size,hR.block⟩
      have e49:=apG (hG 11 49);change ρ (.tmp 49)=_ at e49;obtain ⟨y0,y1,y2,y3,y4⟩:=HC7.out w5 hR;simp only [execOp];go_simp;exact hK _ _ rfl (Grew.refl _)
     ·refine Aa rfl ?_;intro bA K Q' hK;have hR':Below w6.heap.size w6 w5:=⟨hR.os,hR.tape,hR.output,hR.size,hR.block⟩
      have e50:=apG (hG 12 50);change ρ (.tmp 50)=_ at e50;simp only [execOp];go_simp;exact hK _ _ (by show Value.int .i64 (IntKind.i64.wrap _)=_;rw [HK1W.out]) (Grew.refl _)
     ·refine Aa rfl ?_;intro bA K Q' hK;have hR':Below w6.heap.size w6 w5:=⟨hR.os,hR.tape,hR.output,hR.size,hR.block⟩
      have e48:=apG (hG 10 48);have e51:=apG (hG 13 51);change ρ (.tmp 48)=_ at e48;change ρ (.tmp 51)=_ at e51;simp only [execOp];go_simp;refine hK _ _ ?_ (Grew.refl _);by_cases hck:c=k+1
      ·refine ⟨some ⟨be,oe,none⟩,c - (k+1),?_,.inl ?_⟩
       ·rw [HDP.out];simp [hck]
       ·rw [List.drop_eq_nil_of_le];have:=HLE.out;have:=HLC.out;omega
      ·refine ⟨some ⟨be,oe+(k+1) * 3,none⟩,c - (k+1),?_,EtS.below (HE2.out.mono fun _ _ _=>trivial) hR'⟩;rw [HDP.out];simp [hck]
     ·refine Aa rfl ?_;intro bA K Q' hK;have hR':Below w6.heap.size w6 w5:=⟨hR.os,hR.tape,hR.output,hR.size,hR.block⟩
      have e44:=apG (hG 6 44);have e45:=apG (hG 7 45);have e52:=apG (hG 14 52);obtain ⟨a1,c1,e44,s44⟩:=e44;obtain ⟨a2,c2,e52,s52⟩:=e52;change ρ (.tmp 45)=_ at e45;simp only [execOp];go_simp;exact hK _ _ ⟨w5.heap.size,_,_,_,rfl,heap_alloc_new w5 _,⟨a1,c1,by simp,EtS.below s44 (Ad w5 _)⟩,⟨al,cl',by rw [HLL.out],EtS.below (EtS.below (HES.out.mono fun _ _ _=>trivial) hR') (Ad w5 _)⟩,⟨a2,c2,by simp,EtS.below s52 (Ad w5 _)⟩⟩ ((Grew.refl _).alloc _)
     ·refine Aa rfl ?_;intro bA K Q' hK;have hR':Below w6.heap.size w6 w5:=⟨hR.os,hR.tape,hR.output,hR.size,hR.block⟩
      have e53:=apG (hG 15 53);obtain ⟨g,u1,u2,u3,e53,hx,⟨a1,c1,rfl,q1⟩,⟨a2,c2,rfl,q2⟩,⟨a3,c3,rfl,q3⟩⟩:=e53;simp only [execOp];go_simp;refine (CallsIn.inRound l (callsIn_wide.2 (WZ a1 a2 a3 _ _ _ c1 c2 c3 g (es.take k) ls (es.drop (k+1)) w5 _ hx q1 q2 q3 rfl rfl rfl (by have:=HLB.out;rw [List.length_take,List.length_drop];omega)))).mono ?_;rintro r9 w9 ⟨⟨v9,rfl,hv9⟩,hb9⟩;refine hK _ _ ?_ hb9;have hv8:w9.ownsRow w5.heap.size 65 3 v9 mid.length (Ak mid):=by rw [HMID.out,List.length_append,List.length_append];exact hv9
      exact CG hv8 hR.size
     ·refine Aa rfl ?_;intro bA K Q' hK;have hR':Below w6.heap.size w6 w5:=⟨hR.os,hR.tape,hR.output,hR.size,hR.block⟩
      have e54:=apG (hG 16 54);obtain ⟨a9,c9,e54,hlen,hE9,h9a,h9b,h9c⟩:=J9 e54;simp only [execOp];go_simp;refine (CallsIn.inRound l (callsIn_wide.2 (Zl ⟨false,a9,c9,mid⟩ w6.heap.size w5 ⟨⟨rfl,NdOk.mono hE9.ets,HMF.out.1,HMF.out.2,⟨h9a,h9b⟩,h9c⟩,hE9⟩ rfl))).mono ?_;rintro r9 w9 ⟨⟨v9,ms9,rfl,hv9,hm9,hc9,hd9⟩,hb9⟩;exact hK _ _ ⟨ms9,CG hv9 hR.size,hm9,hc9,hd9⟩ hb9
    ·intro v w7 hR hG;have h0:v 0=.pointer (some ⟨jb,0,none⟩):=hG.1.1.1.1.1.1.1.1.1.1.1.1.1.1.1.1.1.2;have h17:NwNs 114 65 w6.heap.size (Cf mid) w7 (v 17):=hG.2;obtain ⟨ms7,hr7,hm7,he7,hd7⟩:=h17;have hb7:Below w6.heap.size w6 w7:=⟨hR.os,hR.tape,hR.output,hR.size,hR.block⟩
     have hj7:=HJ6.out.below hb7;have hx6:∀ y∈fs,∀ b o,y.a=some ⟨b,o,none⟩->b < w6.heap.size:=fun y hy b o hb=>((HJ6.out.nds y hy).2.blk (HJ6.out.nds y hy).1 b o hb).2;have hmn:∀ y∈ms7,y.es≠[]:=fun y hy=>PU _ (by rw [<- he7];exact List.mem_map_of_mem hy);have hlen7:ms7.length<=2:=by have:=Nz mid;rw [<- he7,List.length_map] at this;exact this
     have hfl7:fs.length<=16:=by
      have h1:=HFB.out.1;have h2:=congrArg List.length HCH0.out.nd;rw [List.length_map] at h2;omega
     have HAD:=hid (P6 (B2:=w6.heap.size) (fs:=fs) (ms:=ms7) hj7 hr7 (fun b hb e=>by
       have h1:=AB hr7 b hb;have h2:=Ko HJ6.out.fr e;omega) (fun y hy=>⟨hmn y hy,(hm7 y hy).2.weaken HBW6.out⟩) (by
       refine List.pairwise_append.2 ⟨HJ6.out.dj,hd7,fun y hy z hz b o b' o' h1 h2=>.inl ?_⟩;have h3:=hx6 y hy b o h1;have h4:=((hm7 z hz).2.blk (hmn z hz) b' o' h2).1;omega) (Nat.le_trans HBW6.out hb7.size) (by omega))
     have HB7:=hid hb7;have HE7:=hid (And.intro (fun y (hy:y∈ms7)=>(hm7 y hy).1) (And.intro he7 (fun y (hy:y∈ms7) b o hb=>((hm7 y hy).2.blk (hmn y hy) b o hb).2)));obtain ⟨av7,cv7,hv7,-⟩:=AO hr7;obtain ⟨L7,hL7⟩:∃ L7,L7=ms7.length:=⟨_,rfl⟩
     have HL7:=hid hL7;rw [<- hL7] at hv7;rw [<- hL7,hv7] at HAD;have HBOX7:Hid (Boxed w7 bl 48 (.slice al Ll cl')):=hid (Ac HBOX6.out hb7);have HQ77:Hid (Boxed w7 (jb+1) 166 (.pointer (some ⟨jb,0,none⟩))):=hid (Ac HQ76.out hb7);clear hG hR hr7 hm7 he7 hd7 hb7 hj7 hx6 hmn hlen7 hfl7 HC7 HE1 HE2 HES hL7;simp [stG,stU,Au,Act.put,h0,hv7];clear h0 hv7
     gi_wp2
     refine ⟨trivial,?_⟩;refine (CallsIn.inRound l (callsIn_wide.2 HAD.out)).mono ?_;clear HAD;rintro e w8 ⟨v1,vf',rfl,hr1,hj8,hn8,hm8⟩;obtain ⟨a8,c8,rfl,hn88,-⟩:=Dk hr1;obtain ⟨L8,hL8⟩:∃ L8,L8=(CW fs.length (ms7.map Nm.nd)).length:=⟨_,rfl⟩
     rw [<- hL8];have hbox8:Boxed w8 bl 48 (.slice al Ll cl'):=hm8.row HBOX7.out fun e=>by
      rcases e with e | e
      ·have h2:=HJ6.out.blk;rw [<- e,HBOX6.out] at h2;simp at h2
      ·exact AU HJ6.out.fr HBOX6.out (by decide) e
     have hc8:=hbox8.cell;have hf8:=hbox8.frozen;have HX8:=hid (And.intro hr1 (And.intro hj8 (And.intro hn8 (And.intro hm8 (And.intro hbox8 hL8)))));clear hr1 hj8 hn8 hm8 hbox8 hL8 hn88
     gi_wp2
     obtain ⟨hr1,hj8,hn8,hm8,hbox8,hL8⟩:=HX8.out;obtain ⟨w9,hw9⟩:∃ w9,w9=w8.setCell ⟨bl,0,none⟩ (.slice a8 L8 c8):=⟨_,rfl⟩
     rw [<- hw9];have hg9:w8.grownBy w9 (some bl):=by rw [hw9];exact Aq (Aw w8 (some bl)) (p:=⟨bl,0,none⟩) (.inl rfl) _
     have hm9:Mv (fun b=>b=bl) w8 w9:=Mv.of_grown hg9 fun j hj _=>by cases hj;rfl
     have hMW:Mv (fun b=>b=jb\/b=bl\/vf.ownBlock=some b\/(Value.slice ag Lg cg).ownBlock=some b) W w9:=
      ((((Mv.refl _ W).trans' HM6.out fun i _ h=>by
       rcases h with h | h
       ·exact .inl h
       ·exact .inr (.inr (.inr h))).trans' (Mv.of_below (F:=fun _=>False) HB7.out) fun _ _ h=>h.elim).trans' hm8 fun i _ h=>by
       rcases h with h | h
       ·exact .inl h
       ·exact .inr (.inr (.inl h))).trans' hm9 fun i _ h=>.inr (.inl h)
     obtain ⟨r1,r2,r3,r4,r5⟩:=HRND.out _ w9 hMW fun b hb _=>hb;refine ⟨r1,r2,⟨fs++ms7,vf',.slice (some ⟨g4,0,none⟩) (Lg+1) c4,.slice a8 L8 c8,?_⟩,r3,r4,r5⟩;have hab:=Yz HE7.out.1 HE7.out.2.1;have hfj:fs.length=j.fr.length:=by rw [<- HCH0.out.nd,List.length_map]
     rw [HSN.out,KL (show m.stp.lf=false from hlf),<- HJD.out,<- HLS.out,HME.out];have hcc:=HCH0.out;refine ⟨?_,?_,?_,?_,?_,HNG6.out,hcc.nj,hcc.nb,fun y hy b o hb e=>?_⟩
     ·rw [<- HGS.out,show m.stp.page=pg from HPG.out.symm];refine hj8.far hm9 (fun e=>?_) (fun b hb e=>?_) (fun b hb e=>?_) fun y hy b o hb e=>?_
      ·have h2:=hj8.blk;rw [e,show w8.heap[bl]?=_ from hbox8] at h2;simp at h2
      ·subst e;exact AU hj8.fr hbox8 (by decide) hb
      ·subst e;exact AU hj8.gn hbox8 (by decide) hb
      ·obtain ⟨cs,hcs⟩:=(hj8.nds y hy).2.cells (hj8.nds y hy).1 b o hb;rw [e,show w8.heap[bl]?=_ from hbox8] at hcs;simp at hcs
     ·rw [List.map_append,hcc.nd,hab]
     ·rw [hw9];exact hbox8.set _
     ·show w9.ownsRow B _ 3 _ (CW j.fr.length (abv (Cf mid))).length (Ak (CW j.fr.length (abv (Cf mid))));rw [<- hab,<- hfj,<- hL8];have e:L7=L8:=by rw [hL8,Gz,List.length_map,HL7.out]
      rw [<- hL8,e] at hr1;exact AV (Ag hr1 hm9 fun b hb e=>by subst e;exact AU hr1 hbox8 (by decide) hb) (Nat.le_trans HBW6.out HB7.out.size)
     ·intro b hb;rcases hn8 with e | ⟨q,e1,e2⟩
      ·rw [e] at hb;exact hcc.nf b hb
      ·rw [hb] at e1;cases e1;exact Nat.le_trans (Nat.le_trans hcc.nj (by have:=Aj hcc.job.blk;have:=HM6.out.size;have:=HB7.out.size;omega)) e2
     ·rw [<- hL8] at hr1;have h1:=AB hr1 b e;rcases List.mem_append.1 hy with hy | hy
      ·have h2:=((HJ6.out.nds y hy).2.blk (HJ6.out.nds y hy).1 b o hb).2;have:=HB7.out.size;omega
      ·have h2:=HE7.out.2.2 y hy b o hb;omega
 case done=>
  rintro DD ys W hD' rfl ⟨⟨fs,vf,vg,vl,hch⟩,hbw,hbs,hq7⟩ hK;rw [aC] at hch;obtain ⟨j,hj⟩:∃ j,j=chg (lms.map Nm.nd) (ms.map Sm4.stp):=⟨_,rfl⟩
  have hgl:j.g.length<=7:=by rw [hj,Uk,List.length_map];exact HML.out
  rw [<- hj] at hch;have hjo:=HJX.out;rw [<- hj] at hjo;have hll:=hjo.len;have hfl:fs.length<=M:=by have h1:=hjo.few;rw [<- hch.nd,List.length_map] at h1;exact h1
  obtain ⟨-,-,-,-,-,-,hM,hrs,hok,hsr,hoe,hD⟩:=HX.out;obtain ⟨att,ctt,rfl,-⟩:=AO hch.row;have HBT:=hid hbw;have HKT:=hid hK;have HQT:=hid hq7;have HDG:=hid hD';clear hbw hK hq7 hbs HU HCH HQ73 HBS HBX hD';rcases (by omega:rs.length=0\/rs.length=1\/rs.length=2) with h0 | h1 | h2
  ·obtain rfl:rs=[]:=List.eq_nil_of_length_eq_zero h0;obtain ⟨e1,e2,e3⟩:=hjo.none rfl;obtain rfl:fs=[]:=by
    have h:=hch.nd;rw [e2] at h;exact List.map_eq_nil_iff.1 h
   have HJT:=hid hch.job;have HE3:=hid e3;have HGL:=hid hgl;have HBXT:Hid (Boxed W bl 48 (.slice att 0 ctt)):=hid (by have h:=hch.box;rw [hll] at h;exact h);have HDD:Hid (B<=DD/\DD < W.heap.size):=hid ⟨by have:=HDG.out;have:=HB3.out.size;have:=HBW.out;omega,(Array.getElem?_eq_some_iff.1 HKT.out).1⟩;have hcb:=HBXT.out.cell;have hcq:=HQT.out.cell;clear hch hjo hll hfl hM hrs hok hsr hoe hD hgl h0 e1 e2 e3
   go_wp2_with fail
   refine (XE jb att ctt W).mono ?_;clear hcq hcb;rintro e w4 ⟨rfl,hb4⟩;obtain ⟨hb9,hWa,hCB,hKB,hWB,htB,-⟩:=HX.out;have hF4:=HF.out.below (HBT.out.trans (hb4.mono HBT.out.size));have hj4:=HJT.out.below hb4;have hK4:=(hb4.block DD HDD.out.2).trans HKT.out;have hq4:Boxed w4 (jb+1) 166 (.pointer (some ⟨jb,0,none⟩)):=(hb4.block _ HQT.out.lt).trans HQT.out;have hgm:∀ x∈j.g,0<=x/\x.toNat∈ns:=fun x hx=>mem_ints.1 (cn_mem.2 (by have:=HE3.out x;have:=cn_mem.1 hx;omega));have hgn:j.g.Nodup:=cn_nodup.1 fun z=>by rw [HE3.out z];exact cn_nodup.2 (II HF.out.nodup) z
   have hkd:∀ z∈j.g,DN ks z=2\/DN ks z=3:=fun z hz=>by
    obtain ⟨h1,h2⟩:=hgm z hz;have h3:=(HF.out.r.pg _ h2).2;have h4:=(HF.out.used _).1 h2;have h5:((z.toNat:Nat):Int)=z:=by omega
    rw [<- h5,Gn (by rw [HF.out.kl];exact h3)];exact h4
   have hbud:=HF.out.r.bud;have HFIN:=hid (Iq (W:=Wa) 0 hj4 (Nat.le_trans HBW.out (Nat.le_trans HBT.out.size hb4.size)) hCB hKB hF4.r.dv hF4.r.tc HF.out.r.ctp HF.out.ktp HF.out.apart hF4.al hWa ⟨HF.out.lowC,hWB,HF.out.lowT⟩ hkd (by have:=HGL.out;omega) (by simp) (Nat.zero_le _) HF.out.r.on HF.out.r.arm HF.out.r.ep1 HF.out.r.bytes HF.out.kl (PR HF.out.al.ks HF.out.used hgm hgn) (fun x hx=>by cases hx) ⟨by omega,by omega,fun h=>by omega⟩ ⟨hb9.1,by omega,hb9.2.1⟩);have hcq:=hq4.cell;have HY:=hid (And.intro hK4 (And.intro hF4 hb4));clear hj4 hb9 hWa hCB hKB hWB htB hK4 hq4 hgm hgn hkd hbud hF4 hb4
   go_wp2_with fail
   refine HFIN.out.mono ?_;clear HFIN;rintro e w5 ⟨BP,wq,hBP,hbq,hBPe,hfin⟩;obtain ⟨hK4,hF4,hb4⟩:=HY.out;obtain ⟨hb9,hWa,hCB,hKB,hWB,htB,-⟩:=HX.out;have hm5:=hfin.2.2.2.2;have hbud:=HF.out.r.bud;obtain ⟨rfl,C',n',S',root',ns',ks',hcw,hx,hks,hkept⟩:=cZ (r':=S.r) HF.out HE3.out (by omega) hF4.al hF4.r.tc hfin;have hlt4:=(Array.getElem?_eq_some_iff.1 hK4).1;have hK5:w5.heap[DD]?=some (.deferred (some [])):=(hm5.block DD hlt4 (fun e=>by
    rcases e with e | e | e | ⟨-,-,cs,e⟩
    ·exact e (hCB _ HDD.out.1)
    ·exact e (hKB _ HDD.out.1)
    ·have:=HDD.out.1;omega
    ·rw [hbq.block DD hlt4,hK4] at e;cases e)).trans hK4
   have HZ:=hid (And.intro hcw (And.intro hx (And.intro hks (And.intro hkept (And.intro hm5 (And.intro hK5 (And.intro hlt4 hb4)))))));clear hcw hx hks hkept hm5 hK4 hF4 hb4 hb9 hWa hCB hKB hWB htB hfin hBP hbq hBPe hlt4 hbud
   go_wp2_with fail
   obtain ⟨hcw,hx,hks,hkept,hm5,hK5',hlt4,hb4⟩:=HZ.out;refine ⟨by simp,.inl ⟨_,_,rfl,run_takeDeferred hK5',?_⟩⟩;obtain ⟨hb9,hWa,hCB,hKB,hWB,htB,-⟩:=HX.out;have hmp:Mv (fun i=>i=DD) w5 (w5.putObj DD (.deferred none)):=BU w5 _ rfl;refine ⟨_,results_tmp rfl _ _ _,.inr ⟨rfl,C',n',S',root',.nil,ns',v1,v2,v3,ks',?_,fun i hi=>hx i (Nat.lt_of_lt_of_le hi (Nat.le_trans HBT.out.size hb4.size)),hks,hkept,Col.refl _,?_⟩⟩
   ·refine hcw.far hmp (fun i hi=>?_) hWa;subst hi;have:=HDD.out.1;exact ⟨by rw [hx _ hlt4];exact hCB _ this,hKB _ this,by omega,by omega⟩
   ·exact ((Mv.of_below (F:=fun i=>Trn C K tp i\/B<=i) (HBT.out.trans (hb4.mono HBT.out.size))).trans' hm5 fun i _ hi=>by
     rcases hi with hi | hi | hi | hi
     ·exact .inl (.inl hi)
     ·exact .inl (.inr (.inl hi))
     ·exact .inl (.inr (.inr hi))
     ·exact .inr hi.1).trans' hmp fun i _ hi=>.inr (by subst hi;exact HDD.out.1)
  ·obtain ⟨r,rfl⟩:=List.length_eq_one_iff.1 h1;obtain ⟨z0,zs0,hl,htp⟩:=hjo.one;rw [<- hch.nd] at htp;have HJT:=hid hch.job;have HTP:=hid htp;have hgd:(TrG.mk D r).good:=⟨hok r (by simp),by rw [CP] at hsr;exact hsr,by rw [CP] at hoe;exact hoe⟩
   have HOKT:Hid (okS D r/\(TrG.mk D r).good/\D<=7/\Je D [r]=.mk D r):=hid ⟨hok r (by simp),hgd,by omega,rfl⟩;have HFT:Hid (fs.length<=17/\j.g.length<=8):=hid ⟨by omega,by omega⟩;have HMX:Hid (fs.length<=M+([r].length - 1)):=hid (by simpa using hfl);have HLT:Hid (EtS (fun _=>True) W att [(Es D r,z0)]):=hid (by
    obtain ⟨a',c',hv,-,he,-⟩:=Dk hch.row;simp only [Value.slice.injEq] at hv;rw [hv.1,<- hl];exact he.mono fun _ _ _=>trivial)
   have HBXT:Hid (Boxed W bl 48 (.slice att 1 ctt)):=hid (by have h:=hch.box;rw [hll] at h;exact h);have hcb:=HBXT.out.cell;have hcq:=HQT.out.cell;clear hch hjo hll hfl hM hrs hok hsr hoe hD hgd hl htp hgl h1;have HFW:=hid (HF.out.below HBT.out);obtain ⟨hb9,hWa,hCB,hKB,hWB,htB,-⟩:=HX.out;have hBt:B<=W.heap.size:=Nat.le_trans HBW.out HBT.out.size;have HDD:Hid (B<=DD/\DD < W.heap.size):=hid ⟨by have:=HDG.out;have:=HB3.out.size;have:=HBW.out;omega,(Array.getElem?_eq_some_iff.1 HKT.out).1⟩;have hpn:pn<=2048:=by have:=HF.out.al.ks.n2048;have:=HF.out.kl;omega
   have HTOP:=hid (UA HJT.out hCB HFW.out.r.dv HFW.out.r.tc HFW.out.r.ctp HFW.out.r.on (by omega) hb9.2.2 hBt att ctt (Es D r) HLT.out HTP.out (II HF.out.nodup) (fun x hx=>by
    obtain ⟨h1,h2⟩:=mem_ints.1 hx;exact ⟨h1,(HF.out.r.pg _ h2).2,HF.out.r.bytes _ (HF.out.r.pg _ h2).2⟩) HOKT.out.1 HOKT.out.2.2.1 (by have:=HFT.out;omega) (by have:=HFT.out;omega) (by omega))
   have hcq:=HQT.out.cell;have hcb:=HBXT.out.cell;clear hb9 hWa hCB hKB hWB htB hBt hpn
   go_wp2_with fail
   refine HTOP.out.mono ?_;clear HTOP hcq hcb;rintro e w4 ⟨z,D1,s1,zs1,fs1,gs1,vf1',vg1',r1,rfl,⟨hj4,ht4,hok4,hcol,hd4,hr4a,hr4b,htc4,hfs4,hgs4,-,hm4⟩,-⟩;obtain ⟨hb9,hWa,hCB,hKB,hWB,htB,-⟩:=HX.out;have hne4:∀ {b:Nat} {o:Obj},W.heap[b]?=some o->C b=0->(∀ cs fz,o≠.cells cs 168 fz)->(∀ cs fz,o≠.cells cs 3 fz)->¬ (C b≠0\/b=jb\/vg.ownBlock=some b):=fun ho h0 h1 h2 hh=>by
    rcases hh with hh | hh | hh
    ·exact hh h0
    ·subst hh;rw [HJT.out.blk] at ho;cases ho;exact h1 _ _ rfl
    ·obtain ⟨cs,fz,hc⟩:=BM HJT.out.gn hh;rw [hc] at ho;cases ho;exact h2 _ _ rfl
   have hK4:w4.heap[DD]?=some (.deferred (some [])):=(hm4.block DD HDD.out.2 (hne4 HKT.out (hCB _ HDD.out.1) (fun _ _ h=>by cases h) (fun _ _ h=>by cases h))).trans HKT.out;have hq4:Boxed w4 (jb+1) 166 (.pointer (some ⟨jb,0,none⟩)):=(hm4.block _ HQT.out.lt (hne4 HQT.out (hCB _ (by have:=HJT.out.ge;omega)) (fun _ _ h=>by simp at h) (fun _ _ h=>by simp at h))).trans HQT.out;have hO4:Own K Wa w4 pa v1 v2 v3 ks:=HFW.out.al.mv hm4 (fun i hi=>by
    rcases hi with hi | hi | hi
    ·exact ⟨(HF.out.apart i).resolve_left hi,HF.out.lowC i hi⟩
    ·have:=HJT.out.ge;exact ⟨hKB i (by omega),by omega⟩
    ·have:=AB HJT.out.gn i hi;exact ⟨hKB i this,by omega⟩) hWa
   have hgood:(TrG.mk D1 s1).good:=⟨hok4,by rw [hcol.en];exact HOKT.out.2.1.2.1,by rw [hcol.en];exact HOKT.out.2.1.2.2⟩
   have hD1:D1<=7:=by
    have h1:D1+1<=D+1:=Rn hcol;have:=HOKT.out.2.2.1;omega
   have hgm:=fun x hx=>TpI.gmem ht4 (x:=x) hx;have hgn:=(ht4.gnd HF.out.nodup).1;have hkd:∀ z∈gs1,DN ks z=2\/DN ks z=3:=fun z hz=>by
    obtain ⟨h1,h2⟩:=hgm z hz;have h3:=(HF.out.r.pg _ h2).2;have h4:=(HF.out.used _).1 h2;have h5:((z.toNat:Nat):Int)=z:=by omega
    rw [<- h5,Gn (by rw [HF.out.kl];exact h3)];exact h4
   have hfs1:fs1.length<=17:=by have:=HFT.out;omega
   have hgs1:gs1.length<=100:=by have:=HFT.out;have:=HOKT.out.2.2.1;omega
   have hm4':Mv (fun i=>Trn C K tp i\/B<=i) w w4:=(Mv.of_below (F:=fun i=>Trn C K tp i\/B<=i) HBT.out).trans' hm4 fun i _ hi=>by
    rcases hi with hi | hi | hi
    ·exact .inl (.inl hi)
    ·have:=HJT.out.ge;exact .inr (by omega)
    ·exact .inr (AB HJT.out.gn i hi)
   have hbud:=HF.out.r.bud;have hS1:0<=r1/\r1<=b+30:=by have:=HOKT.out.2.2.1;omega
   by_cases hfree:CE ks < fs1.length
   ·have HFIN:=hid (KX z hj4 hCB hKB hd4 htc4 HF.out.ktp HF.out.apart hO4 hkd (by omega) (by omega) hfree);have hcq:=hq4.cell;have HY:=hid (And.intro hK4 (And.intro hm4' (And.intro hS1 (And.intro hfree (And.intro hfs4 hm4.size)))));clear hj4 ht4 hok4 hcol hd4 hr4a hr4b htc4 hfs4 hgs4 hm4 hb9 hWa hCB hKB hWB htB hne4 hK4 hq4 hO4 hgood hD1 hgm hgn hkd hfs1 hgs1 hm4' hbud hS1 hfree
    go_wp2_with fail
    refine HFIN.out.mono ?_;clear HFIN;rintro e w5 ⟨rfl,ho5,hd5,htc5,hm5⟩;obtain ⟨hK4,hm4',hS1,hfree,hfs4,hs4⟩:=HY.out;obtain ⟨hb9,hWa,hCB,hKB,hWB,htB,-⟩:=HX.out;have hK5:w5.heap[DD]?=some (.deferred (some [])):=(hm5.block DD (Array.getElem?_eq_some_iff.1 hK4).1 (fun e=>e (hKB _ HDD.out.1))).trans hK4;have HZ:=hid (And.intro ho5 (And.intro hd5 (And.intro htc5 (And.intro hm5 hK5))));clear ho5 hd5 htc5 hm5 hK4 hm4' hS1 hfree hfs4 hs4 hb9 hWa hCB hKB hWB htB
    go_wp2_with fail
    obtain ⟨ho5,hd5,htc5,hm5,hK5'⟩:=HZ.out;refine ⟨by simp,.inl ⟨_,_,rfl,run_takeDeferred hK5',?_⟩⟩;obtain ⟨hK4,hm4',hS1,hfree,hfs4,hs4⟩:=HY.out;obtain ⟨hb9,hWa,hCB,hKB,hWB,htB,-⟩:=HX.out;have hbud:=HF.out.r.bud;have hmp:Mv (fun i=>i=DD) w5 (w5.putObj DD (.deferred none)):=BU w5 _ rfl;refine ⟨_,results_tmp rfl _ _ _,.inl ⟨rfl,by have:=HMX.out;omega,C,n,{S with r:=r1},v1,v2,v3,?_,fun _ _=>rfl,fun q hq=>⟨rfl,hq⟩,?_⟩⟩
    ·have hr:=HF.out.r;refine CwF.far (F:=fun i=>i=DD) (w:=w5) ⟨⟨hd5,hr.ctp,htc5,hr.ep1,hr.on,hr.arm,hr.bytes,hr.good,hr.deep,hr.cnt,hr.is,hr.pg,⟨by omega,hS1.1,by show r1<=((b+30:Nat):Int);omega,hbud.2.2.2.1,by show S.s<=((b+30:Nat):Int);omega⟩⟩,ho5,HF.out.apart,HF.out.ktp,HF.out.kl,HF.out.used,HF.out.nodup,HF.out.lowC,HF.out.lowT⟩ hmp (fun i hi=>?_) hWa;subst hi;have:=HDD.out.1;exact ⟨hCB _ this,hKB _ this,by omega,by omega⟩
    ·exact (hm4'.trans' hm5 fun i _ hi=>.inl (.inr (.inl hi))).trans' hmp fun i _ hi=>.inr (by subst hi;exact HDD.out.1)
   ·have hfr:fs1.length<=CE ks:=by omega
    have hpl:((Az isF ks).take fs1.length).length=fs1.length:=by rw [List.length_take];have:fs1.length<=(Az isF ks).length:=hfr;omega
    have hset:=X3 (ps:=(Az isF ks).take fs1.length) ht4 HF.out.nodup hok4 hgood.2.1 hgood.2.2 hpl (fun p hp=>by
     have h1:=pagesK_mem.1 (List.mem_of_mem_take hp);have h2:=isF_iff.1 h1.2;have k0:=HF.out.al.ks.k0;have k1:=HF.out.al.ks.k1;have h3:=HF.out.al.ks.n2048;refine ⟨?_,by omega⟩;apply Classical.byContradiction;intro h4;rcases (by omega:p=0\/p=1) with rfl | rfl<;>omega) (fun q hq=>by have:=HF.out.r.pg q hq;have:=HF.out.al.ks.n2048;have:=HF.out.kl;omega) (by omega)
    have HFIN:=hid (Iq (W:=Wa) z hj4 (Nat.le_trans HBW.out (Nat.le_trans HBT.out.size hm4.size)) hCB hKB hd4 htc4 HF.out.r.ctp HF.out.ktp HF.out.apart hO4 hWa ⟨HF.out.lowC,hWB,HF.out.lowT⟩ hkd (by omega) (by omega) hfr HF.out.r.on HF.out.r.arm HF.out.r.ep1 HF.out.r.bytes HF.out.kl (PR HF.out.al.ks HF.out.used hgm hgn) hset.1 hset.2 ⟨hb9.1,by show 0<=S.s;omega,hb9.2.1⟩);have hcq:=hq4.cell;have HY:=hid (And.intro hK4 (And.intro hm4' (And.intro hS1 (And.intro ht4 (And.intro hgood (And.intro hD1 (And.intro hO4 (And.intro htc4 (And.intro hcol (And.intro hfr (And.intro hfs1 hm4.size)))))))))));clear hj4 ht4 hok4 hcol hd4 hr4a hr4b htc4 hfs4 hgs4 hm4 hb9 hWa hCB hKB hWB htB hne4 hK4 hq4 hO4 hgood hD1 hgm hgn hkd hfs1 hgs1 hm4' hbud hS1 hfree hfr hpl hset
    go_wp2_with fail
    refine HFIN.out.mono ?_;clear HFIN;rintro e w5 ⟨BP,wq,hBP,hbq,hBPe,hfin⟩;obtain ⟨hK4,hm4',hS1,ht4,hgood,hD1,hO4,htc4,hcol,hfr,hfs1,hs4⟩:=HY.out;obtain ⟨hb9,hWa,hCB,hKB,hWB,htB,-⟩:=HX.out;have hm5:=hfin.2.2.2.2;obtain ⟨rfl,C',n',S',root',ns',ks',hcw,hx,hks,hkept⟩:=Y1 HF.out ht4 hgood hD1 hS1 (by omega) hfr hO4 htc4 hfin;have hlt4:=(Array.getElem?_eq_some_iff.1 hK4).1;have hK5:w5.heap[DD]?=some (.deferred (some [])):=(hm5.block DD hlt4 (fun e=>by
     rcases e with e | e | e | ⟨-,-,cs,e⟩
     ·exact e (hCB _ HDD.out.1)
     ·exact e (hKB _ HDD.out.1)
     ·have:=HDD.out.1;omega
     ·rw [hbq.block DD hlt4,hK4] at e;cases e)).trans hK4
    have HZ:=hid (And.intro hcw (And.intro hx (And.intro hks (And.intro hkept (And.intro hm5 (And.intro hK5 (And.intro hm4' (And.intro hcol (And.intro hlt4 hs4)))))))));clear hcw hx hks hkept hm5 hK4 hm4' hS1 ht4 hgood hD1 hO4 htc4 hcol hfr hfs1 hs4 hb9 hWa hCB hKB hWB htB hfin hBP hbq hBPe hlt4
    go_wp2_with fail
    obtain ⟨hcw,hx,hks,hkept,hm5,hK5',hm4',hcol,hlt4,hs4⟩:=HZ.out;refine ⟨by simp,.inl ⟨_,_,rfl,run_takeDeferred hK5',?_⟩⟩;obtain ⟨hb9,hWa,hCB,hKB,hWB,htB,-⟩:=HX.out;have hmp:Mv (fun i=>i=DD) w5 (w5.putObj DD (.deferred none)):=BU w5 _ rfl;refine ⟨_,results_tmp rfl _ _ _,.inr ⟨rfl,C',n',S',root',.mk D1 s1,ns',v1,v2,v3,ks',?_,fun i hi=>hx i (Nat.lt_of_lt_of_le hi (Nat.le_trans HBT.out.size hs4)),hks,hkept,by rw [HOKT.out.2.2.2];exact hcol,?_⟩⟩
    ·refine hcw.far hmp (fun i hi=>?_) hWa;subst hi;have:=HDD.out.1;exact ⟨by rw [hx _ hlt4];exact hCB _ this,hKB _ this,by omega,by omega⟩
    ·exact (hm4'.trans' hm5 fun i _ hi=>by
      rcases hi with hi | hi | hi | hi
      ·exact .inl (.inl hi)
      ·exact .inl (.inr (.inl hi))
      ·exact .inl (.inr (.inr hi))
      ·exact .inr hi.1).trans' hmp fun i _ hi=>.inr (by subst hi;exact HDD.out.1)
  ·obtain ⟨ra,rb,rfl⟩:∃ ra rb,rs=[ra,rb]:=by
    match rs,h2 with
    | [x,y],_=>exact ⟨x,y,rfl⟩
   have hlt2:=hjo.two fun x hx=>(mem_ints.1 hx).1;obtain ⟨zs0,htp⟩:=hlt2;obtain ⟨nm,hnm⟩:∃ nm:Nm,nm=⟨false,att,ctt,j.l⟩:=⟨_,rfl⟩
   have hfit:=NI (lv:=lms.map Nm.nd) (fun n hn=>by
    obtain ⟨y,hy,rfl⟩:=List.mem_map.1 hn;exact ⟨(HLM.out y hy).1,(HLM.out y hy).2.1.2.2.2.1⟩) (ms.map Sm4.stp) (fun s hs=>by
    obtain ⟨y,hy,rfl⟩:=List.mem_map.1 hs;exact (HWAY.out.nds y hy).1.2.2.2.1) (by
    rw [<- hj,<- hch.nd,List.length_map];omega)
   rw [<- hj] at hfit;have hll2:j.l.length=2:=hll;have hrow:=hch.row;obtain ⟨a',c',hv,-,heT,h9a,h9b,h9c⟩:=J9 hrow;simp only [Value.slice.injEq] at hv;obtain ⟨ha',-,hc'⟩:=hv;rw [<- ha'] at heT h9c;rw [<- hc'] at h9a h9b h9c;have hok':NmOk 65 B W nm:=by
    rw [hnm];exact ⟨⟨rfl,NdOk.mono heT.ets,by show j.l.length<=1000;omega,hfit,⟨h9a,h9b⟩,h9c⟩,heT⟩
   have hne:nm.es≠[]:=by rw [hnm];intro h;have h:j.l=[]:=h;rw [h] at hll2;simp at hll2
   have hnl:nm.es.length=2:=by rw [hnm];exact hll2
   obtain ⟨wx,hwx⟩:∃ wx,wx=W.alloc (.cells #[.bool false,.slice att 2 ctt] 114):=⟨_,rfl⟩
   have hbx:Below W.heap.size W wx:=by rw [hwx];exact Ad W _
   have hnr:wx.ownsRow W.heap.size 114 2 (.slice (some ⟨W.heap.size,0,none⟩) 1 1) 1 (cl Bd [nm]):=by
    have h:=MH (E:=114) W nm;rw [hnl] at h;rw [hwx];rw [hnm] at h ⊢;exact h
   have HAD:=hid (P6 (B2:=W.heap.size) (fs:=fs) (ms:=[nm]) (hch.job.below hbx) hnr (fun b hb e=>by
     have h1:=Ko hch.job.fr e;have h2:=AB hnr b hb;omega) (fun y hy=>by rw [List.mem_singleton] at hy;rw [hy];exact ⟨hne,hok'.below hbx⟩) (by
     refine List.pairwise_append.2 ⟨hch.job.dj,List.pairwise_singleton _ _,fun y hy z hz b o b' o' h1 h2=>.inl fun e=>?_⟩;rw [List.mem_singleton] at hz;rw [hz,hnm] at h2;have h3:=hch.sp y hy b o h1;have h2:att=some ⟨b',o',none⟩:=h2;apply h3;rcases hrow.2 with ⟨h4,h5⟩ | ⟨g,cap,cur,h4,-⟩
     ·rw [hll2] at h5;cases h5
     ·simp only [Value.slice.injEq] at h4;rw [h2] at h4;simp only [Option.some.injEq,Addr.mk.injEq] at h4;rw [h2,e];have:o'=0:=h4.1.2.1;subst this;rfl) (Nat.le_trans (Nat.le_trans HBW.out HBT.out.size) hbx.size) (by simp;omega))
   have HWX:=hid hwx;have HBX:=hid hbx;have HNM:=hid hnm;have HTP0:=hid htp;have HRS:=hid (And.intro hok (And.intro hsr hoe));have HCH2:=hid hch;have HFL:=hid (And.intro hfl (And.intro hgl (And.intro hM hD)));have hbox:Boxed W bl 48 (.slice att 2 ctt):=by have h:=hch.box;rw [hll2] at h;exact h
   have HBOX:=hid hbox;have hcb:=hbox.cell;have hcq:=HQT.out.cell;have hmw8:((Mw:Int) == 8)=false:=by rw [beq_eq_false_iff_ne];have:=HMW.out;have:=HML.out;omega
   clear hch hjo hll hfl hM hrs hok hsr hoe hD htp hgl h2 hfit hll2 hrow heT h9a h9b h9c ha' hc' hok' hne hnl hwx hbx hnr hnm hbox
   go_wp2_with fail
   rw [<- HWX.out];refine HAD.out.mono ?_;clear HAD hcb hcq hmw8;rintro e w8 ⟨v8,vf8,rfl,hr8,hj8,hn8,hm8⟩;obtain ⟨a8,c8,rfl,-,he8,-⟩:=Dk hr8;have hf8:∀ b,(b=jb\/vf.ownBlock=some b)->∀ T cs fz,wx.heap[b]?=some (.cells cs T fz)->T=168\/T=114:=fun b hb T cs fz hc=>by
    have hjx:=HCH2.out.job.below HBX.out;rcases hb with rfl | hb
    ·rw [hjx.blk] at hc;simp at hc;exact .inl hc.2.1.symm
    ·obtain ⟨cs',fz',hc'⟩:=BM hjx.fr hb;rw [hc'] at hc;simp at hc;exact .inr hc.2.1.symm
   have hbox8:Boxed w8 bl 48 (.slice att 2 ctt):=hm8.row (Ac HBOX.out HBX.out) fun e=>absurd (hf8 _ e _ _ _ (Ac HBOX.out HBX.out)) (by decide);have hq8:Boxed w8 (jb+1) 166 (.pointer (some ⟨jb,0,none⟩)):=hm8.row (Ac HQT.out HBX.out) fun e=>absurd (hf8 _ e _ _ _ (Ac HQT.out HBX.out)) (by decide);have hDDl:=(Array.getElem?_eq_some_iff.1 HKT.out).1;have hK8:w8.heap[DD]?=some (.deferred (some [])):=(hm8.block DD (Nat.lt_of_lt_of_le hDDl HBX.out.size) (fun e=>by
    have hjx:=HCH2.out.job.below HBX.out;have hkx:=(HBX.out.block DD hDDl).trans HKT.out;rcases e with rfl | e
    ·rw [hjx.blk] at hkx;cases hkx
    ·obtain ⟨cs',fz',hc'⟩:=BM hjx.fr e;rw [hc'] at hkx;cases hkx)).trans ((HBX.out.block DD hDDl).trans HKT.out)
   have hb8:Below w.heap.size w w8:=(HBT.out.trans (HBX.out.mono HBT.out.size)).trans (hm8.below (Nat.le_trans HBT.out.size HBX.out.size) fun i hi=>by
    rcases hi with rfl | hi
    ·exact HCH2.out.nj
    ·exact HCH2.out.nf i hi)
   have hc8:=hbox8.cell;have hfz8:=hbox8.frozen;have HX8:=hid (And.intro hr8 (And.intro hj8 (And.intro he8 (And.intro hbox8 (And.intro hq8 (And.intro hK8 hb8))))));have e81:(CW fs.length ([nm].map Nm.nd)).length=1:=by rw [Gz];rfl
   rw [e81];clear hr8 hj8 hn8 hm8 he8 hf8 hbox8 hq8 hK8 hb8 hDDl e81;obtain ⟨wt,hwt⟩:∃ wt,wt=w8.setCell ⟨bl,0,none⟩ (.slice a8 1 c8):=⟨_,rfl⟩
   have HWT:=hid hwt;obtain ⟨hr8,hj8,he8,hbox8,hq8,hK8,hb8⟩:=HX8.out;have hmt:Mv (fun b=>b=bl) w8 wt:=by rw [hwt];exact Mv.of_grown (Aq (Aw w8 (some bl)) (p:=⟨bl,0,none⟩) (.inl rfl) _) fun j hj _=>by cases hj;rfl
   have hbt8:∀ {b:Nat} {cs:Array Value} {T:TypeId} {fz:Nat×Nat},w8.heap[b]?=some (.cells cs T fz)->T≠48->b≠bl:=fun hb hT e=>by
    rw [e,show w8.heap[bl]?=_ from hbox8] at hb;simp at hb;exact hT hb.2.1.symm
   have HJT:Hid (JobM B wt jb tp (fs++[nm]) j.g vf8 vg):=hid (hj8.far hmt (hbt8 hj8.blk (by decide)) (fun b hb=>by obtain ⟨cs,fz,hc⟩:=BM hj8.fr hb;exact hbt8 hc (by decide)) (fun b hb=>by obtain ⟨cs,fz,hc⟩:=BM hj8.gn hb;exact hbt8 hc (by decide)) fun y hy b o hb=>by obtain ⟨cs,hc⟩:=(hj8.nds y hy).2.cells (hj8.nds y hy).1 b o hb;exact hbt8 hc (by decide));have hfj:fs.length=j.fr.length:=by rw [<- HCH2.out.nd,List.length_map]
   have hmapn:(fs++[nm]).map Nm.nd=j.fr++[(false,j.l)]:=by rw [List.map_append,HCH2.out.nd,HNM.out];rfl
   have HTP:Hid (TpI (CJ S) (ns.map fun n:Nat=>(n:Int)) (D+1) (-(j.fr.length:Int) - 1) [ra,rb] zs0 ((fs++[nm]).map Nm.nd) j.g):=hid (by rw [hmapn];exact HTP0.out);have HLT:Hid (EtS (fun _=>True) wt a8 [((j.l.getD 0 et0).1,-(j.fr.length:Int) - 1)]):=hid (by
    have e:CW fs.length ([nm].map Nm.nd)=[((j.l.getD 0 et0).1,-(j.fr.length:Int) - 1)]:=by rw [HNM.out,<- hfj];rfl
    rw [e] at he8 hr8;obtain ⟨a9,c9,hv,-,h1,-⟩:=J9 hr8;simp only [Value.slice.injEq] at hv;rw [<- hv.1] at h1;have h1':EtS (fun b=>wx.heap.size<=b/\∃ cs,w8.heap[b]?=some (.cells cs 65 (0,0))) w8 a8 _:=h1;have h:=EtS.kept (w':=wt) h1' fun b hb _=>by
     obtain ⟨_,cs,hc⟩:=hb;exact hmt.block b (Aj hc) (hbt8 hc (by decide))
    exact h.mono fun _ _ _=>trivial)
   have HBXT:Hid (Boxed wt bl 48 (.slice a8 1 c8)):=hid (by rw [hwt];exact hbox8.set _);obtain ⟨hfl,hgl,hM,hD⟩:=HFL.out;obtain ⟨hok,hsr,hoe⟩:=HRS.out;have HOKT:Hid (okS (D+1) [ra,rb]/\(TrG.mk (D+1) [ra,rb]).good/\(D+1)<=7/\Je D [ra,rb]=.mk (D+1) [ra,rb]):=hid ⟨⟨by simp,by simp,hok⟩,⟨⟨by simp,by simp,hok⟩,hsr,hoe⟩,by omega,rfl⟩;have HFT:Hid ((fs++[nm]).length<=17/\j.g.length<=8):=hid ⟨by rw [List.length_append,List.length_singleton];omega,by omega⟩;have HMX:Hid ((fs++[nm]).length<=M+([ra,rb].length - 1)):=hid (by rw [List.length_append,List.length_singleton];show _<=M+1;omega);have HKT0:=HKT;have HQT0:=HQT;have HBT0:=HBT;clear HKT HQT HBT;have HKT:Hid (wt.heap[DD]?=some (.deferred (some []))):=hid ((hmt.block DD (Array.getElem?_eq_some_iff.1 hK8).1 fun e=>by
    rw [e,show w8.heap[bl]?=_ from hbox8] at hK8;cases hK8).trans hK8)
   have HQT:Hid (Boxed wt (jb+1) 166 (.pointer (some ⟨jb,0,none⟩))):=hid (hmt.row hq8 (hbt8 hq8 (by decide)));have HBT:Hid (Below w.heap.size w wt):=hid (hb8.trans (hmt.below hb8.size fun i hi=>by rw [hi];exact HCH2.out.nb));have hcbT:(w8.setCell ⟨bl,0,none⟩ (.slice a8 1 c8)).cell? ⟨bl,0,none⟩=some (.slice a8 1 c8):=by rw [<- hwt];exact HBXT.out.cell
   have hcqT:(w8.setCell ⟨bl,0,none⟩ (.slice a8 1 c8)).cell? ⟨jb+1,0,none⟩=some (.pointer (some ⟨jb,0,none⟩)):=by rw [<- hwt];exact HQT.out.cell
   clear hr8 hj8 he8 hbox8 hq8 hK8 hb8 hwt hmt hbt8 hfj hmapn hfl hgl hM hD hok hsr hoe;have HFW:=hid (HF.out.below HBT.out);obtain ⟨hb9,hWa,hCB,hKB,hWB,htB,-⟩:=HX.out;have hBt:B<=wt.heap.size:=Nat.le_trans HBW.out HBT.out.size;have HDD:Hid (B<=DD/\DD < wt.heap.size):=hid ⟨by have:=HDG.out;have:=HB3.out.size;have:=HBW.out;omega,(Array.getElem?_eq_some_iff.1 HKT.out).1⟩;have hpn:pn<=2048:=by have:=HF.out.al.ks.n2048;have:=HF.out.kl;omega
   have HTOP:=hid (UA HJT.out hCB HFW.out.r.dv HFW.out.r.tc HFW.out.r.ctp HFW.out.r.on (by omega) hb9.2.2 hBt a8 c8 (j.l.getD 0 et0).1 HLT.out HTP.out (II HF.out.nodup) (fun x hx=>by
    obtain ⟨h1,h2⟩:=mem_ints.1 hx;exact ⟨h1,(HF.out.r.pg _ h2).2,HF.out.r.bytes _ (HF.out.r.pg _ h2).2⟩) HOKT.out.1 HOKT.out.2.2.1 (by have:=HFT.out;omega) (by have:=HFT.out;omega) (by omega))
   clear hb9 hWa hCB hKB hWB htB hBt hpn
   go_wp2_with fail
   rw [<- HWT.out];refine HTOP.out.mono ?_;clear HTOP hcqT hcbT hc8 hfz8;rintro e w4 ⟨z,D1,s1,zs1,fs1,gs1,vf1',vg1',r1,rfl,⟨hj4,ht4,hok4,hcol,hd4,hr4a,hr4b,htc4,hfs4,hgs4,-,hm4⟩,-⟩;obtain ⟨hb9,hWa,hCB,hKB,hWB,htB,-⟩:=HX.out;have hne4:∀ {b:Nat} {o:Obj},wt.heap[b]?=some o->C b=0->(∀ cs fz,o≠.cells cs 168 fz)->(∀ cs fz,o≠.cells cs 3 fz)->¬ (C b≠0\/b=jb\/vg.ownBlock=some b):=fun ho h0 h1 h2 hh=>by
    rcases hh with hh | hh | hh
    ·exact hh h0
    ·subst hh;rw [HJT.out.blk] at ho;cases ho;exact h1 _ _ rfl
    ·obtain ⟨cs,fz,hc⟩:=BM HJT.out.gn hh;rw [hc] at ho;cases ho;exact h2 _ _ rfl
   have hK4:w4.heap[DD]?=some (.deferred (some [])):=(hm4.block DD HDD.out.2 (hne4 HKT.out (hCB _ HDD.out.1) (fun _ _ h=>by cases h) (fun _ _ h=>by cases h))).trans HKT.out;have hq4:Boxed w4 (jb+1) 166 (.pointer (some ⟨jb,0,none⟩)):=(hm4.block _ HQT.out.lt (hne4 HQT.out (hCB _ (by have:=HJT.out.ge;omega)) (fun _ _ h=>by simp at h) (fun _ _ h=>by simp at h))).trans HQT.out;have hO4:Own K Wa w4 pa v1 v2 v3 ks:=HFW.out.al.mv hm4 (fun i hi=>by
    rcases hi with hi | hi | hi
    ·exact ⟨(HF.out.apart i).resolve_left hi,HF.out.lowC i hi⟩
    ·have:=HJT.out.ge;exact ⟨hKB i (by omega),by omega⟩
    ·have:=AB HJT.out.gn i hi;exact ⟨hKB i this,by omega⟩) hWa
   have hgood:(TrG.mk D1 s1).good:=⟨hok4,by rw [hcol.en];exact HOKT.out.2.1.2.1,by rw [hcol.en];exact HOKT.out.2.1.2.2⟩
   have hD1:D1<=7:=by
    have h1:D1+1<=(D+1)+1:=Rn hcol;have:=HOKT.out.2.2.1;omega
   have hgm:=fun x hx=>TpI.gmem ht4 (x:=x) hx;have hgn:=(ht4.gnd HF.out.nodup).1;have hkd:∀ z∈gs1,DN ks z=2\/DN ks z=3:=fun z hz=>by
    obtain ⟨h1,h2⟩:=hgm z hz;have h3:=(HF.out.r.pg _ h2).2;have h4:=(HF.out.used _).1 h2;have h5:((z.toNat:Nat):Int)=z:=by omega
    rw [<- h5,Gn (by rw [HF.out.kl];exact h3)];exact h4
   have hfs1:fs1.length<=17:=by have:=HFT.out;omega
   have hgs1:gs1.length<=100:=by have:=HFT.out;have:=HOKT.out.2.2.1;omega
   have hm4':Mv (fun i=>Trn C K tp i\/B<=i) w w4:=(Mv.of_below (F:=fun i=>Trn C K tp i\/B<=i) HBT.out).trans' hm4 fun i _ hi=>by
    rcases hi with hi | hi | hi
    ·exact .inl (.inl hi)
    ·have:=HJT.out.ge;exact .inr (by omega)
    ·exact .inr (AB HJT.out.gn i hi)
   have hbud:=HF.out.r.bud;have hS1:0<=r1/\r1<=b+30:=by have:=HOKT.out.2.2.1;omega
   by_cases hfree:CE ks < fs1.length
   ·have HFIN:=hid (KX z hj4 hCB hKB hd4 htc4 HF.out.ktp HF.out.apart hO4 hkd (by omega) (by omega) hfree);have hcq:=hq4.cell;have HY:=hid (And.intro hK4 (And.intro hm4' (And.intro hS1 (And.intro hfree (And.intro hfs4 hm4.size)))));clear hj4 ht4 hok4 hcol hd4 hr4a hr4b htc4 hfs4 hgs4 hm4 hb9 hWa hCB hKB hWB htB hne4 hK4 hq4 hO4 hgood hD1 hgm hgn hkd hfs1 hgs1 hm4' hbud hS1 hfree
    go_wp2_with fail
    refine HFIN.out.mono ?_;clear HFIN;rintro e w5 ⟨rfl,ho5,hd5,htc5,hm5⟩;obtain ⟨hK4,hm4',hS1,hfree,hfs4,hs4⟩:=HY.out;obtain ⟨hb9,hWa,hCB,hKB,hWB,htB,-⟩:=HX.out;have hK5:w5.heap[DD]?=some (.deferred (some [])):=(hm5.block DD (Array.getElem?_eq_some_iff.1 hK4).1 (fun e=>e (hKB _ HDD.out.1))).trans hK4;have HZ:=hid (And.intro ho5 (And.intro hd5 (And.intro htc5 (And.intro hm5 hK5))));clear ho5 hd5 htc5 hm5 hK4 hm4' hS1 hfree hfs4 hs4 hb9 hWa hCB hKB hWB htB
    go_wp2_with fail
    obtain ⟨ho5,hd5,htc5,hm5,hK5'⟩:=HZ.out;refine ⟨by simp,.inl ⟨_,_,rfl,run_takeDeferred hK5',?_⟩⟩;obtain ⟨hK4,hm4',hS1,hfree,hfs4,hs4⟩:=HY.out;obtain ⟨hb9,hWa,hCB,hKB,hWB,htB,-⟩:=HX.out;have hbud:=HF.out.r.bud;have hmp:Mv (fun i=>i=DD) w5 (w5.putObj DD (.deferred none)):=BU w5 _ rfl;refine ⟨_,results_tmp rfl _ _ _,.inl ⟨rfl,by have:=HMX.out;omega,C,n,{S with r:=r1},v1,v2,v3,?_,fun _ _=>rfl,fun q hq=>⟨rfl,hq⟩,?_⟩⟩
    ·have hr:=HF.out.r;refine CwF.far (F:=fun i=>i=DD) (w:=w5) ⟨⟨hd5,hr.ctp,htc5,hr.ep1,hr.on,hr.arm,hr.bytes,hr.good,hr.deep,hr.cnt,hr.is,hr.pg,⟨by omega,hS1.1,by show r1<=((b+30:Nat):Int);omega,hbud.2.2.2.1,by show S.s<=((b+30:Nat):Int);omega⟩⟩,ho5,HF.out.apart,HF.out.ktp,HF.out.kl,HF.out.used,HF.out.nodup,HF.out.lowC,HF.out.lowT⟩ hmp (fun i hi=>?_) hWa;subst hi;have:=HDD.out.1;exact ⟨hCB _ this,hKB _ this,by omega,by omega⟩
    ·exact (hm4'.trans' hm5 fun i _ hi=>.inl (.inr (.inl hi))).trans' hmp fun i _ hi=>.inr (by subst hi;exact HDD.out.1)
   ·have hfr:fs1.length<=CE ks:=by omega
    have hpl:((Az isF ks).take fs1.length).length=fs1.length:=by rw [List.length_take];have:fs1.length<=(Az isF ks).length:=hfr;omega
    have hset:=X3 (ps:=(Az isF ks).take fs1.length) ht4 HF.out.nodup hok4 hgood.2.1 hgood.2.2 hpl (fun p hp=>by
     have h1:=pagesK_mem.1 (List.mem_of_mem_take hp);have h2:=isF_iff.1 h1.2;have k0:=HF.out.al.ks.k0;have k1:=HF.out.al.ks.k1;have h3:=HF.out.al.ks.n2048;refine ⟨?_,by omega⟩;apply Classical.byContradiction;intro h4;rcases (by omega:p=0\/p=1) with rfl | rfl<;>omega) (fun q hq=>by have:=HF.out.r.pg q hq;have:=HF.out.al.ks.n2048;have:=HF.out.kl;omega) (by omega)
    have HFIN:=hid (Iq (W:=Wa) z hj4 (Nat.le_trans HBW.out (Nat.le_trans HBT.out.size hm4.size)) hCB hKB hd4 htc4 HF.out.r.ctp HF.out.ktp HF.out.apart hO4 hWa ⟨HF.out.lowC,hWB,HF.out.lowT⟩ hkd (by omega) (by omega) hfr HF.out.r.on HF.out.r.arm HF.out.r.ep1 HF.out.r.bytes HF.out.kl (PR HF.out.al.ks HF.out.used hgm hgn) hset.1 hset.2 ⟨hb9.1,by show 0<=S.s;omega,hb9.2.1⟩);have hcq:=hq4.cell;have HY:=hid (And.intro hK4 (And.intro hm4' (And.intro hS1 (And.intro ht4 (And.intro hgood (And.intro hD1 (And.intro hO4 (And.intro htc4 (And.intro hcol (And.intro hfr (And.intro hfs1 hm4.size)))))))))));clear hj4 ht4 hok4 hcol hd4 hr4a hr4b htc4 hfs4 hgs4 hm4 hb9 hWa hCB hKB hWB htB hne4 hK4 hq4 hO4 hgood hD1 hgm hgn hkd hfs1 hgs1 hm4' hbud hS1 hfree hfr hpl hset
    go_wp2_with fail
    refine HFIN.out.mono ?_;clear HFIN;rintro e w5 ⟨BP,wq,hBP,hbq,hBPe,hfin⟩;obtain ⟨hK4,hm4',hS1,ht4,hgood,hD1,hO4,htc4,hcol,hfr,hfs1,hs4⟩:=HY.out;obtain ⟨hb9,hWa,hCB,hKB,hWB,htB,-⟩:=HX.out;have hm5:=hfin.2.2.2.2;obtain ⟨rfl,C',n',S',root',ns',ks',hcw,hx,hks,hkept⟩:=Y1 HF.out ht4 hgood hD1 hS1 (by omega) hfr hO4 htc4 hfin;have hlt4:=(Array.getElem?_eq_some_iff.1 hK4).1;have hK5:w5.heap[DD]?=some (.deferred (some [])):=(hm5.block DD hlt4 (fun e=>by
     rcases e with e | e | e | ⟨-,-,cs,e⟩
     ·exact e (hCB _ HDD.out.1)
     ·exact e (hKB _ HDD.out.1)
     ·have:=HDD.out.1;omega
     ·rw [hbq.block DD hlt4,hK4] at e;cases e)).trans hK4
    have HZ:=hid (And.intro hcw (And.intro hx (And.intro hks (And.intro hkept (And.intro hm5 (And.intro hK5 (And.intro hm4' (And.intro hcol (And.intro hlt4 hs4)))))))));clear hcw hx hks hkept hm5 hK4 hm4' hS1 ht4 hgood hD1 hO4 htc4 hcol hfr hfs1 hs4 hb9 hWa hCB hKB hWB htB hfin hBP hbq hBPe hlt4
    go_wp2_with fail
    obtain ⟨hcw,hx,hks,hkept,hm5,hK5',hm4',hcol,hlt4,hs4⟩:=HZ.out;refine ⟨by simp,.inl ⟨_,_,rfl,run_takeDeferred hK5',?_⟩⟩;obtain ⟨hb9,hWa,hCB,hKB,hWB,htB,-⟩:=HX.out;have hmp:Mv (fun i=>i=DD) w5 (w5.putObj DD (.deferred none)):=BU w5 _ rfl;refine ⟨_,results_tmp rfl _ _ _,.inr ⟨rfl,C',n',S',root',.mk D1 s1,ns',v1,v2,v3,ks',?_,fun i hi=>hx i (Nat.lt_of_lt_of_le hi (Nat.le_trans HBT.out.size hs4)),hks,hkept,by rw [HOKT.out.2.2.2];exact hcol,?_⟩⟩
    ·refine hcw.far hmp (fun i hi=>?_) hWa;subst hi;have:=HDD.out.1;exact ⟨by rw [hx _ hlt4];exact hCB _ this,hKB _ this,by omega,by omega⟩
    ·exact (hm4'.trans' hm5 fun i _ hi=>by
      rcases hi with hi | hi | hi | hi
      ·exact .inl (.inl hi)
      ·exact .inl (.inr (.inl hi))
      ·exact .inl (.inr (.inr hi))
      ·exact .inr hi.1).trans' hmp fun i _ hi=>.inr (by subst hi;exact HDD.out.1)
 case stop=>
  rintro D c pre W _ _ h _;exact h.elim
end Go.Proofs.YtfhdojnobmfefaaGreatDoor
namespace Go.Inc
open Go Go.RowKit
theorem UB {D:Nat}:∀ rs:List (Sh D),(Je D rs).en=enL D rs
 | []=>rfl
 | [a]=>(CP D a).symm
 | _::_::_=>rfl
theorem dL (e:Et):AL true [e]=if okE e=true then 0 else 10:=by
 by_cases h:okE e=true
 ·rw [if_pos h];exact IX (by simp) (badN_false.2 fun x hx=>by rw [List.mem_singleton] at hx;rw [hx];exact h) (srt_fall.2 (List.pairwise_singleton _ _)) (fun hh=>by cases hh.1)
 ·rw [if_neg h];refine NF (by simp) ?_;cases hb:DZ [e] with
  | true=>rfl
  | false=>exact absurd (badN_false.1 hb e (by simp)) h
theorem QL {es:List Et} (h1:Srt es) (h2:∀ x∈es,okE x=true) (h3:es.length<=16):AL true es=0:=IX h3 (badN_false.2 h2) (srt_fall.2 h1) (fun hh=>by cases hh.1)
theorem dW {v:Int->Option Nd} {k:Int}:∀ {D:Nat} {p:Int} {s:Sh D} {zs:List Int} {st:List Stp},Dn v k D p s zs st->∃ x,st.getLast?=some x/\x.lf=true
 | 0,p,es,zs,st,⟨a,_,_,h⟩=>by rw [h];exact ⟨_,rfl,rfl⟩
 | D+1,p,cs,zs,st,⟨X,c,Y,lX,q,lY,r,_,_,_,_,_,_,h1,h⟩=>by
  obtain ⟨x,hx,hl⟩:=dW h1;refine ⟨x,?_,hl⟩;rw [h];cases r with
  | nil=>cases hx
  | cons a b=>rw [List.getLast?_cons_cons];exact hx
theorem Zf {f:Nat->Option Nd} {k:Int} {root:Nat} {t:TrG} {ns:List Nat} {ms:List Sm4} (h:DnT f k root t ns (ms.map Sm4.stp)):(BO ms).lf=true:=by
 cases t with
 | nil=>
  have h:ms.map Sm4.stp=[]:=h;rw [List.map_eq_nil_iff.1 h,Y4]
 | mk D s=>
  obtain ⟨x,hx,hl⟩:=dW h;unfold BO;rw [List.getLast?_map] at hx;cases hg:ms.getLast? with
  | none=>rfl
  | some m=>
   rw [hg] at hx;simp only [Option.map_some,Option.some.injEq] at hx;rw [<- hx] at hl;exact hl
theorem KF {f:Nat->Option Nd} {k:Int} {root:Nat} {t:TrG} {ns:List Nat} {ms:List Sm4} (h:DnT f k root t ns (ms.map Sm4.stp)) (hg:t.good) (hd:t.deep<=7):ms.length<=7/\∀ m∈ms,m.nd.es.length<=16/\(m.nd.lf=false->0<=m.ix/\m.ix.toNat < m.nd.es.length):=by
 cases t with
 | nil=>
  have h:ms.map Sm4.stp=[]:=h;rw [List.map_eq_nil_iff.1 h];exact ⟨by decide,fun m hm=>by cases hm⟩
 | mk D s=>
  have hl:=Dn.len h;rw [List.length_map] at hl;have hd:D+1<=7:=hd;exact ⟨by omega,fun m hm=>Zg h hg.1 m.stp (List.mem_map_of_mem hm)⟩
theorem Pz:∀ {ms:List Nm} {l:List (List Et)},(∀ m∈ms,m.lf=true)->ms.map Nm.es=l->ms.map Nm.nd=l.map (fun x=>((true,x):Nd))
 | [],_,_,h=>by rw [<- h];rfl
 | m::r,l,h1,h=>by
  rw [<- h];have ih:=Pz (ms:=r) (fun x hx=>h1 x (List.mem_cons_of_mem _ hx)) rfl;show (m.lf,m.es)::r.map Nm.nd=(true,m.es)::(r.map Nm.es).map (fun x=>((true,x):Nd));rw [ih,h1 m (List.mem_cons_self ..)]
theorem UM {f:Nat->Option Nd} {root:Nat} {t:TrG} {ns:List Nat} {ms:List Sm4} {lms:List Nm} {e:Et} (h:DnT f (plK e.1) root t ns (ms.map Sm4.stp)) (his:IsT f t root ns) (hg:t.good) (hd:t.deep<=7) (he:okE e=true) (hl1:∀ m∈lms,m.lf=true) (hl2:lms.map Nm.es=BG 0 (BO ms).es e) :
  ∃ (D M:Nat) (rs:List (Sh D)),JbOk f D rs (ns.map fun n:Nat=>(n:Int)) (chg (lms.map Nm.nd) (ms.map Sm4.stp)) M/\M<=16/\rs.length<=2/\(∀ c∈rs,okS D c)/\Srt (enL D rs)/\(∀ x∈enL D rs,okE x=true)/\D<=6/\Je D rs=t.put e/\M+(rs.length - 1)<=2 * t.deep+1:=by
 have hlv:=Pz hl1 hl2;have hpg:=TrG.put_good hg he;cases t with
 | nil=>
  have h:ms.map Sm4.stp=[]:=h;have hms:ms=[]:=List.map_eq_nil_iff.1 h;subst hms;have hns:ns=[]:=his.2;subst hns;refine ⟨0,1,[[e]],?_,by decide,by simp,fun c hc=>?_,?_,?_,by decide,rfl,by show 1+0<=1;decide⟩
  ·have hlv':lms.map Nm.nd=([[e]]:List (List Et)).map (fun x=>((true,x):Nd)):=by rw [hlv];rfl
   obtain ⟨lq,i1,i2,i3⟩:=Jt (f:=f) [[e]] [];rw [<- hlv',List.nil_append] at i1;rw [<- hlv'] at i2;refine ⟨⟨lq,i1,i2,fun z=>?_⟩,(fun z hz=>by cases hz),?_⟩
   ·rw [i3 z];show cn z (Dz 0 1)+cn z []=cn z []+cn z (Dz 0 (lms.map Nm.nd).length);rw [hlv'];exact Nat.add_comm _ _
   ·show (lms.map Nm.nd).length<=1;rw [hlv'];simp
  ·rw [List.mem_singleton] at hc;rw [hc];exact ⟨by simp,by simp⟩
  ·rw [CP];exact List.pairwise_singleton _ _
  ·intro x hx;rw [CP] at hx;have hx:x∈[e]:=hx;rw [List.mem_singleton] at hx;rw [hx];exact he
 | mk D s=>
  have hd:D+1<=7:=hd;have hl:=Di D s e hg.1;have hen:Fv (ms.map Sm4.stp)=(BO ms).es:=(Ey ms).symm;have hj:=NH (Tc e) D root s _ _ h hg.1 (lv:=lms.map Nm.nd) (by rw [hen];exact hlv);have h1:(Je D (BG D s e)).en=enL D (BG D s e):=UB _;refine ⟨D,2 * (D+1),BG D s e,hj,by omega,hl.2,fun c hc=>Lp D s e hg.1 c hc,?_,?_,by omega,rfl,by show _<=2 * (D+1)+1;omega⟩
  ·rw [<- h1];exact hpg.2.1
  ·rw [<- h1];exact hpg.2.2
theorem Za {f:Nat->Option Nd} {root:Nat} {t:TrG} {ns:List Nat} {ms:List Sm4} {lms:List Nm} {k:Ky} (h:DnT f (plK k) root t ns (ms.map Sm4.stp)) (hg:t.good) (hd:t.deep<=7) (hk:okK k=true) (hin:∃ x∈t.en,plK x.1=plK k) (hl1:∀ m∈lms,m.lf=true) (hl2:lms.map Nm.es=AY 0 (BO ms).es k) :
  ∃ (D M:Nat) (rs:List (Sh D)),JbOk f D rs (ns.map fun n:Nat=>(n:Int)) (chg (lms.map Nm.nd) (ms.map Sm4.stp)) M/\M<=16/\rs.length<=2/\(∀ c∈rs,okS D c)/\Srt (enL D rs)/\(∀ x∈enL D rs,okE x=true)/\D<=6/\Je D rs=t.drop k/\M+(rs.length - 1)<=t.deep:=by
 have hlv:=Pz hl1 hl2;have hpg:=TrG.drop_good hg hk hin;cases t with
 | nil=>
  obtain ⟨x,hx,-⟩:=hin;cases hx
 | mk D s=>
  have hd:D+1<=7:=hd;have hl:=EC D s k hg.1;have hen:Fv (ms.map Sm4.stp)=(BO ms).es:=(Ey ms).symm;have hj:=NH (Q8 k) D root s _ _ h hg.1 (lv:=lms.map Nm.nd) (by rw [hen];exact hlv);have ht:Je D (AY D s k)=(TrG.mk D s).drop k:=by
   show Je D (AY D s k)=XF D (AY D s k)
   match hr:AY D s k,hl with
   | [],_=>rfl
   | [a],_=>rfl
  have h1:(Je D (AY D s k)).en=enL D (AY D s k):=UB _;rw [ht] at h1;refine ⟨D,1 * (D+1),AY D s k,hj,by omega,by omega,fun c hc=>JQ D s k hg.1 c hc,?_,?_,by omega,ht,by show _<=D+1;omega⟩
  ·rw [<- h1];exact hpg.2.1
  ·rw [<- h1];exact hpg.2.2
end Go.Inc
namespace Go.Proofs.YtfhdojnobmfefaaGreatDoor
open Go Go.RowKit Go.Inc
set_option maxRecDepth 20000 in
set_option maxHeartbeats 4000000 in
theorem Zv (a:Option Addr) (n c:Nat) (lf:Bool) (es:List Et) (w:World) (hn:n=es.length) (hs:EtS (fun _=>True) w a es) (hl0:n<=1000) :
  Calls Tryz.prog 56 #[.agg #[.bool lf,.slice a n c]] w fun e w'=>e=.returned (.int .i64 (AL lf es))/\Below w.heap.size w w':=by
 have hl:(n:Int)<=1000000:=by omega
 have HS:=hid hs;have HN:=hid hn;obtain ⟨g,hg⟩:∃ g,g=w.heap.size:=⟨_,rfl⟩
 have HG:=hid hg;obtain ⟨w0,hw0⟩:∃ w0,w0=w.alloc (.cells #[.bool lf,.slice a n c] 114):=⟨_,rfl⟩
 have HW0:=hid hw0;have HB0:Hid (Below w.heap.size w w0):=hid (by rw [hw0];exact Ad w _);have HX0:Hid (w0.heap[g]?=some (.cells #[.bool lf,.slice a n c] 114 (0,0))):=hid (by rw [hw0,hg];exact heap_alloc_new w _);have hb0:w0.cell? ⟨g,0,none⟩=some (.bool lf):=coR HX0.out;have hb1:w0.cell? ⟨g,1,none⟩=some (.slice a n c):=coR HX0.out;have HCON:=hid (Ja _ a n c es w0 (HS.out.below HB0.out) hn hl);clear hs hn hg hw0 hl0;by_cases hlong:(16:Int) < n
 ·have hd:decide ((16:Int) < n)=true:=decide_eq_true hlong;have hd2:(16 < n)=True:=eq_true (by omega);have HO:Hid (AL lf es=2):=hid (OY (by have:=HN.out;omega));clear hlong HCON
  go_enter Tryz.func56,Tryz.ntmps56
  go_upto_region 1 with fail
  rw [<- HW0.out,<- HG.out]
  go_wp2_with fail
  go_ret
  exact ⟨by rw [HO.out];rfl,HB0.out⟩
 have hd:decide ((16:Int) < n)=false:=decide_eq_false hlong;have hd2:(16 < n)=False:=eq_false (by omega);have HSH:Hid (es.length<=16):=hid (by have:=HN.out;omega);clear hlong
 go_enter Tryz.func56,Tryz.ntmps56
 go_upto_region 1 with fail
 rw [<- HW0.out,<- HG.out]
 go_wp2_with fail
 refine HCON.out.mono ?_;clear HCON;rintro e w1 ⟨rfl,hb⟩;have HB1:Hid (Below w.heap.size w w1):=hid (HB0.out.trans (hb.mono HB0.out.size));have HX1:=hid (Ac HX0.out hb);clear hb hb0 hb1 HB0 HX0 HW0;have hb0:w1.cell? ⟨g,0,none⟩=some (.bool lf):=coR HX1.out;have hb1:w1.cell? ⟨g,1,none⟩=some (.slice a n c):=coR HX1.out;obtain ⟨BD,hbd⟩:∃ x,x=DZ es:=⟨_,rfl⟩
 rw [<- hbd];cases BD with
 | true=>
  have HO:Hid (AL lf es=10):=hid (NF HSH.out hbd.symm);clear hbd
  go_wp2_with fail
  go_ret
  exact ⟨by rw [HO.out];rfl,HB1.out⟩
 | false=>
  have HBF:=hid hbd.symm;have HRI:=hid (Qm _ a n c es w1 (HS.out.below HB1.out) HN.out hl HBF.out);clear hbd
  go_wp2_with fail
  refine HRI.out.mono ?_;clear HRI;rintro e w2 ⟨rfl,hb⟩;have HB2:Hid (Below w.heap.size w w2):=hid (HB1.out.trans (hb.mono HB1.out.size));have HX2:=hid (Ac HX1.out hb);clear hb hb0 hb1 HB1 HX1;have hb0:w2.cell? ⟨g,0,none⟩=some (.bool lf):=coR HX2.out;have hb1:w2.cell? ⟨g,1,none⟩=some (.slice a n c):=coR HX2.out;obtain ⟨FL,hfl⟩:∃ x,x=D9 es:=⟨_,rfl⟩
  rw [<- hfl];cases FL with
  | true=>
   have HO:Hid (AL lf es=3):=hid (OZ HSH.out HBF.out hfl.symm);clear hfl
   go_wp2_with fail
   go_ret
   exact ⟨by rw [HO.out];rfl,HB2.out⟩
  | false=>
   have HFF:=hid hfl.symm;clear hfl;by_cases hnone:lf=false/\es=[]
   ·have HO:Hid (AL lf es=3):=hid (OX HSH.out HBF.out HFF.out hnone);have hl0:lf=false:=hnone.1;have hn0:n=0:=by rw [HN.out,hnone.2];rfl
    subst hl0 hn0;clear hnone
    go_wp2_with fail
    go_ret
    exact ⟨by rw [HO.out];rfl,HB2.out⟩
   ·have HO:Hid (AL lf es=0):=hid (IX HSH.out HBF.out HFF.out hnone);cases lf
    ·have hn0:((n:Int) == 0)=false:=by
      rw [beq_eq_false_iff_ne];intro h;exact hnone ⟨rfl,List.eq_nil_of_length_eq_zero (by have:=HN.out;omega)⟩
     have hn1:(n=0)=False:=eq_false (fun h=>hnone ⟨rfl,List.eq_nil_of_length_eq_zero (by have:=HN.out;omega)⟩);clear hnone
     go_wp2_with fail
     go_ret
     exact ⟨by rw [HO.out];rfl,HB2.out⟩
    ·clear hnone
     go_wp2_with fail
     go_ret
     exact ⟨by rw [HO.out];rfl,HB2.out⟩
end Go.Proofs.YtfhdojnobmfefaaGreatDoor
namespace Go.Inc
open Go Go.RowKit
theorem Ym {es:List Et} {k:Ky} (h:pgK es k≠0):∃ x∈es,plK x.1=plK k:=by
 apply Classical.byContradiction;intro hn;exact h (Qz fun x hx e=>hn ⟨x,hx,by rw [e]⟩)
def NwLf (N E B:Nat) (ess:List (List Et)) (x:World) (v:Value):Prop:=∃ ms:List Nm,x.ownsRow B N 2 v ms.length (cl Bd ms)/\(∀ m∈ms,m.lf=true/\NmOk E B x m)/\ms.map Nm.es=ess/\ms.Pairwise Dj
theorem NwLf.kept {N E B:Nat} {ess:List (List Et)} {x y:World} {v:Value} (h:NwLf N E B ess x v) (hg:Grew x y):NwLf N E B ess y v:=by
 obtain ⟨ms,h1,h2,h3,h4⟩:=h;exact ⟨ms,Ag (F:=fun _=>False) h1 (Mv.of_below hg) (fun _ _=>id),fun m hm=>⟨(h2 m hm).1,(h2 m hm).2.below hg⟩,h3,h4⟩
theorem Qw (es:List Et) (e:Et):(BG 0 es e).length<=2:=by
 show (if inK es e.1=true\/List.length es < 16 then [BN es e] else if plK e.1 < plK (List.getD es 8 et0).1 then [BN (List.take 8 es) e,List.drop 8 es] else [List.take 8 es,BN (List.drop 8 es) e]:List (List Et)).length<=2;split
 ·simp
 ·split<;>simp
theorem UO (es:List Et) (e:Et):∀ {x:List Et},x∈BG 0 es e->x≠[]:=fun {x} hx h0=>by
 have hx:x∈(if inK es e.1=true\/List.length es < 16 then [BN es e] else if plK e.1 < plK (List.getD es 8 et0).1 then [BN (List.take 8 es) e,List.drop 8 es] else [List.take 8 es,BN (List.drop 8 es) e]:List (List Et)):=hx;split at hx
 ·rw [List.mem_singleton] at hx;exact FX _ _ (hx ▸ h0)
 ·rename_i hl
  have hl16:16<=es.length:=by
   apply Classical.byContradiction;intro hh;exact hl (.inr (by omega))
  split at hx
  ·rcases List.mem_cons.1 hx with rfl | hx
   ·exact FX _ _ h0
   ·rw [List.mem_singleton] at hx;rw [hx] at h0;have:=congrArg List.length h0;rw [List.length_drop,List.length_nil] at this;omega
  ·rcases List.mem_cons.1 hx with rfl | hx
   ·have:=congrArg List.length h0;rw [List.length_take,List.length_nil] at this;omega
   ·rw [List.mem_singleton] at hx;exact FX _ _ (hx ▸ h0)
theorem WQ (es:List Et) (k:Ky):(AY 0 es k).length<=1:=by
 show (if Eo es k=[] then [] else [Eo es k]:List (List Et)).length<=1;split<;>simp
theorem Zc (es:List Et) (k:Ky):∀ {x:List Et},x∈AY 0 es k->x≠[]:=fun {x} hx h0=>by
 have hx:x∈(if Eo es k=[] then [] else [Eo es k]:List (List Et)):=hx;split at hx
 ·cases hx
 ·rename_i h
  rw [List.mem_singleton] at hx;exact h (hx ▸ h0)
end Go.Inc
namespace Go.Proofs.YtfhdojnobmfefaaGreatDoor
open Go Go.RowKit Go.Inc
theorem Jp {C K:Nat->Nat} {W w:World} {tp gd pa pn n:Nat} {S:St} {root:Nat} {ep:Int} {t:TrG} {ns:List Nat} {b:Nat} {v1 v2 v3:Value} {ks:List Nat} {w':World} (h:CwF C K W w tp gd pa pn n S root ep t ns b v1 v2 v3 ks) (hb:Below w.heap.size w w'):Lm C K W w w' tp gd pa pn S root ep t ns b ks:=
 ⟨C,n,S,v1,v2,v3,(h.below hb).more (by omega),fun _ _=>rfl,fun q hq=>⟨rfl,hq⟩,Mv.of_below hb⟩
theorem WS {C K:Nat->Nat} {W w:World} {tp gd pa pn n:Nat} {S:St} {root:Nat} {ep:Int} {t:TrG} {ns:List Nat} {b:Nat} {v1 v2 v3:Value} {ks:List Nat} {w':World} {r':Int} (_h:CwF C K W w tp gd pa pn n S root ep t ns b v1 v2 v3 ks) (hr:CwF C K W w' tp gd pa pn n {S with r:=r'} root ep t ns (b+8) v1 v2 v3 ks) (hm:Mv (Trn C K tp) w w'):Lm C K W w w' tp gd pa pn S root ep t ns b ks:=
 ⟨C,n,_,v1,v2,v3,hr.more (by omega),fun _ _=>rfl,fun q hq=>⟨rfl,hq⟩,hm⟩
set_option maxRecDepth 20000 in
set_option maxHeartbeats 8000000 in
theorem WT {C K:Nat->Nat} {W w:World} {tp gd pa pn n:Nat} {S:St} {root:Nat} {ep:Int} {t:TrG} {ns:List Nat} {b:Nat} {v1 v2 v3:Value} {ks:List Nat} (h:CwF C K W w tp gd pa pn n S root ep t ns b v1 v2 v3 ks) (hb9:b<=900000) (hW0:0 < W.heap.size) (hd7:t.deep<=7) (s z p:Int) :
  Calls Tryz.prog 15 #[.pointer (some ⟨tp,0,none⟩),.agg #[.int .i64 s,.int .i64 z],.int .i64 p] w fun e w'=>∃ had er:Int,e=.returned (.tuple #[.int .i64 had,.int .i64 er])/\
  ((okE ((s,z),p)=false/\er=10/\Lm C K W w w' tp gd pa pn S root ep t ns b ks)\/(okE ((s,z),p)=true/\er=6/\CE ks < 2 * t.deep+1/\Lm C K W w w' tp gd pa pn S root ep t ns b ks)\/
   (okE ((s,z),p)=true/\er=0/\had=pgK t.en (s,z)/\dQ C K W w w' tp gd pa pn S ep b ks (fun t'=>Col (t.put ((s,z),p)) t'))):=by
 obtain ⟨g,hg⟩:∃ g,g=w.heap.size:=⟨_,rfl⟩
 obtain ⟨w0,hw0⟩:∃ w0,w0=(w.alloc (.cells #[.int .i64 s,.int .i64 z] 42)).alloc (.cells #[.int .i64 s,.int .i64 z,.int .i64 p] 65):=⟨_,rfl⟩
 have hg1:w.heap.size+1=g+1:=by rw [hg]
 have hb0:Below w.heap.size w w0:=by rw [hw0];exact ((Below.refl _ _).alloc (Nat.le_refl _) _).alloc (by simp) _
 have hx0:w0.heap[g]?=some (.cells #[.int .i64 s,.int .i64 z] 42 (0,0)):=by rw [hw0,hg];exact heap_alloc2_old w _ _
 have hx1:w0.heap[g+1]?=some (.cells #[.int .i64 s,.int .i64 z,.int .i64 p] 65 (0,0)):=by rw [hw0,hg];exact heap_alloc2_new w _ _
 obtain ⟨w1,hw1⟩:∃ w1,w1=w0.alloc (.cells #[.int .i64 s,.int .i64 z,.int .i64 p] 65):=⟨_,rfl⟩
 have hb1:Below w0.heap.size w0 w1:=by rw [hw1];exact Ad w0 _
 have HF:=hid h;have HG:=hid (And.intro h.r.good hd7);have HIS:=hid h.r.is;have HB9:=hid hb9;have HW0:=hid hW0;have HX:=hid (And.intro hx0 hx1);have HB0:=hid hb0;have HNO:=hid (Eu (h.below hb0).r.tc);have HB1:Hid (Below w.heap.size w w1):=hid (hb0.trans (hb1.mono hb0.size));have HX1:=hid (And.intro (Ac hx0 hb1) (Ac hx1 hb1));have HCH:=hid (Zv (some ⟨w0.heap.size,0,none⟩) 1 1 true [((s,z),p)] w1 rfl (by rw [hw1];exact Vg (heap_alloc_new w0 _)) (by decide));have HWW0:=hid hw0;have HWW1:=hid hw1;have HGG:=hid hg;have m0:=cell_of_row w0 g 0 _ _ _ hx0;have m1:=cell_of_row w0 g 1 _ _ _ hx0;have n0:=cell_of_row w0 (g+1) 0 _ _ _ hx1;have n1:=cell_of_row w0 (g+1) 1 _ _ _ hx1;have n2:=cell_of_row w0 (g+1) 2 _ _ _ hx1;simp only [List.getElem?_toArray,List.getElem?_cons_zero,List.getElem?_cons_succ] at m0 m1 n0 n1 n2;rw [dL] at HCH;clear h hb9 hW0 hd7 hb0 hx0 hx1 hb1 hw0 hw1 hg
 go_enter Tryz.func15,Tryz.ntmps15
 go_wp2_with fail
 rw [<- HWW0.out,<- HGG.out];refine HNO.out.mono ?_;clear HNO;rintro e w0' ⟨rfl,rfl⟩;cases ho:okE ((s,z),p) with
 | false=>
  rw [ho,if_neg (by decide)] at HCH
  go_wp2_with fail
  rw [<- HWW1.out];refine HCH.out.mono ?_;clear HCH m0 m1 n0 n1 n2;rintro e w2 ⟨rfl,hb2⟩;have HB2:Hid (Below w.heap.size w w2):=hid (HB1.out.trans (hb2.mono HB1.out.size));clear hb2
  go_wp2_with fail
  go_ret2
  exact ⟨_,_,rfl,.inl ⟨(by first | exact ho | trivial),rfl,Jp HF.out HB2.out⟩⟩
 | true=>
  rw [ho,if_pos rfl] at HCH;have HOE:=hid ho;have HOK:Hid (okK (s,z)=true):=hid (Bj (e:=((s,z),p)) ho);clear ho
  go_wp2_with fail
  rw [<- HWW1.out];refine HCH.out.mono ?_;clear HCH m0 m1 n0 n1 n2;rintro e w2 ⟨rfl,hb2⟩;have HB2:Hid (Below w.heap.size w w2):=hid (HB1.out.trans (hb2.mono HB1.out.size));have HX2:=hid (And.intro (Ac HX1.out.1 hb2) (Ac HX1.out.2 hb2));have HF2:=hid (HF.out.below HB2.out);have ht1:w2.cell? ⟨tp,1,none⟩=some (.pointer (some ⟨pa,0,none⟩)):=coR HF2.out.r.tc;have HFR:=hid (EK HF2.out.al.al HF2.out.al.ks HF2.out.al.tab);obtain ⟨Fk,hFk⟩:∃ Fk,Fk=(Az isF ks).length:=⟨_,rfl⟩
  rw [<- hFk] at HFR;have HFK:=hid hFk;clear hb2 hFk
  go_wp2_with fail
  refine HFR.out.mono ?_;clear HFR ht1;rintro e w3 ⟨rfl,hb3⟩;have HB3:Hid (Below w.heap.size w w3):=hid (HB2.out.trans (hb3.mono HB2.out.size));have HX3:=hid (And.intro (Ac HX2.out.1 hb3) (Ac HX2.out.2 hb3));have HF3:=hid (HF.out.below HB3.out);clear hb3 HF2;by_cases hF0:Fk=0
  ·have hz:((Fk:Int) == 0)=true:=by rw [beq_iff_eq];omega
   have HF0:Hid (CE ks < 2 * t.deep+1):=hid (by have h1:=HFK.out;unfold CE;omega);clear hF0
   go_wp2_with fail
   go_ret2
   exact ⟨_,_,rfl,.inr (.inl ⟨(by first | exact HOE.out | trivial),rfl,HF0.out,Jp HF.out HB3.out⟩)⟩
  ·have hz:((Fk:Int) == 0)=false:=by rw [beq_eq_false_iff_ne];omega
   have hz2:(Fk=0)=False:=eq_false hF0;obtain ⟨B,hB⟩:∃ B,B=w3.heap.size:=⟨_,rfl⟩
   have HCB:Hid (∀ i,B<=i->C i=0):=hid fun i hi=>HF3.out.r.dv.new (by omega);have HKB:Hid (∀ i,B<=i->K i=0):=hid fun i hi=>HF3.out.al.far (by omega);have HWB:Hid (W.heap.size<=B):=hid (by rw [hB];exact HF3.out.al.bel.size);have HTB:Hid (tp < B):=hid (by rw [hB];exact Aj HF3.out.r.tc);have HBB:Hid (w.heap.size<=B):=hid (by rw [hB];exact HB3.out.size);have hk0:=cell_of_row w3 g 0 _ _ _ HX3.out.1;have hk1:=cell_of_row w3 g 1 _ _ _ HX3.out.1;simp only [List.getElem?_toArray,List.getElem?_cons_zero,List.getElem?_cons_succ] at hk0 hk1;clear hF0;have HSK:=hid (Jq HF3.out.r HB9.out s z HOK.out)
   go_wp2_with fail
   refine HSK.out.mono ?_;clear HSK;rintro e w4 ⟨vw,ms,had,er,rfl,hsk⟩;obtain ⟨r4,hr4⟩:=hsk.rd;have HF4:=hid (CwF.read HF3.out hr4 hsk.mv HW0.out);have HF3B:=hid HF3.out.r.bud;have HM4:Hid (Mv (Trn C K tp) w w4):=hid ((Mv.of_below (F:=Trn C K tp) HB3.out).trans' hsk.mv fun _ _ h=>.inl h);have HWAY:=hid hsk.way;have HDN:=hid hsk.dn;have HYN:=hid (And.intro hsk.yes hsk.no);have HS4:=hid hsk.mv.size;have HX4:=hid (hsk.mv.row HX3.out.2 fun hh=>hh (HF.out.r.dv.new (by have:=HGG.out;omega)));rw [<- hB] at HWAY HS4;clear hsk hr4 hk0 hk1 HF3 HX3 hB;have HLF:Hid ((BO ms).lf=true):=hid (Zf HDN.out);have HCK:Hid (AL true (BO ms).es=0):=hid (by
    obtain ⟨q1,q2,q3⟩:=Ny HDN.out HG.out.1;rw [Ey];exact QL q1 q2 q3)
   have HHAD:Hid (had=pgK t.en (s,z)/\(er=0\/er=7)):=hid (by
    by_cases h0:pgK t.en (s,z)=0
    ·obtain ⟨e1,e2⟩:=HYN.out.2 h0;exact ⟨by rw [e2,h0],.inr e1⟩
    ·obtain ⟨e1,e2⟩:=HYN.out.1 h0;exact ⟨e2,.inl e1⟩)
   have HC4:Hid (∀ y,Grew w4.drew y->y.cell? ⟨g+1,0,none⟩=some (.int .i64 s)/\y.cell? ⟨g+1,1,none⟩=some (.int .i64 z)/\y.cell? ⟨g+1,2,none⟩=some (.int .i64 p)):=hid fun y hy=>by
    have hr:=Ac (w:=w4) HX4.out ⟨hy.os,hy.tape,hy.output,hy.size,hy.block⟩;refine ⟨?_,?_,?_⟩<;>(rw [cell_of_row _ _ _ _ _ _ hr];rfl)
   clear HYN;rcases HHAD.out.2 with rfl | rfl
   iterate 2
    ·go_upto_region 11 with fail
     refine Ai 6 [EqN (.pointer (some ⟨tp,0,none⟩)),EqN (vw),EqN (vw),EqN (.agg #[.bool (BO ms).lf,.slice (BO ms).a (BO ms).es.length (BO ms).c]),EqN (.agg #[.int .i64 s,.int .i64 z,.int .i64 p]),NwLf 114 65 w4.heap.size (BG 0 (BO ms).es ((s,z),p))] (by kernel_rfl) (by decide) (by kernel_rfl) ?_ ?_ ?_
     ·repeat' (first | exact List.forall_mem_nil _ | refine List.forall_mem_cons.2 ⟨?_,?_⟩)
      all_goals
       intro w w' v hw h
       first | exact h | exact NwLf.kept h hw
     ·simp only [AllLt];refine ⟨⟨⟨⟨⟨⟨trivial,?_⟩,?_⟩,?_⟩,?_⟩,?_⟩,?_⟩
      all_goals
       intro o' ho;simp at ho;subst ho;intro ρ w5 hR hL hS hG;obtain ⟨hl1,hl2,-⟩:=hL
      ·refine Aa rfl ?_;intro bA K Q' hK;have e0:=hS 0 (by kernel_rfl);change ρ (.tmp 0)=_ at e0;simp only [execOp];go_simp;exact hK _ _ rfl (Grew.refl _)
      ·refine Aa rfl ?_;intro bA K Q' hK;have e9:=hS 9 (by kernel_rfl);change ρ (.tmp 9)=_ at e9;simp only [execOp];go_simp;exact hK _ _ rfl (Grew.refl _)
      ·refine Aa rfl ?_;intro bA K Q' hK;have e9:=hS 9 (by kernel_rfl);change ρ (.tmp 9)=_ at e9;simp only [execOp];go_simp;exact hK _ _ rfl (Grew.refl _)
      ·refine Aa rfl ?_;intro bA K Q' hK;have e48:=apG (hG 2 48);change ρ (.tmp 48)=_ at e48;simp only [execOp];go_simp;refine (Lu (HWAY.out.below (⟨hR.os,hR.tape,hR.output,hR.size,hR.block⟩:Below w4.heap.size w4 w5))).mono ?_;rintro r9 w9 ⟨rfl,hb9⟩;exact hK _ _ rfl hb9
      ·refine Aa rfl ?_;intro bA K Q' hK;have e8:=hS 8 (by kernel_rfl);change ρ (.tmp 8)=_ at e8;obtain ⟨y0,y1,y2⟩:=HC4.out w5 hR;simp only [execOp];go_simp;exact hK _ _ rfl (Grew.refl _)
      ·refine Aa rfl ?_;intro bA K Q' hK;have e49:=apG (hG 3 49);have e50:=apG (hG 4 50);change ρ (.tmp 49)=_ at e49;change ρ (.tmp 50)=_ at e50;rw [HLF.out] at e49;simp only [execOp];go_simp;refine (Ut (BO ms) s z p B w5 (LC (HWAY.out.below (⟨hR.os,hR.tape,hR.output,hR.size,hR.block⟩:Below w4.heap.size w4 w5))) HLF.out HCK.out HOE.out).mono ?_;rintro r9 w9 ⟨⟨v9,lms,rfl,hv9,hl9,he9,hd9⟩,hb9⟩;exact hK _ _ ⟨lms,CG hv9 hR.size,fun x hx=>⟨(hl9 x hx).1,(hl9 x hx).2.weaken hR.size⟩,he9,hd9⟩ hb9
     ·intro v w5 hR hG;have hv0:v 0=.pointer (some ⟨tp,0,none⟩):=hG.1.1.1.1.1.2;have hv1:v 1=vw:=hG.1.1.1.1.2;have hv5:NwLf 114 65 w4.heap.size (BG 0 (BO ms).es ((s,z),p)) w5 (v 5):=hG.2;obtain ⟨lms,hl1,hl2,hl3,hl4⟩:=hv5;have hb:Below w4.heap.size w4 w5:=⟨hR.os,hR.tape,hR.output,hR.size,hR.block⟩
      obtain ⟨D,M,rs,hJ,hM,hrs,hok,hsr,hoe,hD,htp,hMb⟩:=UM HDN.out HIS.out HG.out.1 HG.out.2 HOE.out (fun m hm=>(hl2 m hm).1) hl3;have HM5:Hid (Mv (Trn C K tp) w w5):=hid (HM4.out.trans (Mv.of_below hb));have HF5:=hid (HF4.out.below hb);have HTP:=hid htp;have HMB:=hid hMb;obtain ⟨hst1,hst2⟩:=KF HDN.out HG.out.1 HG.out.2;have hwr:=AO hl1;obtain ⟨a5,c5,hv5',-⟩:=hwr;have HCG:=hid (Jr HF5.out (by have h1:=HB9.out;have h2:r4<=((b+8:Nat):Int):=HF4.out.r.bud.2.2.1;have h3:=HF3B.out;refine ⟨by omega,by show S.s<=900000;omega,by show r4<=900100;omega⟩) HW0.out (HWAY.out.below hb) (AV hl1 HS4.out) (fun x hx=>⟨UO _ _ (by rw [<- hl3];exact List.mem_map_of_mem hx),(hl2 x hx).2.weaken HS4.out⟩) hl4 (by rw [<- List.length_map (f:=Nm.es),hl3];exact Qw _ _) hst1 hst2 (Nat.le_trans HS4.out hb.size) HCB.out HKB.out HWB.out HTB.out hJ hM hrs hok hsr hoe hD);rw [hv5'] at HCG;clear hG hR hl1 hl2 hl3 hl4 hb hJ hM hrs hok hsr hoe hD htp hMb hst1 hst2;simp [stG,stU,Au,Act.put,hv0,hv1,hv5'];clear hv0 hv1 hv5'
      go_wp2_with fail
      refine HCG.out.mono ?_;clear HCG;rintro e w6 (⟨rfl,hfr,C',n',S',x1,x2,x3,hcw,hx,hkept,hm6⟩ | ⟨rfl,C',n',S',root',t',ns',x1,x2,x3,ks',hcw,hx,hks,hkept,hcol,hm6⟩)
      ·have hm7:Mv (Trn C K tp) w w6:=(HM5.out).trans' hm6 fun i hi hh=>hh.resolve_right (by have:=HBB.out;omega);have hx7:Ext w C C':=fun i hi=>hx i (Nat.lt_of_lt_of_le hi HM5.out.size);have HZ:=hid (And.intro hcw (And.intro hx7 (And.intro hkept (And.intro hm7 hfr))));clear hcw hx hkept hm6 hm7 hx7 hfr
       go_wp2_with fail
       obtain ⟨hcw,hx7,hkept,hm7,hfr⟩:=HZ.out
       go_ret2
       exact ⟨_,_,rfl,.inr (.inl ⟨(by first | exact HOE.out | trivial),rfl,by have:=HMB.out;omega,⟨C',n',S',x1,x2,x3,hcw.more (by omega),hx7,hkept,hm7⟩⟩)⟩
      ·have hm7:Mv (Trn C K tp) w w6:=(HM5.out).trans' hm6 fun i hi hh=>hh.resolve_right (by have:=HBB.out;omega);have hx7:Ext w C C':=fun i hi=>hx i (Nat.lt_of_lt_of_le hi HM5.out.size);have HZ:=hid (And.intro hcw (And.intro hx7 (And.intro hks (And.intro hkept (And.intro hm7 hcol)))));clear hcw hx hks hkept hm6 hm7 hx7 hcol
       go_wp2_with fail
       obtain ⟨hcw,hx7,hks,hkept,hm7,hcol⟩:=HZ.out;have hhad:=HHAD.out.1
       go_ret2
       exact ⟨_,_,rfl,.inr (.inr ⟨(by first | exact HOE.out | trivial),rfl,hhad,⟨C',n',S',root',t',ns',x1,x2,x3,ks',hcw.more (by omega),hx7,hks,hkept,by rw [<- HTP.out];exact hcol,hm7⟩⟩)⟩
set_option maxRecDepth 20000 in
set_option maxHeartbeats 8000000 in
theorem TZ {C K:Nat->Nat} {W w:World} {tp gd pa pn n:Nat} {S:St} {root:Nat} {ep:Int} {t:TrG} {ns:List Nat} {b:Nat} {v1 v2 v3:Value} {ks:List Nat} (h:CwF C K W w tp gd pa pn n S root ep t ns b v1 v2 v3 ks) (hb9:b<=900000) (hW0:0 < W.heap.size) (hd7:t.deep<=7) (s z:Int) :
  Calls Tryz.prog 18 #[.pointer (some ⟨tp,0,none⟩),.agg #[.int .i64 s,.int .i64 z]] w fun e w'=>∃ had er:Int,e=.returned (.tuple #[.int .i64 had,.int .i64 er])/\
  ((okK (s,z)=false/\er=10/\Lm C K W w w' tp gd pa pn S root ep t ns b ks)\/(okK (s,z)=true/\pgK t.en (s,z)=0/\er=7/\Lm C K W w w' tp gd pa pn S root ep t ns b ks)\/
   (okK (s,z)=true/\pgK t.en (s,z)≠0/\er=6/\CE ks < t.deep/\Lm C K W w w' tp gd pa pn S root ep t ns b ks)\/
   (okK (s,z)=true/\pgK t.en (s,z)≠0/\er=0/\had=pgK t.en (s,z)/\dQ C K W w w' tp gd pa pn S ep b ks (fun t'=>Col (t.drop (s,z)) t'))):=by
 obtain ⟨g,hg⟩:∃ g,g=w.heap.size:=⟨_,rfl⟩
 obtain ⟨w3,hw3⟩:∃ w3,w3=w.alloc (.cells #[.int .i64 s,.int .i64 z] 42):=⟨_,rfl⟩
 have hb3:Below w.heap.size w w3:=by rw [hw3];exact Ad w _
 have hx3:w3.heap[g]?=some (.cells #[.int .i64 s,.int .i64 z] 42 (0,0)):=by rw [hw3,hg];exact heap_alloc_new w _
 have HF:=hid h;have HG:=hid (And.intro h.r.good hd7);have HIS:=hid h.r.is;have HB9:=hid hb9;have HW0:=hid hW0;have HB3:=hid hb3;have HX3:=hid hx3;have HF3:=hid (h.below hb3);have HWW3:=hid hw3;have HGG:=hid hg;have hk0:=cell_of_row w3 g 0 _ _ _ hx3;have hk1:=cell_of_row w3 g 1 _ _ _ hx3;simp only [List.getElem?_toArray,List.getElem?_cons_zero,List.getElem?_cons_succ] at hk0 hk1;clear h hb9 hW0 hd7 hb3 hx3 hw3 hg;cases ho:okK (s,z) with
 | false=>
  have HSB:=hid (Qk HF3.out.r.tc s z ho);have HOF:=hid ho;clear ho
  go_enter Tryz.func18,Tryz.ntmps18
  go_upto_region 1 with fail
  rw [<- HWW3.out,<- HGG.out]
  go_wp2_with fail
  refine HSB.out.mono ?_;clear HSB hk0 hk1;rintro e w4 ⟨rfl,hb4⟩;have HB4:Hid (Below w.heap.size w w4):=hid (HB3.out.trans (hb4.mono HB3.out.size));clear hb4
  go_wp2_with fail
  go_ret2
  exact ⟨_,_,rfl,.inl ⟨(by first | exact HOF.out | trivial),rfl,Jp HF.out HB4.out⟩⟩
 | true=>
  have HOK:=hid ho;clear ho;obtain ⟨B,hB⟩:∃ B,B=w3.heap.size:=⟨_,rfl⟩
  have HCB:Hid (∀ i,B<=i->C i=0):=hid fun i hi=>HF3.out.r.dv.new (by omega);have HKB:Hid (∀ i,B<=i->K i=0):=hid fun i hi=>HF3.out.al.far (by omega);have HWB:Hid (W.heap.size<=B):=hid (by rw [hB];exact HF3.out.al.bel.size);have HTB:Hid (tp < B):=hid (by rw [hB];exact Aj HF3.out.r.tc);have HBB:Hid (w.heap.size<=B):=hid (by rw [hB];exact HB3.out.size)
  go_enter Tryz.func18,Tryz.ntmps18
  go_upto_region 1 with fail
  rw [<- HWW3.out,<- HGG.out];have HSK:=hid (Jq HF3.out.r HB9.out s z HOK.out)
  go_wp2_with fail
  refine HSK.out.mono ?_;clear HSK;rintro e w4 ⟨vw,ms,had,er,rfl,hsk⟩;obtain ⟨r4,hr4⟩:=hsk.rd;have HF4:=hid (CwF.read HF3.out hr4 hsk.mv HW0.out);have HF3B:=hid HF3.out.r.bud;have HM4:Hid (Mv (Trn C K tp) w w4):=hid ((Mv.of_below (F:=Trn C K tp) HB3.out).trans' hsk.mv fun _ _ h=>.inl h);have HWAY:=hid hsk.way;have HDN:=hid hsk.dn;have HYN:=hid (And.intro hsk.yes hsk.no);have HS4:=hid hsk.mv.size;have HX4:=hid (hsk.mv.row HX3.out fun hh=>hh (HF.out.r.dv.new (by rw [HGG.out];exact Nat.le_refl _)));rw [<- hB] at HWAY HS4;clear hsk hr4 hk0 hk1 HF3 HX3 hB;by_cases hp0:pgK t.en (s,z)=0
  ·obtain ⟨rfl,rfl⟩:=HYN.out.2 hp0;have HP0:=hid hp0;clear hp0 HYN
   go_wp2_with fail
   go_ret2
   exact ⟨_,_,rfl,.inr (.inl ⟨(by first | exact HOK.out | trivial),HP0.out,rfl,WS HF.out HF4.out HM4.out⟩)⟩
  ·obtain ⟨rfl,hhd⟩:=HYN.out.1 hp0;have HPG:=hid hp0;have HHAD:=hid hhd;have HINT:Hid (∃ x∈t.en,plK x.1=plK (s,z)):=hid (Ym hp0);have HLF:Hid ((BO ms).lf=true):=hid (Zf HDN.out);have HCK:Hid (AL true (BO ms).es=0):=hid (by
    obtain ⟨q1,q2,q3⟩:=Ny HDN.out HG.out.1;rw [Ey];exact QL q1 q2 q3)
   have HIN:Hid (inK (BO ms).es (s,z)=true):=hid (by
    rw [Ey];cases hi:inK (Fv (ms.map Sm4.stp)) (s,z) with
    | true=>rfl
    | false=>exact absurd ((OU HDN.out HG.out.1 HOK.out).2 hi) hp0)
   have HFK:Hid (Nl (s,z)):=hid (by have:=okK_iff.1 HOK.out;unfold Nl;simp only at this ⊢;omega);have HC4:Hid (∀ y,Grew w4.drew y->y.cell? ⟨g,0,none⟩=some (.int .i64 s)/\y.cell? ⟨g,1,none⟩=some (.int .i64 z)/\True):=hid fun y hy=>by
    have hr:=Ac (w:=w4) HX4.out ⟨hy.os,hy.tape,hy.output,hy.size,hy.block⟩;refine ⟨?_,?_,trivial⟩<;>(rw [cell_of_row _ _ _ _ _ _ hr];rfl)
   clear HYN hp0 hhd
   go_upto_region 4 with fail
   refine Ai 6 [EqN (.pointer (some ⟨tp,0,none⟩)),EqN (vw),EqN (vw),EqN (.agg #[.bool (BO ms).lf,.slice (BO ms).a (BO ms).es.length (BO ms).c]),EqN (.agg #[.int .i64 s,.int .i64 z]),NwLf 114 65 w4.heap.size (AY 0 (BO ms).es (s,z))] (by kernel_rfl) (by decide) (by kernel_rfl) ?_ ?_ ?_
   ·repeat' (first | exact List.forall_mem_nil _ | refine List.forall_mem_cons.2 ⟨?_,?_⟩)
    all_goals
     intro w w' v hw h
     first | exact h | exact NwLf.kept h hw
   ·simp only [AllLt];refine ⟨⟨⟨⟨⟨⟨trivial,?_⟩,?_⟩,?_⟩,?_⟩,?_⟩,?_⟩
    all_goals
     intro o' ho;simp at ho;subst ho;intro ρ w5 hR hL hS hG;obtain ⟨hl1,hl2,-⟩:=hL
    ·refine Aa rfl ?_;intro bA K Q' hK;have e0:=hS 0 (by kernel_rfl);change ρ (.tmp 0)=_ at e0;simp only [execOp];go_simp;exact hK _ _ rfl (Grew.refl _)
    iterate 2
     ·refine Aa rfl ?_;intro bA K Q' hK;have e6:=hS 6 (by kernel_rfl);change ρ (.tmp 6)=_ at e6;simp only [execOp];go_simp;exact hK _ _ rfl (Grew.refl _)
    ·refine Aa rfl ?_;intro bA K Q' hK;have e22:=apG (hG 2 22);change ρ (.tmp 22)=_ at e22;simp only [execOp];go_simp;refine (Lu (HWAY.out.below (⟨hR.os,hR.tape,hR.output,hR.size,hR.block⟩:Below w4.heap.size w4 w5))).mono ?_;rintro r9 w9 ⟨rfl,hb9⟩;exact hK _ _ rfl hb9
    ·refine Aa rfl ?_;intro bA K Q' hK;have e3:=hS 3 (by kernel_rfl);change ρ (.tmp 3)=_ at e3;obtain ⟨y0,y1,y2⟩:=HC4.out w5 hR;simp only [execOp];go_simp;exact hK _ _ rfl (Grew.refl _)
    ·refine Aa rfl ?_;intro bA K Q' hK;have e23:=apG (hG 3 23);have e24:=apG (hG 4 24);change ρ (.tmp 23)=_ at e23;change ρ (.tmp 24)=_ at e24;rw [HLF.out] at e23;simp only [execOp];go_simp;refine (Xu (BO ms) s z B w5 (LC (HWAY.out.below (⟨hR.os,hR.tape,hR.output,hR.size,hR.block⟩:Below w4.heap.size w4 w5))) HLF.out HCK.out HFK.out HIN.out).mono ?_;rintro r9 w9 ⟨⟨v9,lms,rfl,hv9,hl9,he9,hd9⟩,hb9⟩;exact hK _ _ ⟨lms,CG hv9 hR.size,fun x hx=>⟨(hl9 x hx).1,(hl9 x hx).2.weaken hR.size⟩,he9,hd9⟩ hb9
   ·intro v w5 hR hG;have hv0:v 0=.pointer (some ⟨tp,0,none⟩):=hG.1.1.1.1.1.2;have hv1:v 1=vw:=hG.1.1.1.1.2;have hv5:NwLf 114 65 w4.heap.size (AY 0 (BO ms).es (s,z)) w5 (v 5):=hG.2;obtain ⟨lms,hl1,hl2,hl3,hl4⟩:=hv5;have hb:Below w4.heap.size w4 w5:=⟨hR.os,hR.tape,hR.output,hR.size,hR.block⟩
    obtain ⟨D,M,rs,hJ,hM,hrs,hok,hsr,hoe,hD,htp,hMb⟩:=Za HDN.out HG.out.1 HG.out.2 HOK.out HINT.out (fun m hm=>(hl2 m hm).1) hl3;have HM5:Hid (Mv (Trn C K tp) w w5):=hid (HM4.out.trans (Mv.of_below hb));have HF5:=hid (HF4.out.below hb);have HTP:=hid htp;have HMB:=hid hMb;obtain ⟨hst1,hst2⟩:=KF HDN.out HG.out.1 HG.out.2;have hwr:=AO hl1;obtain ⟨a5,c5,hv5',-⟩:=hwr;have HCG:=hid (Jr HF5.out (by have h1:=HB9.out;have h2:r4<=((b+8:Nat):Int):=HF4.out.r.bud.2.2.1;have h3:=HF3B.out;refine ⟨by omega,by show S.s<=900000;omega,by show r4<=900100;omega⟩) HW0.out (HWAY.out.below hb) (AV hl1 HS4.out) (fun x hx=>⟨Zc _ _ (by rw [<- hl3];exact List.mem_map_of_mem hx),(hl2 x hx).2.weaken HS4.out⟩) hl4 (by rw [<- List.length_map (f:=Nm.es),hl3];exact Nat.le_trans (WQ _ _) (by decide)) hst1 hst2 (Nat.le_trans HS4.out hb.size) HCB.out HKB.out HWB.out HTB.out hJ hM hrs hok hsr hoe hD);rw [hv5'] at HCG;clear hG hR hl1 hl2 hl3 hl4 hb hJ hM hrs hok hsr hoe hD htp hMb hst1 hst2;simp [stG,stU,Au,Act.put,hv0,hv1,hv5'];clear hv0 hv1 hv5'
    go_wp2_with fail
    refine HCG.out.mono ?_;clear HCG;rintro e w6 (⟨rfl,hfr,C',n',S',x1,x2,x3,hcw,hx,hkept,hm6⟩ | ⟨rfl,C',n',S',root',t',ns',x1,x2,x3,ks',hcw,hx,hks,hkept,hcol,hm6⟩)
    ·have hm7:Mv (Trn C K tp) w w6:=(HM5.out).trans' hm6 fun i hi hh=>hh.resolve_right (by have:=HBB.out;omega);have hx7:Ext w C C':=fun i hi=>hx i (Nat.lt_of_lt_of_le hi HM5.out.size);have HZ:=hid (And.intro hcw (And.intro hx7 (And.intro hkept (And.intro hm7 hfr))));clear hcw hx hkept hm6 hm7 hx7 hfr
     go_wp2_with fail
     obtain ⟨hcw,hx7,hkept,hm7,hfr⟩:=HZ.out
     go_ret2
     exact ⟨_,_,rfl,.inr (.inr (.inl ⟨(by first | exact HOK.out | trivial),HPG.out,rfl,by have:=HMB.out;omega,⟨C',n',S',x1,x2,x3,hcw.more (by omega),hx7,hkept,hm7⟩⟩))⟩
    ·have hm7:Mv (Trn C K tp) w w6:=(HM5.out).trans' hm6 fun i hi hh=>hh.resolve_right (by have:=HBB.out;omega);have hx7:Ext w C C':=fun i hi=>hx i (Nat.lt_of_lt_of_le hi HM5.out.size);have HZ:=hid (And.intro hcw (And.intro hx7 (And.intro hks (And.intro hkept (And.intro hm7 hcol)))));clear hcw hx hks hkept hm6 hm7 hx7 hcol
     go_wp2_with fail
     obtain ⟨hcw,hx7,hks,hkept,hm7,hcol⟩:=HZ.out;have hhad:=HHAD.out
     go_ret2
     exact ⟨_,_,rfl,.inr (.inr (.inr ⟨(by first | exact HOK.out | trivial),HPG.out,rfl,hhad,⟨C',n',S',root',t',ns',x1,x2,x3,ks',hcw.more (by omega),hx7,hks,hkept,by rw [<- HTP.out];exact hcol,hm7⟩⟩))⟩
end Go.Proofs.YtfhdojnobmfefaaGreatDoor
namespace Go.Proofs.YtfhdojnobmfefaaGreatDoor
open Go.RowKit Go.Inc
def PCx:Prop:=True
theorem pcw:PCx:=trivial
theorem fB:∀ (gd pa root:Nat) (ep:Int) (w:World),(root=0\/2<=root/\root<=2047)->1<=ep->ep<=4294967295->Calls Tryz.prog 30 #[.pointer (some ⟨gd,0,none⟩),.pointer (some ⟨pa,0,none⟩),.int .i64 (root:Int),.int .i64 ep] w fun e w'=>(∃ tp,e=.returned (.tuple #[.pointer (some ⟨tp,0,none⟩),.int .i64 0])/\w.heap.size<=tp/\TC w' tp gd pa root ep)/\Below w.heap.size w w':=fun gd pa root ep w hr he he2=>VZ gd pa root ep w hr he he2
theorem gQ:∀ (C:Nat->Nat) (w:World) (tp gd pa pn n:Nat) (S:St) (root:Nat) (ep:Int) (t:TrG) (ns:List Nat) (b:Nat) (s z:Int),CwR C w tp gd pa pn n S root ep t ns b->b<=900000->Calls Tryz.prog 20 #[.pointer (some ⟨tp,0,none⟩),.agg #[.int .i64 s,.int .i64 z]] w fun e w'=>(∃ pg er:Int,e=.returned (.tuple #[.int .i64 pg,.int .i64 er])/\(okK (s,z)=false->er=10)/\(okK (s,z)=true->pgK t.en (s,z)=0->er=7)/\(okK (s,z)=true->pgK t.en (s,z)≠0->er=0/\pg=pgK t.en (s,z)))/\(∃ r',CwR C w' tp gd pa pn n {S with r:=r'} root ep t ns (b+40))/\Mv (fun i=>C i≠0) w w':=fun _ _ _ _ _ _ _ _ _ _ _ _ _ s z h hb=>WU s z h hb
theorem bg:∀ (C:Nat->Nat) (w:World) (tp gd pa pn n:Nat) (S:St) (root:Nat) (ep:Int) (t:TrG) (ns:List Nat) (b:Nat) (s z s' z':Int),CwR C w tp gd pa pn n S root ep t ns b->b<=900000->Calls Tryz.prog 21 #[.pointer (some ⟨tp,0,none⟩),.agg #[.int .i64 s,.int .i64 z],.agg #[.int .i64 s',.int .i64 z']] w fun e w'=>(∃ (v:Value) (er:Int),e=.returned (.tuple #[v,.int .i64 er])/\((okK (s,z)=true/\okK (s',z')=true)->er=0/\w'.ownsRow w.heap.size 65 3 v (Pv t.en (s,z) (s',z')).length (Ak (Pv t.en (s,z) (s',z'))))/\(¬ (okK (s,z)=true/\okK (s',z')=true)->er=10))/\(∃ r',CwR C w' tp gd pa pn n {S with r:=r'} root ep t ns (b+3000))/\Mv (fun i=>C i≠0) w w':=fun _ _ _ _ _ _ _ _ _ _ _ _ _ s z s' z' h hb=>Rh s z s' z' h hb
theorem UT:∀ (C:Nat->Nat) (w:World) (tp gd pa pn n:Nat) (S:St) (root:Nat) (ep:Int) (t:TrG) (ns:List Nat) (b:Nat),CwR C w tp gd pa pn n S root ep t ns b->b<=900000->Calls Tryz.prog 32 #[.pointer (some ⟨tp,0,none⟩)] w fun e w'=>(∃ v:Value,e=.returned (.tuple #[v,.int .i64 0])/\w'.ownsRow w.heap.size 3 1 v ns.length (Dl ns))/\(∃ r',CwR C w' tp gd pa pn n {S with r:=r'} root ep t ns (b+3000))/\Mv (fun i=>C i≠0) w w':=fun _ _ _ _ _ _ _ _ _ _ _ _ _ h hb=>Ri h hb
theorem fA:∀ (w:World) (tp gd pa:Nat) (r ep:Int),TC w tp gd pa r ep->Calls Tryz.prog 14 #[.pointer (some ⟨tp,0,none⟩)] w fun e w'=>e=.returned (.int .i64 r)/\w=w':=aI
theorem bi:∀ (C:Nat->Nat) (w:World) (tp gd pa pn n:Nat) (S:St) (root:Nat) (ep:Int) (t:TrG) (ns:List Nat) (b:Nat),CwR C w tp gd pa pn n S root ep t ns b->b<=900000->Calls Tryz.prog 31 #[.pointer (some ⟨tp,0,none⟩)] w fun e w'=>e=.returned (.tuple #[.int .i64 (t.deep:Nat),.int .i64 0])/\(∃ r',CwR C w' tp gd pa pn n {S with r:=r'} root ep t ns (b+40))/\Mv (fun i=>C i≠0) w w':=fun _ _ _ _ _ _ _ _ _ _ _ _ _ h hb=>Rj h hb
theorem dS:∀ (C K:Nat->Nat) (W w:World) (tp gd pa pn n:Nat) (S:St) (root:Nat) (ep:Int) (t:TrG) (ns:List Nat) (b:Nat) (v1 v2 v3:Value) (ks:List Nat) (s z p:Int),CwF C K W w tp gd pa pn n S root ep t ns b v1 v2 v3 ks->b<=900000->t.deep<=7->t.cnt<=2000->0 < W.heap.size->Calls Tryz.prog 15 #[.pointer (some ⟨tp,0,none⟩),.agg #[.int .i64 s,.int .i64 z],.int .i64 p] w fun e w'=>∃ had er:Int,e=.returned (.tuple #[.int .i64 had,.int .i64 er])/\
  ((okE ((s,z),p)=false/\er=10/\Lm C K W w w' tp gd pa pn S root ep t ns b ks)\/(okE ((s,z),p)=true/\er=6/\CE ks < 2 * t.deep+1/\Lm C K W w w' tp gd pa pn S root ep t ns b ks)\/
   (okE ((s,z),p)=true/\er=0/\had=pgK t.en (s,z)/\dQ C K W w w' tp gd pa pn S ep b ks (fun t'=>Col (t.put ((s,z),p)) t'))):=fun _ _ _ _ _ _ _ _ _ _ _ _ _ _ _ _ _ _ _ s z p h hb hd _ h0=>WT h hb h0 hd s z p
theorem Yn:∀ (C K:Nat->Nat) (W w:World) (tp gd pa pn n:Nat) (S:St) (root:Nat) (ep:Int) (t:TrG) (ns:List Nat) (b:Nat) (v1 v2 v3:Value) (ks:List Nat) (s z:Int),CwF C K W w tp gd pa pn n S root ep t ns b v1 v2 v3 ks->b<=900000->t.deep<=7->t.cnt<=2000->0 < W.heap.size->Calls Tryz.prog 18 #[.pointer (some ⟨tp,0,none⟩),.agg #[.int .i64 s,.int .i64 z]] w fun e w'=>∃ had er:Int,e=.returned (.tuple #[.int .i64 had,.int .i64 er])/\
  ((okK (s,z)=false/\er=10/\Lm C K W w w' tp gd pa pn S root ep t ns b ks)\/(okK (s,z)=true/\pgK t.en (s,z)=0/\er=7/\Lm C K W w w' tp gd pa pn S root ep t ns b ks)\/
   (okK (s,z)=true/\pgK t.en (s,z)≠0/\er=6/\CE ks < t.deep/\Lm C K W w w' tp gd pa pn S root ep t ns b ks)\/
   (okK (s,z)=true/\pgK t.en (s,z)≠0/\er=0/\had=pgK t.en (s,z)/\dQ C K W w w' tp gd pa pn S ep b ks (fun t'=>Col (t.drop (s,z)) t'))):=fun _ _ _ _ _ _ _ _ _ _ _ _ _ _ _ _ _ _ _ s z h hb hd _ h0=>TZ h hb h0 hd s z
end Go.Proofs.YtfhdojnobmfefaaGreatDoor
namespace Go.Proofs.YtfhdojnobmfefaaGreatDoor
open Go.RowKit Go.Inc
set_option maxRecDepth 20000 in
set_option maxHeartbeats 1000000 in
theorem Wp (w:World):Calls Tryz.prog 27 #[] w fun e w'=>e=.returned (.agg #[.int .i64 0,.int .i64 0])/\Below w.heap.size w w':=by
 go_enter Tryz.func27,Tryz.ntmps27
 go_wp2_with fail
 exact bodyPost_ret (v:=.agg #[.int .i64 0,.int .i64 0]) (results_cell_row rfl _ _ w.heap.size 42 _ (0,0) _ rfl (heap_alloc_new w _) Tryz.underlying42 rfl (by kernel_rfl)) rfl ⟨rfl,Ad w _⟩
set_option maxRecDepth 20000 in
set_option maxHeartbeats 1000000 in
theorem PQ (w:World):Calls Tryz.prog 28 #[] w fun e w'=>e=.returned (.agg #[.int .i64 15,.int .i64 65535])/\Below w.heap.size w w':=by
 go_enter Tryz.func28,Tryz.ntmps28
 go_wp2_with fail
 exact bodyPost_ret (v:=.agg #[.int .i64 15,.int .i64 65535]) (results_cell_row rfl _ _ w.heap.size 42 _ (0,0) _ rfl (heap_alloc_new w _) Tryz.underlying42 rfl (by kernel_rfl)) rfl ⟨rfl,Ad w _⟩
theorem Ku {ks:List Nat} {i:Nat} (h:ks.length<=i):kd ks i=0:=by
 unfold kd;rw [List.getD_eq_getElem?_getD,List.getElem?_eq_none h];rfl
theorem Yv (n:Nat):N7 n []=0:=by
 unfold N7 E8;rw [if_neg (by simp [MB]),if_pos ⟨rfl,List.nodup_nil⟩]
theorem PK {n i:Nat} (h:i < n):kd (Ji n []) i=if i < 2 then 0 else 1:=by
 unfold Ji NW;rw [PL (by rw [CO];exact h),Gp h];simp
theorem Ry {B:List Nat} (h:∀ x∈B,x=0) (q:Nat):Bytes (rd (fresh B) q):=by
 unfold rd fresh pg;simp only [if_true];intro x hx;have:=h x (List.mem_of_mem_drop (List.mem_of_mem_take hx));omega
set_option maxRecDepth 20000 in
set_option maxHeartbeats 2000000 in
theorem OT (P:PCx) (p:Nat) (w:World) (h2:2<=p) (h:p<=2048) (ht:Tab w) :
  Calls Tryz.prog 11 #[.int .i64 (p:Int)] w fun e w'=>(∃ C K gd pa tp v1 v2 v3,e=.returned (.tuple #[.pointer (some ⟨gd,0,none⟩),.pointer (some ⟨pa,0,none⟩),.pointer (some ⟨tp,0,none⟩)])/\
   CwF C K w w' tp gd pa p 0 (fresh (List.replicate (256 * p) 0)) 0 1 .nil [] 0 v1 v2 v3 (Ji p []))/\Below w.heap.size w w':=by
 have HD:=hid (fP w p ⟨by omega,h⟩);have HP:=hid P;have HT:=hid ht;have H2:=hid (And.intro h2 h);clear P ht h2 h
 go_enter Tryz.func11,Tryz.ntmps11
 go_wp2_with fail
 refine HD.out.mono ?_;clear HD;rintro e w1 ⟨C,gd,rfl,hd,hb,hlo⟩;have HDV:=hid hd;have HB1:=hid hb;have HLO:=hid hlo;have HA:=hid (bn (w:=w) (fun _=>True) p none 0 [] w1 hb (.inl rfl) (by have:=H2.out;omega) (by have:=H2.out;omega) (by decide) (HT.out.below hb));clear hd hb hlo
 go_wp2_with fail
 refine HA.out.mono ?_;clear HA;rintro e w2 ⟨(⟨-,K,pa,v1,v2,v3,rfl,hown,hlo2⟩ | ⟨h,-⟩),hb2⟩
 ·have HO:=hid hown;have HLO2:=hid hlo2;have HB2:=hid hb2;have HOP:=hid (fB gd pa 0 1 w2 (.inl rfl) (by decide) (by decide));clear hown hlo2 hb2
  go_wp2_with fail
  refine HOP.out.mono ?_;clear HOP;rintro e w3 ⟨⟨tp,rfl,htp,htc⟩,hb3⟩;have HB3:=hid hb3;have HTC:=hid htc;have HTP:=hid htp;clear hb3 htc htp
  go_wp2_with fail
  go_ret3
  refine ⟨⟨C,K,gd,pa,tp,v1,v2,v3,rfl,?_⟩,HB1.out.trans ((HB2.out.trans (HB3.out.mono HB2.out.size)).mono HB1.out.size)⟩;have hdv3:=((HDV.out.below HB2.out).below HB3.out)
  have hz:∀ x∈List.replicate (256 * p) 0,x=0:=fun x hx=>List.eq_of_mem_replicate hx;have hC:C tp=0:=(HDV.out.below HB2.out).new HTP.out;have hK:K tp=0:=HO.out.far HTP.out;have hl:(Ji p []).length=p:=by unfold Ji;rw [Ci,CO]
  refine ⟨⟨hdv3,hC,HTC.out,by decide,rfl,rfl,fun q _=>Ry hz q,⟨trivial,List.Pairwise.nil,fun x hx=>by cases hx⟩,by decide,by decide,⟨rfl,rfl⟩,(fun q hq=>by cases hq),⟨Nat.le_refl _,Int.le_refl _,Int.le_refl _,Int.le_refl _,Int.le_refl _⟩⟩,HO.out.below HB3.out,fun i=>?_,hK,hl,fun i=>?_,List.nodup_nil,HLO.out,?_⟩
  ·by_cases hi:i < w1.heap.size
   ·exact .inr (Decidable.byContradiction fun hh=>by have:=HLO2.out i hh;omega)
   ·exact .inl (HDV.out.new (by omega))
  ·constructor
   ·intro hi;cases hi
   ·intro hi;exfalso;by_cases hip:i < p
    ·rw [PK hip] at hi;split at hi<;>omega
    ·rw [Ku (by rw [hl];omega)] at hi;omega
  ·have:=HB1.out.size;have:=HB2.out.size;have:=HTP.out;omega
 ·exact absurd (Yv p) h
end Go.Proofs.YtfhdojnobmfefaaGreatDoor
namespace Go.Inc
open Go.RowKit
theorem He {f g h:Nat->Bool} (l:List Nat) (hh:∀ i∈l,f i=(g i||h i)/\¬ (g i=true/\h i=true)):(l.filter f).length=(l.filter g).length+(l.filter h).length:=by
 induction l with
 | nil=>rfl
 | cons a r ih=>
  have ih:=ih fun i hi=>hh i (List.mem_cons_of_mem _ hi);obtain ⟨h1,h2⟩:=hh a (List.mem_cons_self ..);rw [List.filter_cons,List.filter_cons,List.filter_cons,h1];cases hg:g a<;>cases hk:h a
  ·simpa using ih
  ·simp;omega
  ·simp;omega
  ·exact absurd ⟨hg,hk⟩ h2
theorem UI {okz:Nat->Prop} {w:World} {a:Option Addr} {zs:List Int} (h:Si okz w a zs) {k:Nat} (hk:k < zs.length):∃ b o,a=some ⟨b,o,none⟩/\w.cell? ⟨b,o+k,none⟩=some (.int .i64 (zs.getD k 0)):=by
 rcases h with h | ⟨b,o,h,_,hc⟩
 ·rw [h] at hk;simp at hk
 ·exact ⟨b,o,h,hc k hk⟩
end Go.Inc
namespace Go.Proofs.YtfhdojnobmfefaaGreatDoor
open Go.RowKit Go.Inc
theorem Ua {ks ns:List Nat} (hnd:ns.Nodup) (hu:∀ i,i∈ns↔(kd ks i=2\/kd ks i=3)) :
  BB (inB (AC isC ks)) (AC isC ks).length+BB (inB (AC isS ks)) (AC isS ks).length=ns.length+BB (inB (AC isP ks)) (AC isP ks).length:=by
 have e:∀ p:Nat->Bool,BB (inB (AC p ks)) (AC p ks).length=((List.range ks.length).filter fun i=>p (kd ks i)).length:=fun p=>by
  unfold BB;rw [V5];rfl
 rw [e,e,e];have h1:=He (f:=fun i=>isC (kd ks i)) (g:=fun i=>decide (kd ks i=2)) (h:=fun i=>isP (kd ks i)) (List.range ks.length) fun i _=>⟨rfl,fun h=>by
  have h1:=of_decide_eq_true h.1;have h2:=isP_iff.1 h.2;omega⟩
 have h2:=He (f:=fun i=>decide (kd ks i=2\/kd ks i=3)) (g:=fun i=>decide (kd ks i=2)) (h:=fun i=>isS (kd ks i)) (List.range ks.length) fun i _=>⟨by
  unfold isS;rw [Bool.eq_iff_iff];simp,fun h=>by
  have h1:=of_decide_eq_true h.1;have h2:=isS_iff.1 h.2;omega⟩
 have h3:ns.length=((List.range ks.length).filter fun i=>decide (kd ks i=2\/kd ks i=3)).length:=by
  refine ((List.perm_ext_iff_of_nodup hnd (List.Pairwise.filter _ List.nodup_range)).2 fun i=>?_).length_eq;rw [List.mem_filter,List.mem_range,decide_eq_true_eq,hu i];refine ⟨fun h=>⟨?_,h⟩,fun h=>h.2⟩;by_cases hi:i < ks.length
  ·exact hi
  ·rw [Ku (by omega)] at h;omega
 omega
set_option maxRecDepth 20000 in
set_option maxHeartbeats 4000000 in
theorem Vz (P:PCx) {C K:Nat->Nat} {W w:World} {tp gd pa pn n:Nat} {S:St} {root:Nat} {ep:Int} {t:TrG} {ns:List Nat} {b:Nat} {v1 v2 v3:Value} {ks:List Nat} (h:CwF C K W w tp gd pa pn n S root ep t ns b v1 v2 v3 ks) (hb:b<=900000) (h0:0 < W.heap.size) :
  Calls Tryz.prog 26 #[.pointer (some ⟨pa,0,none⟩),.pointer (some ⟨tp,0,none⟩)] w fun e w'=>e=.returned (.bool true)/\(∃ r',CwF C K W w' tp gd pa pn n {S with r:=r'} root ep t ns (b+3000) v1 v2 v3 ks)/\Mv (fun i=>C i≠0) w w':=by
 have HF:=hid h;have HS:=hid (XZ h.al.al h.al.ks);have HP:=hid P;have HB:=hid hb;have H0:=hid h0;clear h P hb h0
 go_enter Tryz.func26,Tryz.ntmps26
 go_wp2_with fail
 refine HS.out.mono ?_;clear HS;rintro e w1 ⟨⟨x1,x2,x3,rfl,hx1,hx2,hx3⟩,hb1⟩;have HB1:=hid hb1;have HX:=hid (And.intro hx1 (And.intro hx2 hx3));have HN:=hid (UT C w1 tp gd pa pn n S root ep t ns b (HF.out.below hb1).r HB.out);clear hb1 hx1 hx2 hx3
 go_wp2_with fail
 refine HN.out.mono ?_;clear HN;rintro e w2 ⟨⟨v,rfl,hv⟩,⟨r',hr'⟩,hm⟩;have hcw:∀ i,w.heap.size<=i->¬ C i≠0:=fun i hi hc=>hc (HF.out.r.dv.new hi);have HX2:Hid (NewSet w.heap.size w2 x1 (AC isC ks)/\NewSet w.heap.size w2 x2 (AC isS ks)/\NewSet w.heap.size w2 x3 (AC isP ks)):=hid ⟨HX.out.1.mv hm hcw,HX.out.2.1.mv hm hcw,HX.out.2.2.mv hm hcw⟩;have HF2:=hid (CwF.read (HF.out.below HB1.out) hr' hm H0.out);have HM2:Hid (Mv (fun i=>C i≠0) w w2):=hid ((Mv.of_below (F:=fun i=>C i≠0) HB1.out).trans hm);obtain ⟨a,c,rfl,-,hsi⟩:=CB hv;obtain ⟨L,hL⟩:∃ L,L=ns.length:=⟨_,rfl⟩
 rw [<- hL];have HL:=hid hL;have HSI:=hid hsi;have hL2:(L:Int)<=2048:=by have:=HF.out.r.is.len;have:=HF.out.r.cnt;omega
 have HQ:Hid (∀ q,q∈ns->FV (AC isP ks) (q:Int)=false/\(FV (AC isC ks) (q:Int)=true\/FV (AC isC ks) (q:Int)=false/\FV (AC isS ks) (q:Int)=true)):=hid fun q hq=>by
  have hk:=(HF.out.used q).1 hq;have hql:q < ks.length:=by rw [HF.out.kl];exact (HF.out.r.pg q hq).2
  rw [Ei,Ei,Ei,BA hql,BA hql,BA hql];rcases hk with hk | hk
  ·rw [hk];exact ⟨rfl,.inl rfl⟩
  ·rw [hk];exact ⟨rfl,.inr ⟨rfl,rfl⟩⟩
 have hsum:=Ua (ks:=ks) HF.out.nodup HF.out.used;obtain ⟨c1,hc1⟩:∃ c1,c1=BB (inB (AC isC ks)) (AC isC ks).length:=⟨_,rfl⟩
 obtain ⟨c2,hc2⟩:∃ c2,c2=BB (inB (AC isS ks)) (AC isS ks).length:=⟨_,rfl⟩
 obtain ⟨c3,hc3⟩:∃ c3,c3=BB (inB (AC isP ks)) (AC isP ks).length:=⟨_,rfl⟩
 have hks:=HF.out.al.ks.n2048;have hbn:∀ p:Nat->Bool,BB (inB (AC p ks)) (AC p ks).length<=2048:=fun p=>by
  unfold BB;have:=GN (inB (AC p ks)) (AC p ks).length;rw [A7] at this ⊢;omega
 have hn1:=hbn isC;have hn2:=hbn isS;have hn3:=hbn isP;have HC1:Hid (∀ y,Below w2.heap.size w2 y->Calls Tryz.prog 75 #[x1] y fun e w'=>e=.returned (.int .i64 (c1:Int))/\y=w'):=hid fun y hy=>by rw [hc1];exact Ha _ x1 _ y (HX2.out.1.below hy).bm
 have HC2:Hid (∀ y,Below w2.heap.size w2 y->Calls Tryz.prog 75 #[x2] y fun e w'=>e=.returned (.int .i64 (c2:Int))/\y=w'):=hid fun y hy=>by rw [hc2];exact Ha _ x2 _ y (HX2.out.2.1.below hy).bm
 have HC3:Hid (∀ y,Below w2.heap.size w2 y->Calls Tryz.prog 75 #[x3] y fun e w'=>e=.returned (.int .i64 (c3:Int))/\y=w'):=hid fun y hy=>by rw [hc3];exact Ha _ x3 _ y (HX2.out.2.2.below hy).bm
 rw [<- hc1,<- hc2,<- hc3,<- hL] at hsum;rw [<- hc1] at hn1;rw [<- hc2] at hn2;rw [<- hc3] at hn3;have HSUM:=hid hsum;have HCN:=hid (And.intro hn1 (And.intro hn2 hn3));clear hv hr' hm hcw hsi hL hsum hc1 hc2 hc3 hks hbn hn1 hn2 hn3 HX HF HB1
 go_wp2_with fail
 go_loopw [10] (fun i wr=>∃ k:Nat,k<=L/\i=.int .i64 (k:Int)/\Below w2.heap.size w2 wr) (fun i _=>L - (intOf i).toNat)
 case atStart=>exact ⟨0,Nat.zero_le _,rfl,Below.refl _ _⟩
 case round=>
  obtain ⟨k,hk,rfl,hbr⟩:=hrel;have HBR:=hid hbr;clear hbr;by_cases hlt:(k:Int) < L
  ·have hkl:k < ns.length:=by have:=HL.out;omega
   have hkn:(k < L)=True:=eq_true (by omega);obtain ⟨bb,o,rfl,-⟩:=UI HSI.out (k:=k) (by rw [List.length_map];exact hkl);have HCELL:Hid (∀ y,Below w2.heap.size w2 y->y.cell? ⟨bb,o+k,none⟩=some (.int .i64 ((ns[k]:Nat):Int))):=hid fun y hy=>by
    obtain ⟨b',o',e,h⟩:=UI (HSI.out.below hy) (k:=k) (by rw [List.length_map];exact hkl);cases e;rw [h,List.getD_eq_getElem?_getD,List.getElem?_map,List.getElem?_eq_getElem hkl];rfl
   obtain ⟨q,hq⟩:∃ q,q=ns[k]:=⟨_,rfl⟩
   rw [<- hq] at HCELL;obtain ⟨f1,f2⟩:=HQ.out q (by rw [hq];exact List.getElem_mem _);have HH3:Hid (∀ y,Below w2.heap.size w2 y->Calls Tryz.prog 74 #[x3,.int .i64 (q:Int)] y fun e w'=>e=.returned (.bool false)/\Below y.heap.size y w'):=hid fun y hy=>by rw [<- f1];exact Fq _ x3 _ _ y (HX2.out.2.2.below hy).bm
   have H3:=HH3;have hce:=HCELL.out wr HBR.out;rcases f2 with f2 | ⟨f2,f3⟩
   ·have HH1:Hid (∀ y,Below w2.heap.size w2 y->Calls Tryz.prog 74 #[x1,.int .i64 (q:Int)] y fun e w'=>e=.returned (.bool true)/\Below y.heap.size y w'):=hid fun y hy=>by rw [<- f2];exact Fq _ x1 _ _ y (HX2.out.1.below hy).bm
    clear hq f1 f2 hkl
    go_wp2_with fail
    refine (HH3.out wr HBR.out).mono ?_;rintro e w3 ⟨rfl,hb3⟩;have HB3:Hid (Below w2.heap.size w2 w3):=hid (HBR.out.trans (hb3.mono HBR.out.size));have hce:=HCELL.out w3 HB3.out;clear hb3
    go_wp2_with fail
    refine (HH1.out w3 HB3.out).mono ?_;rintro e w4 ⟨rfl,hb4⟩;have HB4:Hid (Below w2.heap.size w2 w4):=hid (HB3.out.trans (hb4.mono HB3.out.size));clear hb4 hce
    go_wp2_with fail
    go_roundw
    case rel=>exact ⟨k+1,by omega,by go_num,HB4.out⟩
    case measure=>simp [intOf];omega
   ·have HH1:Hid (∀ y,Below w2.heap.size w2 y->Calls Tryz.prog 74 #[x1,.int .i64 (q:Int)] y fun e w'=>e=.returned (.bool false)/\Below y.heap.size y w'):=hid fun y hy=>by rw [<- f2];exact Fq _ x1 _ _ y (HX2.out.1.below hy).bm
    have HH2:Hid (∀ y,Below w2.heap.size w2 y->Calls Tryz.prog 74 #[x2,.int .i64 (q:Int)] y fun e w'=>e=.returned (.bool true)/\Below y.heap.size y w'):=hid fun y hy=>by rw [<- f3];exact Fq _ x2 _ _ y (HX2.out.2.1.below hy).bm
    clear hq f1 f2 f3 hkl
    go_wp2_with fail
    refine (HH3.out wr HBR.out).mono ?_;rintro e w3 ⟨rfl,hb3⟩;have HB3:Hid (Below w2.heap.size w2 w3):=hid (HBR.out.trans (hb3.mono HBR.out.size));have hce:=HCELL.out w3 HB3.out;clear hb3
    go_wp2_with fail
    refine (HH1.out w3 HB3.out).mono ?_;rintro e w4 ⟨rfl,hb4⟩;have HB4:Hid (Below w2.heap.size w2 w4):=hid (HB3.out.trans (hb4.mono HB3.out.size));have hce:=HCELL.out w4 HB4.out;clear hb4
    go_wp2_with fail
    refine (HH2.out w4 HB4.out).mono ?_;rintro e w5 ⟨rfl,hb5⟩;have HB5:Hid (Below w2.heap.size w2 w5):=hid (HB4.out.trans (hb5.mono HB4.out.size));clear hb5 hce
    go_wp2_with fail
    go_roundw
    case rel=>exact ⟨k+1,by omega,by go_num,HB5.out⟩
    case measure=>simp [intOf];omega
  ·have hkf:(k < L)=False:=eq_false (by omega);obtain ⟨q1,q2,q3⟩:=HCN.out;have hq1:(c1:Int)<=2048:=by omega
   have hq2:(c2:Int)<=2048:=by omega
   have hq3:(c3:Int)<=2048:=by omega
   have hss:(c1:Int) - (c3:Int)+(c2:Int)=(L:Int):=by have:=HSUM.out;omega
   clear q1 q2 q3
   go_wp2_with fail
   refine (HC1.out wr HBR.out).mono ?_;rintro e w3 ⟨rfl,rfl⟩
   go_wp2_with fail
   refine (HC3.out wr HBR.out).mono ?_;rintro e w3 ⟨rfl,rfl⟩
   go_wp2_with fail
   refine (HC2.out wr HBR.out).mono ?_;rintro e w3 ⟨rfl,rfl⟩
   go_wp2_with fail
   go_ret
   exact ⟨rfl,⟨r',HF2.out.below HBR.out⟩,HM2.out.trans (Mv.of_below HBR.out)⟩
end Go.Proofs.YtfhdojnobmfefaaGreatDoor
namespace Go.Proofs.YtfhdojnobmfefaaGreatDoor
open Go.RowKit Go.Inc
def knT:Nat->TrG
 | 0=>.nil
 | k+1=>(knT k).put ((0,(k:Int)),5)
theorem Wx:∀ k,k < 18->(knT k).cnt<=3/\(knT k).deep<=2:=by decide+kernel
theorem YG:∀ k,k < 18->(knT k).top:=by decide+kernel
theorem bQ {k:Nat} (h:k < 17):(knT k).top:=YG k (by omega)
theorem U4:(knT 1).cnt=1:=by decide+kernel
theorem YH:(knT 17).cnt=3:=by decide+kernel
def RQ (ks:List Nat):Prop:=∀ i,kd ks i≠2/\kd ks i≠4
theorem KsTo.no24 {ks ns ks':List Nat} (h:KsTo ks ns ks') (h0:RQ ks) (hk:Ks ks'):RQ ks':=fun i=>by
 by_cases hi:i < ks.length
 ·by_cases h2:2<=i
  ·have:=h0 i;rw [h.2 i h2 hi];split
   ·rw [if_neg this.1];decide
   ·rw [if_neg (by rintro (e | e)<;>omega)];decide
  ·rcases (show i=0\/i=1 by omega) with rfl | rfl
   ·rw [hk.k0];decide
   ·rw [hk.k1];decide
 ·rw [Ku (by rw [h.1];omega)];decide
theorem Ew {ks ns:List Nat} (hk:Ks ks) (h0:RQ ks) (hnd:ns.Nodup) (hu:∀ i,i∈ns↔(kd ks i=2\/kd ks i=3)):CE ks+ns.length+2=ks.length:=by
 have e1:CE ks=((List.range ks.length).filter fun i=>isF (kd ks i)).length:=rfl;have h3:ns.length=((List.range ks.length).filter fun i=>decide (kd ks i=3)).length:=by
  refine ((List.perm_ext_iff_of_nodup hnd (List.Pairwise.filter _ List.nodup_range)).2 fun i=>?_).length_eq;rw [List.mem_filter,List.mem_range,decide_eq_true_eq,hu i];constructor
  ·intro h;have h3:=h.resolve_left (h0 i).1;refine ⟨?_,h3⟩;by_cases hi:i < ks.length
   ·exact hi
   ·rw [Ku (by omega)] at h3;omega
  ·intro h;exact .inr h.2
 have h4:((List.range ks.length).filter fun i=>decide (i < 2)).length=2:=by
  have e:(List.range ks.length).filter (fun i=>decide (i < 2))=[0,1]:=by
   obtain ⟨m,hm⟩:∃ m,ks.length=2+m:=⟨ks.length - 2,by have:=hk.n2;omega⟩
   rw [hm,List.range_add,List.filter_append];have:(List.map (fun x=>2+x) (List.range m)).filter (fun i=>decide (i < 2))=[]:=by
    rw [List.filter_eq_nil_iff];intro a ha;obtain ⟨x,-,rfl⟩:=List.mem_map.1 ha;simp
   rw [this];rfl
  rw [e];rfl
 have h5:=He (f:=fun _=>true) (g:=fun i=>decide (i < 2)) (h:=fun i=>decide (2<=i)) (List.range ks.length) fun i _=>⟨by
  by_cases hi:i < 2
  ·simp [hi]
  ·have h2:2<=i:=by omega
   simp [h2],fun h=>by
  have h1:=of_decide_eq_true h.1;have h2:=of_decide_eq_true h.2;omega⟩
 have h6:=He (f:=fun i=>decide (2<=i)) (g:=fun i=>isF (kd ks i)) (h:=fun i=>decide (kd ks i=3)) (List.range ks.length) fun i hi=>by
  rw [List.mem_range] at hi;by_cases h2:2<=i
  ·have hr:=hk.rest i h2 hi;have hn:=h0 i;have hc:kd ks i=1\/kd ks i=3:=by omega
   rcases hc with hc | hc
   iterate 2
    ·rw [hc];simp [h2,isF]
  ·rcases (show i=0\/i=1 by omega) with rfl | rfl
   ·rw [hk.k0];simp [isF]
   ·rw [hk.k1];simp [isF]
 have h7:((List.range ks.length).filter fun _=>true).length=ks.length:=by
  rw [List.filter_eq_self.2 fun _ _=>rfl,List.length_range]
 omega
theorem Trn.low {C K:Nat->Nat} {W w:World} {tp gd pa pn n:Nat} {S:St} {root:Nat} {ep:Int} {t:TrG} {ns:List Nat} {b:Nat} {v1 v2 v3:Value} {ks:List Nat} (h:CwF C K W w tp gd pa pn n S root ep t ns b v1 v2 v3 ks):∀ i,Trn C K tp i->W.heap.size<=i:=fun i hi=>by
 rcases hi with hi | hi | rfl
 ·exact h.lowC i hi
 ·exact h.al.low i hi
 ·exact h.lowT
set_option maxRecDepth 20000 in
set_option maxHeartbeats 4000000 in
theorem QN (P:PCx) (w:World) (ht:Tab w) (h0:0 < w.heap.size) :
  Calls Tryz.prog 29 #[] w fun e w'=>e=.returned (.bool true)/\Below w.heap.size w w':=by
 have HFR:=hid (OT P 30 w (by decide) (by decide) ht);have HP:=hid P;have H0:=hid h0;clear P ht h0
 go_enter Tryz.func29,Tryz.ntmps29
 go_wp2_with fail
 refine HFR.out.mono ?_;clear HFR;rintro e w1 ⟨⟨C,K,gd,pa,tp,v1,v2,v3,rfl,hf⟩,hb⟩;have HF:=hid hf;have HB:=hid hb;have HN0:Hid (RQ (Ji 30 [])):=hid fun i=>by
  by_cases hi:i < 30
  ·rw [PK hi];split<;>decide
  ·rw [Ku (by unfold Ji;rw [Ci,CO];omega)];decide
 clear hf hb
 go_wp2_with fail
 go_loopw [4,5] (fun nv i wr=>∃ (k:Nat) (C':Nat->Nat) (n':Nat) (S':St) (root':Nat) (ns':List Nat) (b':Nat) (u1 u2 u3:Value) (ks':List Nat) (a:Option Addr) (c:Nat),k<=17/\i=.int .i64 (k:Int)/\nv=.slice a (knT k).cnt c/\CwF C' K w wr tp gd pa 30 n' S' root' 1 (knT k) ns' b' u1 u2 u3 ks'/\b'<=3100 * k/\RQ ks'/\Below w.heap.size w wr) (fun _ i _=>17 - (intOf i).toNat)
 case atStart=>exact ⟨0,C,0,_,0,[],0,v1,v2,v3,_,none,0,by decide,rfl,rfl,HF.out,Nat.le_refl _,HN0.out,HB.out⟩
 case round=>
  clear HF HN0 HB;obtain ⟨k,C',n',S',root',ns',b',u1,u2,u3,ks',a,c,hk,rfl,rfl,hf,hb',hno,hbr⟩:=hrel;obtain ⟨L,hL⟩:∃ L,L=(knT k).cnt:=⟨_,rfl⟩
  rw [<- hL];have HL:=hid hL;have HF:=hid hf;have HNO:=hid hno;have HBR:=hid hbr;have HBB:=hid hb';clear hL hf hno hbr hb';by_cases hlt:(k:Int) < 17
  ·have hsm:=Wx k (by omega);have hokE:okE ((0,(k:Int)),5)=true:=okE_iff.2 ⟨⟨by show (0:Int)<=0;decide,by show (0:Int) < 16;decide,by show (0:Int)<=(k:Int);omega,by show (k:Int) < 65536;omega⟩,by show (1:Int) < 5;decide,by show (5:Int) < 2048;decide⟩;have hfree:=Ew HF.out.al.ks HNO.out HF.out.nodup HF.out.used;have hns:=HF.out.r.is.len;have hkl:=HF.out.kl;have HFREE:Hid (¬ CE ks' < 2 * (knT k).deep+1):=hid (by omega);have HOKE:=hid hokE;have HPUT:=hid (dS C' K w wr tp gd pa 30 n' S' root' 1 (knT k) ns' b' u1 u2 u3 ks' 0 (k:Int) 5 HF.out (by have:=HBB.out;omega) (by omega) (by omega) H0.out);clear hsm hokE hfree hns hkl
   go_wp2_with fail
   refine HPUT.out.mono ?_;clear HPUT;rintro e w2 ⟨had,er,rfl,(⟨h,-⟩ | ⟨-,-,h,-⟩ | ⟨-,rfl,-,C2,n2,S2,root2,t2,ns2,x1,x2,x3,ks2,hf2,hext,hks2,-,hcol,hm2⟩)⟩
   ·exact absurd (h.symm.trans HOKE.out) (by decide)
   ·exact absurd h HFREE.out
   ·obtain rfl:t2=(knT k).put ((0,(k:Int)),5):=hcol.top_eq (TrG.put_top HF.out.r.good.1 (bQ (by omega)));have HF2:=hid hf2;have HNO2:=hid (hks2.no24 HNO.out hf2.al.ks);have HB2:Hid (Below w.heap.size w w2):=hid (HBR.out.trans (hm2.below HBR.out.size (Trn.low HF.out)));have HNODE:=hid (UT C2 w2 tp gd pa 30 n2 S2 root2 1 _ ns2 (b'+40) hf2.r (by have:=HBB.out;omega));clear hf2 hext hks2 hm2 HF HNO HBR HFREE HOKE
    go_wp2_with fail
    refine HNODE.out.mono ?_;clear HNODE;rintro e w3 ⟨⟨v,rfl,hv⟩,⟨r',hr'⟩,hm3⟩;have HF3:=hid (CwF.read HF2.out hr' hm3 H0.out);have HB3:Hid (Below w.heap.size w w3):=hid (HB2.out.trans (hm3.below HB2.out.size fun i hi=>HF2.out.lowC i hi));obtain ⟨a3,c3,rfl,-,-⟩:=CB hv;obtain ⟨L3,hL3⟩:∃ L3,L3=ns2.length:=⟨_,rfl⟩
    rw [<- hL3];have HL3:Hid (L3=(knT (k+1)).cnt):=hid (by rw [hL3];exact HF2.out.r.is.len);clear hv hr' hm3 hL3 HF2 HB2;by_cases hz:k=0
    ·have hz1:((k:Int) == 0)=true:=by rw [hz];rfl
     have hz2:(k=0)=True:=eq_true hz;have hl1:((L3:Int) != 1)=false:=by rw [HL3.out,hz,U4];rfl
     have hl2:(L3=1)=True:=eq_true (by rw [HL3.out,hz,U4]);clear hz
     go_wp2_with fail
     go_roundw
     case rel=>exact ⟨k+1,C2,n2,_,root2,ns2,b'+40+3000,x1,x2,x3,ks2,a3,c3,by omega,by go_num,by rw [HL3.out],HF3.out,by have:=HBB.out;omega,HNO2.out,HB3.out⟩
     case measure=>simp [intOf];omega
    ·have hz1:((k:Int) == 0)=false:=by rw [beq_eq_false_iff_ne];omega
     have hz2:(k=0)=False:=eq_false hz;clear hz
     go_wp2_with fail
     go_roundw
     case rel=>exact ⟨k+1,C2,n2,_,root2,ns2,b'+40+3000,x1,x2,x3,ks2,a3,c3,by omega,by go_num,by rw [HL3.out],HF3.out,by have:=HBB.out;omega,HNO2.out,HB3.out⟩
     case measure=>simp [intOf];omega
  ·have hk17:k=17:=by omega
   have hl3:L=3:=by rw [HL.out,hk17,YH]
   have hfree:=Ew HF.out.al.ks HNO.out HF.out.nodup HF.out.used;have hns:=HF.out.r.is.len;have hkl:=HF.out.kl;rw [<- HL.out] at hns;have HFREE:Hid ((Az isF ks').length=25):=hid (by show CE ks'=25;omega);have HA:=hid (EK HF.out.al.al HF.out.al.ks HF.out.al.tab);rw [HFREE.out] at HA;have hl1:((L:Int) == 3)=true:=by rw [hl3];rfl
   have hl2:(L=3)=True:=eq_true hl3;have hge:(17:Int)<=k:=by omega
   clear hk17 hl3 hfree hns hkl hlt
   go_wp2_with fail
   refine HA.out.mono ?_;rintro e w2 ⟨rfl,hb2⟩;have HB2:Hid (Below w.heap.size w w2):=hid (HBR.out.trans (hb2.mono HBR.out.size));clear hb2 HA;rw [show ((25:Nat):Int)=25 from rfl]
   go_wp2_with fail
   go_ret
   exact ⟨rfl,HB2.out⟩
end Go.Proofs.YtfhdojnobmfefaaGreatDoor
namespace Go.Inc
open Go.RowKit
theorem OJ {es:List Et} (hs:Srt es) {i:Nat} (hi:i < es.length):∀ n,i < n->n<=es.length->MX es (es.getD i et0).1 n=(es.getD i et0).2
 | 0,h,_=>absurd h (Nat.not_lt_zero _)
 | n+1,h,hn=>by
  rw [Jm];by_cases e:n=i
  ·rw [e,if_pos rfl]
  ·have hlt:i < n:=by omega
   have h2:=LV (srt_fall.2 hs) hlt (by omega);rw [if_neg (fun hh=>by rw [hh] at h2;omega),OJ hs hi n hlt (by omega)]
theorem aZ {es:List Et} (hs:Srt es) {i:Nat} (hi:i < es.length):pgK es (es.getD i et0).1=(es.getD i et0).2:=OJ hs hi _ hi (Nat.le_refl _)
theorem VP {x:Et} {r:List Et} (hs:Srt (x::r)):Fp (x::r) x.1=r:=by
 have h:=(List.pairwise_cons.1 hs).1;unfold Fp;rw [List.filter_cons,if_neg (by simp),Ce fun y hy=>decide_eq_true (by have:=h y hy;omega)]
theorem VO {x:Et} {r:List Et} (hs:Srt (r++[x])):Fp (r++[x]) x.1=r:=by
 have h:=(List.pairwise_append.1 hs).2.2;unfold Fp;rw [List.filter_append,Ce (es:=r) fun y hy=>decide_eq_true (by have:=h y hy x (List.mem_singleton.2 rfl);omega)];simp
def Fa (back:Bool) (es:List Et) (k:Nat):List Et:=if back=true then es.take (es.length - k) else es.drop k
def atE (back:Bool) (M k:Nat):Nat:=if back=true then M - 1 - k else k
theorem Wn {back:Bool} {es:List Et} {k:Nat} (h:Srt es):Srt (Fa back es k):=by
 unfold Fa;split
 ·exact List.Pairwise.sublist (List.take_sublist _ _) h
 ·exact List.Pairwise.sublist (List.drop_sublist _ _) h
theorem Wl {back:Bool} {es:List Et} {k:Nat} (hs:Srt es) (hk:k < es.length):Fp (Fa back es k) (es.getD (atE back es.length k) et0).1=Fa back es (k+1):=by
 cases back
 ·show Fp (es.drop k) (es.getD k et0).1=es.drop (k+1);have hd:=List.drop_eq_getElem_cons hk;have h2:Srt (es.drop k):=List.Pairwise.sublist (List.drop_sublist _ _) hs;rw [hd] at h2 ⊢;rw [List.getD_eq_getElem?_getD,List.getElem?_eq_getElem hk];exact VP h2
 ·show Fp (es.take (es.length - k)) (es.getD (es.length - 1 - k) et0).1=es.take (es.length - (k+1));have e1:es.length - k=(es.length - (k+1))+1:=by omega
  have e2:es.length - 1 - k=es.length - (k+1):=by omega
  have hl:es.length - (k+1) < es.length:=by omega
  have ht:es.take (es.length - k)=es.take (es.length - (k+1))++[es.getD (es.length - (k+1)) et0]:=by rw [e1,DK (d:=et0) hl]
  have h2:Srt (es.take (es.length - k)):=List.Pairwise.sublist (List.take_sublist _ _) hs;rw [ht] at h2 ⊢;rw [e2];exact VO h2
theorem bP {back:Bool} {es:List Et} {k:Nat} (hs:Srt es) (hk:k < es.length):pgK (Fa back es k) (es.getD (atE back es.length k) et0).1=(es.getD (atE back es.length k) et0).2/\∃ x∈Fa back es k,plK x.1=plK (es.getD (atE back es.length k) et0).1:=by
 have key:∃ i,i < (Fa back es k).length/\(Fa back es k).getD i et0=es.getD (atE back es.length k) et0:=by
  cases back
  ·refine ⟨0,by show 0 < (es.drop k).length;rw [List.length_drop];omega,?_⟩;show (es.drop k).getD 0 et0=es.getD k et0;rw [List.getD_eq_getElem?_getD,List.getElem?_drop,List.getD_eq_getElem?_getD];rfl
  ·refine ⟨es.length - 1 - k,by show _ < (es.take (es.length - k)).length;rw [List.length_take];omega,?_⟩;show (es.take (es.length - k)).getD _ et0=es.getD (es.length - 1 - k) et0;rw [List.getD_eq_getElem?_getD,List.getElem?_take_of_lt (by omega),List.getD_eq_getElem?_getD]
 obtain ⟨i,hi,he⟩:=key;rw [<- he];refine ⟨aZ (Wn hs) hi,_,CX hi,rfl⟩
theorem YF {back:Bool} {es:List Et}:Fa back es es.length=[]:=by
 unfold Fa;split
 ·rw [Nat.sub_self];rfl
 ·exact List.drop_length
theorem Tt {back:Bool} {es:List Et}:Fa back es 0=es:=by
 unfold Fa;split
 ·rw [Nat.sub_zero,List.take_length]
 ·rfl
theorem TrG.nil_of {t:TrG} (h:t.ok) (he:t.en=[]):t=.nil:=by
 cases t with
 | nil=>rfl
 | mk D s=>exact absurd he (MC D s h)
theorem Xa (es:List Et) (f g:Et->Bool) (h:∀ x,f x=true->g x=true->False):(es.filter f).length+(es.filter g).length<=es.length:=by
 induction es with
 | nil=>exact Nat.le_refl _
 | cons a r ih=>
  rw [List.filter_cons,List.filter_cons];cases hf:f a<;>cases hg:g a
  iterate 3
   ·simp;omega
  ·exact (h a hf hg).elim
theorem YN (es:List Et) (e:Et):(FU es e).length<=es.length+1:=by
 unfold FU;have h:=Xa es (fun x=>decide (plK x.1 < plK e.1)) (fun x=>decide (plK e.1 < plK x.1)) (fun x h1 h2=>by
  have h1:=of_decide_eq_true h1;have h2:=of_decide_eq_true h2;omega)
 simp only [List.length_append,List.length_cons,List.length_nil];omega
theorem Yb {es:List Et} (hok:∀ x∈es,okE x=true) (h2:∀ x∈es,x.1.1<=2):Pv es (0,0) (15,65535)=es:=by
 unfold Pv Ya;rw [List.take_length];refine Ce fun x hx=>?_;have h1:=okK_iff.1 (Bj (hok x hx));have h3:=h2 x hx;unfold plK;simp only [Bool.and_eq_true,decide_eq_true_eq];omega
end Go.Inc
namespace Go.Proofs.YtfhdojnobmfefaaGreatDoor
open Go.RowKit Go.Inc
set_option maxRecDepth 20000 in
set_option maxHeartbeats 16000000 in
theorem Og (P:PCx) (x y:Int) (back:Bool) (w:World) (ht:Tab w) (h0:0 < w.heap.size) (_hx:-9223372036854775808<=x/\x<=9223372036854775807) (_hy:-9223372036854775808<=y/\y<=9223372036854775807) :
  Calls Tryz.prog 5 #[.int .i64 x,.int .i64 y,.bool back] w fun e w'=>e=.returned (.bool true)/\Below w.heap.size w w':=by
 have HFR:=hid (OT P 120 w (by decide) (by decide) ht);have HP:=hid P;have HT:=hid ht;have H0:=hid h0;obtain ⟨N,hN⟩:∃ N:Nat,(IntKind.u64.wrap x).tmod 300=(N:Int):=⟨((IntKind.u64.wrap x).tmod 300).toNat,by
  rw [Int.toNat_of_nonneg];exact Int.tmod_nonneg _ (by rw [IntKind.wrap_u64];omega)⟩
 have hN300:(N:Int) < 300:=by rw [<- hN];exact Int.tmod_lt_of_pos _ (by decide)
 obtain ⟨Q,hQ⟩:∃ Q:Nat,(IntKind.u64.wrap y).tmod 1000=(Q:Int):=⟨((IntKind.u64.wrap y).tmod 1000).toNat,by
  rw [Int.toNat_of_nonneg];exact Int.tmod_nonneg _ (by rw [IntKind.wrap_u64];omega)⟩
 have hQ1000:(Q:Int) < 1000:=by rw [<- hQ];exact Int.tmod_lt_of_pos _ (by decide)
 obtain ⟨T,hT⟩:∃ T:Nat,(1:Int)+(Q:Int)=(T:Int):=⟨1+Q,by push_cast;rfl⟩
 have hT1000:(T:Int)<=1000:=by omega
 clear P ht h0
 go_enter Tryz.func5,Tryz.ntmps5
 go_wp2_with fail
 refine HFR.out.mono ?_;clear HFR hN hQ hT hQ1000;rintro e w1 ⟨⟨C,K,gd,pa,tp,v1,v2,v3,rfl,hf⟩,hb⟩;have HF:=hid hf;have HB:=hid hb;have hl120:(Ji 120 []).length=120:=by unfold Ji;rw [Ci,CO]
 have hno0:RQ (Ji 120 []):=fun i=>by
  by_cases hi:i < 120
  ·rw [PK hi];split<;>decide
  ·rw [Ku (by omega)];decide
 obtain ⟨F0,hF0⟩:∃ F0,F0=(Az isF (Ji 120 [])).length:=⟨_,rfl⟩
 have HF0:Hid (F0=118):=hid (by
  have:=Ew hf.al.ks hno0 hf.nodup hf.used;rw [hl120] at this;rw [hF0];show CE (Ji 120 [])=118;simp at this;omega)
 have HA:=hid (EK hf.al.al hf.al.ks hf.al.tab);rw [<- hF0] at HA;have HN0:=hid hno0;clear hf hb hl120 hno0 hF0
 go_wp2_with fail
 refine HA.out.mono ?_;clear HA;rintro e w2 ⟨rfl,hb2⟩;have HF2:=hid (HF.out.below hb2);have HB2:Hid (Below w.heap.size w w2):=hid (HB.out.trans (hb2.mono HB.out.size));clear hb2 HF HB
 go_wp2_with fail
 go_loopw [11] (fun i wr=>∃ (k:Nat) (C':Nat->Nat) (n':Nat) (S':St) (root':Nat) (t':TrG) (ns':List Nat) (b':Nat) (u1 u2 u3:Value) (ks':List Nat),k<=N/\i=.int .i64 (k:Int)/\CwF C' K w wr tp gd pa 120 n' S' root' 1 t' ns' b' u1 u2 u3 ks'/\b'<=40 * k/\RQ ks'/\Below w.heap.size w wr/\t'.few k/\(∀ e∈t'.en,e.1.1<=2)/\t'.en.length<=k/\(0 < k->t'.en≠[])) (fun i _=>N - (intOf i).toNat)
 case atStart=>exact ⟨0,C,0,_,0,.nil,[],0,v1,v2,v3,_,Nat.zero_le _,rfl,HF2.out,Nat.le_refl _,HN0.out,HB2.out,trivial,(fun e he=>by cases he),Nat.le_refl _,fun h=>absurd h (by decide)⟩
 case round=>
  clear HF2 HN0 HB2;obtain ⟨k,C',n',S',root',t',ns',b',u1,u2,u3,ks',hk,rfl,hf,hb',hno,hbr,hfew,hsec,hlen,hne⟩:=hrel;have HF:=hid hf;have HNO:=hid hno;have HBR:=hid hbr;have HBB:=hid hb';have HFEW:=hid (And.intro hfew (And.intro hsec (And.intro hlen hne)));clear hf hno hbr hb' hfew hsec hlen hne;by_cases hlt:(k:Int) < N
  ·obtain ⟨r,hr⟩:∃ r:Nat,(k:Int) % 3=(r:Int):=⟨k % 3,by omega⟩
   have hr2:Int.tmod (k:Int) 3=(r:Int):=by rw [Int.tmod_eq_emod_of_nonneg (by omega)];exact hr
   have hr3:(r:Int) < 3:=by omega
   obtain ⟨M,hM⟩:∃ M:Nat,(k:Int) * (T:Int)=(M:Int):=⟨k * T,by push_cast;rfl⟩
   have hMb:(M:Int)<=300000:=by
    rw [<- hM];have h1:(k:Int) * (T:Int)<=300 * 1000:=Int.mul_le_mul (by omega) (by omega) (by omega) (by omega);omega
   obtain ⟨q,hq⟩:∃ q:Nat,(M:Int) % 65536=(q:Int):=⟨M % 65536,by omega⟩
   have hq2:Int.tmod (M:Int) 65536=(q:Int):=by rw [Int.tmod_eq_emod_of_nonneg (by omega)];exact hq
   have hq3:(q:Int) < 65536:=by omega
   have hokE:okE (((r:Int),(q:Int)),2+(k:Int))=true:=okE_iff.2 ⟨⟨by show (0:Int)<=(r:Int);omega,by show (r:Int) < 16;omega,by show (0:Int)<=(q:Int);omega,by show (q:Int) < 65536;omega⟩,by show (1:Int) < 2+(k:Int);omega,by show 2+(k:Int) < 2048;omega⟩;obtain ⟨wb,hwb⟩:∃ wb,wb=wr.alloc (.cells #[.int .i64 (r:Int),.int .i64 (q:Int)] 42):=⟨_,rfl⟩
   obtain ⟨gb,hgb⟩:∃ gb,gb=wr.heap.size:=⟨_,rfl⟩
   have hbb:Below wr.heap.size wr wb:=by rw [hwb];exact Ad wr _
   have hxb:wb.heap[gb]?=some (.cells #[.int .i64 (r:Int),.int .i64 (q:Int)] 42 (0,0)):=by rw [hwb,hgb];exact heap_alloc_new wr _
   have HFB:=hid (HF.out.below hbb);have HBRB:Hid (Below w.heap.size w wb):=hid (HBR.out.trans (hbb.mono HBR.out.size));have hdp:=Np HFEW.out.1 3 (by rw [Na];omega);have hcn:=Vf HFEW.out.1;have hfree:=Ew HF.out.al.ks HNO.out HF.out.nodup HF.out.used;have hns:=HF.out.r.is.len;have hkl:=HF.out.kl;have HFREE:Hid (¬ CE ks' < 2 * t'.deep+1):=hid (by omega);have HPUT:=hid (dS C' K w wb tp gd pa 120 n' S' root' 1 t' ns' b' u1 u2 u3 ks' (r:Int) (q:Int) (2+(k:Int)) HFB.out (by have:=HBB.out;omega) (by omega) (by omega) H0.out);have HOKE:=hid hokE;have HR3:=hid hr3;have HWB:=hid hwb;have HGB:=hid hgb;have hc0:wb.cell? ⟨gb,0,none⟩=some (.int .i64 (r:Int)):=coR hxb;have hc1:wb.cell? ⟨gb,1,none⟩=some (.int .i64 (q:Int)):=coR hxb;clear hokE hbb hdp hcn hfree hns hkl hwb hgb hxb HF HBR
   go_upto_region 10 with fail
   clear hr hr2 hM hMb hq hq2;rw [<- HWB.out,<- HGB.out]
   go_wp2_with fail
   refine HPUT.out.mono ?_;clear HPUT hc0 hc1;rintro e w3 ⟨had,er,rfl,(⟨h,-⟩ | ⟨-,-,h,-⟩ | ⟨-,rfl,-,C2,n2,S2,root2,t2,ns2,x1,x2,x3,ks2,hf2,hext,hks2,-,hcol,hm2⟩)⟩
   ·exact absurd (h.symm.trans HOKE.out) (by decide)
   ·exact absurd h HFREE.out
   ·have HF3:=hid hf2;have HNO2:=hid (hks2.no24 HNO.out hf2.al.ks);have HB3:Hid (Below w.heap.size w w3):=hid (HBRB.out.trans (hm2.below HBRB.out.size (Trn.low HFB.out)));have HEN:Hid (t2.en=FU t'.en (((r:Int),(q:Int)),2+(k:Int))):=hid (hcol.en.trans (TrG.put_en HFB.out.r.good (Bj HOKE.out)));have HFEW2:Hid (t2.few (k+1)/\(∀ e∈t2.en,e.1.1<=2)/\t2.en.length<=k+1/\(0 < k+1->t2.en≠[])):=hid (by
     refine ⟨hcol.few (TrG.put_few HFB.out.r.good.1 HFEW.out.1),?_,?_,fun _=>?_⟩
     ·rw [HEN.out];intro e he;rcases QR he with rfl | he
      ·show (r:Int)<=2;have:=HR3.out;omega
      ·exact HFEW.out.2.1 e he
     ·rw [HEN.out];have:=YN t'.en (((r:Int),(q:Int)),2+(k:Int));have:=HFEW.out.2.2.1;omega
     ·rw [HEN.out];unfold FU;simp)
    clear hf2 hext hks2 hm2 hcol HFB HNO HBRB HFREE HOKE HFEW HEN HR3 HWB HGB hr3 hq3
    go_wp2_with fail
    go_roundw
    case rel=>exact ⟨k+1,C2,n2,S2,root2,_,ns2,b'+40,x1,x2,x3,ks2,by omega,by go_num,HF3.out,by have:=HBB.out;omega,HNO2.out,HB3.out,HFEW2.out.1,HFEW2.out.2.1,HFEW2.out.2.2.1,HFEW2.out.2.2.2⟩
    case measure=>simp [intOf];omega
  ·have hkN:k=N:=by omega
   subst hkN;clear hlt hk
   go_wp2_with fail
   refine (Wp _).mono ?_;rintro e w3 ⟨rfl,hb3⟩;have HF3:=hid (HF.out.below hb3);have HB3:Hid (Below w.heap.size w w3):=hid (HBR.out.trans (hb3.mono HBR.out.size));clear hb3 HF HBR
   go_wp2_with fail
   refine (PQ _).mono ?_;rintro e w4 ⟨rfl,hb4⟩;have HF4:=hid (HF3.out.below hb4);have HB4:Hid (Below w.heap.size w w4):=hid (HB3.out.trans (hb4.mono HB3.out.size));have HRN:=hid (bg C' w4 tp gd pa 120 n' S' root' 1 t' ns' b' 0 0 15 65535 HF4.out.r (by have:=HBB.out;omega));clear hb4 HF3 HB3
   go_wp2_with fail
   refine HRN.out.mono ?_;clear HRN;rintro e w5 ⟨⟨v,er,rfl,hgood,-⟩,⟨r',hr'⟩,hm⟩;obtain ⟨rfl,hv⟩:=hgood ⟨by decide,by decide⟩;rw [Yb HF4.out.r.good.2.2 HFEW.out.2.1] at hv;obtain ⟨a,c,rfl,-,hes,-⟩:=Dk hv;obtain ⟨M,hM⟩:∃ M,M=t'.en.length:=⟨_,rfl⟩
   rw [<- hM];have hM300:(M:Int) < 300:=by have:=HFEW.out.2.2.1;omega
   have HM:=hid hM;have HES:Hid (EtS (fun i=>¬ Trn C' K tp i) w5 a t'.en):=hid (hes.mono fun i hi _=>by
    rintro (hc | hc | rfl)
    ·exact hc (HF4.out.r.dv.new hi)
    ·exact hc (HF4.out.al.far hi)
    ·have:=Aj HF4.out.r.tc;omega)
   have HF5:=hid (CwF.read HF4.out hr' hm H0.out);have HB5:Hid (Below w.heap.size w w5):=hid (HB4.out.trans (hm.below HB4.out.size fun i hi=>HF4.out.lowC i hi));have HDP:=hid (bi C' w5 tp gd pa 120 n' _ root' 1 t' ns' (b'+3000) HF5.out.r (by have:=HBB.out;omega));clear hgood hr' hm hv hes hM HF4 HB4
   go_wp2_with fail
   refine HDP.out.mono ?_;clear HDP;rintro e w6 ⟨rfl,⟨r6,hr6⟩,hm6⟩;have HF6:=hid (CwF.read HF5.out hr6 hm6 H0.out);have HB6:Hid (Below w.heap.size w w6):=hid (HB5.out.trans (hm6.below HB5.out.size fun i hi=>HF5.out.lowC i hi));have HES6:Hid (EtS (fun i=>¬ Trn C' K tp i) w6 a t'.en):=hid (HES.out.kept fun i hi hlt=>hm6.block i hlt fun hf=>hi (.inl hf));have hdp:=Np HFEW.out.1 3 (by rw [Na];omega);have hnil:k=0->t'.deep=0:=fun e=>by
    have h1:t'.en=[]:=List.eq_nil_of_length_eq_zero (by have:=HFEW.out.2.2.1;omega);rw [TrG.nil_of HF6.out.r.good.1 h1];rfl
   have hpos:0 < k->0 < t'.deep:=fun e=>by
    have h1:=HFEW.out.2.2.2 e;cases t' with
    | nil=>exact absurd rfl h1
    | mk D s=>exact Nat.succ_pos _
   obtain ⟨dp,hdp2⟩:∃ dp,dp=t'.deep:=⟨_,rfl⟩
   rw [<- hdp2] at hdp hnil hpos ⊢;have hd4:((dp:Int)<=4):=by omega
   have HWH:=hid (Vz HP.out HF6.out (by have:=HBB.out;omega) H0.out);clear hr6 hm6 HF5 HB5 HES hdp2;have hkd:(k=0)=(dp=0):=propext ⟨hnil,fun h=>Nat.eq_zero_of_not_pos fun h2=>by have:=hpos h2;omega⟩;have hbk:((k:Int) == 0)=((dp:Int) == 0):=by
    by_cases hz:k=0
    ·rw [hz,hnil hz]
    ·have:=hpos (by omega);rw [beq_eq_false_iff_ne.2 (by omega),beq_eq_false_iff_ne.2 (by omega)]
   clear hnil hpos
   go_wp2_with fail
   refine HWH.out.mono ?_;clear HWH;rintro e w7 ⟨rfl,⟨r7,hr7⟩,hm7⟩;have HF7:=hid hr7;have HB7:Hid (Below w.heap.size w w7):=hid (HB6.out.trans (hm7.below HB6.out.size fun i hi=>HF6.out.lowC i hi));have HES7:Hid (EtS (fun i=>¬ Trn C' K tp i) w7 a t'.en):=hid (HES6.out.kept fun i hi hlt=>hm7.block i hlt fun hf=>hi (.inl hf));obtain ⟨E,hE⟩:∃ E,E=t'.en:=⟨_,rfl⟩
   have HE:Hid (Srt E/\(∀ x∈E,okE x=true)/\M=E.length/\E.length<=k):=hid (by rw [hE];exact ⟨HF7.out.r.good.2.1,HF7.out.r.good.2.2,HM.out,HFEW.out.2.2.1⟩);have HEN:Hid (t'.en=Fa back E 0):=hid (by rw [Tt,hE]);rw [<- hE] at HES7;have HFW:Hid (t'.few k):=hid HFEW.out.1;clear hr7 hm7 hE hdp HF6 HB6 HES6 HFEW
   go_wp2_with fail
   go_loopw [19] (fun i wr=>∃ (k2:Nat) (C2:Nat->Nat) (n2:Nat) (S2:St) (root2:Nat) (t2:TrG) (ns2:List Nat) (b2:Nat) (x1 x2 x3:Value) (ks2:List Nat),k2<=M/\i=.int .i64 (k2:Int)/\CwF C2 K w wr tp gd pa 120 n2 S2 root2 1 t2 ns2 b2 x1 x2 x3 ks2/\b2<=20000+80 * k2/\RQ ks2/\Below w.heap.size w wr/\EtS (fun i=>¬ Trn C2 K tp i) wr a E/\t2.few k/\t2.en=Fa back E k2) (fun i _=>M - (intOf i).toNat)
   case atStart=>exact ⟨0,C',n',_,root',t',ns',_,u1,u2,u3,ks',Nat.zero_le _,rfl,HF7.out,by have:=HBB.out;omega,HNO.out,HB7.out,HES7.out,HFW.out,HEN.out⟩
   case round=>
    clear HF7 HB7 HES7 HEN HFW HNO HBB HM hd4 hkd hbk;obtain ⟨k2,C2,n2,S2,root2,t2,ns2,b2,x1,x2,x3,ks2,hk2,rfl,hf,hb2,hno,hbr,hes,hfew,hen⟩:=hrel;have HF:=hid hf;have HNO:=hid hno;have HBR:=hid hbr;have HBB:=hid hb2;have HES:=hid hes;have HFEW:=hid (And.intro hfew hen);clear hf hno hbr hb2 hes hfew hen;by_cases hlt:(k2:Int) < M
    ·have hkE:k2 < E.length:=by have:=HE.out.2.2.1;omega
     have hdp:=Np HFEW.out.1 3 (by rw [Na];omega);have hcn:=Vf HFEW.out.1;have hfree:=Ew HF.out.al.ks HNO.out HF.out.nodup HF.out.used;have hns:=HF.out.r.is.len;have hkl:=HF.out.kl;have HFREE:Hid (¬ CE ks2 < t2.deep):=hid (by omega);obtain ⟨hat1,hat2⟩:=bP (back:=back) HE.out.1 hkE;rw [<- HFEW.out.2] at hat1 hat2;have hnext:=Wl (back:=back) HE.out.1 hkE;rw [<- HFEW.out.2,<- HE.out.2.2.1] at hnext;rw [<- HE.out.2.2.1] at hat1 hat2;obtain ⟨j,hj⟩:∃ j,j=atE back M k2:=⟨_,rfl⟩
     rw [<- hj] at hat1 hat2 hnext;have hjM:j < M:=by rw [hj];unfold atE;split<;>omega
     have hjE:j < E.length:=by rw [<- HE.out.2.2.1];exact hjM
     obtain ⟨bb,o,rfl,-⟩:=HES.out.cell hjE;have hox:=HE.out.2.1 _ (CX (d:=et0) hjE);have HCELL:Hid (∀ (ok:Nat->Prop) (y:World),EtS ok y (some ⟨bb,o,none⟩) E->y.cell? ⟨bb,o+j * 3,none⟩=some (.int .i64 (E.getD j et0).1.1)/\y.cell? ⟨bb,o+j * 3+1,none⟩=some (.int .i64 (E.getD j et0).1.2)/\y.cell? ⟨bb,o+j * 3+2,none⟩=some (.int .i64 (E.getD j et0).2)):=hid fun ok y hy=>by
      obtain ⟨b',o',e,h⟩:=hy.cell hjE;cases e;exact h
     obtain ⟨⟨⟨s,z⟩,p⟩,hx⟩:∃ x,x=E.getD j et0:=⟨_,rfl⟩
     rw [<- hx] at HCELL hat1 hat2 hnext hox;clear hx hjE;have HOX:=hid hox;have HAT:=hid (And.intro hat1 (And.intro hat2 hnext));have hp0:pgK t2.en (s,z)≠0:=by rw [hat1];have:=(okE_iff.1 hox).2.1;show p≠0;have:(1:Int) < p:=this;omega
     have HP0:=hid hp0;have HGET:=hid (gQ C2 wr tp gd pa 120 n2 S2 root2 1 t2 ns2 b2 s z HF.out.r (by have:=HBB.out;have:=HE.out.2.2;omega));have HBU:Hid (b2+200<=900000):=hid (by have:=HBB.out;have:=HE.out.2.2;omega);have HROOM:Hid (t2.deep<=7/\t2.cnt<=2000):=hid ⟨by omega,by omega⟩;obtain ⟨hc0,hc1,-⟩:=HCELL.out _ wr HES.out;have hjn:(j < M)=True:=eq_true hjM;have hji:(j:Int) < M:=by omega
     clear hkE hdp hcn hfree hns hkl hat1 hat2 hnext hox hp0;cases back
     ·have hjk:k2=j:=hj.symm;subst hjk;clear hj
      go_wp2_with fail
      refine HGET.out.mono ?_;clear HGET hc0 hc1;rintro e w3 ⟨⟨pg,er,rfl,-,-,hg⟩,⟨r3,hr3⟩,hm3⟩;obtain ⟨rfl,rfl⟩:=hg (Bj HOX.out) HP0.out;have HF3:=hid (CwF.read HF.out hr3 hm3 H0.out);have HB3:Hid (Below w.heap.size w w3):=hid (HBR.out.trans (hm3.below HBR.out.size fun i hi=>HF.out.lowC i hi));have HES3:Hid (EtS (fun i=>¬ Trn C2 K tp i) w3 (some ⟨bb,o,none⟩) E):=hid (HES.out.kept fun i hi hl=>hm3.block i hl fun hf=>hi (.inl hf));have HDR:=hid (Yn C2 K w w3 tp gd pa 120 n2 _ root2 1 t2 ns2 (b2+40) x1 x2 x3 ks2 s z HF3.out (by have:=HBU.out;omega) HROOM.out.1 HROOM.out.2 H0.out);obtain ⟨hc0,hc1,-⟩:=HCELL.out _ w3 HES3.out;have hpg:pgK t2.en (s,z)=p:=HAT.out.1;rw [hpg] at HDR ⊢;clear hg hr3 hm3 HF HBR HES hpg
      go_wp2_with fail
      refine HDR.out.mono ?_;clear HDR hc0 hc1;rintro e w4 ⟨had,er,rfl,(⟨h,-⟩ | ⟨-,h,-⟩ | ⟨-,-,-,h,-⟩ | ⟨-,-,rfl,rfl,C4,n4,S4,root4,t4,ns4,y1,y2,y3,ks4,hf4,hext,hks4,-,hcol,hm4⟩)⟩
      ·exact absurd (h.symm.trans (Bj HOX.out)) (by decide)
      ·exact absurd h (by have:(1:Int) < p:=(okE_iff.1 HOX.out).2.1;omega)
      ·exact absurd h HFREE.out
      ·have HF4:=hid hf4;have HNO4:=hid (hks4.no24 HNO.out hf4.al.ks);have HB4:Hid (Below w.heap.size w w4):=hid (HB3.out.trans (hm4.below HB3.out.size (Trn.low HF3.out)));have HES4:Hid (EtS (fun i=>¬ Trn C4 K tp i) w4 (some ⟨bb,o,none⟩) E):=hid ((HES3.out.mono (ok':=fun i=>¬ Trn C4 K tp i/\¬ Trn C2 K tp i) fun i hi hl=>⟨fun hc=>hi (by
        rcases hc with hc | hc
        ·exact .inl (by rw [<- hext i hl];exact hc)
        ·exact .inr hc),hi⟩).kept (fun i hi hl=>hm4.block i hl hi.2) |>.mono fun i hi _=>hi.1)
       have hin:∃ x∈t2.en,plK x.1=plK (s,z):=HAT.out.2.1;have HFEW4:Hid (t4.few k/\t4.en=Fa false E (k2+1)):=hid ⟨hcol.few (TrG.drop_few HF3.out.r.good.1 HFEW.out.1),by rw [hcol.en,TrG.drop_en HF3.out.r.good (Bj HOX.out) hin];exact HAT.out.2.2⟩;obtain ⟨-,-,hc2⟩:=HCELL.out _ w4 HES4.out;clear hf4 hext hks4 hcol hm4 hin HF3 HB3 HES3 HNO HFREE HOX HAT HP0 HROOM HFEW
       go_wp2_with fail
       go_roundw
       case rel=>exact ⟨k2+1,C4,n4,S4,root4,t4,ns4,b2+40+40,y1,y2,y3,ks4,by omega,by go_num,HF4.out,by have:=HBB.out;omega,HNO4.out,HB4.out,HES4.out,HFEW4.out.1,HFEW4.out.2⟩
       case measure=>simp [intOf];omega
     ·have hjk:(M:Int) - 1 - (k2:Int)=(j:Int):=by have:j=M - 1 - k2:=hj;omega
      clear hj
      go_wp2_with fail
      refine HGET.out.mono ?_;clear HGET hc0 hc1;rintro e w3 ⟨⟨pg,er,rfl,-,-,hg⟩,⟨r3,hr3⟩,hm3⟩;obtain ⟨rfl,rfl⟩:=hg (Bj HOX.out) HP0.out;have HF3:=hid (CwF.read HF.out hr3 hm3 H0.out);have HB3:Hid (Below w.heap.size w w3):=hid (HBR.out.trans (hm3.below HBR.out.size fun i hi=>HF.out.lowC i hi));have HES3:Hid (EtS (fun i=>¬ Trn C2 K tp i) w3 (some ⟨bb,o,none⟩) E):=hid (HES.out.kept fun i hi hl=>hm3.block i hl fun hf=>hi (.inl hf));have HDR:=hid (Yn C2 K w w3 tp gd pa 120 n2 _ root2 1 t2 ns2 (b2+40) x1 x2 x3 ks2 s z HF3.out (by have:=HBU.out;omega) HROOM.out.1 HROOM.out.2 H0.out);obtain ⟨hc0,hc1,-⟩:=HCELL.out _ w3 HES3.out;have hpg:pgK t2.en (s,z)=p:=HAT.out.1;rw [hpg] at HDR ⊢;clear hg hr3 hm3 HF HBR HES hpg
      go_wp2_with fail
      refine HDR.out.mono ?_;clear HDR hc0 hc1;rintro e w4 ⟨had,er,rfl,(⟨h,-⟩ | ⟨-,h,-⟩ | ⟨-,-,-,h,-⟩ | ⟨-,-,rfl,rfl,C4,n4,S4,root4,t4,ns4,y1,y2,y3,ks4,hf4,hext,hks4,-,hcol,hm4⟩)⟩
      ·exact absurd (h.symm.trans (Bj HOX.out)) (by decide)
      ·exact absurd h (by have:(1:Int) < p:=(okE_iff.1 HOX.out).2.1;omega)
      ·exact absurd h HFREE.out
      ·have HF4:=hid hf4;have HNO4:=hid (hks4.no24 HNO.out hf4.al.ks);have HB4:Hid (Below w.heap.size w w4):=hid (HB3.out.trans (hm4.below HB3.out.size (Trn.low HF3.out)));have HES4:Hid (EtS (fun i=>¬ Trn C4 K tp i) w4 (some ⟨bb,o,none⟩) E):=hid ((HES3.out.mono (ok':=fun i=>¬ Trn C4 K tp i/\¬ Trn C2 K tp i) fun i hi hl=>⟨fun hc=>hi (by
        rcases hc with hc | hc
        ·exact .inl (by rw [<- hext i hl];exact hc)
        ·exact .inr hc),hi⟩).kept (fun i hi hl=>hm4.block i hl hi.2) |>.mono fun i hi _=>hi.1)
       have hin:∃ x∈t2.en,plK x.1=plK (s,z):=HAT.out.2.1;have HFEW4:Hid (t4.few k/\t4.en=Fa true E (k2+1)):=hid ⟨hcol.few (TrG.drop_few HF3.out.r.good.1 HFEW.out.1),by rw [hcol.en,TrG.drop_en HF3.out.r.good (Bj HOX.out) hin];exact HAT.out.2.2⟩;obtain ⟨-,-,hc2⟩:=HCELL.out _ w4 HES4.out;clear hf4 hext hks4 hcol hm4 hin HF3 HB3 HES3 HNO HFREE HOX HAT HP0 HROOM HFEW
       go_wp2_with fail
       go_roundw
       case rel=>exact ⟨k2+1,C4,n4,S4,root4,t4,ns4,b2+40+40,y1,y2,y3,ks4,by omega,by go_num,HF4.out,by have:=HBB.out;omega,HNO4.out,HB4.out,HES4.out,HFEW4.out.1,HFEW4.out.2⟩
       case measure=>simp [intOf];omega
    ·have hkM:k2=M:=by omega
     have h1:t2.en=[]:=by rw [HFEW.out.2,hkM,HE.out.2.2.1];exact YF
     have h2:=TrG.nil_of HF.out.r.good.1 h1;subst h2;obtain ⟨hr0,hns0⟩:=HF.out.r.is;have hfree:=Ew HF.out.al.ks HNO.out HF.out.nodup HF.out.used;have hkl:=HF.out.kl;rw [hns0] at hfree;have HFREE:Hid ((Az isF ks2).length=F0):=hid (by show CE ks2=F0;have:=HF0.out;simp at hfree;omega);subst hr0;have hge:(M:Int)<=k2:=by omega
     clear hkM h1 hfree hkl hns0 hk2 hlt HFEW HES HE
     go_wp2_with fail
     refine (QN HP.out wr (HF.out.al.tab) (Nat.lt_of_lt_of_le H0.out HBR.out.size)).mono ?_;rintro e w3 ⟨rfl,hb3⟩;have HF3:=hid (HF.out.below hb3);have HB3:Hid (Below w.heap.size w w3):=hid (HBR.out.trans (hb3.mono HBR.out.size));clear hb3 HF HBR
     go_wp2_with fail
     refine (fA w3 tp gd pa _ _ HF3.out.r.tc).mono ?_;rintro e w4 ⟨rfl,rfl⟩;have HA:=hid (EK HF3.out.al.al HF3.out.al.ks HF3.out.al.tab);rw [HFREE.out] at HA
     go_wp2_with fail
     refine HA.out.mono ?_;rintro e w5 ⟨rfl,hb5⟩;have HB5:Hid (Below w.heap.size w w5):=hid (HB3.out.trans (hb5.mono HB3.out.size));clear hb5 HA HF3 HB3
     go_wp2_with fail
     go_ret
     exact ⟨rfl,HB5.out⟩
end Go.Proofs.YtfhdojnobmfefaaGreatDoor
