/- MADE SMALL. -/
import Derived.Test.YtfhdojnobmfefaaGreatDoorG31
import Derived.Laws.CopyOwn
import Derived.Deep.OwnRows
namespace Go.Inc
open Go.RowKit
theorem Pi {α:Type} {L cs:List α} {off n:Nat} (h1:off+cs.length<=n) (h2:n<=L.length):(splice L off cs).take n=splice (L.take n) off cs:=by
 have e1:min off L.length=off:=by omega
 have e2:min n L.length=n:=by omega
 have e3:min off n=off:=by omega
 unfold splice;apply List.ext_getElem?;intro i;simp only [List.getElem?_take,List.getElem?_append,List.length_take,List.getElem?_drop,e1,e2,e3];by_cases hi:i < n
 ·by_cases ho:i < off
  ·simp [hi,ho]
  ·by_cases hc:i - off < cs.length
   ·simp [hi,ho,hc]
   ·have h6:off+cs.length+(i - off - cs.length) < n:=by omega
    simp [hi,ho,hc,h6]
 ·have h4:¬ i < off:=by omega
  have h5:¬ i - off < cs.length:=by omega
  have h6:¬ off+cs.length+(i - off - cs.length) < n:=by omega
  simp [hi,h4,h5,h6]
theorem JZ {P:Program} {w:World} {ops:Array Oper} {rest:List Oper} {o:Oper} {a:Act} {Q:Exit->Act->World->Prop} (hgd:o.guard=none) (d s:Operand) (dT sT:TypeId)
  (ho:o.op=.call {callee:=.builtin .copy,args:=#[d,s],argTypes:=#[dT,sT]}) (e:TypeId) (hu:P.underlying dT=some (.slice e)) (hsz:(P.info? e).map (·.size)=some 1)
  (base g n c:Nat) (xs:List Value) (hown:w.ownsRow base e 1 (.slice (some ⟨g,0,none⟩) n c) n xs) (off dLen dCap:Nat) (hd:a.eval d=.slice (some ⟨g,off,none⟩) dLen dCap)
  (ad:Addr) (sLen sCap:Nat) (hs:a.eval s=.slice (some ad) sLen sCap) (cs:List Value) (hn:cs.length=Nat.min sLen dLen) (hsrc:∀ j v,cs[j]?=some v->w.cell? (ad.add j)=some v) (hfit:off+cs.length<=n) (h1:∀ v∈cs,v.oneCell'=true)
  (h:∀ w',w'.ownsRow base e 1 (.slice (some ⟨g,0,none⟩) n c) n (splice xs off cs)->w.grownBy w' (some g)->wpList P ops Q rest (a.put o.dst (goInt cs.length)) w'):wpList P ops Q (o::rest) a w:=by
 rcases hown.2 with ⟨h0,_⟩ | ⟨g',cap,cur,hv,hb,hg,hnc,hm,hcs,ht⟩
 ·cases h0
 ·simp only [Value.slice.injEq,Option.some.injEq,Addr.mk.injEq,and_true,true_and] at hv;obtain ⟨rfl,rfl⟩:=hv;have hxl:=hown.1;have hcur:cur.toList.length=c:=by simpa using hcs
  refine wpList_copy_own hgd d s dT sT ho e hu hsz g off dLen dCap ad sLen sCap hd hs cur e hg cs hn hsrc (by simp at hcur;omega) h1 (h _ ?_ ?_)
  ·refine ⟨by simp [splice];omega,.inr ⟨g,c,_,rfl,hb,setRow_heap w g cur _ e _ hg,hnc,hm,by simp;simp at hcur;omega,?_⟩⟩;rw [<- ht];simp only [Nat.mul_one] at ht ⊢;exact Pi hfit (by omega)
  ·exact ⟨rfl,rfl,rfl,by simp,fun k _ hk=>setRow_other w g k _ (by rintro rfl;exact hk rfl)⟩
end Go.Inc
namespace Go.Proofs.YtfhdojnobmfefaaGreatDoor
open Go.RowKit Go.Inc
theorem ZA {x:World} {g nw size:Nat} (hr:x.ownsRow g 24 1 (.slice (some ⟨g,0,none⟩) nw nw) nw (D5 (List.replicate nw 0))) (hg:g < x.heap.size) (h1:1<=size) (h2:size<=2048) (hn:nw=(size+63) / 64) :
  BmAt (x.alloc (.cells #[.int .i64 (size:Int),.slice (some ⟨g,0,none⟩) nw nw] 188)) x.heap.size g nw size (List.replicate nw 0):=by
 have hrow:(x.alloc (.cells #[.int .i64 (size:Int),.slice (some ⟨g,0,none⟩) nw nw] 188)).heap[x.heap.size]?=some (.cells #[.int .i64 (size:Int),.slice (some ⟨g,0,none⟩) nw nw] 188 (0,0)):=heap_alloc_new x _;have hb:Below x.heap.size x (x.alloc (.cells #[.int .i64 (size:Int),.slice (some ⟨g,0,none⟩) nw nw] 188)):=(Below.refl _ _).alloc (Nat.le_refl _) _;exact ⟨cell_of_row _ _ 0 _ _ _ hrow,by rw [List.length_replicate];exact cell_of_row _ _ 1 _ _ _ hrow,by
  rw [List.length_replicate];exact Ag (F:=fun _=>False) hr (Mv.of_below hb) (fun _ _=>id),by omega,h1,h2,by rw [List.length_replicate];exact hn,fun x hx=>by rw [List.mem_replicate] at hx;omega⟩
theorem SC {α:Type} {L cs:List α} (h:L.length=cs.length):splice L 0 cs=cs:=by
 unfold splice;rw [List.take_zero,List.nil_append,Nat.zero_add,<- h,List.drop_length,List.append_nil]
theorem Zn (w:World):Calls Tryz.prog 119 #[.pointer none] w fun e w'=>e=.returned (.pointer none)/\w=w':=by
 go_enter Tryz.func119,Tryz.ntmps119
 go_wp2_with fail
 go_ret
 exact ⟨rfl,rfl⟩
def Mk9 (B nw:Nat) (x:World) (v:Value):Prop:=∃ g2,v=.slice (some ⟨g2,0,none⟩) nw nw/\B<=g2/\g2 < x.heap.size/\x.ownsRow g2 24 1 (.slice (some ⟨g2,0,none⟩) nw nw) nw (D5 (List.replicate nw 0))
def Mk10 (B nw size:Nat) (x:World) (v:Value):Prop:=∃ g2,v=.agg #[.int .i64 (size:Int),.slice (some ⟨g2,0,none⟩) nw nw]/\B<=g2/\g2 < x.heap.size/\x.ownsRow g2 24 1 (.slice (some ⟨g2,0,none⟩) nw nw) nw (D5 (List.replicate nw 0))
def Mk11 (B nw size:Nat) (x:World) (v:Value):Prop:=∃ b2 g2,v=.pointer (some ⟨b2,0,none⟩)/\B<=b2/\B<=g2/\BmAt x b2 g2 nw size (List.replicate nw 0)
theorem Mk9.kept {B nw:Nat} {x y:World} {v:Value} (h:Mk9 B nw x v) (hg:Grew x y):Mk9 B nw y v:=by
 obtain ⟨g2,h1,h2,h3,h4⟩:=h;exact ⟨g2,h1,h2,Nat.lt_of_lt_of_le h3 hg.size,Ag (F:=fun _=>False) h4 (Mv.of_below hg) (fun _ _=>id)⟩
theorem Mk10.kept {B nw size:Nat} {x y:World} {v:Value} (h:Mk10 B nw size x v) (hg:Grew x y):Mk10 B nw size y v:=by
 obtain ⟨g2,h1,h2,h3,h4⟩:=h;exact ⟨g2,h1,h2,Nat.lt_of_lt_of_le h3 hg.size,Ag (F:=fun _=>False) h4 (Mv.of_below hg) (fun _ _=>id)⟩
theorem Mk11.kept {B nw size:Nat} {x y:World} {v:Value} (h:Mk11 B nw size x v) (hg:Grew x y):Mk11 B nw size y v:=by
 obtain ⟨b2,g2,h1,h2,h3,h4⟩:=h;exact ⟨b2,g2,h1,h2,h3,h4.below hg⟩
def ZV (B:Nat) (w':World) (e:Ending) (size:Nat) (V:List Nat):Prop:=
 ∃ b2 g2 c2,e=.returned (.pointer (some ⟨b2,0,none⟩))/\B<=b2/\B<=g2/\BmAt w' b2 g2 c2 size V
set_option maxRecDepth 20000 in
set_option maxHeartbeats 4000000 in
theorem WX (b g c size:Nat) (V:List Nat) (w:World) (h:BmAt w b g c size V) :
  Calls Tryz.prog 119 #[.pointer (some ⟨b,0,none⟩)] w fun e w'=>ZV w.heap.size w' e size V/\Below w.heap.size w w':=by
 have HAT:=hid h;obtain ⟨nw,hnw⟩:∃ nw,nw=V.length:=⟨_,rfl⟩
 have HNW:=hid hnw;have hn32:(nw:Int)<=32:=by have:=h.wlen;omega
 have HC:Hid (∀ z,Grew w.drew z->z.cell? ⟨b,0,none⟩=some (.int .i64 (size:Int))/\z.cell? ⟨b,1,none⟩=some (.slice (some ⟨g,0,none⟩) nw c)):=hid fun z hz=>by
  have hbz:Below w.heap.size w z:=⟨hz.os,hz.tape,hz.output,hz.size,hz.block⟩
  have h:=HAT.out.below hbz;exact ⟨h.hsz,by rw [hnw];exact h.hw⟩
 have HMK:Hid (∀ x:World,(Instr.makeSlice 186 (.int .i64 (nw:Int)) (.int .i64 (nw:Int))).run Tryz.prog x=.ok (.slice (some ⟨x.heap.size,0,none⟩) nw nw) (x.alloc (.cells (madeCells #[.int .u64 0] nw) 24))):=hid fun x=>
  run_make_row' 186 24 (.int .u64 0) 8 Tryz.underlying186 U9 rfl .i64 .i64 nw (by omega) (by omega) x
 have HZ:Hid (∀ x:World,w.heap.size<=x.heap.size->Mk9 w.heap.size nw (x.alloc (.cells (madeCells #[.int .u64 0] nw) 24)) (.slice (some ⟨x.heap.size,0,none⟩) nw nw)):=hid fun x hx=>
  ⟨x.heap.size,rfl,hx,by simp,by simp [D5],.inr ⟨x.heap.size,nw,_,rfl,Nat.le_refl _,heap_alloc_new x _,Nat.le_refl _,by unfold maxLen;omega,by simp [madeCells],by
   rw [Nat.mul_one,<- U3 nw];apply List.take_of_length_le;simp [madeCells]⟩⟩
 have HBN:Hid (∀ (x:World) (g2:Nat),x.ownsRow g2 24 1 (.slice (some ⟨g2,0,none⟩) nw nw) nw (D5 (List.replicate nw 0))->g2 < x.heap.size->BmAt (x.alloc (.cells #[.int .i64 (size:Int),.slice (some ⟨g2,0,none⟩) nw nw] 188)) x.heap.size g2 nw size (List.replicate nw 0)):=hid fun x g2 hr hg=>ZA hr hg h.s1 h.s2 (by rw [hnw];exact h.len);have HSZ:Hid (∀ x:World,Grew w.drew x->w.heap.size<=x.heap.size):=hid fun x hx=>hx.size;clear h hnw
 go_enter Tryz.func119,Tryz.ntmps119
 go_upto_region 3 with fail
 refine Ai 13 [Ah (.pointer (some ⟨b,0,none⟩)),Ah (.pointer (some ⟨b,0,none⟩)),Ah (.pointer (some ⟨b,0,none⟩)),Ah (.int .i64 (size:Int)),Ah (.pointer (some ⟨b,0,none⟩)),Ah (.pointer (some ⟨b,0,none⟩)),Ah (.pointer (some ⟨b,1,none⟩)),Ah (.slice (some ⟨g,0,none⟩) nw c),Ah (.int .i64 (nw:Int)),Mk9 w.heap.size nw,Mk10 w.heap.size nw size,Mk11 w.heap.size nw size,Mk11 w.heap.size nw size] (by kernel_rfl) (by decide) (by kernel_rfl) ?_ ?_ ?_
 ·repeat' (first | exact List.forall_mem_nil _ | refine List.forall_mem_cons.2 ⟨?_,?_⟩)
  all_goals
   intro w w' v hw h
   first | exact h | exact Mk9.kept h hw | exact Mk10.kept h hw | exact Mk11.kept h hw
 ·simp only [AllLt];refine ⟨⟨⟨⟨⟨⟨⟨⟨⟨⟨⟨⟨⟨trivial,?_⟩,?_⟩,?_⟩,?_⟩,?_⟩,?_⟩,?_⟩,?_⟩,?_⟩,?_⟩,?_⟩,?_⟩,?_⟩
  all_goals
   intro o' ho;simp at ho;subst ho;intro ρ w2 hR hL hS hG;obtain ⟨hl1,hl2,-⟩:=hL
  ·refine Aa rfl ?_;intro bA K Q' hK;have e0:=hS 0 (by kernel_rfl);change ρ (.tmp 0)=_ at e0;simp only [execOp];go_simp;exact hK _ _ rfl (Grew.refl _)
  ·refine Aa rfl ?_;intro bA K Q' hK;have e6:=apG (hG 0 6);change ρ (.tmp 6)=_ at e6;simp only [execOp];go_simp;exact hK _ _ rfl (Grew.refl _)
  ·refine Aa rfl ?_;intro bA K Q' hK;have e7:=apG (hG 1 7);change ρ (.tmp 7)=_ at e7;simp only [execOp];go_simp;exact hK _ _ rfl (Grew.refl _)
  ·refine Aa rfl ?_;intro bA K Q' hK;have e8:=apG (hG 2 8);change ρ (.tmp 8)=_ at e8;obtain ⟨x0,x1⟩:=HC.out w2 hR;simp only [execOp];go_simp;exact hK _ _ rfl (Grew.refl _)
  ·refine Aa rfl ?_;intro bA K Q' hK;have e0:=hS 0 (by kernel_rfl);change ρ (.tmp 0)=_ at e0;simp only [execOp];go_simp;exact hK _ _ rfl (Grew.refl _)
  ·refine Aa rfl ?_;intro bA K Q' hK;have e10:=apG (hG 4 10);change ρ (.tmp 10)=_ at e10;simp only [execOp];go_simp;exact hK _ _ rfl (Grew.refl _)
  ·refine Aa rfl ?_;intro bA K Q' hK;have e11:=apG (hG 5 11);change ρ (.tmp 11)=_ at e11;simp only [execOp];go_simp;exact hK _ _ rfl (Grew.refl _)
  ·refine Aa rfl ?_;intro bA K Q' hK;have e12:=apG (hG 6 12);change ρ (.tmp 12)=_ at e12;obtain ⟨x0,x1⟩:=HC.out w2 hR;simp only [execOp];go_simp;exact hK _ _ rfl (Grew.refl _)
  ·refine Aa rfl ?_;intro bA K Q' hK;have e13:=apG (hG 7 13);change ρ (.tmp 13)=_ at e13;simp only [execOp];go_simp;exact hK _ _ rfl (Grew.refl _)
  ·refine Aa rfl ?_;intro bA K Q' hK;have e14:=apG (hG 8 14);change ρ (.tmp 14)=_ at e14;have hmk:=HMK.out w2;have hz:=HZ.out w2 hR.size;simp only [execOp];go_simp;exact hK _ _ hz ((Grew.refl _).alloc _)
  ·refine Aa rfl ?_;intro bA K Q' hK;have e9:=apG (hG 3 9);have e15:=apG (hG 9 15);change ρ (.tmp 9)=_ at e9;obtain ⟨g2,q1,q2,q3,q4⟩:=e15;change ρ (.tmp 15)=_ at q1;simp only [execOp];go_simp;exact hK _ _ ⟨g2,rfl,q2,q3,q4⟩ (Grew.refl _)
  ·refine Aa rfl ?_;intro bA K Q' hK;have e16:=apG (hG 10 16);obtain ⟨g2,q1,q2,q3,q4⟩:=e16;change ρ (.tmp 16)=_ at q1;have hnew:=HBN.out w2 g2 q4 q3;have hsz2:=HSZ.out w2 hR;simp only [execOp];go_simp;exact hK _ _ ⟨_,g2,rfl,hsz2,q2,hnew⟩ ((Grew.refl _).alloc _)
  ·refine Aa rfl ?_;intro bA K Q' hK;have e17:=apG (hG 11 17);obtain ⟨b2,g2,q1,q2,q3,q4⟩:=e17;change ρ (.tmp 17)=_ at q1;simp only [execOp];go_simp;exact hK _ _ ⟨b2,g2,rfl,q2,q3,q4⟩ (Grew.refl _)
 ·intro v w3 hR hG;obtain ⟨b2,g2,h12,hb2,hg2,hat2⟩:=hG.2;have hbz:Below w.heap.size w w3:=⟨hR.os,hR.tape,hR.output,hR.size,hR.block⟩
  have HB3:=hid hbz;have HAT2:=hid hat2;have HAT1:=hid (HAT.out.below hbz);have hbb2:(b:Int) < b2:=by have:=HAT.out.blt;omega
  have hgg2:g < w.heap.size:=HAT.out.glt;have HC2:Hid (∀ z,Grew w3.drew z->z.cell? ⟨b2,1,none⟩=some (.slice (some ⟨g2,0,none⟩) nw nw)/\z.cell? ⟨b,1,none⟩=some (.slice (some ⟨g,0,none⟩) nw c)):=hid fun z hz=>by
   have hbz:Below w3.heap.size w3 z:=⟨hz.os,hz.tape,hz.output,hz.size,hz.block⟩
   have h2:=(HAT2.out.below hbz).hw;rw [List.length_replicate] at h2;exact ⟨h2,by rw [HNW.out];exact (HAT1.out.below hbz).hw⟩
  clear hG hR HC HMK HZ HBN HSZ hbz hat2;simp [stG,stU,Au,Act.put,h12]
  go_upto_region 4 with fail
  refine Ai 8 [Ah (.pointer (some ⟨b2,0,none⟩)),Ah (.pointer (some ⟨b2,0,none⟩)),Ah (.pointer (some ⟨b2,1,none⟩)),Ah (.slice (some ⟨g2,0,none⟩) nw nw),Ah (.pointer (some ⟨b,0,none⟩)),Ah (.pointer (some ⟨b,0,none⟩)),Ah (.pointer (some ⟨b,1,none⟩)),Ah (.slice (some ⟨g,0,none⟩) nw c)] (by kernel_rfl) (by decide) (by kernel_rfl) ?_ ?_ ?_
  ·repeat' (first | exact List.forall_mem_nil _ | refine List.forall_mem_cons.2 ⟨?_,?_⟩)
   all_goals
    intro w w' v hw h
    first | exact h | exact Mk9.kept h hw | exact Mk10.kept h hw | exact Mk11.kept h hw
  ·simp only [AllLt];refine ⟨⟨⟨⟨⟨⟨⟨⟨trivial,?_⟩,?_⟩,?_⟩,?_⟩,?_⟩,?_⟩,?_⟩,?_⟩
   all_goals
    intro o' ho;simp at ho;subst ho;intro ρ w2 hR hL hS hG;obtain ⟨hl1,hl2,-⟩:=hL
   ·refine Aa rfl ?_;intro bA K Q' hK;have e3:=hS 3 (by kernel_rfl);change ρ (.tmp 3)=_ at e3;simp only [execOp];go_simp;exact hK _ _ rfl (Grew.refl _)
   ·refine Aa rfl ?_;intro bA K Q' hK;have e18:=apG (hG 0 18);change ρ (.tmp 18)=_ at e18;simp only [execOp];go_simp;exact hK _ _ rfl (Grew.refl _)
   ·refine Aa rfl ?_;intro bA K Q' hK;have e19:=apG (hG 1 19);change ρ (.tmp 19)=_ at e19;simp only [execOp];go_simp;exact hK _ _ rfl (Grew.refl _)
   ·refine Aa rfl ?_;intro bA K Q' hK;have e20:=apG (hG 2 20);change ρ (.tmp 20)=_ at e20;obtain ⟨x0,x1⟩:=HC2.out w2 hR;simp only [execOp];go_simp;exact hK _ _ rfl (Grew.refl _)
   ·refine Aa rfl ?_;intro bA K Q' hK;have e0:=hS 0 (by kernel_rfl);change ρ (.tmp 0)=_ at e0;simp only [execOp];go_simp;exact hK _ _ rfl (Grew.refl _)
   ·refine Aa rfl ?_;intro bA K Q' hK;have e22:=apG (hG 4 22);change ρ (.tmp 22)=_ at e22;simp only [execOp];go_simp;exact hK _ _ rfl (Grew.refl _)
   ·refine Aa rfl ?_;intro bA K Q' hK;have e23:=apG (hG 5 23);change ρ (.tmp 23)=_ at e23;simp only [execOp];go_simp;exact hK _ _ rfl (Grew.refl _)
   ·refine Aa rfl ?_;intro bA K Q' hK;have e24:=apG (hG 6 24);change ρ (.tmp 24)=_ at e24;obtain ⟨x0,x1⟩:=HC2.out w2 hR;simp only [execOp];go_simp;exact hK _ _ rfl (Grew.refl _)
  ·intro v2 w4 hR hG;have q3:v2 3=.slice (some ⟨g2,0,none⟩) nw nw:=hG.1.1.1.1.2;have q7:v2 7=.slice (some ⟨g,0,none⟩) nw c:=hG.2;have hbz:Below w3.heap.size w3 w4:=⟨hR.os,hR.tape,hR.output,hR.size,hR.block⟩
   have HA2:=hid (HAT2.out.below hbz);have HA1:=hid (HAT1.out.below hbz);have HB4:Hid (Below w.heap.size w w4):=hid (HB3.out.trans (hbz.mono HB3.out.size));clear hG hR HC2 hbz HB3 HAT2 HAT1;simp [stG,stU,Au,Act.put,q3,q7];refine JZ rfl _ _ 186 186 rfl 24 Tryz.underlying186 (by kernel_rfl) g2 g2 nw nw (D5 (List.replicate nw 0)) (by have h:=HA2.out.row;rwa [List.length_replicate] at h) 0 nw nw rfl ⟨g,0,none⟩ nw c rfl (D5 V) (by rw [Gh,<- HNW.out];simp) ?_ (by rw [Gh,<- HNW.out];omega) (Vw V) ?_
   ·intro j u hu;have hj:j < V.length:=by rw [<- Gh];exact (List.getElem?_eq_some_iff.1 hu).1
    rw [JY hj] at hu;cases hu;rw [Addr.add_lit,Nat.zero_add];exact HA1.out.cell hj
   ·intro w5 hrow hgr;have HB5:Hid (Below w.heap.size w w5):=hid (HB4.out.trans (Dq hgr hg2 HB4.out.size));have HA5:Hid (BmAt w5 b2 g2 nw size V):=hid (by
     have h:=HA2.out;have hm:Mv (fun i=>i=g2) w4 w5:=Mv.of_grown hgr fun g hg _=>by cases hg;rfl
     rw [SC (by rw [Gh,Gh,List.length_replicate,HNW.out])] at hrow;have hw:=h.hw;rw [List.length_replicate,HNW.out] at hw;rw [HNW.out] at hrow;exact ⟨hm.cell h.hsz (fun e=>h.ne e),by rw [HNW.out];exact hm.cell hw (fun e=>h.ne e),by rw [HNW.out];exact hrow,h.ne,h.s1,h.s2,HA1.out.len,HA1.out.fits⟩)
    clear hrow hgr
    go_wp2_with fail
    go_ret
    exact ⟨⟨b2,g2,nw,rfl,hb2,hg2,HA5.out⟩,HB5.out⟩
end Go.Proofs.YtfhdojnobmfefaaGreatDoor
