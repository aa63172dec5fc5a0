/- MADE SMALL. -/
import Derived.Test.YtfhdojnobmfefaaGreatDoorG25
import Derived.Test.YtfhdojnobmfefaaGreatDoorG10
import Derived.Test.YtfhdojnobmfefaaGreatDoorG17
namespace Go.Inc
open Go.RowKit
theorem CS {P:Program} {fn:Func} {p u:Tmp} {ty:TypeId} (h:fn.results=#[.cell p ty,.tmp u]) (tmps:Array Value) (w:World) (g:Nat) (t:TypeId) (cs:Array Value) (fr:Nat×Nat) (d:TypeDesc)
  (hp:tmps.getD p undef=.pointer (some ⟨g,0,none⟩)) (hg:w.heap[g]?=some (.cells cs t fr))
  (hu:P.underlying ty=some d) (hd:(match d with | .struct _ | .array _ _=>true | _=>false)=true) (hi:(P.info? ty).map (·.size)=some cs.size) :
  (results fn tmps).run P w=.ok (.tuple #[.agg cs,tmps.getD u undef]) w:=by
 rw [results_cell_tmp h,hp];simp only [asAddr,Sem.run_pure,Result.andThen_ok];rw [run_loadVar_row w g t ty cs fr d hg hu hd hi];rfl
end Go.Inc
namespace Go.Proofs.YtfhdojnobmfefaaGreatDoor
open Go.RowKit Go.Inc
end Go.Proofs.YtfhdojnobmfefaaGreatDoor
namespace Go.Inc
open Go.RowKit
def NdOk (w:World) (a:Option Addr) (n c:Nat) (es:List Et):Prop:=
 n=es.length/\EtS (fun _=>True) w a es/\n<=1000/\(∀ e∈es,ET e)/\(n<=c/\c<=maxLen)/\(a=none->c=0)
def NdF (v:Value):Prop:=∃ lf a n c,v=.agg #[.bool lf,.slice a n c]
theorem NdOk.below {w w':World} {a:Option Addr} {n c:Nat} {es:List Et} (h:NdOk w a n c es) (hb:Below w.heap.size w w'):NdOk w' a n c es:=
 ⟨h.1,h.2.1.below hb,h.2.2⟩
theorem NdOk.mono {ok:Nat->Prop} {w:World} {a:Option Addr} {es:List Et} (h:EtS ok w a es):EtS (fun _=>True) w a es:=by
 rcases h with h | ⟨b,o,h1,_,h2⟩
 ·exact .inl h
 ·exact .inr ⟨b,o,h1,trivial,h2⟩
end Go.Inc
namespace Go.Proofs.YtfhdojnobmfefaaGreatDoor
open Go.RowKit Go.Inc
end Go.Proofs.YtfhdojnobmfefaaGreatDoor
namespace Go.Inc
open Go.RowKit
def EtT (E B:Nat) (w:World) (a:Option Addr) (es:List Et):Prop:=
 EtS (fun b=>B<=b/\∃ cs,w.heap[b]?=some (.cells cs E (0,0))) w a es
theorem EtT.ets {E B:Nat} {w:World} {a:Option Addr} {es:List Et} (h:EtT E B w a es):EtS (fun b=>B<=b) w a es:=EtS.mono h fun _ h _=>h.1
theorem EtT.keep {E B:Nat} {w w':World} {a:Option Addr} {es:List Et} (h:EtT E B w a es) (hk:∀ b cs,B<=b->w.heap[b]?=some (.cells cs E (0,0))->w'.heap[b]?=w.heap[b]?):EtT E B w' a es:=by
 have h1:EtS (fun b=>B<=b/\∃ cs,w.heap[b]?=some (.cells cs E (0,0))) w' a es:=EtS.kept h fun b hb _=>by
  obtain ⟨h1,cs,h2⟩:=hb;exact hk b cs h1 h2
 exact EtS.mono h1 fun b hb _=>by
  obtain ⟨h1,cs,h2⟩:=hb;exact ⟨h1,cs,(hk b cs h1 h2).trans h2⟩
theorem EtT.below {E B:Nat} {w w':World} {a:Option Addr} {es:List Et} (h:EtT E B w a es) (hb:Below w.heap.size w w'):EtT E B w' a es:=h.keep fun b _ _ h2=>hb.block b (Aj h2)
theorem EtT.weaken {E B B':Nat} {w:World} {a:Option Addr} {es:List Et} (h:EtT E B w a es) (hb:B'<=B):EtT E B' w a es:=EtS.mono h fun _ h _=>⟨Nat.le_trans hb h.1,h.2⟩
theorem EtT.front {E B:Nat} {w:World} {a:Option Addr} {es:List Et} (h:EtT E B w a es) (k:Nat):EtT E B w a (es.take k):=EtS.front h k
theorem EtT.back {E B:Nat} {w:World} {a:Option Addr} {es:List Et} (h:EtT E B w a es) (k:Nat) (a':Option Addr) (ha:k < es.length->a'=a.map fun x=>x.add (k * 3)):EtT E B w a' (es.drop k):=EtS.back h k a' ha
theorem EtT.apart {E B T g:Nat} {w w':World} {a:Option Addr} {es:List Et} {cs:Array Value} {fz:Nat×Nat} (h:EtT E B w a es) (hg:w.grownBy w' (some g)) (hr:w.heap[g]?=some (.cells cs T fz)) (hT:T≠E):EtT E B w' a es:=h.keep fun b cs' _ h2=>hg.block b (Aj h2) fun e=>by
 cases e;rw [hr] at h2;simp only [Option.some.injEq,Obj.cells.injEq] at h2;exact hT h2.2.1
theorem J9 {w:World} {E B n:Nat} {v:Value} {es:List Et} (h:w.ownsRow B E 3 v n (Ak es)):∃ a c,v=.slice a es.length c/\n=es.length/\EtT E B w a es/\es.length<=c/\c<=maxLen/\(a=none->c=0):=by
 obtain ⟨a,c,rfl,hn,h1,h2,h3,h4⟩:=Dk h;refine ⟨a,c,rfl,hn,?_,h2,h3,h4⟩;rcases h.2 with ⟨e,h0⟩ | ⟨g,cap,cur,e,hb,hg,_⟩
 ·rw [hn] at h0;exact .inl (List.eq_nil_of_length_eq_zero h0)
 ·simp only [Value.slice.injEq] at e;obtain ⟨rfl,-,-⟩:=e;rcases h1 with h1 | ⟨b,o,e2,h5,h6⟩
  ·exact .inl h1
  ·simp only [Option.some.injEq,Addr.mk.injEq] at e2;obtain ⟨rfl,rfl,-⟩:=e2;exact .inr ⟨_,_,rfl,⟨h5,cur,hg⟩,h6⟩
def NdW (E B:Nat) (w:World) (v:Value) (lf:Bool) (es:List Et):Prop:=∃ a n c,v=.agg #[.bool lf,.slice a n c]/\NdOk w a n c es/\EtT E B w a es
theorem NodeN.ndw {E B:Nat} {w:World} {v:Value} {lf:Bool} {es:List Et} (h:NodeN E B w v lf es) (hl:es.length<=1000) (hf:∀ e∈es,ET e):NdW E B w v lf es:=by
 obtain ⟨r,rfl,hr⟩:=h;obtain ⟨a,c,rfl,_,h1,h2,h3,h4⟩:=J9 hr;exact ⟨a,es.length,c,rfl,⟨rfl,NdOk.mono h1,hl,hf,⟨h2,h3⟩,h4⟩,h1⟩
theorem Yy (E B:Nat) (w:World):NdW E B w (.agg #[.bool false,.slice none 0 0]) false []:=
 ⟨none,0,0,rfl,⟨rfl,.inl rfl,by decide,(fun e he=>by cases he),⟨Nat.le_refl _,Nat.zero_le _⟩,fun _=>rfl⟩,.inl rfl⟩
theorem NdW.below {E B:Nat} {w w':World} {v:Value} {lf:Bool} {es:List Et} (h:NdW E B w v lf es) (hb:Below w.heap.size w w'):NdW E B w' v lf es:=by
 obtain ⟨a,n,c,h1,h2,h3⟩:=h;exact ⟨a,n,c,h1,h2.below hb,h3.below hb⟩
theorem NdW.weaken {E B B':Nat} {w:World} {v:Value} {lf:Bool} {es:List Et} (h:NdW E B w v lf es) (hb:B'<=B):NdW E B' w v lf es:=by
 obtain ⟨a,n,c,h1,h2,h3⟩:=h;exact ⟨a,n,c,h1,h2,h3.weaken hb⟩
end Go.Inc
namespace Go.Inc
open Go Go.RowKit
def cl {α:Type} (f:α->List Value):List α->List Value
 | []=>[]
 | x::r=>f x++cl f r
section
variable {α:Type} {f:α->List Value} {σ:Nat}
theorem NE (xs ys:List α):cl f (xs++ys)=cl f xs++cl f ys:=by
 induction xs with
 | nil=>rfl
 | cons x r ih=>
  show f x++cl f (r++ys)=(f x++cl f r)++cl f ys;rw [ih,List.append_assoc]
theorem Ui (x:α):cl f [x]=f x:=by unfold cl cl;rw [List.append_nil]
theorem Zo (h:∀ x,(f x).length=σ):∀ (xs:List α) (i j:Nat) (x:α),xs[i]?=some x->j < σ->(cl f xs)[i * σ+j]?=(f x)[j]?
 | [],i,j,x,hx,_=>by simp at hx
 | y::r,0,j,x,hx,hj=>by
  simp only [List.getElem?_cons_zero,Option.some.injEq] at hx;subst hx;unfold cl;rw [Nat.zero_mul,Nat.zero_add,List.getElem?_append_left (by rw [h];exact hj)]
 | y::r,i+1,j,x,hx,hj=>by
  unfold cl;have e:(i+1) * σ+j=σ+(i * σ+j):=by rw [Nat.add_mul];omega
  rw [List.getElem?_append_right (by rw [h,e];omega),h,show (i+1) * σ+j - σ=i * σ+j by rw [e];omega];exact Zo h r i j x (by simpa using hx) hj
theorem GM {w:World} {B E:Nat} {v:Value} {xs:List α} (h:w.ownsRow B E σ v xs.length (cl f xs)) (hf:∀ x,(f x).length=σ) (hn:xs≠[]) :
  ∃ g c,v=.slice (some ⟨g,0,none⟩) xs.length c/\B<=g/\g < w.heap.size/\xs.length<=c/\c<=maxLen/\∀ (i j:Nat) (x:α) (u:Value),xs[i]?=some x->(f x)[j]?=some u->w.cell? ⟨g,i * σ+j,none⟩=some u:=by
 rcases h.2 with ⟨_,h0⟩ | ⟨g,cap,cur,rfl,hb,hg,hnc,hm,hcs,ht⟩
 ·exact absurd (List.eq_nil_of_length_eq_zero h0) hn
 ·refine ⟨g,cap,rfl,hb,Aj hg,hnc,hm,fun i j x u hx hu=>?_⟩;have hj:j < σ:=by rw [<- hf x];exact (List.getElem?_eq_some_iff.1 hu).1
  have h1:(cl f xs)[i * σ+j]?=some u:=by rw [Zo hf xs i j x hx hj];exact hu
  have h2:=h.cells (g:=g) rfl (i * σ+j) u h1;rw [Addr.add_lit] at h2;simpa using h2
theorem AO {w:World} {B E n:Nat} {v:Value} {xs:List Value} (h:w.ownsRow B E σ v n xs):∃ a c,v=.slice a n c/\(a=none->c=0/\n=0)/\n<=c/\c<=maxLen:=by
 rcases h.2 with ⟨rfl,h0⟩ | ⟨g,cap,cur,rfl,hb,hg,hnc,hm,hcs,ht⟩
 ·exact ⟨none,0,by rw [h0],fun _=>⟨rfl,h0⟩,by omega,by unfold maxLen;omega⟩
 ·exact ⟨_,cap,rfl,fun h=>(by cases h),hnc,hm⟩
end
theorem Gx (w:World) (l:List Value) (T:TypeId) (j:Nat) (u:Value) (h:l[j]?=some u):(w.alloc (.cells l.toArray T)).cell? ((⟨w.heap.size,0,none⟩:Addr).add j)=some u:=by
 rw [Addr.add_lit,cell_of_row _ _ _ _ _ _ (heap_alloc_new w _)];simpa using h
structure Nm where
 lf:Bool
 a:Option Addr
 c:Nat
 es:List Et
def Bd (m:Nm):List Value:=[.bool m.lf,.slice m.a m.es.length m.c]
theorem FM (m:Nm):(Bd m).length=2:=rfl
def NmOk (N B:Nat) (w:World) (m:Nm):Prop:=NdOk w m.a m.es.length m.c m.es/\EtT N B w m.a m.es
theorem NmOk.below {N B:Nat} {w w':World} {m:Nm} (h:NmOk N B w m) (hb:Below w.heap.size w w'):NmOk N B w' m:=⟨h.1.below hb,h.2.below hb⟩
theorem NmOk.weaken {N B B':Nat} {w:World} {m:Nm} (h:NmOk N B w m) (hb:B'<=B):NmOk N B' w m:=⟨h.1,h.2.weaken hb⟩
theorem NmOk.keep {N B:Nat} {w w':World} {m:Nm} (h:NmOk N B w m) (hk:∀ b cs,B<=b->w.heap[b]?=some (.cells cs N (0,0))->w'.heap[b]?=w.heap[b]?):NmOk N B w' m:=
 ⟨⟨h.1.1,NdOk.mono (h.2.keep hk).ets,h.1.2.2⟩,h.2.keep hk⟩
theorem NmOk.keepA {N B:Nat} {w w':World} {m:Nm} (h:NmOk N B w m) (hk:∀ b o,m.a=some ⟨b,o,none⟩->w'.heap[b]?=w.heap[b]?):NmOk N B w' m:=by
 have h2:EtT N B w' m.a m.es:=by
  rcases h.2 with h0 | ⟨b,o,e1,⟨e2,cs,e3⟩,e4⟩
  ·exact .inl h0
  ·have hb:=hk b o e1;exact .inr ⟨b,o,e1,⟨e2,cs,hb.trans e3⟩,fun i hi=>⟨(World.cell?_of_block hb).trans (e4 i hi).1,(World.cell?_of_block hb).trans (e4 i hi).2.1,(World.cell?_of_block hb).trans (e4 i hi).2.2⟩⟩
 exact ⟨⟨h.1.1,NdOk.mono h2.ets,h.1.2.2⟩,h2⟩
theorem NmOk.blk {N B:Nat} {w:World} {m:Nm} (h:NmOk N B w m) (hne:m.es≠[]):∀ b o,m.a=some ⟨b,o,none⟩->B<=b/\b < w.heap.size:=fun b o hb=>by
 rcases h.2 with h0 | ⟨b',o',e1,⟨e2,cs,e3⟩,-⟩
 ·exact absurd h0 hne
 ·rw [hb] at e1;simp only [Option.some.injEq,Addr.mk.injEq] at e1;obtain ⟨rfl,-,-⟩:=e1;exact ⟨e2,Aj e3⟩
theorem NmOk.mv {N B:Nat} {F:Nat->Prop} {w w':World} {m:Nm} (h:NmOk N B w m) (hm:Mv F w w') (hF:∀ b,F b->b < w.heap.size->b < B):NmOk N B w' m:=h.keep fun b _ hb h2=>hm.block b (Aj h2) fun hf=>by have:=hF b hf (Aj h2);omega
theorem NmOk.apart {N B T g:Nat} {w w':World} {m:Nm} {cs:Array Value} {fz:Nat×Nat} (h:NmOk N B w m) (hg:w.grownBy w' (some g)) (hr:w.heap[g]?=some (.cells cs T fz)) (hT:T≠N):NmOk N B w' m:=h.keep fun b cs' _ h2=>hg.block b (Aj h2) fun e=>by
 cases e;rw [hr] at h2;simp only [Option.some.injEq,Obj.cells.injEq] at h2;exact hT h2.2.1
theorem Pq {T B s n:Nat} {w w':World} {v:Value} {xs:List Value} (h:w.ownsRow B T s v n xs) (hg:w.grownBy w' v.ownBlock) {b N:Nat} {cs:Array Value} {fz:Nat×Nat} (hb:w.heap[b]?=some (.cells cs N fz)) (hT:T≠N):w'.heap[b]?=w.heap[b]?:=by
 refine hg.block b (Aj hb) fun e=>?_;rcases h.2 with ⟨rfl,_⟩ | ⟨g,cap,cur,rfl,_,hgg,_⟩
 ·cases e
 ·have:g=b:=by simpa [Value.ownBlock] using e.symm
  subst this;rw [hgg] at hb;simp only [Option.some.injEq,Obj.cells.injEq] at hb;exact hT hb.2.1
theorem AB {T B s n:Nat} {w:World} {v:Value} {xs:List Value} (h:w.ownsRow B T s v n xs):∀ j,v.ownBlock=some j->B<=j:=fun j hj=>by
 rcases h.2 with ⟨rfl,_⟩ | ⟨g,cap,cur,rfl,hb,_⟩
 ·cases hj
 ·have:g=j:=by simpa [Value.ownBlock] using hj
  omega
structure Sm4 where
 page:Int
 ix:Int
 nd:Nm
def EG (m:Sm4):List Value:=[.int .i64 m.page,.int .i64 m.ix,.bool m.nd.lf,.slice m.nd.a m.nd.es.length m.nd.c]
theorem KR (m:Sm4):(EG m).length=4:=rfl
def Sm4.stp (m:Sm4):Stp:=⟨m.page,m.ix,m.nd.lf,m.nd.es⟩
structure WayM (E N B:Nat) (w:World) (v:Value) (ms:List Sm4):Prop where
 row:w.ownsRow B E 4 v ms.length (cl EG ms)
 nds:∀ m∈ms,NmOk N B w m.nd
theorem WayM.below {E N B:Nat} {w w':World} {v:Value} {ms:List Sm4} (h:WayM E N B w v ms) (hb:Below w.heap.size w w'):WayM E N B w' v ms:=
 ⟨Ag (F:=fun _=>False) h.row (Mv.of_below hb) fun _ _=>id,fun m hm=>(h.nds m hm).below hb⟩
theorem WayM.weaken {E N B B':Nat} {w:World} {v:Value} {ms:List Sm4} (h:WayM E N B w v ms) (hb:B'<=B):WayM E N B' w v ms:=⟨AV h.row hb,fun m hm=>(h.nds m hm).weaken hb⟩
theorem Md {E s n B:Nat} {F:Nat->Prop} {w w':World} {v:Value} {xs:List Value} (h:w.ownsRow B E s v n xs) (hm:Mv F w w') (hF:∀ b,F b->b < w.heap.size->b < B):w'.ownsRow B E s v n xs:=by
 refine Ag (F:=fun b=>F b/\b < w.heap.size) h ⟨hm.os,hm.tape,hm.output,hm.size,fun i hi hf=>hm.block i hi fun hh=>hf ⟨hh,hi⟩⟩ fun b hb hf=>?_;have h1:=hF b hf.1 hf.2;have:=AB h b hb;omega
theorem WayM.mv {E N B:Nat} {F:Nat->Prop} {w w':World} {v:Value} {ms:List Sm4} (h:WayM E N B w v ms) (hm:Mv F w w') (hF:∀ b,F b->b < w.heap.size->b < B):WayM E N B w' v ms:=
 ⟨Md h.row hm hF,fun m hmm=>(h.nds m hmm).mv hm hF⟩
end Go.Inc
