/- MADE SMALL. -/
import Derived.Test.YtfhdojnobmfefaaGreatDoorG12
import Derived.Test.YtfhdojnobmfefaaGreatDoorG17
namespace Go.Inc
open Go Go.RowKit
section
variable {P:Program} {ops:Array Oper} {Q:Exit->Act->World->Prop} {a0:Act} {R:World->World->Prop} {G:Nat->World->Value->Prop} {pq:List (Nat×Nat×Tmp)} {lose:Nat->Nat->Bool}
theorem Qd {m x0:Nat} {J0 J1:World->Prop} (hx0m:x0 < m) (hlose:∀ i j k,lose i j=true->k < m->BI ops k j=true->k=i\/k∈(Ff ops (i+1)).getD i []) (hpq:∀ y∈pq,y.1∈Bv ops y.2.1/\Au ops y.1=some y.2.2/\y.1 < m/\y.2.1 < m) (hok:FT ops a0.tmps.size m) (hms:m<=ops.size) (w1:World) (_Rr:∀ a,R a a) (Rt:∀ a b c,R a b->R b c->R a c)
  (step:∀ (i:Nat) (o:Oper),i < m->ops[i]?=some o->∀ (s:Act) w,R w1 w->(i=x0->J0 w)->(∀ d,NY ops m d=true->s.eval (.tmp d)=a0.eval (.tmp d))->(∀ j d,j < m->Au ops j=some d->BI ops i j=true->G j w (s.eval (.tmp d)))->
   (BC ops s.eval o=true->∀ b (K:Act->World->Prop) (Q':Exit->Act->World->Prop),(∀ u w',G i w' u->R w w'->((i=x0->J1 w')/\(i≠x0->(J0 w->J0 w')/\(J1 w->J1 w')))->(∀ j,j < m->U5 ops lose i j=true->∀ x,G j w x->G j w' x)->(∀ y∈pq,i=y.2.1->s.eval (.tmp y.2.2)=u)->K (b.put o.dst u) w')->o.upon P b K Q' ((execOp s.eval o).run P w))/\(BC ops s.eval o=false->False))
  (fin:∀ v w,R w1 w->J1 w->(∀ j,j < m->(∀ i,i < m->lose i j=false)->G j w (v j))->(∀ y∈pq,v y.1=v y.2.1)->wpList P ops Q (ops.toList.drop m) (stG ops a0 v m) w) :
  ∀ fuel (listed:Array Bool) v w,listed.size=ops.size->(∀ i,m<=i->listed.getD i false=false)->(∀ i,listed.getD i false=true->∀ e∈Bv ops i,listed.getD e false=true)->R w1 w->((listed.getD x0 false=false->J0 w)/\(listed.getD x0 false=true->J1 w))->(∀ j,j < m->listed.getD j false=true->(∀ i,listed.getD i false=true->lose i j=false)->G j w (v j))->(∀ y∈pq,listed.getD y.2.1 false=true->v y.1=v y.2.1)->Bo (fun j=>!listed.getD j false) m+(ops.size - m)<=fuel->
   wpAny P .any ops Q fuel listed (stU ops a0 v (fun j=>listed.getD j false) m) w:=by
 intro fuel
 induction fuel with
 | zero=>
  intro listed v w hsz htl hdc hR hJ hG hD hc;have hall:=Cm m (by omega:Bo (fun j=>!listed.getD j false) m=0);have hl:∀ i,i < m->listed.getD i false=true:=fun i hi=>by have:=hall i hi;cases hx:listed.getD i false<;>rw [hx] at this<;>simp_all
  have hf:=fin v w hR (hJ.2 (hl x0 hx0m)) (fun j hj hlo=>hG j hj (hl j hj) fun i hi=>by
   rcases Nat.lt_or_ge i m with h' | h'
   ·exact hlo i h'
   ·rw [htl i h'] at hi;cases hi) (fun y hy=>hD y hy (hl y.2.1 (hpq y hy).2.2.2))
  unfold stG at hf;rw [Bg (v':=v) (L':=fun j=>listed.getD j false) m (fun j hj=>⟨rfl,(hl j hj).symm⟩)] at hf;exact Em hok 0 m listed _ w hsz (fun i=>⟨fun h=>(by
   rcases Nat.lt_or_ge i m with h' | h'
   ·exact h'
   ·rw [htl i h'] at h;cases h),hl i⟩) (Nat.le_refl _) hms (by omega) hf
 | succ fuel ih=>
  intro listed v w hsz htl hdc hR hJ hG hD hc;by_cases hz:Bo (fun j=>!listed.getD j false) m=0
  ·have hall:=Cm m hz;have hl:∀ i,i < m->listed.getD i false=true:=fun i hi=>by have:=hall i hi;cases hx:listed.getD i false<;>rw [hx] at this<;>simp_all
   have hf:=fin v w hR (hJ.2 (hl x0 hx0m)) (fun j hj hlo=>hG j hj (hl j hj) fun i hi=>by
   rcases Nat.lt_or_ge i m with h' | h'
   ·exact hlo i h'
   ·rw [htl i h'] at hi;cases hi) (fun y hy=>hD y hy (hl y.2.1 (hpq y hy).2.2.2))
   unfold stG at hf;rw [Bg (v':=v) (L':=fun j=>listed.getD j false) m (fun j hj=>⟨rfl,(hl j hj).symm⟩)] at hf;exact Em hok _ m listed _ w hsz (fun i=>⟨fun h=>(by
    rcases Nat.lt_or_ge i m with h' | h'
    ·exact h'
    ·rw [htl i h'] at h;cases h),hl i⟩) (Nat.le_refl _) hms (by omega) hf
  ·
   have hex:∃ x,x < m/\listed.getD x false=false/\∀ y,y < x->listed.getD y false=true:=by
    have key:∀ n,n<=m->(∀ i,i < n->listed.getD i false=true)\/∃ x,x < m/\listed.getD x false=false/\∀ y,y < x->listed.getD y false=true:=by
     intro n
     induction n with
     | zero=>intro _;exact .inl fun i hi=>by omega
     | succ n ihn=>
      intro hn;rcases ihn (by omega) with h | h
      ·cases hx:listed.getD n false with
       | false=>exact .inr ⟨n,by omega,hx,h⟩
       | true=>
        refine .inl fun i hi=>?_;by_cases hin:i=n
        ·rw [hin];exact hx
        ·exact h i (by omega)
      ·exact .inr h
    rcases key m (Nat.le_refl _) with h | h
    ·exfalso;apply hz;have key2:∀ n,n<=m->Bo (fun j=>!listed.getD j false) n=0:=by
      intro n
      induction n with
      | zero=>intro _;rfl
      | succ n ihn=>intro hn;unfold Bo;rw [ihn (by omega),h n (by omega)];rfl
     exact key2 m (Nat.le_refl _)
    ·exact h
   obtain ⟨x,hxm,hx0,hxl⟩:=hex;have hxr:x∈Region.ready .any ops listed:=by
    obtain ⟨o,ho⟩:∃ o,ops[x]?=some o:=⟨_,Array.getElem?_eq_getElem (by omega)⟩
    exact mem_ready.2 ⟨by
     have hj':x < listed.size:=by omega
     simpa [hj'] using hx0,o,ho,fun e he hb=>hxl e.on (hok.back x e.on (direct_mem.2 ⟨o,ho,e,he,hb,rfl⟩))⟩
   refine ⟨fun h0=>(by rw [h0] at hxr;cases hxr),fun i hi=>?_⟩;obtain ⟨h0,o,ho,hdeps⟩:=mem_ready.1 hi;have his:i < ops.size:=(Array.getElem?_eq_some_iff.1 ho).1;have hun:listed.getD i false=false:=by
    have hj':i < listed.size:=by omega
    simpa [hj'] using h0
   have hdir:∀ e∈Bv ops i,listed.getD e false=true:=fun e he=>by
    obtain ⟨o',ho',y,hy,hb,rfl⟩:=direct_mem.1 he;rw [ho] at ho';cases ho';exact hdeps y hy hb
   have him:i < m:=by
    rcases Nat.lt_or_ge i m with h' | h'
    ·exact h'
    ·have:=AZ hok (fun i=>listed.getD i false) hdc i hdir x (hok.tail i x h' his (by omega));rw [hx0] at this;cases this
   have hreads:∀ j,j < m->BI ops i j=true->listed.getD j false=true:=fun j hjm hj=>hdir j (hok.reads i j him hjm hj).2;unfold wpOp;simp only [ho];obtain ⟨hyes,hno⟩:=step i o him ho (stU ops a0 v (fun j=>listed.getD j false) m) w hR (fun e=>hJ.1 (e ▸ hun)) (fun d hd=>GI _ fun j hj _ d' hd' he=>by
    cases he;have:=List.all_eq_true.1 hd j (List.mem_range.2 hj);rw [hd'] at this;simp at this) (fun j d hjm hjd hj=>by
    rw [Jf hok hjd (hreads j hjm hj) (hok.size j d hjm hjd) _ hjm (Nat.le_refl _)];exact hG j hjm (hreads j hjm hj) fun i' hi'=>by
     cases hc':lose i' j with
     | false=>rfl
     | true=>
      rcases hlose i' j i hc' him hj with this | this
      ·rw [<- this,hun] at hi';cases hi'
      ·have h3:=AZ hok (fun i=>listed.getD i false) hdc i' (hdc i' hi') i this;rw [hun] at h3;cases h3)
   have hwe:Region.wanted o (yielded ops (stU ops a0 v (fun j=>listed.getD j false) m).tmps)=BC ops (stU ops a0 v (fun j=>listed.getD j false) m).eval o:=Ho fun j want d hgd hjd=>by
    rw [Ef];have hjm:j < m:=hok.gm i o him ho j want hgd;exact hok.size j d hjm hjd
   have next:∀ u w',G i w' u->R w w'->((i=x0->J1 w')/\(i≠x0->(J0 w->J0 w')/\(J1 w->J1 w')))->(∀ j,j < m->U5 ops lose i j=true->∀ x,G j w x->G j w' x)->(∀ y∈pq,i=y.2.1->(stU ops a0 v (fun j=>listed.getD j false) m).eval (.tmp y.2.2)=u)->wpAny P .any ops Q fuel (listed.setIfInBounds i true) ((stU ops a0 v (fun j=>listed.getD j false) m).put o.dst u) w':=by
    intro u w' hGu hRw hJw hKw hDw;have hdst:o.dst=Au ops i:=by simp [Au,ho]
    rw [hdst,IB hok hun m him (Nat.le_refl _)];have hL:∀ j,(if j=i then true else listed.getD j false)=(listed.setIfInBounds i true).getD j false:=by
     intro j;by_cases hji:j=i
     ·subst hji;have:j < listed.size:=by omega
      simp [this]
     ·rw [if_neg hji,getD_set_ne false (Ne.symm hji)]
    rw [Bg (v':=fun j=>if j=i then u else v j) (L':=fun j=>(listed.setIfInBounds i true).getD j false) m (fun j _=>⟨rfl,hL j⟩)];refine ih (listed.setIfInBounds i true) _ w' (by simpa using hsz) (fun k hk=>?_) (fun k hk e he=>?_) (Rt _ _ _ hR hRw) ⟨fun h=>?_,fun h=>?_⟩ (fun j hj hl hlo=>?_) (fun y hy hq=>?_) ?_
    ·rw [getD_set_ne false (by omega)];exact htl k hk
    ·have:listed.getD e false=true:=by
      by_cases hki:k=i
      ·subst hki;exact hdir e he
      ·rw [getD_set_ne false (Ne.symm hki)] at hk;exact hdc k hk e he
     rw [<- hL e];by_cases hei:e=i
     ·simp [hei]
     ·rw [if_neg hei];exact this
    ·by_cases e:x0=i
     ·rw [<- hL x0,if_pos e] at h;cases h
     ·rw [<- hL x0,if_neg e] at h;exact (hJw.2 (Ne.symm e)).1 (hJ.1 h)
    ·by_cases e:x0=i
     ·exact hJw.1 e.symm
     ·rw [<- hL x0,if_neg e] at h;exact (hJw.2 (Ne.symm e)).2 (hJ.2 h)
    ·by_cases hji:j=i
     ·subst hji;simpa using hGu
     ·simp only [hji,if_false];rw [getD_set_ne false (Ne.symm hji)] at hl;have hki:listed.getD i false=true->False:=fun h=>by rw [hun] at h;cases h
      refine hKw j hj ?_ _ (hG j hj hl fun i' hi'=>hlo i' (by rw [<- hL i'];by_cases h:i'=i<;>simp [h,hi']));have h1:lose i j=false:=hlo i (by rw [<- hL i];simp);have h2:((Ff ops (j+1)).getD j []).contains i=false:=by
       cases hc':((Ff ops (j+1)).getD j []).contains i with
       | false=>rfl
       | true=>exact (hki (AZ hok (fun i=>listed.getD i false) hdc j (hdc j hl) i (by simpa using hc'))).elim
      unfold U5;rw [h1,h2];simpa using hji
    ·obtain ⟨p,q,dp⟩:=y;obtain ⟨hqp,hdp,hpm,hqm⟩:=hpq _ hy;simp only at hq hqp hdp hpm hqm ⊢;rw [<- hL q] at hq;have hplt:p < q:=hok.back q p hqp;show (if p=i then u else v p)=(if q=i then u else v q)
     by_cases hqi:q=i
     ·rw [if_neg (by omega),if_pos hqi];have hpl:listed.getD p false=true:=hdir p (by rw [<- hqi];exact hqp);have:=hDw _ hy hqi.symm;rwa [Jf hok hdp hpl (hok.size p dp hpm hdp) _ hpm (Nat.le_refl _)] at this
     ·rw [if_neg hqi] at hq;have hpl:listed.getD p false=true:=hdc q hq p hqp;have hpi:p≠i:=fun h=>by rw [h,hun] at hpl;cases hpl
      rw [if_neg hpi,if_neg hqi];exact hD _ hy hq
    ·have h1:=Gv (f:=fun j=>!listed.getD j false) (i:=i) (by simp [hun]) m him;have h2:Bo (fun j=>!(listed.setIfInBounds i true).getD j false) m=Bo (fun j=>if j=i then false else !listed.getD j false) m:=by
      congr 1
      funext j;rw [<- hL j];by_cases hji:j=i<;>simp [hji]
     omega
   rw [hwe];split
   ·rename_i hy
    left;unfold Oper.wp;exact hyes hy _ _ _ next
   ·rename_i hy
    exact (hno (by simpa using hy)).elim
def ig (P:Program) (ops:Array Oper) (m:Nat) (a0:Act) (w1:World) (F:Nat->Prop) (x0:Nat) (J0 J1:World->Prop) (G:Nat->World->Value->Prop) (pq:List (Nat×Nat×Tmp)) (lose:Nat->Nat->Bool) (i:Nat):Prop:=
 ∀ (o:Oper),ops[i]?=some o->∀ (ρ:Operand->Value) w',Mv F w1 w'->(i=x0->J0 w')->ZR ρ->(∀ d,NY ops m d=true->ρ (.tmp d)=a0.eval (.tmp d))->(∀ j d,j < m->Au ops j=some d->BI ops i j=true->G j w' (ρ (.tmp d)))->
   (BC ops ρ o=true->∀ b (K:Act->World->Prop) (Q':Exit->Act->World->Prop),(∀ u w'',G i w'' u->((i≠x0/\Grew w' w'')\/(Mv F w' w''/\((i=x0->J1 w'')/\(i≠x0->(J0 w'->J0 w'')/\(J1 w'->J1 w'')))/\AllLt (fun j=>U5 ops lose i j=true->∀ x,G j w' x->G j w'' x) m))->(∀ y∈pq,i=y.2.1->ρ (.tmp y.2.2)=u)->K (b.put o.dst u) w'')->o.upon P b K Q' ((execOp ρ o).run P w'))/\(BC ops ρ o=false->False)
theorem BL {id:Nat} {w:World} (F:Nat->Prop) (x0:Nat) (J0 J1:World->Prop) (m:Nat) (pq:List (Nat×Nat×Tmp)) (lose:List (Nat×Nat)) (Gl:List (World->Value->Prop)) (hm:P.follows .mixedOrders=true) (hms:m<=ops.size) (hok:Ik ops a0.tmps.size m=true) (hlo:fG ops lose m=true) (hpq0:gJ ops pq m=true)
  (hx0:x0 < m) (h0:J0 w.drew) (hJ0:∀ a b,Grew a b->J0 a->J0 b) (hJ1:∀ a b,Grew a b->J1 a->J1 b) (hst:∀ g∈Gl,∀ w w' v,Grew w w'->g w v->g w' v)
  (step:AllLt (ig P ops m a0 w.drew F x0 J0 J1 (fun i=>Gl.getD i fun _ _=>False) pq (fun i j=>lose.contains (i,j))) m)
  (fin:∀ v w',Mv F w.drew w'->J1 w'->AllLt (fun j=>lose.all (fun x=>x.2 != j)=true->(Gl.getD j fun _ _=>False) w' (v j)) m->(∀ y∈pq,v y.1=v y.2.1)->wpList P ops Q (ops.toList.drop m) (stG ops a0 v m) w') :
  (Code.region id ops true).wp P Q a0 w:=by
 refine wp_region_any hm ?_;have h:=Qd (P:=P) (Q:=Q) (R:=fun a b=>Mv F a b) (J0:=J0) (J1:=J1) (hx0m:=hx0) (G:=fun i=>Gl.getD i fun _ _=>False) (pq:=pq) (lose:=fun i j=>lose.contains (i,j)) (fun i j k hl hk hr=>by
   have h1:=List.all_eq_true.1 hlo (i,j) (by simpa using hl);have h2:=List.all_eq_true.1 h1 k (List.mem_range.2 hk);simp only [hr,Bool.not_true,Bool.false_or,Bool.or_eq_true] at h2;rcases h2 with h2 | h2
   ·exact .inl (by simpa using h2)
   ·exact .inr (by simpa using h2)) (Ov hpq0) (ES hok) hms w.drew (fun a=>Mv.refl _ _) (fun a b c hab hbc=>hab.trans hbc)
  (fun i o him ho s w' hR hJ hS hG=>by
   obtain ⟨h1,h2⟩:=AllLt.all _ step i him o ho s.eval w' hR hJ ⟨fun _=>rfl,fun _=>rfl,fun _=>rfl⟩ hS hG;refine ⟨fun hw b K Q' hK=>h1 hw b K Q' fun u w'' hu hg hd=>?_,h2⟩;rcases hg with ⟨hne,hg⟩ | ⟨hb,hj,hg⟩
   ·refine hK u w'' hu (Mv.of_below hg) ⟨fun e=>absurd e hne,fun _=>⟨hJ0 _ _ hg,hJ1 _ _ hg⟩⟩ (fun j hj _ x hx=>?_) hd;by_cases hi:j < Gl.length
    ·have e:(Gl.getD j fun _ _=>False)=Gl[j]:=by rw [List.getD_eq_getElem?_getD,List.getElem?_eq_getElem hi];rfl
     simp only [e] at hx ⊢;exact hst _ (List.getElem_mem hi) _ _ _ hg hx
    ·have e:(Gl.getD j fun _ _=>False)=fun _ _=>False:=by rw [List.getD_eq_getElem?_getD,List.getElem?_eq_none (by omega)];rfl
     simp only [e] at hx
   ·exact hK u w'' hu hb hj (fun j hj=>AllLt.all _ hg j hj) hd)
  (fun v w' hR hj1 hG hD=>fin v w' hR hj1 (by
   have key:∀ n,n<=m->AllLt (fun j=>lose.all (fun x=>x.2 != j)=true->(Gl.getD j fun _ _=>False) w' (v j)) n:=by
    intro n
    induction n with
    | zero=>intro _;trivial
    | succ n ih=>exact fun hn=>⟨ih (by omega),fun hl=>hG n (by omega) fun i _=>by
      cases hc:lose.contains (i,n) with
      | false=>rfl
      | true=>
       have:=List.all_eq_true.1 hl (i,n) (by simpa using hc);simp at this⟩
   exact key _ (Nat.le_refl _)) hD) ops.size (Array.replicate ops.size false) (fun _=>undef) w.drew (by simp) (fun i _=>by
   by_cases hi:i < ops.size<;>simp [hi]) (fun i hi=>by by_cases hi':i < ops.size<;>simp [hi'] at hi) (Mv.refl _ _) ⟨fun _=>h0,fun h=>by
   have hj':x0 < ops.size:=by omega
   simp [hj'] at h⟩ (fun j hj hl=>by
   have hj':j < ops.size:=by omega
   simp [hj'] at hl) (fun y hy hl=>by
   have hj':y.2.1 < ops.size:=by have:=(Ov hpq0 y hy).2.2.2;omega
   simp [hj'] at hl) (by
  have:Bo (fun j=>!(Array.replicate ops.size false).getD j false) m<=m:=by
   have key:∀ (f:Nat->Bool) n,Bo f n<=n:=by
    intro f n
    induction n with
    | zero=>exact Nat.le_refl _
    | succ n ih=>unfold Bo;split<;>omega
   exact key _ _
  omega)
 have e:stU ops a0 (fun _=>undef) (fun j=>(Array.replicate ops.size false).getD j false) m=a0:=by
  have key:∀ n,n<=m->stU ops a0 (fun _=>undef) (fun j=>(Array.replicate ops.size false).getD j false) n=a0:=by
   intro n
   induction n with
   | zero=>intro _;rfl
   | succ n ih=>
    intro hn;unfold stU;rw [ih (by omega)];have hn':n < ops.size:=by omega
    rw [if_neg (by simp [hn'])]
  exact key _ (Nat.le_refl _)
 rw [e] at h;exact h
end
end Go.Inc
