/- MADE SMALL. -/
import Derived.Test.YtfhdojnobmfefaaGreatDoorN26
import Derived.Test.YtfhdojnobmfefaaGreatDoorN12
import Derived.Maps.AppendAt
namespace Go.Inc
open Go.RowKit
def BoxZ (x:World) (v:Value) (T B:Nat):Prop:=∃ b,v=.pointer (some ⟨b,0,none⟩)/\B<=b/\x.heap[b]?=some (.cells #[.bool false,.slice none 0 0] T (0,0))
def BoxN (x:World) (v:Value) (T B:Nat) (Pr:Prop) (lf:Bool) (es:List Et):Prop:=∃ b l a n c,v=.pointer (some ⟨b,0,none⟩)/\B<=b/\x.heap[b]?=some (.cells #[.bool l,.slice a n c] T (0,0))/\(Pr->l=lf/\NdOk x a n c es)
def AnsT (x:World) (v:Value) (F:Int) (Pr:Prop) (lf:Bool) (es:List Et):Prop:=∃ l a n c,v=.tuple #[.agg #[.bool l,.slice a n c],.int .i64 F]/\(Pr->l=lf/\NdOk x a n c es)
def AnsV (x:World) (v:Value) (Pr:Prop) (lf:Bool) (es:List Et):Prop:=∃ l a n c,v=.agg #[.bool l,.slice a n c]/\(Pr->l=lf/\NdOk x a n c es)
section
variable {x y:World} {v:Value} {T B:Nat} {Pr:Prop} {lf:Bool} {es:List Et} {F:Int}
theorem BoxZ.grew (hg:Grew x y) (h:BoxZ x v T B):BoxZ y v T B:=by
 obtain ⟨b,h1,h2,h3⟩:=h
 exact ⟨b,h1,h2,zQa h3 hg⟩
theorem BoxN.grew (hg:Grew x y) (h:BoxN x v T B Pr lf es):BoxN y v T B Pr lf es:=by
 obtain ⟨b,l,a,n,c,h1,h2,h3,h4⟩:=h
 exact ⟨b,l,a,n,c,h1,h2,zQa h3 hg,fun hp=>⟨(h4 hp).1,(h4 hp).2.below hg⟩⟩
theorem AnsT.grew (hg:Grew x y) (h:AnsT x v F Pr lf es):AnsT y v F Pr lf es:=by
 obtain ⟨l,a,n,c,h1,h4⟩:=h
 exact ⟨l,a,n,c,h1,fun hp=>⟨(h4 hp).1,(h4 hp).2.below hg⟩⟩
theorem AnsV.grew (hg:Grew x y) (h:AnsV x v Pr lf es):AnsV y v Pr lf es:=by
 obtain ⟨l,a,n,c,h1,h4⟩:=h
 exact ⟨l,a,n,c,h1,fun hp=>⟨(h4 hp).1,(h4 hp).2.below hg⟩⟩
end
theorem zVb {P:Program} {o:Oper} {w:World} {ρ:Operand->Value} (ty:TypeId) (x y:Operand) (ho:o.op=.store ty x y)
  (g:Nat) (cells:Array Value) (hx:ρ x=.pointer (some ⟨g,0,none⟩)) (hy:ρ y=.agg cells)
  (t:TypeId) (old:Array Value) (hg:w.heap[g]?=some (.cells old t (0,0))) (hi:(P.info? ty).map (·.size)=some cells.size)
  (hold:old.size=cells.size) (h1:cells.all (·.oneCell')=true) {b:Act} {K:Act->World->Prop} {Q:Exit->Act->World->Prop}
  (hk:∀ w',w'.heap[g]?=some (.cells cells t (0,0))->w.grownBy w' (some g)->K (b.put o.dst undef) w'):o.upon P b K Q ((execOp ρ o).run P w):=by
 unfold execOp
 simp only [ho,hx,hy,Instr.storeAt,Instr.sureAddr,Sem.run_bind,Sem.run_pure,Result.andThen_ok,run_storeVar_row w g t ty old cells hg hi hold h1]
 exact hk _ (setRow_heap _ _ _ _ _ _ hg) ⟨rfl,rfl,rfl,by simp,fun k _ hne=>setRow_other _ _ _ _ (by rintro rfl;exact hne rfl)⟩
def Ap (u v:Value):Prop:=∀ b,u.ownBlock=some b->v.ownBlock≠some b
theorem Ap.symm {u v:Value} (h:Ap u v):Ap v u:=fun b h1 h2=>h b h2 h1
theorem Ap.kept {w w':World} {B E s n:Nat} {u v:Value} {xs:List Value} (h:Ap u v) (hr:w.ownsRow B E s u n xs) (hg:w.grownBy w' v.ownBlock):w'.ownsRow B E s u n xs:=by
 cases hv:v.ownBlock with
 | none=>
  rw [hv] at hg
  cases hu:u.ownBlock with
  | none=>exact hr.kept hg (.inl hu)
  | some b=>exact hr.kept hg (.inr (by rw [hu];simp))
 | some b=>rw [hv] at hg;exact hr.kept hg (.inr fun e=>h b e hv)
end Go.Inc
namespace Go.Inc
open Go.RowKit
def BoxA (x:World) (v:Value) (T B:Nat):Prop:=∃ b f a n c,v=.pointer (some ⟨b,0,none⟩)/\B<=b/\x.heap[b]?=some (.cells #[.bool f,.slice a n c] T (0,0))
theorem BoxA.grew {x y:World} {v:Value} {T B:Nat} (hg:Grew x y) (h:BoxA x v T B):BoxA y v T B:=by
 obtain ⟨b,f,a,n,c,h1,h2,h3⟩:=h
 exact ⟨b,f,a,n,c,h1,h2,zQa h3 hg⟩
theorem zQ9 {x y:World} {b g:Nat} {o:Obj} (h:x.heap[b]?=some o) (hg:x.grownBy y (some g)) (hne:b≠g):y.heap[b]?=some o:=
 (hg.block b (Array.getElem?_eq_some_iff.1 h).1 (by intro e;cases e;exact hne rfl)).trans h
theorem EtS.cells {ok:Nat->Prop} {w:World} {es:List Et} {ad:Addr} (h:EtS ok w (some ad) es):∀ j u,(zQi es)[j]?=some u->w.cell? (ad.add j)=some u:=by
 intro j u hu
 rcases h with rfl | ⟨b,o,hb,_,hc⟩
 ·simp [zQi] at hu
 ·cases hb
  have hj:j < es.length * 3:=by
   have:=(List.getElem?_eq_some_iff.1 hu).1
   rwa [zXn] at this
  obtain ⟨i,r,rfl,hr⟩:∃ i r,j=i * 3+r/\r < 3:=⟨j / 3,j % 3,by omega,by omega⟩
  have hi:i < es.length:=by omega
  obtain ⟨g1,g2,g3⟩:=zJ3 es i hi
  obtain ⟨q1,q2,q3⟩:=hc i hi
  rw [Addr.add_lit]
  rcases (show r=0\/r=1\/r=2 by omega) with rfl | rfl | rfl
  ·rw [Nat.add_zero] at hu ⊢
   rw [g1] at hu;cases hu;exact q1
  ·rw [g2] at hu;cases hu;rw [<- Nat.add_assoc];exact q2
  ·rw [g3] at hu;cases hu;rw [<- Nat.add_assoc];exact q3
def BoxW (x:World) (v:Value) (T E B:Nat) (lf:Bool) (n:Nat) (es:List Et):Prop:=∃ b r,v=.pointer (some ⟨b,0,none⟩)/\B<=b/\x.heap[b]?=some (.cells #[.bool lf,r] T (0,0))/\x.ownsRow B E 3 r n (zQi es)
def OwnW (x:World) (v:Value) (E B:Nat) (n:Nat) (es:List Et):Prop:=x.ownsRow B E 3 v n (zQi es)
def AggW (x:World) (v:Value) (E B:Nat) (lf:Bool) (n:Nat) (es:List Et):Prop:=∃ r,v=.agg #[.bool lf,r]/\x.ownsRow B E 3 r n (zQi es)
theorem zQes {w w':World} {B E s n:Nat} {v:Value} {xs:List Value} (h:w.ownsRow B E s v n xs) (hb:Grew w w'):w'.ownsRow B E s v n xs:=
 zQf (F:=fun _=>False) h (Mv.of_below hb) fun _ _=>id
theorem BoxW.grew {x y:World} {v:Value} {T E B n:Nat} {lf:Bool} {es:List Et} (hg:Grew x y) (h:BoxW x v T E B lf n es):BoxW y v T E B lf n es:=by
 obtain ⟨b,r,h1,h2,h3,h4⟩:=h
 exact ⟨b,r,h1,h2,zQa h3 hg,zQes h4 hg⟩
theorem OwnW.grew {x y:World} {v:Value} {E B n:Nat} {es:List Et} (hg:Grew x y) (h:OwnW x v E B n es):OwnW y v E B n es:=zQes h hg
theorem AggW.grew {x y:World} {v:Value} {E B n:Nat} {lf:Bool} {es:List Et} (hg:Grew x y) (h:AggW x v E B lf n es):AggW y v E B lf n es:=by
 obtain ⟨r,h1,h2⟩:=h
 exact ⟨r,h1,zQes h2 hg⟩
theorem sp_a {lf:Bool} {xs:List Et} (h:chkN lf xs≠0):spE lf xs=chkN lf xs:=if_pos h
theorem sp_b {lf:Bool} {xs:List Et} (h:chkN lf xs=0) (h2:xs.length < 2):spE lf xs=11:=by
 unfold spE
 rw [if_neg (by rw [h];decide),if_pos h2]
theorem sp_c {lf:Bool} {xs:List Et} (h:chkN lf xs=0) (h2:2<=xs.length):spE lf xs=0:=by
 unfold spE
 rw [if_neg (by rw [h];decide),if_neg (by omega)]
end Go.Inc
namespace Go.Proofs.YtfhdojnobmfefaaGreatDoor
open Go.RowKit Go.Inc
end Go.Proofs.YtfhdojnobmfefaaGreatDoor
