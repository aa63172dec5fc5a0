/- MADE SMALL. -/
import Derived.Test.YtfhdojnobmfefaaGreatDoorG24
import Derived.Test.YtfhdojnobmfefaaGreatDoorG6
namespace Go.Inc
def DI (e:Et):List Nat:=Var.put e.1.1.toNat++Var.put e.1.2.toNat++Var.put e.2.toNat
def AP (es:List Et):List Nat:=es.flatMap DI
def Dh (lf:Bool) (es:List Et):List Nat:=[if lf=true then 1 else 0,es.length]++AP es
theorem EU (es:List Et) (e:Et):AP (es++[e])=AP es++DI e:=by simp [AP]
theorem KE {e:Et} (h:okE e=true):(DI e).length<=30:=by
 have:=okE_iff.1 h;have h1:=Var.put_ten (n:=e.1.1.toNat) (by omega);have h2:=Var.put_ten (n:=e.1.2.toNat) (by omega);have h3:=Var.put_ten (n:=e.2.toNat) (by omega);unfold DI;rw [List.length_append,List.length_append];omega
theorem Jo:∀ {es:List Et},(∀ e∈es,okE e=true)->(AP es).length<=30 * es.length
 | [],_=>Nat.zero_le _
 | e::r,h=>by
  have ih:=Jo (es:=r) fun x hx=>h x (List.mem_cons_of_mem _ hx);have h1:=KE (h e (List.mem_cons_self ..));show (DI e++AP r).length<=_;rw [List.length_append,List.length_cons];omega
end Go.Inc
namespace Go.Proofs.YtfhdojnobmfefaaGreatDoor
open Go.RowKit Go.Inc
theorem UK {w:World} {E B:Nat} {v:Value} {bs cs:List Nat} {n:Nat} (h:w.ownsRow B E 1 v n (u8s bs++u8s cs)) (hn:n=(bs++cs).length):Row E B w v (bs++cs):=by
 subst hn;unfold Row;have e:u8s (bs++cs)=u8s bs++u8s cs:=by simp [u8s]
 rw [e];exact h
theorem U8:(Tryz.prog.info? 5).map (fun i=>(i.zero,i.size,i.bytes))=some (some (.int .u8 0),1,1):=by kernel_rfl
end Go.Proofs.YtfhdojnobmfefaaGreatDoor
namespace Go.Inc
open Go.RowKit
theorem Var.get_canon (g:Nat):∀ (bs:List Nat) (i n v p:Nat),Bytes bs->Var.get g i n bs=(v,p,0)->∃ m,v=n+m * 128 ^ i/\p=i+(Var.put m).length/\bs.take (Var.put m).length=Var.put m/\(0 < i->0 < m)
 | [],i,n,v,p,_,h=>by rw [Var.get_nil] at h;simp at h
 | c::bs,i,n,v,p,hb,h=>by
  have hc:c < 256:=hb c (by simp);by_cases hbad:i=10\/(0 < i/\c=0)\/(g - n) / 128 ^ i < c % 128
  ·rw [Var.get_bad hbad] at h;simp at h
  ·by_cases hl:c < 128
   ·rw [Var.get_last hbad hl] at h;simp only [Prod.mk.injEq] at h;obtain ⟨h1,h2,-⟩:=h;refine ⟨c,by rw [<- h1,Nat.mod_eq_of_lt hl],by rw [Var.put_low hl];simpa using h2.symm,by rw [Var.put_low hl];rfl,fun h0=>?_⟩;apply Nat.pos_of_ne_zero;intro e;exact hbad (.inr (.inl ⟨h0,e⟩))
   ·rw [Var.get_next hbad hl] at h;obtain ⟨m,h1,h2,h3,h4⟩:=Var.get_canon g bs (i+1) _ v p (fun x hx=>hb x (List.mem_cons_of_mem _ hx)) h;have hm:=h4 (by omega);have e1:Var.put (c % 128+128 * m)=c::Var.put m:=by
     rw [Var.put_more (by omega)]
     congr 1
     ·omega
     ·congr 1;omega
    refine ⟨c % 128+128 * m,?_,?_,?_,fun _=>by omega⟩
    ·rw [h1,Nat.pow_succ,Nat.add_mul];generalize 128 ^ i=T;rw [Nat.mul_comm T 128,<- Nat.mul_assoc,Nat.mul_comm m 128];omega
    ·rw [e1,h2,List.length_cons];omega
    ·rw [e1,List.length_cons,List.take_succ_cons,h3]
theorem Var.take_val {g:Nat} {bs:List Nat} (hb:Bytes bs) (h:Var.err g bs=0):bs.take (Var.pos g bs)=Var.put (Var.val g bs):=by
 obtain ⟨m,h1,h2,h3,-⟩:=Var.get_canon g bs 0 0 (Var.val g bs) (Var.pos g bs) hb (by
  unfold Var.err at h;exact Prod.ext rfl (Prod.ext rfl h))
 have e:Var.val g bs=m:=by simpa using h1
 rw [e,h2,Nat.zero_add,h3]
def nxN (bs:List Nat) (p:Nat):Nat:=p+Var.pos 65535 (bs.drop p)
def erN (bs:List Nat) (p:Nat):Nat:=Var.err 65535 (bs.drop p)
def vlN (bs:List Nat) (p:Nat):Nat:=Var.val 65535 (bs.drop p)
def okT (bs:List Nat) (p:Nat):Prop:=erN bs p=0/\erN bs (nxN bs p)=0/\erN bs (nxN bs (nxN bs p))=0
def nx3 (bs:List Nat) (p:Nat):Nat:=nxN bs (nxN bs (nxN bs p))
def etN (bs:List Nat) (p:Nat):Et:=(((vlN bs p:Nat),(vlN bs (nxN bs p):Nat)),(vlN bs (nxN bs (nxN bs p)):Nat))
def plN (bs:List Nat):Nat->Nat
 | 0=>2
 | k+1=>nx3 bs (plN bs k)
def esN (bs:List Nat):Nat->List Et
 | 0=>[]
 | k+1=>esN bs k++[etN bs (plN bs k)]
theorem Vh (bs:List Nat):∀ k,(esN bs k).length=k
 | 0=>rfl
 | k+1=>by
  show (esN bs k++[_]).length=_;rw [List.length_append,Vh bs k];rfl
def gdN (bs:List Nat) (k:Nat):Prop:=∀ i,i < k->okT bs (plN bs i)
def lfN (bs:List Nat):Bool:=decide (bs.getD 0 0=1)
def ctN (bs:List Nat):Nat:=bs.getD 1 0
def G9 (bs:List Nat):Prop:=2<=bs.length/\bs.getD 0 0<=1/\gdN bs (ctN bs)/\plN bs (ctN bs)=bs.length/\AL (lfN bs) (esN bs (ctN bs))=0
open Classical in
noncomputable def ndE (bs:List Nat):Int:=if G9 bs then 0 else 3
open Classical in
noncomputable def ndL (bs:List Nat):Bool:=if G9 bs then lfN bs else false
open Classical in
noncomputable def ndS (bs:List Nat):List Et:=if G9 bs then esN bs (ctN bs) else []
theorem QG {bs:List Nat} (h:G9 bs):ndE bs=0:=if_pos h
theorem UZ {bs:List Nat} (h:¬ G9 bs):ndE bs=3:=if_neg h
theorem JJ {bs:List Nat} (h:G9 bs):ndL bs=lfN bs:=if_pos h
theorem bK {bs:List Nat} (h:¬ G9 bs):ndL bs=false:=if_neg h
theorem MK {bs:List Nat} (h:G9 bs):ndS bs=esN bs (ctN bs):=if_pos h
theorem bJ {bs:List Nat} (h:¬ G9 bs):ndS bs=[]:=if_neg h
theorem Bytes.dropN {bs:List Nat} (h:Bytes bs) (k:Nat):Bytes (bs.drop k):=fun x hx=>h x (List.mem_of_mem_drop hx)
theorem O9 {bs:List Nat} {p:Nat} (hb:Bytes bs) (h:erN bs p=0):bs.take (nxN bs p)=bs.take p++Var.put (vlN bs p):=by
 unfold nxN vlN;rw [List.take_add,Var.take_val (hb.dropN p) h]
theorem UC {bs:List Nat} (hb:Bytes bs):∀ k,gdN bs k->bs.take (plN bs k)=bs.take 2++AP (esN bs k)
 | 0,_=>by simp [plN,esN,AP]
 | k+1,h=>by
  have ih:=UC hb k fun i hi=>h i (by omega);obtain ⟨h1,h2,h3⟩:=h k (by omega);show bs.take (nxN bs (nxN bs (nxN bs (plN bs k))))=_++AP (esN bs k++[_]);rw [O9 hb h3,O9 hb h2,O9 hb h1,ih,EU];simp [DI,etN]
theorem dD {bs:List Nat} (hb:Bytes bs) (h:G9 bs):Dh (ndL bs) (ndS bs)=bs:=by
 obtain ⟨h1,h2,h3,h4,h5⟩:=h;have ht:=UC hb _ h3;rw [h4,List.take_length] at ht;rw [JJ ⟨h1,h2,h3,h4,h5⟩,MK ⟨h1,h2,h3,h4,h5⟩];unfold Dh;rw [Vh];have e2:bs.take 2=[bs.getD 0 0,bs.getD 1 0]:=by
  match bs,h1 with
  | a::b::r,_=>rfl
 rw [e2] at ht;have e1:(if lfN bs=true then 1 else 0)=bs.getD 0 0:=by
  unfold lfN;by_cases hh:bs.getD 0 0=1
  ·rw [if_pos (decide_eq_true hh)];exact hh.symm
  ·rw [if_neg (by simpa using hh)];omega
 rw [e1];exact ht.symm
theorem Um {B:List Nat} {p v:Nat} {rest:List Nat} (h:B.drop p=Var.put v++rest) (hv:v<=65535):erN B p=0/\vlN B p=v/\nxN B p=p+(Var.put v).length/\B.drop (nxN B p)=rest:=by
 have e:nxN B p=p+(Var.put v).length:=by unfold nxN;rw [h,Var.pos_put hv (by omega)]
 refine ⟨by unfold erN;rw [h,Var.err_put hv (by omega)],by unfold vlN;rw [h,Var.val_put hv (by omega)],e,?_⟩;rw [e,<- List.drop_drop,h,List.drop_left]
theorem ZE {B:List Nat} {p:Nat} {e:Et} {rest:List Nat} (h:B.drop p=DI e++rest) (he:okE e=true):okT B p/\etN B p=e/\nx3 B p=p+(DI e).length/\B.drop (nx3 B p)=rest:=by
 have hv:=okE_iff.1 he;unfold DI at h;rw [List.append_assoc,List.append_assoc] at h;obtain ⟨a1,a2,a3,a4⟩:=Um h (by omega);obtain ⟨b1,b2,b3,b4⟩:=Um a4 (by omega);obtain ⟨c1,c2,c3,c4⟩:=Um b4 (by omega);refine ⟨⟨a1,b1,c1⟩,?_,?_,c4⟩
 ·unfold etN;rw [a2,b2,c2,Int.toNat_of_nonneg (by omega),Int.toNat_of_nonneg (by omega),Int.toNat_of_nonneg (by omega)]
 ·unfold nx3 DI;rw [c3,b3,a3,List.length_append,List.length_append];omega
theorem KY {es:List Et} {k:Nat} (h:k < es.length):AP (es.drop k)=DI (es.getD k et0)++AP (es.drop (k+1)):=by
 rw [List.drop_eq_getElem_cons h,List.getD_eq_getElem?_getD,List.getElem?_eq_getElem h];rfl
theorem Y6 {lf:Bool} {es:List Et} (hok:∀ e∈es,okE e=true):∀ k,k<=es.length->gdN (Dh lf es) k/\esN (Dh lf es) k=es.take k/\(Dh lf es).drop (plN (Dh lf es) k)=AP (es.drop k)/\plN (Dh lf es) k=2+(AP (es.take k)).length
 | 0,_=>by
  refine ⟨fun i hi=>absurd hi (by omega),rfl,rfl,rfl⟩
 | k+1,hk=>by
  obtain ⟨i1,i2,i3,i4⟩:=Y6 (lf:=lf) hok k (by omega);rw [KY (by omega)] at i3;obtain ⟨j1,j2,j3,j4⟩:=ZE i3 (hok _ (CX (by omega)));refine ⟨fun i hi=>?_,?_,j4,?_⟩
  ·by_cases h:i=k
   ·rw [h];exact j1
   ·exact i1 i (by omega)
  ·show esN (Dh lf es) k++[etN _ _]=_;rw [i2,j2,DK (d:=et0) (by omega)]
  ·show nx3 _ _=_;rw [j3,i4,DK (d:=et0) (by omega),EU,List.length_append];omega
theorem Nr (lf:Bool) (es:List Et):(Dh lf es).length=2+(AP es).length:=by
 unfold Dh;rw [List.length_append];rfl
theorem enc_dec {lf:Bool} {es:List Et} (h:AL lf es=0):G9 (Dh lf es)/\ndE (Dh lf es)=0/\ndL (Dh lf es)=lf/\ndS (Dh lf es)=es:=by
 obtain ⟨c1,c2,-,-⟩:=Ba h;have hok:=badN_false.1 c2;obtain ⟨h1,h2,h3,h4⟩:=Y6 (lf:=lf) hok es.length (Nat.le_refl _);have e1:ctN (Dh lf es)=es.length:=rfl;have e2:lfN (Dh lf es)=lf:=by cases lf<;>rfl
 rw [List.take_length] at h2 h4;have hG:G9 (Dh lf es):=⟨by rw [Nr];omega,by cases lf<;>simp [Dh],by rw [e1];exact h1,by rw [e1,h4,Nr],by rw [e1,e2,h2];exact h⟩
 exact ⟨hG,QG hG,by rw [JJ hG,e2],by rw [MK hG,e1,h2]⟩
end Go.Inc
