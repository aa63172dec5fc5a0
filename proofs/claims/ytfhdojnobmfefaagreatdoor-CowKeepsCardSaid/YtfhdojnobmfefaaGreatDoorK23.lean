/- MADE SMALL. -/
import Derived.Test.YtfhdojnobmfefaaGreatDoorK22
import Derived.Test.YtfhdojnobmfefaaGreatDoorK5
namespace Go.Inc
def DF (e:Et):List Nat:=Var.put e.1.1.toNat++Var.put e.1.2.toNat++Var.put e.2.toNat
def AP (es:List Et):List Nat:=es.flatMap DF
def CY (lf:Bool) (es:List Et):List Nat:=[if lf=true then 1 else 0,es.length]++AP es
theorem EM (es:List Et) (e:Et):AP (es++[e])=AP es++DF e:=by simp [AP]
theorem Kw {e:Et} (h:okE e=true):(DF e).length<=30:=by
 have:=okE_iff.1 h;have h1:=Var.put_ten (n:=e.1.1.toNat) (by omega);have h2:=Var.put_ten (n:=e.1.2.toNat) (by omega);have h3:=Var.put_ten (n:=e.2.toNat) (by omega);unfold DF;rw [List.length_append,List.length_append];omega
theorem Ji:∀ {es:List Et},(∀ e∈es,okE e=true)->(AP es).length<=30 * es.length
 | [],_=>Nat.zero_le _
 | e::r,h=>by
  have ih:=Ji (es:=r) fun x hx=>h x (List.mem_cons_of_mem _ hx);have h1:=Kw (h e (List.mem_cons_self ..));show (DF e++AP r).length<=_;rw [List.length_append,List.length_cons];omega
end Go.Inc
namespace Go.Proofs.YtfhdojnobmfefaaGreatDoor
open Go.RowKit Go.Inc
theorem UD {w:World} {E B:Nat} {v:Value} {bs cs:List Nat} {n:Nat} (h:w.ownsRow B E 1 v n (u8s bs++u8s cs)) (hn:n=(bs++cs).length):Row E B w v (bs++cs):=by
 subst hn;unfold Row;have e:u8s (bs++cs)=u8s bs++u8s cs:=by simp [u8s]
 rw [e];exact h
theorem U2:(Tryz.prog.info? 5).map (fun i=>(i.zero,i.size,i.bytes))=some (some (.int .u8 0),1,1):=by kernel_rfl
end Go.Proofs.YtfhdojnobmfefaaGreatDoor
namespace Go.Inc
open Go.RowKit
theorem Var.get_canon (g:Nat):∀ (bs:List Nat) (i n v p:Nat),Bytes bs->Var.get g i n bs=(v,p,0)->∃ m,v=n+m * 128 ^ i/\p=i+(Var.put m).length/\bs.take (Var.put m).length=Var.put m/\(0 < i->0 < m)
 | [],i,n,v,p,_,h=>by rw [Var.get_nil] at h;simp at h
 | c::bs,i,n,v,p,hb,h=>by
  have hc:c < 256:=hb c (by simp);by_cases hbad:i=10\/(0 < i/\c=0)\/(g - n) / 128 ^ i < c % 128
  ·rw [Var.get_bad hbad] at h;simp at h
  ·by_cases hl:c < 128
   ·rw [Var.get_last hbad hl] at h;simp only [Prod.mk.injEq] at h;obtain ⟨h1,h2,-⟩:=h;refine ⟨c,by rw [<- h1,Nat.mod_eq_of_lt hl],by rw [Var.put_low hl];simpa using h2.symm,by rw [Var.put_low hl];rfl,fun h0=>?_⟩;apply Nat.pos_of_ne_zero;intro e;exact hbad (.inr (.inl ⟨h0,e⟩))
   ·rw [Var.get_next hbad hl] at h;obtain ⟨m,h1,h2,h3,h4⟩:=Var.get_canon g bs (i+1) _ v p (fun x hx=>hb x (List.mem_cons_of_mem _ hx)) h;have hm:=h4 (by omega);have e1:Var.put (c % 128+128 * m)=c::Var.put m:=by
     rw [Var.put_more (by omega)]
     congr 1
     ·omega
     ·congr 1;omega
    refine ⟨c % 128+128 * m,?_,?_,?_,fun _=>by omega⟩
    ·rw [h1,Nat.pow_succ,Nat.add_mul];generalize 128 ^ i=T;rw [Nat.mul_comm T 128,<- Nat.mul_assoc,Nat.mul_comm m 128];omega
    ·rw [e1,h2,List.length_cons];omega
    ·rw [e1,List.length_cons,List.take_succ_cons,h3]
theorem Var.take_val {g:Nat} {bs:List Nat} (hb:Bytes bs) (h:Var.err g bs=0):bs.take (Var.pos g bs)=Var.put (Var.val g bs):=by
 obtain ⟨m,h1,h2,h3,-⟩:=Var.get_canon g bs 0 0 (Var.val g bs) (Var.pos g bs) hb (by
  unfold Var.err at h;exact Prod.ext rfl (Prod.ext rfl h))
 have e:Var.val g bs=m:=by simpa using h1
 rw [e,h2,Nat.zero_add,h3]
def nxN (bs:List Nat) (p:Nat):Nat:=p+Var.pos 65535 (bs.drop p)
def erN (bs:List Nat) (p:Nat):Nat:=Var.err 65535 (bs.drop p)
def vlN (bs:List Nat) (p:Nat):Nat:=Var.val 65535 (bs.drop p)
def okT (bs:List Nat) (p:Nat):Prop:=erN bs p=0/\erN bs (nxN bs p)=0/\erN bs (nxN bs (nxN bs p))=0
def nx3 (bs:List Nat) (p:Nat):Nat:=nxN bs (nxN bs (nxN bs p))
def etN (bs:List Nat) (p:Nat):Et:=(((vlN bs p:Nat),(vlN bs (nxN bs p):Nat)),(vlN bs (nxN bs (nxN bs p)):Nat))
def plN (bs:List Nat):Nat->Nat
 | 0=>2
 | k+1=>nx3 bs (plN bs k)
def esN (bs:List Nat):Nat->List Et
 | 0=>[]
 | k+1=>esN bs k++[etN bs (plN bs k)]
theorem U9 (bs:List Nat):∀ k,(esN bs k).length=k
 | 0=>rfl
 | k+1=>by
  show (esN bs k++[_]).length=_;rw [List.length_append,U9 bs k];rfl
def gdN (bs:List Nat) (k:Nat):Prop:=∀ i,i < k->okT bs (plN bs i)
def lfN (bs:List Nat):Bool:=decide (bs.getD 0 0=1)
def ctN (bs:List Nat):Nat:=bs.getD 1 0
def G6 (bs:List Nat):Prop:=2<=bs.length/\bs.getD 0 0<=1/\gdN bs (ctN bs)/\plN bs (ctN bs)=bs.length/\AC (lfN bs) (esN bs (ctN bs))=0
open Classical in
noncomputable def ndE (bs:List Nat):Int:=if G6 bs then 0 else 3
open Classical in
noncomputable def ndL (bs:List Nat):Bool:=if G6 bs then lfN bs else false
open Classical in
noncomputable def ndS (bs:List Nat):List Et:=if G6 bs then esN bs (ctN bs) else []
theorem QB {bs:List Nat} (h:G6 bs):ndE bs=0:=if_pos h
theorem UR {bs:List Nat} (h:¬ G6 bs):ndE bs=3:=if_neg h
theorem JC {bs:List Nat} (h:G6 bs):ndL bs=lfN bs:=if_pos h
theorem aS {bs:List Nat} (h:¬ G6 bs):ndL bs=false:=if_neg h
theorem LX {bs:List Nat} (h:G6 bs):ndS bs=esN bs (ctN bs):=if_pos h
theorem aQ {bs:List Nat} (h:¬ G6 bs):ndS bs=[]:=if_neg h
theorem Bytes.dropN {bs:List Nat} (h:Bytes bs) (k:Nat):Bytes (bs.drop k):=fun x hx=>h x (List.mem_of_mem_drop hx)
theorem OZ {bs:List Nat} {p:Nat} (hb:Bytes bs) (h:erN bs p=0):bs.take (nxN bs p)=bs.take p++Var.put (vlN bs p):=by
 unfold nxN vlN;rw [List.take_add,Var.take_val (hb.dropN p) h]
theorem Uu {bs:List Nat} (hb:Bytes bs):∀ k,gdN bs k->bs.take (plN bs k)=bs.take 2++AP (esN bs k)
 | 0,_=>by simp [plN,esN,AP]
 | k+1,h=>by
  have ih:=Uu hb k fun i hi=>h i (by omega);obtain ⟨h1,h2,h3⟩:=h k (by omega);show bs.take (nxN bs (nxN bs (nxN bs (plN bs k))))=_++AP (esN bs k++[_]);rw [OZ hb h3,OZ hb h2,OZ hb h1,ih,EM];simp [DF,etN]
theorem bT {bs:List Nat} (hb:Bytes bs) (h:G6 bs):CY (ndL bs) (ndS bs)=bs:=by
 obtain ⟨h1,h2,h3,h4,h5⟩:=h;have ht:=Uu hb _ h3;rw [h4,List.take_length] at ht;rw [JC ⟨h1,h2,h3,h4,h5⟩,LX ⟨h1,h2,h3,h4,h5⟩];unfold CY;rw [U9];have e2:bs.take 2=[bs.getD 0 0,bs.getD 1 0]:=by
  match bs,h1 with
  | a::b::r,_=>rfl
 rw [e2] at ht;have e1:(if lfN bs=true then 1 else 0)=bs.getD 0 0:=by
  unfold lfN;by_cases hh:bs.getD 0 0=1
  ·rw [if_pos (decide_eq_true hh)];exact hh.symm
  ·rw [if_neg (by simpa using hh)];omega
 rw [e1];exact ht.symm
theorem Ue {B:List Nat} {p v:Nat} {rest:List Nat} (h:B.drop p=Var.put v++rest) (hv:v<=65535):erN B p=0/\vlN B p=v/\nxN B p=p+(Var.put v).length/\B.drop (nxN B p)=rest:=by
 have e:nxN B p=p+(Var.put v).length:=by unfold nxN;rw [h,Var.pos_put hv (by omega)]
 refine ⟨by unfold erN;rw [h,Var.err_put hv (by omega)],by unfold vlN;rw [h,Var.val_put hv (by omega)],e,?_⟩;rw [e,<- List.drop_drop,h,List.drop_left]
theorem Zk {B:List Nat} {p:Nat} {e:Et} {rest:List Nat} (h:B.drop p=DF e++rest) (he:okE e=true):okT B p/\etN B p=e/\nx3 B p=p+(DF e).length/\B.drop (nx3 B p)=rest:=by
 have hv:=okE_iff.1 he;unfold DF at h;rw [List.append_assoc,List.append_assoc] at h;obtain ⟨a1,a2,a3,a4⟩:=Ue h (by omega);obtain ⟨b1,b2,b3,b4⟩:=Ue a4 (by omega);obtain ⟨c1,c2,c3,c4⟩:=Ue b4 (by omega);refine ⟨⟨a1,b1,c1⟩,?_,?_,c4⟩
 ·unfold etN;rw [a2,b2,c2,Int.toNat_of_nonneg (by omega),Int.toNat_of_nonneg (by omega),Int.toNat_of_nonneg (by omega)]
 ·unfold nx3 DF;rw [c3,b3,a3,List.length_append,List.length_append];omega
theorem KP {es:List Et} {k:Nat} (h:k < es.length):AP (es.drop k)=DF (es.getD k et0)++AP (es.drop (k+1)):=by
 rw [List.drop_eq_getElem_cons h,List.getD_eq_getElem?_getD,List.getElem?_eq_getElem h];rfl
theorem YO {lf:Bool} {es:List Et} (hok:∀ e∈es,okE e=true):∀ k,k<=es.length->gdN (CY lf es) k/\esN (CY lf es) k=es.take k/\(CY lf es).drop (plN (CY lf es) k)=AP (es.drop k)/\plN (CY lf es) k=2+(AP (es.take k)).length
 | 0,_=>by
  refine ⟨fun i hi=>absurd hi (by omega),rfl,rfl,rfl⟩
 | k+1,hk=>by
  obtain ⟨i1,i2,i3,i4⟩:=YO (lf:=lf) hok k (by omega);rw [KP (by omega)] at i3;obtain ⟨j1,j2,j3,j4⟩:=Zk i3 (hok _ (Dx (by omega)));refine ⟨fun i hi=>?_,?_,j4,?_⟩
  ·by_cases h:i=k
   ·rw [h];exact j1
   ·exact i1 i (by omega)
  ·show esN (CY lf es) k++[etN _ _]=_;rw [i2,j2,DJ (d:=et0) (by omega)]
  ·show nx3 _ _=_;rw [j3,i4,DJ (d:=et0) (by omega),EM,List.length_append];omega
theorem MP (lf:Bool) (es:List Et):(CY lf es).length=2+(AP es).length:=by
 unfold CY;rw [List.length_append];rfl
theorem enc_dec {lf:Bool} {es:List Et} (h:AC lf es=0):G6 (CY lf es)/\ndE (CY lf es)=0/\ndL (CY lf es)=lf/\ndS (CY lf es)=es:=by
 obtain ⟨c1,c2,-,-⟩:=Bd h;have hok:=badN_false.1 c2;obtain ⟨h1,h2,h3,h4⟩:=YO (lf:=lf) hok es.length (Nat.le_refl _);have e1:ctN (CY lf es)=es.length:=rfl;have e2:lfN (CY lf es)=lf:=by cases lf<;>rfl
 rw [List.take_length] at h2 h4;have hG:G6 (CY lf es):=⟨by rw [MP];omega,by cases lf<;>simp [CY],by rw [e1];exact h1,by rw [e1,h4,MP],by rw [e1,e2,h2];exact h⟩
 exact ⟨hG,QB hG,by rw [JC hG,e2],by rw [LX hG,e1,h2]⟩
end Go.Inc
