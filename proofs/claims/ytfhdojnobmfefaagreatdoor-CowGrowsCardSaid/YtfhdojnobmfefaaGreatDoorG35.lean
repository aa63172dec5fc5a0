/- MADE SMALL. -/
import Derived.Test.YtfhdojnobmfefaaGreatDoorG34
import Derived.BigRegion
namespace Go.Proofs.YtfhdojnobmfefaaGreatDoor
open Go.RowKit Go.Inc
def RP (w4:World) (S:Nat) (x y z:Value) (wc:World) (A B C:List Bool):Prop:=
 ∃ g1 g2 g3,x=.slice (some ⟨g1,0,none⟩) S S/\y=.slice (some ⟨g2,0,none⟩) S S/\z=.slice (some ⟨g3,0,none⟩) S S/\g1≠g2/\g1≠g3/\g2≠g3/\w4.heap.size<=g1/\w4.heap.size<=g2/\w4.heap.size<=g3/\
  wc.ownsRow w4.heap.size 4 1 x S (Zz A)/\wc.ownsRow w4.heap.size 4 1 y S (Zz B)/\wc.ownsRow w4.heap.size 4 1 z S (Zz C)/\Below w4.heap.size w4 wc
def kd (ks:List Nat) (i:Nat):Nat:=ks.getD i 0
def mkK (n:Nat) (f:Nat->Nat):List Nat:=(List.range n).map f
theorem PE (n:Nat) (f:Nat->Nat):(mkK n f).length=n:=by simp [mkK]
theorem PL {n:Nat} {f:Nat->Nat} {i:Nat} (h:i < n):kd (mkK n f) i=f i:=by
 unfold kd mkK;rw [List.getD_eq_getElem?_getD,List.getElem?_map,List.getElem?_range h];rfl
theorem Y2 {a b:List Nat} (hl:a.length=b.length) (h:∀ i,i < a.length->kd a i=kd b i):a=b:=by
 apply List.ext_getElem hl;intro i h1 h2;have:=h i h1;unfold kd at this;rw [List.getD_eq_getElem?_getD,List.getD_eq_getElem?_getD,List.getElem?_eq_getElem h1,List.getElem?_eq_getElem h2] at this;exact this
theorem YI {ks:List Nat} {i:Nat} (h:i < ks.length) (k j:Nat):kd (ks.set i k) j=if j=i then k else kd ks j:=by
 unfold kd;simp only [List.getD_eq_getElem?_getD,List.getElem?_set];by_cases hj:i=j
 ·subst hj;simp [h]
 ·have:¬ j=i:=fun h=>hj h.symm;simp [hj,this]
def AC (p:Nat->Bool) (ks:List Nat):List Bool:=ks.map p
theorem A7 (p:Nat->Bool) (ks:List Nat):(AC p ks).length=ks.length:=by simp [AC]
theorem BA {p:Nat->Bool} {ks:List Nat} {i:Nat} (h:i < ks.length):inB (AC p ks) i=p (kd ks i):=by
 unfold inB AC kd;rw [List.getD_eq_getElem?_getD,List.getD_eq_getElem?_getD,List.getElem?_map,List.getElem?_eq_getElem h];rfl
theorem LQ {p:Nat->Bool} {ks:List Nat} (i k:Nat):AC p (ks.set i k)=(AC p ks).set i (p k):=by unfold AC;rw [List.map_set]
theorem J5 {p:Nat->Bool} {ks:List Nat} {i k:Nat} (hi:i < ks.length) (h:p k=p (kd ks i)):AC p (ks.set i k)=AC p ks:=by
 apply IR (by rw [A7,A7,List.length_set]);intro j hj;rw [A7,List.length_set] at hj;rw [BA (by rw [List.length_set];exact hj),BA hj,YI hi];split
 ·rename_i e;rw [e];exact h
 ·rfl
def Az (p:Nat->Bool) (ks:List Nat):List Nat:=Bc (fun i=>p (kd ks i)) ks.length
theorem V5 (p:Nat->Bool) (ks:List Nat):Bc (inB (AC p ks)) (AC p ks).length=Az p ks:=by
 rw [A7];exact JG fun i hi=>BA hi
def U7 (p:Nat->Bool) (ks:List Nat):List Int:=(Az p ks).map fun x:Nat=>(x:Int)
theorem pagesK_mem {p:Nat->Bool} {ks:List Nat} {i:Nat}:i∈Az p ks↔i < ks.length/\p (kd ks i)=true:=Tj
theorem intsK_mem {p:Nat->Bool} {ks:List Nat} {z:Int}:z∈U7 p ks↔∃ i:Nat,z=i/\i < ks.length/\p (kd ks i)=true:=by
 unfold U7;rw [List.mem_map];constructor
 ·rintro ⟨x,hx,rfl⟩;exact ⟨x,rfl,pagesK_mem.1 hx⟩
 ·rintro ⟨i,rfl,h⟩;exact ⟨i,pagesK_mem.2 h,rfl⟩
theorem Mc (p:Nat->Bool) (ks:List Nat):(Az p ks).length<=ks.length:=GN _ _
theorem mem_snoc {l:List Int} {z i:Int}:i∈l++[z]↔i∈l\/i=z:=by simp
theorem OI (b:Bool) (m:List Bool) (zs:List Int):∀ k,k<=zs.length->∀ i,i < m.length->inB (Bh b m zs k).1 i=if (i:Int)∈zs.take k then b else inB m i
 | 0,_,i,_=>by simp [Bh]
 | k+1,hk,i,hi=>by
  have ih:=OI b m zs k (by omega) i hi;have hl:=Dy b m zs k;rw [FD (bs:=zs) (k:=k) (by omega)];unfold Bh;generalize zs.getD k 0=z at *
  generalize Bh b m zs k=s at *
  simp only [mem_snoc];unfold Pn;split
  ·rename_i h
   obtain ⟨h1,h2,h3⟩:=h;obtain ⟨q,rfl⟩:=Int.eq_ofNat_of_zero_le h1;have hq:q < s.1.length:=by omega
   rw [show (Int.toNat (q:Int))=q from rfl];simp only;rw [IL hq];by_cases e:i=q
   ·subst e;simp
   ·have e2:¬ (i:Int)=(q:Int):=by omega
    simp only [e,e2,or_false,if_false];exact ih
  ·rename_i h
   by_cases e:(i:Int)=z
   ·subst e;have h3:FV s.1 (i:Int)=b:=by
     have:¬ (FV s.1 (i:Int)≠b):=fun hne=>h ⟨by omega,by omega,hne⟩;simpa using this
    rw [Ei] at h3;rw [h3];simp
   ·simp only [e,or_false];exact ih
theorem TG (b:Bool) (m:List Bool) (zs:List Int) {i:Nat} (hi:i < m.length):inB (Bh b m zs zs.length).1 i=if (i:Int)∈zs then b else inB m i:=by
 rw [OI b m zs _ (Nat.le_refl _) i hi,List.take_length]
theorem Ou {b:Bool} {m:List Bool} {z:Nat} (hz:z < m.length):Bh b m [(z:Int)] [(z:Int)].length=if inB m z=b then (m,0) else (m.set z b,1):=by
 show Pn b (m,0) (([(z:Int)]:List Int).getD 0 0)=_;show Pn b (m,0) (z:Int)=_;unfold Pn;rw [Ei];by_cases h:inB m z=b
 ·rw [if_neg (fun hh=>hh.2.2 h),if_pos h]
 ·rw [if_pos ⟨by omega,by simp only;omega,h⟩,if_neg h];rfl
structure Ks (ks:List Nat):Prop where
 n2:2<=ks.length
 n2048:ks.length<=2048
 k0:kd ks 0=0
 k1:kd ks 1=0
 rest:∀ i,2<=i->i < ks.length->1<=kd ks i/\kd ks i<=4
def isC (k:Nat):Bool:=decide (k=2)||decide (k=4)
def isS (k:Nat):Bool:=decide (k=3)
def isP (k:Nat):Bool:=decide (k=4)
def isF (k:Nat):Bool:=decide (k=1)
theorem isS_iff {k:Nat}:isS k=true↔k=3:=by simp [isS]
theorem isP_iff {k:Nat}:isP k=true↔k=4:=by simp [isP]
theorem isF_iff {k:Nat}:isF k=true↔k=1:=by simp [isF]
def NW (ks:List Nat) (zs:List Int) (k:Nat):List Nat:=mkK ks.length fun i=>if (i:Int)∈zs then k else kd ks i
theorem Ci (ks:List Nat) (zs:List Int) (k:Nat):(NW ks zs k).length=ks.length:=PE _ _
theorem GY {ks:List Nat} {zs:List Int} {k i:Nat} (hi:i < ks.length):kd (NW ks zs k) i=if (i:Int)∈zs then k else kd ks i:=PL hi
def gK (k:Nat):Nat:=if k=3 then 1 else 4
def Il (ks:List Nat) (zs:List Int):List Nat:=mkK ks.length fun i=>if (i:Int)∈zs then gK (kd ks i) else kd ks i
theorem Cj (ks:List Nat) (zs:List Int):(Il ks zs).length=ks.length:=PE _ _
theorem EP {ks:List Nat} {zs:List Int} {i:Nat} (hi:i < ks.length):kd (Il ks zs) i=if (i:Int)∈zs then gK (kd ks i) else kd ks i:=PL hi
theorem WF (ks:List Nat):Il ks []=ks:=Y2 (Cj _ _) fun i hi=>by
 rw [Cj] at hi;rw [EP hi];simp
theorem PM {ks:List Nat} {zs:List Int} {z:Nat} (hz:z < ks.length) (hn:(z:Int)∉zs):kd (Il ks zs) z=kd ks z:=by rw [EP hz,if_neg hn]
theorem TL {ks:List Nat} {zs:List Int} {z:Nat} (hz:z < ks.length):Il ks (zs++[(z:Int)])=(Il ks zs).set z (gK (kd ks z)):=Y2 (by rw [Cj,List.length_set,Cj]) fun i hi=>by
 rw [Cj] at hi;rw [EP hi,YI (by rw [Cj];exact hz),EP hi];simp only [mem_snoc];by_cases h1:i=z
 ·simp [h1]
 ·have h2:¬ (i:Int)=(z:Int):=by omega
  simp [h1,h2]
def MB (n:Nat) (zs:List Int):Bool:=zs.any fun z=>decide (z < 2)||decide ((n:Int)<=z)
theorem Oz {n:Nat} {zs:List Int} {z:Int} (hz:z∈zs) (h:z < 2\/(n:Int)<=z):MB n zs=true:=by
 unfold MB;rw [List.any_eq_true];exact ⟨z,hz,by simpa using h⟩
theorem outR_false {n:Nat} {zs:List Int}:MB n zs=false↔∀ z∈zs,2<=z/\z < n:=by
 unfold MB;rw [List.any_eq_false];constructor
 ·intro h z hz;have:=h z hz;simp at this;omega
 ·intro h z hz;have:=h z hz;simp;omega
theorem Ks.put {ks:List Nat} (h:Ks ks) {zs:List Int} {k:Nat} (hz:∀ z∈zs,2<=z/\z < (ks.length:Int)) (h1:1<=k) (h4:k<=4):Ks (NW ks zs k):=by
 refine ⟨by rw [Ci];exact h.n2,by rw [Ci];exact h.n2048,?_,?_,?_⟩
 ·rw [GY (by have:=h.n2;omega),if_neg (fun hm=>by have:=hz _ hm;omega),h.k0]
 ·rw [GY (by have:=h.n2;omega),if_neg (fun hm=>by have:=hz _ hm;omega),h.k1]
 ·intro i h2 h3;rw [Ci] at h3;rw [GY h3];split
  ·exact ⟨h1,h4⟩
  ·exact h.rest i h2 h3
theorem Ks.give {ks:List Nat} (h:Ks ks) {zs:List Int} (hz:∀ z∈zs,2<=z/\z < (ks.length:Int)):Ks (Il ks zs):=by
 refine ⟨by rw [Cj];exact h.n2,by rw [Cj];exact h.n2048,?_,?_,?_⟩
 ·rw [EP (by have:=h.n2;omega),if_neg (fun hm=>by have:=hz _ hm;omega),h.k0]
 ·rw [EP (by have:=h.n2;omega),if_neg (fun hm=>by have:=hz _ hm;omega),h.k1]
 ·intro i h2 h3;rw [Cj] at h3;rw [EP h3];split
  ·unfold gK;split<;>omega
  ·exact h.rest i h2 h3
def E8 (ks:List Nat) (zs:List Int) (good:Nat->Bool) (wrong:Int):Int:=if MB ks.length zs=true then 10 else if (zs.all fun z=>good (kd ks z.toNat))=true/\zs.Nodup then 0 else wrong
theorem Rw {ks:List Nat} {zs:List Int} {good:Nat->Bool} {wrong:Int} (h:MB ks.length zs=true):E8 ks zs good wrong=10:=if_pos h
theorem Zt {ks:List Nat} {zs:List Int} {good:Nat->Bool} {wrong:Int} (h:MB ks.length zs=false) {z:Int} (hz:z∈zs) (hb:good (kd ks z.toNat)=false):E8 ks zs good wrong=wrong:=by
 unfold E8;rw [if_neg (by rw [h];decide),if_neg (fun hh=>by rw [List.all_eq_true.1 hh.1 z hz] at hb;cases hb)]
theorem Uj {ks:List Nat} {zs:List Int} {good:Nat->Bool} {wrong:Int} (h:MB ks.length zs=false) (hn:¬ zs.Nodup):E8 ks zs good wrong=wrong:=by
 unfold E8;rw [if_neg (by rw [h];decide),if_neg (fun hh=>hn hh.2)]
theorem PX {ks:List Nat} {zs:List Int} {good:Nat->Bool} {wrong:Int} (h:MB ks.length zs=false) (hg:∀ z∈zs,good (kd ks z.toNat)=true) (hn:zs.Nodup):E8 ks zs good wrong=0:=by
 unfold E8;rw [if_neg (by rw [h];decide),if_pos ⟨List.all_eq_true.2 hg,hn⟩]
theorem IY {ks:List Nat} {zs:List Int} {good:Nat->Bool} {wrong:Int} (hw:wrong≠0) (h:E8 ks zs good wrong=0):(∀ z∈zs,2<=z/\z < (ks.length:Int))/\(∀ z∈zs,good (kd ks z.toNat)=true)/\zs.Nodup:=by
 unfold E8 at h;split at h
 ·cases h
 ·rename_i ho
  split at h
  ·rename_i hg
   exact ⟨outR_false.1 (by simpa using ho),List.all_eq_true.1 hg.1,hg.2⟩
  ·exact absurd h hw
theorem nodup_snoc {l:List Int} {z:Int}:(l++[z]).Nodup↔l.Nodup/\z∉l:=by
 rw [List.nodup_append];constructor
 ·rintro ⟨h1,_,h3⟩;exact ⟨h1,fun h=>h3 z h z (by simp) rfl⟩
 ·rintro ⟨h1,h2⟩;refine ⟨h1,by simp,fun a ha b hb e=>?_⟩;simp at hb;subst hb;subst e;exact h2 ha
theorem MI {zs:List Int} {k:Nat} (h:¬ (zs.take k).Nodup):¬ zs.Nodup:=fun hn=>h (hn.sublist (List.take_sublist _ _))
theorem JM {zs:List Int} {k:Nat} (h:k < zs.length):zs.getD k 0∈zs:=by
 rw [List.getD_eq_getElem?_getD,List.getElem?_eq_getElem h];exact List.getElem_mem h
def Dt (n:Nat):List Nat:=mkK n fun i=>if i < 2 then 0 else 1
theorem CO (n:Nat):(Dt n).length=n:=PE _ _
theorem Gp {n i:Nat} (h:i < n):kd (Dt n) i=if i < 2 then 0 else 1:=PL h
theorem Ks.fresh {n:Nat} (h2:2<=n) (h:n<=2048):Ks (Dt n):=by
 refine ⟨by rw [CO];exact h2,by rw [CO];exact h,?_,?_,?_⟩
 iterate 2
  ·rw [Gp (by omega)];rfl
 ·intro i h1 h3;rw [CO] at h3;rw [Gp h3,if_neg (by omega)];decide
theorem Ip {n:Nat} {p:Nat->Bool} (h0:p 0=false) (h1:p 1=false):AC p (Dt n)=List.replicate n false:=IR (by rw [A7,CO,List.length_replicate]) fun i hi=>by
 rw [A7] at hi;rw [BA hi,Kv];rw [CO] at hi;rw [Gp hi];split<;>assumption
end Go.Proofs.YtfhdojnobmfefaaGreatDoor
