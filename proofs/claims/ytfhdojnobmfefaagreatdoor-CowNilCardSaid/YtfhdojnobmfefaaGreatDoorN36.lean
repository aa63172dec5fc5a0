/- MADE SMALL. -/
import Derived.Test.YtfhdojnobmfefaaGreatDoorN35
import Derived.BigRegion
namespace Go.Proofs.YtfhdojnobmfefaaGreatDoor
open Go.RowKit Go.Inc
def Three (w4:World) (S:Nat) (x y z:Value) (wc:World) (A B C:List Bool):Prop:=
 ∃ g1 g2 g3,x=.slice (some ⟨g1,0,none⟩) S S/\y=.slice (some ⟨g2,0,none⟩) S S/\z=.slice (some ⟨g3,0,none⟩) S S/\g1≠g2/\g1≠g3/\g2≠g3/\w4.heap.size<=g1/\w4.heap.size<=g2/\w4.heap.size<=g3/\
  wc.ownsRow w4.heap.size 4 1 x S (bvals A)/\wc.ownsRow w4.heap.size 4 1 y S (bvals B)/\wc.ownsRow w4.heap.size 4 1 z S (bvals C)/\Below w4.heap.size w4 wc
theorem Three.drew {w4:World} {S:Nat} {x y z:Value} {wc:World} {A B C:List Bool} (h:Three w4 S x y z wc A B C):Three w4 S x y z wc.drew A B C:=by
 obtain ⟨g1,g2,g3,e1,e2,e3,n12,n13,n23,l1,l2,l3,r1,r2,r3,hb⟩:=h
 have m:Mv (fun _=>False) wc wc.drew:=(Mv.refl _ _).drew
 exact ⟨g1,g2,g3,e1,e2,e3,n12,n13,n23,l1,l2,l3,zQf r1 m (fun _ _=>id),zQf r2 m (fun _ _=>id),zQf r3 m (fun _ _=>id),hb.drew⟩
theorem Three.put {w4:World} {S g1 g2 g3 k:Nat} {wc:World} {A B C:List Bool} (h:Three w4 S (.slice (some ⟨g1,0,none⟩) S S) (.slice (some ⟨g2,0,none⟩) S S) (.slice (some ⟨g3,0,none⟩) S S) wc A B C) (x y z:Bool) :
  Three w4 S (.slice (some ⟨g1,0,none⟩) S S) (.slice (some ⟨g2,0,none⟩) S S) (.slice (some ⟨g3,0,none⟩) S S) (((wc.setCell ⟨g1,k,none⟩ (.bool x)).setCell ⟨g2,k,none⟩ (.bool y)).setCell ⟨g3,k,none⟩ (.bool z)) (A.set k x) (B.set k y) (C.set k z):=by
 obtain ⟨_,_,_,e1,e2,e3,n12,n13,n23,l1,l2,l3,r1,r2,r3,hb⟩:=h
 cases e1;cases e2;cases e3
 have s1:=r1.stored k (.bool x)
 have m1:Mv (fun i=>i=g1) wc (wc.setCell ⟨g1,k,none⟩ (.bool x)):=zZg (F:=fun i=>i=g1) (Mv.refl _ _) rfl _
 have r2':=zQf r2 m1 (fun i hi e=>by cases hi;exact n12 e.symm)
 have r3':=zQf r3 m1 (fun i hi e=>by cases hi;exact n13 e.symm)
 have s2:=r2'.stored k (.bool y)
 have m2:Mv (fun i=>i=g2) (wc.setCell ⟨g1,k,none⟩ (.bool x)) ((wc.setCell ⟨g1,k,none⟩ (.bool x)).setCell ⟨g2,k,none⟩ (.bool y)):=zZg (F:=fun i=>i=g2) (Mv.refl _ _) rfl _
 have r1':=zQf s1.1 m2 (fun i hi e=>by cases hi;exact n12 e)
 have r3'':=zQf r3' m2 (fun i hi e=>by cases hi;exact n23 e.symm)
 have s3:=r3''.stored k (.bool z)
 have m3:Mv (fun i=>i=g3) ((wc.setCell ⟨g1,k,none⟩ (.bool x)).setCell ⟨g2,k,none⟩ (.bool y)) (((wc.setCell ⟨g1,k,none⟩ (.bool x)).setCell ⟨g2,k,none⟩ (.bool y)).setCell ⟨g3,k,none⟩ (.bool z)):=zZg (F:=fun i=>i=g3) (Mv.refl _ _) rfl _
 have r1'':=zQf r1' m3 (fun i hi e=>by cases hi;exact n13 e)
 have r2'':=zQf s2.1 m3 (fun i hi e=>by cases hi;exact n23 e)
 refine ⟨g1,g2,g3,rfl,rfl,rfl,n12,n13,n23,l1,l2,l3,by rw [<- zQaq];exact r1'',by rw [<- zQaq];exact r2'',by rw [<- zQaq];exact s3.1,?_⟩
 exact ((hb.setCell (p:=⟨g1,k,none⟩) l1 _).setCell (p:=⟨g2,k,none⟩) l2 _).setCell (p:=⟨g3,k,none⟩) l3 _
def kd (ks:List Nat) (i:Nat):Nat:=ks.getD i 0
def mkK (n:Nat) (f:Nat->Nat):List Nat:=(List.range n).map f
theorem zQev (n:Nat) (f:Nat->Nat):(mkK n f).length=n:=by simp [mkK]
theorem zQga {n:Nat} {f:Nat->Nat} {i:Nat} (h:i < n):kd (mkK n f) i=f i:=by
 unfold kd mkK
 rw [List.getD_eq_getElem?_getD,List.getElem?_map,List.getElem?_range h];rfl
theorem zQpg {a b:List Nat} (hl:a.length=b.length) (h:∀ i,i < a.length->kd a i=kd b i):a=b:=by
 apply List.ext_getElem hl
 intro i h1 h2
 have:=h i h1
 unfold kd at this
 rw [List.getD_eq_getElem?_getD,List.getD_eq_getElem?_getD,List.getElem?_eq_getElem h1,List.getElem?_eq_getElem h2] at this
 exact this
theorem zQpa {ks:List Nat} {i:Nat} (h:i < ks.length) (k j:Nat):kd (ks.set i k) j=if j=i then k else kd ks j:=by
 unfold kd
 simp only [List.getD_eq_getElem?_getD,List.getElem?_set]
 by_cases hj:i=j
 ·subst hj;simp [h]
 ·have:¬ j=i:=fun h=>hj h.symm
  simp [hj,this]
theorem zQkn {ks:List Nat} {i:Nat} (f:Nat->Nat) (h:i < ks.length):kd (ks.map f) i=f (kd ks i):=by
 unfold kd
 rw [List.getD_eq_getElem?_getD,List.getD_eq_getElem?_getD,List.getElem?_map,List.getElem?_eq_getElem h];rfl
def setK (p:Nat->Bool) (ks:List Nat):List Bool:=ks.map p
theorem zQ6 (p:Nat->Bool) (ks:List Nat):(setK p ks).length=ks.length:=by simp [setK]
theorem zZi {p:Nat->Bool} {ks:List Nat} {i:Nat} (h:i < ks.length):inB (setK p ks) i=p (kd ks i):=by
 unfold inB setK kd
 rw [List.getD_eq_getElem?_getD,List.getD_eq_getElem?_getD,List.getElem?_map,List.getElem?_eq_getElem h];rfl
theorem zQb2 {p:Nat->Bool} {ks:List Nat} (i k:Nat):setK p (ks.set i k)=(setK p ks).set i (p k):=by unfold setK;rw [List.map_set]
theorem zKw {p:Nat->Bool} {ks:List Nat} {i k:Nat} (hi:i < ks.length) (h:p k=p (kd ks i)):setK p (ks.set i k)=setK p ks:=by
 apply zYx (by rw [zQ6,zQ6,List.length_set])
 intro j hj
 rw [zQ6,List.length_set] at hj
 rw [zZi (by rw [List.length_set];exact hj),zZi hj,zQpa hi]
 split
 ·rename_i e;rw [e];exact h
 ·rfl
def zQr (p:Nat->Bool) (ks:List Nat):List Nat:=zZc (fun i=>p (kd ks i)) ks.length
def intsK (p:Nat->Bool) (ks:List Nat):List Int:=(zQr p ks).map fun x:Nat=>(x:Int)
theorem pagesK_mem {p:Nat->Bool} {ks:List Nat} {i:Nat}:i∈zQr p ks↔i < ks.length/\p (kd ks i)=true:=zQhf
theorem intsK_mem {p:Nat->Bool} {ks:List Nat} {z:Int}:z∈intsK p ks↔∃ i:Nat,z=i/\i < ks.length/\p (kd ks i)=true:=by
 unfold intsK
 rw [List.mem_map]
 constructor
 ·rintro ⟨x,hx,rfl⟩;exact ⟨x,rfl,pagesK_mem.1 hx⟩
 ·rintro ⟨i,rfl,h⟩;exact ⟨i,pagesK_mem.2 h,rfl⟩
theorem zQa1 (p:Nat->Bool) (ks:List Nat):(zQr p ks).length<=ks.length:=zQhg _ _
theorem mem_snoc {l:List Int} {z i:Int}:i∈l++[z]↔i∈l\/i=z:=by simp
theorem zQds (b:Bool) (m:List Bool) (zs:List Int):∀ k,k<=zs.length->∀ i,i < m.length->inB (putTo b m zs k).1 i=if (i:Int)∈zs.take k then b else inB m i
 | 0,_,i,_=>by simp [putTo]
 | k+1,hk,i,hi=>by
  have ih:=zQds b m zs k (by omega) i hi
  have hl:=zZx b m zs k
  rw [zX5 (bs:=zs) (k:=k) (by omega)]
  unfold putTo
  generalize zs.getD k 0=z at *
  generalize putTo b m zs k=s at *
  simp only [mem_snoc]
  unfold setB
  split
  ·rename_i h
   obtain ⟨h1,h2,h3⟩:=h
   obtain ⟨q,rfl⟩:=Int.eq_ofNat_of_zero_le h1
   have hq:q < s.1.length:=by omega
   rw [show (Int.toNat (q:Int))=q from rfl]
   simp only
   rw [zYv hq]
   by_cases e:i=q
   ·subst e;simp
   ·have e2:¬ (i:Int)=(q:Int):=by omega
    simp only [e,e2,or_false,if_false]
    exact ih
  ·rename_i h
   by_cases e:(i:Int)=z
   ·subst e
    have h3:hasB s.1 (i:Int)=b:=by
     have:¬ (hasB s.1 (i:Int)≠b):=fun hne=>h ⟨by omega,by omega,hne⟩
     simpa using this
    rw [zJ0] at h3
    rw [h3]
    simp
   ·simp only [e,or_false]
    exact ih
theorem zQhq (b:Bool) (m:List Bool) (zs:List Int) {i:Nat} (hi:i < m.length):inB (putTo b m zs zs.length).1 i=if (i:Int)∈zs then b else inB m i:=by
 rw [zQds b m zs _ (Nat.le_refl _) i hi,List.take_length]
theorem zQc8 {b:Bool} {m:List Bool} {z:Nat} (hz:z < m.length):putTo b m [(z:Int)] [(z:Int)].length=if inB m z=b then (m,0) else (m.set z b,1):=by
 show setB b (m,0) (([(z:Int)]:List Int).getD 0 0)=_
 show setB b (m,0) (z:Int)=_
 unfold setB
 rw [zJ0]
 by_cases h:inB m z=b
 ·rw [if_neg (fun hh=>hh.2.2 h),if_pos h]
 ·rw [if_pos ⟨by omega,by simp only;omega,h⟩,if_neg h];rfl
structure Ks (ks:List Nat):Prop where
 n2:2<=ks.length
 n2048:ks.length<=2048
 k0:kd ks 0=0
 k1:kd ks 1=0
 rest:∀ i,2<=i->i < ks.length->1<=kd ks i/\kd ks i<=4
def isC (k:Nat):Bool:=decide (k=2)||decide (k=4)
def isS (k:Nat):Bool:=decide (k=3)
def isP (k:Nat):Bool:=decide (k=4)
def isF (k:Nat):Bool:=decide (k=1)
theorem isF_iff {k:Nat}:isF k=true↔k=1:=by simp [isF]
def mapK (f:Nat->Nat) (ks:List Nat):List Nat:=ks.map f
theorem zQcf (f:Nat->Nat) (ks:List Nat):(mapK f ks).length=ks.length:=by simp [mapK]
theorem Ks.map {ks:List Nat} (h:Ks ks) {f:Nat->Nat} (h0:f 0=0) (hf:∀ k,1<=k->k<=4->1<=f k/\f k<=4):Ks (mapK f ks):=by
 refine ⟨by rw [zQcf];exact h.n2,by rw [zQcf];exact h.n2048,?_,?_,?_⟩
 ·unfold mapK;rw [zQkn f (by have:=h.n2;omega),h.k0,h0]
 ·unfold mapK;rw [zQkn f (by have:=h.n2;omega),h.k1,h0]
 ·intro i h1 h2
  rw [zQcf] at h2
  unfold mapK;rw [zQkn f h2]
  exact hf _ (h.rest i h1 h2).1 (h.rest i h1 h2).2
def putK (ks:List Nat) (zs:List Int) (k:Nat):List Nat:=mkK ks.length fun i=>if (i:Int)∈zs then k else kd ks i
theorem zZq (ks:List Nat) (zs:List Int) (k:Nat):(putK ks zs k).length=ks.length:=zQev _ _
theorem zVq {ks:List Nat} {zs:List Int} {k i:Nat} (hi:i < ks.length):kd (putK ks zs k) i=if (i:Int)∈zs then k else kd ks i:=zQga hi
def gK (k:Nat):Nat:=if k=3 then 1 else 4
def giveK (ks:List Nat) (zs:List Int):List Nat:=mkK ks.length fun i=>if (i:Int)∈zs then gK (kd ks i) else kd ks i
theorem zZk (ks:List Nat) (zs:List Int):(giveK ks zs).length=ks.length:=zQev _ _
theorem zXx {ks:List Nat} {zs:List Int} {i:Nat} (hi:i < ks.length):kd (giveK ks zs) i=if (i:Int)∈zs then gK (kd ks i) else kd ks i:=zQga hi
theorem zQkx (ks:List Nat):giveK ks []=ks:=zQpg (zZk _ _) fun i hi=>by
 rw [zZk] at hi
 rw [zXx hi];simp
theorem zQdm {ks:List Nat} {zs:List Int} {z:Nat} (hz:z < ks.length) (hn:(z:Int)∉zs):kd (giveK ks zs) z=kd ks z:=by rw [zXx hz,if_neg hn]
theorem zQht {ks:List Nat} {zs:List Int} {z:Nat} (hz:z < ks.length):giveK ks (zs++[(z:Int)])=(giveK ks zs).set z (gK (kd ks z)):=zQpg (by rw [zZk,List.length_set,zZk]) fun i hi=>by
 rw [zZk] at hi
 rw [zXx hi,zQpa (by rw [zZk];exact hz),zXx hi]
 simp only [mem_snoc]
 by_cases h1:i=z
 ·simp [h1]
 ·have h2:¬ (i:Int)=(z:Int):=by omega
  simp [h1,h2]
def outR (n:Nat) (zs:List Int):Bool:=zs.any fun z=>decide (z < 2)||decide ((n:Int)<=z)
theorem zQdd {n:Nat} {zs:List Int} {z:Int} (hz:z∈zs) (h:z < 2\/(n:Int)<=z):outR n zs=true:=by
 unfold outR
 rw [List.any_eq_true]
 exact ⟨z,hz,by simpa using h⟩
theorem outR_false {n:Nat} {zs:List Int}:outR n zs=false↔∀ z∈zs,2<=z/\z < n:=by
 unfold outR
 rw [List.any_eq_false]
 constructor
 ·intro h z hz
  have:=h z hz
  simp at this
  omega
 ·intro h z hz
  have:=h z hz
  simp
  omega
theorem Ks.put {ks:List Nat} (h:Ks ks) {zs:List Int} {k:Nat} (hz:∀ z∈zs,2<=z/\z < (ks.length:Int)) (h1:1<=k) (h4:k<=4):Ks (putK ks zs k):=by
 refine ⟨by rw [zZq];exact h.n2,by rw [zZq];exact h.n2048,?_,?_,?_⟩
 ·rw [zVq (by have:=h.n2;omega),if_neg (fun hm=>by have:=hz _ hm;omega),h.k0]
 ·rw [zVq (by have:=h.n2;omega),if_neg (fun hm=>by have:=hz _ hm;omega),h.k1]
 ·intro i h2 h3
  rw [zZq] at h3
  rw [zVq h3]
  split
  ·exact ⟨h1,h4⟩
  ·exact h.rest i h2 h3
theorem Ks.give {ks:List Nat} (h:Ks ks) {zs:List Int} (hz:∀ z∈zs,2<=z/\z < (ks.length:Int)):Ks (giveK ks zs):=by
 refine ⟨by rw [zZk];exact h.n2,by rw [zZk];exact h.n2048,?_,?_,?_⟩
 ·rw [zXx (by have:=h.n2;omega),if_neg (fun hm=>by have:=hz _ hm;omega),h.k0]
 ·rw [zXx (by have:=h.n2;omega),if_neg (fun hm=>by have:=hz _ hm;omega),h.k1]
 ·intro i h2 h3
  rw [zZk] at h3
  rw [zXx h3]
  split
  ·unfold gK;split<;>omega
  ·exact h.rest i h2 h3
def chkE (ks:List Nat) (zs:List Int) (good:Nat->Bool) (wrong:Int):Int:=if outR ks.length zs=true then 10 else if (zs.all fun z=>good (kd ks z.toNat))=true/\zs.Nodup then 0 else wrong
theorem zQgo {ks:List Nat} {zs:List Int} {good:Nat->Bool} {wrong:Int} (h:outR ks.length zs=true):chkE ks zs good wrong=10:=if_pos h
theorem zQoq {ks:List Nat} {zs:List Int} {good:Nat->Bool} {wrong:Int} (h:outR ks.length zs=false) {z:Int} (hz:z∈zs) (hb:good (kd ks z.toNat)=false):chkE ks zs good wrong=wrong:=by
 unfold chkE
 rw [if_neg (by rw [h];decide),if_neg (fun hh=>by rw [List.all_eq_true.1 hh.1 z hz] at hb;cases hb)]
theorem zQh9 {ks:List Nat} {zs:List Int} {good:Nat->Bool} {wrong:Int} (h:outR ks.length zs=false) (hn:¬ zs.Nodup):chkE ks zs good wrong=wrong:=by
 unfold chkE
 rw [if_neg (by rw [h];decide),if_neg (fun hh=>hn hh.2)]
theorem zQfh {ks:List Nat} {zs:List Int} {good:Nat->Bool} {wrong:Int} (h:outR ks.length zs=false) (hg:∀ z∈zs,good (kd ks z.toNat)=true) (hn:zs.Nodup):chkE ks zs good wrong=0:=by
 unfold chkE
 rw [if_neg (by rw [h];decide),if_pos ⟨List.all_eq_true.2 hg,hn⟩]
theorem zYg {ks:List Nat} {zs:List Int} {good:Nat->Bool} {wrong:Int} (hw:wrong≠0) (h:chkE ks zs good wrong=0):(∀ z∈zs,2<=z/\z < (ks.length:Int))/\(∀ z∈zs,good (kd ks z.toNat)=true)/\zs.Nodup:=by
 unfold chkE at h
 split at h
 ·cases h
 ·rename_i ho
  split at h
  ·rename_i hg
   exact ⟨outR_false.1 (by simpa using ho),List.all_eq_true.1 hg.1,hg.2⟩
  ·exact absurd h hw
theorem nodup_snoc {l:List Int} {z:Int}:(l++[z]).Nodup↔l.Nodup/\z∉l:=by
 rw [List.nodup_append]
 constructor
 ·rintro ⟨h1,_,h3⟩
  exact ⟨h1,fun h=>h3 z h z (by simp) rfl⟩
 ·rintro ⟨h1,h2⟩
  refine ⟨h1,by simp,fun a ha b hb e=>?_⟩
  simp at hb
  subst hb;subst e
  exact h2 ha
theorem zQav {zs:List Int} {k:Nat} (h:¬ (zs.take k).Nodup):¬ zs.Nodup:=fun hn=>h (hn.sublist (List.take_sublist _ _))
theorem zKm {zs:List Int} {k:Nat} (h:k < zs.length):zs.getD k 0∈zs:=by
 rw [List.getD_eq_getElem?_getD,List.getElem?_eq_getElem h]
 exact List.getElem_mem h
def zZ9 (n:Nat):List Nat:=mkK n fun i=>if i < 2 then 0 else 1
theorem zZu (n:Nat):(zZ9 n).length=n:=zQev _ _
theorem zJr {n i:Nat} (h:i < n):kd (zZ9 n) i=if i < 2 then 0 else 1:=zQga h
theorem Ks.fresh {n:Nat} (h2:2<=n) (h:n<=2048):Ks (zZ9 n):=by
 refine ⟨by rw [zZu];exact h2,by rw [zZu];exact h,?_,?_,?_⟩
 iterate 2
  ·rw [zJr (by omega)];rfl
 ·intro i h1 h3
  rw [zZu] at h3
  rw [zJr h3,if_neg (by omega)]
  decide
theorem zVr {n:Nat} {p:Nat->Bool} (h0:p 0=false) (h1:p 1=false):setK p (zZ9 n)=List.replicate n false:=zYx (by rw [zQ6,zZu,List.length_replicate]) fun i hi=>by
 rw [zQ6] at hi
 rw [zZi hi,zQab]
 rw [zZu] at hi
 rw [zJr hi]
 split<;>assumption
end Go.Proofs.YtfhdojnobmfefaaGreatDoor
