/- MADE SMALL. -/
import Derived.Test.YtfhdojnobmfefaaGreatDoorK33
import Derived.BigRegion
namespace Go.Proofs.YtfhdojnobmfefaaGreatDoor
open Go.RowKit Go.Inc
def RG (w4:World) (S:Nat) (x y z:Value) (wc:World) (A B C:List Bool):Prop:=
 ∃ g1 g2 g3,x=.slice (some ⟨g1,0,none⟩) S S/\y=.slice (some ⟨g2,0,none⟩) S S/\z=.slice (some ⟨g3,0,none⟩) S S/\g1≠g2/\g1≠g3/\g2≠g3/\w4.heap.size<=g1/\w4.heap.size<=g2/\w4.heap.size<=g3/\
  wc.ownsRow w4.heap.size 4 1 x S (Zg A)/\wc.ownsRow w4.heap.size 4 1 y S (Zg B)/\wc.ownsRow w4.heap.size 4 1 z S (Zg C)/\Below w4.heap.size w4 wc
def kd (ks:List Nat) (i:Nat):Nat:=ks.getD i 0
def mkK (n:Nat) (f:Nat->Nat):List Nat:=(List.range n).map f
theorem Pn (n:Nat) (f:Nat->Nat):(mkK n f).length=n:=by simp [mkK]
theorem Px {n:Nat} {f:Nat->Nat} {i:Nat} (h:i < n):kd (mkK n f) i=f i:=by
 unfold kd mkK;rw [List.getD_eq_getElem?_getD,List.getElem?_map,List.getElem?_range h];rfl
theorem YK {a b:List Nat} (hl:a.length=b.length) (h:∀ i,i < a.length->kd a i=kd b i):a=b:=by
 apply List.ext_getElem hl;intro i h1 h2;have:=h i h1;unfold kd at this;rw [List.getD_eq_getElem?_getD,List.getD_eq_getElem?_getD,List.getElem?_eq_getElem h1,List.getElem?_eq_getElem h2] at this;exact this
theorem Yn {ks:List Nat} {i:Nat} (h:i < ks.length) (k j:Nat):kd (ks.set i k) j=if j=i then k else kd ks j:=by
 unfold kd;simp only [List.getD_eq_getElem?_getD,List.getElem?_set];by_cases hj:i=j
 ·subst hj;simp [h]
 ·have:¬ j=i:=fun h=>hj h.symm;simp [hj,this]
theorem Ko {ks:List Nat} {i:Nat} (f:Nat->Nat) (h:i < ks.length):kd (ks.map f) i=f (kd ks i):=by
 unfold kd;rw [List.getD_eq_getElem?_getD,List.getD_eq_getElem?_getD,List.getElem?_map,List.getElem?_eq_getElem h];rfl
def Bo (p:Nat->Bool) (ks:List Nat):List Bool:=ks.map p
theorem AQ (p:Nat->Bool) (ks:List Nat):(Bo p ks).length=ks.length:=by simp [Bo]
theorem BA {p:Nat->Bool} {ks:List Nat} {i:Nat} (h:i < ks.length):inB (Bo p ks) i=p (kd ks i):=by
 unfold inB Bo kd;rw [List.getD_eq_getElem?_getD,List.getD_eq_getElem?_getD,List.getElem?_map,List.getElem?_eq_getElem h];rfl
theorem Lt {p:Nat->Bool} {ks:List Nat} (i k:Nat):Bo p (ks.set i k)=(Bo p ks).set i (p k):=by unfold Bo;rw [List.map_set]
theorem JX {p:Nat->Bool} {ks:List Nat} {i k:Nat} (hi:i < ks.length) (h:p k=p (kd ks i)):Bo p (ks.set i k)=Bo p ks:=by
 apply E8 (by rw [AQ,AQ,List.length_set]);intro j hj;rw [AQ,List.length_set] at hj;rw [BA (by rw [List.length_set];exact hj),BA hj,Yn hi];split
 ·rename_i e;rw [e];exact h
 ·rfl
def AA (p:Nat->Bool) (ks:List Nat):List Nat:=AO (fun i=>p (kd ks i)) ks.length
theorem VU (p:Nat->Bool) (ks:List Nat):AO (inB (Bo p ks)) (Bo p ks).length=AA p ks:=by
 rw [AQ];exact Pi fun i hi=>BA hi
def BN (p:Nat->Bool) (ks:List Nat):List Int:=(AA p ks).map fun x:Nat=>(x:Int)
theorem SY (p:Nat->Bool) (ks:List Nat):D6 (Bo p ks)=BN p ks:=by unfold D6 BN;rw [VU]
theorem pagesK_mem {p:Nat->Bool} {ks:List Nat} {i:Nat}:i∈AA p ks↔i < ks.length/\p (kd ks i)=true:=numsTo_mem
theorem intsK_mem {p:Nat->Bool} {ks:List Nat} {z:Int}:z∈BN p ks↔∃ i:Nat,z=i/\i < ks.length/\p (kd ks i)=true:=by
 unfold BN;rw [List.mem_map];constructor
 ·rintro ⟨x,hx,rfl⟩;exact ⟨x,rfl,pagesK_mem.1 hx⟩
 ·rintro ⟨i,rfl,h⟩;exact ⟨i,pagesK_mem.2 h,rfl⟩
theorem NJ {p:Nat->Bool} {ks:List Nat} {i:Nat}:((i:Int)∈BN p ks)↔(i < ks.length/\p (kd ks i)=true):=by
 rw [intsK_mem];constructor
 ·rintro ⟨x,h,h1⟩;obtain rfl:i=x:=by omega
  exact h1
 ·intro h;exact ⟨i,rfl,h⟩
theorem Ou (p:Nat->Bool) (ks:List Nat):(BN p ks).length=(AA p ks).length:=by simp [BN]
theorem GH (p:Nat->Bool) (ks:List Nat):(AA p ks).length<=ks.length:=I9 _ _
theorem mem_snoc {l:List Int} {z i:Int}:i∈l++[z]↔i∈l\/i=z:=by simp
theorem Oy (b:Bool) (m:List Bool) (zs:List Int):∀ k,k<=zs.length->∀ i,i < m.length->inB (Ba b m zs k).1 i=if (i:Int)∈zs.take k then b else inB m i
 | 0,_,i,_=>by simp [Ba]
 | k+1,hk,i,hi=>by
  have ih:=Oy b m zs k (by omega) i hi;have hl:=Bv b m zs k;rw [Ff (bs:=zs) (k:=k) (by omega)];unfold Ba;generalize zs.getD k 0=z at *
  generalize Ba b m zs k=s at *
  simp only [mem_snoc];unfold O7;split
  ·rename_i h
   obtain ⟨h1,h2,h3⟩:=h;obtain ⟨q,rfl⟩:=Int.eq_ofNat_of_zero_le h1;have hq:q < s.1.length:=by omega
   rw [show (Int.toNat (q:Int))=q from rfl];simp only;rw [IE hq];by_cases e:i=q
   ·subst e;simp
   ·have e2:¬ (i:Int)=(q:Int):=by omega
    simp only [e,e2,or_false,if_false];exact ih
  ·rename_i h
   by_cases e:(i:Int)=z
   ·subst e;have h3:G9 s.1 (i:Int)=b:=by
     have:¬ (G9 s.1 (i:Int)≠b):=fun hne=>h ⟨by omega,by omega,hne⟩;simpa using this
    rw [Gi] at h3;rw [h3];simp
   ·simp only [e,or_false];exact ih
theorem GX (b:Bool) (m:List Bool) (zs:List Int) {i:Nat} (hi:i < m.length):inB (Ba b m zs zs.length).1 i=if (i:Int)∈zs then b else inB m i:=by
 rw [Oy b m zs _ (Nat.le_refl _) i hi,List.take_length]
theorem N9 {b:Bool} {m:List Bool} {z:Nat} (hz:z < m.length):Ba b m [(z:Int)] [(z:Int)].length=if inB m z=b then (m,0) else (m.set z b,1):=by
 show O7 b (m,0) (([(z:Int)]:List Int).getD 0 0)=_;show O7 b (m,0) (z:Int)=_;unfold O7;rw [Gi];by_cases h:inB m z=b
 ·rw [if_neg (fun hh=>hh.2.2 h),if_pos h]
 ·rw [if_pos ⟨by omega,by simp only;omega,h⟩,if_neg h];rfl
structure Ks (ks:List Nat):Prop where
 n2:2<=ks.length
 n2048:ks.length<=2048
 k0:kd ks 0=0
 k1:kd ks 1=0
 rest:∀ i,2<=i->i < ks.length->1<=kd ks i/\kd ks i<=4
def isC (k:Nat):Bool:=decide (k=2)||decide (k=4)
def isS (k:Nat):Bool:=decide (k=3)
def isP (k:Nat):Bool:=decide (k=4)
def isF (k:Nat):Bool:=decide (k=1)
theorem aW {k:Nat}:isS k=true↔k=3:=by simp [isS]
theorem aX {k:Nat}:isP k=true↔k=4:=by simp [isP]
theorem isF_iff {k:Nat}:isF k=true↔k=1:=by simp [isF]
def F6 (f:Nat->Nat) (ks:List Nat):List Nat:=ks.map f
theorem Ef (f:Nat->Nat) (ks:List Nat):(F6 f ks).length=ks.length:=by simp [F6]
def cK (k:Nat):Nat:=if k=4 then 1 else if k=3 then 2 else k
theorem Ks.map {ks:List Nat} (h:Ks ks) {f:Nat->Nat} (h0:f 0=0) (hf:∀ k,1<=k->k<=4->1<=f k/\f k<=4):Ks (F6 f ks):=by
 refine ⟨by rw [Ef];exact h.n2,by rw [Ef];exact h.n2048,?_,?_,?_⟩
 ·unfold F6;rw [Ko f (by have:=h.n2;omega),h.k0,h0]
 ·unfold F6;rw [Ko f (by have:=h.n2;omega),h.k1,h0]
 ·intro i h1 h2;rw [Ef] at h2;unfold F6;rw [Ko f h2];exact hf _ (h.rest i h1 h2).1 (h.rest i h1 h2).2
theorem Ks.commit {ks:List Nat} (h:Ks ks):Ks (F6 cK ks):=h.map rfl fun k h1 h2=>by
 obtain rfl | rfl | rfl | rfl:k=1\/k=2\/k=3\/k=4:=by omega
 all_goals decide
def NE (ks:List Nat) (zs:List Int) (k:Nat):List Nat:=mkK ks.length fun i=>if (i:Int)∈zs then k else kd ks i
theorem CJ (ks:List Nat) (zs:List Int) (k:Nat):(NE ks zs k).length=ks.length:=Pn _ _
theorem GU {ks:List Nat} {zs:List Int} {k i:Nat} (hi:i < ks.length):kd (NE ks zs k) i=if (i:Int)∈zs then k else kd ks i:=Px hi
def gK (k:Nat):Nat:=if k=3 then 1 else 4
def Ig (ks:List Nat) (zs:List Int):List Nat:=mkK ks.length fun i=>if (i:Int)∈zs then gK (kd ks i) else kd ks i
theorem Cm (ks:List Nat) (zs:List Int):(Ig ks zs).length=ks.length:=Pn _ _
theorem EH {ks:List Nat} {zs:List Int} {i:Nat} (hi:i < ks.length):kd (Ig ks zs) i=if (i:Int)∈zs then gK (kd ks i) else kd ks i:=Px hi
theorem Wp (ks:List Nat):Ig ks []=ks:=YK (Cm _ _) fun i hi=>by
 rw [Cm] at hi;rw [EH hi];simp
theorem Py {ks:List Nat} {zs:List Int} {z:Nat} (hz:z < ks.length) (hn:(z:Int)∉zs):kd (Ig ks zs) z=kd ks z:=by rw [EH hz,if_neg hn]
theorem TA {ks:List Nat} {zs:List Int} {z:Nat} (hz:z < ks.length):Ig ks (zs++[(z:Int)])=(Ig ks zs).set z (gK (kd ks z)):=YK (by rw [Cm,List.length_set,Cm]) fun i hi=>by
 rw [Cm] at hi;rw [EH hi,Yn (by rw [Cm];exact hz),EH hi];simp only [mem_snoc];by_cases h1:i=z
 ·simp [h1]
 ·have h2:¬ (i:Int)=(z:Int):=by omega
  simp [h1,h2]
def LP (n:Nat) (zs:List Int):Bool:=zs.any fun z=>decide (z < 2)||decide ((n:Int)<=z)
theorem Og {n:Nat} {zs:List Int} {z:Int} (hz:z∈zs) (h:z < 2\/(n:Int)<=z):LP n zs=true:=by
 unfold LP;rw [List.any_eq_true];exact ⟨z,hz,by simpa using h⟩
theorem outR_false {n:Nat} {zs:List Int}:LP n zs=false↔∀ z∈zs,2<=z/\z < n:=by
 unfold LP;rw [List.any_eq_false];constructor
 ·intro h z hz;have:=h z hz;simp at this;omega
 ·intro h z hz;have:=h z hz;simp;omega
theorem Ks.put {ks:List Nat} (h:Ks ks) {zs:List Int} {k:Nat} (hz:∀ z∈zs,2<=z/\z < (ks.length:Int)) (h1:1<=k) (h4:k<=4):Ks (NE ks zs k):=by
 refine ⟨by rw [CJ];exact h.n2,by rw [CJ];exact h.n2048,?_,?_,?_⟩
 ·rw [GU (by have:=h.n2;omega),if_neg (fun hm=>by have:=hz _ hm;omega),h.k0]
 ·rw [GU (by have:=h.n2;omega),if_neg (fun hm=>by have:=hz _ hm;omega),h.k1]
 ·intro i h2 h3;rw [CJ] at h3;rw [GU h3];split
  ·exact ⟨h1,h4⟩
  ·exact h.rest i h2 h3
theorem Ks.give {ks:List Nat} (h:Ks ks) {zs:List Int} (hz:∀ z∈zs,2<=z/\z < (ks.length:Int)):Ks (Ig ks zs):=by
 refine ⟨by rw [Cm];exact h.n2,by rw [Cm];exact h.n2048,?_,?_,?_⟩
 ·rw [EH (by have:=h.n2;omega),if_neg (fun hm=>by have:=hz _ hm;omega),h.k0]
 ·rw [EH (by have:=h.n2;omega),if_neg (fun hm=>by have:=hz _ hm;omega),h.k1]
 ·intro i h2 h3;rw [Cm] at h3;rw [EH h3];split
  ·unfold gK;split<;>omega
  ·exact h.rest i h2 h3
def ES (ks:List Nat) (zs:List Int) (good:Nat->Bool) (wrong:Int):Int:=if LP ks.length zs=true then 10 else if (zs.all fun z=>good (kd ks z.toNat))=true/\zs.Nodup then 0 else wrong
theorem Rk {ks:List Nat} {zs:List Int} {good:Nat->Bool} {wrong:Int} (h:LP ks.length zs=true):ES ks zs good wrong=10:=if_pos h
theorem Zc {ks:List Nat} {zs:List Int} {good:Nat->Bool} {wrong:Int} (h:LP ks.length zs=false) {z:Int} (hz:z∈zs) (hb:good (kd ks z.toNat)=false):ES ks zs good wrong=wrong:=by
 unfold ES;rw [if_neg (by rw [h];decide),if_neg (fun hh=>by rw [List.all_eq_true.1 hh.1 z hz] at hb;cases hb)]
theorem Ub {ks:List Nat} {zs:List Int} {good:Nat->Bool} {wrong:Int} (h:LP ks.length zs=false) (hn:¬ zs.Nodup):ES ks zs good wrong=wrong:=by
 unfold ES;rw [if_neg (by rw [h];decide),if_neg (fun hh=>hn hh.2)]
theorem PO {ks:List Nat} {zs:List Int} {good:Nat->Bool} {wrong:Int} (h:LP ks.length zs=false) (hg:∀ z∈zs,good (kd ks z.toNat)=true) (hn:zs.Nodup):ES ks zs good wrong=0:=by
 unfold ES;rw [if_neg (by rw [h];decide),if_pos ⟨List.all_eq_true.2 hg,hn⟩]
theorem IQ {ks:List Nat} {zs:List Int} {good:Nat->Bool} {wrong:Int} (hw:wrong≠0) (h:ES ks zs good wrong=0):(∀ z∈zs,2<=z/\z < (ks.length:Int))/\(∀ z∈zs,good (kd ks z.toNat)=true)/\zs.Nodup:=by
 unfold ES at h;split at h
 ·cases h
 ·rename_i ho
  split at h
  ·rename_i hg
   exact ⟨outR_false.1 (by simpa using ho),List.all_eq_true.1 hg.1,hg.2⟩
  ·exact absurd h hw
theorem nodup_snoc {l:List Int} {z:Int}:(l++[z]).Nodup↔l.Nodup/\z∉l:=by
 rw [List.nodup_append];constructor
 ·rintro ⟨h1,_,h3⟩;exact ⟨h1,fun h=>h3 z h z (by simp) rfl⟩
 ·rintro ⟨h1,h2⟩;refine ⟨h1,by simp,fun a ha b hb e=>?_⟩;simp at hb;subst hb;subst e;exact h2 ha
theorem LV {zs:List Int} {k:Nat} (h:¬ (zs.take k).Nodup):¬ zs.Nodup:=fun hn=>h (hn.sublist (List.take_sublist _ _))
theorem JH {zs:List Int} {k:Nat} (h:k < zs.length):zs.getD k 0∈zs:=by
 rw [List.getD_eq_getElem?_getD,List.getElem?_eq_getElem h];exact List.getElem_mem h
def Dl (n:Nat):List Nat:=mkK n fun i=>if i < 2 then 0 else 1
theorem Dk (n:Nat):(Dl n).length=n:=Pn _ _
theorem F9 {n i:Nat} (h:i < n):kd (Dl n) i=if i < 2 then 0 else 1:=Px h
theorem Ks.fresh {n:Nat} (h2:2<=n) (h:n<=2048):Ks (Dl n):=by
 refine ⟨by rw [Dk];exact h2,by rw [Dk];exact h,?_,?_,?_⟩
 iterate 2
  ·rw [F9 (by omega)];rfl
 ·intro i h1 h3;rw [Dk] at h3;rw [F9 h3,if_neg (by omega)];decide
theorem Ii {n:Nat} {p:Nat->Bool} (h0:p 0=false) (h1:p 1=false):Bo p (Dl n)=List.replicate n false:=E8 (by rw [AQ,Dk,List.length_replicate]) fun i hi=>by
 rw [AQ] at hi;rw [BA hi,Gh];rw [Dk] at hi;rw [F9 hi];split<;>assumption
end Go.Proofs.YtfhdojnobmfefaaGreatDoor
