/- MADE SMALL. -/
import Derived.Test.YtfhdojnobmfefaaGreatDoorG23
import Derived.Test.YtfhdojnobmfefaaGreatDoorG17
import Derived.Test.YtfhdojnobmfefaaGreatDoorG26
namespace Go.Proofs.YtfhdojnobmfefaaGreatDoor
open Go.RowKit Go.Inc
noncomputable def CJ (S:St) (q:Nat):Option (Bool×List Et):=
 if F9 (rd S q) (q:Int) [2]=0/\ndE (Ec (rd S q) (q:Int) [2]).b=0 then some (ndL (Ec (rd S q) (q:Int) [2]).b,ndS (Ec (rd S q) (q:Int) [2]).b) else none
theorem Yp {f:Fr} (hf:f.ok) (hk:f.k=2):F9 (enc f) f.p [2]=0/\Ec (enc f) f.p [2]=f:=by
 have h1:=Rf hf;have h2:=Zj hf;have h3:F9 (enc f) f.p [2]=0:=by
  unfold F9;rw [if_neg (by rw [h1];decide),h2,if_neg (by simp),if_neg (by rw [hk];simp)]
 exact ⟨h3,by unfold Ec;rw [if_pos h3,h2]⟩
theorem UL {S:St} {k j:Nat} {bs:List Nat}:rd (KO S k bs) j=if j=k then bs else rd S j:=by
 unfold rd KO Xn;simp only;by_cases h:j=k
 ·subst h;simp
 ·have h':¬ (j:Int)=(k:Int):=by omega
  simp [h,h']
theorem ML {S:St} {k:Nat} {e:Int} {lf:Bool} {es:List Et} (h:AL lf es=0) (he:0<=e/\e<=4294967295) (hk:k < 2048) (hl:(Dh lf es).length<=238) (j:Nat) :
  CJ (KO S k (enc ⟨2,e,(k:Int),Dh lf es⟩)) j=if j=k then some (lf,es) else CJ S j:=by
 unfold CJ;rw [UL];by_cases hj:j=k
 ·subst hj;rw [if_pos rfl,if_pos rfl];have hf:Fr.ok ⟨2,e,(j:Int),Dh lf es⟩:=⟨by show (1:Int)<=2;decide,by show (2:Int)<=9;decide,he.1,he.2,by show (0:Int)<=(j:Int);omega,by show (j:Int)<=2047;omega,hl⟩
  obtain ⟨h1,h2⟩:=Yp hf rfl;have h1':F9 (enc ⟨2,e,(j:Int),Dh lf es⟩) (j:Int) [2]=0:=h1;have h2':Ec (enc ⟨2,e,(j:Int),Dh lf es⟩) (j:Int) [2]=⟨2,e,(j:Int),Dh lf es⟩:=h2;obtain ⟨g1,g2,g3,g4⟩:=Go.Inc.enc_dec h;rw [h1',h2'];rw [if_pos ⟨rfl,g2⟩,g3,g4]
 ·rw [if_neg hj,if_neg hj]
end Go.Proofs.YtfhdojnobmfefaaGreatDoor
