/- MADE SMALL. -/
import Derived.Test.YtfhdojnobmfefaaGreatDoorK21
import Derived.Test.YtfhdojnobmfefaaGreatDoorK16
import Derived.Test.YtfhdojnobmfefaaGreatDoorK24
namespace Go.Proofs.YtfhdojnobmfefaaGreatDoor
open Go.RowKit Go.Inc
noncomputable def BK (S:St) (q:Nat):Option (Bool×List Et):=
 if FQ (rd S q) (q:Int) [2]=0/\ndE (Ea (rd S q) (q:Int) [2]).b=0 then some (ndL (Ea (rd S q) (q:Int) [2]).b,ndS (Ea (rd S q) (q:Int) [2]).b) else none
theorem X6 {f:Fr} (hf:f.ok) (hk:f.k=2):FQ (enc f) f.p [2]=0/\Ea (enc f) f.p [2]=f:=by
 have h1:=Q5 hf;have h2:=Y0 hf;have h3:FQ (enc f) f.p [2]=0:=by
  unfold FQ;rw [if_neg (by rw [h1];decide),h2,if_neg (by simp),if_neg (by rw [hk];simp)]
 exact ⟨h3,by unfold Ea;rw [if_pos h3,h2]⟩
theorem UE {S:St} {k j:Nat} {bs:List Nat}:rd (KF S k bs) j=if j=k then bs else rd S j:=by
 unfold rd KF WX;simp only;by_cases h:j=k
 ·subst h;simp
 ·have h':¬ (j:Int)=(k:Int):=by omega
  simp [h,h']
theorem LY {S:St} {k:Nat} {e:Int} {lf:Bool} {es:List Et} (h:AC lf es=0) (he:0<=e/\e<=4294967295) (hk:k < 2048) (hl:(CY lf es).length<=238) (j:Nat) :
  BK (KF S k (enc ⟨2,e,(k:Int),CY lf es⟩)) j=if j=k then some (lf,es) else BK S j:=by
 unfold BK;rw [UE];by_cases hj:j=k
 ·subst hj;rw [if_pos rfl,if_pos rfl];have hf:Fr.ok ⟨2,e,(j:Int),CY lf es⟩:=⟨by show (1:Int)<=2;decide,by show (2:Int)<=9;decide,he.1,he.2,by show (0:Int)<=(j:Int);omega,by show (j:Int)<=2047;omega,hl⟩
  obtain ⟨h1,h2⟩:=X6 hf rfl;have h1':FQ (enc ⟨2,e,(j:Int),CY lf es⟩) (j:Int) [2]=0:=h1;have h2':Ea (enc ⟨2,e,(j:Int),CY lf es⟩) (j:Int) [2]=⟨2,e,(j:Int),CY lf es⟩:=h2;obtain ⟨g1,g2,g3,g4⟩:=Go.Inc.enc_dec h;rw [h1',h2'];rw [if_pos ⟨rfl,g2⟩,g3,g4]
 ·rw [if_neg hj,if_neg hj]
end Go.Proofs.YtfhdojnobmfefaaGreatDoor
