/- MADE SMALL. -/
import Derived.Test.YtfhdojnobmfefaaGreatDoorN23
import Derived.Test.YtfhdojnobmfefaaGreatDoorN17
import Derived.Test.YtfhdojnobmfefaaGreatDoorN26
namespace Go.Proofs.YtfhdojnobmfefaaGreatDoor
open Go.RowKit Go.Inc
noncomputable def ndAt (S:St) (q:Nat):Option (Bool×List Et):=
 if opnE (rd S q) (q:Int) [2]=0/\ndE (opnF (rd S q) (q:Int) [2]).b=0 then some (ndL (opnF (rd S q) (q:Int) [2]).b,ndS (opnF (rd S q) (q:Int) [2]).b) else none
theorem zQm7 {f:Fr} (hf:f.ok) (hk:f.k=2):opnE (enc f) f.p [2]=0/\opnF (enc f) f.p [2]=f:=by
 have h1:=zQgk hf
 have h2:=zQoi hf
 have h3:opnE (enc f) f.p [2]=0:=by
  unfold opnE
  rw [if_neg (by rw [h1];decide),h2,if_neg (by simp),if_neg (by rw [hk];simp)]
 exact ⟨h3,by unfold opnF;rw [if_pos h3,h2]⟩
theorem zQjg {S:St} {k j:Nat} {bs:List Nat}:rd (wrote S k bs) j=if j=k then bs else rd S j:=by
 unfold rd wrote addW
 simp only
 by_cases h:j=k
 ·subst h
  simp
 ·have h':¬ (j:Int)=(k:Int):=by omega
  simp [h,h']
theorem zQa6 {S:St} {k:Nat} {e:Int} {lf:Bool} {es:List Et} (h:chkN lf es=0) (he:0<=e/\e<=4294967295) (hk:k < 2048) (hl:(encN lf es).length<=238) (j:Nat) :
  ndAt (wrote S k (enc ⟨2,e,(k:Int),encN lf es⟩)) j=if j=k then some (lf,es) else ndAt S j:=by
 unfold ndAt
 rw [zQjg]
 by_cases hj:j=k
 ·subst hj
  rw [if_pos rfl,if_pos rfl]
  have hf:Fr.ok ⟨2,e,(j:Int),encN lf es⟩:=⟨by show (1:Int)<=2;decide,by show (2:Int)<=9;decide,he.1,he.2,by show (0:Int)<=(j:Int);omega,by show (j:Int)<=2047;omega,hl⟩
  obtain ⟨h1,h2⟩:=zQm7 hf rfl
  have h1':opnE (enc ⟨2,e,(j:Int),encN lf es⟩) (j:Int) [2]=0:=h1
  have h2':opnF (enc ⟨2,e,(j:Int),encN lf es⟩) (j:Int) [2]=⟨2,e,(j:Int),encN lf es⟩:=h2
  obtain ⟨g1,g2,g3,g4⟩:=Go.Inc.enc_dec h
  rw [h1',h2']
  rw [if_pos ⟨rfl,g2⟩,g3,g4]
 ·rw [if_neg hj,if_neg hj]
end Go.Proofs.YtfhdojnobmfefaaGreatDoor
