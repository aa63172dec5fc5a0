/- MADE SMALL. -/
import Derived.Test.YtfhdojnobmfefaaGreatDoorG27
import Derived.Test.YtfhdojnobmfefaaGreatDoorG28
import Derived.Test.YtfhdojnobmfefaaGreatDoorG38
namespace Go.Inc
open Go.RowKit
def pgK (es:List Et) (k:Ky):Int:=MX es k es.length
def Pv (es:List Et) (a b:Ky):List Et:=Ya es (plK a) (plK b) es.length
end Go.Inc
namespace Go.Proofs.YtfhdojnobmfefaaGreatDoor
open Go.RowKit Go.Inc
def TC (w:World) (tp gd pa:Nat) (r ep:Int):Prop:=w.heap[tp]?=some (.cells #[.pointer (some ⟨gd,0,none⟩),.pointer (some ⟨pa,0,none⟩),.int .i64 r,.int .i64 ep] 111 (0,0))
theorem TC.mv {F:Nat->Prop} {w w':World} {tp gd pa:Nat} {r ep:Int} (h:TC w tp gd pa r ep) (hm:Mv F w w') (hF:¬ F tp):TC w' tp gd pa r ep:=
 (hm.block tp (Aj h) hF).trans h
structure CwR (C:Nat->Nat) (w:World) (tp gd pa pn n:Nat) (S:St) (root:Nat) (ep:Int) (t:TrG) (ns:List Nat) (b:Nat):Prop where
 dv:Dv C w gd pn n S
 ctp:C tp=0
 tc:TC w tp gd pa root ep
 ep1:1<=ep/\ep<=4294967295
 on:S.on=true
 arm:S.armed=false
 bytes:∀ q,q < pn->Bytes (rd S q)
 good:t.good
 deep:t.deep<=8
 cnt:t.cnt<=2048
 is:IsT (CJ S) t root ns
 pg:∀ q∈ns,2<=q/\q < pn
 bud:n<=b/\0<=S.r/\S.r<=b/\0<=S.s/\S.s<=b
def KsTo (ks:List Nat) (ns:List Nat) (ks':List Nat):Prop:=
 ks'.length=ks.length/\∀ i,2<=i->i < ks.length->kd ks' i=if i∈ns then (if kd ks i=2 then 2 else 3) else if kd ks i=2\/kd ks i=4 then 4 else 1
structure CwF (C K:Nat->Nat) (W w:World) (tp gd pa pn n:Nat) (S:St) (root:Nat) (ep:Int) (t:TrG) (ns:List Nat) (b:Nat) (v1 v2 v3:Value) (ks:List Nat):Prop where
 r:CwR C w tp gd pa pn n S root ep t ns b
 al:Own K W w pa v1 v2 v3 ks
 apart:∀ i,C i=0\/K i=0
 ktp:K tp=0
 kl:ks.length=pn
 used:∀ i,i∈ns↔(kd ks i=2\/kd ks i=3)
 nodup:ns.Nodup
 lowC:∀ i,C i≠0->W.heap.size<=i
 lowT:W.heap.size<=tp
def CE (ks:List Nat):Nat:=(Az isF ks).length
def RS (S S':St) (ks ks':List Nat):Prop:=∀ q,(kd ks q=2\/kd ks q=4)->CJ S' q=CJ S q/\(kd ks' q=2\/kd ks' q=4)
def Trn (C K:Nat->Nat) (tp:Nat):Nat->Prop:=fun i=>C i≠0\/K i≠0\/i=tp
def dQ (C K:Nat->Nat) (W w w':World) (tp gd pa pn:Nat) (S:St) (ep:Int) (b:Nat) (ks:List Nat) (P:TrG->Prop):Prop:=
 ∃ C' n' S' root' t' ns' v1' v2' v3' ks',CwF C' K W w' tp gd pa pn n' S' root' ep t' ns' (b+40) v1' v2' v3' ks'/\Ext w C C'/\KsTo ks ns' ks'/\RS S S' ks ks'/\P t'/\Mv (Trn C K tp) w w'
def Lm (C K:Nat->Nat) (W w w':World) (tp gd pa pn:Nat) (S:St) (root:Nat) (ep:Int) (t:TrG) (ns:List Nat) (b:Nat) (ks:List Nat):Prop:=
 ∃ C' n' S' v1' v2' v3',CwF C' K W w' tp gd pa pn n' S' root ep t ns (b+40) v1' v2' v3' ks/\Ext w C C'/\RS S S' ks ks/\Mv (Trn C K tp) w w'
theorem CwF.read {C K:Nat->Nat} {W w w':World} {tp gd pa pn n:Nat} {S:St} {root:Nat} {ep:Int} {t:TrG} {ns:List Nat} {b b':Nat} {v1 v2 v3:Value} {ks:List Nat} {r':Int} (h:CwF C K W w tp gd pa pn n S root ep t ns b v1 v2 v3 ks) (hr:CwR C w' tp gd pa pn n {S with r:=r'} root ep t ns b') (hm:Mv (fun i=>C i≠0) w w') (h0:0 < W.heap.size) :
  CwF C K W w' tp gd pa pn n {S with r:=r'} root ep t ns b' v1 v2 v3 ks:=
 ⟨hr,h.al.mv hm (fun i hi=>⟨(h.apart i).resolve_left hi,h.lowC i hi⟩) h0,h.apart,h.ktp,h.kl,h.used,h.nodup,h.lowC,h.lowT⟩
theorem CwR.below {C:Nat->Nat} {w w':World} {tp gd pa pn n:Nat} {S:St} {root:Nat} {ep:Int} {t:TrG} {ns:List Nat} {b:Nat} (h:CwR C w tp gd pa pn n S root ep t ns b) (hb:Below w.heap.size w w'):CwR C w' tp gd pa pn n S root ep t ns b:=
 ⟨h.dv.below hb,h.ctp,h.tc.mv (F:=fun _=>False) (Mv.of_below hb) id,h.ep1,h.on,h.arm,h.bytes,h.good,h.deep,h.cnt,h.is,h.pg,h.bud⟩
theorem CwF.below {C K:Nat->Nat} {W w w':World} {tp gd pa pn n:Nat} {S:St} {root:Nat} {ep:Int} {t:TrG} {ns:List Nat} {b:Nat} {v1 v2 v3:Value} {ks:List Nat} (h:CwF C K W w tp gd pa pn n S root ep t ns b v1 v2 v3 ks) (hb:Below w.heap.size w w'):CwF C K W w' tp gd pa pn n S root ep t ns b v1 v2 v3 ks:=
 ⟨h.r.below hb,h.al.below hb,h.apart,h.ktp,h.kl,h.used,h.nodup,h.lowC,h.lowT⟩
theorem Wy (tp:Nat) (b c:Bool) (v1 v2:Value) (w:World) (h1:w.cell? ⟨tp,0,none⟩=some v1) (h2:w.cell? ⟨tp,1,none⟩=some v2) (e1:v1=.pointer none/\b=true\/∃ g,v1=.pointer (some ⟨g,0,none⟩)/\b=false) (e2:v2=.pointer none/\c=true\/∃ g,v2=.pointer (some ⟨g,0,none⟩)/\c=false) :
  Calls Tryz.prog 55 #[.pointer (some ⟨tp,0,none⟩)] w fun e w'=>e=.returned (.bool (b||c))/\w=w':=by
 rcases e1 with ⟨rfl,rfl⟩ | ⟨g1,rfl,rfl⟩<;>rcases e2 with ⟨rfl,rfl⟩ | ⟨g2,rfl,rfl⟩
 all_goals
  go_enter Tryz.func55,Tryz.ntmps55
  go_wp2_with fail
  go_ret
  exact ⟨rfl,rfl⟩
theorem Eu {w:World} {tp gd pa:Nat} {r ep:Int} (h:TC w tp gd pa r ep):Calls Tryz.prog 55 #[.pointer (some ⟨tp,0,none⟩)] w fun e w'=>e=.returned (.bool false)/\w=w':=
 Wy tp false false _ _ w (coR h) (coR h) (.inr ⟨gd,rfl,rfl⟩) (.inr ⟨pa,rfl,rfl⟩)
theorem aI (w:World) (tp gd pa:Nat) (r ep:Int) (h:TC w tp gd pa r ep):Calls Tryz.prog 14 #[.pointer (some ⟨tp,0,none⟩)] w fun e w'=>e=.returned (.int .i64 r)/\w=w':=by
 have h2:w.cell? ⟨tp,2,none⟩=some (.int .i64 r):=coR h;clear h
 go_enter Tryz.func14,Tryz.ntmps14
 go_wp2_with fail
 go_ret
 exact ⟨rfl,rfl⟩
theorem Ti (gd pa:Nat) (ρ:Int) (ep:Int) (w:World) (c1:Bool) (e1:(ρ != 0)=c1) (e2:c1=true->2<=ρ/\ρ<=2047) (he:1<=ep) (he2:ep<=4294967295):Calls Tryz.prog 30 #[.pointer (some ⟨gd,0,none⟩),.pointer (some ⟨pa,0,none⟩),.int .i64 ρ,.int .i64 ep] w fun e w'=>(∃ tp,e=.returned (.tuple #[.pointer (some ⟨tp,0,none⟩),.int .i64 0])/\w.heap.size<=tp/\TC w' tp gd pa ρ ep)/\Below w.heap.size w w':=by
 obtain ⟨g,hg⟩:∃ g,g=w.heap.size:=⟨_,rfl⟩
 obtain ⟨w0,hw0⟩:∃ w0,w0=w.alloc (.cells #[.pointer (some ⟨gd,0,none⟩),.pointer (some ⟨pa,0,none⟩),.int .i64 ρ,.int .i64 ep] 111):=⟨_,rfl⟩
 have HW:=hid hw0;have HG:=hid hg;have HB:Hid (Below w.heap.size w w0):=hid (by rw [hw0];exact Ad w _);have HX:Hid (TC w0 g gd pa ρ ep):=hid (by rw [hw0,hg];exact heap_alloc_new w _);have HN:=hid (Eu HX.out);clear hw0 hg;cases c1 with
 | false=>
  have h0:(ρ=0)=True:=eq_true (by simpa using e1);clear e2
  go_enter Tryz.func30,Tryz.ntmps30
  go_upto_region 2 with fail
  rw [<- HW.out,<- HG.out]
  go_wp2_with fail
  refine HN.out.mono ?_;rintro e w' ⟨rfl,rfl⟩
  go_wp2_with fail
  go_ret2
  exact ⟨⟨g,rfl,by rw [HG.out];exact Nat.le_refl _,HX.out⟩,HB.out⟩
 | true=>
  have hr2:(ρ=0)=False:=eq_false (by intro h;rw [h] at e1;simp at e1);obtain ⟨h1,h2⟩:=e2 rfl;have h2':ρ < 2048:=by omega
  clear h2 e2
  go_enter Tryz.func30,Tryz.ntmps30
  go_upto_region 2 with fail
  rw [<- HW.out,<- HG.out]
  go_wp2_with fail
  refine HN.out.mono ?_;rintro e w' ⟨rfl,rfl⟩
  go_wp2_with fail
  go_ret2
  exact ⟨⟨g,rfl,by rw [HG.out];exact Nat.le_refl _,HX.out⟩,HB.out⟩
theorem VZ (gd pa root:Nat) (ep:Int) (w:World) (hr:root=0\/2<=root/\root<=2047) (he:1<=ep) (he2:ep<=4294967295):Calls Tryz.prog 30 #[.pointer (some ⟨gd,0,none⟩),.pointer (some ⟨pa,0,none⟩),.int .i64 (root:Int),.int .i64 ep] w fun e w'=>(∃ tp,e=.returned (.tuple #[.pointer (some ⟨tp,0,none⟩),.int .i64 0])/\w.heap.size<=tp/\TC w' tp gd pa root ep)/\Below w.heap.size w w':=
 Ti gd pa root ep w _ rfl (fun h=>by rw [bne_iff_ne] at h;omega) he he2
end Go.Proofs.YtfhdojnobmfefaaGreatDoor
