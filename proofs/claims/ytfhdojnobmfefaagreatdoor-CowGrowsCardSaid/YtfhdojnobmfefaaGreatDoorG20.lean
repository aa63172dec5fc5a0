/- MADE SMALL. -/
import Derived.Test.YtfhdojnobmfefaaGreatDoorG19
import Derived.StillTailTactics
namespace Go.Inc
open Go.RowKit Go.Maps
end Go.Inc
namespace Go.Proofs.YtfhdojnobmfefaaGreatDoor
open Go.RowKit Go.Inc
theorem DevAt.keep {C w w' g L c M f I p n S} {F:Nat->Prop} (h:DevAt C w g L c M f I p n S) (hm:Mv F w w') (hF:∀ b,F b->C b=0):DevAt C w' g L c M f I p n S:=by
 have hn:∀ b,C b≠0->¬ F b:=fun b hb hf=>hb (hF b hf);refine ⟨hm.row h.row (hn g (by rw [h.cg];decide)),Ag h.laid hm (fun b hb=>?_),h.map.mv hm (hn M (by rw [h.cM];decide)),fun x v hv=>?_,h.non,h.dom,h.few,h.wait,h.cg,h.cL,h.cM,fun b hb=>Nat.lt_of_lt_of_le (h.lt b hb) hm.size,h.pp,h.lb,h.cnt⟩
 ·cases hb;exact hn L (by rw [h.cL];decide)
 ·have hV:=h.ver x v hv;refine ⟨Ag hV.own hm fun b hb=>hn b (by rw [hV.col b hb];omega),hV.col,hV.full,fun q hq=>?_⟩;obtain ⟨h1,h2⟩:=hV.all q hq;exact ⟨h1.mv hm fun b hb=>hn b (by rw [hb];decide),h2⟩
end Go.Proofs.YtfhdojnobmfefaaGreatDoor
namespace Go.Proofs.YtfhdojnobmfefaaGreatDoor
open Go.RowKit Go.Inc
section
variable {C:Nat->Nat} {w w':World} {g L c M p n:Nat} {f:Int->Option Value} {I:Int->List Item} {S:St}
theorem DevAt.turn (h:DevAt C w g L c M f I p n S) {F:Nat->Prop} (hm:Mv F w w') (hF:∀ b,F b->b=g) {on armed:Bool} {left r s t:Int} (hr:DevRow w' g on armed left (.slice (some ⟨L,0,none⟩) (256 * p) c) (.map (some M)) r s t)
  (hl:0<=left/\left<=9223372036854775807\/armed=false) (hc:0<=r/\0<=s/\0<=t):DevAt C w' g L c M f I p n {S with on:=on,armed:=armed,left:=left,r:=r,s:=s,t:=t}:=by
 have hn:∀ b,C b≠1->¬ F b:=fun b hb hf=>hb (by rw [hF b hf];exact h.cg);refine ⟨hr,Ag h.laid hm (fun b hb=>?_),h.map.mv hm (hn M (by rw [h.cM];decide)),fun x v hv=>?_,h.non,h.dom,h.few,h.wait,h.cg,h.cL,h.cM,fun b hb=>Nat.lt_of_lt_of_le (h.lt b hb) hm.size,h.pp,hl,hc⟩
 ·cases hb;exact hn L (by rw [h.cL];decide)
 ·have hV:=h.ver x v hv;refine ⟨Ag hV.own hm fun b hb=>hn b (by rw [hV.col b hb];omega),hV.col,hV.full,fun q hq=>?_⟩;obtain ⟨h1,h2⟩:=hV.all q hq;exact ⟨h1.mv hm fun b hb=>hn b (by rw [hb];decide),h2⟩
theorem DevAt.len (h:DevAt C w g L c M f I p n S):S.B.length=256 * p:=by
 have:=h.laid.1;rw [DU] at this;omega
theorem DevAt.wlen (h:DevAt C w g L c M f I p n S) (x:Int):(S.W x).length=(I x).length:=by rw [h.wait x,List.length_map]
end
end Go.Proofs.YtfhdojnobmfefaaGreatDoor
namespace Go.Proofs.YtfhdojnobmfefaaGreatDoor
open Go.RowKit Go.Inc
theorem DevAt.slB {C w g L c M f I p n S} (h:DevAt C w g L c M f I p n S):Sl (fun b=>C b≠0) w (some ⟨L,0,none⟩) S.B:=by
 have hl:=h.len;refine .inr ⟨L,0,rfl,(by show C L≠0;rw [h.cL];decide),fun i hi=>?_⟩;have hc:=h.laid.cells (g:=L) rfl i _ (Uz hi);rwa [Addr.add_lit] at hc
def pg (B:List Nat) (k:Nat):List Nat:=(B.drop (256 * k)).take 256
theorem Yl {B:List Nat} {p k:Nat} (hl:B.length=256 * p) (hk:k < p):(pg B k).length=256:=by unfold pg;rw [List.length_take,List.length_drop];omega
theorem DevAt.slPg {C w g L c M f I p n S} (h:DevAt C w g L c M f I p n S) (k:Nat):Sl (fun b=>C b≠0) w (some ⟨L,256 * k,none⟩) (pg S.B k):=by
 exact (h.slB.behind (256 * k) (some ⟨L,256 * k,none⟩) (fun _=>by simp [Addr.add])).front 256
def rd (S:St) (k:Nat):List Nat:=if S.W k=[] then pg S.B k else (S.W k).getD ((S.W k).length - 1) []
set_option maxRecDepth 20000 in
theorem VR {C w g L c M f I p n S} (h:DevAt C w g L c M f I p n S) (k:Nat) (hk:k < p) (ho:S.on=true) (hn:n<=1000000) (hr:S.r<=1000000) :
  Calls Tryz.prog 161 #[.pointer (some ⟨g,0,none⟩),.int .i64 (k:Int)] w fun e w'=>∃ v,e=.returned (.tuple #[v,.int .i64 0])/\Row 5 w.heap.size w' v (rd S k)/\
   DevAt C w' g L c M f I p n {S with r:=S.r+1}/\Mv (fun b=>b=g) w w':=by
 have H:=hid (Py w g _ _ _ _ _ _ _ _ h.row);have H1:=hid (QW w g _ _ _ _ _ _ _ _ _ _ (k:Int) h.row h.pp.2);rw [ho] at H;rw [decide_eq_true (by omega)] at H1;have H2:=hid (O4 w ⟨g,5,none⟩ S.r h.row.c5 (h.row.fz 5) (by have:=h.cnt;omega) rfl);have hcnt:=h.cnt;have hm2:Mv (fun b=>b=g) w (w.setCell ⟨g,5,none⟩ (.int .i64 (S.r+1))):=Mv.of_grown (r:=some g) (Aq (Aw _ _) (.inl rfl) _) fun g h _=>by cases h;rfl
 have hd2:=h.turn hm2 (fun _ h=>h) (h.row.s5 (S.r+1)) h.lb ⟨by omega,hcnt.2.1,hcnt.2.2⟩;have hsz:w.heap.size<=(w.setCell ⟨g,5,none⟩ (.int .i64 (S.r+1))).heap.size:=hm2.size;obtain ⟨w2,hw2⟩:∃ w2,w2=w.setCell ⟨g,5,none⟩ (.int .i64 (S.r+1)):=⟨_,rfl⟩
 rw [<- hw2] at H2 hm2 hd2 hsz;have HW:=hid hw2;have HM2:=hid hm2;have HSZ:=hid hsz;have hbx:-9223372036854775808<=(k:Int)/\(k:Int)<=9223372036854775807:=by have:=h.pp;omega
 have c4:=hd2.row.c4;have hpp:=h.pp;have hcp:=UV h.laid;have hfew:=h.few;have hwl:=h.wlen k;have hwt:=h.wait k;clear hm2 hw2 hsz hcnt h ho;by_cases hI:I k=[]
 ·have hrd:Hid (rd S k=pg S.B k):=hid (by unfold rd;rw [if_pos (by rw [hwt,hI];rfl)]);have H3:=hid (Ws w2 M n f (k:Int) hd2.map hbx (We hd2 hI));have H4:=hid (VW w2 g _ _ _ L p c k _ _ _ _ hd2.row hpp.2 hk hcp.1 hcp.2);have hpl:(pg S.B k).length=256:=Yl hd2.len hk;have hpl':=hid hpl;have H5:=hid (IW _ _ (c - 256 * k) (pg S.B k) w2 (hd2.slPg k) (by omega) (fun h=>by cases h));have HD:=hid hd2;rw [hpl] at H5;rw [hrd.out];clear hd2 hwl hwt hI hfew hpl
  go_enter Tryz.func161,Tryz.ntmps161
  go_wp2_with fail
  refine H.out.mono ?_;rintro e w1 ⟨rfl,rfl⟩
  go_wp2_with fail
  refine H1.out.mono ?_;rintro e w1 ⟨rfl,rfl⟩
  go_wp2_with fail
  refine H2.out.mono ?_;rintro e w1 ⟨rfl,rfl⟩
  go_wp2_with fail
  refine H3.out.mono ?_;rintro e w1 ⟨rfl,rfl⟩
  go_wp2_with fail
  refine H4.out.mono ?_;rintro e w1 ⟨rfl,rfl⟩
  go_wp2_with fail
  refine H5.out.mono ?_;rintro e w3 ⟨v,rfl,hr3,hb3⟩;have HR:Hid (Row 5 w.heap.size w3 v (pg S.B k)):=hid (Row.weaken (B:=_) (by unfold Row;rw [hpl'.out];exact hr3) HSZ.out);have HD3:=hid (HD.out.keep (Mv.of_below (F:=fun _=>False) hb3) fun _ h=>h.elim);have HM3:=hid (HM2.out.trans (Mv.of_below hb3));clear hr3 hb3
  go_wp2_with fail
  go_ret2
  exact ⟨v,rfl,HR.out,HD3.out,HM3.out⟩
 ·obtain ⟨v,hv,hV⟩:=Kt hd2 hI;obtain ⟨R,cap,rfl,hR,hcap1,hcap2,hcell⟩:=hV.shape;have hlen:=List.length_pos_iff.2 hI;obtain ⟨q,hq,hsq,hlq,hcq,hcq'⟩:=hV.item (i:=(I k).length - 1) (by omega);have hrd:Hid (rd S k=q.b):=hid (by
   unfold rd;rw [if_neg (by rw [hwt];intro e;exact hI (List.map_eq_nil_iff.1 e)),hwl,hwt,List.getD_eq_getElem?_getD,List.getElem?_map,hq];rfl)
  have hx1:(I k).length - 1+1=(I k).length:=by omega
  have H3:=hid (Wq w2 M n f (k:Int) R ((I k).length - 1) cap _ hd2.map hbx (by rw [hv,hx1];rfl) (by have:=hfew k;omega) (hcell _ _ hq));have H5:=hid (IW _ _ q.c q.b w2 hsq (by omega) (fun h=>by have:=hsq.some_len h;omega));have HD:=hid hd2;have hpl':=hid hlq;rw [hlq] at H5;rw [hrd.out];clear hd2 hwl hwt hI hfew hV hcell hv hsq hq hlq hlen hx1
  go_enter Tryz.func161,Tryz.ntmps161
  go_wp2_with fail
  refine H.out.mono ?_;rintro e w1 ⟨rfl,rfl⟩
  go_wp2_with fail
  refine H1.out.mono ?_;rintro e w1 ⟨rfl,rfl⟩
  go_wp2_with fail
  refine H2.out.mono ?_;rintro e w1 ⟨rfl,rfl⟩
  go_wp2_with fail
  refine H3.out.mono ?_;rintro e w1 ⟨rfl,rfl⟩
  go_wp2_with fail
  refine H5.out.mono ?_;rintro e w3 ⟨v,rfl,hr3,hb3⟩;have HR:Hid (Row 5 w.heap.size w3 v q.b):=hid (Row.weaken (B:=_) (by unfold Row;rw [hpl'.out];exact hr3) HSZ.out);have HD3:=hid (HD.out.keep (Mv.of_below (F:=fun _=>False) hb3) fun _ h=>h.elim);have HM3:=hid (HM2.out.trans (Mv.of_below hb3));clear hr3 hb3
  go_wp2_with fail
  go_ret2
  exact ⟨v,rfl,HR.out,HD3.out,HM3.out⟩
end Go.Proofs.YtfhdojnobmfefaaGreatDoor
