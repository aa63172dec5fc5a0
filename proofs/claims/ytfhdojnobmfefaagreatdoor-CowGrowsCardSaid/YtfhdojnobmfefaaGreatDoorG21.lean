/- MADE SMALL. -/
import Derived.Test.YtfhdojnobmfefaaGreatDoorG20
import Derived.Deep.RegionHeld3
namespace Go.Proofs.YtfhdojnobmfefaaGreatDoor
open Go.RowKit Go.Inc
def Xn (W:Int->List (List Nat)) (k:Nat) (bs:List Nat):Int->List (List Nat):=fun y=>if y=(k:Int) then W y++[bs] else W y
theorem DevAt.added {C w1 g L c M f I p n S} (h:DevAt C w1 g L c M f I p n S) {k:Nat} (hk:k < p) {wc w3:World} {a:Option Addr} {c':Nat} {bs:List Nat} {v0 v':Value} (hv0:(f k).getD (.slice none 0 0)=v0)
  (hb:Below w1.heap.size w1 wc) (hs:Sl (fun b=>w1.heap.size<=b) wc a bs) (hl:bs.length=256) (hc:256<=c'/\c'<=maxLen) (hM:Mp Tryz.prog 3 w3 M (n+1) (put f k v'))
  (hown:w3.ownsRow 0 74 1 v' ((I k).length+1) ((I k).map Item.val++[.slice a 256 c'])) (hat:v'.ownBlock=v0.ownBlock\/v'.ownBlock=some wc.heap.size\/v'.ownBlock=some (wc.heap.size+1))
  (hmv:Mv (fun b=>b=M\/v0.ownBlock=some b) wc w3) :
  ∃ C',DevAt C' w3 g L c M (put f k v') (fun x=>if x=(k:Int) then I x++[⟨a,c',bs⟩] else I x) p (n+1) {S with W:=Xn S.W k bs}/\∀ b,b < w1.heap.size->C' b=C b:=by
 have hF0:∀ b,v0.ownBlock=some b->C b=5+k:=by
  intro b hb;cases hf:f k with
  | none=>rw [hf] at hv0;subst hv0;cases hb
  | some v=>
   rw [hf] at hv0;subst hv0;exact (h.ver _ _ hf).col b hb
 have hFlt:∀ b,(b=M\/v0.ownBlock=some b)->b < w1.heap.size:=by
  rintro b (rfl | hb)
  ·exact h.lt _ (by rw [h.cM];decide)
  ·exact h.lt _ (by rw [hF0 b hb];omega)
 have hFc:∀ b,C b≠3->C b≠5+k->¬ (b=M\/v0.ownBlock=some b):=by
  rintro b h3 h5 (rfl | hb)
  ·exact h3 h.cM
  ·exact h5 (hF0 b hb)
 have hm:Mv (fun b=>b=M\/v0.ownBlock=some b) w1 w3:=(Mv.of_below hb).trans' hmv fun _ _ h=>h;have hne:∀ b,v'.ownBlock=some b->w1.heap.size<=b->wc.heap.size<=b:=by
  intro b hb1 hb2;rcases hat with h1 | h1 | h1
  ·rw [h1] at hb1;have:=hFlt b (.inr hb1);omega
  iterate 2
   ·rw [h1] at hb1;cases hb1;omega
 obtain ⟨C',hC'⟩:∃ C':Nat->Nat,C'=fun b=>if b < w1.heap.size then C b else if v'.ownBlock=some b then 5+k else if b < wc.heap.size then 4 else 0:=⟨_,rfl⟩
 have hold:∀ b,b < w1.heap.size->C' b=C b:=fun b hb=>by rw [hC'];simp [hb]
 have hkeep:∀ b,C b≠0->C' b=C b:=fun b hb=>hold b (h.lt b hb);have hsl:∀ (a:Option Addr) (bs:List Nat),Sl (fun b=>C b=4) w1 a bs->Sl (fun b=>C' b=4) w3 a bs:=fun a bs hs=>
  (hs.mv hm fun b hb=>hFc b (by rw [hb];decide) (by rw [hb];omega)).mono fun b hb _=>by rw [hkeep b (by rw [hb];decide)];exact hb
 refine ⟨C',⟨hm.row h.row (hFc g (by rw [h.cg];decide) (by rw [h.cg];omega)),Ag h.laid hm (fun b hb=>?_),hM,fun x v hv=>?_,fun x hx=>?_,fun x v hv=>?_,fun x=>?_,fun x=>?_,(hkeep g (by rw [h.cg];decide)).trans h.cg,(hkeep L (by rw [h.cL];decide)).trans h.cL,(hkeep M (by rw [h.cM];decide)).trans h.cM,fun b hb=>?_,h.pp,h.lb,h.cnt⟩,hold⟩
 ·cases hb;exact hFc L (by rw [h.cL];decide) (by rw [h.cL];omega)
 ·by_cases hx:x=(k:Int)
  ·subst hx;unfold put at hv;rw [if_pos rfl] at hv;cases hv;simp only [if_true];refine ⟨?_,fun R hR=>?_,by simp,fun q hq=>?_⟩
   ·simpa [Item.val] using hown
   ·by_cases hRl:R < w1.heap.size
    ·rw [hold R hRl];rcases hat with h1 | h1 | h1
     ·rw [h1] at hR;rw [hF0 R hR];simp
     iterate 2
      ·rw [h1] at hR;cases hR;have:=hb.size;omega
    ·rw [hC'];simp [hRl,hR]
   ·rcases List.mem_append.1 hq with hq | hq
    ·have hne:I k≠[]:=by intro e;rw [e] at hq;cases hq
     obtain ⟨v1,hv1,hV⟩:=Kt h hne;obtain ⟨h1,h2⟩:=hV.all q hq;exact ⟨hsl _ _ h1,h2⟩
    ·rw [List.mem_singleton] at hq;subst hq;refine ⟨?_,hl,hc⟩;have hs':Sl (fun b=>w1.heap.size<=b/\b < wc.heap.size) wc a bs:=hs.mono fun b h1 h2=>⟨h1,h2⟩
     refine (hs'.mv hmv fun b hb hF=>?_).mono fun b hb _=>?_
     ·have:=hFlt b hF;omega
     ·have h1:¬ b < w1.heap.size:=by omega
      have h2:¬ v'.ownBlock=some b:=fun e=>by have:=hne b e hb.1;omega
      rw [hC'];simp [h1,h2,hb.2]
  ·unfold put at hv;rw [if_neg hx] at hv;simp only [if_neg hx];have hV:=h.ver x v hv;have hd:=h.dom x v hv;refine ⟨Ag hV.own hm fun b hb=>hFc b (by rw [hV.col b hb];omega) (by rw [hV.col b hb];omega),fun R hR=>?_,hV.full,fun q hq=>?_⟩
   ·rw [hkeep R (by rw [hV.col R hR];omega)];exact hV.col R hR
   ·obtain ⟨h1,h2⟩:=hV.all q hq;exact ⟨hsl _ _ h1,h2⟩
 ·by_cases hxk:x=(k:Int)
  ·unfold put at hx;rw [if_pos hxk] at hx;cases hx
  ·unfold put at hx;rw [if_neg hxk] at hx;simp only [if_neg hxk];exact h.non x hx
 ·by_cases hxk:x=(k:Int)
  ·subst hxk;omega
  ·unfold put at hv;rw [if_neg hxk] at hv;exact h.dom x v hv
 ·have:=h.few x;split<;>simp<;>omega
 ·show Xn S.W k bs x=_;unfold Xn;split
  ·rw [h.wait x];simp
  ·exact h.wait x
 ·rw [hC'] at hb;simp only at hb;have:=hm.size;have hws:=hmv.size;split at hb
  ·omega
  ·split at hb
   ·rename_i hvb
    rcases hown.2 with ⟨h0,_⟩ | ⟨R,cap,cur,hv,_,hg,_⟩
    ·rw [h0] at hvb;cases hvb
    ·rw [hv] at hvb;cases hvb;exact Aj hg
   ·split at hb
    ·omega
    ·exact absurd rfl hb
theorem Pj {armed:Bool} {left:Int} (h:0<=left/\left<=9223372036854775807\/armed=false):0<=D6 armed left/\D6 armed left<=9223372036854775807\/armed=false:=by
 rcases h with h | h
 ·left;unfold D6;split<;>omega
 ·exact .inr h
theorem Xm {C w1 g L c M f I p n S} (h:DevAt C w1 g L c M f I p n S) {k:Nat} (hk:k < p) (hn:n<=1000000) {wc:World} {v:Value} {bs:List Nat} (hb:Below w1.heap.size w1 wc) (hv:wc.ownsRow w1.heap.size 5 1 v 256 (u8s bs)) (hl:bs.length=256) :
  Calls Tryz.prog 183 #[.map (some M),.int .i64 (k:Int),v] wc fun e w'=>e=.returned (.tuple #[])/\(∃ C' f' I',DevAt C' w' g L c M f' I' p (n+1) {S with W:=Xn S.W k bs}/\∀ b,b < w1.heap.size->C' b=C b)/\Mv (fun b=>C b≠0) w1 w':=by
 have hrow:Row 5 w1.heap.size wc v bs:=by unfold Row;rw [hl];exact hv
 obtain ⟨a,c',rfl,hn0,hc1,hc2,hs⟩:=hrow.sl;rw [hl];have hM:Mp Tryz.prog 3 wc M n f:=h.map.below hb;have hbx:-9223372036854775808<=(k:Int)/\(k:Int)<=9223372036854775807:=by have:=h.pp;omega
 obtain ⟨v0,hv0⟩:∃ v0,(f k).getD (.slice none 0 0)=v0:=⟨_,rfl⟩
 have hown:wc.ownsRow 0 74 1 v0 (I k).length ((I k).map Item.val)/\∀ b,v0.ownBlock=some b->C b=5+k:=by
  cases hf:f k with
  | none=>
   rw [hf] at hv0;subst hv0;rw [h.non _ hf];exact ⟨World.ownsRow_nil _ _ _ _,fun b h=>by cases h⟩
  | some u=>
   rw [hf] at hv0;subst hv0;have hV:=h.ver _ _ hf;exact ⟨Ag hV.own (Mv.of_below (F:=fun _=>False) hb) fun _ _ h=>h,fun b hb=>hV.col b hb⟩
 refine (RJ wc M n f k v0 _ _ a c' hM hbx hv0 hown.1 (by have:=h.few k;omega) hn (fun e=>by have:=hown.2 _ e;have:=h.cM;omega)).mono ?_;rintro e w3 ⟨rfl,v',hM3,ho3,hat,hmv⟩;obtain ⟨C',hd,hext⟩:=h.added hk hv0 hb hs hl ⟨by omega,hc2⟩ hM3 ho3 hat hmv;refine ⟨rfl,⟨C',_,_,hd,hext⟩,(Mv.of_below hb).trans' hmv fun i hi hF=>?_⟩;rcases hF with rfl | hF
 ·show C _≠0;rw [h.cM];decide
 ·show C i≠0;rw [hown.2 i hF];omega
def KO (S:St) (k:Nat) (bs:List Nat):St:={S with left:=D6 S.armed S.left,W:=Xn S.W k bs,s:=S.s+1}
set_option maxRecDepth 20000 in
set_option maxHeartbeats 1000000 in
theorem RV {C w g L c M f I p n S} (h:DevAt C w g L c M f I p n S) (k:Nat) (hk:k < p) (ok:Nat->Prop) (a:Option Addr) (cb:Nat) (bs:List Nat) (hsl:Sl ok w a bs) (hok:∀ b,ok b->b≠g) (hbl:bs.length=256) (ho:S.on=true) (hs:EF S.armed S.left=true) (hn:n<=1000000) (hsn:S.s<=1000000) :
  Calls Tryz.prog 167 #[.pointer (some ⟨g,0,none⟩),.int .i64 (k:Int),.slice a 256 cb] w fun e w'=>e=.returned (.int .i64 0)/\
   (∃ C' f' I',DevAt C' w' g L c M f' I' p (n+1) (KO S k bs)/\∀ b,b < w.heap.size->C' b=C b)/\Mv (fun b=>C b≠0) w w':=by
 have H:=hid (Py w g _ _ _ _ _ _ _ _ h.row);have H1:=hid (QW w g _ _ _ _ _ _ _ _ _ _ (k:Int) h.row h.pp.2);have H2:=hid (VJ w g _ _ _ _ _ _ _ _ h.row h.lb);rw [ho] at H;rw [decide_eq_true (by omega)] at H1;rw [hs,ho] at H2;have HD:=hid h;have hbx:-9223372036854775808<=(k:Int)/\(k:Int)<=9223372036854775807:=by have:=h.pp;omega
 have Hon:=hid ho;have HSL:=hid hsl;have HOK:=hid hok;have HBL:=hid hbl;have HKP:=hid hk;have HSN:=hid hsn;clear h ho hs hsl hok hbl hk hsn
 go_enter Tryz.func167,Tryz.ntmps167
 go_wp2_with fail
 refine H.out.mono ?_;rintro e w1 ⟨rfl,rfl⟩
 go_wp2_with fail
 refine H1.out.mono ?_;rintro e w1 ⟨rfl,rfl⟩
 go_wp2_with fail
 refine H2.out.mono ?_;rintro e w1 ⟨rfl,h1,h2⟩;have hM:Mv (fun b=>b=g) w w1:=Mv.of_grown h2 fun g h _=>by cases h;rfl
 have hT:=HD.out.turn hM (fun _ h=>h) h1 (Pj HD.out.lb) HD.out.cnt;have HM1:=hid hM;have hc4:=hT.row.c4;have HT:=hid hT;have hsl1:Sl (fun b=>ok b/\b < w.heap.size) w1 a bs:=(HSL.out.mono fun b h1 h2=>⟨h1,h2⟩).mv hM fun b hb e=>HOK.out b hb.1 e;have HC:=hid (IW _ a cb bs w1.drew hsl1 (by rw [HBL.out];omega) (fun h=>by have:=hsl1.some_len h;rw [HBL.out] at this;omega));rw [HBL.out] at HC;clear h1 h2 hM hT hsl1 H H1 H2
 go_wp2_with fail
 go_region_held3 (fun w'=>w'.cell? ⟨g,4,none⟩=some (.map (some M)))
  (first | exact hc4 | assumption)
  (first | (go_at_call 171;refine HC.out.mono ?_;rintro e wc ⟨v,rfl,hv,hbc⟩;have hcc:=(hbc.cell (AA hc4)).trans hc4) | (go_at_call 183;refine (Xm HT.out HKP.out hn ⟨hbc.os,hbc.tape,hbc.output,hbc.size,hbc.block⟩ hv HBL.out).mono ?_;rintro e w3 ⟨rfl,hd3,hm3⟩;have hc43:=(by obtain ⟨C',f',I',hd,_⟩:=hd3;exact hd.row.c4:w3.cell? ⟨g,4,none⟩=some (.map (some M)))))
 obtain ⟨C',f',I',hd,hext⟩:=hd3;have HD3:=hid hd;have HE3:=hid hext;have HM3:=hid hm3;have hcnt:=hd.cnt;have H4:=hid (O4 w3 ⟨g,6,none⟩ S.s hd.row.c6 (hd.row.fz 6) (by have:=HSN.out;have:=hd.cnt.2.1;simp only at this;omega) rfl);clear hd hext hm3 hc43 hbc hv hcc hc4 HC
 go_wp2_with fail
 refine H4.out.mono ?_;rintro e w4 ⟨rfl,rfl⟩;have hg4:w3.grownBy (w3.setCell ⟨g,6,none⟩ (.int .i64 (S.s+1))) (some g):=Aq (Aw _ _) (.inl rfl) _;have hm4:Mv (fun b=>b=g) w3 (w3.setCell ⟨g,6,none⟩ (.int .i64 (S.s+1))):=Mv.of_grown hg4 fun g h _=>by cases h;rfl
 have HD4:=hid (HD3.out.turn hm4 (fun _ h=>h) (HD3.out.row.s6 (S.s+1)) HD3.out.lb (by have h:=HD3.out.cnt;simp only at h ⊢;omega));have HM4:Hid (Mv (fun b=>C b≠0) w (w3.setCell ⟨g,6,none⟩ (.int .i64 (S.s+1)))):=hid (by
  have hgC:C g≠0:=by rw [HD.out.cg];decide
  exact ((HM1.out.sub fun b _ h=>by subst h;exact hgC).trans HM3.out).trans (hm4.sub fun b _ h=>by subst h;exact hgC))
 have HSZ:Hid (w.heap.size<=w1.heap.size):=hid HM1.out.size;obtain ⟨w4,hw4⟩:∃ w4,w4=w3.setCell ⟨g,6,none⟩ (.int .i64 (S.s+1)):=⟨_,rfl⟩
 rw [<- hw4] at HD4 HM4 ⊢;clear hw4 hg4 hm4 H4 hcnt
 go_wp2_with fail
 go_ret
 refine ⟨rfl,⟨C',f',I',?_,fun b hb=>HE3.out b (Nat.lt_of_lt_of_le hb HSZ.out)⟩,HM4.out⟩;have hd:=HD4.out;unfold KO;rw [Hon.out];exact hd
end Go.Proofs.YtfhdojnobmfefaaGreatDoor
