/- MADE SMALL. -/
import Derived.Test.YtfhdojnobmfefaaGreatDoorG21
import Derived.Carry
namespace Go.Proofs.YtfhdojnobmfefaaGreatDoor
open Go.RowKit Go.Inc
def fresh (B:List Nat):St:=⟨true,false,0,B,fun _=>[],0,0,0⟩
theorem Qj (w:World) (L c p:Nat) (B:List Nat) (hl:w.ownsRow 0 5 1 (.slice (some ⟨L,0,none⟩) (256 * p) c) (256 * p) (u8s B)) (hp:1<=p/\p<=2048) :
  Calls Tryz.prog 95 #[.slice (some ⟨L,0,none⟩) (256 * p) c] w fun e w'=>∃ C g M,e=.returned (.pointer (some ⟨g,0,none⟩))/\DevAt C w' g L c M Jh (fun _=>[]) p 0 (fresh B)/\Below w.heap.size w w'/\∀ b,C b≠0->b=L\/w.heap.size<=b:=by
 have HL:=hid hl;have hLlt:L < w.heap.size:=by
  rcases hl.2 with ⟨h0,_⟩ | ⟨R,cap,cur,hv,_,hg,_⟩
  ·cases h0
  ·cases hv;exact Aj hg
 clear hl;obtain ⟨q,hq⟩:∃ q,q=256 * p:=⟨_,rfl⟩
 rw [<- hq];have HQ:=hid hq;clear hq;obtain ⟨wm,hwm⟩:∃ wm,wm=w.alloc (.map #[] 0):=⟨_,rfl⟩
 have hmm:(Instr.makeMap 195 none).run Tryz.prog w=.ok (.map (some w.heap.size)) wm:=by rw [hwm];exact run_makeMap 195 w
 have HWM:=hid hwm;have hszm:wm.heap.size=w.heap.size+1:=by rw [hwm];simp
 have HSM:=hid hszm;clear hwm hszm
 go_enter Tryz.func95,Tryz.ntmps95
 go_wp2_with fail
 have hrow:DevRow (wm.alloc (.cells #[.bool false,.bool false,.int .i64 0,.slice (some ⟨L,0,none⟩) q c,.map (some w.heap.size),.int .i64 0,.int .i64 0,.int .i64 0] 204)) wm.heap.size false false 0 (.slice (some ⟨L,0,none⟩) q c) (.map (some w.heap.size)) 0 0 0:=heap_alloc_new wm _;have H:=hid (Wj _ _ _ _ _ _ _ _ _ _ hrow);obtain ⟨w1,hw1⟩:∃ w1,w1=wm.alloc (.cells #[.bool false,.bool false,.int .i64 0,.slice (some ⟨L,0,none⟩) q c,.map (some w.heap.size),.int .i64 0,.int .i64 0,.int .i64 0] 204):=⟨_,rfl⟩
 rw [<- hw1] at H ⊢;have HW1:=hid hw1;clear hrow hw1 hmm;refine H.out.mono ?_;rintro e w2 ⟨rfl,h1,h2⟩;have hb1:Below w.heap.size w w1:=by rw [HW1.out,HWM.out];exact ((Below.refl _ _).alloc (Nat.le_refl _) _).alloc (by simp) _
 have hm2:Mv (fun b=>b=wm.heap.size) w1 w2:=Mv.of_grown h2 fun g h _=>by cases h;rfl
 have hmv:Mv (fun b=>b=wm.heap.size) w w2:=(Mv.of_below hb1).trans hm2;have hmp:Mp Tryz.prog 3 w2 w.heap.size 0 Jh:=by
  have h0:=Mp.made w Tryz.prog 3;rw [<- HWM.out] at h0;have h3:Mp Tryz.prog 3 w1 w.heap.size 0 Jh:=h0.below (by rw [HW1.out];exact (Below.refl _ _).alloc (Nat.le_refl _) _);exact h3.mv hm2 (by have:=HSM.out;omega)
 have hsz2:wm.heap.size < w2.heap.size:=by
  have h3:w1.heap.size=wm.heap.size+1:=by rw [HW1.out];simp
  have:=hm2.size;omega
 obtain ⟨C,hC⟩:∃ C:Nat->Nat,C=fun b=>if b=wm.heap.size then 1 else if b=L then 2 else if b=w.heap.size then 3 else 0:=⟨_,rfl⟩
 have hs:=HSM.out;have HD:Hid (DevAt C w2 wm.heap.size L c w.heap.size Jh (fun _=>[]) p 0 (fresh B)):=hid (by
  refine ⟨(by rw [<- HQ.out];exact h1),Ag HL.out hmv (fun b hb=>(by simp only [Value.ownBlock,Option.some.injEq] at hb;omega)),hmp,fun x v hv=>(by cases hv),fun _ _=>rfl,fun x v hv=>(by cases hv),fun _=>Nat.le_refl _,fun _=>rfl,(by rw [hC];simp),?_,?_,fun b hb=>?_,hp,.inr rfl,⟨Int.le_refl 0,Int.le_refl 0,Int.le_refl 0⟩⟩
  ·have h3:¬ L=wm.heap.size:=by omega
   rw [hC];simp [h3]
  ·have h3:¬ w.heap.size=wm.heap.size:=by omega
   have h4:¬ w.heap.size=L:=by omega
   rw [hC];simp [h3,h4]
  ·rw [hC] at hb;simp only at hb;have:=hmv.size;split at hb
   ·omega
   ·split at hb
    ·omega
    ·split at hb
     ·omega
     ·exact absurd rfl hb)
 have HB:Hid (Below w.heap.size w w2):=hid (hmv.below (Nat.le_refl _) (fun i hi=>by omega));have HCC:Hid (∀ b,C b≠0->b=L\/w.heap.size<=b):=hid (fun b hb=>by
  rw [hC] at hb;simp only at hb;split at hb
  ·omega
  ·split at hb
   ·exact .inl (by assumption)
   ·split at hb
    ·omega
    ·exact absurd rfl hb)
 clear h1 h2 hb1 hm2 hmv hmp hsz2 hC hs H;generalize wm.heap.size=g at *
 go_wp2_with fail
 go_ret
 exact ⟨C,g,w.heap.size,rfl,HD.out,HB.out,HCC.out⟩
theorem fE (n:Nat):(madeCells #[.int .u8 0] n).toList=u8s (List.replicate n 0):=by
 apply List.ext_getElem?;intro i;by_cases h:i < n
 ·simp [madeCells,u8s,h,Nat.mod_one]
 ·simp [madeCells,u8s,h]
set_option maxRecDepth 20000 in
theorem Yu (w:World) (p:Nat) (hp:1<=p/\p<=2048):Calls Tryz.prog 52 #[.int .i64 (p:Int)] w fun e w'=>∃ C g L c M,e=.returned (.tuple #[.pointer (some ⟨g,0,none⟩),.int .i64 0])/\
  DevAt C w' g L c M Jh (fun _=>[]) p 0 (fresh (List.replicate (256 * p) 0))/\Below w.heap.size w w'/\∀ b,C b≠0->w.heap.size<=b:=by
 have H:=hid (Ld w (p:Int));have h0:(decide (1<=(p:Int)) && decide ((p:Int)<=2048))=true:=by simp;omega
 rw [h0] at H;have hmul:(p:Int) * 256=((256 * p:Nat):Int):=by omega
 obtain ⟨q,hq⟩:∃ q,q=256 * p:=⟨_,rfl⟩
 rw [<- hq] at hmul ⊢;have hqb:(q:Int)<=524288/\256<=(q:Int):=by omega
 have hwm:wrap64 ((p:Int) * 256)=(q:Int):=by rw [hmul];simp [wrap64];omega
 have hqq:q<=524288:=by omega
 have HQ:=hid hq;have HP:=hid hp;clear h0 hq hp;obtain ⟨i,hi,hz0,hz1,hz2⟩:=info_parts MW
 go_enter Tryz.func52,Tryz.ntmps52
 go_wp2_with fail
 refine H.out.mono ?_;rintro e w' ⟨rfl,rfl⟩
 go_wp2_with (at_make;refine wpList_make_full _ rfl _ _ 74 rfl w.heap.size 5 i (.int .u8 0) 1 Tryz.underlying74 hi hz0 hz1 _ _ _ _ q rfl rfl rfl rfl (by rw [hz2];omega) (by unfold maxLen;omega) (Nat.le_refl _) ?_)
 intro w1 ho1 hg1;rw [fE] at ho1;have hb1:Below w.heap.size w w1:=⟨hg1.os,hg1.tape,hg1.output,hg1.size,fun i hi=>hg1.block i hi (by simp)⟩
 have H2:=hid (Qj w1 w.heap.size q p (List.replicate (256 * p) 0) (by rw [<- HQ.out];exact CG ho1 (Nat.zero_le _)) HP.out);rw [<- HQ.out] at H2;have HB1:=hid hb1;clear ho1 hg1 hb1
 go_wp2_with fail
 refine H2.out.mono ?_;rintro e w2 ⟨C,g,M,rfl,hd,hb2,hc⟩;have HD:=hid hd;have HB2:Hid (Below w.heap.size w w2):=hid (HB1.out.trans (hb2.mono HB1.out.size));have HC:Hid (∀ b,C b≠0->w.heap.size<=b):=hid fun b hb=>by
  have:=HB1.out.size;rcases hc b hb with h | h<;>omega
 clear hd hb2 hc H2 H
 go_wp2_with fail
 go_ret2
 exact ⟨C,g,w.heap.size,q,M,rfl,HD.out,HB2.out,HC.out⟩
end Go.Proofs.YtfhdojnobmfefaaGreatDoor
namespace Go.Proofs.YtfhdojnobmfefaaGreatDoor
open Go.RowKit Go.Inc
def Dv (C:Nat->Nat) (w:World) (g p n:Nat) (S:St):Prop:=∃ L c M f I,DevAt C w g L c M f I p n S
def Ext (w:World) (C C':Nat->Nat):Prop:=∀ b,b < w.heap.size->C' b=C b
section
variable {C:Nat->Nat} {w w':World} {g p n:Nat} {S:St}
theorem Dv.keep (h:Dv C w g p n S) {F:Nat->Prop} (hm:Mv F w w') (hF:∀ b,F b->C b=0):Dv C w' g p n S:=let ⟨L,c,M,f,I,h⟩:=h;⟨L,c,M,f,I,h.keep hm hF⟩
theorem Dv.below (h:Dv C w g p n S) (hb:Below w.heap.size w w'):Dv C w' g p n S:=h.keep (Mv.of_below (F:=fun _=>False) hb) fun _ h=>h.elim
theorem Dv.lt (h:Dv C w g p n S) {b:Nat} (hb:C b≠0):b < w.heap.size:=let ⟨_,_,_,_,_,h⟩:=h;h.lt b hb
theorem Dv.new (h:Dv C w g p n S) {b:Nat} (hb:w.heap.size<=b):C b=0:=by
 rcases Nat.eq_zero_or_pos (C b) with h0 | h0
 ·exact h0
 ·have:=h.lt (b:=b) (by omega);omega
theorem Dv.pp (h:Dv C w g p n S):1<=p/\p<=2048:=let ⟨_,_,_,_,_,h⟩:=h;h.pp
theorem Dv.len (h:Dv C w g p n S):S.B.length=256 * p:=let ⟨_,_,_,_,_,h⟩:=h;h.len
theorem Dv.wl (h:Dv C w g p n S) {x:Int} {b:List Nat} (hb:b∈S.W x):b.length=256:=by
 obtain ⟨_,_,_,f,I,h⟩:=h;rw [h.wait] at hb;obtain ⟨q,hq,rfl⟩:=List.mem_map.1 hb;have hI:I x≠[]:=by intro e;rw [e] at hq;cases hq
 obtain ⟨v,hv,hV⟩:=Kt h hI;exact (hV.all q hq).2.1
theorem Y9 (h:Dv C w g p n S):Calls Tryz.prog 76 #[.pointer (some ⟨g,0,none⟩)] w fun e w'=>e=.returned (.bool S.on)/\w=w':=by
 obtain ⟨_,_,_,_,_,h⟩:=h;exact Py w g _ _ _ _ _ _ _ _ h.row
theorem Y8 (h:Dv C w g p n S):Calls Tryz.prog 158 #[.pointer (some ⟨g,0,none⟩)] w fun e w'=>e=.returned (.int .i64 (p:Int))/\w=w':=by
 obtain ⟨_,_,_,_,_,h⟩:=h;exact L9 w g _ _ _ _ _ _ _ _ _ _ h.row h.pp.2
theorem dm (h:Dv C w g p n S) (k:Nat) (hk:k < p) (ho:S.on=true) (hn:n<=1000000) (hr:S.r<=1000000) :
  Calls Tryz.prog 161 #[.pointer (some ⟨g,0,none⟩),.int .i64 (k:Int)] w fun e w'=>∃ v,e=.returned (.tuple #[v,.int .i64 0])/\Row 5 w.heap.size w' v (rd S k)/\Dv C w' g p n {S with r:=S.r+1}/\Mv (fun b=>C b≠0) w w':=by
 obtain ⟨_,_,_,_,_,h⟩:=h;refine (VR h k hk ho hn hr).mono ?_;rintro e w' ⟨v,rfl,hv,hd,hm⟩;exact ⟨v,rfl,hv,⟨_,_,_,_,_,hd⟩,hm.sub fun b _ e=>by subst e;rw [h.cg];decide⟩
theorem Yh (h:Dv C w g p n S) {k:Nat} (hk:k < p):(rd S k).length=256:=by
 unfold rd;split
 ·exact Yl h.len hk
 ·rename_i hne
  have hpos:=List.length_pos_iff.2 hne;refine h.wl (x:=k) ?_;rw [List.getD_eq_getElem?_getD,List.getElem?_eq_getElem (by omega)];exact List.getElem_mem _
theorem Y7 (h:Dv C w g p n S) (k:Nat) (hk:k < p) (ok:Nat->Prop) (a:Option Addr) (cb:Nat) (bs:List Nat) (hsl:Sl ok w a bs) (hok:∀ b,ok b->C b=0) (hbl:bs.length=256) (ho:S.on=true) (hs:EF S.armed S.left=true) (hn:n<=1000000) (hsn:S.s<=1000000) :
  Calls Tryz.prog 167 #[.pointer (some ⟨g,0,none⟩),.int .i64 (k:Int),.slice a 256 cb] w fun e w'=>e=.returned (.int .i64 0)/\(∃ C',Dv C' w' g p (n+1) (KO S k bs)/\Ext w C C')/\Mv (fun b=>C b≠0) w w':=by
 obtain ⟨_,_,_,_,_,h⟩:=h;refine (RV h k hk ok a cb bs hsl (fun b hb e=>by subst e;have:=hok _ hb;rw [h.cg] at this;omega) hbl ho hs hn hsn).mono ?_;rintro e w' ⟨rfl,⟨C',f',I',hd,hext⟩,hm⟩;exact ⟨rfl,⟨C',⟨_,_,_,_,_,hd⟩,hext⟩,hm⟩
end
theorem fP (w:World) (p:Nat) (hp:1<=p/\p<=2048):Calls Tryz.prog 52 #[.int .i64 (p:Int)] w fun e w'=>∃ C g,e=.returned (.tuple #[.pointer (some ⟨g,0,none⟩),.int .i64 0])/\
  Dv C w' g p 0 (fresh (List.replicate (256 * p) 0))/\Below w.heap.size w w'/\∀ b,C b≠0->w.heap.size<=b:=by
 refine (Yu w p hp).mono ?_;rintro e w' ⟨C,g,L,c,M,rfl,hd,hb,hc⟩;exact ⟨C,g,rfl,⟨_,_,_,_,_,hd⟩,hb,hc⟩
end Go.Proofs.YtfhdojnobmfefaaGreatDoor
