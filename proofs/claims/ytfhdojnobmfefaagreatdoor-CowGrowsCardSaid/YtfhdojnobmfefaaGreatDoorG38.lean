/- MADE SMALL. -/
import Derived.RangeFuncFrom
import Derived.RangeFuncBox
import Derived.Maps.AppendAt
import Derived.Test.YtfhdojnobmfefaaGreatDoorG37
import Derived.Test.YtfhdojnobmfefaaGreatDoorG33
namespace Go.Proofs.YtfhdojnobmfefaaGreatDoor
open Go.RowKit Go.Inc Go.Shelf
attribute [local go_sem] Oper.semAt_some
theorem BU {F:Nat->Prop} {l:Nat} (W:World) (o:Obj) (h:F l):Mv F W (W.putObj l o):=Mv.of_grown (grownBy_putObj' W l o) fun g e _=>by cases e;exact h
set_option maxRecDepth 100000 in
set_option maxHeartbeats 2000000 in
theorem EK {C:Nat->Nat} {p:Nat} {v1 v2 v3:Value} {ks:List Nat} {w:World} (h:Al C w p v1 v2 v3 ks) (hk:Ks ks) (ht:Tab w) :
  Calls Tryz.prog 13 #[.pointer (some ⟨p,0,none⟩)] w fun e w'=>e=.returned (.int .i64 ((Az isF ks).length:Int))/\Below w.heap.size w w':=by
 have HK:=hid hk;have HW:Hid (0 < w.heap.size):=hid (AA (ht 0 (by decide)));obtain ⟨w0,hw0⟩:∃ w0,w0=w.alloc (.cells #[.int .i64 0] 3):=⟨_,rfl⟩
 have HB0:Hid (Below w.heap.size w w0):=hid (by rw [hw0];exact Bz w _);have HS0:Hid (w.heap.size < w0.heap.size):=hid (by rw [hw0];simp);have HC0:Hid (Boxed w0 w.heap.size 3 (.int .i64 0)):=hid (by rw [hw0];exact Boxed.new w 3 (.int .i64 0));have HM:=hid (Nc (h.below HB0.out) hk (ht.below HB0.out));have HW0:=hid hw0;clear h hk ht hw0;refine (callsIn_wide (n:=6)).1 ?_;refine callsIn_of_wp_marks Tryz.func13 rfl trivial ?_ rfl;simp only [Tryz.ntmps13,List.size_toArray,List.length_cons,List.length_nil,Nat.reduceAdd,Nat.reduceSub,Array.replicate_succ,Array.replicate_zero,List.push_toArray,List.append_toArray,List.nil_append,List.cons_append];refine wpIn_wide.2 ?_
 go_wp2_with fail
 rw [<- HW0.out];refine HM.out.mono ?_;clear HM;rintro e w1 ⟨⟨bx,vu,rfl,hU⟩,hb⟩;have HU:=hid hU;have HB1:=hid hb;clear hU hb
 go_wp2_with fail
 refine (wpIn_wide (n:=6)).1 ?_;have hnu:¬ (w.heap.size=0\/(w0.heap.size<=w.heap.size/\w.heap.size < w1.heap.size)):=by have:=HW.out;have:=HS0.out;omega
 refine wpIn_rangeFunc_ownF (n:=6) rfl (by omega) (gf:=99) (lb:=#[.pointer (some ⟨bx,0,none⟩)]) rfl trivial (enters_of Tryz.func99 (by kernel_rfl) rfl)
  (Nb 5 (by omega) bx _ vu ks HK.out w1 HU.out) Mv.trans (fun W l o o' hl _ _ _=>BU W o' (fun hh=>by have:=HW.out;have:=HS0.out;have:=HB1.out.size;omega)) (Below.refl _ _) (fun _=>rfl)
  (fun pre W=>Boxed W w.heap.size 3 (.int .i64 (pre.length:Int))/\Below w.heap.size w W)
  (fun _ _ _=>False)
  (OwnFrom.and (Own.from (boxed_own w.heap.size 3 fun pre:List Nat=>.int .i64 (pre.length:Int)) _) (ownFrom_below (Nat.le_refl _) (by have:=HS0.out;have:=HB1.out.size;omega)))
  (fun _ _ _ _ _ hs _ _=>hs)
  ⟨(HB1.out.block _ HS0.out).trans HC0.out,HB0.out.trans (HB1.out.mono HB0.out.size)⟩
  (fun x=>{tmps:=#[.pointer (some ⟨p,0,none⟩),undef,.int .i64 0,.pointer (some ⟨w.heap.size,0,none⟩),.pointer (some ⟨p,0,none⟩),.bool false,.pointer (some ⟨p,0,none⟩),.pointer (some ⟨p,0,none⟩),.pointer (some ⟨p,0,none⟩),.func (.func 99) #[] #[.pointer (some ⟨bx,0,none⟩)],.int .i64 (x:Int),undef,undef,undef],defers:=[]}) ?assign ?body ?done ?stop
 case assign=>
  intro l x W K hK
  gi_wp2
  simpa using hK
 case body=>
  rintro l pre x W ⟨hv,hB⟩ hlt;have hc:=hv.cell;have hf:=hv.frozen;have hpl:=Mc isF ks;have hks:=HK.out.n2048;have hb2:(pre.length:Int) < 2048:=by omega
  clear hlt hpl hks
  gi_wp2
  refine ⟨KeepsOthers.setCell _ _ _,DW (F:=fun b=>¬ (b=0\/(w0.heap.size<=b/\b < w1.heap.size))) (Mv.refl _ _) hnu _,?_,hB.setCell (p:=⟨w.heap.size,0,none⟩) (Nat.le_refl _) _⟩;rw [List.length_append,show ((pre.length+[x].length:Nat):Int)=(pre.length:Int)+1 from by simp];exact hv.set _
 case done=>
  rintro D ys W hD rfl ⟨hv,hB⟩ hK;have hc:=hv.cell
  go_wp2_with fail
  refine ⟨by simp,.inl ⟨_,_,rfl,run_takeDeferred hK,?_⟩⟩;exact ⟨_,results_tmp rfl _ _ _,rfl,hB.trans (belowK_b (w:=w) (Nat.le_refl _) W D _ _ (by have:=HS0.out;have:=HB1.out.size;omega) hK rfl rfl)⟩
 case stop=>
  rintro D c pre W _ _ h _;exact h.elim
end Go.Proofs.YtfhdojnobmfefaaGreatDoor
namespace Go.Proofs.YtfhdojnobmfefaaGreatDoor
open Go.RowKit Go.Inc Go.Shelf
attribute [local go_sem] Oper.semAt_some
theorem Me {W:World} {B e s n:Nat} {v:Value} {x:List Value} (h:W.ownsRow B e s v n x) {g:Nat} (hg:v.ownBlock=some g):B<=g:=by
 rcases h.2 with ⟨rfl,_⟩ | ⟨g',cap,cur,rfl,hb,_⟩
 ·simp [Value.ownBlock] at hg
 ·obtain rfl:g'=g:=by simpa [Value.ownBlock] using hg
  exact hb
def DF (ks:List Nat) (n:Nat):List Int:=(U7 isF ks).take n
def BR (ks:List Nat) (n:Nat):List Nat:=NW ks (DF ks n) 3
theorem Jy (ks:List Nat) (n:Nat):DF ks n=((Az isF ks).take n).map fun x:Nat=>(x:Int):=by unfold DF U7;rw [List.map_take]
theorem Fz {ks:List Nat} {n:Nat} {z:Int} (h:z∈DF ks n):∃ i:Nat,z=i/\i < ks.length/\kd ks i=1:=by
 obtain ⟨i,h1,h2,h3⟩:=intsK_mem.1 (List.mem_of_mem_take h);exact ⟨i,h1,h2,isF_iff.1 h3⟩
theorem Ks.took {ks:List Nat} (h:Ks ks) (n:Nat):Ks (BR ks n):=h.put (fun z hz=>by
 obtain ⟨i,rfl,h1,h2⟩:=Fz hz;refine ⟨?_,by omega⟩;have h3:=h.k0;have h4:=h.k1;by_cases e0:i=0
 ·subst e0;rw [h3] at h2;cases h2
 ·by_cases e1:i=1
  ·subst e1;rw [h4] at h2;cases h2
  ·omega) (by decide) (by decide)
theorem Lh {pre xs:List Nat} {n:Nat} (h:pre <+: xs) (hl:pre.length=n+1):pre.dropLast=xs.take n/\n<=xs.length:=by
 obtain ⟨t,rfl⟩:=h;refine ⟨?_,by rw [List.length_append];omega⟩;rw [List.dropLast_eq_take,hl,List.take_append_of_le_length (by omega)];rfl
theorem CB {W:World} {B e n:Nat} {v:Value} {l:List Nat} (h:W.ownsRow B e 1 v n (Dl l)):∃ a c,v=.slice a l.length c/\n=l.length/\Si (fun b=>B<=b) W a (l.map fun x:Nat=>(x:Int)):=by
 obtain ⟨a,c,h1,h2,_,_,_,h3⟩:=Si.ownedN h;exact ⟨a,c,h1,h2,h3⟩
def dP (ks:List Nat) (n:Nat) (C:Nat->Nat) (p:Nat) (v1 v2 v3:Value) (W0:Nat) (w':World) (e:Ending):Prop:=
 ((Az isF ks).length < n/\e=.returned (.tuple #[.slice none 0 0,.int .i64 6])/\Al C w' p v1 v2 v3 ks)\/
  (n<=(Az isF ks).length/\(∃ x,e=.returned (.tuple #[x,.int .i64 0])/\Vs W0 w' x n (DF ks n))/\Al C w' p v1 v2 v3 (BR ks n))
set_option maxRecDepth 100000 in
set_option maxHeartbeats 4000000 in
theorem VG {C:Nat->Nat} {p:Nat} {v1 v2 v3:Value} {ks:List Nat} {w:World} (n:Nat) (hnm:(n:Int)<=9223372036854775807) (h:Al C w p v1 v2 v3 ks) (hk:Ks ks) (ht:Tab w) :
  Calls Tryz.prog 144 #[.pointer (some ⟨p,0,none⟩),.int .i64 (n:Int)] w fun e w'=>dP ks n C p v1 v2 v3 w.heap.size w' e/\Mv (fun i=>C i≠0) w w':=by
 obtain ⟨i0,hi,hz0,hz1,hz2⟩:=info_parts TB;have HK:=hid hk;have HAL:=hid h;have HW:Hid (0 < w.heap.size):=hid (AA (ht 0 (by decide)));obtain ⟨w0,hw0⟩:∃ w0,w0=(w.alloc (.cells #[.int .i64 (n:Int)] 3)).alloc (.cells #[.slice none 0 0] 54):=⟨_,rfl⟩
 have HB0:Hid (Below w.heap.size w w0):=hid (by rw [hw0];exact ((Below.refl _ _).alloc (Nat.le_refl _) _).alloc (by simp) _);have HS0:Hid (w.heap.size+1 < w0.heap.size):=hid (by rw [hw0];simp);have HC0:Hid (Boxed w0 w.heap.size 3 (.int .i64 (n:Int))/\Boxed w0 (w.heap.size+1) 54 (.slice none 0 0)):=hid (by rw [hw0];exact ⟨heap_alloc2_old w _ _,heap_alloc2_new w _ _⟩);have HM:=hid (Nc (h.below HB0.out) hk (ht.below HB0.out));have HW0:=hid hw0;clear h hk ht hw0;refine (callsIn_wide (n:=6)).1 ?_;refine callsIn_of_wp_marks Tryz.func144 rfl trivial ?_ rfl;simp only [Tryz.ntmps144,List.size_toArray,List.length_cons,List.length_nil,Nat.reduceAdd,Nat.reduceSub,Array.replicate_succ,Array.replicate_zero,List.push_toArray,List.append_toArray,List.nil_append,List.cons_append];refine wpIn_wide.2 ?_
 go_wp2_with fail
 rw [<- HW0.out];refine HM.out.mono ?_;clear HM;rintro e w1 ⟨⟨bx,vu,rfl,hU⟩,hb⟩;have HU:=hid hU;have HB1:=hid hb;clear hU hb
 go_wp2_with fail
 refine (wpIn_wide (n:=6)).1 ?_;have hnu:¬ (w.heap.size+1=0\/(w0.heap.size<=w.heap.size+1/\w.heap.size+1 < w1.heap.size)):=by have:=HS0.out;omega
 have HBW:Hid (Below w.heap.size w w1):=hid (HB0.out.trans (HB1.out.mono HB0.out.size));refine wpIn_rangeFunc_ownG (n:=6) rfl (by omega) (gf:=99) (lb:=#[.pointer (some ⟨bx,0,none⟩)]) rfl trivial (enters_of Tryz.func99 (by kernel_rfl) rfl)
  (Nb 5 (by omega) bx _ vu ks HK.out w1 HU.out) Mv.trans (fun W l o o' hl _ _ _=>BU W o' (fun hh=>by have:=HW.out;have:=HS0.out;have:=HB1.out.size;omega)) (Below.refl _ _) (fun _=>rfl)
  (fun pre W=>(∃ v,Boxed W (w.heap.size+1) 54 v/\W.ownsRow w1.heap.size 3 1 v pre.length (Dl pre)/\True)/\Boxed W w.heap.size 3 (.int .i64 (n:Int))/\pre.length<=n/\Below w.heap.size w1 W)
  (fun c pre W=>(∃ v,Boxed W (w.heap.size+1) 54 v/\W.ownsRow w1.heap.size 3 1 v pre.dropLast.length (Dl pre.dropLast)/\True)/\Boxed W w.heap.size 3 (.int .i64 (n:Int))/\(c=.exit 0/\pre.length=n+1)/\Below w.heap.size w1 W)
  (OwnFrom.and (Own.from (holdsRow_own w1.heap.size (w.heap.size+1) 54 3 1 (fun pre:List Nat=>pre.length) (fun pre=>Dl pre) (fun _ _=>True)) _) (OwnFrom.and (Own.from (boxed_own w.heap.size 3 fun _:List Nat=>.int .i64 (n:Int)) _) (OwnFrom.and (ownFrom_pure _ fun pre:List Nat=>pre.length<=n) (ownFrom_below HBW.out.size HBW.out.size))))
  (fun c=>OwnFrom.and (Own.from (holdsRow_own w1.heap.size (w.heap.size+1) 54 3 1 (fun pre:List Nat=>pre.dropLast.length) (fun pre=>Dl pre.dropLast) (fun _ _=>True)) _) (OwnFrom.and (Own.from (boxed_own w.heap.size 3 fun _:List Nat=>.int .i64 (n:Int)) _) (OwnFrom.and (ownFrom_pure _ fun pre:List Nat=>c=.exit 0/\pre.length=n+1) (ownFrom_below HBW.out.size HBW.out.size))))
  ⟨⟨_,(HB1.out.block _ (by have:=HS0.out;omega)).trans HC0.out.2,World.ownsRow_nil _ _ _ _,trivial⟩,(HB1.out.block _ (by have:=HS0.out;omega)).trans HC0.out.1,Nat.zero_le _,Below.refl _ _⟩
  (fun x=>{tmps:=#[.pointer (some ⟨p,0,none⟩),.int .i64 (n:Int),undef,.pointer (some ⟨w.heap.size,0,none⟩),.slice none 0 0,.int .i64 0,.pointer (some ⟨w.heap.size+1,0,none⟩),.int .i64 (x:Int),.pointer (some ⟨p,0,none⟩),.bool false,.int .i64 (n:Int),.bool (decide ((n:Int) < 0)),.pointer (some ⟨p,0,none⟩),.pointer (some ⟨p,0,none⟩),.pointer (some ⟨p,0,none⟩),.func (.func 99) #[] #[.pointer (some ⟨bx,0,none⟩)],.int .i64 (x:Int),undef,undef,undef,undef,undef,undef,undef,undef,undef,undef,undef,undef,undef,undef,undef,undef,undef,undef,undef,undef],defers:=[]}) ?assign ?body ?done ?stop
 case assign=>
  intro l x W K hK
  gi_wp2
  simpa using hK
 case body=>
  rintro l pre x W ⟨⟨v,hv,hrow,-⟩,hbn,hle,hB⟩ hlt;have hpl:=Mc isF ks;have hks:=HK.out.n2048;have hb2:(pre.length:Int) < 2048:=by omega
  obtain ⟨a,c,rfl,-,-⟩:=CB hrow;have hc:=hv.cell;have hcn:=hbn.cell;clear hlt hpl hks;by_cases hpn:pre.length=n
  ·have heq:((pre.length:Int) == (n:Int))=true:=by rw [beq_iff_eq];omega
   have HPN:=hid hpn;clear hpn
   gi_wp2
   exact ⟨KeepsFrom.refl _ _,⟨_,hv,by rw [List.dropLast_concat];exact hrow,trivial⟩,hbn,⟨rfl,by rw [List.length_append,HPN.out];rfl⟩,hB⟩
  ·have heq:((pre.length:Int) == (n:Int))=false:=by rw [beq_eq_false_iff_ne];omega
   have HLE:Hid (pre.length+1<=n):=hid (by omega);have hws:w1.heap.size<=W.heap.size:=hB.size;have hws2:w.heap.size<=W.heap.size:=Nat.le_trans HBW.out.size hws;clear hpn hle
   gi_wp2_with (gi_at_builtin;refine wpListIn_append_own _ rfl _ _ 54 rfl w1.heap.size 3 i0 (.int .i64 0) 1 8 Tryz.underlying54 hi hz0 hz1 hz2 rfl (by decide) _ _ _ rfl (hrow.alloc _) ⟨W.heap.size,0,none⟩ 1 1 [.int .i64 (x:Int)] rfl rfl (cell_one_new _ _ _) (by simp [Value.oneCell']) (by unfold maxLen;omega) (by omega) (by simp;omega) ?_;intro v' w3 hown' hgrow _;obtain ⟨g',cap',rfl⟩:=ownsRow_succ hown';obtain ⟨hv1,hv2,hr2,hk2,hb2⟩:=hv.appended (by decide) (CG hrow HBW.out.size) hws2 (by omega) (CG hown' HBW.out.size) hgrow;have hc1:=hv1.cell;have hf1:=hv1.frozen)
   have hM:Mv (fun b=>b=w.heap.size+1\/w1.heap.size<=b) W (w3.setCell ⟨w.heap.size+1,0,none⟩ (.slice (some ⟨g',0,none⟩) (pre.length+1) cap')):=
    ((Mv.of_below (Bz W _)).trans (Mv.of_grown hgrow fun g e _=>.inr (Me hrow e))).trans (DW (F:=fun b=>b=w.heap.size+1\/w1.heap.size<=b) (Mv.refl _ _) (.inl rfl) _)
   have hr3:=hown'.kept (grownBy_setCell' w3 (w.heap.size+1) (.slice (some ⟨g',0,none⟩) (pre.length+1) cap')) (.inr (hv1.not_row (by decide) hown').symm);have hS0:=HS0.out;have hB1s:=HB1.out.size;refine ⟨hk2.from _,hM.sub fun b _ hb hu=>?_,⟨_,hv2,by rw [List.length_append,MF];exact hr3,trivial⟩,(hM.block _ hbn.lt (by omega)).trans hbn,by rw [List.length_append];exact HLE.out,hB.trans (hM.below hws2 fun b hb=>by have:=HBW.out.size;omega)⟩;rcases hb with rfl | hb
   ·exact hnu hu
   ·have:=HW.out;have:=HBW.out.size;omega
 case done=>
  rintro D ys W hD rfl ⟨⟨v,hv,hrow,-⟩,hbn,hle,hB⟩ hK;by_cases hlt:(Az isF ks).length < n
  ·obtain ⟨a,c,rfl,-,hsi⟩:=CB hrow;have hc:=hv.cell;have hcn:=hbn.cell;have hK2:=hK;have hDb:=hD;have hlt2:((Az isF ks).length:Int) < (n:Int):=by omega
   have HLT:=hid hlt;clear hlt hle
   go_wp2_with fail
   refine ⟨by simp,.inl ⟨_,_,rfl,run_takeDeferred hK2,?_⟩⟩;have h1:Below w.heap.size W (W.putObj D (.deferred none)):=belowK_b (w:=w) (Nat.le_refl _) W D _ _ (by have:=HBW.out.size;omega) hK2 rfl rfl;have h2:Below w.heap.size w (W.putObj D (.deferred none)):=(HBW.out.trans hB).trans h1;exact ⟨_,results_tmp2 rfl _ _ _,.inl ⟨HLT.out,rfl,HAL.out.below h2⟩,Mv.of_below h2⟩
  ·have hln:(Az isF ks).length=n:=by omega
   have hz:((Az isF ks).map fun x:Nat=>(x:Int))=DF ks n:=by rw [Jy,<- hln,List.take_length]
   have hnF:n<=(Az isF ks).length:=by omega
   obtain ⟨a,c,hv0,-,hsi⟩:=CB hrow;rw [hln] at hv0;subst hv0;obtain ⟨l,hl⟩:∃ l,l=Az isF ks:=⟨_,rfl⟩
   rw [<- hl] at hln hz hsi hrow;clear hlt hle hl;have hcl:=hv.cell;have hcn:=hbn.cell;have hWW:Below w.heap.size w W:=HBW.out.trans hB;have HWW:=hid hWW;have HALW:Hid (Al C W p v1 v2 v3 ks):=hid (HAL.out.below hWW);have HCC:Hid (∀ x,Grew W.drew x->x.cell? ⟨p,1,none⟩=some v2/\x.cell? ⟨w.heap.size+1,0,none⟩=some (.slice a n c)):=hid fun x hx=>by
    have hb:Below W.heap.size W x:=⟨hx.os,hx.tape,hx.output,hx.size,hx.block⟩
    exact ⟨(HALW.out.below hb).c1,(hb.cell (AA hcl)).trans hcl⟩
   have HSI:=hid hsi;have HROW:=hid hrow;have HDK:=hid hK;have HDD:Hid (w1.heap.size<=D/\D < W.heap.size):=hid ⟨hD,Aj hK⟩;have HHZ:Hid ((l.map fun x:Nat=>(x:Int))=DF ks n):=hid hz;have HNF:Hid (n<=(Az isF ks).length):=hid hnF;have HHL:Hid (l.length=n):=hid hln;clear hsi hrow hK hz hnF hln hB hWW hi hz0 hz1 hz2 hnu hD hbn hv
   go_wp2_with fail
   refine Ai 6 [Ah (.pointer (some ⟨p,0,none⟩)),Ah (.pointer (some ⟨p,0,none⟩)),Ah (.pointer (some ⟨p,0,none⟩)),Ah (.pointer (some ⟨p,1,none⟩)),Ah (v2),Ah (.slice a n c)] (by kernel_rfl) (by decide) (by kernel_rfl) ?_ ?_ ?_
   ·repeat' (first | exact List.forall_mem_nil _ | refine List.forall_mem_cons.2 ⟨?_,?_⟩)
    all_goals
     intro w w' v hw h
     first | exact h | exact h
   ·simp only [AllLt];refine ⟨⟨⟨⟨⟨⟨trivial,?_⟩,?_⟩,?_⟩,?_⟩,?_⟩,?_⟩
    all_goals
     intro o' ho;simp at ho;subst ho;intro ρ w5 hR hL hS hG;obtain ⟨hl1,hl2,-⟩:=hL
    ·refine Aa rfl ?_;intro bA K Q' hK;have e0:=hS 0 (by kernel_rfl);change ρ (.tmp 0)=_ at e0;simp only [execOp];go_simp;exact hK _ _ rfl (Grew.refl _)
    ·refine Aa rfl ?_;intro bA K Q' hK;have e29:=apG (hG 0 29);change ρ (.tmp 29)=_ at e29;simp only [execOp];go_simp;exact hK _ _ rfl (Grew.refl _)
    ·refine Aa rfl ?_;intro bA K Q' hK;have e30:=apG (hG 1 30);change ρ (.tmp 30)=_ at e30;simp only [execOp];go_simp;exact hK _ _ rfl (Grew.refl _)
    ·refine Aa rfl ?_;intro bA K Q' hK;have e31:=apG (hG 2 31);change ρ (.tmp 31)=_ at e31;simp only [execOp];go_simp;exact hK _ _ rfl (Grew.refl _)
    ·refine Aa rfl ?_;intro bA K Q' hK;have e32:=apG (hG 3 32);change ρ (.tmp 32)=_ at e32;obtain ⟨y0,y1⟩:=HCC.out w5 hR;simp only [execOp];go_simp;exact hK _ _ rfl (Grew.refl _)
    ·refine Aa rfl ?_;intro bA K Q' hK;have e6:=hS 6 (by kernel_rfl);change ρ (.tmp 6)=_ at e6;obtain ⟨y0,y1⟩:=HCC.out w5 hR;simp only [execOp];go_simp;exact hK _ _ rfl (Grew.refl _)
   ·intro v w3 hR hG;have h4:v 4=v2:=hG.1.2;have h5:v 5=.slice a n c:=hG.2;have hb:Below W.heap.size W w3:=⟨hR.os,hR.tape,hR.output,hR.size,hR.block⟩
    have HB3:=hid hb;have hadd:=JW (fun b=>C b=3) (fun b=>w1.heap.size<=b) v2 _ a c (l.map fun x:Nat=>(x:Int)) w3 (HALW.out.below hb).s2 (HSI.out.below hb) (fun i hi hc=>by have:=HAL.out.old i (by rw [hc];decide);have:=HBW.out.size;omega) (by rw [List.length_map,HHL.out];exact hnm);rw [Hz (p:=isS) (k:=3) rfl,List.length_map,HHL.out,HHZ.out] at hadd;have HADD:=hid hadd;have hcl3:=(HCC.out w3 hR).2;have HRW:Hid (w3.heap[D]?=some (.deferred (some []))):=hid ((hb.block D HDD.out.2).trans HDK.out);clear hadd hG hR hb HCC hcl;simp [stG,stU,Au,Act.put,h4,h5];clear h4 h5
    go_wp2_with fail
    refine HADD.out.mono ?_;clear HADD;rintro e w4 ⟨rfl,hs,hm⟩;have hcl4:=hm.cell hcl3 (fun hc=>by have:=HAL.out.old (w.heap.size+1) (by rw [show C (w.heap.size+1)=3 from hc];decide);omega);have HS:=hid hs;have HM:=hid hm;have hDz:C D=0:=Decidable.byContradiction fun hh=>by have:=HAL.out.old D hh;have:=HBW.out.size;have:=HDD.out.1;omega
    have HDZ:=hid hDz;have hK4:w4.heap[D]?=some (.deferred (some [])):=(hm.block D (Aj HRW.out) (fun hc=>by rw [show C D=3 from hc] at hDz;cases hDz)).trans HRW.out;have HK4:=hid hK4;clear hs hm hDz hK4 hcl3
    go_wp2_with fail
    refine ⟨by simp,.inl ⟨_,_,rfl,run_takeDeferred HK4.out,?_⟩⟩;refine ⟨_,results_tmp2 rfl _ _ _,?_,?_⟩
    ·refine .inr ⟨HNF.out,⟨_,rfl,?_⟩,?_⟩
     ·have h1:=Ag (Ag (F:=fun _=>False) HROW.out (Mv.of_below HB3.out) (fun _ _=>id)) HM.out (fun i hi hc=>by have:=HAL.out.old i (by rw [show C i=3 from hc];decide);have:=Me HROW.out hi;have:=HBW.out.size;omega);obtain ⟨a',c',e1,e2,e3⟩:=CB (ownsRow_putObj h1 (.deferred none) HK4.out rfl);rw [HHL.out] at e1;rw [HHZ.out] at e3;exact ⟨a',c',e1,e3.mono fun b hb _=>Nat.le_trans HBW.out.size hb⟩
     ·have hh:=((HALW.out.below HB3.out).turn2 HM.out HS.out).mv (BU (F:=fun i=>i=D) w4 (.deferred none) rfl) (fun i hi=>by rw [show i=D from hi];exact HDZ.out);have e1:AC isC ks=AC isC (BR ks n):=(CQ fun z hz=>by
       obtain ⟨i,rfl,_,h2⟩:=Fz hz;rw [show ((i:Nat):Int).toNat=i from rfl,h2];decide).symm
      have e2:AC isP ks=AC isP (BR ks n):=(CQ fun z hz=>by
       obtain ⟨i,rfl,_,h2⟩:=Fz hz;rw [show ((i:Nat):Int).toNat=i from rfl,h2];decide).symm
      rw [e1,e2] at hh;exact hh
    ·have h1:Below w.heap.size w4 (w4.putObj D (.deferred none)):=belowK_b (w:=w) (Nat.le_refl _) w4 D _ _ (by have:=HBW.out.size;have:=HDD.out.1;omega) HK4.out rfl rfl;have h2:Mv (fun i=>C i≠0) w w4:=(Mv.of_below (HWW.out.trans (HB3.out.mono HWW.out.size))).trans (MM HM.out (by decide));exact h2.trans' (F':=fun i=>i=D) (BU w4 _ rfl) fun i hi e=>by subst e;have:=HBW.out.size;have:=HDD.out.1;omega
 case stop=>
  rintro D c' pre W hD hpre ⟨⟨v,hv,hrow,-⟩,hbn,⟨rfl,hpl⟩,hB⟩ hK;obtain ⟨hdl,hnF⟩:=Lh hpre hpl;have hln:pre.dropLast.length=n:=by rw [List.length_dropLast];omega
  have hz:(pre.dropLast.map fun x:Nat=>(x:Int))=DF ks n:=by rw [Jy,hdl]
  obtain ⟨a,c,hv0,-,hsi⟩:=CB hrow;rw [hln] at hv0;subst hv0;clear hdl hpre hpl;generalize pre.dropLast=l at hln hz hsi hrow;refine wpIn_wide.2 ?_;have hcl:=hv.cell;have hcn:=hbn.cell;have hWW:Below w.heap.size w W:=HBW.out.trans hB;have HWW:=hid hWW;have HALW:Hid (Al C W p v1 v2 v3 ks):=hid (HAL.out.below hWW);have HCC:Hid (∀ x,Grew W.drew x->x.cell? ⟨p,1,none⟩=some v2/\x.cell? ⟨w.heap.size+1,0,none⟩=some (.slice a n c)):=hid fun x hx=>by
   have hb:Below W.heap.size W x:=⟨hx.os,hx.tape,hx.output,hx.size,hx.block⟩
   exact ⟨(HALW.out.below hb).c1,(hb.cell (AA hcl)).trans hcl⟩
  have HSI:=hid hsi;have HROW:=hid hrow;have HDK:=hid hK;have HDD:Hid (w1.heap.size<=D/\D < W.heap.size):=hid ⟨hD,Aj hK⟩;have HHZ:Hid ((l.map fun x:Nat=>(x:Int))=DF ks n):=hid hz;have HNF:Hid (n<=(Az isF ks).length):=hid hnF;have HHL:Hid (l.length=n):=hid hln;clear hsi hrow hK hz hnF hln hB hWW hi hz0 hz1 hz2 hnu hD hbn hv
  go_wp2_with fail
  refine Ai 6 [Ah (.pointer (some ⟨p,0,none⟩)),Ah (.pointer (some ⟨p,0,none⟩)),Ah (.pointer (some ⟨p,0,none⟩)),Ah (.pointer (some ⟨p,1,none⟩)),Ah (v2),Ah (.slice a n c)] (by kernel_rfl) (by decide) (by kernel_rfl) ?_ ?_ ?_
  ·repeat' (first | exact List.forall_mem_nil _ | refine List.forall_mem_cons.2 ⟨?_,?_⟩)
   all_goals
    intro w w' v hw h
    first | exact h | exact h
  ·simp only [AllLt];refine ⟨⟨⟨⟨⟨⟨trivial,?_⟩,?_⟩,?_⟩,?_⟩,?_⟩,?_⟩
   all_goals
    intro o' ho;simp at ho;subst ho;intro ρ w5 hR hL hS hG;obtain ⟨hl1,hl2,-⟩:=hL
   ·refine Aa rfl ?_;intro bA K Q' hK;have e0:=hS 0 (by kernel_rfl);change ρ (.tmp 0)=_ at e0;simp only [execOp];go_simp;exact hK _ _ rfl (Grew.refl _)
   ·refine Aa rfl ?_;intro bA K Q' hK;have e29:=apG (hG 0 29);change ρ (.tmp 29)=_ at e29;simp only [execOp];go_simp;exact hK _ _ rfl (Grew.refl _)
   ·refine Aa rfl ?_;intro bA K Q' hK;have e30:=apG (hG 1 30);change ρ (.tmp 30)=_ at e30;simp only [execOp];go_simp;exact hK _ _ rfl (Grew.refl _)
   ·refine Aa rfl ?_;intro bA K Q' hK;have e31:=apG (hG 2 31);change ρ (.tmp 31)=_ at e31;simp only [execOp];go_simp;exact hK _ _ rfl (Grew.refl _)
   ·refine Aa rfl ?_;intro bA K Q' hK;have e32:=apG (hG 3 32);change ρ (.tmp 32)=_ at e32;obtain ⟨y0,y1⟩:=HCC.out w5 hR;simp only [execOp];go_simp;exact hK _ _ rfl (Grew.refl _)
   ·refine Aa rfl ?_;intro bA K Q' hK;have e6:=hS 6 (by kernel_rfl);change ρ (.tmp 6)=_ at e6;obtain ⟨y0,y1⟩:=HCC.out w5 hR;simp only [execOp];go_simp;exact hK _ _ rfl (Grew.refl _)
  ·intro v w3 hR hG;have h4:v 4=v2:=hG.1.2;have h5:v 5=.slice a n c:=hG.2;have hb:Below W.heap.size W w3:=⟨hR.os,hR.tape,hR.output,hR.size,hR.block⟩
   have HB3:=hid hb;have hadd:=JW (fun b=>C b=3) (fun b=>w1.heap.size<=b) v2 _ a c (l.map fun x:Nat=>(x:Int)) w3 (HALW.out.below hb).s2 (HSI.out.below hb) (fun i hi hc=>by have:=HAL.out.old i (by rw [hc];decide);have:=HBW.out.size;omega) (by rw [List.length_map,HHL.out];exact hnm);rw [Hz (p:=isS) (k:=3) rfl,List.length_map,HHL.out,HHZ.out] at hadd;have HADD:=hid hadd;have hcl3:=(HCC.out w3 hR).2;have HRW:Hid (w3.heap[D]?=some (.deferred (some []))):=hid ((hb.block D HDD.out.2).trans HDK.out);clear hadd hG hR hb HCC hcl;simp [stG,stU,Au,Act.put,h4,h5];clear h4 h5
   go_wp2_with fail
   refine HADD.out.mono ?_;clear HADD;rintro e w4 ⟨rfl,hs,hm⟩;have hcl4:=hm.cell hcl3 (fun hc=>by have:=HAL.out.old (w.heap.size+1) (by rw [show C (w.heap.size+1)=3 from hc];decide);omega);have HS:=hid hs;have HM:=hid hm;have hDz:C D=0:=Decidable.byContradiction fun hh=>by have:=HAL.out.old D hh;have:=HBW.out.size;have:=HDD.out.1;omega
   have HDZ:=hid hDz;have hK4:w4.heap[D]?=some (.deferred (some [])):=(hm.block D (Aj HRW.out) (fun hc=>by rw [show C D=3 from hc] at hDz;cases hDz)).trans HRW.out;have HK4:=hid hK4;clear hs hm hDz hK4 hcl3
   go_wp2_with fail
   refine ⟨by simp,.inl ⟨_,_,rfl,run_takeDeferred HK4.out,?_⟩⟩;refine ⟨_,results_tmp2 rfl _ _ _,?_,?_⟩
   ·refine .inr ⟨HNF.out,⟨_,rfl,?_⟩,?_⟩
    ·have h1:=Ag (Ag (F:=fun _=>False) HROW.out (Mv.of_below HB3.out) (fun _ _=>id)) HM.out (fun i hi hc=>by have:=HAL.out.old i (by rw [show C i=3 from hc];decide);have:=Me HROW.out hi;have:=HBW.out.size;omega);obtain ⟨a',c',e1,e2,e3⟩:=CB (ownsRow_putObj h1 (.deferred none) HK4.out rfl);rw [HHL.out] at e1;rw [HHZ.out] at e3;exact ⟨a',c',e1,e3.mono fun b hb _=>Nat.le_trans HBW.out.size hb⟩
    ·have hh:=((HALW.out.below HB3.out).turn2 HM.out HS.out).mv (BU (F:=fun i=>i=D) w4 (.deferred none) rfl) (fun i hi=>by rw [show i=D from hi];exact HDZ.out);have e1:AC isC ks=AC isC (BR ks n):=(CQ fun z hz=>by
      obtain ⟨i,rfl,_,h2⟩:=Fz hz;rw [show ((i:Nat):Int).toNat=i from rfl,h2];decide).symm
     have e2:AC isP ks=AC isP (BR ks n):=(CQ fun z hz=>by
      obtain ⟨i,rfl,_,h2⟩:=Fz hz;rw [show ((i:Nat):Int).toNat=i from rfl,h2];decide).symm
     rw [e1,e2] at hh;exact hh
   ·have h1:Below w.heap.size w4 (w4.putObj D (.deferred none)):=belowK_b (w:=w) (Nat.le_refl _) w4 D _ _ (by have:=HBW.out.size;have:=HDD.out.1;omega) HK4.out rfl rfl;have h2:Mv (fun i=>C i≠0) w w4:=(Mv.of_below (HWW.out.trans (HB3.out.mono HWW.out.size))).trans (MM HM.out (by decide));exact h2.trans' (F':=fun i=>i=D) (BU w4 _ rfl) fun i hi e=>by subst e;have:=HBW.out.size;have:=HDD.out.1;omega
end Go.Proofs.YtfhdojnobmfefaaGreatDoor
namespace Go.Proofs.YtfhdojnobmfefaaGreatDoor
open Go.RowKit Go.Inc
structure Own (C:Nat->Nat) (w z:World) (p:Nat) (v1 v2 v3:Value) (ks:List Nat):Prop where
 al:Al C z p v1 v2 v3 ks
 ks:Ks ks
 tab:Tab z
 bel:Below w.heap.size w z
 low:∀ i,C i≠0->w.heap.size<=i
section
variable {C:Nat->Nat} {w z z':World} {p:Nat} {v1 v2 v3:Value} {ks ks':List Nat}
theorem Own.below (h:Own C w z p v1 v2 v3 ks) (hb:Below z.heap.size z z'):Own C w z' p v1 v2 v3 ks:=
 ⟨h.al.below hb,h.ks,h.tab.below hb,h.bel.trans (hb.mono h.bel.size),h.low⟩
theorem Own.turn (h:Own C w z p v1 v2 v3 ks) (hm:Mv (fun i=>C i≠0) z z') (hal:Al C z' p v1 v2 v3 ks') (hk:Ks ks'):Own C w z' p v1 v2 v3 ks':=
 ⟨hal,hk,eP hm h.al.z0 h.tab,h.bel.trans (hm.below h.bel.size h.low),h.low⟩
theorem Own.mv {F:Nat->Prop} (h:Own C w z p v1 v2 v3 ks) (hm:Mv F z z') (hF:∀ i,F i->C i=0/\w.heap.size<=i) (h0:0 < w.heap.size):Own C w z' p v1 v2 v3 ks:=
 ⟨h.al.mv hm fun i hi=>(hF i hi).1,h.ks,h.tab.mv hm fun hf=>by have:=(hF 0 hf).2;omega,h.bel.trans (hm.below h.bel.size fun i hi=>(hF i hi).2),h.low⟩
theorem Own.far {i:Nat} (h:Own C w z p v1 v2 v3 ks) (hi:z.heap.size<=i):C i=0:=Decidable.byContradiction fun hh=>by have:=h.al.old i hh;omega
end
theorem QB {C:Nat->Nat} {w z:World} {p:Nat} {v1 v2 v3:Value} {ks:List Nat} (h:Own C w z p v1 v2 v3 ks) (n:Nat) (hn:(n:Int)<=9223372036854775807) :
  Calls Tryz.prog 144 #[.pointer (some ⟨p,0,none⟩),.int .i64 (n:Int)] z fun e z'=>((Az isF ks).length < n/\e=.returned (.tuple #[.slice none 0 0,.int .i64 6])/\Own C w z' p v1 v2 v3 ks/\Mv (fun i=>C i≠0) z z')\/
   (n<=(Az isF ks).length/\(∃ x,e=.returned (.tuple #[x,.int .i64 0])/\Vs z.heap.size z' x n (DF ks n))/\Own C w z' p v1 v2 v3 (BR ks n)/\Mv (fun i=>C i≠0) z z'):=by
 refine (VG n hn h.al h.ks h.tab).mono ?_;rintro e z' ⟨(⟨h1,h2,h3⟩ | ⟨h1,h2,h3⟩),hm⟩
 ·exact .inl ⟨h1,h2,h.turn hm h3 h.ks,hm⟩
 ·exact .inr ⟨h1,h2,h.turn hm h3 (h.ks.took n),hm⟩
theorem Yo {C:Nat->Nat} {w z:World} {p:Nat} {v1 v2 v3:Value} {ks:List Nat} (h:Own C w z p v1 v2 v3 ks) (okz:Nat->Prop) (a:Option Addr) (cz:Nat) (zs:List Int) (hz:Si okz z a zs) (hd:∀ i,okz i->C i=0) (hl:(zs.length:Int)<=9223372036854775807) :
  Calls Tryz.prog 123 #[.pointer (some ⟨p,0,none⟩),.slice a zs.length cz] z fun e z'=>e=.returned (.int .i64 (Io ks zs))/\Own C w z' p v1 v2 v3 (Fb ks zs)/\Mv (fun i=>C i≠0) z z':=
 (YS okz a cz zs h.al h.ks hz hd hl).mono fun _ _ hh=>⟨hh.1,h.turn hh.2.2 hh.2.1 (h.ks.gave zs),hh.2.2⟩
theorem bn {w:World} (okz:Nat->Prop) (n:Nat) (a:Option Addr) (cz:Nat) (zs:List Int) (z:World) (hw:Below w.heap.size w z) (hz:Si okz z a zs) (h1:(2:Int)<=n) (h2:(n:Int)<=2048) (hl:(zs.length:Int)<=9223372036854775807) (ht:Tab z) :
  Calls Tryz.prog 53 #[.int .i64 (n:Int),.slice a zs.length cz] z fun e z'=>((N7 n zs=0/\∃ C p v1 v2 v3,e=.returned (.tuple #[.pointer (some ⟨p,0,none⟩),.int .i64 0])/\Own C w z' p v1 v2 v3 (Ji n zs)/\∀ i,C i≠0->z.heap.size<=i)\/
   (N7 n zs≠0/\e=.returned (.tuple #[.pointer none,.int .i64 (N7 n zs)])))/\Below z.heap.size z z':=by
 refine (P5 okz n a cz zs z hz h1 h2 hl ht).mono ?_;rintro e z' ⟨(⟨h3,C,p,v1,v2,v3,h4,h5,h6⟩ | ⟨h3,h4⟩),hb⟩
 ·exact ⟨.inl ⟨h3,C,p,v1,v2,v3,h4,⟨h5,bH (by omega) (by omega) h3,ht.below hb,hw.trans (hb.mono hw.size),fun i hi=>Nat.le_trans hw.size (h6 i hi)⟩,h6⟩,hb⟩
 ·exact ⟨.inr ⟨h3,h4⟩,hb⟩
end Go.Proofs.YtfhdojnobmfefaaGreatDoor
