/- MADE SMALL. -/
import Derived.Test.YtfhdojnobmfefaaGreatDoorG5
import Derived.Test.YtfhdojnobmfefaaGreatDoorG15
import Derived.Test.YtfhdojnobmfefaaGreatDoorG4
import Derived.Deep.RegionHeld3
import Derived.Deep.CutBlock
import Derived.Test.YtfhdojnobmfefaaGreatDoorG11
namespace Go.Proofs.YtfhdojnobmfefaaGreatDoor
open Go.RowKit Go.Inc
def DecOk (ok:Nat->Prop) (bs:List Nat) (r:Ending) (w':World):Prop:=∃ v,r=.returned (.tuple #[.agg #[.int .i64 (Be bs).k,.int .i64 (Be bs).e,.int .i64 (Be bs).p,v],.int .i64 (DJ bs:Nat)])/\Bb ok w' v (Be bs).b
abbrev NS (bs:List Nat) (B:Nat) (r:Ending) (w':World):Prop:=DecOk (fun b=>B<=b) bs r w'
theorem DecOk.bad {ok:Nat->Prop} {bs:List Nat} {e:Nat} {w':World} (h:DJ bs=e) (h0:e≠0):DecOk ok bs (.returned (.tuple #[.agg #[.int .i64 0,.int .i64 0,.int .i64 0,.slice none 0 0],.int .i64 (e:Int)])) w':=by
 unfold DecOk Be;rw [h,if_neg h0];exact ⟨_,rfl,none,0,rfl,Sl.nil _ _ _,Nat.le_refl _,Nat.zero_le _,fun _=>rfl⟩
abbrev zc:Array Value:=#[.int .i64 0,.int .i64 0,.int .i64 0,.slice none 0 0]
theorem Qp (w:World) (g:Nat) (cs:Array Value) (tmps:Array Value) (h2:tmps.getD 2 undef=.pointer (some ⟨g,0,none⟩)) (hg:w.heap[g]?=some (.cells cs 233 (0,0))) (hs:cs.size=4) :
  (results Tryz.f173 tmps).run Tryz.prog w=.ok (.tuple #[.agg cs,tmps.getD 3 undef]) w:=
 GL rfl tmps w g 233 cs (0,0) _ h2 hg Tryz.underlying233 rfl (by rw [hs];kernel_rfl)
set_option maxHeartbeats 1000000 in
theorem TW (a:Option Addr) (c:Nat) (bs:List Nat) (w:World) (hl:(bs.length:Int)≠256) :
  Calls Tryz.prog 173 #[.slice a bs.length c] w fun r w'=>NS bs w.heap.size r w'/\Below w.heap.size w w':=by
 have hq:((bs.length:Int) != 256)=true:=by rw [bne_iff_ne];exact hl
 have HD:Hid (DJ bs=2):=hid (by unfold DJ;rw [if_pos (by omega)]);clear hl
 go_enter Tryz.func173,Tryz.ntmps173
 go_wp2_with fail
 refine bodyPost_ret (v:=.tuple #[.agg zc,.int .i64 2]) (Qp _ _ _ _ rfl (heap_alloc_new w _) rfl) rfl ⟨?_,(Below.refl _ _).alloc (Nat.le_refl _) _⟩;exact DecOk.bad HD.out (by decide)
set_option maxHeartbeats 2000000 in
theorem TV (b o c:Nat) (bs:List Nat) (w:World) (hs:Sl (fun _=>True) w (some ⟨b,o,none⟩) bs) (hby:Bytes bs) (hl:bs.length=256) (hc:256<=c/\c<=maxLen) :
  Calls Tryz.prog 173 #[.slice (some ⟨b,o,none⟩) 256 c] w fun r w'=>NS bs w.heap.size r w'/\Below w.heap.size w w':=by
 obtain ⟨wb,hwb⟩:∃ wb,wb=w.alloc (.cells #[.int .i64 0,.int .i64 0,.int .i64 0,.slice none 0 0] 233):=⟨_,rfl⟩
 have hb:Below w.heap.size w wb:=by rw [hwb];exact (Below.refl _ _).alloc (Nat.le_refl _) _
 have hr:wb.heap[w.heap.size]?=some (.cells #[.int .i64 0,.int .i64 0,.int .i64 0,.slice none 0 0] 233 (0,0)):=by rw [hwb];exact heap_alloc_new w _
 have HH0:=WA (fun _=>True) (some ⟨b,o,none⟩) c bs wb (hs.below hb) hby (by omega) hc.2;rw [hl] at HH0;have HH:=hid HH0;have HSL:=hid (hs.below hb);have HWB:=hid hwb;have HB:=hid hb;have HR:=hid hr;have HBY:=hid hby;have HL:=hid hl;have HCC:=hid hc;have hm:(c:Int)<=9223372036854775807:=by have:=hc.2;unfold maxLen at this;omega
 have hc1:(256:Int)<=c:=by omega
 have HD5:Hid (ER bs=false->DJ bs=5):=hid fun h=>by unfold DJ;rw [if_neg (by omega),if_pos h]
 have HD:Hid (ER bs=true->DJ bs=if chk (Af bs)=0/\laid (Af bs)=bs.take 252 then 0 else 3):=hid fun h=>by unfold DJ;rw [if_neg (by omega),if_neg (by rw [h];simp)]
 clear hs hby hl hc hb hr hwb HH0
 go_enter Tryz.func173,Tryz.ntmps173
 go_wp2_with fail
 rw [<- HWB.out];refine HH.out.mono ?_;rintro r w1 ⟨rfl,hb1⟩;have HSL1:=hid (HSL.out.below hb1);have HB1:Hid (Below w.heap.size w w1):=hid (HB.out.trans (hb1.mono HB.out.size));have HR1:Hid (w1.heap[w.heap.size]?=_):=hid (Ac HR.out hb1);clear HSL HB HR hb1 HH HWB;cases hh:ER bs
 ·have HD5':=hid (HD5.out hh);clear HD HD5
  go_upto_region 4 with fail
  refine wp_region_lit ?_;refine wpList_plain rfl fun K hK=>?_;go_simp;refine hK _ _ ?_;refine Ae rfl 233 _ _ rfl w.heap.size zc rfl rfl 233 _ HR1.out (by kernel_rfl) rfl (by simp [Value.oneCell',zc]) ?_;intro w2 hr2 hg2;have HR2:=hid hr2;have HB2:Hid (Below w.heap.size w w2):=hid (Bi HB1.out hg2 (Nat.le_refl _) HB1.out.size);clear hr2 hg2
  go_wp2_with fail
  refine bodyPost_ret (v:=.tuple #[.agg zc,.int .i64 5]) (Qp _ _ _ _ rfl HR2.out rfl) rfl ⟨?_,HB2.out⟩;exact DecOk.bad HD5'.out (by decide)
 ·have HD':=hid (HD.out hh);clear HD HD5;have HP:=hid (Yk _ b o c bs w1 HSL1.out HBY.out HL.out HCC.out)
  go_wp2_with fail
  refine HP.out.mono ?_;rintro r w2 ⟨v,rfl,hv,hb2⟩;obtain ⟨a2,c2,rfl,hs2,hlc2,hm2,hn2⟩:=hv;obtain ⟨w3,hw3⟩:∃ w3,w3=w2.alloc (.cells #[.int .i64 (Af bs).k,.int .i64 (Af bs).e,.int .i64 (Af bs).p,.slice a2 (Af bs).b.length c2] 233):=⟨_,rfl⟩
  have hb3:Below w2.heap.size w2 w3:=by rw [hw3];exact (Below.refl _ _).alloc (Nat.le_refl _) _
  have hr3:w3.heap[w2.heap.size]?=some (.cells #[.int .i64 (Af bs).k,.int .i64 (Af bs).e,.int .i64 (Af bs).p,.slice a2 (Af bs).b.length c2] 233 (0,0)):=by rw [hw3];exact heap_alloc_new w2 _
  have HW3:=hid hw3;have HB2:Hid (Below w.heap.size w w2):=hid (HB1.out.trans (hb2.mono HB1.out.size));have HB3:Hid (Below w.heap.size w w3):=hid (HB2.out.trans (hb3.mono HB2.out.size));have HR3:Hid (w3.heap[w.heap.size]?=_):=hid (Ac (Ac HR1.out hb2) hb3);have HS3:=hid ((hs2.mono (fun b h _=>Nat.le_trans HB1.out.size h)).below hb3);have HSL3:=hid ((HSL1.out.below hb2).below hb3);have HPB:Hid (Bytes (Af bs).b):=hid (JE HBY.out);have HST:Hid (∀ x,Below w3.heap.size w3 x->Below w3.heap.size w3 x/\x.cell? ⟨w2.heap.size,0,none⟩=some (.int .i64 (Af bs).k)/\x.cell? ⟨w2.heap.size,1,none⟩=some (.int .i64 (Af bs).e)/\x.cell? ⟨w2.heap.size,2,none⟩=some (.int .i64 (Af bs).p)/\x.cell? ⟨w2.heap.size,3,none⟩=some (.slice a2 (Af bs).b.length c2)):=hid fun x hx=>by
   have hr:x.heap[w2.heap.size]?=_:=Ac hr3 hx;exact ⟨hx,cell_of_row x _ 0 _ _ _ hr,cell_of_row x _ 1 _ _ _ hr,cell_of_row x _ 2 _ _ _ hr,cell_of_row x _ 3 _ _ _ hr⟩
  have HCK:Hid (∀ x,Calls Tryz.prog 179 #[.agg #[.int .i64 (Af bs).k,.int .i64 (Af bs).e,.int .i64 (Af bs).p,.slice a2 (Af bs).b.length c2]] x fun r w'=>r=.returned (.int .i64 (chk (Af bs):Nat))/\Below x.heap.size x w'):=hid fun x=>JS _ _ _ a2 c2 (Af bs).b x;have HLY:Hid (chk (Af bs)=0->∀ x,Below w3.heap.size w3 x->Calls Tryz.prog 181 #[.agg #[.int .i64 (Af bs).k,.int .i64 (Af bs).e,.int .i64 (Af bs).p,.slice a2 (Af bs).b.length c2]] x fun r w'=>∃ v,r=.returned v/\Row 5 x.heap.size w' v (laid (Af bs))/\Below x.heap.size x w'):=
   hid fun h x hx=>MO _ _ _ _ a2 c2 (Af bs).b x ((JR _).1 h) (HS3.out.below hx) HPB.out ⟨hlc2,hm2⟩ hn2
  have HEQ:Hid (∀ x (aL:Option Addr) (cL:Nat) (ok:Nat->Prop),Below w3.heap.size w3 x->Sl ok x aL (laid (Af bs))->Calls Tryz.prog 188 #[.slice aL (laid (Af bs)).length cL,.slice (some ⟨b,o,none⟩) 252 252] x fun r w'=>r=.returned (.bool (decide (laid (Af bs)=bs.take 252)))/\x=w'):=
   hid fun x aL cL ok hx hs=>by
    have h252:(bs.take 252).length=252:=by rw [List.length_take,HL.out];rfl
    have h:=WM ok _ aL (some ⟨b,o,none⟩) cL 252 (laid (Af bs)) (bs.take 252) x hs ((HSL3.out.below hx).front 252) (GX HPB.out) (HBY.out.take 252);rwa [h252] at h
  have HOUT:Hid (DJ bs=0->∀ x,Below w3.heap.size w3 x->∀ y,Below x.heap.size x y\/x.grownBy y (some w.heap.size)->NS bs w.heap.size (.returned (.tuple #[.agg #[.int .i64 (Af bs).k,.int .i64 (Af bs).e,.int .i64 (Af bs).p,.slice a2 (Af bs).b.length c2],.int .i64 0])) y):=hid fun h x hx y hy=>by
   have hF:Be bs=Af bs:=by unfold Be;rw [if_pos h]
   unfold NS DecOk;rw [hF,h];refine ⟨_,rfl,a2,c2,rfl,?_,hlc2,hm2,hn2⟩;have hs2':Sl (fun b=>w.heap.size+1<=b) w2 a2 (Af bs).b:=hs2.mono fun b h _=>Nat.le_trans (Aj HR1.out) h;have hsx:=(hs2'.below hb3).below hx;rcases hy with hy | hy
   ·exact (hsx.below hy).mono fun b h _=>by omega
   ·exact (hsx.grown hy (fun b h=>by omega)).mono fun b h _=>by omega
  clear hs2 hlc2 hm2 hn2 hb2 hb3 hw3 hr3 HP HSL1 HR1 HB1
  go_wp2_with fail
  rw [<- HW3.out];have hb3r:=Below.refl w3.heap.size w3;cases hD:decide (chk (Af bs)=0)
  ·have hq:chk (Af bs)≠0:=of_decide_eq_false hD;have hq1:(((chk (Af bs):Nat):Int) != 0)=true:=by rw [bne_iff_ne];omega
   have hd3:DJ bs=3:=by rw [HD'.out,if_neg (fun h=>hq h.1)]
   have HD3:=hid hd3;clear hq hd3 hD HD' HLY HEQ HOUT;generalize chk (Af bs)=q at *
   refine Ai 11 [Ar (.agg #[.int .i64 (Af bs).k,.int .i64 (Af bs).e,.int .i64 (Af bs).p,.slice a2 (Af bs).b.length c2]),Ar (.int .i64 (q:Nat)),Ar (.bool true),Ar (.bool true),Ar undef,Ar undef,Ar undef,Ar undef,Ar undef,Ar undef,Ar (.bool true)] (by kernel_rfl) (by decide) (by kernel_rfl) ?_ ?_ ?_
   ·repeat' (first | exact List.forall_mem_nil _ | refine List.forall_mem_cons.2 ⟨?_,?_⟩)
    all_goals
     intro w w' v hw h
     first | exact h | (obtain ⟨aL,cL,rfl,h1⟩:=h;exact ⟨aL,cL,rfl,h1.below hw⟩)
   ·simp only [AllLt];refine ⟨⟨⟨⟨⟨⟨⟨⟨⟨⟨⟨trivial,?_⟩,?_⟩,?_⟩,?_⟩,?_⟩,?_⟩,?_⟩,?_⟩,?_⟩,?_⟩,?_⟩
    all_goals
     intro o' ho;simp at ho;subst ho;intro ρ w4 hR hL hS hG;obtain ⟨hl1,hl2,-⟩:=hL
    ·refine Aa rfl ?_;intro bA K Q' hK;have e4:=hS 4 (by kernel_rfl);change ρ (.tmp 4)=_ at e4;obtain ⟨-,k0,k1,k2,k3⟩:=HST.out w4 (Below.trans (Below.drew hb3r) hR);simp only [execOp];go_simp;exact hK _ _ rfl (Grew.refl _)
    ·refine Aa rfl ?_;intro bA K Q' hK;have e15:=apG (hG 0 15);change ρ (.tmp 15)=_ at e15;simp only [execOp];go_simp;refine (HCK.out w4).mono ?_;rintro r w5 ⟨rfl,hb⟩;exact hK _ _ rfl hb
    ·refine Aa rfl ?_;intro bA K Q' hK;have e16:=apG (hG 1 16);change ρ (.tmp 16)=_ at e16;simp only [execOp];go_simp;exact hK _ _ rfl (Grew.refl _)
    ·refine Aa rfl ?_;intro bA K Q' hK;have e17:=apG (hG 2 17);change ρ (.tmp 17)=_ at e17;simp only [execOp];go_simp;exact hK _ _ rfl (Grew.refl _)
    iterate 6
     ·have eG:ρ (.tmp 18)=_:=apG (hG 3 18);exact Gm rfl (by kernel_rfl) eG rfl rfl
    ·refine Aa rfl ?_;intro bA K Q' hK;have e18:=apG (hG 3 18);have e24:=apG (hG 9 24);change ρ (.tmp 18)=_ at e18;change ρ (.tmp 24)=_ at e24;simp only [execOp];go_simp;exact hK _ _ rfl (Grew.refl _)
   ·intro v w4 hR hG;have h10:=hG.2;change v 10=_ at h10;have hbx:Below w3.heap.size w3 w4:=Below.trans (Below.drew hb3r) hR;have HBX:=hid hbx;have HB4:Hid (Below w.heap.size w w4):=hid (HB3.out.trans (hbx.mono HB3.out.size));have HROW4:Hid (w4.heap[w.heap.size]?=_):=hid (Ac HR3.out hbx);clear hG hR hbx;simp [stG,stU,Au,Act.put,h10]
    go_upto_region 7 with fail
    refine wp_region_lit ?_;refine wpList_plain rfl fun K hK=>?_;go_simp;refine hK _ _ ?_;refine Ae rfl 233 _ _ rfl w.heap.size zc rfl rfl 233 _ HROW4.out (by kernel_rfl) rfl (by simp [Value.oneCell',zc]) ?_;intro w5 hr5 hg5;have HR5:=hid hr5;have HB5:Hid (Below w.heap.size w w5):=hid (Bi HB4.out hg5 (Nat.le_refl _) HB4.out.size);clear hr5 hg5
    go_wp2_with fail
    refine bodyPost_ret (v:=.tuple #[.agg zc,.int .i64 3]) (Qp _ _ _ _ rfl HR5.out rfl) rfl ⟨?_,HB5.out⟩;exact DecOk.bad HD3.out (by decide)
  ·have hq:chk (Af bs)=0:=of_decide_eq_true hD;have HLY:=hid (HLY.out hq);have HDE:Hid (DJ bs=if laid (Af bs)=bs.take 252 then 0 else 3):=hid (by rw [HD'.out];by_cases h:laid (Af bs)=bs.take 252<;>simp [h,hq]);rw [hq] at HCK;clear HD' hD hq;cases hE:decide (laid (Af bs)=bs.take 252)
   ·have HD3:Hid (DJ bs=3):=hid (by rw [HDE.out,if_neg (of_decide_eq_false hE)]);rw [hE] at HEQ;clear hE HDE HOUT;refine Ai 11 [Ar (.agg #[.int .i64 (Af bs).k,.int .i64 (Af bs).e,.int .i64 (Af bs).p,.slice a2 (Af bs).b.length c2]),Ar (.int .i64 0),Ar (.bool false),Ar (.bool false),Ar (.agg #[.int .i64 (Af bs).k,.int .i64 (Af bs).e,.int .i64 (Af bs).p,.slice a2 (Af bs).b.length c2]),(fun x v=>∃ aL cL,v=.slice aL (laid (Af bs)).length cL/\Sl (fun _=>True) x aL (laid (Af bs))),Ar (.slice (some ⟨b,o,none⟩) 256 c),Ar (.slice (some ⟨b,o,none⟩) 252 252),Ar (.bool false),Ar (.bool true),Ar (.bool true)] (by kernel_rfl) (by decide) (by kernel_rfl) ?_ ?_ ?_
    ·repeat' (first | exact List.forall_mem_nil _ | refine List.forall_mem_cons.2 ⟨?_,?_⟩)
     all_goals
      intro w w' v hw h
      first | exact h | (obtain ⟨aL,cL,rfl,h1⟩:=h;exact ⟨aL,cL,rfl,h1.below hw⟩)
    ·simp only [AllLt];refine ⟨⟨⟨⟨⟨⟨⟨⟨⟨⟨⟨trivial,?_⟩,?_⟩,?_⟩,?_⟩,?_⟩,?_⟩,?_⟩,?_⟩,?_⟩,?_⟩,?_⟩
     all_goals
      intro o' ho;simp at ho;subst ho;intro ρ w4 hR hL hS hG;obtain ⟨hl1,hl2,-⟩:=hL
     ·refine Aa rfl ?_;intro bA K Q' hK;have e4:=hS 4 (by kernel_rfl);change ρ (.tmp 4)=_ at e4;obtain ⟨-,k0,k1,k2,k3⟩:=HST.out w4 (Below.trans (Below.drew hb3r) hR);simp only [execOp];go_simp;exact hK _ _ rfl (Grew.refl _)
     ·refine Aa rfl ?_;intro bA K Q' hK;have e15:=apG (hG 0 15);change ρ (.tmp 15)=_ at e15;simp only [execOp];go_simp;refine (HCK.out w4).mono ?_;rintro r w5 ⟨rfl,hb⟩;exact hK _ _ rfl hb
     ·refine Aa rfl ?_;intro bA K Q' hK;have e16:=apG (hG 1 16);change ρ (.tmp 16)=_ at e16;simp only [execOp];go_simp;exact hK _ _ rfl (Grew.refl _)
     ·refine Aa rfl ?_;intro bA K Q' hK;have e17:=apG (hG 2 17);change ρ (.tmp 17)=_ at e17;simp only [execOp];go_simp;exact hK _ _ rfl (Grew.refl _)
     ·have eG:ρ (.tmp 18)=_:=apG (hG 3 18);refine onG rfl (by kernel_rfl) eG ?_;intro bA K Q' hK;have e4:=hS 4 (by kernel_rfl);change ρ (.tmp 4)=_ at e4;obtain ⟨-,k0,k1,k2,k3⟩:=HST.out w4 (Below.trans (Below.drew hb3r) hR);simp only [execOp];go_simp;exact hK _ _ rfl (Grew.refl _)
     ·have eG:ρ (.tmp 18)=_:=apG (hG 3 18);refine onG rfl (by kernel_rfl) eG ?_;intro bA K Q' hK;have e19:=apG (hG 4 19);change ρ (.tmp 19)=_ at e19;simp only [execOp];go_simp;refine (HLY.out w4 (Below.trans (Below.drew hb3r) hR)).mono ?_;rintro r w5 ⟨v,rfl,hv,hb⟩;obtain ⟨aL,cL,rfl,hnL,hcL,hmL,hsL⟩:=hv.sl;exact hK _ _ ⟨aL,cL,rfl,hsL.mono fun _ _ _=>trivial⟩ hb
     ·have eG:ρ (.tmp 18)=_:=apG (hG 3 18);refine onG rfl (by kernel_rfl) eG ?_;intro bA K Q' hK;have e0:=hS 0 (by kernel_rfl);change ρ (.tmp 0)=_ at e0;simp only [execOp];go_simp;exact hK _ _ rfl (Grew.refl _)
     ·have eG:ρ (.tmp 18)=_:=apG (hG 3 18);refine onG rfl (by kernel_rfl) eG ?_;intro bA K Q' hK;have e21:=apG (hG 6 21);change ρ (.tmp 21)=_ at e21;simp only [execOp];go_simp;rw [if_pos (by omega)];exact hK _ _ rfl (Grew.refl _)
     ·have eG:ρ (.tmp 18)=_:=apG (hG 3 18);refine onG rfl (by kernel_rfl) eG ?_;intro bA K Q' hK;have e20:=apG (hG 5 20);have e22:=apG (hG 7 22);obtain ⟨aL,cL,e20,hsL⟩:=e20;change ρ (.tmp 22)=_ at e22;simp only [execOp];go_simp;refine (HEQ.out w4 aL cL _ (Below.trans (Below.drew hb3r) hR) hsL).mono ?_;rintro r w5 ⟨rfl,rfl⟩;exact hK _ _ rfl (Grew.refl _)
     ·have eG:ρ (.tmp 18)=_:=apG (hG 3 18);refine onG rfl (by kernel_rfl) eG ?_;intro bA K Q' hK;have e23:=apG (hG 8 23);change ρ (.tmp 23)=_ at e23;simp only [execOp];go_simp;exact hK _ _ rfl (Grew.refl _)
     ·refine Aa rfl ?_;intro bA K Q' hK;have e18:=apG (hG 3 18);have e24:=apG (hG 9 24);change ρ (.tmp 18)=_ at e18;change ρ (.tmp 24)=_ at e24;simp only [execOp];go_simp;exact hK _ _ rfl (Grew.refl _)
    ·intro v w4 hR hG;have h10:=hG.2;change v 10=_ at h10;have hbx:Below w3.heap.size w3 w4:=Below.trans (Below.drew hb3r) hR;have HBX:=hid hbx;have HB4:Hid (Below w.heap.size w w4):=hid (HB3.out.trans (hbx.mono HB3.out.size));have HROW4:Hid (w4.heap[w.heap.size]?=_):=hid (Ac HR3.out hbx);clear hG hR hbx;simp [stG,stU,Au,Act.put,h10]
     go_upto_region 7 with fail
     refine wp_region_lit ?_;refine wpList_plain rfl fun K hK=>?_;go_simp;refine hK _ _ ?_;refine Ae rfl 233 _ _ rfl w.heap.size zc rfl rfl 233 _ HROW4.out (by kernel_rfl) rfl (by simp [Value.oneCell',zc]) ?_;intro w5 hr5 hg5;have HR5:=hid hr5;have HB5:Hid (Below w.heap.size w w5):=hid (Bi HB4.out hg5 (Nat.le_refl _) HB4.out.size);clear hr5 hg5
     go_wp2_with fail
     refine bodyPost_ret (v:=.tuple #[.agg zc,.int .i64 3]) (Qp _ _ _ _ rfl HR5.out rfl) rfl ⟨?_,HB5.out⟩;exact DecOk.bad HD3.out (by decide)
   ·have HD0:Hid (DJ bs=0):=hid (by rw [HDE.out,if_pos (of_decide_eq_true hE)]);have HOUT:=hid (HOUT.out HD0.out);rw [hE] at HEQ;clear hE HDE;refine Ai 11 [Ar (.agg #[.int .i64 (Af bs).k,.int .i64 (Af bs).e,.int .i64 (Af bs).p,.slice a2 (Af bs).b.length c2]),Ar (.int .i64 0),Ar (.bool false),Ar (.bool false),Ar (.agg #[.int .i64 (Af bs).k,.int .i64 (Af bs).e,.int .i64 (Af bs).p,.slice a2 (Af bs).b.length c2]),(fun x v=>∃ aL cL,v=.slice aL (laid (Af bs)).length cL/\Sl (fun _=>True) x aL (laid (Af bs))),Ar (.slice (some ⟨b,o,none⟩) 256 c),Ar (.slice (some ⟨b,o,none⟩) 252 252),Ar (.bool true),Ar (.bool false),Ar (.bool false)] (by kernel_rfl) (by decide) (by kernel_rfl) ?_ ?_ ?_
    ·repeat' (first | exact List.forall_mem_nil _ | refine List.forall_mem_cons.2 ⟨?_,?_⟩)
     all_goals
      intro w w' v hw h
      first | exact h | (obtain ⟨aL,cL,rfl,h1⟩:=h;exact ⟨aL,cL,rfl,h1.below hw⟩)
    ·simp only [AllLt];refine ⟨⟨⟨⟨⟨⟨⟨⟨⟨⟨⟨trivial,?_⟩,?_⟩,?_⟩,?_⟩,?_⟩,?_⟩,?_⟩,?_⟩,?_⟩,?_⟩,?_⟩
     all_goals
      intro o' ho;simp at ho;subst ho;intro ρ w4 hR hL hS hG;obtain ⟨hl1,hl2,-⟩:=hL
     ·refine Aa rfl ?_;intro bA K Q' hK;have e4:=hS 4 (by kernel_rfl);change ρ (.tmp 4)=_ at e4;obtain ⟨-,k0,k1,k2,k3⟩:=HST.out w4 (Below.trans (Below.drew hb3r) hR);simp only [execOp];go_simp;exact hK _ _ rfl (Grew.refl _)
     ·refine Aa rfl ?_;intro bA K Q' hK;have e15:=apG (hG 0 15);change ρ (.tmp 15)=_ at e15;simp only [execOp];go_simp;refine (HCK.out w4).mono ?_;rintro r w5 ⟨rfl,hb⟩;exact hK _ _ rfl hb
     ·refine Aa rfl ?_;intro bA K Q' hK;have e16:=apG (hG 1 16);change ρ (.tmp 16)=_ at e16;simp only [execOp];go_simp;exact hK _ _ rfl (Grew.refl _)
     ·refine Aa rfl ?_;intro bA K Q' hK;have e17:=apG (hG 2 17);change ρ (.tmp 17)=_ at e17;simp only [execOp];go_simp;exact hK _ _ rfl (Grew.refl _)
     ·have eG:ρ (.tmp 18)=_:=apG (hG 3 18);refine onG rfl (by kernel_rfl) eG ?_;intro bA K Q' hK;have e4:=hS 4 (by kernel_rfl);change ρ (.tmp 4)=_ at e4;obtain ⟨-,k0,k1,k2,k3⟩:=HST.out w4 (Below.trans (Below.drew hb3r) hR);simp only [execOp];go_simp;exact hK _ _ rfl (Grew.refl _)
     ·have eG:ρ (.tmp 18)=_:=apG (hG 3 18);refine onG rfl (by kernel_rfl) eG ?_;intro bA K Q' hK;have e19:=apG (hG 4 19);change ρ (.tmp 19)=_ at e19;simp only [execOp];go_simp;refine (HLY.out w4 (Below.trans (Below.drew hb3r) hR)).mono ?_;rintro r w5 ⟨v,rfl,hv,hb⟩;obtain ⟨aL,cL,rfl,hnL,hcL,hmL,hsL⟩:=hv.sl;exact hK _ _ ⟨aL,cL,rfl,hsL.mono fun _ _ _=>trivial⟩ hb
     ·have eG:ρ (.tmp 18)=_:=apG (hG 3 18);refine onG rfl (by kernel_rfl) eG ?_;intro bA K Q' hK;have e0:=hS 0 (by kernel_rfl);change ρ (.tmp 0)=_ at e0;simp only [execOp];go_simp;exact hK _ _ rfl (Grew.refl _)
     ·have eG:ρ (.tmp 18)=_:=apG (hG 3 18);refine onG rfl (by kernel_rfl) eG ?_;intro bA K Q' hK;have e21:=apG (hG 6 21);change ρ (.tmp 21)=_ at e21;simp only [execOp];go_simp;rw [if_pos (by omega)];exact hK _ _ rfl (Grew.refl _)
     ·have eG:ρ (.tmp 18)=_:=apG (hG 3 18);refine onG rfl (by kernel_rfl) eG ?_;intro bA K Q' hK;have e20:=apG (hG 5 20);have e22:=apG (hG 7 22);obtain ⟨aL,cL,e20,hsL⟩:=e20;change ρ (.tmp 22)=_ at e22;simp only [execOp];go_simp;refine (HEQ.out w4 aL cL _ (Below.trans (Below.drew hb3r) hR) hsL).mono ?_;rintro r w5 ⟨rfl,rfl⟩;exact hK _ _ rfl (Grew.refl _)
     ·have eG:ρ (.tmp 18)=_:=apG (hG 3 18);refine onG rfl (by kernel_rfl) eG ?_;intro bA K Q' hK;have e23:=apG (hG 8 23);change ρ (.tmp 23)=_ at e23;simp only [execOp];go_simp;exact hK _ _ rfl (Grew.refl _)
     ·refine Aa rfl ?_;intro bA K Q' hK;have e18:=apG (hG 3 18);have e24:=apG (hG 9 24);change ρ (.tmp 18)=_ at e18;change ρ (.tmp 24)=_ at e24;simp only [execOp];go_simp;exact hK _ _ rfl (Grew.refl _)
    ·intro v w4 hR hG;have h10:=hG.2;change v 10=_ at h10;have hbx:Below w3.heap.size w3 w4:=Below.trans (Below.drew hb3r) hR;have HBX:=hid hbx;have HB4:Hid (Below w.heap.size w w4):=hid (HB3.out.trans (hbx.mono HB3.out.size));have HROW4:Hid (w4.heap[w.heap.size]?=_):=hid (Ac HR3.out hbx);clear hG hR hbx;simp [stG,stU,Au,Act.put,h10];obtain ⟨-,k0,k1,k2,k3⟩:=HST.out w4 HBX.out
     go_upto_region 8 with fail
     refine wp_region_lit ?_;refine wpList_plain rfl fun K hK=>?_;go_simp;refine hK _ _ ?_;refine Ae rfl 233 _ _ rfl w.heap.size #[.int .i64 (Af bs).k,.int .i64 (Af bs).e,.int .i64 (Af bs).p,.slice a2 (Af bs).b.length c2] rfl rfl 233 _ HROW4.out (by kernel_rfl) rfl (by simp [Value.oneCell']) ?_;intro w5 hr5 hg5;have HR5:=hid hr5;have HB5:Hid (Below w.heap.size w w5):=hid (Bi HB4.out hg5 (Nat.le_refl _) HB4.out.size);have HO5:=hid (HOUT.out w4 HBX.out w5 (.inr hg5));clear hr5 hg5 k0 k1 k2 k3
     go_wp2_with fail
     refine bodyPost_ret (v:=.tuple #[.agg #[.int .i64 (Af bs).k,.int .i64 (Af bs).e,.int .i64 (Af bs).p,.slice a2 (Af bs).b.length c2],.int .i64 0]) (Qp _ _ _ _ rfl HR5.out rfl) rfl ⟨HO5.out,HB5.out⟩
def F9 (bs:List Nat) (page:Int) (kinds:List Int):Nat:=if DJ bs≠0 then DJ bs else if (Be bs).p≠page then 5 else if kinds≠[]/\¬ (Be bs).k∈kinds then 13 else 0
def Ec (bs:List Nat) (page:Int) (kinds:List Int):Fr:=if F9 bs page kinds=0 then Be bs else Xq
def OpnOk (ok:Nat->Prop) (bs:List Nat) (page:Int) (kinds:List Int) (r:Ending) (w':World):Prop:=
 ∃ v,r=.returned (.tuple #[.agg #[.int .i64 (Ec bs page kinds).k,.int .i64 (Ec bs page kinds).e,.int .i64 (Ec bs page kinds).p,v],.int .i64 (F9 bs page kinds:Nat)])/\Bb ok w' v (Ec bs page kinds).b
abbrev P8 (bs:List Nat) (page:Int) (kinds:List Int) (B:Nat) (r:Ending) (w':World):Prop:=OpnOk (fun b=>B<=b) bs page kinds r w'
theorem OpnOk.bad {ok:Nat->Prop} {bs:List Nat} {page:Int} {kinds:List Int} {e:Nat} {w':World} (h:F9 bs page kinds=e) (h0:e≠0):OpnOk ok bs page kinds (.returned (.tuple #[.agg #[.int .i64 0,.int .i64 0,.int .i64 0,.slice none 0 0],.int .i64 (e:Int)])) w':=by
 unfold OpnOk Ec;rw [h,if_neg h0];exact ⟨_,rfl,none,0,rfl,Sl.nil _ _ _,Nat.le_refl _,Nat.zero_le _,fun _=>rfl⟩
theorem OpnOk.good {ok:Nat->Prop} {bs:List Nat} {page:Int} {kinds:List Int} {w':World} {v:Value} (h:F9 bs page kinds=0) (hv:Bb ok w' v (Be bs).b) :
  OpnOk ok bs page kinds (.returned (.tuple #[.agg #[.int .i64 (Be bs).k,.int .i64 (Be bs).e,.int .i64 (Be bs).p,v],.int .i64 0])) w':=by
 unfold OpnOk Ec;rw [h,if_pos rfl];exact ⟨v,rfl,hv⟩
theorem TY (bs:List Nat):DJ bs=0\/DJ bs=2\/DJ bs=3\/DJ bs=5:=by
 unfold DJ;split
 ·exact .inr (.inl rfl)
 ·split
  ·exact .inr (.inr (.inr rfl))
  ·split
   ·exact .inl rfl
   ·exact .inr (.inr (.inl rfl))
theorem Oe (ok:Nat->Prop) (a:Option Addr) (c:Nat) (bs:List Nat) (w:World) (hs:Sl ok w a bs) (hby:Bytes bs) (hc:bs.length<=c/\c<=maxLen) :
  Calls Tryz.prog 173 #[.slice a bs.length c] w fun r w'=>NS bs w.heap.size r w'/\Below w.heap.size w w':=by
 by_cases hl:bs.length=256
 ·rcases hs with h | ⟨b,o,rfl,_,hcell⟩
  ·rw [h] at hl;cases hl
  ·have h:=TV b o c bs w (.inr ⟨b,o,rfl,trivial,hcell⟩) hby hl (by omega);rw [hl];exact h
 ·exact TW a c bs w (by omega)
theorem Qq (w:World) (g:Nat) (cs:Array Value) (tmps:Array Value) (h2:tmps.getD 6 undef=.pointer (some ⟨g,0,none⟩)) (hg:w.heap[g]?=some (.cells cs 233 (0,0))) (hs:cs.size=4) :
  (results Tryz.f162 tmps).run Tryz.prog w=.ok (.tuple #[.agg cs,tmps.getD 7 undef]) w:=
 GL rfl tmps w g 233 cs (0,0) _ h2 hg Tryz.underlying233 rfl (by rw [hs];kernel_rfl)
set_option maxRecDepth 20000 in
set_option maxHeartbeats 2000000 in
theorem Yq (ok ok2:Nat->Prop) (a:Option Addr) (c:Nat) (bs:List Nat) (page:Int) (a2:Option Addr) (c2:Nat) (kinds:List Int) (w:World) (hs:Sl ok w a bs) (hby:Bytes bs) (hc:bs.length<=c/\c<=maxLen) (hk:Si ok2 w a2 kinds) (hkl:(kinds.length:Int)<=9223372036854775807) :
  Calls Tryz.prog 162 #[.slice a bs.length c,.int .i64 page,.slice a2 kinds.length c2] w fun r w'=>P8 bs page kinds w.heap.size r w'/\Below w.heap.size w w':=by
 obtain ⟨wb,hwb⟩:∃ wb,wb=w.alloc (.cells #[.int .i64 0,.int .i64 0,.int .i64 0,.slice none 0 0] 233):=⟨_,rfl⟩
 have hb:Below w.heap.size w wb:=by rw [hwb];exact (Below.refl _ _).alloc (Nat.le_refl _) _
 have hr:wb.heap[w.heap.size]?=some (.cells #[.int .i64 0,.int .i64 0,.int .i64 0,.slice none 0 0] 233 (0,0)):=by rw [hwb];exact heap_alloc_new w _
 have HD:=hid (Oe ok a c bs wb (hs.below hb) hby hc);have HK:=hid (hk.below hb);have HWB:=hid hwb;have HB:=hid hb;have HR:=hid hr;have HE:Hid (F9 bs page kinds=if DJ bs≠0 then DJ bs else if (Be bs).p≠page then 5 else if kinds≠[]/\¬ (Be bs).k∈kinds then 13 else 0):=hid rfl;have HDE:Hid (DJ bs=0\/DJ bs=2\/DJ bs=3\/DJ bs=5):=hid (TY bs);clear hs hby hc hk hb hr hwb
 go_enter Tryz.func162,Tryz.ntmps162
 go_wp2_with fail
 rw [<- HWB.out];refine HD.out.mono ?_;rintro r w1 ⟨⟨v,rfl,hv⟩,hb1⟩;obtain ⟨a3,c3,rfl,hs3,hlc3,hm3,hn3⟩:=hv;obtain ⟨w3,hw3⟩:∃ w3,w3=w1.alloc (.cells #[.int .i64 (Be bs).k,.int .i64 (Be bs).e,.int .i64 (Be bs).p,.slice a3 (Be bs).b.length c3] 233):=⟨_,rfl⟩
 have hb3:Below w1.heap.size w1 w3:=by rw [hw3];exact (Below.refl _ _).alloc (Nat.le_refl _) _
 have hr3:w3.heap[w1.heap.size]?=some (.cells #[.int .i64 (Be bs).k,.int .i64 (Be bs).e,.int .i64 (Be bs).p,.slice a3 (Be bs).b.length c3] 233 (0,0)):=by rw [hw3];exact heap_alloc_new w1 _
 have HB3:Hid (Below w.heap.size w w3):=hid ((HB.out.trans (hb1.mono HB.out.size)).trans (hb3.mono (HB.out.trans (hb1.mono HB.out.size)).size));have HR3:Hid (w3.heap[w.heap.size]?=_):=hid (Ac (Ac HR.out hb1) hb3);have HV3:Hid (Bb (fun b=>w.heap.size+1<=b) w3 (.slice a3 (Be bs).b.length c3) (Be bs).b):=hid ⟨a3,c3,rfl,(hs3.mono fun b h _=>Nat.le_trans (Aj HR.out) h).below hb3,hlc3,hm3,hn3⟩;have HK3:=hid ((HK.out.below hb1).below hb3);have q0:=cell_of_row w3 _ 0 _ _ _ hr3;have q1:=cell_of_row w3 _ 1 _ _ _ hr3;have q2:=cell_of_row w3 _ 2 _ _ _ hr3;have q3:=cell_of_row w3 _ 3 _ _ _ hr3;have HW3:=hid hw3;have HGOOD:Hid (F9 bs page kinds=0->∀ y,w3.grownBy y (some w.heap.size)->P8 bs page kinds w.heap.size (.returned (.tuple #[.agg #[.int .i64 (Be bs).k,.int .i64 (Be bs).e,.int .i64 (Be bs).p,.slice a3 (Be bs).b.length c3],.int .i64 0])) y):=hid fun h y hy=>by
  refine OpnOk.good h ?_;obtain ⟨a1,c1,he,hs1,hr1⟩:=HV3.out;exact ⟨a1,c1,he,(hs1.grown hy (fun b hb=>by omega)).mono fun b hb _=>by omega,hr1⟩
 clear hs3 hlc3 hm3 hn3 hb1 hb3 hw3 hr3 HD HB HR HK HV3;by_cases hd:DJ bs=0
 ·have HE:Hid (F9 bs page kinds=if (Be bs).p≠page then 5 else if kinds≠[]/\¬ (Be bs).k∈kinds then 13 else 0):=hid (by rw [HE.out,if_neg (by simp [hd])]);rw [hd];clear hd HDE;by_cases hp:(Be bs).p=page
  ·have hp1:((Be bs).p != page)=false:=by rw [bne_eq_false_iff_eq];exact hp
   have HE:Hid (F9 bs page kinds=if kinds≠[]/\¬ (Be bs).k∈kinds then 13 else 0):=hid (by rw [HE.out,if_neg (by simp [hp])]);clear hp;have HAM:=hid (Xk ok2 (Be bs).k a2 c2 kinds w3 HK3.out hkl);by_cases hk:kinds.length=0
   ·have hk0:kinds=[]:=List.eq_nil_of_length_eq_zero hk;have HE0:Hid (F9 bs page kinds=0):=hid (by rw [HE.out,if_neg (fun h=>h.1 hk0)]);have HGOOD:=hid (HGOOD.out HE0.out);have HGOOD:Hid (∀ y,w3.grownBy y (some w.heap.size)->P8 bs page kinds w.heap.size (.returned (.tuple #[.agg #[.int .i64 (Be bs).k,.int .i64 (Be bs).e,.int .i64 (Be bs).p,.slice a3 (Be bs).b.length c3],.int .i64 0])) y):=HGOOD;clear hk HAM HE HK3;rw [show kinds.length=0 from by rw [hk0];rfl];clear hk0 HE0
    go_upto_region 8 with fail
    rw [<- HW3.out];refine wp_region_lit ?_;refine wpList_plain rfl fun K hK=>?_;go_simp;refine hK _ _ ?_;refine Ae rfl 233 _ _ rfl w.heap.size #[.int .i64 (Be bs).k,.int .i64 (Be bs).e,.int .i64 (Be bs).p,.slice a3 (Be bs).b.length c3] rfl rfl 233 _ HR3.out (by kernel_rfl) rfl (by simp [Value.oneCell']) ?_;intro w9 hr9 hg9;have HR9:=hid hr9;have HB9:Hid (Below w.heap.size w w9):=hid (Bi HB3.out hg9 (Nat.le_refl _) HB3.out.size);have HO9:=hid (HGOOD.out w9 hg9);clear hr9 hg9
    go_wp2_with fail
    refine bodyPost_ret (v:=.tuple #[.agg #[.int .i64 (Be bs).k,.int .i64 (Be bs).e,.int .i64 (Be bs).p,.slice a3 (Be bs).b.length c3],.int .i64 0]) (Qq _ _ _ _ rfl HR9.out rfl) rfl ⟨HO9.out,HB9.out⟩
   ·have HE:Hid (F9 bs page kinds=if ¬ (Be bs).k∈kinds then 13 else 0):=hid (by
     rw [HE.out];have:kinds≠[]:=fun h=>hk (by rw [h];rfl);by_cases hm:(Be bs).k∈kinds<;>simp [hm,this])
    clear HK3;generalize kinds.length=n at *
    have hk1:((0:Int) < (n:Int))=True:=eq_true (by omega);have hk2:(0 < n)=True:=eq_true (by omega);clear hk;cases hm:decide ((Be bs).k∈kinds)
    ·have HE0:Hid (F9 bs page kinds=13):=hid (by rw [HE.out,if_pos (of_decide_eq_false hm)]);rw [hm] at HAM;clear hm HE HGOOD
     go_wp2_with fail
     rw [<- HW3.out];refine HAM.out.mono ?_;rintro r w4 ⟨rfl,rfl⟩;clear HAM
     go_upto_region 7 with fail
     refine wp_region_lit ?_;refine wpList_plain rfl fun K hK=>?_;go_simp;refine hK _ _ ?_;refine Ae rfl 233 _ _ rfl w.heap.size zc rfl rfl 233 _ HR3.out (by kernel_rfl) rfl (by simp [Value.oneCell',zc]) ?_;intro w9 hr9 hg9;have HR9:=hid hr9;have HB9:Hid (Below w.heap.size w w9):=hid (Bi HB3.out hg9 (Nat.le_refl _) HB3.out.size);clear hr9 hg9
     go_wp2_with fail
     refine bodyPost_ret (v:=.tuple #[.agg zc,.int .i64 13]) (Qq _ _ _ _ rfl HR9.out rfl) rfl ⟨?_,HB9.out⟩;exact OpnOk.bad HE0.out (by decide)
    ·have HE0:Hid (F9 bs page kinds=0):=hid (by rw [HE.out,if_neg (by simpa using of_decide_eq_true hm)]);rw [hm] at HAM;clear hm HE;have HGOOD:=hid (HGOOD.out HE0.out)
     go_wp2_with fail
     rw [<- HW3.out];refine HAM.out.mono ?_;rintro r w4 ⟨rfl,rfl⟩;clear HAM
     go_upto_region 8 with fail
     refine wp_region_lit ?_;refine wpList_plain rfl fun K hK=>?_;go_simp;refine hK _ _ ?_;refine Ae rfl 233 _ _ rfl w.heap.size #[.int .i64 (Be bs).k,.int .i64 (Be bs).e,.int .i64 (Be bs).p,.slice a3 (Be bs).b.length c3] rfl rfl 233 _ HR3.out (by kernel_rfl) rfl (by simp [Value.oneCell']) ?_;intro w9 hr9 hg9;have HR9:=hid hr9;have HB9:Hid (Below w.heap.size w w9):=hid (Bi HB3.out hg9 (Nat.le_refl _) HB3.out.size);have HO9:=hid (HGOOD.out w9 hg9);clear hr9 hg9
     go_wp2_with fail
     refine bodyPost_ret (v:=.tuple #[.agg #[.int .i64 (Be bs).k,.int .i64 (Be bs).e,.int .i64 (Be bs).p,.slice a3 (Be bs).b.length c3],.int .i64 0]) (Qq _ _ _ _ rfl HR9.out rfl) rfl ⟨HO9.out,HB9.out⟩
  ·have hp1:((Be bs).p != page)=true:=by rw [bne_iff_ne];exact hp
   have HE0:Hid (F9 bs page kinds=5):=hid (by rw [HE.out,if_pos hp]);clear hp HE HGOOD HK3
   go_upto_region 5 with fail
   rw [<- HW3.out];refine wp_region_lit ?_;refine wpList_plain rfl fun K hK=>?_;go_simp;refine hK _ _ ?_;refine Ae rfl 233 _ _ rfl w.heap.size zc rfl rfl 233 _ HR3.out (by kernel_rfl) rfl (by simp [Value.oneCell',zc]) ?_;intro w9 hr9 hg9;have HR9:=hid hr9;have HB9:Hid (Below w.heap.size w w9):=hid (Bi HB3.out hg9 (Nat.le_refl _) HB3.out.size);clear hr9 hg9
   go_wp2_with fail
   refine bodyPost_ret (v:=.tuple #[.agg zc,.int .i64 5]) (Qq _ _ _ _ rfl HR9.out rfl) rfl ⟨?_,HB9.out⟩;exact OpnOk.bad HE0.out (by decide)
 ·have HE0:Hid (F9 bs page kinds=DJ bs):=hid (by rw [HE.out,if_pos hd]);have hd1:(((DJ bs:Nat):Int) != 0)=true:=by rw [bne_iff_ne];omega
  have HNE:=hid hd;clear HE HGOOD HK3 HDE hd;generalize DJ bs=q at *
  go_upto_region 3 with fail
  rw [<- HW3.out];refine wp_region_lit ?_;refine wpList_plain rfl fun K hK=>?_;go_simp;refine hK _ _ ?_;refine wpList_plain rfl fun K hK=>?_;go_simp;refine hK _ _ ?_;refine Ae rfl 233 _ _ rfl w.heap.size zc rfl rfl 233 _ HR3.out (by kernel_rfl) rfl (by simp [Value.oneCell',zc]) ?_;intro w9 hr9 hg9;have HR9:=hid hr9;have HB9:Hid (Below w.heap.size w w9):=hid (Bi HB3.out hg9 (Nat.le_refl _) HB3.out.size);clear hr9 hg9
  go_wp2_with fail
  refine bodyPost_ret (v:=.tuple #[.agg zc,.int .i64 (q:Nat)]) (Qq _ _ _ _ rfl HR9.out rfl) rfl ⟨?_,HB9.out⟩;exact OpnOk.bad HE0.out HNE.out
end Go.Proofs.YtfhdojnobmfefaaGreatDoor
