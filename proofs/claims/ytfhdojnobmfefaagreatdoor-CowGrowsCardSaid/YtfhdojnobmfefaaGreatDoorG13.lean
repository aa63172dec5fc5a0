/- MADE SMALL. -/
import Derived.Test.YtfhdojnobmfefaaGreatDoorG4
import Derived.Test.YtfhdojnobmfefaaGreatDoorG10
import Derived.Test.YtfhdojnobmfefaaGreatDoorG3
import Derived.Test.YtfhdojnobmfefaaGreatDoorG12
namespace Go.Proofs.YtfhdojnobmfefaaGreatDoor
open Go.RowKit Go.Inc
theorem fx4 (n:Int) (h0:0<=n) (h1:n<=4294967295):I7 (CU n) 4 4=fr4 n.toNat:=by
 have hb:CU n=n.toNat:=by unfold CU;rw [Int.emod_eq_of_lt h0 (by omega)]
 rw [hb];simp [I7,List.range,List.range.loop,fr4]
theorem fx2 (n:Int) (h0:0<=n) (h1:n<=4294967295):I7 (CU n) 2 2=fr2 n.toNat:=by
 have hb:CU n=n.toNat:=by unfold CU;rw [Int.emod_eq_of_lt h0 (by omega)]
 rw [hb];simp [I7,List.range,List.range.loop,fr2]
theorem fM (n:Int) (w:World) (h0:0<=n) (h1:n<=4294967295) :
  Calls Tryz.prog 196 #[.int .i64 n,.int .i64 4] w fun e w'=>∃ v,e=.returned v/\Row 5 w.heap.size w' v (fr4 n.toNat)/\Below w.heap.size w w':=by
 rw [<- fx4 n h0 h1];exact Nk n 4 w (by omega) (by omega) (by omega)
theorem Y0 (n:Int) (w:World) (h0:0<=n) (h1:n<=4294967295) :
  Calls Tryz.prog 196 #[.int .i64 n,.int .i64 2] w fun e w'=>∃ v,e=.returned v/\Row 5 w.heap.size w' v (fr2 n.toNat)/\Below w.heap.size w w':=by
 rw [<- fx2 n h0 h1];exact Nk n 2 w (by omega) (by omega) (by omega)
theorem SL {E B:Nat} {w:World} {v:Value} {bs:List Nat} (h:Row E B w v bs):Bs w v bs:=by
 obtain ⟨a,c,rfl,hn,h1,h2,hs⟩:=h.sl;exact ⟨a,c,rfl,hs.mono fun _ _ _=>trivial,h1,h2,hn⟩
theorem Pt.of_bs {w:World} (vs:List Value) (ps:List (List Nat)) (T:TypeId) (hl:vs.length=ps.length) (hb:∀ p∈ps,Bytes p) (h:∀ (i:Nat) (v:Value) (p:List Nat),vs[i]?=some v->ps[i]?=some p->Bs w v p) :
  Pt (fun _=>True) (w.alloc (.cells vs.toArray T)) (some ⟨w.heap.size,0,none⟩) ps:=by
 have hbel:Below w.heap.size w (w.alloc (.cells vs.toArray T)):=(Below.refl _ _).alloc (Nat.le_refl _) _;have hc:∀ i,∃ a c,i < ps.length->vs[i]?=some (.slice a (ps.getD i []).length c)/\Sl (fun _=>True) w a (ps.getD i [])/\(ps.getD i []).length<=c/\c<=maxLen:=by
  intro i;by_cases hi:i < ps.length
  ·have h1:vs[i]?=some (vs[i]'(by omega)):=List.getElem?_eq_getElem (by omega);have h2:ps[i]?=some (ps.getD i []):=by rw [List.getD_eq_getElem?_getD,List.getElem?_eq_getElem hi];rfl
   obtain ⟨a,c,he,hs,hc1,hc2,_⟩:=h i _ _ h1 h2;exact ⟨a,c,fun _=>⟨by rw [h1,he],hs,hc1,hc2⟩⟩
  ·exact ⟨none,0,fun h=>absurd h hi⟩
 refine ⟨hb,.inr ⟨w.heap.size,0,fun i=>(hc i).choose,fun i=>(hc i).choose_spec.choose,rfl,trivial,fun i hi=>?_,fun i hi=>?_,fun i hi=>?_⟩⟩
 ·have:=((hc i).choose_spec.choose_spec hi).1;rw [cell_of_row _ w.heap.size (0+i) _ _ _ (heap_alloc_new w _)];simpa using this
 ·exact (((hc i).choose_spec.choose_spec hi).2.1).below hbel
 ·exact ((hc i).choose_spec.choose_spec hi).2.2
theorem WY (a:Option Addr) (c:Nat) (ps:List (List Nat)) (w:World) (hp:Pt (fun _=>True) w a ps) (h0:ps≠[]) (hl:(ps.length:Int)<=9223372036854775807) (ht:Hg ps<=140737488355328) (h2:Hg ps=ps.flatten.length) :
  Calls Tryz.prog 195 #[.slice a ps.length c] w fun e w'=>∃ v,e=.returned v/\Row 5 w.heap.size w' v ps.flatten/\Below w.heap.size w w':=by
 rcases hp.2 with h | ⟨b,o,A,C,rfl,_,hp⟩
 ·exact absurd h h0
 ·refine (KZ _ b o c ps A C w hp hl ht).mono ?_;rintro e w' ⟨v,rfl,hv,hb⟩;rw [h2] at hv;exact ⟨v,rfl,hv,hb⟩
theorem ZW (n:Nat):(madeCells #[Value.int .u8 0] n).toList=(List.replicate n 0).map fun x:Nat=>Value.int .u8 (x:Int):=by
 apply List.ext_getElem?;intro i;by_cases h:i < n
 ·simp [madeCells,h,Nat.mod_one]
 ·simp [madeCells,h]
def Hf (k e p:Int) (bs:List Nat):List (List Nat):=[[241,k.toNat % 256],fr4 e.toNat,fr2 p.toNat,fr2 bs.length,bs,List.replicate (238 - bs.length) 0,fr4 e.toNat]
theorem MP (k e p:Int) (bs:List Nat):(Hf k e p bs).flatten=laid ⟨k,e,p,bs⟩:=by
 unfold Hf laid;simp
abbrev Ar (x:Value):World->Value->Prop:=fun _ v=>v=x
abbrev Is (bs:List Nat):World->Value->Prop:=fun w v=>Bs w v bs
set_option maxRecDepth 20000 in
set_option maxHeartbeats 4000000 in
theorem MO (ok:Nat->Prop) (k e p:Int) (a:Option Addr) (c:Nat) (bs:List Nat) (w:World) (hf:Fr.ok ⟨k,e,p,bs⟩) (hs:Sl ok w a bs) (hby:Bytes bs) (hc:bs.length<=c/\c<=maxLen) (hn:a=none->c=0) :
  Calls Tryz.prog 181 #[.agg #[.int .i64 k,.int .i64 e,.int .i64 p,.slice a bs.length c]] w fun r w'=>∃ v,r=.returned v/\Row 5 w.heap.size w' v (laid ⟨k,e,p,bs⟩)/\Below w.heap.size w w':=by
 obtain ⟨h1,h2,h3,h4,h5,h6,h7⟩:=hf
 dsimp only at h1 h2 h3 h4 h5 h6 h7
 have h7':(bs.length:Int)<=238:=by omega
 have hb:=(Below.refl w.heap.size w).alloc (Nat.le_refl _) (.cells #[.int .i64 k,.int .i64 e,.int .i64 p,.slice a bs.length c] 233);have hbs:Bs w (.slice a bs.length c) bs:=⟨a,c,rfl,hs.mono fun _ _ _=>trivial,hc.1,hc.2,hn⟩
 have HBS:=hid (hbs.below hb);have HBY:=hid hby;have HB:=hid hb;have hrow:=heap_alloc_new w (.cells #[.int .i64 k,.int .i64 e,.int .i64 p,.slice a bs.length c] 233);have HROW:=hid hrow;clear hs hby hb h7 hbs hrow
 go_enter Tryz.func181,Tryz.ntmps181
 go_wp2_with fail
 refine (fM e _ h3 h4).mono ?_;rintro r w1 ⟨v1,rfl,hv1,hb1⟩;have HV1:=hid (SL hv1);have HB1:=hid (HB.out.trans (hb1.mono HB.out.size));have HROW1:=hid (Ac HROW.out hb1);have HBS1:=hid (HBS.out.below hb1);clear hv1 hb1 HROW HBS
 go_wp2_with fail
 have HC:Hid (∀ x,Grew w1.drew x->x.cell? ⟨w.heap.size,0,none⟩=some (.int .i64 k)/\x.cell? ⟨w.heap.size,2,none⟩=some (.int .i64 p)/\x.cell? ⟨w.heap.size,3,none⟩=some (.slice a bs.length c)):=hid fun x hx=>by
  have hr:x.heap[w.heap.size]?=_:=Ac (w:=w1.drew) HROW1.out hx;exact ⟨cell_of_row x _ 0 _ _ _ hr,cell_of_row x _ 2 _ _ _ hr,cell_of_row x _ 3 _ _ _ hr⟩
 have HKU:Hid (IntKind.u8.wrap k=k):=hid (by rw [IntKind.wrap_u8];omega);have HW17:Hid (IntKind.i64.wrap (238 - bs.length)=238 - bs.length):=hid (by rw [IntKind.wrap_i64];omega);have HK2:Hid (∀ x:World,Bs (x.alloc (.cells #[.int .u8 241,.int .u8 k] 5)) (.slice (some ⟨x.heap.size,0,none⟩) 2 2) [241,k.toNat % 256]):=hid fun x=>by
  have hk:k=((k.toNat % 256:Nat):Int):=by omega
  conv=>arg 1;rw [hk]
  exact ⟨_,2,rfl,(Sl.row [241,k.toNat % 256] (heap_alloc_new x (.cells #[.int .u8 241,.int .u8 ((k.toNat % 256:Nat):Int)] 5))).mono fun _ _ _=>trivial,Nat.le_refl _,by unfold maxLen;omega,fun h=>by cases h⟩
 have HMK:Hid (∀ x:World,(Instr.makeSlice 74 (.int .i64 (238 - bs.length)) (.int .i64 (238 - bs.length))).run Tryz.prog x=.ok (.slice (some ⟨x.heap.size,0,none⟩) (238 - bs.length) (238 - bs.length)) (x.alloc (.cells (madeCells #[.int .u8 0] (238 - bs.length)) 5))):=hid fun x=>by
  obtain ⟨i0,hi,hz0,hz1,hz2⟩:=info_parts FN;have hm:=run_make x 74 5 i0 (.int .u8 0) Tryz.underlying74 hi hz0 .i64 .i64 (238 - bs.length) (238 - bs.length) (by omega) (Int.le_refl _) (by rw [hz2];omega) (by omega);rw [show ((238:Int) - bs.length).toNat=238 - bs.length from by omega,hz1,Nat.mul_one] at hm;exact hm
 have HZ:Hid (∀ x:World,Bs (x.alloc (.cells (madeCells #[.int .u8 0] (238 - bs.length)) 5)) (.slice (some ⟨x.heap.size,0,none⟩) (238 - bs.length) (238 - bs.length)) (List.replicate (238 - bs.length) 0)):=hid fun x=>by
  have hl:(List.replicate (238 - bs.length) 0).length=238 - bs.length:=List.length_replicate;have hz:madeCells #[.int .u8 0] (238 - bs.length)=((List.replicate (238 - bs.length) 0).map fun x:Nat=>Value.int .u8 (x:Int)).toArray:=by
   rw [<- ZW,Array.toArray_toList]
  rw [hz];have hsl:=Sl.row (List.replicate (238 - bs.length) 0) (heap_alloc_new x (.cells ((List.replicate (238 - bs.length) 0).map fun x:Nat=>Value.int .u8 (x:Int)).toArray 5));exact ⟨_,238 - bs.length,by rw [hl],hsl.mono fun _ _ _=>trivial,by rw [hl];exact Nat.le_refl _,by unfold maxLen;omega,fun h=>by cases h⟩
 have HLL:Hid ((laid ⟨k,e,p,bs⟩).length=252):=hid (Ih (by show bs.length<=238;omega));have HTC:Hid (Hg (Hf k e p bs)=252):=hid (by unfold Hg Hf;simp [fr4,fr2];omega);have HP7:Hid (∀ x,Grew w1.drew x->∀ u10 u14 u18 u25,Bs x u10 [241,k.toNat % 256]->Bs x u14 (fr2 p.toNat)->Bs x u18 (fr2 bs.length)->Bs x u25 (List.replicate (238 - bs.length) 0)->
   Pt (fun _=>True) (x.alloc (.cells #[u10,v1,u14,u18,.slice a bs.length c,u25,v1] 74)) (some ⟨x.heap.size,0,none⟩) (Hf k e p bs)):=hid fun x hx u10 u14 u18 u25 q1 q2 q3 q4=>by
  have b1:Bs x v1 (fr4 e.toNat):=Bs.below (w:=w1.drew) HV1.out hx;have b2:Bs x (.slice a bs.length c) bs:=Bs.below (w:=w1.drew) HBS1.out hx;refine Pt.of_bs [u10,v1,u14,u18,.slice a bs.length c,u25,v1] (Hf k e p bs) 74 rfl ?_ ?_
  ·unfold Hf;refine List.forall_mem_cons.2 ⟨?_,List.forall_mem_cons.2 ⟨?_,List.forall_mem_cons.2 ⟨?_,List.forall_mem_cons.2 ⟨?_,List.forall_mem_cons.2 ⟨?_,List.forall_mem_cons.2 ⟨?_,List.forall_mem_cons.2 ⟨?_,List.forall_mem_nil _⟩⟩⟩⟩⟩⟩⟩
   ·intro y hy;simp at hy;omega
   ·exact IP _
   ·exact IQ _
   ·exact IQ _
   ·exact HBY.out
   ·intro y hy;rw [List.mem_replicate] at hy;omega
   ·exact IP _
  ·intro i v q hv hq;unfold Hf at hq;have hi:i < 7:=(List.getElem?_eq_some_iff.1 hv).1;have h7:i=0\/i=1\/i=2\/i=3\/i=4\/i=5\/i=6:=by omega
   rcases h7 with rfl | rfl | rfl | rfl | rfl | rfl | rfl<;>(cases hv;cases hq;assumption)
 refine Ai 22 [Ar (.pointer (some ⟨w.heap.size,0,none⟩)),Ar (.int .i64 k),Ar (.int .u8 k),Is [241,k.toNat % 256],Ar v1,
  Ar (.pointer (some ⟨w.heap.size,2,none⟩)),Ar (.int .i64 p),Is (fr2 p.toNat),Ar (.pointer (some ⟨w.heap.size,3,none⟩)),Ar (.slice a bs.length c),Ar (.int .i64 bs.length),Is (fr2 bs.length),
  Ar (.pointer (some ⟨w.heap.size,3,none⟩)),Ar (.slice a bs.length c),Ar (.pointer (some ⟨w.heap.size,3,none⟩)),Ar (.slice a bs.length c),Ar (.int .i64 bs.length),Ar (.int .i64 (238 - bs.length)),
  Is (List.replicate (238 - bs.length) 0),Ar v1,(fun w v=>∃ a,v=.slice a 7 7/\Pt (fun _=>True) w a (Hf k e p bs)),(fun x v=>Row 5 w1.heap.size x v (laid ⟨k,e,p,bs⟩))] (by kernel_rfl) (by decide) (by kernel_rfl) ?_ ?_ ?_
 ·repeat' (first | exact List.forall_mem_nil _ | refine List.forall_mem_cons.2 ⟨?_,?_⟩)
  all_goals
   intro w w' v hw h
   first | exact h | exact Bs.below h hw | exact Row.kept h hw | (obtain ⟨a,rfl,h⟩:=h;exact ⟨a,rfl,h.below hw⟩)
 ·simp only [AllLt];refine ⟨⟨⟨⟨⟨⟨⟨⟨⟨⟨⟨⟨⟨⟨⟨⟨⟨⟨⟨⟨⟨⟨trivial,?_⟩,?_⟩,?_⟩,?_⟩,?_⟩,?_⟩,?_⟩,?_⟩,?_⟩,?_⟩,?_⟩,?_⟩,?_⟩,?_⟩,?_⟩,?_⟩,?_⟩,?_⟩,?_⟩,?_⟩,?_⟩,?_⟩
  all_goals
   intro o ho;simp at ho;subst ho;intro ρ w2 hR hL hS hG;obtain ⟨hl1,hl2,-⟩:=hL
  ·refine Aa rfl ?_;intro bA K Q' hK;have e1:=hS 1 (by kernel_rfl);change ρ (.tmp 1)=_ at e1;simp only [execOp];go_simp;exact hK _ _ rfl (Grew.refl _)
  ·refine Aa rfl ?_;intro bA K Q' hK;have e7:=apG (hG 0 7);change ρ (.tmp 7)=_ at e7;obtain ⟨c0,c2,c3⟩:=HC.out w2 hR;simp only [execOp];go_simp;exact hK _ _ rfl (Grew.refl _)
  ·refine Aa rfl ?_;intro bA K Q' hK;have e8:=apG (hG 1 8);change ρ (.tmp 8)=_ at e8;simp only [execOp];go_simp;exact hK _ _ (Uy HKU.out) (Grew.refl _)
  ·refine Aa rfl ?_;intro bA K Q' hK;have e9:=apG (hG 2 9);change ρ (.tmp 9)=_ at e9;simp only [execOp];go_simp;refine hK _ _ ?_ ((Grew.refl _).alloc _);exact HK2.out w2
  ·refine Aa rfl ?_;intro bA K Q' hK;have e3:=hS 3 (by kernel_rfl);change ρ (.tmp 3)=_ at e3;simp only [execOp];go_simp;exact hK _ _ rfl (Grew.refl _)
  ·refine Aa rfl ?_;intro bA K Q' hK;have e1:=hS 1 (by kernel_rfl);change ρ (.tmp 1)=_ at e1;simp only [execOp];go_simp;exact hK _ _ rfl (Grew.refl _)
  ·refine Aa rfl ?_;intro bA K Q' hK;have e12:=apG (hG 5 12);change ρ (.tmp 12)=_ at e12;obtain ⟨c0,c2,c3⟩:=HC.out w2 hR;simp only [execOp];go_simp;exact hK _ _ rfl (Grew.refl _)
  ·refine Aa rfl ?_;intro bA K Q' hK;have e13:=apG (hG 6 13);change ρ (.tmp 13)=_ at e13;simp only [execOp];go_simp;refine (Y0 p _ h5 (by omega)).mono ?_;rintro r w3 ⟨v,rfl,hv,hb⟩;exact hK _ _ (SL hv) hb
  ·refine Aa rfl ?_;intro bA K Q' hK;have e1:=hS 1 (by kernel_rfl);change ρ (.tmp 1)=_ at e1;simp only [execOp];go_simp;exact hK _ _ rfl (Grew.refl _)
  ·refine Aa rfl ?_;intro bA K Q' hK;have e15:=apG (hG 8 15);change ρ (.tmp 15)=_ at e15;obtain ⟨c0,c2,c3⟩:=HC.out w2 hR;simp only [execOp];go_simp;exact hK _ _ rfl (Grew.refl _)
  ·refine Aa rfl ?_;intro bA K Q' hK;have e16:=apG (hG 9 16);change ρ (.tmp 16)=_ at e16;simp only [execOp];go_simp;exact hK _ _ rfl (Grew.refl _)
  ·refine Aa rfl ?_;intro bA K Q' hK;have e17:=apG (hG 10 17);change ρ (.tmp 17)=_ at e17;simp only [execOp];go_simp;refine (Y0 (bs.length:Int) _ (by omega) (by omega)).mono ?_;rintro r w3 ⟨v,rfl,hv,hb⟩;exact hK _ _ (SL hv) hb
  ·refine Aa rfl ?_;intro bA K Q' hK;have e1:=hS 1 (by kernel_rfl);change ρ (.tmp 1)=_ at e1;simp only [execOp];go_simp;exact hK _ _ rfl (Grew.refl _)
  ·refine Aa rfl ?_;intro bA K Q' hK;have e19:=apG (hG 12 19);change ρ (.tmp 19)=_ at e19;obtain ⟨c0,c2,c3⟩:=HC.out w2 hR;simp only [execOp];go_simp;exact hK _ _ rfl (Grew.refl _)
  ·refine Aa rfl ?_;intro bA K Q' hK;have e1:=hS 1 (by kernel_rfl);change ρ (.tmp 1)=_ at e1;simp only [execOp];go_simp;exact hK _ _ rfl (Grew.refl _)
  ·refine Aa rfl ?_;intro bA K Q' hK;have e21:=apG (hG 14 21);change ρ (.tmp 21)=_ at e21;obtain ⟨c0,c2,c3⟩:=HC.out w2 hR;simp only [execOp];go_simp;exact hK _ _ rfl (Grew.refl _)
  ·refine Aa rfl ?_;intro bA K Q' hK;have e22:=apG (hG 15 22);change ρ (.tmp 22)=_ at e22;simp only [execOp];go_simp;exact hK _ _ rfl (Grew.refl _)
  ·refine Aa rfl ?_;intro bA K Q' hK;have e23:=apG (hG 16 23);change ρ (.tmp 23)=_ at e23;simp only [execOp];go_simp;exact hK _ _ (Uy HW17.out) (Grew.refl _)
  ·refine Aa rfl ?_;intro bA K Q' hK;have e24:=apG (hG 17 24);change ρ (.tmp 24)=_ at e24;simp only [execOp];have hm:=HMK.out w2;go_simp;refine hK _ _ ?_ ((Grew.refl _).alloc _);exact HZ.out w2
  ·refine Aa rfl ?_;intro bA K Q' hK;have e3:=hS 3 (by kernel_rfl);change ρ (.tmp 3)=_ at e3;simp only [execOp];go_simp;exact hK _ _ rfl (Grew.refl _)
  ·refine Aa rfl ?_;intro bA K Q' hK;have e10:=apG (hG 3 10);have e11:=apG (hG 4 11);have e14:=apG (hG 7 14);have e18:=apG (hG 11 18);have e20:=apG (hG 13 20);have e25:=apG (hG 18 25);have e26:=apG (hG 19 26);change Bs w2 (ρ (.tmp 10)) _ at e10;change ρ (.tmp 11)=_ at e11;change Bs w2 (ρ (.tmp 14)) _ at e14;change Bs w2 (ρ (.tmp 18)) _ at e18;change ρ (.tmp 20)=_ at e20;change Bs w2 (ρ (.tmp 25)) _ at e25;change ρ (.tmp 26)=_ at e26;have hp:=HP7.out w2 hR _ _ _ _ e10 e14 e18 e25;obtain ⟨a10,c10,e10,-⟩:=e10;obtain ⟨a14,c14,e14,-⟩:=e14;obtain ⟨a18,c18,e18,-⟩:=e18;obtain ⟨a25,c25,e25,-⟩:=e25;obtain ⟨a11,c11,e11',-⟩:=HV1.out;rw [e10,e14,e18,e25,e11'] at hp;rw [e11'] at e11 e26;simp only [execOp];go_simp;rw [List.length_replicate] at hp;refine hK _ _ ⟨_,rfl,?_⟩ ((Grew.refl _).alloc _);exact hp
  ·refine Aa rfl ?_;intro bA K Q' hK;have e27:=apG (hG 20 27);obtain ⟨a27,e27,hp⟩:=e27;simp only [execOp];go_simp;refine (WY a27 7 (Hf k e p bs) w2 hp (by unfold Hf;simp) (by unfold Hf;simp) (by rw [HTC.out];decide) (by rw [HTC.out,MP,HLL.out])).mono ?_;rintro r w3 ⟨v,rfl,hv,hb⟩;rw [MP] at hv;exact hK _ _ (hv.weaken hR.size) hb
 ·intro v w2 hR hG;have h21:=hG.2;change Row 5 w1.heap.size w2 (v 21) _ at h21;have H21:=hid h21;have HB2:Hid (Below w.heap.size w w2):=hid (Grew.on HB1.out hR);clear hG h21 hR HC HK2 HMK HZ HP7 HTC HLL HKU HW17;simp [stG,stU,Au,Act.put]
  go_wp2_with fail
  go_ret
  exact ⟨_,rfl,H21.out.weaken HB1.out.size,HB2.out⟩
end Go.Proofs.YtfhdojnobmfefaaGreatDoor
