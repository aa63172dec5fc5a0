/- MADE SMALL. -/
import Derived.DeepKeys3
import Derived.Maps.OwnSet
import Derived.WideLaws
import Derived.Laws.EntriesVeiled
import Derived.Test.YtfhdojnobmfefaaGreatDoorG43
import Derived.StillTailTactics
import Derived.Test.YtfhdojnobmfefaaGreatDoorG40
import Derived.BigRegion
import Derived.Test.YtfhdojnobmfefaaGreatDoorG26
namespace Go.Proofs.YtfhdojnobmfefaaGreatDoor
open Go Go.RowKit Go.Inc Go.Maps
theorem keysPlace:Keyed Tryz.prog 184:=Keyed.of_law (deep_law (m:=2) (by decide) (by kernel_rfl) (by kernel_rfl) (by kernel_rfl))
theorem PH:Tryz.prog.keyType 184=true:=by kernel_rfl
theorem NJ:Tryz.prog.cellsOf 184=2:=by kernel_rfl
theorem Zx:Tryz.prog.cellsOf 3=1:=by kernel_rfl
theorem Su:∃ m,Tryz.prog.types.size=m+1:=⟨Tryz.prog.types.size - 1,by kernel_rfl⟩
theorem KU {a b:Int} (wa:(Lit.int .i64 a).wf=true) (wb:(Lit.int .i64 b).wf=true):∃ l,keyOf Tryz.prog 184 (.agg #[.int .i64 a,.int .i64 b])=some l:=by
 refine ⟨.string (keyBytes [.int .i64 a,.int .i64 b]),?_⟩;obtain ⟨m,hm⟩:=Su;unfold keyOf;simp only [Tryz.underlying184];rw [if_pos (by simp [PH,Value.formed,Tryz.underlying184,NJ]),hm];unfold Program.keyLits;simp only [Tryz.underlying184,Value.cells];rw [if_pos (by simp [NJ])];simp [Zx,Program.keyLits,Tryz.underlying3,wa,wb]
def AskedM (W:World) (b:Nat) (lv:Int):Prop:=∃ (n:Nat) (D:DataW Value),W.ownsMap Tryz.prog 184 unitElem b n D/\(n:Int) < lv/\∀ p l key,lv<=l->keyOf Tryz.prog 184 (.agg #[.int .i64 p,.int .i64 l])=some key->Maps.has D key=false
theorem RD {W:World} {b:Nat} {lv:Int} (h:AskedM W b lv) {p:Int} {key:Lit} (hk:keyOf Tryz.prog 184 (.agg #[.int .i64 p,.int .i64 lv])=some key):∃ (n:Nat) (D:DataW Value),W.ownsMap Tryz.prog 184 unitElem b n D/\(n:Int) < lv/\Maps.has D key=false/\∀ W',W'.ownsMap Tryz.prog 184 unitElem b (n+1) (D.put key (.agg []))->AskedM W' b (lv+1):=by
 obtain ⟨n,D,h1,h2,h3⟩:=h;refine ⟨n,D,h1,h2,h3 p lv key (Int.le_refl _) hk,fun W' hw=>⟨n+1,_,hw,by omega,fun p' l' key' hl hk'=>?_⟩⟩;have hne:key'≠key:=fun e=>by
  subst e;have:=keysPlace.inj hk hk';simp at this;omega
 rw [has_put_other hne];exact h3 p' l' key' (by omega) hk'
structure EnvF (C:Nat->Nat) (gd pn n:Nat) (S:St) (tp pa:Nat) (rt ep:Int) (B ga gt gs mb:Nat) (W:World) (lv:Int) (r':Int):Prop where
 dv:Dv C W gd pn n {S with r:=r'}
 tc:TC W tp gd pa rt ep
 ba:Boxed W ga 205 (.map (some mb))
 bt:Boxed W gt 27 (.pointer (some ⟨tp,0,none⟩))
 bs:Boxed W gs 206 (.func (.func 121) #[] #[.pointer (some ⟨ga,0,none⟩),.pointer (some ⟨gt,0,none⟩),.pointer (some ⟨gs,0,none⟩)])
 mp:AskedM W mb lv
 ge:B<=ga/\B<=gt/\B<=gs/\B<=mb
 cb:∀ b,B<=b->C b=0
 lt:tp < B
 ct:C tp=0
theorem AskedM.lt {W:World} {b:Nat} {lv:Int} (h:AskedM W b lv):b < W.heap.size:=let ⟨_,_,h,_⟩:=h;h.lt
theorem AskedM.mv {F:Nat->Prop} {W W':World} {b:Nat} {lv:Int} (h:AskedM W b lv) (hm:Mv F W W') (hb:¬ F b):AskedM W' b lv:=by
 obtain ⟨n,D,h1,h2⟩:=h;exact ⟨n,D,IG h1 (hm.block b h1.lt hb),h2⟩
theorem EnvF.mv {C:Nat->Nat} {gd pn n:Nat} {S:St} {tp pa:Nat} {rt ep:Int} {B ga gt gs mb:Nat} {W W':World} {lv:Int} {r' r2:Int} {F:Nat->Prop} (h:EnvF C gd pn n S tp pa rt ep B ga gt gs mb W lv r') (hd:Dv C W' gd pn n {S with r:=r2}) (hm:Mv F W W') (hF:∀ b,F b->b < W.heap.size->b < B) (ht:¬ F tp):EnvF C gd pn n S tp pa rt ep B ga gt gs mb W' lv r2:=
 ⟨hd,h.tc.mv hm ht,hm.row h.ba (fun hf=>by have:=hF _ hf (Aj h.ba);have:=h.ge.1;omega),hm.row h.bt (fun hf=>by have:=hF _ hf (Aj h.bt);have:=h.ge.2.1;omega),hm.row h.bs (fun hf=>by have:=hF _ hf (Aj h.bs);have:=h.ge.2.2.1;omega),h.mp.mv hm (fun hf=>by have:=hF _ hf h.mp.lt;have:=h.ge.2.2.2;omega),h.ge,h.cb,h.lt,h.ct⟩
theorem EnvF.below {C:Nat->Nat} {gd pn n:Nat} {S:St} {tp pa:Nat} {rt ep:Int} {B ga gt gs mb:Nat} {W W':World} {lv:Int} {r':Int} (h:EnvF C gd pn n S tp pa rt ep B ga gt gs mb W lv r') (hb:Below W.heap.size W W'):EnvF C gd pn n S tp pa rt ep B ga gt gs mb W' lv r':=
 h.mv (F:=fun _=>False) (h.dv.below hb) (Mv.of_below hb) (fun _ hf _=>hf.elim) id
theorem EnvF.read {C:Nat->Nat} {gd pn n:Nat} {S:St} {tp pa:Nat} {rt ep:Int} {B ga gt gs mb:Nat} {W W':World} {lv:Int} {r' r2:Int} (h:EnvF C gd pn n S tp pa rt ep B ga gt gs mb W lv r') (hd:Dv C W' gd pn n {S with r:=r2}) (hm:Mv (fun b=>C b≠0) W W'):EnvF C gd pn n S tp pa rt ep B ga gt gs mb W' lv r2:=
 h.mv hd hm (fun b hf _=>Nat.lt_of_not_le fun hh=>hf (h.cb b hh)) fun hh=>hh h.ct
theorem EnvF.put {C:Nat->Nat} {gd pn n:Nat} {S:St} {tp pa:Nat} {rt ep:Int} {B ga gt gs mb:Nat} {W W':World} {lv lv2:Int} {r':Int} (h:EnvF C gd pn n S tp pa rt ep B ga gt gs mb W lv r') (hg:W.grownBy W' (some mb)) (hm:AskedM W' mb lv2):EnvF C gd pn n S tp pa rt ep B ga gt gs mb W' lv2 r':=by
 have hmv:Mv (fun b=>b=mb) W W':=Mv.of_grown hg fun j hj _=>by cases hj;rfl
 have hne:∀ (i:Nat) (cs:Array Value) (T:TypeId),W.heap[i]?=some (.cells cs T (0,0))->¬ i=mb:=fun i cs T hi e=>by
  subst e;obtain ⟨_,_,⟨_,_,hb,_⟩,_⟩:=h.mp;rw [hb] at hi;cases hi
 exact ⟨h.dv.keep hmv fun i hi=>by rw [hi];exact h.cb mb h.ge.2.2.2,h.tc.mv hmv fun e=>by have:=h.lt;have:=h.ge.2.2.2;omega,hmv.row h.ba (hne _ _ _ h.ba),hmv.row h.bt (hne _ _ _ h.bt),hmv.row h.bs (hne _ _ _ h.bs),hm,h.ge,h.cb,h.lt,h.ct⟩
set_option maxRecDepth 20000 in
set_option maxHeartbeats 8000000 in
theorem XX {C:Nat->Nat} {gd pn n:Nat} {S:St} {tp pa:Nat} {rt ep:Int} {B ga gt gs mb:Nat} (hon:S.on=true) (hby:∀ q,q < pn->Bytes (rd S q)) (hn:n<=1000000):∀ (D:Nat),∀ (p:Nat) (lv:Int) (sh:Sh D) (ns:List Nat) (W:World) (r':Int),EnvF C gd pn n S tp pa rt ep B ga gt gs mb W lv r'->IsN (CJ S) D p sh ns->okS D sh->1<=lv->lv+((D:Nat):Int)<=8->(∀ q∈ns,q < pn)->r'+(D:Int)+1<=1000000->
  Calls Tryz.prog 121 #[.agg #[.int .i64 (p:Int),.int .i64 lv],.pointer (some ⟨ga,0,none⟩),.pointer (some ⟨gt,0,none⟩),.pointer (some ⟨gs,0,none⟩)] W fun e W'=>e=.returned (.tuple #[.int .i64 (lv+(D:Int)),.int .i64 0])/\Dv C W' gd pn n {S with r:=r'+(D:Int)+1}/\TC W' tp gd pa rt ep/\Mv (fun b=>C b≠0\/b=mb) W W':=by
 have HS:=hid (And.intro hon (And.intro hby hn));clear hon hby hn;intro D
 induction D with
 | zero=>
  intro p lv sh ns W r' henv his hok hlv1 hlv hpn hrb;obtain ⟨hf,rfl⟩:=his;have h16:List.length sh<=16:=hok.2;have hpp:p < pn:=hpn p (List.mem_singleton.2 rfl);obtain ⟨lf,hlf⟩:∃ lf,lf=true:=⟨_,rfl⟩
  obtain ⟨es,hes⟩:∃ es:List Et,es=sh:=⟨_,rfl⟩
  rw [<- hlf,<- hes] at hf;rw [<- hes] at h16;have hne:es≠[]:=by rw [hes];exact hok.1
  have HL:=hid hlf;clear hlf hes hok hpn;have HE:=hid henv;have H16:=hid h16;have HNE:=hid hne;have HF:=hid hf;have HPN:=hid hpp;have HLV:=hid (And.intro hlv1 hlv);have HRB:=hid hrb;obtain ⟨g0,hg0⟩:∃ g,g=W.heap.size:=⟨_,rfl⟩
  obtain ⟨W1,hW1⟩:∃ w,w=W.alloc (.cells #[.int .i64 (p:Int),.int .i64 lv] 184):=⟨_,rfl⟩
  have HW1:=hid hW1;have HG0:=hid hg0;have hb1:Below W.heap.size W W1:=by rw [hW1];exact Ad W _
  have hx1:W1.heap[g0]?=some (.cells #[.int .i64 (p:Int),.int .i64 lv] 184 (0,0)):=by rw [hW1,hg0];exact heap_alloc_new W _
  have hE1:=henv.below hb1;have hca:=hE1.ba.cell;have hp0:W1.cell? ⟨g0,0,none⟩=some (.int .i64 (p:Int)):=coR hx1;have hp1:W1.cell? ⟨g0,1,none⟩=some (.int .i64 lv):=coR hx1;obtain ⟨key,hkey⟩:=KU (a:=(p:Int)) (b:=lv) (Go.WalkArith.wf_i64 (by have:=hE1.dv.pp;omega)) (Go.WalkArith.wf_i64 (by omega));obtain ⟨mn,MD,hown,hmn,hhas,hnext⟩:=RD hE1.mp hkey;have hmn8:mn < 8:=by omega
  have HE1:=hid hE1;have HX1:=hid hx1;have HB1:=hid hb1;have HNEXT:=hid hnext;have HBW:Hid (B<=W.heap.size/\mb < W.heap.size):=hid ⟨by have:=henv.bt.lt;have:=henv.ge.2.1;omega,henv.mp.lt⟩;clear hW1 hg0 hb1 hx1 hE1 henv hnext h16 hne hf hpp hlv1 hlv hrb hmn
  go_enter Tryz.func121,Tryz.ntmps121
  go_upto_region 1 with fail
  rw [<- HW1.out,<- HG0.out];clear HW1
  go_upto_region 4 with (at_lookup;refine wpList_lookup_own_unit _ rfl _ _ 205 rfl 184 196 keysPlace Tryz.underlying205 (by kernel_rfl) mb mn MD rfl hown _ _ rfl hkey ?_)
  obtain ⟨W2,hW2⟩:∃ w,w=W1.alloc (.cells #[] 196):=⟨_,rfl⟩
  have hb2:Below W1.heap.size W1 W2:=by rw [hW2];exact Ad W1 _
  rw [<- hW2];have hE2:=HE1.out.below hb2;have hx2:=Ac HX1.out hb2;have hown2:W2.ownsMap Tryz.prog 184 unitElem mb mn MD:=IG hown (hb2.block mb hown.lt);clear hca hp0 hp1 hhas hown;have hca:=hE2.ba.cell;have hp0:W2.cell? ⟨g0,0,none⟩=some (.int .i64 (p:Int)):=coR hx2;have hp1:W2.cell? ⟨g0,1,none⟩=some (.int .i64 lv):=coR hx2;have HE2:=hid hE2;have HX2:=hid hx2;have HB2:Hid (Below W.heap.size W W2):=hid (HB1.out.trans (hb2.mono HB1.out.size));clear hW2 hb2 hE2 hx2 HE1 HX1 HB1
  go_wp2_with (at_mapUpdate;refine wpList_mapUpdate_own _ rfl _ _ _ 205 rfl 184 196 keysPlace Tryz.underlying205 unitElem mb mn MD rfl hown2 (by unfold maxLen;omega) _ _ key rfl rfl hkey (.agg []) [] unitElem_mk ?_)
  intro W3 hmap3 hg3;have hE3:=HE2.out.put hg3 (HNEXT.out W3 hmap3);have hg0mb:g0≠mb:=by have:=HBW.out.2;have:=HG0.out;omega
  have hx3:W3.heap[g0]?=some (.cells #[.int .i64 (p:Int),.int .i64 lv] 184 (0,0)):=(hg3.block g0 (Aj HX2.out) (fun e=>hg0mb (by cases e;rfl))).trans HX2.out;have HM3:Hid (Mv (fun b=>C b≠0\/b=mb) W W3):=hid ((Mv.of_below HB2.out).trans (Mv.of_grown hg3 fun j hj _=>by cases hj;exact .inr rfl));have HS3:Hid (W.heap.size<=W3.heap.size):=hid (Nat.le_trans HB2.out.size hg3.size);have HND:=hid (EM (w:=W3) hE3.dv hE3.tc hE3.ct HS.out.1 HS.out.2.2 (show r'<=1000000 by have:=HRB.out;omega) p lv (by have:=HLV.out;omega) HPN.out (HS.out.2.1 p HPN.out) lf es HF.out);have HE3:=hid hE3;have HX3:=hid hx3;clear hca hp0 hp1;have hct:=hE3.bt.cell;have hp0:W3.cell? ⟨g0,0,none⟩=some (.int .i64 (p:Int)):=coR hx3;have hp1:W3.cell? ⟨g0,1,none⟩=some (.int .i64 lv):=coR hx3;clear hmap3 hg3 hE3 hx3 hown2 hkey hg0mb hmn8 HE2 HX2 HB2 HNEXT
  go_wp2_with fail
  refine HND.out.mono ?_;clear HND hct hp0 hp1;rintro e W4 ⟨⟨nv,rfl,a1,n1,c1,rfl,hok4,hnew4⟩,hd4,hmv4⟩;have hn1:n1=es.length:=hok4.1;obtain ⟨W5,hW5⟩:∃ w,w=W4.alloc (.cells #[.bool lf,.slice a1 n1 c1] 114):=⟨_,rfl⟩
  obtain ⟨g9,hg9⟩:∃ g,g=W4.heap.size:=⟨_,rfl⟩
  have HW5:=hid hW5;have HG9:=hid hg9;have hb5:Below W4.heap.size W4 W5:=by rw [hW5];exact Ad W4 _
  have HE5:=hid ((HE3.out.read hd4 hmv4).below hb5);have hx5:W5.heap[g9]?=some (.cells #[.bool lf,.slice a1 n1 c1] 114 (0,0)):=by rw [hW5,hg9];exact heap_alloc_new W4 _
  have HX5:=hid hx5;have HXP5:=hid (Ac (hmv4.row HX3.out fun hh=>hh (HE3.out.cb g0 (by have:=HBW.out;have:=HG0.out;omega))) hb5);have HM5:Hid (Mv (fun b=>C b≠0\/b=mb) W W5):=hid (HM3.out.trans' (hmv4.trans (Mv.of_below hb5)) fun i _ h=>.inl h);have HNM5:Hid (NmOk 65 W.heap.size W5 ⟨lf,a1,c1,es⟩):=hid ⟨by rw [<- hn1];exact hok4.below hb5,(hnew4.below hb5).weaken HS3.out⟩;have HN1:=hid hn1;have hl0:W5.cell? ⟨g9,0,none⟩=some (.bool lf):=coR hx5;have hl1:W5.cell? ⟨g9,1,none⟩=some (.slice a1 n1 c1):=coR hx5;have hp1:W5.cell? ⟨g0,1,none⟩=some (.int .i64 lv):=coR HXP5.out;have hn0:(0:Int) < (n1:Int):=by
   have h1:=HNE.out;have h2:0 < es.length:=List.length_pos_iff.2 h1;omega
  have hn16:(n1:Int)<=16:=by have:=H16.out;omega
  clear hW5 hg9 hb5 hx5 hok4 hnew4 hd4 hmv4 hn1 HE3 HX3 HM3
  go_upto_region 6 with fail
  rw [<- HW5.out,<- HG9.out];clear HW5;obtain rfl:=HL.out
  go_wp2_with fail
  go_ret2
  refine ⟨by simp,?_,HE5.out.tc,HM5.out⟩;have h:=HE5.out.dv;simpa using h
 | succ D ih=>
  intro p lv cs ns W r' henv his hok hlv1 hlv hpn hrb;obtain ⟨l,hll,hf,hns,hch⟩:=his;have h16:(Ii D cs l).length<=16:=by rw [EO hll];exact hok.2.1
  have hpp:p < pn:=hpn p (by rw [hns];exact List.mem_cons_self ..);have hcl:0 < List.length cs:=List.length_pos_iff.2 hok.1;have hkl:0 < l.length:=by rw [hll];exact hcl
  obtain ⟨c,hc⟩:∃ c,cs[0]?=some c:=⟨_,List.getElem?_eq_getElem hcl⟩
  obtain ⟨q,hq⟩:∃ q,l[0]?=some q:=⟨_,List.getElem?_eq_getElem hkl⟩
  have hent:(Ii D cs l).getD 0 et0=(Es D c,(q.1:Int)):=MR hc hq;have hqn:∀ x∈q.2,x < pn:=fun x hx=>hpn x (by rw [hns];exact List.mem_cons_of_mem _ (List.mem_flatMap.2 ⟨q,List.mem_of_getElem? hq,hx⟩));have HIS:=hid (hch 0 c q hc hq);have HOKC:=hid (hok.2.2 c (List.mem_of_getElem? hc));have HQN:=hid hqn;obtain ⟨lf,hlf⟩:∃ lf,lf=false:=⟨_,rfl⟩
  obtain ⟨es,hes⟩:∃ es:List Et,es=Ii D cs l:=⟨_,rfl⟩
  rw [<- hlf,<- hes] at hf;rw [<- hes] at h16 hent;have hne:es≠[]:=fun h0=>by
   have h1:(Ii D cs l).length=0:=by rw [<- hes,h0];rfl
   rw [EO hll] at h1;omega
  have HL:=hid hlf;have HENT:=hid hent;clear hlf hes hok hpn hll hns hch hcl hkl hc hq hent hqn;have HE:=hid henv;have H16:=hid h16;have HNE:=hid hne;have HF:=hid hf;have HPN:=hid hpp;have HLV:=hid (And.intro hlv1 hlv);have HRB:=hid hrb;obtain ⟨g0,hg0⟩:∃ g,g=W.heap.size:=⟨_,rfl⟩
  obtain ⟨W1,hW1⟩:∃ w,w=W.alloc (.cells #[.int .i64 (p:Int),.int .i64 lv] 184):=⟨_,rfl⟩
  have HW1:=hid hW1;have HG0:=hid hg0;have hb1:Below W.heap.size W W1:=by rw [hW1];exact Ad W _
  have hx1:W1.heap[g0]?=some (.cells #[.int .i64 (p:Int),.int .i64 lv] 184 (0,0)):=by rw [hW1,hg0];exact heap_alloc_new W _
  have hE1:=henv.below hb1;have hca:=hE1.ba.cell;have hp0:W1.cell? ⟨g0,0,none⟩=some (.int .i64 (p:Int)):=coR hx1;have hp1:W1.cell? ⟨g0,1,none⟩=some (.int .i64 lv):=coR hx1;obtain ⟨key,hkey⟩:=KU (a:=(p:Int)) (b:=lv) (Go.WalkArith.wf_i64 (by have:=hE1.dv.pp;omega)) (Go.WalkArith.wf_i64 (by omega));obtain ⟨mn,MD,hown,hmn,hhas,hnext⟩:=RD hE1.mp hkey;have hmn8:mn < 8:=by omega
  have HE1:=hid hE1;have HX1:=hid hx1;have HB1:=hid hb1;have HNEXT:=hid hnext;have HBW:Hid (B<=W.heap.size/\mb < W.heap.size):=hid ⟨by have:=henv.bt.lt;have:=henv.ge.2.1;omega,henv.mp.lt⟩;clear hW1 hg0 hb1 hx1 hE1 henv hnext h16 hne hf hpp hlv1 hlv hrb hmn
  go_enter Tryz.func121,Tryz.ntmps121
  go_upto_region 1 with fail
  rw [<- HW1.out,<- HG0.out];clear HW1
  go_upto_region 4 with (at_lookup;refine wpList_lookup_own_unit _ rfl _ _ 205 rfl 184 196 keysPlace Tryz.underlying205 (by kernel_rfl) mb mn MD rfl hown _ _ rfl hkey ?_)
  obtain ⟨W2,hW2⟩:∃ w,w=W1.alloc (.cells #[] 196):=⟨_,rfl⟩
  have hb2:Below W1.heap.size W1 W2:=by rw [hW2];exact Ad W1 _
  rw [<- hW2];have hE2:=HE1.out.below hb2;have hx2:=Ac HX1.out hb2;have hown2:W2.ownsMap Tryz.prog 184 unitElem mb mn MD:=IG hown (hb2.block mb hown.lt);clear hca hp0 hp1 hhas hown;have hca:=hE2.ba.cell;have hp0:W2.cell? ⟨g0,0,none⟩=some (.int .i64 (p:Int)):=coR hx2;have hp1:W2.cell? ⟨g0,1,none⟩=some (.int .i64 lv):=coR hx2;have HE2:=hid hE2;have HX2:=hid hx2;have HB2:Hid (Below W.heap.size W W2):=hid (HB1.out.trans (hb2.mono HB1.out.size));clear hW2 hb2 hE2 hx2 HE1 HX1 HB1
  go_wp2_with (at_mapUpdate;refine wpList_mapUpdate_own _ rfl _ _ _ 205 rfl 184 196 keysPlace Tryz.underlying205 unitElem mb mn MD rfl hown2 (by unfold maxLen;omega) _ _ key rfl rfl hkey (.agg []) [] unitElem_mk ?_)
  intro W3 hmap3 hg3;have hE3:=HE2.out.put hg3 (HNEXT.out W3 hmap3);have hg0mb:g0≠mb:=by have:=HBW.out.2;have:=HG0.out;omega
  have hx3:W3.heap[g0]?=some (.cells #[.int .i64 (p:Int),.int .i64 lv] 184 (0,0)):=(hg3.block g0 (Aj HX2.out) (fun e=>hg0mb (by cases e;rfl))).trans HX2.out;have HM3:Hid (Mv (fun b=>C b≠0\/b=mb) W W3):=hid ((Mv.of_below HB2.out).trans (Mv.of_grown hg3 fun j hj _=>by cases hj;exact .inr rfl));have HS3:Hid (W.heap.size<=W3.heap.size):=hid (Nat.le_trans HB2.out.size hg3.size);have HND:=hid (EM (w:=W3) hE3.dv hE3.tc hE3.ct HS.out.1 HS.out.2.2 (show r'<=1000000 by have:=HRB.out;omega) p lv (by have:=HLV.out;omega) HPN.out (HS.out.2.1 p HPN.out) lf es HF.out);have HE3:=hid hE3;have HX3:=hid hx3;clear hca hp0 hp1;have hct:=hE3.bt.cell;have hp0:W3.cell? ⟨g0,0,none⟩=some (.int .i64 (p:Int)):=coR hx3;have hp1:W3.cell? ⟨g0,1,none⟩=some (.int .i64 lv):=coR hx3;clear hmap3 hg3 hE3 hx3 hown2 hkey hg0mb hmn8 HE2 HX2 HB2 HNEXT
  go_wp2_with fail
  refine HND.out.mono ?_;clear HND hct hp0 hp1;rintro e W4 ⟨⟨nv,rfl,a1,n1,c1,rfl,hok4,hnew4⟩,hd4,hmv4⟩;have hn1:n1=es.length:=hok4.1;obtain ⟨W5,hW5⟩:∃ w,w=W4.alloc (.cells #[.bool lf,.slice a1 n1 c1] 114):=⟨_,rfl⟩
  obtain ⟨g9,hg9⟩:∃ g,g=W4.heap.size:=⟨_,rfl⟩
  have HW5:=hid hW5;have HG9:=hid hg9;have hb5:Below W4.heap.size W4 W5:=by rw [hW5];exact Ad W4 _
  have HE5:=hid ((HE3.out.read hd4 hmv4).below hb5);have hx5:W5.heap[g9]?=some (.cells #[.bool lf,.slice a1 n1 c1] 114 (0,0)):=by rw [hW5,hg9];exact heap_alloc_new W4 _
  have HX5:=hid hx5;have HXP5:=hid (Ac (hmv4.row HX3.out fun hh=>hh (HE3.out.cb g0 (by have:=HBW.out;have:=HG0.out;omega))) hb5);have HM5:Hid (Mv (fun b=>C b≠0\/b=mb) W W5):=hid (HM3.out.trans' (hmv4.trans (Mv.of_below hb5)) fun i _ h=>.inl h);have HNM5:Hid (NmOk 65 W.heap.size W5 ⟨lf,a1,c1,es⟩):=hid ⟨by rw [<- hn1];exact hok4.below hb5,(hnew4.below hb5).weaken HS3.out⟩;have HN1:=hid hn1;have hl0:W5.cell? ⟨g9,0,none⟩=some (.bool lf):=coR hx5;have hl1:W5.cell? ⟨g9,1,none⟩=some (.slice a1 n1 c1):=coR hx5;have hp1:W5.cell? ⟨g0,1,none⟩=some (.int .i64 lv):=coR HXP5.out;have hn0:(0:Int) < (n1:Int):=by
   have h1:=HNE.out;have h2:0 < es.length:=List.length_pos_iff.2 h1;omega
  have hn16:(n1:Int)<=16:=by have:=H16.out;omega
  clear hW5 hg9 hb5 hx5 hok4 hnew4 hd4 hmv4 hn1 HE3 HX3 HM3
  go_upto_region 6 with fail
  rw [<- HW5.out,<- HG9.out];clear HW5;obtain rfl:=HL.out
  go_wp2_with fail
  clear hl0 hl1 hp1
  go_loopw [52] (fun i wr=>i=.int .i64 0/\wr=W5) (fun _ _=>0)
  case atStart=>exact ⟨rfl,rfl⟩
  case round=>
   obtain ⟨rfl,hwr⟩:=hrel;rw [hwr];clear hwr;obtain ⟨bq,oq,hae,hce⟩:∃ bq oq,a1=some ⟨bq,oq,none⟩/\W5.cell? ⟨bq,oq,none⟩=some (.int .i64 (es.getD 0 et0).1.1)/\W5.cell? ⟨bq,oq+1,none⟩=some (.int .i64 (es.getD 0 et0).1.2)/\W5.cell? ⟨bq,oq+2,none⟩=some (.int .i64 (es.getD 0 et0).2):=by
    rcases HNM5.out.2 with h0 | ⟨bq,oq,e1,-,e2⟩
    ·exact absurd h0 HNE.out
    ·have h:=e2 0 (List.length_pos_iff.2 HNE.out);exact ⟨bq,oq,e1,by simpa using h⟩
   rw [HENT.out] at hce;obtain ⟨xs,hxs⟩:∃ xs,xs=(Es D c).1:=⟨_,rfl⟩
   obtain ⟨xz,hxz⟩:∃ xz,xz=(Es D c).2:=⟨_,rfl⟩
   simp only [<- hxs,<- hxz] at hce;obtain ⟨hq0,hq1,hq2⟩:=hce;obtain ⟨W6,hW6⟩:∃ w2,w2=W5.alloc (.cells #[.int .i64 xs,.int .i64 xz,.int .i64 (q.1:Int)] 65):=⟨_,rfl⟩
   obtain ⟨g12,hg12⟩:∃ g,g=W5.heap.size:=⟨_,rfl⟩
   have HW6:=hid hW6;have HG12:=hid hg12;have hb6:Below W5.heap.size W5 W6:=by rw [hW6];exact Ad W5 _
   have hx6:W6.heap[g12]?=some (.cells #[.int .i64 xs,.int .i64 xz,.int .i64 (q.1:Int)] 65 (0,0)):=by rw [hW6,hg12];exact heap_alloc_new W5 _
   have HE6:=hid (HE5.out.below hb6);have HM6:Hid (Mv (fun b=>C b≠0\/b=mb) W W6):=hid (HM5.out.trans (Mv.of_below hb6));have HIH:=hid (ih q.1 (lv+1) c q.2 W6 (r'+1) HE6.out HIS.out HOKC.out (by have:=HLV.out;omega) (by have:=HLV.out;omega) HQN.out (by have:=HRB.out;omega));have hcs:=HE6.out.bs.cell;have hy2:W6.cell? ⟨g12,2,none⟩=some (.int .i64 (q.1:Int)):=coR hx6;have hz1:W6.cell? ⟨g0,1,none⟩=some (.int .i64 lv):=coR (Ac HXP5.out hb6);have hlv8:lv<=8:=by have:=HLV.out;omega
   have hlvm:-9223372036854775808<=lv:=by have:=HLV.out;omega
   subst hae;clear hW6 hg12 hb6 hx6 hxs hxz HE5 HM5 HX5
   go_upto_region 15 with fail
   rw [<- HW6.out,<- HG12.out];clear HW6 hq0 hq1 hq2
   go_wp2_with fail
   refine HIH.out.mono ?_;clear HIH hcs hy2 hz1;rintro e W7 ⟨rfl,hd7,htc7,hm7⟩;obtain ⟨L7,hL7⟩:∃ L7,L7=lv+1+(D:Int):=⟨_,rfl⟩
   have hL0:(0:Int) < L7:=by have:=HLV.out;omega
   have HL7:=hid hL7;have H7:=hid (And.intro hd7 (And.intro htc7 (HM6.out.trans hm7)));rw [<- hL7];clear hd7 htc7 hm7 hL7
   go_wp2_with fail
   go_ret2
   refine ⟨by rw [HL7.out,show lv+1+(D:Int)=lv+((D+1:Nat):Int) by omega];rfl,?_,H7.out.2.1,H7.out.2.2⟩;have h:=H7.out.1;rw [show r'+((D+1:Nat):Int)+1=r'+1+(D:Int)+1 by omega];exact h
set_option maxRecDepth 20000 in
set_option maxHeartbeats 4000000 in
theorem WJ {C:Nat->Nat} {w:World} {tp gd pa pn n:Nat} {S:St} {root:Nat} {ep:Int} {t:TrG} {ns:List Nat} {b:Nat} (h:CwR C w tp gd pa pn n S root ep t ns b) (hb:b<=900000) :
  Calls Tryz.prog 77 #[.pointer (some ⟨tp,0,none⟩)] w fun e w'=>e=.returned (.tuple #[.int .i64 (t.deep:Nat),.int .i64 0])/\(∃ r',CwR C w' tp gd pa pn n {S with r:=r'} root ep t ns (b+40))/\Mv (fun i=>C i≠0) w w':=by
 obtain ⟨g,hg⟩:∃ g,g=w.heap.size:=⟨_,rfl⟩
 obtain ⟨w1,hw1⟩:∃ w1,w1=w.alloc (.cells #[.pointer (some ⟨tp,0,none⟩)] 27):=⟨_,rfl⟩
 have HW1:=hid hw1;have HG:=hid hg;have HS1:Hid (w1.heap.size=g+1):=hid (by rw [hw1,hg];simp);have hmm:=@run_makeMap Tryz.prog;have hb1:Below w.heap.size w w1:=by rw [hw1];exact Ad w _
 have hxt1:Boxed w1 g 27 (.pointer (some ⟨tp,0,none⟩)):=by rw [hw1,hg];exact Boxed.new w _ _
 obtain ⟨w2,hw2⟩:∃ w2,w2=((w1.alloc (.map #[] 0)).alloc (.cells #[.map (some w1.heap.size)] 205)).alloc (.cells #[.nilFunc] 206):=⟨_,rfl⟩
 have hb12:Below w1.heap.size w1 w2:=by rw [hw2];exact (((Below.refl _ _).alloc (Nat.le_refl _) _).alloc (by simp) _).alloc (by simp;omega) _
 have HM2:Hid (AskedM w2 (g+1) 1):=hid (by
  refine ⟨0,.map [],?_,by decide,fun p l key _ _=>rfl⟩;rw [hw2,<- HS1.out];exact ((World.ownsMap_made w1 Tryz.prog 184 unitElem).alloc _).alloc _)
 have HXA2:Hid (Boxed w2 (g+1+1) 205 (.map (some (g+1)))):=hid (by
  rw [hw2,<- HS1.out];have h:=heap_alloc2_old (w1.alloc (.map #[] 0)) (.cells #[.map (some w1.heap.size)] 205) (.cells #[.nilFunc] 206);simpa [Boxed] using h)
 have HXS2:Hid (Boxed w2 (g+1+1+1) 206 .nilFunc):=hid (by
  rw [hw2,<- HS1.out];have h:=heap_alloc2_new (w1.alloc (.map #[] 0)) (.cells #[.map (some w1.heap.size)] 205) (.cells #[.nilFunc] 206);simpa [Boxed] using h)
 have HXT2:Hid (Boxed w2 g 27 (.pointer (some ⟨tp,0,none⟩))):=hid (Ac hxt1 hb12);have HB2:Hid (Below w.heap.size w w2):=hid (hb1.trans (hb12.mono hb1.size));have HR2:=hid (h.below HB2.out);have HCB:Hid (∀ i,g<=i->C i=0):=hid fun i hi=>h.dv.new (by omega);have HLT:Hid (tp < g):=hid (by rw [hg];exact Aj h.tc);have HW2:=hid hw2;have HBB:=hid hb;clear hw1 hg hw2 hb1 hxt1 hb12 h hb
 go_enter Tryz.func77,Tryz.ntmps77
 go_upto_region 1 with fail
 rw [<- HW1.out,<- HG.out];clear HW1
 go_upto_region 3 with fail
 rw [<- HW2.out,HS1.out];clear HW2;have hch:=HXS2.out.cell;have hfh:=HXS2.out.frozen
 go_upto_region 4 with fail
 obtain ⟨hv,hhv⟩:∃ hv,hv=Value.func (.func 121) #[] #[.pointer (some ⟨g+1+1,0,none⟩),.pointer (some ⟨g,0,none⟩),.pointer (some ⟨g+1+1+1,0,none⟩)]:=⟨_,rfl⟩
 obtain ⟨w6,hw6⟩:∃ w6,w6=w2.setCell ⟨g+1+1+1,0,none⟩ (Value.func (.func 121) #[] #[.pointer (some ⟨g+1+1,0,none⟩),.pointer (some ⟨g,0,none⟩),.pointer (some ⟨g+1+1+1,0,none⟩)]):=⟨_,rfl⟩
 rw [<- hw6];have hg6:w2.grownBy w6 (some (g+1+1+1)):=by rw [hw6];exact grownBy_setCell' w2 _ _
 have hxh6:Boxed w6 (g+1+1+1) 206 hv:=by rw [hw6,hhv];exact HXS2.out.set _
 have hm6:Mv (fun i=>i=g+1+1+1) w2 w6:=Mv.of_grown hg6 fun j hj _=>by cases hj;rfl
 have HMW6:Hid (Mv (fun i=>C i≠0) w w6):=hid ((Mv.of_below HB2.out).trans' hm6 fun i hi h=>by have:=HG.out;omega);have HENV:Hid (EnvF C gd pn n S tp pa root ep g (g+1+1) g (g+1+1+1) (g+1) w6 1 S.r):=hid (by
  refine ⟨HR2.out.dv.keep (S:=S) hm6 (fun i hi=>HCB.out i (by omega)),HR2.out.tc.mv hm6 (fun e=>by have:=HLT.out;omega),hm6.row HXA2.out (by omega),hm6.row HXT2.out (by omega),by rw [hhv] at hxh6;exact hxh6,HM2.out.mv hm6 (by omega),⟨by omega,by omega,by omega,by omega⟩,HCB.out,HLT.out,HR2.out.ctp⟩)
 have HCRW6:Hid (CwR C w6 tp gd pa pn n {S with r:=S.r} root ep t ns b):=hid (HR2.out.step' HENV.out.dv HENV.out.tc);have hct:=HENV.out.bt.cell;have hcr:w6.cell? ⟨tp,2,none⟩=some (.int .i64 (root:Int)):=coR HENV.out.tc;clear hw6 hg6 hm6 hch hfh hxh6 HXS2 HXA2 HXT2 HM2 HB2;cases t with
 | nil=>
  have hr0:root=0:=HCRW6.out.is.1;have hr1:((root:Int) == 0)=true:=by rw [hr0];rfl
  have hr2:(root=0)=True:=eq_true hr0;clear hr0
  go_wp2_with fail
  go_ret2
  exact ⟨rfl,⟨S.r,HCRW6.out.more (by omega)⟩,HMW6.out⟩
 | mk D sh=>
  have hhead:=IsN.head HCRW6.out.is;have hpgr:=HCRW6.out.pg root hhead;have hr1:((root:Int) == 0)=false:=by rw [beq_eq_false_iff_ne];omega
  have hr2:(root=0)=False:=eq_false (by omega);have HD8:Hid (D+1<=8):=hid HCRW6.out.deep;have HSR:Hid (∀ x,EnvF C gd pn n S tp pa root ep g (g+1+1) g (g+1+1+1) (g+1) x 1 S.r->Calls Tryz.prog 121 #[.agg #[.int .i64 (root:Int),.int .i64 1],.pointer (some ⟨g+1+1,0,none⟩),.pointer (some ⟨g,0,none⟩),.pointer (some ⟨g+1+1+1,0,none⟩)] x fun e W'=>e=.returned (.tuple #[.int .i64 ((D+1:Nat):Int),.int .i64 0])/\Dv C W' gd pn n {S with r:=S.r+(D:Int)+1}/\TC W' tp gd pa root ep/\Mv (fun b=>C b≠0\/b=g+1) x W'):=hid fun x hx=>by
   have h:=XX (C:=C) HCRW6.out.on HCRW6.out.bytes (by have:=HCRW6.out.bud;have:=HBB.out;omega) D root 1 sh ns x S.r hx HCRW6.out.is HCRW6.out.good.1 (by decide) (by have:=HD8.out;omega) (fun q hq=>(HCRW6.out.pg q hq).2) (by have:=HCRW6.out.bud;have:=HBB.out;have:=HD8.out;simp at *;omega);rw [show (1:Int)+(D:Int)=((D+1:Nat):Int) by omega] at h;exact h
  have HCX:Hid (∀ x,Mv (fun i=>C i≠0\/i=g+1) w6.drew x->x.cell? ⟨g,0,none⟩=some (.pointer (some ⟨tp,0,none⟩))/\x.cell? ⟨g+1+1+1,0,none⟩=some (.func (.func 121) #[] #[.pointer (some ⟨g+1+1,0,none⟩),.pointer (some ⟨g,0,none⟩),.pointer (some ⟨g+1+1+1,0,none⟩)])/\x.cell? ⟨tp,2,none⟩=some (.int .i64 (root:Int))):=hid fun x hx=>by
   have hc:=HCB.out;have k1:=hx.row (g:=g) (o:=.cells #[.pointer (some ⟨tp,0,none⟩)] 27 (0,0)) HENV.out.bt fun h=>by
    rcases h with h | h
    ·exact h (hc g (Nat.le_refl _))
    ·omega
   have k2:=hx.row (g:=g+1+1+1) HENV.out.bs fun h=>by
    rcases h with h | h
    ·exact h (hc _ (by omega))
    ·omega
   have k3:TC x tp gd pa root ep:=TC.mv (w:=w6.drew) HENV.out.tc hx fun h=>by
    rcases h with h | h
    ·exact h HENV.out.ct
    ·have:=HLT.out;omega
   exact ⟨by rw [cell_of_row _ _ _ _ _ _ k1];rfl,by rw [cell_of_row _ _ _ _ _ _ k2];rfl,by rw [cell_of_row _ _ _ _ _ _ k3];rfl⟩
  clear hhead hpgr
  go_wp2_with fail
  clear hct hcr hr1 hr2;refine BL (fun i=>C i≠0\/i=g+1) 6 (fun x=>EnvF C gd pn n S tp pa root ep g (g+1+1) g (g+1+1+1) (g+1) x 1 S.r) (fun x=>Dv C x gd pn n {S with r:=S.r+(D:Int)+1}/\TC x tp gd pa root ep) 11 [] [] [EqN (.func (.func 121) #[] #[.pointer (some ⟨g+1+1,0,none⟩),.pointer (some ⟨g,0,none⟩),.pointer (some ⟨g+1+1+1,0,none⟩)]),EqN (.pointer (some ⟨tp,0,none⟩)),EqN (.pointer (some ⟨tp,0,none⟩)),EqN (.pointer (some ⟨tp,2,none⟩)),EqN (.int .i64 (root:Int)),EqN (.agg #[.int .i64 (root:Int),.int .i64 1]),EqN (.tuple #[.int .i64 ((D+1:Nat):Int),.int .i64 0]),EqN (.int .i64 ((D+1:Nat):Int)),EqN (.int .i64 0),EqN (.int .i64 ((D+1:Nat):Int)),EqN (.int .i64 0)] (by kernel_rfl) (by decide) (by kernel_rfl) (by kernel_rfl) (by kernel_rfl) (by decide) ((HENV.out.below ((Below.refl _ _).drew))) (fun a b hab h=>h.below hab) (fun a b hab h=>⟨h.1.below hab,h.2.mv (F:=fun _=>False) (Mv.of_below hab) id⟩) ?_ ?_ ?_
  ·repeat' (first | exact List.forall_mem_nil _ | refine List.forall_mem_cons.2 ⟨?_,?_⟩)
   all_goals
    intro w w' v hw h
    first | exact h | exact h
  ·simp only [AllLt];refine ⟨⟨⟨⟨⟨⟨⟨⟨⟨⟨⟨trivial,?_⟩,?_⟩,?_⟩,?_⟩,?_⟩,?_⟩,?_⟩,?_⟩,?_⟩,?_⟩,?_⟩
   all_goals
    intro o' ho;simp at ho;subst ho;intro ρ w5 hR hJ hL hS hG;obtain ⟨hl1,hl2,-⟩:=hL
   ·refine Aa rfl ?_;intro bA K Q' hK;have e5:=hS 5 (by kernel_rfl);change ρ (.tmp 5)=_ at e5;obtain ⟨y0,y1,y2⟩:=HCX.out w5 hR;simp only [execOp];go_simp;exact hK _ _ rfl (.inl ⟨by decide,Grew.refl _⟩) (Ap (by decide))
   ·refine Aa rfl ?_;intro bA K Q' hK;have e1:=hS 1 (by kernel_rfl);change ρ (.tmp 1)=_ at e1;obtain ⟨y0,y1,y2⟩:=HCX.out w5 hR;simp only [execOp];go_simp;exact hK _ _ rfl (.inl ⟨by decide,Grew.refl _⟩) (Ap (by decide))
   ·refine Aa rfl ?_;intro bA K Q' hK;have e14:=apG (hG 1 14);change ρ (.tmp 14)=_ at e14;simp only [execOp];go_simp;exact hK _ _ rfl (.inl ⟨by decide,Grew.refl _⟩) (Ap (by decide))
   ·refine Aa rfl ?_;intro bA K Q' hK;have e15:=apG (hG 2 15);change ρ (.tmp 15)=_ at e15;simp only [execOp];go_simp;exact hK _ _ rfl (.inl ⟨by decide,Grew.refl _⟩) (Ap (by decide))
   ·refine Aa rfl ?_;intro bA K Q' hK;have e16:=apG (hG 3 16);change ρ (.tmp 16)=_ at e16;obtain ⟨y0,y1,y2⟩:=HCX.out w5 hR;simp only [execOp];go_simp;exact hK _ _ rfl (.inl ⟨by decide,Grew.refl _⟩) (Ap (by decide))
   ·refine Aa rfl ?_;intro bA K Q' hK;have e17:=apG (hG 4 17);change ρ (.tmp 17)=_ at e17;simp only [execOp];go_simp;exact hK _ _ rfl (.inl ⟨by decide,Grew.refl _⟩) (Ap (by decide))
   ·refine Aa rfl ?_;intro bA K Q' hK;have e13:=apG (hG 0 13);have e18:=apG (hG 5 18);change ρ (.tmp 13)=_ at e13;change ρ (.tmp 18)=_ at e18;simp only [execOp];go_simp;refine (HSR.out w5 (hJ rfl)).mono ?_;rintro r9 w9 ⟨rfl,hd9,htc9,hm9⟩;refine hK _ _ rfl (.inr ⟨hm9,⟨fun _=>⟨hd9,htc9⟩,fun h=>absurd rfl h⟩,?_⟩) (Ap (by decide))
    ·simp only [AllLt];refine ⟨⟨⟨⟨⟨⟨⟨⟨⟨⟨⟨trivial,?_⟩,?_⟩,?_⟩,?_⟩,?_⟩,?_⟩,?_⟩,?_⟩,?_⟩,?_⟩,?_⟩
     iterate 6
      ·first | exact fun _ x hx=>hx | exact Am (by kernel_rfl)
     ·exact Am (by kernel_rfl)
     iterate 4
      ·first | exact fun _ x hx=>hx | exact Am (by kernel_rfl)
   iterate 2
    ·refine Aa rfl ?_;intro bA K Q' hK;have e19:=apG (hG 6 19);change ρ (.tmp 19)=_ at e19;simp only [execOp];go_simp;exact hK _ _ rfl (.inl ⟨by decide,Grew.refl _⟩) (Ap (by decide))
   ·refine Aa rfl ?_;intro bA K Q' hK;have e20:=apG (hG 7 20);change ρ (.tmp 20)=_ at e20;simp only [execOp];go_simp;exact hK _ _ rfl (.inl ⟨by decide,Grew.refl _⟩) (Ap (by decide))
   ·refine Aa rfl ?_;intro bA K Q' hK;have e21:=apG (hG 8 21);change ρ (.tmp 21)=_ at e21;simp only [execOp];go_simp;exact hK _ _ rfl (.inl ⟨by decide,Grew.refl _⟩) (Ap (by decide))
  ·intro vv w8 hR hJ8 hG hP;have hv9:vv 9=.int .i64 ((D+1:Nat):Int):=hG.1.2 (by decide);have hv10:vv 10=.int .i64 0:=hG.2 (by decide);have H8:=hid hJ8;have HM8:Hid (Mv (fun i=>C i≠0) w w8):=hid (by
    have h1:Mv (fun i=>C i≠0) w w6.drew:=HMW6.out.drew;refine h1.trans' hR fun i hi h=>?_;rcases h with h | h
    ·exact h
    ·have:=HG.out;omega)
   simp [stG,stU,Au,Act.put,hv9,hv10];clear hv9 hv10 hG hP hR hJ8
   go_wp2_with fail
   go_ret2
   refine ⟨rfl,⟨S.r+(D:Int)+1,HCRW6.out.at H8.out.1 H8.out.2 ?_ ?_ (by omega)⟩,HM8.out⟩
   ·have:=HCRW6.out.bud;have h:(0:Int)<=S.r:=this.2.1;omega
   ·have:=HCRW6.out.bud;have h:S.r<=b:=this.2.2.1;have:=HD8.out;omega
set_option maxRecDepth 20000 in
theorem Rj {C:Nat->Nat} {w:World} {tp gd pa pn n:Nat} {S:St} {root:Nat} {ep:Int} {t:TrG} {ns:List Nat} {b:Nat} (h:CwR C w tp gd pa pn n S root ep t ns b) (hb:b<=900000) :
  Calls Tryz.prog 31 #[.pointer (some ⟨tp,0,none⟩)] w fun e w'=>e=.returned (.tuple #[.int .i64 (t.deep:Nat),.int .i64 0])/\(∃ r',CwR C w' tp gd pa pn n {S with r:=r'} root ep t ns (b+40))/\Mv (fun i=>C i≠0) w w':=by
 have HIS:=hid (Eu h.tc);have hc0:w.cell? ⟨tp,0,none⟩=some (.pointer (some ⟨gd,0,none⟩)):=coR h.tc;have HDO:=hid (Y9 h.dv);rw [h.on] at HDO;have HF:=hid (WJ h hb);clear h hb
 go_enter Tryz.func31,Tryz.ntmps31
 go_wp2_with fail
 refine HIS.out.mono ?_;rintro e w2 ⟨rfl,rfl⟩
 go_wp2_with fail
 refine HDO.out.mono ?_;rintro e w3 ⟨rfl,rfl⟩
 go_wp2_with fail
 refine HF.out.mono ?_;clear HF hc0;rintro e w4 ⟨rfl,h4⟩;have H4:=hid h4;clear h4
 go_wp2_with fail
 go_ret2
 exact ⟨rfl,H4.out⟩
end Go.Proofs.YtfhdojnobmfefaaGreatDoor
namespace Go.Inc
open Go Go.RowKit
def stZ (zs:List Int) (z:Int):Int:=if z < 0 then zs.getD (-z - 1).toNat 0 else z
end Go.Inc
namespace Go.Proofs.YtfhdojnobmfefaaGreatDoor
open Go Go.RowKit Go.Inc
theorem Lr (z:Int) (h1:-4611686018427387904<=z) (h2:z<=4611686018427387904):bits .xor .i64 (-1) z=-1 - z:=by
 show IntKind.i64.wrap ((BitVec.ofInt 64 (-1) ^^^ BitVec.ofInt 64 z).toNat:Int)=_;have h:BitVec.ofInt 64 (-1) ^^^ BitVec.ofInt 64 z = ~~~ BitVec.ofInt 64 z:=by
  rw [show BitVec.ofInt 64 (-1)=BitVec.allOnes 64 by decide];exact BitVec.allOnes_xor
 have e:((BitVec.ofInt 64 z).toNat:Int)=z % 18446744073709551616:=by
  rw [BitVec.toNat_ofInt];omega
 have hlt:(BitVec.ofInt 64 z).toNat < 18446744073709551616:=(BitVec.ofInt 64 z).isLt;rw [h,BitVec.toNat_not,IntKind.wrap_i64];have e2:2 ^ 64 - 1 - (BitVec.ofInt 64 z).toNat=18446744073709551615 - (BitVec.ofInt 64 z).toNat:=by omega
 rw [e2];omega
theorem KQ (ok:Nat->Prop) (a:Option Addr) (c:Nat) (zs:List Int) (z:Int) (w:World) (hs:Si ok w a zs) (hz:z < 0->(-z - 1).toNat < zs.length) (_:zs.length<=1000) (hzl:-2000<=z) :
  Calls Tryz.prog 146 #[.int .i64 z,.slice a zs.length c] w fun e w'=>e=.returned (.int .i64 (stZ zs z))/\w=w':=by
 by_cases h0:z < 0
 ·obtain ⟨k,hk⟩:∃ k:Nat,k=(-z - 1).toNat:=⟨_,rfl⟩
  have hkl:=hz h0;rw [<- hk] at hkl;obtain ⟨b,o,rfl,-,hc⟩:∃ b o,a=some ⟨b,o,none⟩/\ok b/\w.cell? ⟨b,o+k,none⟩=some (.int .i64 (zs.getD k 0)):=by
   rcases hs with h | ⟨b,o,h1,h2,h3⟩
   ·rw [h] at hkl;cases hkl
   ·exact ⟨b,o,h1,h2,h3 k hkl⟩
  have HST:Hid (stZ zs z=zs.getD k 0):=hid (by unfold stZ;rw [if_pos h0,<- hk]);obtain ⟨L,hL⟩:∃ L,L=zs.length:=⟨_,rfl⟩
  rw [<- hL] at hkl ⊢;have hk2:-1 - z=(k:Int):=by omega
  have hk3:bits .xor .i64 (-1) z=(k:Int):=by rw [Lr z (by omega) (by omega)];exact hk2
  have hkL:(k:Int) < (L:Int):=by omega
  have hkM:(k:Int)<=9223372036854775807:=by omega
  clear hs hz hk hL
  go_enter Tryz.func146,Tryz.ntmps146
  go_wp2_with fail
  go_ret
  exact ⟨by rw [HST.out,List.getD_eq_getElem?_getD];rfl,rfl⟩
 ·have HST:Hid (stZ zs z=z):=hid (by unfold stZ;rw [if_neg h0]);clear hs hz
  go_enter Tryz.func146,Tryz.ntmps146
  go_wp2_with fail
  go_ret
  exact ⟨by rw [HST.out];rfl,rfl⟩
end Go.Proofs.YtfhdojnobmfefaaGreatDoor
namespace Go.Inc
open Go Go.RowKit
def Dj (x y:Nm):Prop:=∀ b o b' o',x.a=some ⟨b,o,none⟩->y.a=some ⟨b',o',none⟩->b≠b'\/o+3 * x.es.length<=o'
theorem NmOk.part {N B:Nat} {w:World} {m:Nm} (h:NmOk N B w m) (k:Nat) (hk:k<=m.es.length):NmOk N B w ⟨m.lf,m.a,m.c,m.es.take k⟩:=by
 obtain ⟨⟨h1,h2,h3,h4,h5,h6⟩,h7⟩:=h;exact ⟨⟨rfl,EtS.front h2 k,by simp only [List.length_take];omega,fun e he=>h4 e (List.mem_of_mem_take he),by simp only [List.length_take];omega,h6⟩,EtT.front h7 k⟩
theorem NmOk.rest {N B:Nat} {w:World} {m:Nm} (h:NmOk N B w m) (k:Nat) (hk:k<=m.es.length) (b o:Nat) (ha:m.a=some ⟨b,o,none⟩):NmOk N B w ⟨m.lf,some ⟨b,o+k * 3,none⟩,m.c - k,m.es.drop k⟩:=by
 obtain ⟨⟨h1,h2,h3,h4,h5,h6⟩,h7⟩:=h;have e:(some ⟨b,o+k * 3,none⟩:Option Addr)=m.a.map fun x=>x.add (k * 3):=by rw [ha];show _=some (Addr.add _ _);rw [Addr.add_lit]
 exact ⟨⟨rfl,EtS.back h2 k _ fun _=>e,by simp only [List.length_drop];omega,fun x he=>h4 x (List.mem_of_mem_drop he),by simp only [List.length_drop];omega,fun h=>by cases h⟩,EtT.back h7 k _ fun _=>e⟩
end Go.Inc
namespace Go.Proofs.YtfhdojnobmfefaaGreatDoor
open Go Go.RowKit Go.Inc
set_option maxRecDepth 20000 in
set_option maxHeartbeats 4000000 in
theorem Zl (m:Nm) (B:Nat) (w:World) (hm:NmOk 65 B w m) (hlf:m.lf=false) :
  Calls Tryz.prog 108 #[.slice m.a m.es.length m.c] w fun e w'=>(∃ (v:Value) (ms:List Nm),e=.returned v/\w'.ownsRow w.heap.size 114 2 v ms.length (cl Bd ms)/\(∀ x∈ms,x.lf=false/\NmOk 65 B w' x)/\ms.map Nm.es=Cf m.es/\ms.Pairwise Dj)/\Below w.heap.size w w':=by
 obtain ⟨lf,a,c,es⟩:=m;obtain rfl:lf=false:=hlf;have HM:=hid hm;obtain ⟨n,hn⟩:∃ n,n=es.length:=⟨_,rfl⟩
 have HN:=hid hn;have hnl:(n:Int)<=1000:=by have:=hm.1.2.2.1;simp only at this;omega
 have hnc:(n:Int)<=(c:Int):=by have:=hm.1.2.2.2.2.1.1;simp only at this;omega
 have hcm:(c:Int)<=9223372036854775807:=by have:=hm.1.2.2.2.2.1.2;unfold maxLen at this;simp only at this;omega
 show Calls Tryz.prog 108 #[.slice a es.length c] w _;rw [<- hn];clear hm;by_cases h0:n=0
 ·have h0d:((n:Int) == 0)=true:=by rw [h0];rfl
  have HE:Hid (Cf es=[]):=hid (by unfold Cf;rw [if_pos (by omega)]);clear hn
  go_enter Tryz.func108,Tryz.ntmps108
  go_wp2_with fail
  go_ret
  refine ⟨⟨_,[],rfl,⟨rfl,.inl ⟨rfl,rfl⟩⟩,?_,?_,List.Pairwise.nil⟩,Below.refl _ _⟩
  ·intro x hx;cases hx
  ·rw [HE.out];rfl
 ·have h0d:((n:Int) == 0)=false:=by simpa using h0
  by_cases h16:n<=16
  ·have h16d:(n:Int)<=16:=by omega
   have HE:Hid (Cf es=[es]):=hid (by unfold Cf;rw [if_neg (by omega),if_pos (by omega)]);clear hn
   go_enter Tryz.func108,Tryz.ntmps108
   go_wp2_with fail
   go_ret
   have HB:Below w.heap.size w (w.alloc (.cells #[.bool false,.slice a n c] 114)):=(Below.refl _ _).alloc (Nat.le_refl _) _;refine ⟨⟨_,[⟨false,a,c,es⟩],rfl,⟨rfl,.inr ⟨w.heap.size,1,#[.bool false,.slice a n c],rfl,Nat.le_refl _,heap_alloc_new w _,Nat.le_refl _,by unfold maxLen;decide,rfl,?_⟩⟩,?_,?_,List.pairwise_singleton _ _⟩,HB⟩
   ·rw [HN.out];rfl
   ·intro x hx;rw [List.mem_singleton] at hx;rw [hx];exact ⟨rfl,HM.out.below HB⟩
   ·rw [HE.out];rfl
  ·have h16d:16 < (n:Int):=by omega
   obtain ⟨k,hk⟩:∃ k:Nat,k=n / 2:=⟨_,rfl⟩
   have hk1:(n:Int) / 2=(k:Int):=by omega
   have hk2:Int.tdiv n 2=(k:Int):=by rw [Int.tdiv_eq_ediv_of_nonneg (by omega)];exact hk1
   have hk3:(k:Int)<=(n:Int):=by omega
   have HE:Hid (Cf es=[es.take k,es.drop k]):=hid (by unfold Cf;rw [if_neg (by omega),if_neg (by omega),<- hn,<- hk]);obtain ⟨b,o,rfl⟩:∃ b o,a=some ⟨b,o,none⟩:=by
    rcases HM.out.2 with h | ⟨b,o,h,-⟩
    ·have h:es=[]:=h;rw [h] at hn;exact absurd hn h0
    ·exact ⟨b,o,h⟩
   have hk4:k<=es.length:=by omega
   have HK:=hid hk4;clear hn hk hk4
   go_enter Tryz.func108,Tryz.ntmps108
   go_wp2_with fail
   go_region
   go_wp2_with fail
   go_ret
   have HB:Below w.heap.size w (w.alloc (.cells #[.bool false,.slice (some ⟨b,o,none⟩) k c,.bool false,.slice (some ⟨b,o+k * 3,none⟩) (n - k) (c - k)] 114)).drew:=((Below.refl _ _).alloc (Nat.le_refl _) _).drew;refine ⟨⟨_,[⟨false,some ⟨b,o,none⟩,c,es.take k⟩,⟨false,some ⟨b,o+k * 3,none⟩,c - k,es.drop k⟩],rfl,⟨rfl,.inr ⟨w.heap.size,2,#[.bool false,.slice (some ⟨b,o,none⟩) k c,.bool false,.slice (some ⟨b,o+k * 3,none⟩) (n - k) (c - k)],rfl,Nat.le_refl _,heap_alloc_new w _,Nat.le_refl _,by unfold maxLen;decide,rfl,?_⟩⟩,?_,?_,?_⟩,HB⟩
   ·have hkn:k<=n:=by omega
    simp only [cl,Bd,List.length_take,List.length_drop,<- HN.out,Nat.min_eq_left hkn];rfl
   ·intro x hx;simp only [List.mem_cons,List.not_mem_nil,or_false] at hx;rcases hx with rfl | rfl
    ·exact ⟨rfl,(HM.out.part k HK.out).below HB⟩
    ·exact ⟨rfl,(HM.out.rest k HK.out b o rfl).below HB⟩
   ·rw [HE.out];rfl
   ·refine List.pairwise_cons.2 ⟨fun y hy b1 o1 b2 o2 e1 e2=>?_,List.pairwise_singleton _ _⟩;rw [List.mem_singleton] at hy;subst hy;cases e1;cases e2;refine .inr ?_;simp only [List.length_take];omega
set_option maxRecDepth 20000 in
set_option maxHeartbeats 4000000 in
theorem WZ {ok ok' ok2:Nat->Prop} (a b p:Option Addr) (n m q c d r g:Nat) (es fs gs:List Et) (w:World) (T:TypeId) (hg:w.heap[g]?=some (.cells #[.slice a n c,.slice b m d,.slice p q r] T (0,0))) (ha:EtS ok w a es) (hb:EtS ok' w b fs) (hp:EtS ok2 w p gs) (hn:n=es.length) (hm:m=fs.length) (hq:q=gs.length) (hl:n<=1000/\m<=1000/\q<=1000) :
  Calls Tryz.prog 93 #[.slice (some ⟨g,0,none⟩) 3 3] w fun e w'=>(∃ v,e=.returned v/\w'.ownsRow w.heap.size 65 3 v (n+m+q) (Ak (es++fs++gs)))/\Below w.heap.size w w':=by
 have HA:=hid ha;have HB:=hid hb;have HP:=hid hp;have HNM:=hid (And.intro hn (And.intro hm hq));have HROW:=hid hg;have HC:Hid (∀ y,Below w.heap.size w y->y.cell? ⟨g,0,none⟩=some (.slice a n c)/\y.cell? ⟨g,1,none⟩=some (.slice b m d)/\y.cell? ⟨g,2,none⟩=some (.slice p q r)):=hid fun y hy=>by
  have h:=Ac HROW.out hy;exact ⟨by rw [cell_of_row _ _ _ _ _ _ h];rfl,by rw [cell_of_row _ _ _ _ _ _ h];rfl,by rw [cell_of_row _ _ _ _ _ _ h];rfl⟩
 have hl1:(n:Int)<=1000:=by omega
 have hl2:(m:Int)<=1000:=by omega
 have hl3:(q:Int)<=1000:=by omega
 have HGR:=hid (OM (n+m+q) w (by omega));clear ha hb hp hn hm hq hg hl HROW;obtain ⟨hc0,hc1,hc2⟩:=HC.out w (Below.refl _ _)
 go_enter Tryz.func93,Tryz.ntmps93
 go_wp2_with fail
 go_loop [3,11] (fun z i=>∃ k s:Nat,i=.int .i64 (k:Int)/\z=.int .i64 (s:Int)/\(k=0/\s=0\/k=1/\s=n\/k=2/\s=n+m\/k=3/\s=n+m+q)) (fun _ i=>3 - (intOf i).toNat)
 case atStart=>exact ⟨0,0,rfl,rfl,.inl ⟨rfl,rfl⟩⟩
 case round=>
  obtain ⟨k,s,rfl,rfl,⟨rfl,rfl⟩ | ⟨rfl,rfl⟩ | ⟨rfl,rfl⟩ | ⟨rfl,rfl⟩⟩:=hrel
  ·go_wp2_with fail
   go_round
   case rel=>exact ⟨1,n,by go_num,by go_num,.inr (.inl ⟨rfl,rfl⟩)⟩
   case measure=>simp [intOf]
  ·go_wp2_with fail
   go_round
   case rel=>exact ⟨2,s+m,by go_num,by go_num,.inr (.inr (.inl ⟨rfl,rfl⟩))⟩
   case measure=>simp [intOf]
  ·go_wp2_with fail
   go_round
   case rel=>exact ⟨3,n+m+q,by go_num,by go_num,.inr (.inr (.inr ⟨rfl,rfl⟩))⟩
   case measure=>simp [intOf]
  ·go_wp2_with fail
   refine HGR.out.mono ?_;clear HGR hc0 hc1 hc2;rintro e w1 ⟨⟨v,rfl,hv⟩,hb1⟩;have HV:=hid hv;have HB1:=hid hb1;clear hv hb1
   go_wp2_with fail
   go_loopw [6,27] (fun v i wr=>∃ (k s:Nat) (ls:List Et),i=.int .i64 (k:Int)/\(k=0/\s=0/\ls=[]\/k=1/\s=n/\ls=es\/k=2/\s=n+m/\ls=es++fs\/k=3/\s=n+m+q/\ls=es++fs++gs)/\wr.ownsRow w.heap.size 65 3 v s (Ak ls)/\Below w.heap.size w wr) (fun _ i _=>3 - (intOf i).toNat)
   case atStart=>exact ⟨0,0,[],rfl,.inl ⟨rfl,rfl,rfl⟩,HV.out,HB1.out⟩
   case round=>
    clear HV HB1;obtain ⟨k,s,ls,rfl,h3,hv,hb2⟩:=hrel;have HV:=hid hv;have HB2:=hid hb2;obtain ⟨hc0,hc1,hc2⟩:=HC.out wr hb2;clear hv hb2;rcases h3 with ⟨rfl,rfl,rfl⟩ | ⟨rfl,rfl,rfl⟩ | ⟨rfl,rfl,rfl⟩ | ⟨rfl,rfl,rfl⟩
    ·go_wp2_with (refine Bf rfl (.tmp 31) (.tmp 32) 48 rfl w.heap.size 65 Tryz.underlying48 EZ _ _ _ rfl HV.out _ _ _ _ es rfl HNM.out.1 (HA.out.below HB2.out) (by omega) (by omega) HB2.out.size ?_)
     intro v2 w2 hv2 hg2;have HB3:=hid (A8 HB2.out HV.out (Nat.le_refl _) hg2);have HV2:=hid hv2;clear hv2 hg2 HV hc0 hc1 hc2
     go_wp2_with fail
     go_roundw
     case rel=>exact ⟨1,n,es,by go_num,.inr (.inl ⟨rfl,rfl,rfl⟩),HV2.out,HB3.out⟩
     case measure=>simp [intOf]
    ·go_wp2_with (refine Bf rfl (.tmp 31) (.tmp 32) 48 rfl w.heap.size 65 Tryz.underlying48 EZ _ _ _ rfl HV.out _ _ _ _ fs rfl HNM.out.2.1 (HB.out.below HB2.out) (by omega) (by omega) HB2.out.size ?_)
     intro v2 w2 hv2 hg2;have HB3:=hid (A8 HB2.out HV.out (Nat.le_refl _) hg2);have HV2:=hid hv2;clear hv2 hg2 HV hc0 hc1 hc2
     go_wp2_with fail
     go_roundw
     case rel=>exact ⟨2,_,_,by go_num,.inr (.inr (.inl ⟨rfl,rfl,rfl⟩)),HV2.out,HB3.out⟩
     case measure=>simp [intOf]
    ·go_wp2_with (refine Bf rfl (.tmp 31) (.tmp 32) 48 rfl w.heap.size 65 Tryz.underlying48 EZ _ _ _ rfl HV.out _ _ _ _ gs rfl HNM.out.2.2 (HP.out.below HB2.out) (by omega) (by omega) HB2.out.size ?_)
     intro v2 w2 hv2 hg2;have HB3:=hid (A8 HB2.out HV.out (Nat.le_refl _) hg2);have HV2:=hid hv2;clear hv2 hg2 HV hc0 hc1 hc2
     go_wp2_with fail
     go_roundw
     case rel=>exact ⟨3,_,es++(fs++gs),by go_num,.inr (.inr (.inr ⟨rfl,rfl,(List.append_assoc _ _ _).symm⟩)),HV2.out,HB3.out⟩
     case measure=>simp [intOf]
    ·clear hc0 hc1 hc2
     go_wp2_with fail
     go_ret
     exact ⟨⟨_,rfl,HV.out⟩,HB2.out⟩
end Go.Proofs.YtfhdojnobmfefaaGreatDoor
