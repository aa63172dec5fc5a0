/- MADE SMALL. -/
import Derived.DeepKeys3
import Derived.Maps.OwnSet
import Derived.WideLaws
import Derived.Laws.EntriesVeiled
import Derived.Test.YtfhdojnobmfefaaGreatDoorK42
import Derived.BigRegion
import Derived.StillTailTactics
import Derived.Test.YtfhdojnobmfefaaGreatDoorK39
import Derived.Test.YtfhdojnobmfefaaGreatDoorK24
namespace Go.Proofs.YtfhdojnobmfefaaGreatDoor
open Go Go.RowKit Go.Inc Go.Maps
def AskedM (W:World) (b:Nat) (lv:Int):Prop:=∃ (n:Nat) (D:DataW Value),W.ownsMap Tryz.prog 184 unitElem b n D/\(n:Int) < lv/\∀ p l key,lv<=l->keyOf Tryz.prog 184 (.agg #[.int .i64 p,.int .i64 l])=some key->Maps.has D key=false
structure EnvF (C:Nat->Nat) (gd pn n:Nat) (S:St) (tp pa:Nat) (rt ep:Int) (B ga gt gs mb:Nat) (W:World) (lv:Int) (r':Int):Prop where
 dv:Dv C W gd pn n {S with r:=r'}
 tc:TC W tp gd pa rt ep
 ba:Boxed W ga 205 (.map (some mb))
 bt:Boxed W gt 27 (.pointer (some ⟨tp,0,none⟩))
 bs:Boxed W gs 206 (.func (.func 121) #[] #[.pointer (some ⟨ga,0,none⟩),.pointer (some ⟨gt,0,none⟩),.pointer (some ⟨gs,0,none⟩)])
 mp:AskedM W mb lv
 ge:B<=ga/\B<=gt/\B<=gs/\B<=mb
 cb:∀ b,B<=b->C b=0
 lt:tp < B
 ct:C tp=0
theorem AskedM.lt {W:World} {b:Nat} {lv:Int} (h:AskedM W b lv):b < W.heap.size:=let ⟨_,_,h,_⟩:=h;h.lt
theorem AskedM.mv {F:Nat->Prop} {W W':World} {b:Nat} {lv:Int} (h:AskedM W b lv) (hm:Mv F W W') (hb:¬ F b):AskedM W' b lv:=by
 obtain ⟨n,D,h1,h2⟩:=h;exact ⟨n,D,Oe h1 (hm.block b h1.lt hb),h2⟩
theorem EnvF.mv {C:Nat->Nat} {gd pn n:Nat} {S:St} {tp pa:Nat} {rt ep:Int} {B ga gt gs mb:Nat} {W W':World} {lv:Int} {r' r2:Int} {F:Nat->Prop} (h:EnvF C gd pn n S tp pa rt ep B ga gt gs mb W lv r') (hd:Dv C W' gd pn n {S with r:=r2}) (hm:Mv F W W') (hF:∀ b,F b->b < W.heap.size->b < B) (ht:¬ F tp):EnvF C gd pn n S tp pa rt ep B ga gt gs mb W' lv r2:=
 ⟨hd,h.tc.mv hm ht,hm.row h.ba (fun hf=>by have:=hF _ hf (Ak h.ba);have:=h.ge.1;omega),hm.row h.bt (fun hf=>by have:=hF _ hf (Ak h.bt);have:=h.ge.2.1;omega),hm.row h.bs (fun hf=>by have:=hF _ hf (Ak h.bs);have:=h.ge.2.2.1;omega),h.mp.mv hm (fun hf=>by have:=hF _ hf h.mp.lt;have:=h.ge.2.2.2;omega),h.ge,h.cb,h.lt,h.ct⟩
theorem EnvF.below {C:Nat->Nat} {gd pn n:Nat} {S:St} {tp pa:Nat} {rt ep:Int} {B ga gt gs mb:Nat} {W W':World} {lv:Int} {r':Int} (h:EnvF C gd pn n S tp pa rt ep B ga gt gs mb W lv r') (hb:Below W.heap.size W W'):EnvF C gd pn n S tp pa rt ep B ga gt gs mb W' lv r':=
 h.mv (F:=fun _=>False) (h.dv.below hb) (Mv.of_below hb) (fun _ hf _=>hf.elim) id
theorem EnvF.read {C:Nat->Nat} {gd pn n:Nat} {S:St} {tp pa:Nat} {rt ep:Int} {B ga gt gs mb:Nat} {W W':World} {lv:Int} {r' r2:Int} (h:EnvF C gd pn n S tp pa rt ep B ga gt gs mb W lv r') (hd:Dv C W' gd pn n {S with r:=r2}) (hm:Mv (fun b=>C b≠0) W W'):EnvF C gd pn n S tp pa rt ep B ga gt gs mb W' lv r2:=
 h.mv hd hm (fun b hf _=>Nat.lt_of_not_le fun hh=>hf (h.cb b hh)) fun hh=>hh h.ct
theorem EnvF.put {C:Nat->Nat} {gd pn n:Nat} {S:St} {tp pa:Nat} {rt ep:Int} {B ga gt gs mb:Nat} {W W':World} {lv lv2:Int} {r':Int} (h:EnvF C gd pn n S tp pa rt ep B ga gt gs mb W lv r') (hg:W.grownBy W' (some mb)) (hm:AskedM W' mb lv2):EnvF C gd pn n S tp pa rt ep B ga gt gs mb W' lv2 r':=by
 have hmv:Mv (fun b=>b=mb) W W':=Mv.of_grown hg fun j hj _=>by cases hj;rfl
 have hne:∀ (i:Nat) (cs:Array Value) (T:TypeId),W.heap[i]?=some (.cells cs T (0,0))->¬ i=mb:=fun i cs T hi e=>by
  subst e;obtain ⟨_,_,⟨_,_,hb,_⟩,_⟩:=h.mp;rw [hb] at hi;cases hi
 exact ⟨h.dv.keep hmv fun i hi=>by rw [hi];exact h.cb mb h.ge.2.2.2,h.tc.mv hmv fun e=>by have:=h.lt;have:=h.ge.2.2.2;omega,hmv.row h.ba (hne _ _ _ h.ba),hmv.row h.bt (hne _ _ _ h.bt),hmv.row h.bs (hne _ _ _ h.bs),hm,h.ge,h.cb,h.lt,h.ct⟩
end Go.Proofs.YtfhdojnobmfefaaGreatDoor
namespace Go.Inc
open Go Go.RowKit
def stZ (zs:List Int) (z:Int):Int:=if z < 0 then zs.getD (-z - 1).toNat 0 else z
end Go.Inc
namespace Go.Proofs.YtfhdojnobmfefaaGreatDoor
open Go Go.RowKit Go.Inc
theorem KZ (z:Int) (h1:-4611686018427387904<=z) (h2:z<=4611686018427387904):bits .xor .i64 (-1) z=-1 - z:=by
 show IntKind.i64.wrap ((BitVec.ofInt 64 (-1) ^^^ BitVec.ofInt 64 z).toNat:Int)=_;have h:BitVec.ofInt 64 (-1) ^^^ BitVec.ofInt 64 z= ~~~ BitVec.ofInt 64 z:=by
  rw [show BitVec.ofInt 64 (-1)=BitVec.allOnes 64 by decide];exact BitVec.allOnes_xor
 have e:((BitVec.ofInt 64 z).toNat:Int)=z % 18446744073709551616:=by
  rw [BitVec.toNat_ofInt];omega
 have hlt:(BitVec.ofInt 64 z).toNat < 18446744073709551616:=(BitVec.ofInt 64 z).isLt;rw [h,BitVec.toNat_not,IntKind.wrap_i64];have e2:2 ^ 64 - 1 - (BitVec.ofInt 64 z).toNat=18446744073709551615 - (BitVec.ofInt 64 z).toNat:=by omega
 rw [e2];omega
theorem KH (ok:Nat->Prop) (a:Option Addr) (c:Nat) (zs:List Int) (z:Int) (w:World) (hs:Si ok w a zs) (hz:z < 0->(-z - 1).toNat < zs.length) (_:zs.length<=1000) (hzl:-2000<=z) :
  Calls Tryz.prog 146 #[.int .i64 z,.slice a zs.length c] w fun e w'=>e=.returned (.int .i64 (stZ zs z))/\w=w':=by
 by_cases h0:z < 0
 ·obtain ⟨k,hk⟩:∃ k:Nat,k=(-z - 1).toNat:=⟨_,rfl⟩
  have hkl:=hz h0;rw [<- hk] at hkl;obtain ⟨b,o,rfl,-,hc⟩:∃ b o,a=some ⟨b,o,none⟩/\ok b/\w.cell? ⟨b,o+k,none⟩=some (.int .i64 (zs.getD k 0)):=by
   rcases hs with h | ⟨b,o,h1,h2,h3⟩
   ·rw [h] at hkl;cases hkl
   ·exact ⟨b,o,h1,h2,h3 k hkl⟩
  have HST:Hid (stZ zs z=zs.getD k 0):=hid (by unfold stZ;rw [if_pos h0,<- hk]);obtain ⟨L,hL⟩:∃ L,L=zs.length:=⟨_,rfl⟩
  rw [<- hL] at hkl ⊢;have hk2:-1 - z=(k:Int):=by omega
  have hk3:bits .xor .i64 (-1) z=(k:Int):=by rw [KZ z (by omega) (by omega)];exact hk2
  have hkL:(k:Int) < (L:Int):=by omega
  have hkM:(k:Int)<=9223372036854775807:=by omega
  clear hs hz hk hL
  go_enter Tryz.func146,Tryz.ntmps146
  go_wp2_with fail
  go_ret
  exact ⟨by rw [HST.out,List.getD_eq_getElem?_getD];rfl,rfl⟩
 ·have HST:Hid (stZ zs z=z):=hid (by unfold stZ;rw [if_neg h0]);clear hs hz
  go_enter Tryz.func146,Tryz.ntmps146
  go_wp2_with fail
  go_ret
  exact ⟨by rw [HST.out];rfl,rfl⟩
end Go.Proofs.YtfhdojnobmfefaaGreatDoor
namespace Go.Inc
open Go Go.RowKit
def Dj (x y:Nm):Prop:=∀ b o b' o',x.a=some ⟨b,o,none⟩->y.a=some ⟨b',o',none⟩->b≠b'\/o+3 * x.es.length<=o'
theorem NmOk.part {N B:Nat} {w:World} {m:Nm} (h:NmOk N B w m) (k:Nat) (hk:k<=m.es.length):NmOk N B w ⟨m.lf,m.a,m.c,m.es.take k⟩:=by
 obtain ⟨⟨h1,h2,h3,h4,h5,h6⟩,h7⟩:=h;exact ⟨⟨rfl,EtS.front h2 k,by simp only [List.length_take];omega,fun e he=>h4 e (List.mem_of_mem_take he),by simp only [List.length_take];omega,h6⟩,EtT.front h7 k⟩
theorem NmOk.rest {N B:Nat} {w:World} {m:Nm} (h:NmOk N B w m) (k:Nat) (hk:k<=m.es.length) (b o:Nat) (ha:m.a=some ⟨b,o,none⟩):NmOk N B w ⟨m.lf,some ⟨b,o+k * 3,none⟩,m.c - k,m.es.drop k⟩:=by
 obtain ⟨⟨h1,h2,h3,h4,h5,h6⟩,h7⟩:=h;have e:(some ⟨b,o+k * 3,none⟩:Option Addr)=m.a.map fun x=>x.add (k * 3):=by rw [ha];show _=some (Addr.add _ _);rw [Addr.add_lit]
 exact ⟨⟨rfl,EtS.back h2 k _ fun _=>e,by simp only [List.length_drop];omega,fun x he=>h4 x (List.mem_of_mem_drop he),by simp only [List.length_drop];omega,fun h=>by cases h⟩,EtT.back h7 k _ fun _=>e⟩
end Go.Inc
namespace Go.Proofs.YtfhdojnobmfefaaGreatDoor
open Go Go.RowKit Go.Inc
set_option maxRecDepth 20000 in
set_option maxHeartbeats 4000000 in
theorem Y3 (m:Nm) (B:Nat) (w:World) (hm:NmOk 65 B w m) (hlf:m.lf=false) :
  Calls Tryz.prog 108 #[.slice m.a m.es.length m.c] w fun e w'=>(∃ (v:Value) (ms:List Nm),e=.returned v/\w'.ownsRow w.heap.size 114 2 v ms.length (cl Be ms)/\(∀ x∈ms,x.lf=false/\NmOk 65 B w' x)/\ms.map Nm.es=Ci m.es/\ms.Pairwise Dj)/\Below w.heap.size w w':=by
 obtain ⟨lf,a,c,es⟩:=m;obtain rfl:lf=false:=hlf;have HM:=hid hm;obtain ⟨n,hn⟩:∃ n,n=es.length:=⟨_,rfl⟩
 have HN:=hid hn;have hnl:(n:Int)<=1000:=by have:=hm.1.2.2.1;simp only at this;omega
 have hnc:(n:Int)<=(c:Int):=by have:=hm.1.2.2.2.2.1.1;simp only at this;omega
 have hcm:(c:Int)<=9223372036854775807:=by have:=hm.1.2.2.2.2.1.2;unfold maxLen at this;simp only at this;omega
 show Calls Tryz.prog 108 #[.slice a es.length c] w _;rw [<- hn];clear hm;by_cases h0:n=0
 ·have h0d:((n:Int) == 0)=true:=by rw [h0];rfl
  have HE:Hid (Ci es=[]):=hid (by unfold Ci;rw [if_pos (by omega)]);clear hn
  go_enter Tryz.func108,Tryz.ntmps108
  go_wp2_with fail
  go_ret
  refine ⟨⟨_,[],rfl,⟨rfl,.inl ⟨rfl,rfl⟩⟩,?_,?_,List.Pairwise.nil⟩,Below.refl _ _⟩
  ·intro x hx;cases hx
  ·rw [HE.out];rfl
 ·have h0d:((n:Int) == 0)=false:=by simpa using h0
  by_cases h16:n<=16
  ·have h16d:(n:Int)<=16:=by omega
   have HE:Hid (Ci es=[es]):=hid (by unfold Ci;rw [if_neg (by omega),if_pos (by omega)]);clear hn
   go_enter Tryz.func108,Tryz.ntmps108
   go_wp2_with fail
   go_ret
   have HB:Below w.heap.size w (w.alloc (.cells #[.bool false,.slice a n c] 114)):=(Below.refl _ _).alloc (Nat.le_refl _) _;refine ⟨⟨_,[⟨false,a,c,es⟩],rfl,⟨rfl,.inr ⟨w.heap.size,1,#[.bool false,.slice a n c],rfl,Nat.le_refl _,heap_alloc_new w _,Nat.le_refl _,by unfold maxLen;decide,rfl,?_⟩⟩,?_,?_,List.pairwise_singleton _ _⟩,HB⟩
   ·rw [HN.out];rfl
   ·intro x hx;rw [List.mem_singleton] at hx;rw [hx];exact ⟨rfl,HM.out.below HB⟩
   ·rw [HE.out];rfl
  ·have h16d:16 < (n:Int):=by omega
   obtain ⟨k,hk⟩:∃ k:Nat,k=n / 2:=⟨_,rfl⟩
   have hk1:(n:Int) / 2=(k:Int):=by omega
   have hk2:Int.tdiv n 2=(k:Int):=by rw [Int.tdiv_eq_ediv_of_nonneg (by omega)];exact hk1
   have hk3:(k:Int)<=(n:Int):=by omega
   have HE:Hid (Ci es=[es.take k,es.drop k]):=hid (by unfold Ci;rw [if_neg (by omega),if_neg (by omega),<- hn,<- hk]);obtain ⟨b,o,rfl⟩:∃ b o,a=some ⟨b,o,none⟩:=by
    rcases HM.out.2 with h | ⟨b,o,h,-⟩
    ·have h:es=[]:=h;rw [h] at hn;exact absurd hn h0
    ·exact ⟨b,o,h⟩
   have hk4:k<=es.length:=by omega
   have HK:=hid hk4;clear hn hk hk4
   go_enter Tryz.func108,Tryz.ntmps108
   go_wp2_with fail
   go_region
   go_wp2_with fail
   go_ret
   have HB:Below w.heap.size w (w.alloc (.cells #[.bool false,.slice (some ⟨b,o,none⟩) k c,.bool false,.slice (some ⟨b,o+k * 3,none⟩) (n - k) (c - k)] 114)).drew:=((Below.refl _ _).alloc (Nat.le_refl _) _).drew;refine ⟨⟨_,[⟨false,some ⟨b,o,none⟩,c,es.take k⟩,⟨false,some ⟨b,o+k * 3,none⟩,c - k,es.drop k⟩],rfl,⟨rfl,.inr ⟨w.heap.size,2,#[.bool false,.slice (some ⟨b,o,none⟩) k c,.bool false,.slice (some ⟨b,o+k * 3,none⟩) (n - k) (c - k)],rfl,Nat.le_refl _,heap_alloc_new w _,Nat.le_refl _,by unfold maxLen;decide,rfl,?_⟩⟩,?_,?_,?_⟩,HB⟩
   ·have hkn:k<=n:=by omega
    simp only [cl,Be,List.length_take,List.length_drop,<- HN.out,Nat.min_eq_left hkn];rfl
   ·intro x hx;simp only [List.mem_cons,List.not_mem_nil,or_false] at hx;rcases hx with rfl | rfl
    ·exact ⟨rfl,(HM.out.part k HK.out).below HB⟩
    ·exact ⟨rfl,(HM.out.rest k HK.out b o rfl).below HB⟩
   ·rw [HE.out];rfl
   ·refine List.pairwise_cons.2 ⟨fun y hy b1 o1 b2 o2 e1 e2=>?_,List.pairwise_singleton _ _⟩;rw [List.mem_singleton] at hy;subst hy;cases e1;cases e2;refine .inr ?_;simp only [List.length_take];omega
set_option maxRecDepth 20000 in
set_option maxHeartbeats 4000000 in
theorem WM {ok ok' ok2:Nat->Prop} (a b p:Option Addr) (n m q c d r g:Nat) (es fs gs:List Et) (w:World) (T:TypeId) (hg:w.heap[g]?=some (.cells #[.slice a n c,.slice b m d,.slice p q r] T (0,0))) (ha:EtS ok w a es) (hb:EtS ok' w b fs) (hp:EtS ok2 w p gs) (hn:n=es.length) (hm:m=fs.length) (hq:q=gs.length) (hl:n<=1000/\m<=1000/\q<=1000) :
  Calls Tryz.prog 93 #[.slice (some ⟨g,0,none⟩) 3 3] w fun e w'=>(∃ v,e=.returned v/\w'.ownsRow w.heap.size 65 3 v (n+m+q) (Aj (es++fs++gs)))/\Below w.heap.size w w':=by
 have HA:=hid ha;have HB:=hid hb;have HP:=hid hp;have HNM:=hid (And.intro hn (And.intro hm hq));have HROW:=hid hg;have HC:Hid (∀ y,Below w.heap.size w y->y.cell? ⟨g,0,none⟩=some (.slice a n c)/\y.cell? ⟨g,1,none⟩=some (.slice b m d)/\y.cell? ⟨g,2,none⟩=some (.slice p q r)):=hid fun y hy=>by
  have h:=Ac HROW.out hy;exact ⟨by rw [cell_of_row _ _ _ _ _ _ h];rfl,by rw [cell_of_row _ _ _ _ _ _ h];rfl,by rw [cell_of_row _ _ _ _ _ _ h];rfl⟩
 have hl1:(n:Int)<=1000:=by omega
 have hl2:(m:Int)<=1000:=by omega
 have hl3:(q:Int)<=1000:=by omega
 have HGR:=hid (OA (n+m+q) w (by omega));clear ha hb hp hn hm hq hg hl HROW;obtain ⟨hc0,hc1,hc2⟩:=HC.out w (Below.refl _ _)
 go_enter Tryz.func93,Tryz.ntmps93
 go_wp2_with fail
 go_loop [3,11] (fun z i=>∃ k s:Nat,i=.int .i64 (k:Int)/\z=.int .i64 (s:Int)/\(k=0/\s=0\/k=1/\s=n\/k=2/\s=n+m\/k=3/\s=n+m+q)) (fun _ i=>3 - (intOf i).toNat)
 case atStart=>exact ⟨0,0,rfl,rfl,.inl ⟨rfl,rfl⟩⟩
 case round=>
  obtain ⟨k,s,rfl,rfl,⟨rfl,rfl⟩ | ⟨rfl,rfl⟩ | ⟨rfl,rfl⟩ | ⟨rfl,rfl⟩⟩:=hrel
  ·go_wp2_with fail
   go_round
   case rel=>exact ⟨1,n,by go_num,by go_num,.inr (.inl ⟨rfl,rfl⟩)⟩
   case measure=>simp [intOf]
  ·go_wp2_with fail
   go_round
   case rel=>exact ⟨2,s+m,by go_num,by go_num,.inr (.inr (.inl ⟨rfl,rfl⟩))⟩
   case measure=>simp [intOf]
  ·go_wp2_with fail
   go_round
   case rel=>exact ⟨3,n+m+q,by go_num,by go_num,.inr (.inr (.inr ⟨rfl,rfl⟩))⟩
   case measure=>simp [intOf]
  ·go_wp2_with fail
   refine HGR.out.mono ?_;clear HGR hc0 hc1 hc2;rintro e w1 ⟨⟨v,rfl,hv⟩,hb1⟩;have HV:=hid hv;have HB1:=hid hb1;clear hv hb1
   go_wp2_with fail
   go_loopw [6,27] (fun v i wr=>∃ (k s:Nat) (ls:List Et),i=.int .i64 (k:Int)/\(k=0/\s=0/\ls=[]\/k=1/\s=n/\ls=es\/k=2/\s=n+m/\ls=es++fs\/k=3/\s=n+m+q/\ls=es++fs++gs)/\wr.ownsRow w.heap.size 65 3 v s (Aj ls)/\Below w.heap.size w wr) (fun _ i _=>3 - (intOf i).toNat)
   case atStart=>exact ⟨0,0,[],rfl,.inl ⟨rfl,rfl,rfl⟩,HV.out,HB1.out⟩
   case round=>
    clear HV HB1;obtain ⟨k,s,ls,rfl,h3,hv,hb2⟩:=hrel;have HV:=hid hv;have HB2:=hid hb2;obtain ⟨hc0,hc1,hc2⟩:=HC.out wr hb2;clear hv hb2;rcases h3 with ⟨rfl,rfl,rfl⟩ | ⟨rfl,rfl,rfl⟩ | ⟨rfl,rfl,rfl⟩ | ⟨rfl,rfl,rfl⟩
    ·go_wp2_with (refine Bg rfl (.tmp 31) (.tmp 32) 48 rfl w.heap.size 65 Tryz.underlying48 EQ _ _ _ rfl HV.out _ _ _ _ es rfl HNM.out.1 (HA.out.below HB2.out) (by omega) (by omega) HB2.out.size ?_)
     intro v2 w2 hv2 hg2;have HB3:=hid (AX HB2.out HV.out (Nat.le_refl _) hg2);have HV2:=hid hv2;clear hv2 hg2 HV hc0 hc1 hc2
     go_wp2_with fail
     go_roundw
     case rel=>exact ⟨1,n,es,by go_num,.inr (.inl ⟨rfl,rfl,rfl⟩),HV2.out,HB3.out⟩
     case measure=>simp [intOf]
    ·go_wp2_with (refine Bg rfl (.tmp 31) (.tmp 32) 48 rfl w.heap.size 65 Tryz.underlying48 EQ _ _ _ rfl HV.out _ _ _ _ fs rfl HNM.out.2.1 (HB.out.below HB2.out) (by omega) (by omega) HB2.out.size ?_)
     intro v2 w2 hv2 hg2;have HB3:=hid (AX HB2.out HV.out (Nat.le_refl _) hg2);have HV2:=hid hv2;clear hv2 hg2 HV hc0 hc1 hc2
     go_wp2_with fail
     go_roundw
     case rel=>exact ⟨2,_,_,by go_num,.inr (.inr (.inl ⟨rfl,rfl,rfl⟩)),HV2.out,HB3.out⟩
     case measure=>simp [intOf]
    ·go_wp2_with (refine Bg rfl (.tmp 31) (.tmp 32) 48 rfl w.heap.size 65 Tryz.underlying48 EQ _ _ _ rfl HV.out _ _ _ _ gs rfl HNM.out.2.2 (HP.out.below HB2.out) (by omega) (by omega) HB2.out.size ?_)
     intro v2 w2 hv2 hg2;have HB3:=hid (AX HB2.out HV.out (Nat.le_refl _) hg2);have HV2:=hid hv2;clear hv2 hg2 HV hc0 hc1 hc2
     go_wp2_with fail
     go_roundw
     case rel=>exact ⟨3,_,es++(fs++gs),by go_num,.inr (.inr (.inr ⟨rfl,rfl,(List.append_assoc _ _ _).symm⟩)),HV2.out,HB3.out⟩
     case measure=>simp [intOf]
    ·clear hc0 hc1 hc2
     go_wp2_with fail
     go_ret
     exact ⟨⟨_,rfl,HV.out⟩,HB2.out⟩
end Go.Proofs.YtfhdojnobmfefaaGreatDoor
