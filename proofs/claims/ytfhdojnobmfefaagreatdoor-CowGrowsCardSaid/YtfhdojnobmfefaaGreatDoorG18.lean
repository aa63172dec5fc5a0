/- MADE SMALL. -/
import Derived.Test.YtfhdojnobmfefaaGreatDoorRows
import Derived.Test.YtfhdojnobmfefaaGreatDoorG17
import Derived.Deep.QuietTactic
import Derived.BigQuiet
import Derived.Laws.LoneSync
import Derived.Test.YtfhdojnobmfefaaGreatDoorG3
namespace Go.Proofs.YtfhdojnobmfefaaGreatDoor
open Go.RowKit Go.Inc
def KG (on armed:Bool) (left:Int) (lv mv:Value) (r s t:Int):Array Value:=#[.bool on,.bool armed,.int .i64 left,lv,mv,.int .i64 r,.int .i64 s,.int .i64 t]
def DevRow (w:World) (g:Nat) (on armed:Bool) (left:Int) (lv mv:Value) (r s t:Int):Prop:=w.heap[g]?=some (.cells (KG on armed left lv mv r s t) 204 (0,0))
section
variable {w:World} {g:Nat} {on armed:Bool} {left:Int} {lv mv:Value} {r s t:Int}
theorem DevRow.c0 (h:DevRow w g on armed left lv mv r s t):w.cell? ⟨g,0,none⟩=some (.bool on):=cell_of_row w g 0 _ _ _ h
theorem DevRow.c1 (h:DevRow w g on armed left lv mv r s t):w.cell? ⟨g,1,none⟩=some (.bool armed):=cell_of_row w g 1 _ _ _ h
theorem DevRow.c2 (h:DevRow w g on armed left lv mv r s t):w.cell? ⟨g,2,none⟩=some (.int .i64 left):=cell_of_row w g 2 _ _ _ h
theorem DevRow.c3 (h:DevRow w g on armed left lv mv r s t):w.cell? ⟨g,3,none⟩=some lv:=cell_of_row w g 3 _ _ _ h
theorem DevRow.c4 (h:DevRow w g on armed left lv mv r s t):w.cell? ⟨g,4,none⟩=some mv:=cell_of_row w g 4 _ _ _ h
theorem DevRow.c5 (h:DevRow w g on armed left lv mv r s t):w.cell? ⟨g,5,none⟩=some (.int .i64 r):=cell_of_row w g 5 _ _ _ h
theorem DevRow.c6 (h:DevRow w g on armed left lv mv r s t):w.cell? ⟨g,6,none⟩=some (.int .i64 s):=cell_of_row w g 6 _ _ _ h
theorem EI {w:World} {g:Nat} {cs cs':Array Value} {T:TypeId} (h:w.heap[g]?=some (.cells cs T (0,0))) (i:Nat) (v:Value) (he:cs.setIfInBounds i v=cs'):(w.setCell ⟨g,i,none⟩ v).heap[g]?=some (.cells cs' T (0,0)):=by
 rw [heap_setCell_same w g i _ _ _ h,he]
theorem DevRow.s0 (h:DevRow w g on armed left lv mv r s t) (x:Bool):DevRow (w.setCell ⟨g,0,none⟩ (.bool x)) g x armed left lv mv r s t:=EI h 0 _ (by simp [KG])
theorem DevRow.s1 (h:DevRow w g on armed left lv mv r s t) (x:Bool):DevRow (w.setCell ⟨g,1,none⟩ (.bool x)) g on x left lv mv r s t:=EI h 1 _ (by simp [KG])
theorem DevRow.s2 (h:DevRow w g on armed left lv mv r s t) (x:Int):DevRow (w.setCell ⟨g,2,none⟩ (.int .i64 x)) g on armed x lv mv r s t:=EI h 2 _ (by simp [KG])
theorem DevRow.s5 (h:DevRow w g on armed left lv mv r s t) (x:Int):DevRow (w.setCell ⟨g,5,none⟩ (.int .i64 x)) g on armed left lv mv x s t:=EI h 5 _ (by simp [KG])
theorem DevRow.s6 (h:DevRow w g on armed left lv mv r s t) (x:Int):DevRow (w.setCell ⟨g,6,none⟩ (.int .i64 x)) g on armed left lv mv r x t:=EI h 6 _ (by simp [KG])
theorem DevRow.fz (h:DevRow w g on armed left lv mv r s t) (i:Nat):w.frozen? ⟨g,i,none⟩=false:=frozen_of_row w g i _ _ h
end
theorem dF (w:World) (g:Nat) (on armed:Bool) (left:Int) (lv mv:Value) (r s t:Int) (h:DevRow w g on armed left lv mv r s t) :
  Calls Tryz.prog 197 #[.pointer (some ⟨g,0,none⟩)] w fun e w'=>e=.returned (.tuple #[])/\DevRow w' g false armed left lv mv r s t/\w.grownBy w' (some g):=by
 have c0:=h.c0;have f0:=h.fz 0;have H:=hid h;clear h
 go_enter Tryz.func197,Tryz.ntmps197
 go_wp2
 go_end0
 exact ⟨rfl,H.out.s0 false,Aq (Aw _ _) (.inl rfl) _⟩
theorem Wj (w:World) (g:Nat) (on armed:Bool) (left:Int) (lv mv:Value) (r s t:Int) (h:DevRow w g on armed left lv mv r s t) :
  Calls Tryz.prog 128 #[.pointer (some ⟨g,0,none⟩)] w fun e w'=>e=.returned (.tuple #[])/\DevRow w' g true false 0 lv mv r s t/\w.grownBy w' (some g):=by
 have c0:=h.c0;have f0:=h.fz 0;have c1:=h.c1;have f1:=h.fz 1;have c2:=h.c2;have f2:=h.fz 2;have H:=hid h;clear h
 go_enter Tryz.func128,Tryz.ntmps128
 go_wp2
 go_end0
 have h1:=H.out.s0 true;have h2:=h1.s1 false;have h3:=h2.s2 0;have g1:w.grownBy (w.setCell ⟨g,0,none⟩ (.bool true)) (some g):=Aq (Aw _ _) (.inl rfl) _;have g2:=Aq g1 (p:=⟨g,1,none⟩) (.inl rfl) (.bool false);have g3:=Aq g2 (p:=⟨g,2,none⟩) (.inl rfl) (.int .i64 0);exact ⟨rfl,h3,g3⟩
def EF (armed:Bool) (left:Int):Bool:=!(armed && decide (left=0))
def D6 (armed:Bool) (left:Int):Int:=if armed=true/\left≠0 then left - 1 else left
theorem VJ (w:World) (g:Nat) (on armed:Bool) (left:Int) (lv mv:Value) (r s t:Int) (h:DevRow w g on armed left lv mv r s t) (hl:0<=left/\left<=9223372036854775807\/armed=false) :
  Calls Tryz.prog 182 #[.pointer (some ⟨g,0,none⟩)] w fun e w'=>e=.returned (.bool (EF armed left))/\DevRow w' g (on && EF armed left) armed (D6 armed left) lv mv r s t/\w.grownBy w' (some g):=by
 have c1:=h.c1;have c2:=h.c2;have f2:=h.fz 2;have H:=hid h;clear h
 go_enter Tryz.func182,Tryz.ntmps182
 cases armed with
 | false=>
  go_wp2
  go_ret
  exact ⟨rfl,by simpa [EF,D6] using H.out,Aw _ _⟩
 | true=>
  have hl:0<=left/\left<=9223372036854775807:=by rcases hl with h | h;exact h;cases h
  by_cases h0:left=0
  ·subst h0;have HC:=hid (dF w g on true 0 lv mv r s t H.out)
   go_wp2_with fail
   refine HC.out.mono ?_;rintro e w1 ⟨rfl,h1,h2⟩;have H1:=hid h1;have H2:=hid h2;clear h1 h2 HC
   go_wp2_with fail
   go_ret
   exact ⟨rfl,by simpa [EF,D6] using H1.out,H2.out⟩
  ·have hd:(left == 0)=false:=by simpa using h0
   go_wp2
   go_ret
   refine ⟨by simp [EF,h0],?_,Aq (Aw _ _) (.inl rfl) _⟩;simpa [EF,D6,h0] using H.out.s2 (left - 1)
theorem O4 (w:World) (a:Addr) (x:Int) (hc:w.cell? a=some (.int .i64 x)) (hz:w.frozen? a=false) (hx:0<=x/\x < 9223372036854775807) (ha:a.spot=none) :
  Calls Tryz.prog 169 #[.pointer (some a),.int .i64 1] w fun e w'=>e=.returned (.int .i64 (x+1))/\w'=w.setCell a (.int .i64 (x+1)):=by
 obtain ⟨g,o,sp⟩:=a;subst ha;have hs:(Op.intArith .add .i64 x 1).run Tryz.prog w=.ok (.int .i64 (x+1)) w:=by
  simp [go_sem,IntKind.wrap_i64];omega
 have hadd:=run_call_add (P:=Tryz.prog) Tryz.func184 (by kernel_rfl) (by kernel_rfl) (by kernel_rfl) .i64 (by kernel_rfl) (y:=1) hc hz hs;clear hs
 go_enter Tryz.func169,Tryz.ntmps169
 go_wp2
 go_ret
 exact ⟨rfl,rfl⟩
theorem Py (w:World) (g:Nat) (on armed:Bool) (left:Int) (lv mv:Value) (r s t:Int) (h:DevRow w g on armed left lv mv r s t) :
  Calls Tryz.prog 76 #[.pointer (some ⟨g,0,none⟩)] w fun e w'=>e=.returned (.bool on)/\w=w':=by
 have c0:=h.c0;clear h
 go_enter Tryz.func76,Tryz.ntmps76
 go_wp2
 go_ret
 exact ⟨rfl,rfl⟩
theorem L9 (w:World) (g:Nat) (on armed:Bool) (left:Int) (a:Option Addr) (p c:Nat) (mv:Value) (r s t:Int) (h:DevRow w g on armed left (.slice a (256 * p) c) mv r s t) (hp:p<=2048) :
  Calls Tryz.prog 158 #[.pointer (some ⟨g,0,none⟩)] w fun e w'=>e=.returned (.int .i64 (p:Int))/\w=w':=by
 have c3:=h.c3;clear h;obtain ⟨q,hq⟩:∃ q,q=256 * p:=⟨_,rfl⟩
 rw [<- hq] at c3;have hd:(q:Int) / 256=(p:Int):=by omega
 have hqb:(q:Int)<=524288:=by omega
 clear hq
 go_enter Tryz.func158,Tryz.ntmps158
 go_wp2
 go_ret
 exact ⟨rfl,rfl⟩
theorem Ld (w:World) (n:Int):Calls Tryz.prog 94 #[.int .i64 n] w fun e w'=>e=.returned (.bool (decide (1<=n) && decide (n<=2048)))/\w=w':=by
 by_cases h:1<=n
 ·have h1:decide (1<=n)=true:=decide_eq_true h
  go_enter Tryz.func94,Tryz.ntmps94
  go_wp2
  go_ret
  exact ⟨Eg (by rw [h1];rfl),rfl⟩
 ·have h1:decide (1<=n)=false:=decide_eq_false h
  go_enter Tryz.func94,Tryz.ntmps94
  go_wp2
  go_ret
  exact ⟨rfl,rfl⟩
end Go.Proofs.YtfhdojnobmfefaaGreatDoor
namespace Go.Proofs.YtfhdojnobmfefaaGreatDoor
open Go.RowKit Go.Inc
structure Item where
 a:Option Addr
 c:Nat
 b:List Nat
def Item.val (q:Item):Value:=.slice q.a 256 q.c
structure Ver (C:Nat->Nat) (w:World) (k:Nat) (v:Value) (is:List Item):Prop where
 own:w.ownsRow 0 74 1 v is.length (is.map Item.val)
 col:∀ R,v.ownBlock=some R->C R=k
 full:is≠[]
 all:∀ q∈is,Sl (fun b=>C b=4) w q.a q.b/\q.b.length=256/\256<=q.c/\q.c<=maxLen
structure St where
 on:Bool
 armed:Bool
 left:Int
 B:List Nat
 W:Int->List (List Nat)
 r:Int
 s:Int
 t:Int
structure DevAt (C:Nat->Nat) (w:World) (g L c M:Nat) (f:Int->Option Value) (I:Int->List Item) (p n:Nat) (S:St):Prop where
 row:DevRow w g S.on S.armed S.left (.slice (some ⟨L,0,none⟩) (256 * p) c) (.map (some M)) S.r S.s S.t
 laid:w.ownsRow 0 5 1 (.slice (some ⟨L,0,none⟩) (256 * p) c) (256 * p) (u8s S.B)
 map:Mp Tryz.prog 3 w M n f
 ver:∀ x v,f x=some v->Ver C w (5+x.toNat) v (I x)
 non:∀ x,f x=none->I x=[]
 dom:∀ x v,f x=some v->0<=x/\x < p
 few:∀ x,(I x).length<=n
 wait:∀ x,S.W x=(I x).map Item.b
 cg:C g=1
 cL:C L=2
 cM:C M=3
 lt:∀ b,C b≠0->b < w.heap.size
 pp:1<=p/\p<=2048
 lb:0<=S.left/\S.left<=9223372036854775807\/S.armed=false
 cnt:0<=S.r/\0<=S.s/\0<=S.t
theorem QW (w:World) (g:Nat) (on armed:Bool) (left:Int) (a:Option Addr) (p c:Nat) (mv:Value) (r s t no:Int) (h:DevRow w g on armed left (.slice a (256 * p) c) mv r s t) (hp:p<=2048) :
  Calls Tryz.prog 168 #[.pointer (some ⟨g,0,none⟩),.int .i64 no] w fun e w'=>e=.returned (.bool (decide (0<=no/\no < p)))/\w=w':=by
 have H:=hid (L9 w g on armed left a p c mv r s t h hp);clear h;by_cases h0:0<=no
 ·have h1:decide (0<=no)=true:=decide_eq_true h0
  go_enter Tryz.func168,Tryz.ntmps168
  go_wp2_with fail
  refine H.out.mono ?_;rintro e w' ⟨rfl,rfl⟩
  go_wp2_with fail
  go_ret
  exact ⟨Eg (by simp [h0]),rfl⟩
 ·have h1:decide (0<=no)=false:=decide_eq_false h0
  go_enter Tryz.func168,Tryz.ntmps168
  go_wp2_with fail
  go_ret
  refine ⟨Eg ?_,rfl⟩;simp
theorem VW (w:World) (g:Nat) (on armed:Bool) (left:Int) (L p c k:Nat) (mv:Value) (r s t:Int) (h:DevRow w g on armed left (.slice (some ⟨L,0,none⟩) (256 * p) c) mv r s t) (hp:p<=2048) (hk:k < p) (hc:256 * p<=c) (hm:c<=maxLen) :
  Calls Tryz.prog 172 #[.pointer (some ⟨g,0,none⟩),.int .i64 (k:Int)] w fun e w'=>e=.returned (.slice (some ⟨L,256 * k,none⟩) 256 (c - 256 * k))/\w=w':=by
 have c3:=h.c3;clear h;obtain ⟨q,hq⟩:∃ q,q=256 * p:=⟨_,rfl⟩
 obtain ⟨o,ho⟩:∃ o,o=256 * k:=⟨_,rfl⟩
 rw [<- hq] at c3 hc;rw [<- ho];have hmul:(k:Int) * 256=(o:Int):=by omega
 have hob:o < q/\q<=524288:=by omega
 have h256:(256:Int)<=(q:Int) - o:=by omega
 have hco:(c=o)=False:=by simp;omega
 unfold maxLen at hm;have hoc:(o:Int)<=q/\(q:Int)<=c:=by omega
 have hco2:(256:Int)<=(c:Int) - o:=by omega
 have hw:wrap64 ((k:Int) * 256)=(o:Int):=by rw [hmul];simp [wrap64];omega
 clear hq ho hp hk
 go_enter Tryz.func172,Tryz.ntmps172
 go_wp2
 go_ret
 exact ⟨rfl,rfl⟩
theorem I9 (w:World) (M n:Nat) (f:Int->Option Value) (x:Int) (a:Option Addr) (k c:Nat) (hm:Mp Tryz.prog 3 w M n f) (hx:-9223372036854775808<=x/\x<=9223372036854775807) (hv:(f x).getD (.slice none 0 0)=.slice a k c) :
  Calls Tryz.prog 185 #[.map (some M),.int .i64 x] w fun e w'=>e=.returned (.int .i64 (k:Int))/\w=w':=by
 have HM:=hid hm;have HV:=hid hv;clear hm hv
 go_enter Tryz.func185,Tryz.ntmps185
 go_wp2_with (at_lookup;go_loud (refine Hl _ rfl _ _ 195 rfl 3 142 Tryz.underlying3 Tryz.underlying195 (.slice none 0 0) (by kernel_rfl) M n f rfl HM.out x rfl hx ?_);rw [HV.out])
 go_ret
 exact ⟨rfl,rfl⟩
section
variable {C:Nat->Nat} {w:World} {k:Nat} {v:Value} {is:List Item}
theorem Ver.shape (h:Ver C w k v is):∃ R cap,v=.slice (some ⟨R,0,none⟩) is.length cap/\C R=k/\is.length<=cap/\cap<=maxLen/\
  ∀ i q,is[i]?=some q->w.cell? ⟨R,i,none⟩=some (.slice q.a 256 q.c):=by
 have ho:=h.own;rcases ho.2 with ⟨_,h0⟩ | ⟨R,cap,cur,rfl,_,hR,h1,h2,h3,h4⟩
 ·exact absurd (List.eq_nil_of_length_eq_zero h0) h.full
 ·refine ⟨R,cap,rfl,h.col R rfl,h1,h2,fun i q hq=>?_⟩;have hc:=ho.cells (g:=R) rfl i (.slice q.a 256 q.c) (by rw [List.getElem?_map,hq];rfl);rwa [Addr.add_lit,Nat.zero_add] at hc
theorem Ver.item (h:Ver C w k v is) {i:Nat} (hi:i < is.length):∃ q,is[i]?=some q/\Sl (fun b=>C b=4) w q.a q.b/\q.b.length=256/\256<=q.c/\q.c<=maxLen:=
 ⟨is[i],List.getElem?_eq_getElem hi,h.all _ (List.getElem_mem hi)⟩
end
theorem We {C w g L c M f I p n S} (h:DevAt C w g L c M f I p n S) {x:Int} (hx:I x=[]):(f x).getD (.slice none 0 0)=.slice none 0 0:=by
 cases hf:f x with
 | none=>rfl
 | some v=>exact absurd hx (h.ver x v hf).full
theorem Kt {C w g L c M f I p n S} (h:DevAt C w g L c M f I p n S) {x:Int} (hx:I x≠[]):∃ v,f x=some v/\Ver C w (5+x.toNat) v (I x):=by
 cases hf:f x with
 | none=>exact absurd (h.non x hf) hx
 | some v=>exact ⟨v,rfl,h.ver x v hf⟩
theorem Ws (w:World) (M n:Nat) (f:Int->Option Value) (x:Int) (hm:Mp Tryz.prog 3 w M n f) (hx:-9223372036854775808<=x/\x<=9223372036854775807) (hv:(f x).getD (.slice none 0 0)=.slice none 0 0) :
  Calls Tryz.prog 170 #[.map (some M),.int .i64 x] w fun e w'=>e=.returned (.tuple #[.slice none 0 0,.bool false])/\w=w':=by
 have H:=hid (I9 w M n f x none 0 0 hm hx hv);clear hm hv
 go_enter Tryz.func170,Tryz.ntmps170
 go_wp2_with fail
 refine H.out.mono ?_;rintro e w' ⟨rfl,rfl⟩
 go_wp2_with fail
 go_ret2
 exact ⟨rfl,rfl⟩
theorem Wq (w:World) (M n:Nat) (f:Int->Option Value) (x:Int) (R k c:Nat) (u:Value) (hm:Mp Tryz.prog 3 w M n f) (hx:-9223372036854775808<=x/\x<=9223372036854775807) (hv:(f x).getD (.slice none 0 0)=.slice (some ⟨R,0,none⟩) (k+1) c)
  (hk:k < 4611686018427387904) (hu:w.cell? ⟨R,k,none⟩=some u) :
  Calls Tryz.prog 170 #[.map (some M),.int .i64 x] w fun e w'=>e=.returned (.tuple #[u,.bool true])/\w=w':=by
 have H:=hid (I9 w M n f x _ _ _ hm hx hv);have HM:=hid hm;have HV:=hid hv;clear hm hv;obtain ⟨j,hj⟩:∃ j,j=k+1:=⟨_,rfl⟩
 rw [<- hj] at H HV;have h0:((j:Int) == 0)=false:=by simp;omega
 have h1:wrap64 ((j:Int) - 1)=(k:Int):=by simp [wrap64];omega
 have h1':(j:Int) - 1=(k:Int):=by omega
 have h2:(k:Int) < (j:Int):=by omega
 clear hj
 go_enter Tryz.func170,Tryz.ntmps170
 go_wp2_with fail
 refine H.out.mono ?_;rintro e w' ⟨rfl,rfl⟩
 go_wp2_with (at_lookup;refine Hl _ rfl _ _ 195 rfl 3 142 Tryz.underlying3 Tryz.underlying195 (.slice none 0 0) (by kernel_rfl) M n f rfl HM.out x rfl hx ?_;rw [HV.out])
 go_ret2
 exact ⟨rfl,rfl⟩
end Go.Proofs.YtfhdojnobmfefaaGreatDoor
