/- MADE SMALL. -/
import Derived.Test.YtfhdojnobmfefaaGreatDoorK34
import Derived.Lib.Slices
import Derived.Test.YtfhdojnobmfefaaGreatDoorK11
import Derived.Deep.CutRange
namespace Go.Proofs.YtfhdojnobmfefaaGreatDoor
open Go.RowKit Go.Inc
def Sm (ok:Nat->Prop) (w:World) (v:Value) (m:List Bool):Prop:=
 ∃ b g c W,v=.pointer (some ⟨b,0,none⟩)/\ok b/\ok g/\BmAt w b g c m.length W/\∀ i,Cf W i=inB m i
section
variable {ok ok':Nat->Prop} {w w':World} {v:Value} {m:List Bool}
theorem Sm.bm (h:Sm ok w v m):Bm ok w v m:=.inr h
theorem Sm.mv {F:Nat->Prop} (h:Sm ok w v m) (hm:Mv F w w') (hk:∀ i,ok i->¬ F i):Sm ok w' v m:=by
 obtain ⟨b,g,c,W,h1,h2,h3,h4,h5⟩:=h;exact ⟨b,g,c,W,h1,h2,h3,h4.mv hm (hk b h2) (hk g h3),h5⟩
theorem Sm.below (h:Sm ok w v m) (hb:Below w.heap.size w w'):Sm ok w' v m:=h.mv (F:=fun _=>False) (Mv.of_below hb) fun _ _=>id
theorem Sm.mono (h:Sm ok w v m) (hk:∀ b,ok b->b < w.heap.size->ok' b):Sm ok' w v m:=by
 obtain ⟨b,g,c,W,h1,h2,h3,h4,h5⟩:=h;exact ⟨b,g,c,W,h1,hk b h2 h4.blt,hk g h3 h4.glt,h4,h5⟩
end
structure Al3 (C:Nat->Nat) (w:World) (p:Nat) (v1 v2 v3:Value) (m1 m2 m3:List Bool):Prop where
 z0:C 0=0
 old:∀ i,C i≠0->i < w.heap.size
 col:C p=1
 c0:w.cell? ⟨p,0,none⟩=some v1
 c1:w.cell? ⟨p,1,none⟩=some v2
 c2:w.cell? ⟨p,2,none⟩=some v3
 s1:Sm (fun b=>C b=2) w v1 m1
 s2:Sm (fun b=>C b=3) w v2 m2
 s3:Sm (fun b=>C b=4) w v3 m3
abbrev Al (C:Nat->Nat) (w:World) (p:Nat) (v1 v2 v3:Value) (ks:List Nat):Prop:=Al3 C w p v1 v2 v3 (Bo isC ks) (Bo isS ks) (Bo isP ks)
section
variable {C:Nat->Nat} {w w':World} {p:Nat} {v1 v2 v3:Value} {m1 m2 m3 m':List Bool}
theorem Al3.mv {F:Nat->Prop} (h:Al3 C w p v1 v2 v3 m1 m2 m3) (hm:Mv F w w') (hF:∀ i,F i->C i=0):Al3 C w' p v1 v2 v3 m1 m2 m3:=by
 have hn:∀ i k,C i=k->k≠0->¬ F i:=fun i k h1 h2 h3=>h2 (by rw [<- h1];exact hF i h3);exact ⟨h.z0,fun i hi=>Nat.lt_of_lt_of_le (h.old i hi) hm.size,h.col,hm.cell h.c0 (hn _ _ h.col (by decide)),hm.cell h.c1 (hn _ _ h.col (by decide)),hm.cell h.c2 (hn _ _ h.col (by decide)),
  h.s1.mv hm fun i hi=>hn _ _ hi (by decide),h.s2.mv hm fun i hi=>hn _ _ hi (by decide),h.s3.mv hm fun i hi=>hn _ _ hi (by decide)⟩
theorem Al3.below (h:Al3 C w p v1 v2 v3 m1 m2 m3) (hb:Below w.heap.size w w'):Al3 C w' p v1 v2 v3 m1 m2 m3:=h.mv (F:=fun _=>False) (Mv.of_below hb) fun _ h=>h.elim
theorem Al3.turn1 (h:Al3 C w p v1 v2 v3 m1 m2 m3) (hm:Mv (fun i=>C i=2) w w') (h1:Sm (fun b=>C b=2) w' v1 m'):Al3 C w' p v1 v2 v3 m' m2 m3:=by
 have hn:∀ i k,C i=k->k≠2->¬ (C i=2):=fun i k h1 h2 h3=>h2 (by rw [<- h1];exact h3);exact ⟨h.z0,fun i hi=>Nat.lt_of_lt_of_le (h.old i hi) hm.size,h.col,hm.cell h.c0 (hn _ _ h.col (by decide)),hm.cell h.c1 (hn _ _ h.col (by decide)),hm.cell h.c2 (hn _ _ h.col (by decide)),h1,h.s2.mv hm fun i hi=>hn _ _ hi (by decide),h.s3.mv hm fun i hi=>hn _ _ hi (by decide)⟩
theorem Al3.turn2 (h:Al3 C w p v1 v2 v3 m1 m2 m3) (hm:Mv (fun i=>C i=3) w w') (h2:Sm (fun b=>C b=3) w' v2 m'):Al3 C w' p v1 v2 v3 m1 m' m3:=by
 have hn:∀ i k,C i=k->k≠3->¬ (C i=3):=fun i k h1 h2 h3=>h2 (by rw [<- h1];exact h3);exact ⟨h.z0,fun i hi=>Nat.lt_of_lt_of_le (h.old i hi) hm.size,h.col,hm.cell h.c0 (hn _ _ h.col (by decide)),hm.cell h.c1 (hn _ _ h.col (by decide)),hm.cell h.c2 (hn _ _ h.col (by decide)),h.s1.mv hm fun i hi=>hn _ _ hi (by decide),h2,h.s3.mv hm fun i hi=>hn _ _ hi (by decide)⟩
theorem Al3.turn3 (h:Al3 C w p v1 v2 v3 m1 m2 m3) (hm:Mv (fun i=>C i=4) w w') (h3:Sm (fun b=>C b=4) w' v3 m'):Al3 C w' p v1 v2 v3 m1 m2 m':=by
 have hn:∀ i k,C i=k->k≠4->¬ (C i=4):=fun i k h1 h2 h3=>h2 (by rw [<- h1];exact h3);exact ⟨h.z0,fun i hi=>Nat.lt_of_lt_of_le (h.old i hi) hm.size,h.col,hm.cell h.c0 (hn _ _ h.col (by decide)),hm.cell h.c1 (hn _ _ h.col (by decide)),hm.cell h.c2 (hn _ _ h.col (by decide)),h.s1.mv hm fun i hi=>hn _ _ hi (by decide),h.s2.mv hm fun i hi=>hn _ _ hi (by decide),h3⟩
end
theorem Ip (ok okz:Nat->Prop) (v:Value) (m:List Bool) (a:Option Addr) (cz:Nat) (zs:List Int) (w:World) (h:Sm ok w v m) (hz:Si okz w a zs) (hd:∀ i,okz i->¬ ok i) (hl:(zs.length:Int)<=9223372036854775807) :
  Calls Tryz.prog 71 #[v,.slice a zs.length cz] w fun e w'=>e=.returned (.int .i64 ((Ba true m zs zs.length).2:Int))/\Sm ok w' v (Ba true m zs zs.length).1/\Mv ok w w':=by
 obtain ⟨b,g,c,W,rfl,h2,h3,h4,h5⟩:=h;refine (Nv okz b g c m W a cz zs w h4 h5 hz (fun i hi e=>hd i hi (by rw [e];exact h3)) hl).mono ?_;rintro e w' ⟨rfl,⟨W',h6,h7⟩,h8⟩;exact ⟨rfl,⟨b,g,c,W',rfl,h2,h3,by rw [Bv];exact h6,h7⟩,h8.sub fun i _ e=>by subst e;exact h3⟩
theorem IL (ok okz:Nat->Prop) (v:Value) (m:List Bool) (a:Option Addr) (cz:Nat) (zs:List Int) (w:World) (h:Sm ok w v m) (hz:Si okz w a zs) (hd:∀ i,okz i->¬ ok i) (hl:(zs.length:Int)<=9223372036854775807) :
  Calls Tryz.prog 70 #[v,.slice a zs.length cz] w fun e w'=>e=.returned (.int .i64 ((Ba false m zs zs.length).2:Int))/\Sm ok w' v (Ba false m zs zs.length).1/\Mv ok w w':=by
 obtain ⟨b,g,c,W,rfl,h2,h3,h4,h5⟩:=h;refine (YS okz b g c m W a cz zs w h4 h5 hz (fun i hi e=>hd i hi (by rw [e];exact h3)) hl).mono ?_;rintro e w' ⟨rfl,⟨W',h6,h7⟩,h8⟩;exact ⟨rfl,⟨b,g,c,W',rfl,h2,h3,by rw [Bv];exact h6,h7⟩,h8.sub fun i _ e=>by subst e;exact h3⟩
theorem Oc {C:Nat->Nat} {p:Nat} {v1 v2 v3:Value} {ks:List Nat} {w:World} (h:Al C w p v1 v2 v3 ks) :
  Calls Tryz.prog 130 #[.pointer (some ⟨p,0,none⟩)] w fun e w'=>e=.returned (.int .i64 (ks.length:Int))/\w=w':=by
 have H:=hid (Ho _ v1 _ w h.s1.bm);rw [AQ] at H;have hc:=h.c0;obtain ⟨n,hn⟩:∃ n,n=ks.length:=⟨_,rfl⟩
 rw [<- hn] at H ⊢;clear h hn
 go_enter Tryz.func130,Tryz.ntmps130
 go_wp2_with fail
 refine H.out.mono ?_;rintro e w1 ⟨rfl,rfl⟩
 go_wp2_with fail
 go_ret
 exact ⟨rfl,rfl⟩
theorem NZ (n:Nat) (w:World) (h1:(1:Int)<=n) (h2:(n:Int)<=2048) :
  Calls Tryz.prog 129 #[.int .i64 (n:Int)] w fun e w'=>(∃ v,e=.returned v/\NewSet w.heap.size w' v (List.replicate n false))/\Below w.heap.size w w':=by
 have H:=hid (VW n w h1 h2)
 go_enter Tryz.func129,Tryz.ntmps129
 go_wp2_with fail
 refine H.out.mono ?_;clear H;rintro e w1 ⟨⟨v,rfl,hv⟩,hb⟩;have HV:=hid hv;have HB:=hid hb;clear hv hb
 go_wp2_with fail
 go_ret
 exact ⟨⟨_,rfl,HV.out⟩,HB.out⟩
def DL (ks:List Nat) (no:Int):Nat:=if 0<=no/\no < (ks.length:Int) then kd ks no.toNat else 5
theorem F7 {ks:List Nat} {i:Nat} (h:i < ks.length):DL ks (i:Int)=kd ks i:=by
 unfold DL;rw [if_pos ⟨by omega,by omega⟩];rfl
theorem Om {ks:List Nat} {no:Int} (h:¬ (0<=no/\no < (ks.length:Int))):DL ks no=5:=if_neg h
theorem QJ {C:Nat->Nat} {p:Nat} {v1 v2 v3:Value} {ks:List Nat} {w:World} (no:Int) (h:Al C w p v1 v2 v3 ks) (hk:Ks ks) :
  Calls Tryz.prog 132 #[.pointer (some ⟨p,0,none⟩),.int .i64 no] w fun e w'=>e=.returned (.int .i64 (DL ks no:Int))/\Below w.heap.size w w':=by
 have HP:=hid (Oc h);obtain ⟨n,hn⟩:∃ n,n=ks.length:=⟨_,rfl⟩
 have HN:=hid hn;rw [<- hn] at HP;by_cases h0:no < 0
 ·have HR:Hid (DL ks no=5):=hid (Om (by omega));clear h hk hn
  go_enter Tryz.func132,Tryz.ntmps132
  go_wp2_with fail
  go_ret
  exact ⟨by rw [HR.out];rfl,Below.refl _ _⟩
 by_cases h1:(n:Int)<=no
 ·have HR:Hid (DL ks no=5):=hid (Om (by omega));clear h hk hn
  go_enter Tryz.func132,Tryz.ntmps132
  go_wp2_with fail
  refine HP.out.mono ?_;rintro e w1 ⟨rfl,rfl⟩
  go_wp2_with fail
  go_ret
  exact ⟨by rw [HR.out];rfl,Below.refl _ _⟩
 obtain ⟨i,rfl⟩:=Int.eq_ofNat_of_zero_le (show (0:Int)<=no by omega);have hi:i < ks.length:=by omega
 have HR:Hid (DL ks (i:Int)=kd ks i):=hid (F7 hi);by_cases h2:i < 2
 ·have HZ:Hid (kd ks i=0):=hid (by
   obtain rfl | rfl:i=0\/i=1:=by omega
   ·exact hk.k0
   ·exact hk.k1)
  have h2':(i:Int) < 2:=by omega
  clear h hk hn h2
  go_enter Tryz.func132,Tryz.ntmps132
  go_wp2_with fail
  refine HP.out.mono ?_;rintro e w1 ⟨rfl,rfl⟩
  go_wp2_with fail
  go_ret
  exact ⟨by rw [HR.out,HZ.out];rfl,Below.refl _ _⟩
 have h2':(2:Int)<=(i:Int):=by omega
 have hr:=hk.rest i (by omega) hi;have H3:∀ x,Below w.heap.size w x->Calls Tryz.prog 74 #[v3,.int .i64 (i:Int)] x fun e w'=>e=.returned (.bool (isP (kd ks i)))/\Below x.heap.size x w':=fun x hx=>
  (JF _ v3 _ (i:Int) x (h.below hx).s3.bm).mono fun e w' h=>⟨by rw [h.1,Gi,BA hi],h.2⟩
 have H1:∀ x,Below w.heap.size w x->Calls Tryz.prog 74 #[v1,.int .i64 (i:Int)] x fun e w'=>e=.returned (.bool (isC (kd ks i)))/\Below x.heap.size x w':=fun x hx=>
  (JF _ v1 _ (i:Int) x (h.below hx).s1.bm).mono fun e w' h=>⟨by rw [h.1,Gi,BA hi],h.2⟩
 have H2:∀ x,Below w.heap.size w x->Calls Tryz.prog 74 #[v2,.int .i64 (i:Int)] x fun e w'=>e=.returned (.bool (isS (kd ks i)))/\Below x.heap.size x w':=fun x hx=>
  (JF _ v2 _ (i:Int) x (h.below hx).s2.bm).mono fun e w' h=>⟨by rw [h.1,Gi,BA hi],h.2⟩
 have G3:=hid H3;have G1:=hid H1;have G2:=hid H2;have HL:=hid h;have c2:=h.c2;obtain ⟨k,hkk⟩:∃ k,k=kd ks i:=⟨_,rfl⟩
 rw [<- hkk] at HR G1 G2 G3 hr;have HRR:Hid (1<=k/\k<=4):=hid hr;clear h hk hn hkk H1 H2 H3 h2 hi hr
 go_enter Tryz.func132,Tryz.ntmps132
 go_wp2_with fail
 refine HP.out.mono ?_;rintro e w1 ⟨rfl,rfl⟩
 go_wp2_with fail
 refine (G3.out w (Below.refl _ _)).mono ?_;clear c2;rintro e w1 ⟨rfl,hb1⟩;have HB1:=hid hb1;clear hb1;by_cases k4:k=4
 ·subst k4;have e1:isP 4=true:=rfl
  go_wp2_with fail
  go_ret
  exact ⟨by rw [HR.out];rfl,HB1.out⟩
 have e1:isP k=false:=by simp [isP,k4]
 have c0:=(HL.out.below HB1.out).c0
 go_wp2_with fail
 refine (G1.out w1 HB1.out).mono ?_;clear c0;rintro e w2 ⟨rfl,hb2⟩;have HB2:Hid (Below w.heap.size w w2):=hid (HB1.out.trans (hb2.mono HB1.out.size));clear hb2;by_cases k2:k=2
 ·subst k2;have e2:isC 2=true:=rfl
  go_wp2_with fail
  go_ret
  exact ⟨by rw [HR.out];rfl,HB2.out⟩
 have e2:isC k=false:=by simp [isC,k4,k2]
 have c1:=(HL.out.below HB2.out).c1
 go_wp2_with fail
 refine (G2.out w2 HB2.out).mono ?_;clear c1;rintro e w3 ⟨rfl,hb3⟩;have HB3:Hid (Below w.heap.size w w3):=hid (HB2.out.trans (hb3.mono HB2.out.size));clear hb3;by_cases k3:k=3
 ·subst k3;have e3:isS 3=true:=rfl
  go_wp2_with fail
  go_ret
  exact ⟨by rw [HR.out];rfl,HB3.out⟩
 have e3:isS k=false:=by simp [isS,k3]
 have HK1:Hid (k=1):=hid (by have:=HRR.out;omega)
 go_wp2_with fail
 go_ret
 exact ⟨by rw [HR.out,HK1.out];rfl,HB3.out⟩
end Go.Proofs.YtfhdojnobmfefaaGreatDoor
namespace Go.Proofs.YtfhdojnobmfefaaGreatDoor
open Go.RowKit Go.Inc
set_option maxHeartbeats 1000000 in
theorem PD (ok:Nat->Prop) (a:Option Addr) (c:Nat) (kz:List Int) (z:Int) (w:World) (hs:Si ok w a kz) (hl:(kz.length:Int)<=9223372036854775807) :
  Calls Tryz.prog 154 #[.slice a kz.length c,.int .i64 z] w fun e w'=>(∃ r:Int,e=.returned (.int .i64 r)/\(decide (0<=r)=decide (z∈kz)))/\Below w.heap.size w w':=by
 have HS:=hid hs;obtain ⟨n,hn⟩:∃ n,n=kz.length:=⟨_,rfl⟩
 have HN:=hid hn;rw [<- hn] at hl ⊢;clear hs hn
 go_enter Tryz.func154,Tryz.ntmps154
 go_wp2_with fail
 go_loopw [8] (fun i wr=>∃ k:Nat,k<=n/\i=.int .i64 (k:Int)/\z∉kz.take k/\Below w.heap.size w wr) (fun i _=>n - (intOf i).toNat)
 case atStart=>exact ⟨0,Nat.zero_le _,rfl,by simp,Below.refl _ _⟩
 case round=>
  obtain ⟨k,hk,rfl,hno,hb⟩:=hrel;have HNO:=hid hno;have HB:=hid hb;clear hno hb;by_cases hlt:(k:Int) < n
  ·have hs:=HS.out.below HB.out;rcases hs with h0 | ⟨b,o,rfl,-,hc⟩
   ·exfalso;have:=HN.out;rw [h0] at this;simp at this;omega
   have hck:=hc k (by have:=HN.out;omega);have HSN:=hid (Ff (bs:=kz) (k:=k) (by have:=HN.out;omega));have HM:=hid (JH (zs:=kz) (k:=k) (by have:=HN.out;omega));obtain ⟨x,hx⟩:∃ x,x=kz.getD k 0:=⟨_,rfl⟩
   rw [<- hx] at hck HSN HM;have hkn:(k < n)=True:=eq_true (by omega);clear hc hx;by_cases hzx:z=x
   ·subst hzx
    go_wp2_with fail
    try go_quiet (fail)
    go_wp2_with fail
    go_ret
    exact ⟨⟨_,rfl,by simp [HM.out]⟩,HB.out⟩
   ·have hne:(z == x)=false:=by rw [beq_eq_false_iff_ne];exact hzx
    have HZX:=hid hzx;clear hzx
    go_wp2_with fail
    try go_quiet (fail)
    go_wp2_with fail
    go_roundw
    case rel=>exact ⟨k+1,by omega,by go_num,by rw [HSN.out,mem_snoc];rintro (h | h);exact HNO.out h;exact HZX.out h,HB.out⟩
    case measure=>simp [intOf];omega
  ·have hkf:(k < n)=False:=eq_false (by omega);have HKN:Hid (k=n):=hid (by omega);clear hlt
   go_wp2_with fail
   go_ret
   exact ⟨⟨_,rfl,by have h:=HNO.out;rw [HKN.out,HN.out,List.take_length] at h;simp [h]⟩,HB.out⟩
theorem KW (ok:Nat->Prop) (a:Option Addr) (c:Nat) (kz:List Int) (z:Int) (w:World) (hs:Si ok w a kz) (hl:(kz.length:Int)<=9223372036854775807) :
  Calls Tryz.prog 131 #[.slice a kz.length c,.int .i64 z] w fun e w'=>e=.returned (.bool (decide (z∈kz)))/\Below w.heap.size w w':=by
 have H:=hid (PD ok a c kz z w hs hl);obtain ⟨n,hn⟩:∃ n,n=kz.length:=⟨_,rfl⟩
 rw [<- hn] at H ⊢;clear hs hn hl
 go_enter Tryz.func131,Tryz.ntmps131
 go_wp2_with fail
 refine H.out.mono ?_;rintro e w1 ⟨⟨r,rfl,hr⟩,hb⟩;have HR:=hid hr;have HB:=hid hb;clear hr hb H
 go_wp2_with fail
 go_ret
 exact ⟨by rw [<- HR.out];rfl,HB.out⟩
theorem Ns {ok:Nat->Prop} {v:Value} {m:List Bool} {w:World} (h:Sm ok w v m) (q:Nat) (hq:q < m.length) (T:TypeId) :
  Calls Tryz.prog 71 #[v,.slice (some ⟨w.heap.size,0,none⟩) 1 1] (w.alloc (.cells #[.int .i64 (q:Int)] T)) fun e w'=>e=.returned (.int .i64 (if inB m q=true then 0 else 1))/\Sm ok w' v (m.set q true)/\Mv ok (w.alloc (.cells #[.int .i64 (q:Int)] T)) w':=by
 refine (Ip (fun b=>ok b/\b < w.heap.size) (fun b=>b=w.heap.size) v m (some ⟨w.heap.size,0,none⟩) 1 [(q:Int)] _ ((h.mono (ok':=fun b=>ok b/\b < w.heap.size) fun _ h1 h2=>⟨h1,h2⟩).below (Bz w _)) (Sj w (q:Int) T) (fun i e hh=>by have:=hh.2;omega) (by simp)).mono ?_;rintro e w' ⟨rfl,h1,h2⟩;rw [N9 hq] at h1 ⊢;refine ⟨?_,?_,h2.sub fun i _ hi=>hi.1⟩
 ·cases inB m q<;>rfl
 ·have h3:=h1.mono (ok':=ok) fun _ h _=>h.1;by_cases hm:inB m q=true
  ·rw [if_pos hm] at h3;rw [show m.set q true=m from E8 (by simp) fun i hi=>by
    rw [IE hq];split
    ·rename_i e;rw [e,hm]
    ·rfl]
   exact h3
  ·rw [if_neg hm] at h3;exact h3
theorem QY {ok:Nat->Prop} {v:Value} {m:List Bool} {w:World} (h:Sm ok w v m) (q:Nat) (hq:q < m.length) (T:TypeId) :
  Calls Tryz.prog 70 #[v,.slice (some ⟨w.heap.size,0,none⟩) 1 1] (w.alloc (.cells #[.int .i64 (q:Int)] T)) fun e w'=>e=.returned (.int .i64 (if inB m q=true then 1 else 0))/\Sm ok w' v (m.set q false)/\Mv ok (w.alloc (.cells #[.int .i64 (q:Int)] T)) w':=by
 refine (IL (fun b=>ok b/\b < w.heap.size) (fun b=>b=w.heap.size) v m (some ⟨w.heap.size,0,none⟩) 1 [(q:Int)] _ ((h.mono (ok':=fun b=>ok b/\b < w.heap.size) fun _ h1 h2=>⟨h1,h2⟩).below (Bz w _)) (Sj w (q:Int) T) (fun i e hh=>by have:=hh.2;omega) (by simp)).mono ?_;rintro e w' ⟨rfl,h1,h2⟩;rw [N9 hq] at h1 ⊢;refine ⟨?_,?_,h2.sub fun i _ hi=>hi.1⟩
 ·cases inB m q<;>rfl
 ·have h3:=h1.mono (ok':=ok) fun _ h _=>h.1;by_cases hm:inB m q=false
  ·rw [if_pos hm] at h3;rw [show m.set q false=m from E8 (by simp) fun i hi=>by
    rw [IE hq];split
    ·rename_i e;rw [e,hm]
    ·rfl]
   exact h3
  ·rw [if_neg hm] at h3;exact h3
def Gj (kz:List Int) (k:Nat):Bool:=decide ((k:Int)∈kz)
structure Vk (B:Nat) (w:World) (v:Value) (n:Nat) (l:List Int) (m:List Bool):Prop where
 sm:Sm (fun b=>B<=b) w v m
 len:m.length=n
 bits:∀ i,i < n->inB m i=decide ((i:Int)∈l)
set_option maxRecDepth 20000 in
set_option maxHeartbeats 4000000 in
theorem JP {C:Nat->Nat} {p:Nat} {v1 v2 v3:Value} {ks:List Nat} {w:World} (okz okk:Nat->Prop) (a ak:Option Addr) (cz ck:Nat) (zs kz:List Int) (wrong:Int) (h:Al C w p v1 v2 v3 ks) (hk:Ks ks) (hz:Si okz w a zs) (hkz:Si okk w ak kz) (hl:(zs.length:Int)<=9223372036854775807) (hl2:(kz.length:Int)<=9223372036854775807) :
  Calls Tryz.prog 97 #[.pointer (some ⟨p,0,none⟩),.slice a zs.length cz,.int .i64 wrong,.slice ak kz.length ck] w fun e w'=>e=.returned (.int .i64 (ES ks zs (Gj kz) wrong))/\Below w.heap.size w w':=by
 have HA:=hid h;have HK:=hid hk;have HZ:=hid hz;have HKZ:=hid hkz;obtain ⟨n,hn⟩:∃ n,n=zs.length:=⟨_,rfl⟩
 have HN:=hid hn;obtain ⟨nk,hnk⟩:∃ nk,nk=kz.length:=⟨_,rfl⟩
 have HNK:=hid hnk;obtain ⟨N,hN⟩:∃ N,N=ks.length:=⟨_,rfl⟩
 have HNN:=hid hN;have hN1:(2:Int)<=N:=by have:=hk.n2;omega
 have hN2:(N:Int)<=2048:=by have:=hk.n2048;omega
 have HP:Hid (∀ x,Below w.heap.size w x->Calls Tryz.prog 130 #[.pointer (some ⟨p,0,none⟩)] x fun e w'=>e=.returned (.int .i64 (N:Int))/\x=w'):=hid fun x hx=>by rw [hN];exact Oc (h.below hx)
 have hl2':=hl2;rw [<- hn] at hl ⊢;rw [<- hnk] at hl2 ⊢;have HL2:=hid hl2';clear h hk hz hkz hn hnk hN hl2'
 go_enter Tryz.func97,Tryz.ntmps97
 go_wp2_with fail
 go_loopw [16] (fun i wr=>∃ k:Nat,k<=n/\i=.int .i64 (k:Int)/\(∀ z∈zs.take k,2<=z/\z < (ks.length:Int))/\Below w.heap.size w wr) (fun i _=>n - (intOf i).toNat)
 case atStart=>exact ⟨0,Nat.zero_le _,rfl,by simp,Below.refl _ _⟩
 case round=>
  obtain ⟨k,hk,rfl,hin,hb⟩:=hrel;have HIN:=hid hin;have HB:=hid hb;clear hin hb;by_cases hlt:(k:Int) < n
  ·have hs:=HZ.out.below HB.out;rcases hs with h0 | ⟨b,o,rfl,-,hc⟩
   ·exfalso;have:=HN.out;rw [h0] at this;simp at this;omega
   have hck:=hc k (by have:=HN.out;omega);have HSN:=hid (Ff (bs:=zs) (k:=k) (by have:=HN.out;omega));have HM:=hid (JH (zs:=zs) (k:=k) (by have:=HN.out;omega));obtain ⟨x,hx⟩:∃ x,x=zs.getD k 0:=⟨_,rfl⟩
   rw [<- hx] at hck HSN HM;have hkn:(k < n)=True:=eq_true (by omega);clear hc hx;by_cases hx2:x < 2
   ·have HO:Hid (ES ks zs (Gj kz) wrong=10):=hid (Rk (Og HM.out (.inl hx2)))
    go_wp2_with fail
    go_ret
    exact ⟨by rw [HO.out];rfl,HB.out⟩
   have hx3:(2:Int)<=x:=by omega
   clear hx2;by_cases hxN:(N:Int)<=x
   ·have HO:Hid (ES ks zs (Gj kz) wrong=10):=hid (Rk (Og HM.out (.inr (by rw [<- HNN.out];exact hxN))))
    go_wp2_with fail
    refine (HP.out wr HB.out).mono ?_;rintro e w1 ⟨rfl,rfl⟩
    go_wp2_with fail
    go_ret
    exact ⟨by rw [HO.out];rfl,HB.out⟩
   have hxN2:x < (N:Int):=by omega
   clear hxN
   go_wp2_with fail
   refine (HP.out wr HB.out).mono ?_;rintro e w1 ⟨rfl,rfl⟩
   go_wp2_with fail
   go_roundw
   case rel=>exact ⟨k+1,by omega,by go_num,by rw [HSN.out];intro z hz;rcases mem_snoc.1 hz with h | h;exact HIN.out z h;subst h;have:=HNN.out;omega,HB.out⟩
   case measure=>simp [intOf];omega
  ·have hkf:(k < n)=False:=eq_false (by omega);have HKN:Hid (k=n):=hid (by omega);have HIR:Hid (∀ z∈zs,2<=z/\z < (ks.length:Int)):=hid (by have h:=HIN.out;rw [HKN.out,HN.out,List.take_length] at h;exact h);have HOF:Hid (LP ks.length zs=false):=hid (outR_false.2 HIR.out);clear hlt HIN;obtain ⟨wi,hwi⟩:∃ wi,wi=wr:=⟨_,rfl⟩
   subst hwi
   go_wp2_with fail
   refine (HP.out wi HB.out).mono ?_;rintro e w1 ⟨rfl,rfl⟩
   go_wp2_with fail
   refine (NZ N wi (by omega) hN2).mono ?_;rintro e w2 ⟨⟨vt,rfl,hv⟩,hb2⟩;have HT:Hid (Vk wi.heap.size w2 vt ks.length (zs.take 0) (List.replicate N false)):=hid ⟨hv,by rw [List.length_replicate];exact HNN.out,fun i _=>by rw [Gh];simp⟩;have HB2:Hid (Below wi.heap.size wi w2):=hid hb2;clear hv hb2
   go_wp2_with fail
   go_loopw [34] (fun i wr=>∃ (k:Nat) (m:List Bool),k<=n/\i=.int .i64 (k:Int)/\Vk wi.heap.size wr vt ks.length (zs.take k) m/\(∀ z∈zs.take k,Gj kz (kd ks z.toNat)=true)/\(zs.take k).Nodup/\Below wi.heap.size wi wr) (fun i _=>n - (intOf i).toNat)
   case atStart=>exact ⟨0,_,Nat.zero_le _,rfl,HT.out,by simp,by simp,HB2.out⟩
   case round=>
    clear HT HB2;obtain ⟨k,m,hk,rfl,ht,hg,hnd,hb⟩:=hrel;have HT:=hid ht;have HG:=hid hg;have HND:=hid hnd;have HBI:Hid (Below wi.heap.size wi wr):=hid hb;have HBW:Hid (Below w.heap.size w wr):=hid (HB.out.trans (hb.mono HB.out.size));obtain ⟨wj,hwj⟩:∃ wj,wj=wr:=⟨_,rfl⟩
    subst hwj;clear ht hg hnd hb;by_cases hlt:(k:Int) < n
    ·have hs:=HZ.out.below HBW.out;rcases hs with h0 | ⟨b,o,rfl,-,hc⟩
     ·exfalso;have:=HN.out;rw [h0] at this;simp at this;omega
     have hck:=hc k (by have:=HN.out;omega);have HSN:=hid (Ff (bs:=zs) (k:=k) (by have:=HN.out;omega));have HM:=hid (JH (zs:=zs) (k:=k) (by have:=HN.out;omega));obtain ⟨x,hx⟩:∃ x,x=zs.getD k 0:=⟨_,rfl⟩
     rw [<- hx] at hck HSN HM;have hkn:(k < n)=True:=eq_true (by omega);obtain ⟨q,rfl⟩:=Int.eq_ofNat_of_zero_le (show (0:Int)<=x by have:=HIR.out x HM.out;omega);have hqn:q < ks.length:=by have:=HIR.out _ HM.out;omega
     have HKD:Hid (∀ y,Below w.heap.size w y->Calls Tryz.prog 132 #[.pointer (some ⟨p,0,none⟩),.int .i64 (q:Int)] y fun e w'=>e=.returned (.int .i64 (kd ks q:Int))/\Below y.heap.size y w'):=hid fun y hy=>by
      have:=QJ (q:Int) (HA.out.below hy) HK.out;rw [F7 hqn] at this;exact this
     have HCN:Hid (∀ y,Below w.heap.size w y->Calls Tryz.prog 131 #[.slice ak nk ck,.int .i64 (kd ks q:Int)] y fun e w'=>e=.returned (.bool (Gj kz (kd ks q)))/\Below y.heap.size y w'):=hid fun y hy=>by
      have:=KW okk ak ck kz (kd ks q:Int) y (HKZ.out.below hy) HL2.out;rw [<- HNK.out] at this;exact this
     obtain ⟨g,hg⟩:∃ g,g=Gj kz (kd ks q):=⟨_,rfl⟩
     rw [<- hg] at HCN;have HGD:=hid hg;have HQ:=hid hqn;clear hc hx hg hqn
     go_wp2_with fail
     refine (HKD.out wj HBW.out).mono ?_;rintro e w3 ⟨rfl,hb3⟩;have HB3:Hid (Below wi.heap.size wi w3):=hid (HBI.out.trans (hb3.mono HBI.out.size));have HW3:Hid (Below w.heap.size w w3):=hid (HBW.out.trans (hb3.mono HBW.out.size));have HT3:Hid (Sm (fun b=>wi.heap.size<=b) w3 vt m):=hid (HT.out.sm.below hb3);clear hb3
     go_wp2_with fail
     refine (HCN.out w3 HW3.out).mono ?_;rintro e w4 ⟨rfl,hb4⟩;have HB4:Hid (Below wi.heap.size wi w4):=hid (HB3.out.trans (hb4.mono HB3.out.size));have HW4:Hid (Below w.heap.size w w4):=hid (HW3.out.trans (hb4.mono HW3.out.size));have HT4:Hid (Sm (fun b=>wi.heap.size<=b) w4 vt m):=hid (HT3.out.below hb4);clear hb4;cases g
     ·have HO:Hid (ES ks zs (Gj kz) wrong=wrong):=hid (Zc HOF.out HM.out HGD.out.symm)
      go_wp2_with fail
      go_ret
      exact ⟨by rw [HO.out];rfl,HW4.out⟩
     ·have hadd:=Ns HT4.out q (by rw [HT.out.len];exact HQ.out) 3;have hbit:=HT.out.bits q HQ.out;by_cases hmem:(q:Int)∈zs.take k
      ·have HO:Hid (ES ks zs (Gj kz) wrong=wrong):=hid (Ub HOF.out (LV (k:=k+1) (by rw [HSN.out,nodup_snoc];exact fun h=>h.2 hmem)));rw [hbit,decide_eq_true hmem,if_pos rfl] at hadd;have HADD:=hid hadd;clear hadd hbit hmem
       go_wp2_with fail
       refine HADD.out.mono ?_;rintro e w5 ⟨rfl,-,hm5⟩;have HM5:=hid hm5;clear hm5
       go_wp2_with fail
       go_ret
       exact ⟨by rw [HO.out];rfl,(HW4.out.trans ((Bz w4 _).mono HW4.out.size)).trans (HM5.out.below (by have:=HW4.out.size;simp;omega) fun i hi=>by have:=HB.out.size;have hi2:wi.heap.size<=i:=hi;omega)⟩
      ·rw [hbit,decide_eq_false hmem,if_neg (by decide)] at hadd;have HADD:=hid hadd;have HMEM:=hid hmem;clear hadd hbit hmem
       go_wp2_with fail
       refine HADD.out.mono ?_;rintro e w5 ⟨rfl,hs5,hm5⟩;have HS5:=hid hs5;have HB5:Hid (Below wi.heap.size wi w5):=hid ((HB4.out.trans ((Bz w4 _).mono HB4.out.size)).trans (hm5.below (by have:=HB4.out.size;simp;omega) fun i hi=>hi));clear hm5 hs5 HADD
       go_wp2_with fail
       go_roundw
       case rel=>
        refine ⟨k+1,m.set q true,by omega,by go_num,⟨HS5.out,by rw [List.length_set];exact HT.out.len,fun i hi=>?_⟩,?_,?_,HB5.out⟩
        ·rw [IE (by rw [HT.out.len];exact HQ.out),HT.out.bits i hi,HSN.out];by_cases e:i=q
         ·subst e;simp
         ·have e2:¬ (i:Int)=(q:Int):=by omega
          simp [e,e2]
        ·rw [HSN.out];intro z hz;rcases mem_snoc.1 hz with h | h
         ·exact HG.out z h
         ·subst h;exact HGD.out.symm
        ·rw [HSN.out,nodup_snoc];exact ⟨HND.out,HMEM.out⟩
       case measure=>simp [intOf];omega
    ·have hkf:(k < n)=False:=eq_false (by omega);have HKN2:Hid (k=n):=hid (by omega);have HO:Hid (ES ks zs (Gj kz) wrong=0):=hid (by
      have h1:=HG.out;have h2:=HND.out;rw [HKN2.out,HN.out,List.take_length] at h1 h2;exact PO HOF.out h1 h2)
     clear hlt
     go_wp2_with fail
     go_ret
     exact ⟨by rw [HO.out];rfl,HBW.out⟩
end Go.Proofs.YtfhdojnobmfefaaGreatDoor
namespace Go.Proofs.YtfhdojnobmfefaaGreatDoor
open Go.RowKit Go.Inc
def IntsN (B:Nat) (w:World) (v:Value) (n:Nat) (zs:List Int):Prop:=∃ a c,v=.slice a n c/\Si (fun b=>B<=b) w a zs
theorem Ints.n {B:Nat} {w:World} {v:Value} {zs:List Int} (h:Ints B w v zs):IntsN B w v zs.length zs:=by
 obtain ⟨a,c,h1,_,_,h4⟩:=h;exact ⟨a,c,h1,h4⟩
theorem IntsN.mono {B B' n:Nat} {w:World} {v:Value} {zs:List Int} (h:IntsN B w v n zs) (hB:B'<=B):IntsN B' w v n zs:=by
 obtain ⟨a,c,h1,h4⟩:=h;exact ⟨a,c,h1,h4.mono fun _ h _=>Nat.le_trans hB h⟩
theorem IntsN.below {B n:Nat} {w w':World} {v:Value} {zs:List Int} (h:IntsN B w v n zs) (hb:Below w.heap.size w w'):IntsN B w' v n zs:=by
 obtain ⟨a,c,h1,h4⟩:=h;exact ⟨a,c,h1,h4.below hb⟩
theorem IntsN.mv {B n:Nat} {w w':World} {v:Value} {zs:List Int} {F:Nat->Prop} (h:IntsN B w v n zs) (hm:Mv F w w') (hF:∀ i,B<=i->¬ F i):IntsN B w' v n zs:=by
 obtain ⟨a,c,h1,h4⟩:=h;exact ⟨a,c,h1,UB h4 hm hF⟩
theorem Jz (m:List Bool):(D6 m).length<=m.length:=by unfold D6;rw [List.length_map];exact I9 _ _
theorem QZ (m:List Bool):(Ba false m (D6 m) (D6 m).length).1=List.replicate m.length false:=E8 (by rw [Bv,List.length_replicate]) fun i hi=>by
 rw [Bv] at hi;rw [GX _ _ _ hi,Gh];split
 ·rfl
 ·rename_i h
  cases hb:inB m i
  ·rfl
  ·exact absurd (List.mem_map.2 ⟨i,numsTo_mem.2 ⟨hi,hb⟩,rfl⟩) h
set_option maxRecDepth 20000 in
set_option maxHeartbeats 4000000 in
theorem Sr {C:Nat->Nat} {p:Nat} {v1 v2 v3:Value} {m1 m2 m3:List Bool} {w:World} (h:Al3 C w p v1 v2 v3 m1 m2 m3) (ht:Tab w) :
  Calls Tryz.prog 72 #[.pointer (some ⟨p,0,none⟩)] w fun e w'=>e=.returned (.tuple #[])/\Al3 C w' p v1 v2 v3 m1 (List.replicate m2.length false) (List.replicate m3.length false)/\Mv (fun i=>C i≠0) w w':=by
 have HAL:=hid h;have HT:=hid ht;obtain ⟨n2,hn2⟩:∃ n,n=(D6 m2).length:=⟨_,rfl⟩
 have HN2:=hid hn2;obtain ⟨n3,hn3⟩:∃ n,n=(D6 m3).length:=⟨_,rfl⟩
 have HN3:=hid hn3;clear h ht hn2 hn3;have HC0:Hid (∀ x,Grew w.drew x->x.cell? ⟨p,1,none⟩=some v2/\x.cell? ⟨p,2,none⟩=some v3):=hid fun x hx=>by
  have hb:Below w.heap.size w x:=⟨hx.os,hx.tape,hx.output,hx.size,hx.block⟩
  exact ⟨(HAL.out.below hb).c1,(HAL.out.below hb).c2⟩
 have HL0:Hid (∀ x,Grew w.drew x->Calls Tryz.prog 69 #[v2] x fun e w'=>(∃ y,e=.returned y/\IntsN w.heap.size w' y n2 (D6 m2))/\Below x.heap.size x w'):=hid fun x hx=>by
  have hb:Below w.heap.size w x:=⟨hx.os,hx.tape,hx.output,hx.size,hx.block⟩
  refine (Nr _ v2 m2 x (HAL.out.below hb).s2.bm (HT.out.below hb)).mono ?_;rintro e w' ⟨⟨y,h1,h2⟩,h3⟩;exact ⟨⟨y,h1,by rw [HN2.out];exact h2.n.mono hx.size⟩,h3⟩
 go_enter Tryz.func72,Tryz.ntmps72
 go_wp2_with fail
 refine Ag 9 [Af (.pointer (some ⟨p,0,none⟩)),Af (.pointer (some ⟨p,0,none⟩)),Af (.pointer (some ⟨p,1,none⟩)),Af (v2),Af (.pointer (some ⟨p,0,none⟩)),Af (.pointer (some ⟨p,0,none⟩)),Af (.pointer (some ⟨p,1,none⟩)),Af (v2),(fun x v=>IntsN w.heap.size x v n2 (D6 m2))] (by kernel_rfl) (by decide) (by kernel_rfl) ?_ ?_ ?_
 ·repeat' (first | exact List.forall_mem_nil _ | refine List.forall_mem_cons.2 ⟨?_,?_⟩)
  all_goals
   intro w w' v hw h
   first | exact h | exact IntsN.below h hw
 ·simp only [AllLt];refine ⟨⟨⟨⟨⟨⟨⟨⟨⟨trivial,?_⟩,?_⟩,?_⟩,?_⟩,?_⟩,?_⟩,?_⟩,?_⟩,?_⟩
  all_goals
   intro o' ho;simp at ho;subst ho;intro ρ w5 hR hL hS hG;obtain ⟨hl1,hl2,-⟩:=hL
  ·refine Aa rfl ?_;intro bA K Q' hK;have e0:=hS 0 (by kernel_rfl);change ρ (.tmp 0)=_ at e0;simp only [execOp];go_simp;exact hK _ _ rfl (Grew.refl _)
  ·refine Aa rfl ?_;intro bA K Q' hK;have e2:=apG (hG 0 2);change ρ (.tmp 2)=_ at e2;simp only [execOp];go_simp;exact hK _ _ rfl (Grew.refl _)
  ·refine Aa rfl ?_;intro bA K Q' hK;have e3:=apG (hG 1 3);change ρ (.tmp 3)=_ at e3;simp only [execOp];go_simp;exact hK _ _ rfl (Grew.refl _)
  ·refine Aa rfl ?_;intro bA K Q' hK;have e4:=apG (hG 2 4);change ρ (.tmp 4)=_ at e4;obtain ⟨x1,x2⟩:=HC0.out w5 hR;simp only [execOp];go_simp;exact hK _ _ rfl (Grew.refl _)
  ·refine Aa rfl ?_;intro bA K Q' hK;have e0:=hS 0 (by kernel_rfl);change ρ (.tmp 0)=_ at e0;simp only [execOp];go_simp;exact hK _ _ rfl (Grew.refl _)
  ·refine Aa rfl ?_;intro bA K Q' hK;have e6:=apG (hG 4 6);change ρ (.tmp 6)=_ at e6;simp only [execOp];go_simp;exact hK _ _ rfl (Grew.refl _)
  ·refine Aa rfl ?_;intro bA K Q' hK;have e7:=apG (hG 5 7);change ρ (.tmp 7)=_ at e7;simp only [execOp];go_simp;exact hK _ _ rfl (Grew.refl _)
  ·refine Aa rfl ?_;intro bA K Q' hK;have e8:=apG (hG 6 8);change ρ (.tmp 8)=_ at e8;obtain ⟨x1,x2⟩:=HC0.out w5 hR;simp only [execOp];go_simp;exact hK _ _ rfl (Grew.refl _)
  ·refine Aa rfl ?_;intro bA K Q' hK;have e9:=apG (hG 7 9);change ρ (.tmp 9)=_ at e9;simp only [execOp];go_simp;refine (HL0.out w5 hR).mono ?_;rintro r9 w9 ⟨⟨y,rfl,hy⟩,hb9⟩;exact hK _ _ hy hb9
 ·intro v w3 hR hG;have h3:v 3=v2:=hG.1.1.1.1.1.2;obtain ⟨ay,cy,h8,hsi⟩:IntsN w.heap.size w3 (v 8) n2 (D6 m2):=hG.2;have hb:Below w.heap.size w w3:=⟨hR.os,hR.tape,hR.output,hR.size,hR.block⟩
  have HB0:=hid hb;have HD0:Hid (Calls Tryz.prog 70 #[v2,.slice ay n2 cy] w3 fun e w'=>Sm (fun b=>C b=3) w' v2 (List.replicate m2.length false)/\Mv (fun b=>C b=3) w3 w'/\∃ z:Int,e=.returned (.int .i64 z)):=hid (by
   have hd:=IL (fun b=>C b=3) (fun b=>w.heap.size<=b) v2 m2 ay cy (D6 m2) w3 (HAL.out.below hb).s2 hsi (fun i hi hc=>by have:=HAL.out.old i (by rw [hc];decide);omega) (by have:=Jz m2;have:=HAL.out.s2.bm.len;omega);rw [QZ,<- HN2.out] at hd;exact hd.mono fun e w' h=>⟨h.2.1,h.2.2,_,h.1⟩)
  clear hG hR hsi hb HC0 HL0;simp [stG,stU,Ar,Act.put,h3,h8];clear h3 h8
  go_wp2_with fail
  refine HD0.out.mono ?_;rintro e w4 ⟨hs,hm,z,rfl⟩;have HAL4:Hid (Al3 C w4 p v1 v2 v3 m1 (List.replicate m2.length false) m3):=hid ((HAL.out.below HB0.out).turn2 hm hs);have HM4:Hid (Mv (fun i=>C i≠0) w w4):=hid ((Mv.of_below HB0.out).trans' hm fun i _ hi=>by rw [show C i=3 from hi];decide);have HT4:Hid (Tab w4):=hid (HT.out.mv HM4.out (fun h=>h HAL.out.z0));clear hs hm HD0;have HC1:Hid (∀ x,Grew w4.drew x->x.cell? ⟨p,1,none⟩=some v2/\x.cell? ⟨p,2,none⟩=some v3):=hid fun x hx=>by
   have hb:Below w4.heap.size w4 x:=⟨hx.os,hx.tape,hx.output,hx.size,hx.block⟩
   exact ⟨(HAL4.out.below hb).c1,(HAL4.out.below hb).c2⟩
  have HL1:Hid (∀ x,Grew w4.drew x->Calls Tryz.prog 69 #[v3] x fun e w'=>(∃ y,e=.returned y/\IntsN w4.heap.size w' y n3 (D6 m3))/\Below x.heap.size x w'):=hid fun x hx=>by
   have hb:Below w4.heap.size w4 x:=⟨hx.os,hx.tape,hx.output,hx.size,hx.block⟩
   refine (Nr _ v3 m3 x (HAL4.out.below hb).s3.bm (HT4.out.below hb)).mono ?_;rintro e w' ⟨⟨y,h1,h2⟩,h3⟩;exact ⟨⟨y,h1,by rw [HN3.out];exact h2.n.mono hx.size⟩,h3⟩
  go_wp2_with fail
  refine Ag 9 [Af (.pointer (some ⟨p,0,none⟩)),Af (.pointer (some ⟨p,0,none⟩)),Af (.pointer (some ⟨p,2,none⟩)),Af (v3),Af (.pointer (some ⟨p,0,none⟩)),Af (.pointer (some ⟨p,0,none⟩)),Af (.pointer (some ⟨p,2,none⟩)),Af (v3),(fun x v=>IntsN w4.heap.size x v n3 (D6 m3))] (by kernel_rfl) (by decide) (by kernel_rfl) ?_ ?_ ?_
  ·repeat' (first | exact List.forall_mem_nil _ | refine List.forall_mem_cons.2 ⟨?_,?_⟩)
   all_goals
    intro w w' v hw h
    first | exact h | exact IntsN.below h hw
  ·simp only [AllLt];refine ⟨⟨⟨⟨⟨⟨⟨⟨⟨trivial,?_⟩,?_⟩,?_⟩,?_⟩,?_⟩,?_⟩,?_⟩,?_⟩,?_⟩
   all_goals
    intro o' ho;simp at ho;subst ho;intro ρ w5 hR hL hS hG;obtain ⟨hl1,hl2,-⟩:=hL
   ·refine Aa rfl ?_;intro bA K Q' hK;have e0:=hS 0 (by kernel_rfl);change ρ (.tmp 0)=_ at e0;simp only [execOp];go_simp;exact hK _ _ rfl (Grew.refl _)
   ·refine Aa rfl ?_;intro bA K Q' hK;have e12:=apG (hG 0 12);change ρ (.tmp 12)=_ at e12;simp only [execOp];go_simp;exact hK _ _ rfl (Grew.refl _)
   ·refine Aa rfl ?_;intro bA K Q' hK;have e13:=apG (hG 1 13);change ρ (.tmp 13)=_ at e13;simp only [execOp];go_simp;exact hK _ _ rfl (Grew.refl _)
   ·refine Aa rfl ?_;intro bA K Q' hK;have e14:=apG (hG 2 14);change ρ (.tmp 14)=_ at e14;obtain ⟨x1,x2⟩:=HC1.out w5 hR;simp only [execOp];go_simp;exact hK _ _ rfl (Grew.refl _)
   ·refine Aa rfl ?_;intro bA K Q' hK;have e0:=hS 0 (by kernel_rfl);change ρ (.tmp 0)=_ at e0;simp only [execOp];go_simp;exact hK _ _ rfl (Grew.refl _)
   ·refine Aa rfl ?_;intro bA K Q' hK;have e16:=apG (hG 4 16);change ρ (.tmp 16)=_ at e16;simp only [execOp];go_simp;exact hK _ _ rfl (Grew.refl _)
   ·refine Aa rfl ?_;intro bA K Q' hK;have e17:=apG (hG 5 17);change ρ (.tmp 17)=_ at e17;simp only [execOp];go_simp;exact hK _ _ rfl (Grew.refl _)
   ·refine Aa rfl ?_;intro bA K Q' hK;have e18:=apG (hG 6 18);change ρ (.tmp 18)=_ at e18;obtain ⟨x1,x2⟩:=HC1.out w5 hR;simp only [execOp];go_simp;exact hK _ _ rfl (Grew.refl _)
   ·refine Aa rfl ?_;intro bA K Q' hK;have e19:=apG (hG 7 19);change ρ (.tmp 19)=_ at e19;simp only [execOp];go_simp;refine (HL1.out w5 hR).mono ?_;rintro r9 w9 ⟨⟨y,rfl,hy⟩,hb9⟩;exact hK _ _ hy hb9
  ·intro v w6 hR hG;have h3:v 3=v3:=hG.1.1.1.1.1.2;obtain ⟨ay,cy,h8,hsi⟩:IntsN w4.heap.size w6 (v 8) n3 (D6 m3):=hG.2;have hb:Below w4.heap.size w4 w6:=⟨hR.os,hR.tape,hR.output,hR.size,hR.block⟩
   have HB1:=hid hb;have HD1:Hid (Calls Tryz.prog 70 #[v3,.slice ay n3 cy] w6 fun e w'=>Sm (fun b=>C b=4) w' v3 (List.replicate m3.length false)/\Mv (fun b=>C b=4) w6 w'/\∃ z:Int,e=.returned (.int .i64 z)):=hid (by
    have hd:=IL (fun b=>C b=4) (fun b=>w4.heap.size<=b) v3 m3 ay cy (D6 m3) w6 (HAL4.out.below hb).s3 hsi (fun i hi hc=>by have:=HAL4.out.old i (by rw [hc];decide);omega) (by have:=Jz m3;have:=HAL4.out.s3.bm.len;omega);rw [QZ,<- HN3.out] at hd;exact hd.mono fun e w' h=>⟨h.2.1,h.2.2,_,h.1⟩)
   clear hG hR hsi hb HC1 HL1;simp [stG,stU,Ar,Act.put,h3,h8];clear h3 h8
   go_wp2_with fail
   refine HD1.out.mono ?_;rintro e w7 ⟨hs,hm,z,rfl⟩;have HAL7:Hid (Al3 C w7 p v1 v2 v3 m1 (List.replicate m2.length false) (List.replicate m3.length false)):=hid ((HAL4.out.below HB1.out).turn3 hm hs);have HM7:Hid (Mv (fun i=>C i≠0) w w7):=hid (HM4.out.trans ((Mv.of_below HB1.out).trans' hm fun i _ hi=>by rw [show C i=4 from hi];decide));clear hs hm HD1
   go_wp2_with fail
   go_end0
   exact ⟨rfl,HAL7.out,HM7.out⟩
end Go.Proofs.YtfhdojnobmfefaaGreatDoor
namespace Go.Proofs.YtfhdojnobmfefaaGreatDoor
open Go.RowKit Go.Inc
theorem UQ {p:Nat->Bool} {f:Nat->Nat} {ks:List Nat} (n:Nat) (hn:n=ks.length) (h:∀ k,p (f k)=false):List.replicate n false=Bo p (F6 f ks):=by
 subst hn;refine E8 (by rw [AQ,Ef,List.length_replicate]) fun i hi=>?_;rw [List.length_replicate] at hi;rw [Gh,BA (by rw [Ef];exact hi)];unfold F6;rw [Ko _ hi,h]
theorem TS (ks:List Nat):(Ba true (Ba false (Bo isC ks) (BN isP ks) (BN isP ks).length).1 (BN isS ks) (BN isS ks).length).1=Bo isC (F6 cK ks):=E8 (by rw [Bv,Bv,AQ,AQ,Ef]) fun i hi=>by
 rw [Bv,Bv,AQ] at hi;rw [GX _ _ _ (by rw [Bv,AQ];exact hi),GX _ _ _ (by rw [AQ];exact hi),BA hi,BA (by rw [Ef];exact hi)];unfold F6;rw [Ko _ hi];simp only [NJ,aW,aX,hi,true_and];generalize kd ks i=k;unfold isC cK;by_cases h4:k=4
 ·subst h4;decide
 ·by_cases h3:k=3
  ·subst h3;decide
  ·simp [h3,h4]
theorem gY (k:Nat):isS (cK k)=false:=by
 unfold isS cK;by_cases h4:k=4
 ·simp [h4]
 ·by_cases h3:k=3
  ·simp [h3]
  ·simp [h3,h4]
theorem gZ (k:Nat):isP (cK k)=false:=by
 unfold isP cK;by_cases h4:k=4
 ·simp [h4]
 ·by_cases h3:k=3
  ·simp [h3]
  ·simp [h3,h4]
theorem Xy {C:Nat->Nat} {w w':World} (h:Mv (fun i=>C i≠0) w w') (hz:C 0=0) (ht:Tab w):Tab w':=ht.mv h fun hh=>hh hz
theorem Jc {C:Nat->Nat} {k:Nat} {w w':World} (h:Mv (fun i=>C i=k) w w') (hk:k≠0):Mv (fun i=>C i≠0) w w':=h.sub fun i _ hi=>by rw [show C i=k from hi];exact hk
theorem Rz {w:World} (ok:Nat->Prop) (v:Value) (q:Nat->Bool) (ks:List Nat) (x:World) (hs:Sm ok x v (Bo q ks)) (ht:Tab x) (hw:w.heap.size<=x.heap.size) (n:Nat) (hn:n=(BN q ks).length) :
  Calls Tryz.prog 69 #[v] x fun e w'=>(∃ y,e=.returned y/\IntsN w.heap.size w' y n (BN q ks))/\Below x.heap.size x w':=by
 refine (Nr ok v _ x hs.bm ht).mono ?_;rintro e w' ⟨⟨y,h1,h2⟩,h3⟩;rw [SY] at h2;exact ⟨⟨y,h1,by rw [hn];exact h2.n.mono hw⟩,h3⟩
set_option maxRecDepth 20000 in
set_option maxHeartbeats 4000000 in
theorem TT {C:Nat->Nat} {p:Nat} {v1 v2 v3:Value} {ks:List Nat} {w:World} (h:Al C w p v1 v2 v3 ks) (hk:Ks ks) (ht:Tab w) :
  Calls Tryz.prog 25 #[.pointer (some ⟨p,0,none⟩)] w fun e w'=>(∃ x,e=.returned x/\IntsN w.heap.size w' x (BN isP ks).length (BN isP ks))/\Al C w' p v1 v2 v3 (F6 cK ks)/\Mv (fun i=>C i≠0) w w':=by
 have HAL:=hid h;have HT:=hid ht;have HK:=hid hk;obtain ⟨n,hn⟩:∃ n,n=(BN isP ks).length:=⟨_,rfl⟩
 have HN:=hid hn;obtain ⟨ns,hns⟩:∃ n,n=(BN isS ks).length:=⟨_,rfl⟩
 have HNS:=hid hns;have HA:=hid (Rz (w:=w) _ v3 isP ks w h.s3 ht (Nat.le_refl _) n hn);have c2:=h.c2;rw [<- hn];clear h ht hk hn hns
 go_enter Tryz.func25,Tryz.ntmps25
 go_wp2_with fail
 refine HA.out.mono ?_;clear HA c2;rintro e w1 ⟨⟨y,rfl,hy⟩,hb⟩;have HY1:=hid hy;obtain ⟨ay,cy,rfl,hsi⟩:=hy;have HAL1:Hid (Al C w1 p v1 v2 v3 ks):=hid (HAL.out.below hb);have HB1:=hid hb;have HT1:Hid (Tab w1):=hid (HT.out.below hb);have hle:=Ou isP ks;have hle2:=GH isP ks;have hd:=IL (fun b=>C b=2) (fun b=>w.heap.size<=b) v1 _ ay cy (BN isP ks) w1 HAL1.out.s1 hsi (fun i hi hc=>by have:=HAL.out.old i (by rw [hc];decide);omega) (by have:=HK.out.n2048;omega);rw [<- HN.out] at hd;have HD:=hid hd;have c0:=HAL1.out.c0;clear hb hsi hd hle hle2
 go_wp2_with fail
 refine HD.out.mono ?_;clear c0 HD;rintro e w2 ⟨rfl,hs,hm⟩;rw [HN.out] at hs;have HAL2:Hid (Al3 C w2 p v1 v2 v3 (Ba false (Bo isC ks) (BN isP ks) (BN isP ks).length).1 (Bo isS ks) (Bo isP ks)):=hid (HAL1.out.turn1 hm hs);have HM2:Hid (Mv (fun i=>C i≠0) w w2):=hid ((Mv.of_below HB1.out).trans (Jc hm (by decide)));have HT2:Hid (Tab w2):=hid (HT1.out.mv hm fun h0=>by have h1:C 0=2:=h0;rw [HAL.out.z0] at h1;cases h1);have HY2:Hid (IntsN w.heap.size w2 (.slice ay n cy) n (BN isP ks)):=hid (HY1.out.mv hm fun i hi hc=>by have:=HAL.out.old i (by rw [show C i=2 from hc];decide);omega);clear hs hm HY1;have HC5:Hid (∀ x,Grew w2.drew x->x.cell? ⟨p,0,none⟩=some v1/\x.cell? ⟨p,1,none⟩=some v2):=hid fun x hx=>by
  have hb:Below w2.heap.size w2 x:=⟨hx.os,hx.tape,hx.output,hx.size,hx.block⟩
  exact ⟨(HAL2.out.below hb).c0,(HAL2.out.below hb).c1⟩
 have HL5:Hid (∀ x,Grew w2.drew x->Calls Tryz.prog 69 #[v2] x fun e w'=>(∃ y,e=.returned y/\IntsN w2.heap.size w' y ns (BN isS ks))/\Below x.heap.size x w'):=hid fun x hx=>by
  have hb:Below w2.heap.size w2 x:=⟨hx.os,hx.tape,hx.output,hx.size,hx.block⟩
  exact Rz (w:=w2) _ v2 isS ks x (HAL2.out.below hb).s2 (HT2.out.below hb) hx.size ns HNS.out
 obtain ⟨mA,hmA⟩:∃ mA,mA=(Ba false (Bo isC ks) (BN isP ks) (BN isP ks).length).1:=⟨_,rfl⟩
 have HMA:=hid hmA;rw [<- hmA] at HAL2;clear hmA HAL1 HB1 HT1
 go_wp2_with fail
 refine Ag 11 [Af (.pointer (some ⟨p,0,none⟩)),Af (.pointer (some ⟨p,0,none⟩)),Af (.pointer (some ⟨p,0,none⟩)),Af (.pointer (some ⟨p,0,none⟩)),Af (v1),Af (.pointer (some ⟨p,0,none⟩)),Af (.pointer (some ⟨p,0,none⟩)),Af (.pointer (some ⟨p,0,none⟩)),Af (.pointer (some ⟨p,1,none⟩)),Af (v2),(fun x v=>IntsN w2.heap.size x v ns (BN isS ks))] (by kernel_rfl) (by decide) (by kernel_rfl) ?_ ?_ ?_
 ·repeat' (first | exact List.forall_mem_nil _ | refine List.forall_mem_cons.2 ⟨?_,?_⟩)
  all_goals
   intro w w' v hw h
   first | exact h | exact IntsN.below h hw
 ·simp only [AllLt];refine ⟨⟨⟨⟨⟨⟨⟨⟨⟨⟨⟨trivial,?_⟩,?_⟩,?_⟩,?_⟩,?_⟩,?_⟩,?_⟩,?_⟩,?_⟩,?_⟩,?_⟩
  all_goals
   intro o' ho;simp at ho;subst ho;intro ρ w5 hR hL hS hG;obtain ⟨hl1,hl2,-⟩:=hL
  ·refine Aa rfl ?_;intro bA K Q' hK;have e0:=hS 0 (by kernel_rfl);change ρ (.tmp 0)=_ at e0;simp only [execOp];go_simp;exact hK _ _ rfl (Grew.refl _)
  ·refine Aa rfl ?_;intro bA K Q' hK;have e19:=apG (hG 0 19);change ρ (.tmp 19)=_ at e19;simp only [execOp];go_simp;exact hK _ _ rfl (Grew.refl _)
  ·refine Aa rfl ?_;intro bA K Q' hK;have e20:=apG (hG 1 20);change ρ (.tmp 20)=_ at e20;simp only [execOp];go_simp;exact hK _ _ rfl (Grew.refl _)
  ·refine Aa rfl ?_;intro bA K Q' hK;have e21:=apG (hG 2 21);change ρ (.tmp 21)=_ at e21;simp only [execOp];go_simp;exact hK _ _ rfl (Grew.refl _)
  ·refine Aa rfl ?_;intro bA K Q' hK;have e22:=apG (hG 3 22);change ρ (.tmp 22)=_ at e22;obtain ⟨x1,x2⟩:=HC5.out w5 hR;simp only [execOp];go_simp;exact hK _ _ rfl (Grew.refl _)
  ·refine Aa rfl ?_;intro bA K Q' hK;have e0:=hS 0 (by kernel_rfl);change ρ (.tmp 0)=_ at e0;simp only [execOp];go_simp;exact hK _ _ rfl (Grew.refl _)
  ·refine Aa rfl ?_;intro bA K Q' hK;have e24:=apG (hG 5 24);change ρ (.tmp 24)=_ at e24;simp only [execOp];go_simp;exact hK _ _ rfl (Grew.refl _)
  ·refine Aa rfl ?_;intro bA K Q' hK;have e25:=apG (hG 6 25);change ρ (.tmp 25)=_ at e25;simp only [execOp];go_simp;exact hK _ _ rfl (Grew.refl _)
  ·refine Aa rfl ?_;intro bA K Q' hK;have e26:=apG (hG 7 26);change ρ (.tmp 26)=_ at e26;simp only [execOp];go_simp;exact hK _ _ rfl (Grew.refl _)
  ·refine Aa rfl ?_;intro bA K Q' hK;have e27:=apG (hG 8 27);change ρ (.tmp 27)=_ at e27;obtain ⟨x1,x2⟩:=HC5.out w5 hR;simp only [execOp];go_simp;exact hK _ _ rfl (Grew.refl _)
  ·refine Aa rfl ?_;intro bA K Q' hK;have e28:=apG (hG 9 28);change ρ (.tmp 28)=_ at e28;simp only [execOp];go_simp;refine (HL5.out w5 hR).mono ?_;rintro r9 w9 ⟨⟨y,rfl,hy⟩,hb9⟩;exact hK _ _ hy hb9
 ·intro v w3 hR hG;have h4:v 4=v1:=hG.1.1.1.1.1.1.2;obtain ⟨az,cz,h10,hsi⟩:IntsN w2.heap.size w3 (v 10) ns (BN isS ks):=hG.2;have hb:Below w2.heap.size w2 w3:=⟨hR.os,hR.tape,hR.output,hR.size,hR.block⟩
  have HB3:=hid hb;have hle:=Ou isS ks;have hle2:=GH isS ks;have hd:=Ip (fun b=>C b=2) (fun b=>w2.heap.size<=b) v1 mA az cz (BN isS ks) w3 (HAL2.out.below hb).s1 hsi (fun i hi hc=>by have:=HAL2.out.old i (by rw [hc];decide);omega) (by have:=HK.out.n2048;omega);rw [<- HNS.out] at hd;have HD:=hid hd;clear hG hR hsi hb hd hle hle2 HC5 HL5;simp [stG,stU,Ar,Act.put,h4,h10];clear h4 h10
  go_wp2_with fail
  refine HD.out.mono ?_;clear HD;rintro e w4 ⟨rfl,hs,hm⟩;rw [HNS.out,HMA.out,TS] at hs;have HAL4:Hid (Al3 C w4 p v1 v2 v3 (Bo isC (F6 cK ks)) (Bo isS ks) (Bo isP ks)):=hid ((HAL2.out.below HB3.out).turn1 hm hs);have HM4:Hid (Mv (fun i=>C i≠0) w2 w4):=hid ((Mv.of_below HB3.out).trans (Jc hm (by decide)));have HT4:Hid (Tab w4):=hid (Xy HM4.out HAL.out.z0 HT2.out);clear hs hm
  go_wp2_with fail
  refine (Sr HAL4.out HT4.out).mono ?_;rintro e w6 ⟨rfl,hal,hm⟩;have HAL6:=hid hal;have HM6:=hid hm;clear hal hm
  go_wp2_with fail
  go_ret
  refine ⟨⟨_,rfl,HY2.out.mv (HM4.out.trans HM6.out) fun i hi hc=>?_⟩,?_,HM2.out.trans (HM4.out.trans HM6.out)⟩
  ·exact hc (Decidable.byContradiction fun hh=>by have:=HAL.out.old i hh;omega)
  ·have hh:=HAL6.out;rw [UQ (p:=isS) (f:=cK) (ks:=ks) _ (by rw [AQ]) gY,UQ (p:=isP) (f:=cK) (ks:=ks) _ (by rw [AQ]) gZ] at hh;exact hh
end Go.Proofs.YtfhdojnobmfefaaGreatDoor
namespace Go.Proofs.YtfhdojnobmfefaaGreatDoor
open Go.RowKit Go.Inc
theorem CO {p:Nat->Bool} {ks:List Nat} {zs:List Int} {k:Nat} (h:∀ z∈zs,p k=p (kd ks z.toNat)):Bo p (NE ks zs k)=Bo p ks:=E8 (by rw [AQ,AQ,CJ]) fun i hi=>by
 rw [AQ,CJ] at hi;rw [BA (by rw [CJ];exact hi),BA hi,GU hi];split
 ·rename_i hm;exact h _ hm
 ·rfl
theorem Hq {p:Nat->Bool} {ks:List Nat} {zs:List Int} {k:Nat} (hp:p k=true):(Ba true (Bo p ks) zs zs.length).1=Bo p (NE ks zs k):=E8 (by rw [Bv,AQ,AQ,CJ]) fun i hi=>by
 rw [Bv,AQ] at hi;rw [GX _ _ _ (by rw [AQ];exact hi),BA hi,BA (by rw [CJ];exact hi),GU hi];split
 ·rw [hp]
 ·rfl
def isG (k:Nat):Bool:=decide (k=2)||decide (k=3)
theorem bn:Gj [1]=isF:=funext fun k=>by
 unfold Gj isF;by_cases h:k=1
 ·subst h;decide
 ·have:¬ ((k:Int)∈([1]:List Int)):=by simp;omega
  simp [h,this]
theorem bi:Gj [2,3]=isG:=funext fun k=>by
 unfold Gj isG;by_cases h:k=2
 ·subst h;decide
 ·by_cases h3:k=3
  ·subst h3;decide
  ·have:¬ ((k:Int)∈([2,3]:List Int)):=by simp;omega
   simp [h,h3,this]
theorem dP (w:World) (z y:Int) (T:TypeId):Si (fun b=>b=w.heap.size) (w.alloc (.cells #[.int .i64 z,.int .i64 y] T)) (some ⟨w.heap.size,0,none⟩) [z,y]:=
 .inr ⟨_,_,rfl,rfl,fun i hi=>by
  have h0:i=0\/i=1:=by simp at hi;omega
  rcases h0 with rfl | rfl
  ·rw [cell_of_row _ w.heap.size _ _ _ _ (heap_alloc_new w _)];rfl
  ·rw [cell_of_row _ w.heap.size _ _ _ _ (heap_alloc_new w _)];rfl⟩
def Ih (ks:List Nat) (zs:List Int):Int:=ES ks zs isG 11
def ET (ks:List Nat) (zs:List Int):List Nat:=if Ih ks zs=0 then Ig ks zs else ks
theorem Rl (ks:List Nat) (zs:List Int) (good:Nat->Bool) {wrong:Int} (h:0<=wrong/\wrong<=11):0<=ES ks zs good wrong/\ES ks zs good wrong<=11:=by
 unfold ES;split
 ·decide
 ·split
  ·decide
  ·exact h
theorem Ks.gave {ks:List Nat} (h:Ks ks) (zs:List Int):Ks (ET ks zs):=by
 unfold ET;split
 ·rename_i he
  exact h.give (IQ (by decide) he).1
 ·exact h
set_option maxRecDepth 20000 in
set_option maxHeartbeats 4000000 in
theorem Yy {C:Nat->Nat} {p:Nat} {v1 v2 v3:Value} {ks:List Nat} {w:World} (okz:Nat->Prop) (a:Option Addr) (cz:Nat) (zs:List Int) (h:Al C w p v1 v2 v3 ks) (hk:Ks ks) (hz:Si okz w a zs) (hd:∀ i,okz i->C i=0) (hl:(zs.length:Int)<=9223372036854775807) :
  Calls Tryz.prog 123 #[.pointer (some ⟨p,0,none⟩),.slice a zs.length cz] w fun e w'=>e=.returned (.int .i64 (Ih ks zs))/\Al C w' p v1 v2 v3 (ET ks zs)/\Mv (fun i=>C i≠0) w w':=by
 have HAL:=hid h;have HZ:=hid hz;have HDJ:=hid hd;have HB0:=hid (Bz w (.cells #[.int .i64 2,.int .i64 3] 3));have hc:=JP (wrong:=11) okz (fun b=>b=w.heap.size) a (some ⟨w.heap.size,0,none⟩) cz 2 zs [2,3] (h.below HB0.out) hk (hz.below HB0.out) (dP w 2 3 3) hl (by simp);rw [bi] at hc;have HE:=hid (Rl ks zs isG (wrong:=11) (by decide));obtain ⟨E,hE⟩:∃ E,E=ES ks zs isG 11:=⟨_,rfl⟩
 have HEE:=hid hE;obtain ⟨n,hn⟩:∃ n,n=zs.length:=⟨_,rfl⟩
 have HN:=hid hn;rw [<- hn,<- hE] at hc;rw [<- hE] at HE;rw [<- hn] at hl ⊢;have HCH:=hid hc;clear h hk hz hd hc hE hn
 go_enter Tryz.func123,Tryz.ntmps123
 go_wp2_with fail
 refine HCH.out.mono ?_;clear HCH;rintro e w1 ⟨rfl,hb⟩;have HB1:Hid (Below w.heap.size w w1):=hid (HB0.out.trans (hb.mono (by simp)));have HAL1:Hid (Al C w1 p v1 v2 v3 ks):=hid (HAL.out.below HB1.out);clear hb;by_cases he:E=0
 ·subst he;have HIN:=hid (IQ (by decide) HEE.out.symm)
  go_wp2_with fail
  go_loopw [19] (fun i wr=>∃ k:Nat,k<=n/\i=.int .i64 (k:Int)/\Al C wr p v1 v2 v3 (Ig ks (zs.take k))/\Mv (fun i=>C i≠0) w wr) (fun i _=>n - (intOf i).toNat)
  case atStart=>exact ⟨0,Nat.zero_le _,rfl,by rw [List.take_zero,Wp];exact HAL1.out,Mv.of_below HB1.out⟩
  case round=>
   obtain ⟨k,hk,rfl,hal,hm⟩:=hrel;have HALR:=hid hal;have HM:=hid hm;clear hal hm;obtain ⟨wj,hwj⟩:∃ wj,wj=wr:=⟨_,rfl⟩
   subst hwj;by_cases hlt:(k:Int) < n
   ·have hs:=UB HZ.out HM.out fun i hi hc=>hc (HDJ.out i hi);rcases hs with h0 | ⟨b,o,rfl,-,hc⟩
    ·exfalso;have:=HN.out;rw [h0] at this;simp at this;omega
    have hck:=hc k (by have:=HN.out;omega);have HSN:=hid (Ff (bs:=zs) (k:=k) (by have:=HN.out;omega));have hmem:=JH (zs:=zs) (k:=k) (by have:=HN.out;omega);have hnd:(zs.take (k+1)).Nodup:=HIN.out.2.2.sublist (List.take_sublist _ _);rw [HSN.out] at hnd;obtain ⟨x,hx⟩:∃ x,x=zs.getD k 0:=⟨_,rfl⟩
    rw [<- hx] at hck HSN hmem hnd;obtain ⟨q,rfl⟩:=Int.eq_ofNat_of_zero_le (show (0:Int)<=x by have:=HIN.out.1 x hmem;omega);have hqn:q < ks.length:=by have:=HIN.out.1 _ hmem;omega
    have hnm:=(nodup_snoc.1 hnd).2;have hkd:=Py (ks:=ks) hqn hnm;have hgood:isG (kd ks q)=true:=HIN.out.2.1 _ hmem;have hsn:=TA (ks:=ks) (zs:=zs.take k) hqn;obtain ⟨ks1,hks1⟩:∃ ks1,ks1=Ig ks (zs.take k):=⟨_,rfl⟩
    rw [<- hks1] at HALR hkd hsn;have hq1:q < ks1.length:=by rw [hks1,Cm];exact hqn
    have hin:=BA (p:=isS) hq1;rw [hkd] at hin;have hdr:=QY (HALR.out.s2) q (by rw [AQ];exact hq1) 3;rw [hin] at hdr;have hkn:(k < n)=True:=eq_true (by omega);have c1:=HALR.out.c1;have HB5:=hid (Bz wj (.cells #[.int .i64 (q:Int)] 3));have HQ1:=hid hq1;have HKD:=hid hkd;have HSNN:=hid hsn;by_cases h3:kd ks q=3
    ·rw [h3,if_pos (show isS 3=true from rfl)] at hdr;have HDR:=hid hdr;have H3:=hid h3;clear hc hx hmem hnd hqn hnm hkd hgood hsn hks1 hq1 hin hdr h3
     go_wp2_with fail
     refine HDR.out.mono ?_;clear HDR c1;rintro e w2 ⟨rfl,hs2,hm2⟩;have HS2:=hid hs2;have HM2:=hid hm2;clear hs2 hm2
     go_wp2_with fail
     go_roundw
     case rel=>
      refine ⟨k+1,by omega,by go_num,?_,HM.out.trans ((Mv.of_below HB5.out).trans (Jc HM2.out (by decide)))⟩;rw [HSN.out,HSNN.out,H3.out];have hh:=(HALR.out.below HB5.out).turn2 HM2.out HS2.out;have e1:Bo isC ks1=Bo isC (ks1.set q (gK 3)):=(JX HQ1.out (by rw [HKD.out,H3.out];decide)).symm;have e2:Bo isP ks1=Bo isP (ks1.set q (gK 3)):=(JX HQ1.out (by rw [HKD.out,H3.out];decide)).symm;have e3:(Bo isS ks1).set q false=Bo isS (ks1.set q (gK 3)):=by rw [Lt];rfl
      rw [e1,e2,e3] at hh;exact hh
     case measure=>simp [intOf];omega
    ·have h2:kd ks q=2:=by unfold isG at hgood;simp [h3] at hgood;exact hgood
     rw [h2,if_neg (show ¬ isS 2=true by decide)] at hdr;have HDR:=hid hdr;have H2:=hid h2;clear hc hx hmem hnd hqn hnm hkd hgood hsn hks1 hq1 hin hdr h3 h2
     go_wp2_with fail
     refine HDR.out.mono ?_;clear HDR c1;rintro e w2 ⟨rfl,hs2,hm2⟩;have HAL2:=hid ((HALR.out.below HB5.out).turn2 hm2 hs2);have HM2:Hid (Mv (fun i=>C i≠0) w w2):=hid (HM.out.trans ((Mv.of_below HB5.out).trans (Jc hm2 (by decide))));clear hs2 hm2;have hadd:=Ns (HAL2.out.s3) q (by rw [AQ];exact HQ1.out) 3;have hin:=BA (p:=isP) HQ1.out;rw [HKD.out,H2.out] at hin;rw [hin,if_neg (show ¬ isP 2=true by decide)] at hadd;have HADD:=hid hadd;have HB6:=hid (Bz w2 (.cells #[.int .i64 (q:Int)] 3));have c2:=HAL2.out.c2;clear hadd hin
     go_wp2_with fail
     refine HADD.out.mono ?_;clear HADD c2;rintro e w3 ⟨rfl,hs3,hm3⟩;have HS3:=hid hs3;have HM3:=hid hm3;clear hs3 hm3
     go_wp2_with fail
     go_roundw
     case rel=>
      refine ⟨k+1,by omega,by go_num,?_,HM2.out.trans ((Mv.of_below HB6.out).trans (Jc HM3.out (by decide)))⟩;rw [HSN.out,HSNN.out,H2.out];have hh:=(HAL2.out.below HB6.out).turn3 HM3.out HS3.out;have e1:Bo isC ks1=Bo isC (ks1.set q (gK 2)):=(JX HQ1.out (by rw [HKD.out,H2.out];decide)).symm;have e2:(Bo isP ks1).set q true=Bo isP (ks1.set q (gK 2)):=by rw [Lt];rfl
      have e3:(Bo isS ks1).set q false=Bo isS (ks1.set q (gK 2)):=by rw [Lt];rfl
      rw [e1,e2,e3] at hh;exact hh
     case measure=>simp [intOf];omega
   ·have hkf:(k < n)=False:=eq_false (by omega);have HKN:Hid (k=n):=hid (by omega);clear hlt
    go_wp2_with fail
    go_ret
    have e3:ET ks zs=Ig ks zs:=if_pos (by unfold Ih;exact HEE.out.symm);rw [e3];refine ⟨by unfold Ih;rw [<- HEE.out];rfl,?_,HM.out⟩;have hh:=HALR.out;rw [HKN.out,HN.out,List.take_length] at hh;exact hh
 ·have hne:(E != 0)=true:=by rw [bne_iff_ne];exact he
  have HNE:=hid he;clear he
  go_wp2_with fail
  go_ret
  have e3:ET ks zs=ks:=if_neg (by unfold Ih;rw [<- HEE.out];exact HNE.out);rw [e3];exact ⟨by unfold Ih;rw [<- HEE.out];rfl,HAL1.out,Mv.of_below HB1.out⟩
end Go.Proofs.YtfhdojnobmfefaaGreatDoor
namespace Go.Proofs.YtfhdojnobmfefaaGreatDoor
open Go.RowKit Go.Inc
structure Zt (W0 A B D:Nat) (w:World) (b1 b2 b3 n:Nat):Prop where
 o1:W0<=A
 o2:A<=B
 o3:B<=D
 o4:D<=w.heap.size
 s1:Sm (fun b=>A<=b/\b < B) w (.pointer (some ⟨b1,0,none⟩)) (List.replicate n false)
 s2:Sm (fun b=>B<=b/\b < D) w (.pointer (some ⟨b2,0,none⟩)) (List.replicate n false)
 s3:Sm (fun b=>D<=b) w (.pointer (some ⟨b3,0,none⟩)) (List.replicate n false)
theorem NewSet.ptr {B:Nat} {w:World} {v:Value} {m:List Bool} (h:NewSet B w v m):∃ b,v=.pointer (some ⟨b,0,none⟩)/\Sm (fun b=>B<=b/\b < w.heap.size) w (.pointer (some ⟨b,0,none⟩)) m:=by
 obtain ⟨b,g,c,W,rfl,h2,h3,h4,h5⟩:=h;exact ⟨b,rfl,b,g,c,W,rfl,⟨h2,h4.blt⟩,⟨h3,h4.glt⟩,h4,h5⟩
set_option maxHeartbeats 2000000 in
theorem Su (n:Nat) (w:World) (h1:(1:Int)<=n) (h2:(n:Int)<=2048) :
  Calls Tryz.prog 96 #[.int .i64 (n:Int)] w fun e w'=>(∃ b1 b2 b3 A B D,e=.returned (.agg #[.pointer (some ⟨b1,0,none⟩),.pointer (some ⟨b2,0,none⟩),.pointer (some ⟨b3,0,none⟩)])/\Zt w.heap.size A B D w' b1 b2 b3 n)/\Below w.heap.size w w':=by
 have H:=hid fun x=>NZ n x h1 h2;obtain ⟨w0,hw0⟩:∃ w0,w0=w.alloc (.cells #[.pointer none,.pointer none,.pointer none] 107):=⟨_,rfl⟩
 have HB0:Hid (Below w.heap.size w w0):=hid (by rw [hw0];exact Bz w _);have HR0:Hid (w0.heap[w.heap.size]?=some (.cells #[.pointer none,.pointer none,.pointer none] 107 (0,0))):=hid (by rw [hw0];exact heap_alloc_new w _);have HSZ:Hid (w.heap.size < w0.heap.size):=hid (Ak HR0.out);have HW0:=hid hw0;clear hw0 h1 h2
 go_enter Tryz.func96,Tryz.ntmps96
 go_wp2_with fail
 rw [<- HW0.out];refine (H.out w0).mono ?_;rintro e w1 ⟨⟨u1,rfl,hv1⟩,hb1⟩;obtain ⟨b1,rfl,hs1⟩:=hv1.ptr;have HS1:=hid hs1;have HB1:=hid hb1;have HR1:=hid (Ac HR0.out hb1);clear hv1 hs1 hb1
 go_wp2_with fail
 refine (H.out w1).mono ?_;rintro e w2 ⟨⟨u2,rfl,hv2⟩,hb2⟩;obtain ⟨b2,rfl,hs2⟩:=hv2.ptr;have HS2:=hid hs2;have HB2:=hid hb2;have HR2:=hid (Ac HR1.out hb2);clear hv2 hs2 hb2
 go_wp2_with fail
 refine (H.out w2).mono ?_;rintro e w3 ⟨⟨u3,rfl,hv3⟩,hb3⟩;obtain ⟨b3,rfl,hs3⟩:=hv3.ptr;have HB3:=hid hb3;have HT:Hid (Zt w0.heap.size w0.heap.size w1.heap.size w2.heap.size w3 b1 b2 b3 n):=hid ⟨Nat.le_refl _,HB1.out.size,HB2.out.size,HB3.out.size,(HS1.out.below HB2.out).below HB3.out,HS2.out.below HB3.out,hs3.mono fun _ h _=>h.1⟩;have HR3:=hid (Ac HR2.out hb3);clear hv3 hs3 hb3
 go_wp2_with (refine Ad rfl 107 _ _ rfl w.heap.size #[.pointer (some ⟨b1,0,none⟩),.pointer (some ⟨b2,0,none⟩),.pointer (some ⟨b3,0,none⟩)] rfl rfl 107 _ HR3.out (by kernel_rfl) rfl (by simp [Value.oneCell']) ?_)
 intro w4 hr4 hg4;have HR4:=hid hr4;have HM4:Hid (Mv (fun i=>i=w.heap.size) w3 w4):=hid (Mv.of_grown hg4 fun g h _=>by cases h;rfl);clear hr4 hg4
 go_wp2_with fail
 have hne:∀ i,w0.heap.size<=i->¬ (i=w.heap.size):=fun i hi e=>by have:=HSZ.out;omega
 refine bodyPost_ret (v:=.agg #[.pointer (some ⟨b1,0,none⟩),.pointer (some ⟨b2,0,none⟩),.pointer (some ⟨b3,0,none⟩)]) (results_cell_row rfl _ _ w.heap.size 107 _ (0,0) _ rfl HR4.out Tryz.underlying107 rfl (by kernel_rfl)) rfl ⟨⟨b1,b2,b3,w0.heap.size,w1.heap.size,w2.heap.size,rfl,⟨HB0.out.size,HB1.out.size,HB2.out.size,Nat.le_trans HB3.out.size HM4.out.size,HT.out.s1.mv HM4.out fun i hi=>hne i hi.1,HT.out.s2.mv HM4.out fun i hi=>hne i (Nat.le_trans HB1.out.size hi.1),HT.out.s3.mv HM4.out fun i hi=>hne i (Nat.le_trans HB1.out.size (Nat.le_trans HB2.out.size hi))⟩⟩,?_⟩;have hb03:Below w.heap.size w w3:=HB0.out.trans ((HB1.out.trans ((HB2.out.trans (HB3.out.mono HB2.out.size)).mono HB1.out.size)).mono HB0.out.size);exact hb03.trans (HM4.out.below hb03.size fun i hi=>by rw [show i=w.heap.size from hi];exact Nat.le_refl _)
def NI (n:Nat) (zs:List Int):Int:=ES (Dl n) zs isF 8
def NH (n:Nat) (zs:List Int):List Nat:=NE (Dl n) zs 2
theorem aO {n:Nat} {zs:List Int} (h1:2<=n) (h2:n<=2048) (h:NI n zs=0):Ks (NH n zs):=by
 have:=(IQ (by decide) h).1;exact (Ks.fresh h1 h2).put this (by decide) (by decide)
def fF (n:Nat) (zs:List Int) (W0:Nat) (w':World) (e:Ending):Prop:=
 (NI n zs=0/\∃ C p v1 v2 v3,e=.returned (.tuple #[.pointer (some ⟨p,0,none⟩),.int .i64 0])/\Al C w' p v1 v2 v3 (NH n zs)/\∀ i,C i≠0->W0<=i)\/
  (NI n zs≠0/\e=.returned (.tuple #[.pointer none,.int .i64 (NI n zs)]))
set_option maxHeartbeats 4000000 in
theorem PQ (okz:Nat->Prop) (n:Nat) (a:Option Addr) (cz:Nat) (zs:List Int) (w:World) (hz:Si okz w a zs) (h1:(2:Int)<=n) (h2:(n:Int)<=2048) (hl:(zs.length:Int)<=9223372036854775807) (ht:Tab w) :
  Calls Tryz.prog 53 #[.int .i64 (n:Int),.slice a zs.length cz] w fun e w'=>fF n zs w.heap.size w' e/\Below w.heap.size w w':=by
 have HZ:Hid (Si (fun b=>b < w.heap.size) w a zs):=hid (hz.mono fun _ _ h=>h);have HW:Hid (0 < w.heap.size):=hid (Az (ht 0 (by decide)));have HL:=hid hl;have HE:=hid (Rl (Dl n) zs isF (wrong:=8) (by decide));obtain ⟨E,hE⟩:∃ E,E=NI n zs:=⟨_,rfl⟩
 have HEE:=hid hE;have HKF:Hid (Ks (Dl n)):=hid (Ks.fresh (by omega) (by omega));obtain ⟨nz,hnz⟩:∃ k,k=zs.length:=⟨_,rfl⟩
 have HNZ:=hid hnz;rw [show ES (Dl n) zs isF 8=E from hE.symm] at HE;have HO:=hid (Su n w (by omega) h2);rw [<- hnz];clear hz ht hl hE hnz
 go_enter Tryz.func53,Tryz.ntmps53
 go_wp2_with fail
 refine HO.out.mono ?_;clear HO;rintro e w1 ⟨⟨b1,b2,b3,A,B,D,rfl,hT⟩,hb1⟩;have HB1:=hid hb1;obtain ⟨wn,hwn⟩:∃ wn,wn=w1.alloc (.cells #[.pointer (some ⟨b1,0,none⟩),.pointer (some ⟨b2,0,none⟩),.pointer (some ⟨b3,0,none⟩)] 109):=⟨_,rfl⟩
 have hbn:Below w1.heap.size w1 wn:=by rw [hwn];exact Bz w1 _
 have hrow:wn.heap[w1.heap.size]?=some (.cells #[.pointer (some ⟨b1,0,none⟩),.pointer (some ⟨b2,0,none⟩),.pointer (some ⟨b3,0,none⟩)] 109 (0,0)):=by rw [hwn];exact heap_alloc_new w1 _
 have hszn:w1.heap.size < wn.heap.size:=Ak hrow;obtain ⟨C,hC⟩:∃ C:Nat->Nat,C=fun i=>if i=w1.heap.size then 1 else if A<=i/\i < B then 2 else if B<=i/\i < D then 3 else if D<=i/\i < w1.heap.size then 4 else 0:=⟨_,rfl⟩
 have o1:=hT.o1;have o2:=hT.o2;have o3:=hT.o3;have o4:=hT.o4;have k1:C w1.heap.size=1:=by rw [hC];exact if_pos rfl
 have k2:∀ i,A<=i/\i < B->C i=2:=fun i hi=>by
  rw [hC];show (if i=w1.heap.size then 1 else if A<=i/\i < B then 2 else if B<=i/\i < D then 3 else if D<=i/\i < w1.heap.size then 4 else 0)=2;rw [if_neg (by omega),if_pos hi]
 have k3:∀ i,B<=i/\i < D->C i=3:=fun i hi=>by
  rw [hC];show (if i=w1.heap.size then 1 else if A<=i/\i < B then 2 else if B<=i/\i < D then 3 else if D<=i/\i < w1.heap.size then 4 else 0)=3;rw [if_neg (by omega),if_neg (by omega),if_pos hi]
 have k4:∀ i,D<=i/\i < w1.heap.size->C i=4:=fun i hi=>by
  rw [hC];show (if i=w1.heap.size then 1 else if A<=i/\i < B then 2 else if B<=i/\i < D then 3 else if D<=i/\i < w1.heap.size then 4 else 0)=4;rw [if_neg (by omega),if_neg (by omega),if_neg (by omega),if_pos hi]
 have k0:∀ i,C i≠0->w.heap.size<=i/\i<=w1.heap.size:=fun i hi=>by
  rw [hC] at hi;have hi2:(if i=w1.heap.size then 1 else if A<=i/\i < B then 2 else if B<=i/\i < D then 3 else if D<=i/\i < w1.heap.size then 4 else 0)≠0:=hi;have:=HB1.out.size;by_cases h1:i=w1.heap.size
  ·omega
  ·by_cases h2:A<=i/\i < B
   ·omega
   ·by_cases h3:B<=i/\i < D
    ·omega
    ·by_cases h4:D<=i/\i < w1.heap.size
     ·omega
     ·rw [if_neg h1,if_neg h2,if_neg h3,if_neg h4] at hi2;exact absurd rfl hi2
 have HK0:=hid k0;have HALN:Hid (Al C wn w1.heap.size (.pointer (some ⟨b1,0,none⟩)) (.pointer (some ⟨b2,0,none⟩)) (.pointer (some ⟨b3,0,none⟩)) (Dl n)):=hid (by
  unfold Al;rw [Ii (p:=isC) rfl rfl,Ii (p:=isS) rfl rfl,Ii (p:=isP) rfl rfl];refine ⟨Decidable.byContradiction fun h=>by have:=(k0 0 h).1;have:=HW.out;omega,fun i hi=>by have:=(k0 i hi).2;omega,k1,cell_of_row wn _ 0 _ _ _ hrow,cell_of_row wn _ 1 _ _ _ hrow,cell_of_row wn _ 2 _ _ _ hrow,?_,?_,?_⟩
  ·exact (hT.s1.below hbn).mono fun b h _=>k2 b h
  ·exact (hT.s2.below hbn).mono fun b h _=>k3 b h
  ·exact (hT.s3.mono (ok':=fun b=>D<=b/\b < w1.heap.size) (fun b h1 h2=>⟨h1,h2⟩)).below hbn |>.mono fun b h _=>k4 b h)
 have HBN:Hid (Below w.heap.size w wn):=hid (HB1.out.trans (hbn.mono HB1.out.size));have HWN:=hid hwn;have HP:Hid (w.heap.size<=w1.heap.size):=hid HB1.out.size;have HB5:=hid (Bz wn (.cells #[.int .i64 1] 3));have hc:=JP (wrong:=8) (fun b=>b < w.heap.size) (fun b=>b=wn.heap.size) a (some ⟨wn.heap.size,0,none⟩) cz 1 zs [1] (HALN.out.below HB5.out) HKF.out ((HZ.out.below HBN.out).below HB5.out) (Sj wn 1 3) HL.out (by simp);rw [bn,show ES (Dl n) zs isF 8=E from HEE.out.symm,<- HNZ.out] at hc;have hszw:wn.heap.size=w1.heap.size+1:=by rw [hwn];simp
 rw [hszw,hwn] at hc;have HCH:=hid hc;clear hT hb1 hbn hrow hszn hC o1 o2 o3 o4 k1 k2 k3 k4 k0 hc hwn hszw
 go_wp2_with fail
 refine HCH.out.mono ?_;clear HCH;rw [<- HWN.out];rintro e w2 ⟨rfl,hb⟩;have HB2:Hid (Below wn.heap.size wn w2):=hid (HB5.out.trans (hb.mono HB5.out.size));have HALW:Hid (Al C w2 w1.heap.size (.pointer (some ⟨b1,0,none⟩)) (.pointer (some ⟨b2,0,none⟩)) (.pointer (some ⟨b3,0,none⟩)) (Dl n)):=hid (HALN.out.below HB2.out);have HBW:Hid (Below w.heap.size w w2):=hid (HBN.out.trans (HB2.out.mono HBN.out.size));clear hb;by_cases he:E=0
 ·subst he;have HIN:=hid (IQ (by decide) (show ES (Dl n) zs isF 8=0 from HEE.out.symm));have hadd:=Ip (fun b=>C b=2) (fun b=>b < w.heap.size) (.pointer (some ⟨b1,0,none⟩)) _ a cz zs w2 HALW.out.s1 (HZ.out.below HBW.out) (fun i hi hc=>by have:=(HK0.out i (by rw [show C i=2 from hc];decide)).1;omega) HL.out;rw [Hq (p:=isC) (k:=2) rfl,<- HNZ.out] at hadd;have HADD:=hid hadd;have c0:=HALW.out.c0;clear hadd
  go_wp2_with fail
  refine HADD.out.mono ?_;clear c0 HADD;rintro e w3 ⟨rfl,hs,hm⟩;have HS:=hid hs;have HM:=hid hm;clear hs hm
  go_wp2_with fail
  go_ret2
  refine ⟨.inl ⟨HEE.out.symm,C,w1.heap.size,.pointer (some ⟨b1,0,none⟩),.pointer (some ⟨b2,0,none⟩),.pointer (some ⟨b3,0,none⟩),rfl,?_,fun i hi=>(HK0.out i hi).1⟩,HBW.out.trans (HM.out.below HBW.out.size fun i hi=>(HK0.out i (by rw [show C i=2 from hi];decide)).1)⟩;have hh:=HALW.out.turn1 HM.out HS.out;have e1:Bo isS (Dl n)=Bo isS (NE (Dl n) zs 2):=(CO fun z hz=>by
   have h1:=isF_iff.1 (HIN.out.2.1 z hz);rw [h1];decide).symm
  have e2:Bo isP (Dl n)=Bo isP (NE (Dl n) zs 2):=(CO fun z hz=>by
   have h1:=isF_iff.1 (HIN.out.2.1 z hz);rw [h1];decide).symm
  rw [e1,e2] at hh;exact hh
 ·have hne:(E != 0)=true:=by rw [bne_iff_ne];exact he
  have HNE:=hid he;clear he
  go_wp2_with fail
  go_ret2
  exact ⟨.inr ⟨by rw [<- HEE.out];exact HNE.out,by rw [<- HEE.out];rfl⟩,HBW.out⟩
end Go.Proofs.YtfhdojnobmfefaaGreatDoor
namespace Go.Proofs.YtfhdojnobmfefaaGreatDoor
open Go.RowKit Go.Inc
theorem Sm.isPtr {ok:Nat->Prop} {w:World} {v:Value} {m:List Bool} (h:Sm ok w v m):∃ b,v=.pointer (some ⟨b,0,none⟩):=by
 obtain ⟨b,_,_,_,h1,_⟩:=h;exact ⟨b,h1⟩
theorem Sm.ne {ok:Nat->Prop} {w:World} {v:Value} {m:List Bool} {bx:Nat} {q:Option Addr} (h:Sm ok w v m) (hx:w.cell? ⟨bx,0,none⟩=some (.pointer q)):Sm (fun b=>ok b/\b≠bx) w v m:=by
 obtain ⟨b,g,c,W,h1,h2,h3,h4,h5⟩:=h;refine ⟨b,g,c,W,h1,⟨h2,fun e=>?_⟩,⟨h3,fun e=>?_⟩,h4,h5⟩
 ·have:=h4.hsz;rw [e,hx] at this;cases this
 ·have:=h4.cell h4.wlen.1;rw [e,hx] at this;cases this
theorem dm {ok:Nat->Prop} {x:World} {b:Nat} {v:Value} {m:List Bool} {T:TypeId} (hr:x.heap[b]?=some (.cells #[v] T (0,0))) (h:Sm ok x v m):BmS (fun _=>True) x (some ⟨b,0,none⟩) 1 (fun _=>m):=fun i hi=>by
 have h0:i=0:=by omega
 subst h0;exact ⟨_,0,v,rfl,trivial,by rw [cell_of_row _ b _ _ _ _ hr];rfl,h.bm.mono fun _ _ _=>trivial⟩
structure Used (okU:Nat->Prop) (w:World) (bx:Nat) (vu:Value) (ks:List Nat):Prop where
 tab:Tab w
 box:w.cell? ⟨bx,0,none⟩=some vu
 set:∃ m,Sm okU w vu m/\m.length=ks.length/\∀ i,i < ks.length->inB m i=(isC (kd ks i)||isS (kd ks i))
 k0:okU 0
 kb:okU bx
theorem Used.mv {okU:Nat->Prop} {w w':World} {bx:Nat} {vu:Value} {ks:List Nat} (h:Used okU w bx vu ks) (hm:Mv (fun b=>¬ okU b) w w'):Used okU w' bx vu ks:=by
 obtain ⟨m,h1,h2⟩:=h.set;exact ⟨h.tab.mv hm fun hh=>hh h.k0,hm.cell h.box fun hh=>hh h.kb,⟨m,h1.mv hm fun i hi hh=>hh hi,h2⟩,h.k0,h.kb⟩
def fK (ks:List Nat) (i:Nat):Bool:=isF (kd ks i)
theorem UL (ks:List Nat):AA isF ks=AO (fK ks) ks.length:=rfl
def ZA (ks:List Nat) (no:Nat) (pg e:Value):Prop:=
 (pg=.int .i64 0/\e=.int .i64 7/\AO (fK ks) no=AA isF ks)\/∃ k:Nat,no<=k/\k < ks.length/\pg=.int .i64 (k:Int)/\e=.int .i64 0/\fK ks k=true/\AO (fK ks) k=AO (fK ks) no
theorem Vu {okU:Nat->Prop} {w:World} {bx:Nat} {vu:Value} {ks:List Nat} (h:Used okU w bx vu ks) (hk:Ks ks) (no:Nat) (h2:2<=no) (hn:no<=ks.length) :
  Calls Tryz.prog 100 #[vu,.int .i64 (no:Int)] w fun e w'=>(∃ pg er,e=.returned (.tuple #[pg,er])/\ZA ks no pg er)/\w=w':=by
 obtain ⟨m,h3,h4,h5⟩:=h.set;have hl:=hk.n2048;refine (YD okU vu m (no:Int) w h3.bm h.tab (by omega) (by omega)).mono ?_;rintro e w' ⟨rfl,rfl⟩;refine ⟨?_,rfl⟩;have key:∀ i,no<=i->i < ks.length->((inB m i=false)↔fK ks i=true):=fun i h6 h7=>by
  have:=hk.rest i (by omega) h7;rw [h5 i h7];unfold fK isF isC isS;generalize kd ks i=k at *
  obtain rfl | rfl | rfl | rfl:k=1\/k=2\/k=3\/k=4:=by omega
  all_goals decide
 rw [h4];rcases L6 (inB m) (no:Int) false ks.length with ⟨e1,e2⟩ | ⟨k,e1,e2,e3,e4⟩
 ·rw [Gy e1];refine ⟨_,_,rfl,.inl ⟨rfl,rfl,?_⟩⟩;rw [UL];obtain ⟨t,ht⟩:∃ t,ks.length=no+t:=⟨ks.length - no,by omega⟩
  rw [ht];refine (Fh t fun i h6 h7=>?_).symm;cases hf:fK ks i
  ·rfl
  ·exact absurd ⟨by omega,(key i h6 (by omega)).2 hf⟩ (e2 i (by omega))
 ·rw [Lu e2];refine ⟨_,_,rfl,.inr ⟨k,by omega,e1,rfl,rfl,(key k (by omega) e1).1 e3.2,?_⟩⟩;obtain ⟨t,ht⟩:∃ t,k=no+t:=⟨k - no,by omega⟩
  rw [ht];refine Fh t fun i h6 h7=>?_;cases hf:fK ks i
  ·rfl
  ·exact absurd ⟨by omega,(key i h6 (by omega)).2 hf⟩ (e4 i (by omega))
def BoxG (W0:Nat) (x:World) (v:Value):Prop:=∃ b,v=.pointer (some ⟨b,0,none⟩)/\W0<=b/\x.heap[b]?=some (.cells #[.pointer none] 105 (0,0))
def RowG (u:Value) (x:World) (v:Value):Prop:=∃ b,v=.slice (some ⟨b,0,none⟩) 1 1/\x.heap[b]?=some (.cells #[u] 105 (0,0))
theorem BoxG.kept {W0:Nat} {x y:World} {v:Value} (h:BoxG W0 x v) (hg:Grew x y):BoxG W0 y v:=by
 obtain ⟨b,h1,h2,h3⟩:=h;exact ⟨b,h1,h2,Ac h3 hg⟩
theorem RowG.kept {u:Value} {x y:World} {v:Value} (h:RowG u x v) (hg:Grew x y):RowG u y v:=by
 obtain ⟨b,h1,h3⟩:=h;exact ⟨b,h1,Ac h3 hg⟩
set_option maxRecDepth 20000 in
set_option maxHeartbeats 4000000 in
theorem MK {C:Nat->Nat} {p:Nat} {v1 v2 v3:Value} {ks:List Nat} {w:World} (h:Al C w p v1 v2 v3 ks) (hk:Ks ks) (ht:Tab w) :
  Calls Tryz.prog 54 #[.pointer (some ⟨p,0,none⟩)] w fun e w'=>(∃ bx vu,e=.returned (.func (.func 99) #[] #[.pointer (some ⟨bx,0,none⟩)])/\Used (fun i=>i=0\/(w.heap.size<=i/\i < w'.heap.size)) w' bx vu ks)/\Below w.heap.size w w':=by
 obtain ⟨b2,rfl⟩:=h.s2.isPtr;have HAL:=hid h;have HT:=hid ht;have hn:=hk.n2;obtain ⟨U,hU⟩:∃ U,U=Gw (Bo isC ks) (fun _=>Bo isS ks) 1:=⟨_,rfl⟩
 have HLEN:Hid (U.length=ks.length):=hid (by rw [hU,KG,AQ]);have HBITS:Hid (∀ i,i < ks.length->inB U i=(isC (kd ks i)||isS (kd ks i))):=hid fun i hi=>by
  rw [hU];show inB (mix (fun x y=>x||y) (Bo isC ks) (Bo isS ks)) i=_;rw [UV,AQ,decide_eq_true hi,BA hi,BA hi];rfl
 have HC:Hid (∀ x,Grew w.drew x->x.cell? ⟨p,0,none⟩=some v1/\x.cell? ⟨p,1,none⟩=some (.pointer (some ⟨b2,0,none⟩))):=hid fun x hx=>by
  have hb:Below w.heap.size w x:=⟨hx.os,hx.tape,hx.output,hx.size,hx.block⟩
  exact ⟨(HAL.out.below hb).c0,(HAL.out.below hb).c1⟩
 have HU:Hid (∀ x,Grew w.drew x->∀ b,x.heap[b]?=some (.cells #[(.pointer (some ⟨b2,0,none⟩))] 105 (0,0))->Calls Tryz.prog 98 #[v1,.slice (some ⟨b,0,none⟩) 1 1] x fun e w'=>(∃ y,e=.returned y/\NewSet w.heap.size w' y U)/\Below x.heap.size x w'):=hid fun x hx b hr=>by
  have hb:Below w.heap.size w x:=⟨hx.os,hx.tape,hx.output,hx.size,hx.block⟩
  refine (Vw (fun _=>True) v1 _ (some ⟨b,0,none⟩) 1 1 (fun _=>Bo isS ks) x ((HAL.out.below hb).s1.bm.mono fun _ _ _=>trivial) (dm hr (HAL.out.below hb).s2) (by decide)).mono ?_;rintro e w' ⟨⟨y,h1,h2⟩,h3⟩;rw [<- hU] at h2;obtain ⟨b,g,c,W,e1,e2,e3,e4,e5⟩:=MX (by rw [HLEN.out];omega) h2;exact ⟨⟨y,h1,b,g,c,W,e1,Nat.le_trans hx.size e2,Nat.le_trans hx.size e3,e4,e5⟩,h3⟩
 have HSZ:Hid (∀ x:World,Grew w.drew x->w.heap.size<=x.heap.size):=hid fun x hx=>hx.size;clear h hk ht hn hU
 go_enter Tryz.func54,Tryz.ntmps54
 go_wp2_with fail
 refine Ag 11 [Af (.pointer (some ⟨p,0,none⟩)),Af (.pointer (some ⟨p,0,none⟩)),Af (.pointer (some ⟨p,0,none⟩)),Af (v1),Af (.pointer (some ⟨p,0,none⟩)),Af (.pointer (some ⟨p,0,none⟩)),Af (.pointer (some ⟨p,1,none⟩)),Af (.pointer (some ⟨b2,0,none⟩)),RowG (.pointer (some ⟨b2,0,none⟩)),(fun x v=>NewSet w.heap.size x v U),BoxG w.heap.size] (by kernel_rfl) (by decide) (by kernel_rfl) ?_ ?_ ?_
 ·repeat' (first | exact List.forall_mem_nil _ | refine List.forall_mem_cons.2 ⟨?_,?_⟩)
  all_goals
   intro w w' v hw h
   first | exact h | exact NewSet.below h hw | exact BoxG.kept h hw | exact RowG.kept h hw
 ·simp only [AllLt];refine ⟨⟨⟨⟨⟨⟨⟨⟨⟨⟨⟨trivial,?_⟩,?_⟩,?_⟩,?_⟩,?_⟩,?_⟩,?_⟩,?_⟩,?_⟩,?_⟩,?_⟩
  all_goals
   intro o' ho;simp at ho;subst ho;intro ρ w5 hR hL hS hG;obtain ⟨hl1,hl2,-⟩:=hL
  ·refine Aa rfl ?_;intro bA K Q' hK;have e0:=hS 0 (by kernel_rfl);change ρ (.tmp 0)=_ at e0;simp only [execOp];go_simp;exact hK _ _ rfl (Grew.refl _)
  ·refine Aa rfl ?_;intro bA K Q' hK;have e4:=apG (hG 0 4);change ρ (.tmp 4)=_ at e4;simp only [execOp];go_simp;exact hK _ _ rfl (Grew.refl _)
  ·refine Aa rfl ?_;intro bA K Q' hK;have e5:=apG (hG 1 5);change ρ (.tmp 5)=_ at e5;simp only [execOp];go_simp;exact hK _ _ rfl (Grew.refl _)
  ·refine Aa rfl ?_;intro bA K Q' hK;have e6:=apG (hG 2 6);change ρ (.tmp 6)=_ at e6;obtain ⟨y0,y1⟩:=HC.out w5 hR;simp only [execOp];go_simp;exact hK _ _ rfl (Grew.refl _)
  ·refine Aa rfl ?_;intro bA K Q' hK;have e0:=hS 0 (by kernel_rfl);change ρ (.tmp 0)=_ at e0;simp only [execOp];go_simp;exact hK _ _ rfl (Grew.refl _)
  ·refine Aa rfl ?_;intro bA K Q' hK;have e8:=apG (hG 4 8);change ρ (.tmp 8)=_ at e8;simp only [execOp];go_simp;exact hK _ _ rfl (Grew.refl _)
  ·refine Aa rfl ?_;intro bA K Q' hK;have e9:=apG (hG 5 9);change ρ (.tmp 9)=_ at e9;simp only [execOp];go_simp;exact hK _ _ rfl (Grew.refl _)
  ·refine Aa rfl ?_;intro bA K Q' hK;have e10:=apG (hG 6 10);change ρ (.tmp 10)=_ at e10;obtain ⟨y0,y1⟩:=HC.out w5 hR;simp only [execOp];go_simp;exact hK _ _ rfl (Grew.refl _)
  ·refine Aa rfl ?_;intro bA K Q' hK;have e11:=apG (hG 7 11);change ρ (.tmp 11)=_ at e11;simp only [execOp];go_simp;exact hK _ _ ⟨_,rfl,heap_alloc_new w5 _⟩ ((Grew.refl _).alloc _)
  ·refine Aa rfl ?_;intro bA K Q' hK;have e7:=apG (hG 3 7);have e12:=apG (hG 8 12);change ρ (.tmp 7)=_ at e7;obtain ⟨b9,q1,q2⟩:=e12;change ρ (.tmp 12)=_ at q1;simp only [execOp];go_simp;refine (HU.out w5 hR b9 q2).mono ?_;rintro r9 w9 ⟨⟨y,rfl,hy⟩,hb9⟩;exact hK _ _ hy hb9
  ·refine Aa rfl ?_;intro bA K Q' hK;have hsz2:=HSZ.out w5 hR;simp only [execOp];go_simp;exact hK _ _ ⟨_,rfl,hsz2,heap_alloc_new w5 _⟩ ((Grew.refl _).alloc _)
 ·intro v w3 hR hG;obtain ⟨bx,h10,hbx,hrow⟩:BoxG w.heap.size w3 (v 10):=hG.2;have hu:NewSet w.heap.size w3 (v 9) U:=hG.1.2;obtain ⟨bu,h9,hsu⟩:=hu.ptr;have hb:Below w.heap.size w w3:=⟨hR.os,hR.tape,hR.output,hR.size,hR.block⟩
  have hcb:=cell_of_row w3 bx 0 _ _ _ hrow;have hfz:=frozen_of_row w3 bx 0 _ _ hrow;have HSU:Hid (Sm (fun b=>(w.heap.size<=b/\b < w3.heap.size)/\b≠bx) w3 (.pointer (some ⟨bu,0,none⟩)) U):=hid (hsu.ne hcb);have HBX:Hid (w.heap.size<=bx/\bx < w3.heap.size):=hid ⟨hbx,Ak hrow⟩;have HB3:=hid hb;have hcb2:w3.cell? ⟨bx,0,none⟩=some (.pointer none):=hcb;clear hG hR hb hrow hsu hu hbx HC HU hcb;simp [stG,stU,Ar,Act.put,h10,h9];clear h10 h9
  go_wp2_with fail
  go_ret
  have hm:Mv (fun i=>i=bx) w3 (w3.setCell ⟨bx,0,none⟩ (.pointer (some ⟨bu,0,none⟩))):=DU (F:=fun i=>i=bx) (Mv.refl _ _) rfl _;have hcn:(w3.setCell ⟨bx,0,none⟩ (.pointer (some ⟨bu,0,none⟩))).cell? ⟨bx,0,none⟩=some (.pointer (some ⟨bu,0,none⟩)):=World.cell?_setCell_same' _ _ _ (by rw [hcb2];rfl);have hbb:Below w.heap.size w (w3.setCell ⟨bx,0,none⟩ (.pointer (some ⟨bu,0,none⟩))):=HB3.out.trans (hm.below HB3.out.size fun i hi=>by rw [show i=bx from hi];exact HBX.out.1);refine ⟨⟨bx,_,rfl,HT.out.below hbb,hcn,⟨U,?_,HLEN.out,HBITS.out⟩,.inl rfl,.inr ⟨HBX.out.1,Nat.lt_of_lt_of_le HBX.out.2 hm.size⟩⟩,hbb⟩;exact (HSU.out.mv hm fun i hi=>hi.2).mono fun b h _=>.inr ⟨h.1.1,Nat.lt_of_lt_of_le h.1.2 hm.size⟩
end Go.Proofs.YtfhdojnobmfefaaGreatDoor
