/- MADE SMALL. -/
import Derived.Test.YtfhdojnobmfefaaGreatDoorG35
import Derived.Lib.Slices
import Derived.Test.YtfhdojnobmfefaaGreatDoorG12
import Derived.Deep.CutRange
namespace Go.Proofs.YtfhdojnobmfefaaGreatDoor
open Go.RowKit Go.Inc
def Sm (ok:Nat->Prop) (w:World) (v:Value) (m:List Bool):Prop:=
 ∃ b g c W,v=.pointer (some ⟨b,0,none⟩)/\ok b/\ok g/\BmAt w b g c m.length W/\∀ i,BF W i=inB m i
section
variable {ok ok':Nat->Prop} {w w':World} {v:Value} {m:List Bool}
theorem Sm.bm (h:Sm ok w v m):Bm ok w v m:=.inr h
theorem Sm.mv {F:Nat->Prop} (h:Sm ok w v m) (hm:Mv F w w') (hk:∀ i,ok i->¬ F i):Sm ok w' v m:=by
 obtain ⟨b,g,c,W,h1,h2,h3,h4,h5⟩:=h;exact ⟨b,g,c,W,h1,h2,h3,h4.mv hm (hk b h2) (hk g h3),h5⟩
theorem Sm.below (h:Sm ok w v m) (hb:Below w.heap.size w w'):Sm ok w' v m:=h.mv (F:=fun _=>False) (Mv.of_below hb) fun _ _=>id
theorem Sm.mono (h:Sm ok w v m) (hk:∀ b,ok b->b < w.heap.size->ok' b):Sm ok' w v m:=by
 obtain ⟨b,g,c,W,h1,h2,h3,h4,h5⟩:=h;exact ⟨b,g,c,W,h1,hk b h2 h4.blt,hk g h3 h4.glt,h4,h5⟩
end
structure Al3 (C:Nat->Nat) (w:World) (p:Nat) (v1 v2 v3:Value) (m1 m2 m3:List Bool):Prop where
 z0:C 0=0
 old:∀ i,C i≠0->i < w.heap.size
 col:C p=1
 c0:w.cell? ⟨p,0,none⟩=some v1
 c1:w.cell? ⟨p,1,none⟩=some v2
 c2:w.cell? ⟨p,2,none⟩=some v3
 s1:Sm (fun b=>C b=2) w v1 m1
 s2:Sm (fun b=>C b=3) w v2 m2
 s3:Sm (fun b=>C b=4) w v3 m3
abbrev Al (C:Nat->Nat) (w:World) (p:Nat) (v1 v2 v3:Value) (ks:List Nat):Prop:=Al3 C w p v1 v2 v3 (AC isC ks) (AC isS ks) (AC isP ks)
section
variable {C:Nat->Nat} {w w':World} {p:Nat} {v1 v2 v3:Value} {m1 m2 m3 m':List Bool}
theorem Al3.mv {F:Nat->Prop} (h:Al3 C w p v1 v2 v3 m1 m2 m3) (hm:Mv F w w') (hF:∀ i,F i->C i=0):Al3 C w' p v1 v2 v3 m1 m2 m3:=by
 have hn:∀ i k,C i=k->k≠0->¬ F i:=fun i k h1 h2 h3=>h2 (by rw [<- h1];exact hF i h3);exact ⟨h.z0,fun i hi=>Nat.lt_of_lt_of_le (h.old i hi) hm.size,h.col,hm.cell h.c0 (hn _ _ h.col (by decide)),hm.cell h.c1 (hn _ _ h.col (by decide)),hm.cell h.c2 (hn _ _ h.col (by decide)),
  h.s1.mv hm fun i hi=>hn _ _ hi (by decide),h.s2.mv hm fun i hi=>hn _ _ hi (by decide),h.s3.mv hm fun i hi=>hn _ _ hi (by decide)⟩
theorem Al3.below (h:Al3 C w p v1 v2 v3 m1 m2 m3) (hb:Below w.heap.size w w'):Al3 C w' p v1 v2 v3 m1 m2 m3:=h.mv (F:=fun _=>False) (Mv.of_below hb) fun _ h=>h.elim
theorem Al3.turn1 (h:Al3 C w p v1 v2 v3 m1 m2 m3) (hm:Mv (fun i=>C i=2) w w') (h1:Sm (fun b=>C b=2) w' v1 m'):Al3 C w' p v1 v2 v3 m' m2 m3:=by
 have hn:∀ i k,C i=k->k≠2->¬ (C i=2):=fun i k h1 h2 h3=>h2 (by rw [<- h1];exact h3);exact ⟨h.z0,fun i hi=>Nat.lt_of_lt_of_le (h.old i hi) hm.size,h.col,hm.cell h.c0 (hn _ _ h.col (by decide)),hm.cell h.c1 (hn _ _ h.col (by decide)),hm.cell h.c2 (hn _ _ h.col (by decide)),h1,h.s2.mv hm fun i hi=>hn _ _ hi (by decide),h.s3.mv hm fun i hi=>hn _ _ hi (by decide)⟩
theorem Al3.turn2 (h:Al3 C w p v1 v2 v3 m1 m2 m3) (hm:Mv (fun i=>C i=3) w w') (h2:Sm (fun b=>C b=3) w' v2 m'):Al3 C w' p v1 v2 v3 m1 m' m3:=by
 have hn:∀ i k,C i=k->k≠3->¬ (C i=3):=fun i k h1 h2 h3=>h2 (by rw [<- h1];exact h3);exact ⟨h.z0,fun i hi=>Nat.lt_of_lt_of_le (h.old i hi) hm.size,h.col,hm.cell h.c0 (hn _ _ h.col (by decide)),hm.cell h.c1 (hn _ _ h.col (by decide)),hm.cell h.c2 (hn _ _ h.col (by decide)),h.s1.mv hm fun i hi=>hn _ _ hi (by decide),h2,h.s3.mv hm fun i hi=>hn _ _ hi (by decide)⟩
theorem Al3.turn3 (h:Al3 C w p v1 v2 v3 m1 m2 m3) (hm:Mv (fun i=>C i=4) w w') (h3:Sm (fun b=>C b=4) w' v3 m'):Al3 C w' p v1 v2 v3 m1 m2 m':=by
 have hn:∀ i k,C i=k->k≠4->¬ (C i=4):=fun i k h1 h2 h3=>h2 (by rw [<- h1];exact h3);exact ⟨h.z0,fun i hi=>Nat.lt_of_lt_of_le (h.old i hi) hm.size,h.col,hm.cell h.c0 (hn _ _ h.col (by decide)),hm.cell h.c1 (hn _ _ h.col (by decide)),hm.cell h.c2 (hn _ _ h.col (by decide)),h.s1.mv hm fun i hi=>hn _ _ hi (by decide),h.s2.mv hm fun i hi=>hn _ _ hi (by decide),h3⟩
end
theorem JW (ok okz:Nat->Prop) (v:Value) (m:List Bool) (a:Option Addr) (cz:Nat) (zs:List Int) (w:World) (h:Sm ok w v m) (hz:Si okz w a zs) (hd:∀ i,okz i->¬ ok i) (hl:(zs.length:Int)<=9223372036854775807) :
  Calls Tryz.prog 71 #[v,.slice a zs.length cz] w fun e w'=>e=.returned (.int .i64 ((Bh true m zs zs.length).2:Int))/\Sm ok w' v (Bh true m zs zs.length).1/\Mv ok w w':=by
 obtain ⟨b,g,c,W,rfl,h2,h3,h4,h5⟩:=h;refine (NR okz b g c m W a cz zs w h4 h5 hz (fun i hi e=>hd i hi (by rw [e];exact h3)) hl).mono ?_;rintro e w' ⟨rfl,⟨W',h6,h7⟩,h8⟩;exact ⟨rfl,⟨b,g,c,W',rfl,h2,h3,by rw [Dy];exact h6,h7⟩,h8.sub fun i _ e=>by subst e;exact h3⟩
theorem WR (ok okz:Nat->Prop) (v:Value) (m:List Bool) (a:Option Addr) (cz:Nat) (zs:List Int) (w:World) (h:Sm ok w v m) (hz:Si okz w a zs) (hd:∀ i,okz i->¬ ok i) (hl:(zs.length:Int)<=9223372036854775807) :
  Calls Tryz.prog 70 #[v,.slice a zs.length cz] w fun e w'=>e=.returned (.int .i64 ((Bh false m zs zs.length).2:Int))/\Sm ok w' v (Bh false m zs zs.length).1/\Mv ok w w':=by
 obtain ⟨b,g,c,W,rfl,h2,h3,h4,h5⟩:=h;refine (Zb okz b g c m W a cz zs w h4 h5 hz (fun i hi e=>hd i hi (by rw [e];exact h3)) hl).mono ?_;rintro e w' ⟨rfl,⟨W',h6,h7⟩,h8⟩;exact ⟨rfl,⟨b,g,c,W',rfl,h2,h3,by rw [Dy];exact h6,h7⟩,h8.sub fun i _ e=>by subst e;exact h3⟩
theorem Oy {C:Nat->Nat} {p:Nat} {v1 v2 v3:Value} {ks:List Nat} {w:World} (h:Al C w p v1 v2 v3 ks) :
  Calls Tryz.prog 130 #[.pointer (some ⟨p,0,none⟩)] w fun e w'=>e=.returned (.int .i64 (ks.length:Int))/\w=w':=by
 have H:=hid (Hy _ v1 _ w h.s1.bm);rw [A7] at H;have hc:=h.c0;obtain ⟨n,hn⟩:∃ n,n=ks.length:=⟨_,rfl⟩
 rw [<- hn] at H ⊢;clear h hn
 go_enter Tryz.func130,Tryz.ntmps130
 go_wp2_with fail
 refine H.out.mono ?_;rintro e w1 ⟨rfl,rfl⟩
 go_wp2_with fail
 go_ret
 exact ⟨rfl,rfl⟩
theorem Oo (n:Nat) (w:World) (h1:(1:Int)<=n) (h2:(n:Int)<=2048) :
  Calls Tryz.prog 129 #[.int .i64 (n:Int)] w fun e w'=>(∃ v,e=.returned v/\NewSet w.heap.size w' v (List.replicate n false))/\Below w.heap.size w w':=by
 have H:=hid (V7 n w h1 h2)
 go_enter Tryz.func129,Tryz.ntmps129
 go_wp2_with fail
 refine H.out.mono ?_;clear H;rintro e w1 ⟨⟨v,rfl,hv⟩,hb⟩;have HV:=hid hv;have HB:=hid hb;clear hv hb
 go_wp2_with fail
 go_ret
 exact ⟨⟨_,rfl,HV.out⟩,HB.out⟩
def DN (ks:List Nat) (no:Int):Nat:=if 0<=no/\no < (ks.length:Int) then kd ks no.toNat else 5
theorem Gn {ks:List Nat} {i:Nat} (h:i < ks.length):DN ks (i:Int)=kd ks i:=by
 unfold DN;rw [if_pos ⟨by omega,by omega⟩];rfl
theorem OD {ks:List Nat} {no:Int} (h:¬ (0<=no/\no < (ks.length:Int))):DN ks no=5:=if_neg h
theorem QO {C:Nat->Nat} {p:Nat} {v1 v2 v3:Value} {ks:List Nat} {w:World} (no:Int) (h:Al C w p v1 v2 v3 ks) (hk:Ks ks) :
  Calls Tryz.prog 132 #[.pointer (some ⟨p,0,none⟩),.int .i64 no] w fun e w'=>e=.returned (.int .i64 (DN ks no:Int))/\Below w.heap.size w w':=by
 have HP:=hid (Oy h);obtain ⟨n,hn⟩:∃ n,n=ks.length:=⟨_,rfl⟩
 have HN:=hid hn;rw [<- hn] at HP;by_cases h0:no < 0
 ·have HR:Hid (DN ks no=5):=hid (OD (by omega));clear h hk hn
  go_enter Tryz.func132,Tryz.ntmps132
  go_wp2_with fail
  go_ret
  exact ⟨by rw [HR.out];rfl,Below.refl _ _⟩
 by_cases h1:(n:Int)<=no
 ·have HR:Hid (DN ks no=5):=hid (OD (by omega));clear h hk hn
  go_enter Tryz.func132,Tryz.ntmps132
  go_wp2_with fail
  refine HP.out.mono ?_;rintro e w1 ⟨rfl,rfl⟩
  go_wp2_with fail
  go_ret
  exact ⟨by rw [HR.out];rfl,Below.refl _ _⟩
 obtain ⟨i,rfl⟩:=Int.eq_ofNat_of_zero_le (show (0:Int)<=no by omega);have hi:i < ks.length:=by omega
 have HR:Hid (DN ks (i:Int)=kd ks i):=hid (Gn hi);by_cases h2:i < 2
 ·have HZ:Hid (kd ks i=0):=hid (by
   obtain rfl | rfl:i=0\/i=1:=by omega
   ·exact hk.k0
   ·exact hk.k1)
  have h2':(i:Int) < 2:=by omega
  clear h hk hn h2
  go_enter Tryz.func132,Tryz.ntmps132
  go_wp2_with fail
  refine HP.out.mono ?_;rintro e w1 ⟨rfl,rfl⟩
  go_wp2_with fail
  go_ret
  exact ⟨by rw [HR.out,HZ.out];rfl,Below.refl _ _⟩
 have h2':(2:Int)<=(i:Int):=by omega
 have hr:=hk.rest i (by omega) hi;have H3:∀ x,Below w.heap.size w x->Calls Tryz.prog 74 #[v3,.int .i64 (i:Int)] x fun e w'=>e=.returned (.bool (isP (kd ks i)))/\Below x.heap.size x w':=fun x hx=>
  (Fq _ v3 _ (i:Int) x (h.below hx).s3.bm).mono fun e w' h=>⟨by rw [h.1,Ei,BA hi],h.2⟩
 have H1:∀ x,Below w.heap.size w x->Calls Tryz.prog 74 #[v1,.int .i64 (i:Int)] x fun e w'=>e=.returned (.bool (isC (kd ks i)))/\Below x.heap.size x w':=fun x hx=>
  (Fq _ v1 _ (i:Int) x (h.below hx).s1.bm).mono fun e w' h=>⟨by rw [h.1,Ei,BA hi],h.2⟩
 have H2:∀ x,Below w.heap.size w x->Calls Tryz.prog 74 #[v2,.int .i64 (i:Int)] x fun e w'=>e=.returned (.bool (isS (kd ks i)))/\Below x.heap.size x w':=fun x hx=>
  (Fq _ v2 _ (i:Int) x (h.below hx).s2.bm).mono fun e w' h=>⟨by rw [h.1,Ei,BA hi],h.2⟩
 have G3:=hid H3;have G1:=hid H1;have G2:=hid H2;have HL:=hid h;have c2:=h.c2;obtain ⟨k,hkk⟩:∃ k,k=kd ks i:=⟨_,rfl⟩
 rw [<- hkk] at HR G1 G2 G3 hr;have HRR:Hid (1<=k/\k<=4):=hid hr;clear h hk hn hkk H1 H2 H3 h2 hi hr
 go_enter Tryz.func132,Tryz.ntmps132
 go_wp2_with fail
 refine HP.out.mono ?_;rintro e w1 ⟨rfl,rfl⟩
 go_wp2_with fail
 refine (G3.out w (Below.refl _ _)).mono ?_;clear c2;rintro e w1 ⟨rfl,hb1⟩;have HB1:=hid hb1;clear hb1;by_cases k4:k=4
 ·subst k4;have e1:isP 4=true:=rfl
  go_wp2_with fail
  go_ret
  exact ⟨by rw [HR.out];rfl,HB1.out⟩
 have e1:isP k=false:=by simp [isP,k4]
 have c0:=(HL.out.below HB1.out).c0
 go_wp2_with fail
 refine (G1.out w1 HB1.out).mono ?_;clear c0;rintro e w2 ⟨rfl,hb2⟩;have HB2:Hid (Below w.heap.size w w2):=hid (HB1.out.trans (hb2.mono HB1.out.size));clear hb2;by_cases k2:k=2
 ·subst k2;have e2:isC 2=true:=rfl
  go_wp2_with fail
  go_ret
  exact ⟨by rw [HR.out];rfl,HB2.out⟩
 have e2:isC k=false:=by simp [isC,k4,k2]
 have c1:=(HL.out.below HB2.out).c1
 go_wp2_with fail
 refine (G2.out w2 HB2.out).mono ?_;clear c1;rintro e w3 ⟨rfl,hb3⟩;have HB3:Hid (Below w.heap.size w w3):=hid (HB2.out.trans (hb3.mono HB2.out.size));clear hb3;by_cases k3:k=3
 ·subst k3;have e3:isS 3=true:=rfl
  go_wp2_with fail
  go_ret
  exact ⟨by rw [HR.out];rfl,HB3.out⟩
 have e3:isS k=false:=by simp [isS,k3]
 have HK1:Hid (k=1):=hid (by have:=HRR.out;omega)
 go_wp2_with fail
 go_ret
 exact ⟨by rw [HR.out,HK1.out];rfl,HB3.out⟩
end Go.Proofs.YtfhdojnobmfefaaGreatDoor
namespace Go.Proofs.YtfhdojnobmfefaaGreatDoor
open Go.RowKit Go.Inc
set_option maxHeartbeats 1000000 in
theorem PO (ok:Nat->Prop) (a:Option Addr) (c:Nat) (kz:List Int) (z:Int) (w:World) (hs:Si ok w a kz) (hl:(kz.length:Int)<=9223372036854775807) :
  Calls Tryz.prog 154 #[.slice a kz.length c,.int .i64 z] w fun e w'=>(∃ r:Int,e=.returned (.int .i64 r)/\(decide (0<=r)=decide (z∈kz)))/\Below w.heap.size w w':=by
 have HS:=hid hs;obtain ⟨n,hn⟩:∃ n,n=kz.length:=⟨_,rfl⟩
 have HN:=hid hn;rw [<- hn] at hl ⊢;clear hs hn
 go_enter Tryz.func154,Tryz.ntmps154
 go_wp2_with fail
 go_loopw [8] (fun i wr=>∃ k:Nat,k<=n/\i=.int .i64 (k:Int)/\z∉kz.take k/\Below w.heap.size w wr) (fun i _=>n - (intOf i).toNat)
 case atStart=>exact ⟨0,Nat.zero_le _,rfl,by simp,Below.refl _ _⟩
 case round=>
  obtain ⟨k,hk,rfl,hno,hb⟩:=hrel;have HNO:=hid hno;have HB:=hid hb;clear hno hb;by_cases hlt:(k:Int) < n
  ·have hs:=HS.out.below HB.out;rcases hs with h0 | ⟨b,o,rfl,-,hc⟩
   ·exfalso;have:=HN.out;rw [h0] at this;simp at this;omega
   have hck:=hc k (by have:=HN.out;omega);have HSN:=hid (FD (bs:=kz) (k:=k) (by have:=HN.out;omega));have HM:=hid (JM (zs:=kz) (k:=k) (by have:=HN.out;omega));obtain ⟨x,hx⟩:∃ x,x=kz.getD k 0:=⟨_,rfl⟩
   rw [<- hx] at hck HSN HM;have hkn:(k < n)=True:=eq_true (by omega);clear hc hx;by_cases hzx:z=x
   ·subst hzx
    go_wp2_with fail
    try go_quiet (fail)
    go_wp2_with fail
    go_ret
    exact ⟨⟨_,rfl,by simp [HM.out]⟩,HB.out⟩
   ·have hne:(z == x)=false:=by rw [beq_eq_false_iff_ne];exact hzx
    have HZX:=hid hzx;clear hzx
    go_wp2_with fail
    try go_quiet (fail)
    go_wp2_with fail
    go_roundw
    case rel=>exact ⟨k+1,by omega,by go_num,by rw [HSN.out,mem_snoc];rintro (h | h);exact HNO.out h;exact HZX.out h,HB.out⟩
    case measure=>simp [intOf];omega
  ·have hkf:(k < n)=False:=eq_false (by omega);have HKN:Hid (k=n):=hid (by omega);clear hlt
   go_wp2_with fail
   go_ret
   exact ⟨⟨_,rfl,by have h:=HNO.out;rw [HKN.out,HN.out,List.take_length] at h;simp [h]⟩,HB.out⟩
theorem Lj (ok:Nat->Prop) (a:Option Addr) (c:Nat) (kz:List Int) (z:Int) (w:World) (hs:Si ok w a kz) (hl:(kz.length:Int)<=9223372036854775807) :
  Calls Tryz.prog 131 #[.slice a kz.length c,.int .i64 z] w fun e w'=>e=.returned (.bool (decide (z∈kz)))/\Below w.heap.size w w':=by
 have H:=hid (PO ok a c kz z w hs hl);obtain ⟨n,hn⟩:∃ n,n=kz.length:=⟨_,rfl⟩
 rw [<- hn] at H ⊢;clear hs hn hl
 go_enter Tryz.func131,Tryz.ntmps131
 go_wp2_with fail
 refine H.out.mono ?_;rintro e w1 ⟨⟨r,rfl,hr⟩,hb⟩;have HR:=hid hr;have HB:=hid hb;clear hr hb H
 go_wp2_with fail
 go_ret
 exact ⟨by rw [<- HR.out];rfl,HB.out⟩
theorem NP {ok:Nat->Prop} {v:Value} {m:List Bool} {w:World} (h:Sm ok w v m) (q:Nat) (hq:q < m.length) (T:TypeId) :
  Calls Tryz.prog 71 #[v,.slice (some ⟨w.heap.size,0,none⟩) 1 1] (w.alloc (.cells #[.int .i64 (q:Int)] T)) fun e w'=>e=.returned (.int .i64 (if inB m q=true then 0 else 1))/\Sm ok w' v (m.set q true)/\Mv ok (w.alloc (.cells #[.int .i64 (q:Int)] T)) w':=by
 refine (JW (fun b=>ok b/\b < w.heap.size) (fun b=>b=w.heap.size) v m (some ⟨w.heap.size,0,none⟩) 1 [(q:Int)] _ ((h.mono (ok':=fun b=>ok b/\b < w.heap.size) fun _ h1 h2=>⟨h1,h2⟩).below (Bz w _)) (SE w (q:Int) T) (fun i e hh=>by have:=hh.2;omega) (by simp)).mono ?_;rintro e w' ⟨rfl,h1,h2⟩;rw [Ou hq] at h1 ⊢;refine ⟨?_,?_,h2.sub fun i _ hi=>hi.1⟩
 ·cases inB m q<;>rfl
 ·have h3:=h1.mono (ok':=ok) fun _ h _=>h.1;by_cases hm:inB m q=true
  ·rw [if_pos hm] at h3;rw [show m.set q true=m from IR (by simp) fun i hi=>by
    rw [IL hq];split
    ·rename_i e;rw [e,hm]
    ·rfl]
   exact h3
  ·rw [if_neg hm] at h3;exact h3
theorem Q7 {ok:Nat->Prop} {v:Value} {m:List Bool} {w:World} (h:Sm ok w v m) (q:Nat) (hq:q < m.length) (T:TypeId) :
  Calls Tryz.prog 70 #[v,.slice (some ⟨w.heap.size,0,none⟩) 1 1] (w.alloc (.cells #[.int .i64 (q:Int)] T)) fun e w'=>e=.returned (.int .i64 (if inB m q=true then 1 else 0))/\Sm ok w' v (m.set q false)/\Mv ok (w.alloc (.cells #[.int .i64 (q:Int)] T)) w':=by
 refine (WR (fun b=>ok b/\b < w.heap.size) (fun b=>b=w.heap.size) v m (some ⟨w.heap.size,0,none⟩) 1 [(q:Int)] _ ((h.mono (ok':=fun b=>ok b/\b < w.heap.size) fun _ h1 h2=>⟨h1,h2⟩).below (Bz w _)) (SE w (q:Int) T) (fun i e hh=>by have:=hh.2;omega) (by simp)).mono ?_;rintro e w' ⟨rfl,h1,h2⟩;rw [Ou hq] at h1 ⊢;refine ⟨?_,?_,h2.sub fun i _ hi=>hi.1⟩
 ·cases inB m q<;>rfl
 ·have h3:=h1.mono (ok':=ok) fun _ h _=>h.1;by_cases hm:inB m q=false
  ·rw [if_pos hm] at h3;rw [show m.set q false=m from IR (by simp) fun i hi=>by
    rw [IL hq];split
    ·rename_i e;rw [e,hm]
    ·rfl]
   exact h3
  ·rw [if_neg hm] at h3;exact h3
def Gt (kz:List Int) (k:Nat):Bool:=decide ((k:Int)∈kz)
structure Vr (B:Nat) (w:World) (v:Value) (n:Nat) (l:List Int) (m:List Bool):Prop where
 sm:Sm (fun b=>B<=b) w v m
 len:m.length=n
 bits:∀ i,i < n->inB m i=decide ((i:Int)∈l)
set_option maxRecDepth 20000 in
set_option maxHeartbeats 4000000 in
theorem JU {C:Nat->Nat} {p:Nat} {v1 v2 v3:Value} {ks:List Nat} {w:World} (okz okk:Nat->Prop) (a ak:Option Addr) (cz ck:Nat) (zs kz:List Int) (wrong:Int) (h:Al C w p v1 v2 v3 ks) (hk:Ks ks) (hz:Si okz w a zs) (hkz:Si okk w ak kz) (hl:(zs.length:Int)<=9223372036854775807) (hl2:(kz.length:Int)<=9223372036854775807) :
  Calls Tryz.prog 97 #[.pointer (some ⟨p,0,none⟩),.slice a zs.length cz,.int .i64 wrong,.slice ak kz.length ck] w fun e w'=>e=.returned (.int .i64 (E8 ks zs (Gt kz) wrong))/\Below w.heap.size w w':=by
 have HA:=hid h;have HK:=hid hk;have HZ:=hid hz;have HKZ:=hid hkz;obtain ⟨n,hn⟩:∃ n,n=zs.length:=⟨_,rfl⟩
 have HN:=hid hn;obtain ⟨nk,hnk⟩:∃ nk,nk=kz.length:=⟨_,rfl⟩
 have HNK:=hid hnk;obtain ⟨N,hN⟩:∃ N,N=ks.length:=⟨_,rfl⟩
 have HNN:=hid hN;have hN1:(2:Int)<=N:=by have:=hk.n2;omega
 have hN2:(N:Int)<=2048:=by have:=hk.n2048;omega
 have HP:Hid (∀ x,Below w.heap.size w x->Calls Tryz.prog 130 #[.pointer (some ⟨p,0,none⟩)] x fun e w'=>e=.returned (.int .i64 (N:Int))/\x=w'):=hid fun x hx=>by rw [hN];exact Oy (h.below hx)
 have hl2':=hl2;rw [<- hn] at hl ⊢;rw [<- hnk] at hl2 ⊢;have HL2:=hid hl2';clear h hk hz hkz hn hnk hN hl2'
 go_enter Tryz.func97,Tryz.ntmps97
 go_wp2_with fail
 go_loopw [16] (fun i wr=>∃ k:Nat,k<=n/\i=.int .i64 (k:Int)/\(∀ z∈zs.take k,2<=z/\z < (ks.length:Int))/\Below w.heap.size w wr) (fun i _=>n - (intOf i).toNat)
 case atStart=>exact ⟨0,Nat.zero_le _,rfl,by simp,Below.refl _ _⟩
 case round=>
  obtain ⟨k,hk,rfl,hin,hb⟩:=hrel;have HIN:=hid hin;have HB:=hid hb;clear hin hb;by_cases hlt:(k:Int) < n
  ·have hs:=HZ.out.below HB.out;rcases hs with h0 | ⟨b,o,rfl,-,hc⟩
   ·exfalso;have:=HN.out;rw [h0] at this;simp at this;omega
   have hck:=hc k (by have:=HN.out;omega);have HSN:=hid (FD (bs:=zs) (k:=k) (by have:=HN.out;omega));have HM:=hid (JM (zs:=zs) (k:=k) (by have:=HN.out;omega));obtain ⟨x,hx⟩:∃ x,x=zs.getD k 0:=⟨_,rfl⟩
   rw [<- hx] at hck HSN HM;have hkn:(k < n)=True:=eq_true (by omega);clear hc hx;by_cases hx2:x < 2
   ·have HO:Hid (E8 ks zs (Gt kz) wrong=10):=hid (Rw (Oz HM.out (.inl hx2)))
    go_wp2_with fail
    go_ret
    exact ⟨by rw [HO.out];rfl,HB.out⟩
   have hx3:(2:Int)<=x:=by omega
   clear hx2;by_cases hxN:(N:Int)<=x
   ·have HO:Hid (E8 ks zs (Gt kz) wrong=10):=hid (Rw (Oz HM.out (.inr (by rw [<- HNN.out];exact hxN))))
    go_wp2_with fail
    refine (HP.out wr HB.out).mono ?_;rintro e w1 ⟨rfl,rfl⟩
    go_wp2_with fail
    go_ret
    exact ⟨by rw [HO.out];rfl,HB.out⟩
   have hxN2:x < (N:Int):=by omega
   clear hxN
   go_wp2_with fail
   refine (HP.out wr HB.out).mono ?_;rintro e w1 ⟨rfl,rfl⟩
   go_wp2_with fail
   go_roundw
   case rel=>exact ⟨k+1,by omega,by go_num,by rw [HSN.out];intro z hz;rcases mem_snoc.1 hz with h | h;exact HIN.out z h;subst h;have:=HNN.out;omega,HB.out⟩
   case measure=>simp [intOf];omega
  ·have hkf:(k < n)=False:=eq_false (by omega);have HKN:Hid (k=n):=hid (by omega);have HIR:Hid (∀ z∈zs,2<=z/\z < (ks.length:Int)):=hid (by have h:=HIN.out;rw [HKN.out,HN.out,List.take_length] at h;exact h);have HOF:Hid (MB ks.length zs=false):=hid (outR_false.2 HIR.out);clear hlt HIN;obtain ⟨wi,hwi⟩:∃ wi,wi=wr:=⟨_,rfl⟩
   subst hwi
   go_wp2_with fail
   refine (HP.out wi HB.out).mono ?_;rintro e w1 ⟨rfl,rfl⟩
   go_wp2_with fail
   refine (Oo N wi (by omega) hN2).mono ?_;rintro e w2 ⟨⟨vt,rfl,hv⟩,hb2⟩;have HT:Hid (Vr wi.heap.size w2 vt ks.length (zs.take 0) (List.replicate N false)):=hid ⟨hv,by rw [List.length_replicate];exact HNN.out,fun i _=>by rw [Kv];simp⟩;have HB2:Hid (Below wi.heap.size wi w2):=hid hb2;clear hv hb2
   go_wp2_with fail
   go_loopw [34] (fun i wr=>∃ (k:Nat) (m:List Bool),k<=n/\i=.int .i64 (k:Int)/\Vr wi.heap.size wr vt ks.length (zs.take k) m/\(∀ z∈zs.take k,Gt kz (kd ks z.toNat)=true)/\(zs.take k).Nodup/\Below wi.heap.size wi wr) (fun i _=>n - (intOf i).toNat)
   case atStart=>exact ⟨0,_,Nat.zero_le _,rfl,HT.out,by simp,by simp,HB2.out⟩
   case round=>
    clear HT HB2;obtain ⟨k,m,hk,rfl,ht,hg,hnd,hb⟩:=hrel;have HT:=hid ht;have HG:=hid hg;have HND:=hid hnd;have HBI:Hid (Below wi.heap.size wi wr):=hid hb;have HBW:Hid (Below w.heap.size w wr):=hid (HB.out.trans (hb.mono HB.out.size));obtain ⟨wj,hwj⟩:∃ wj,wj=wr:=⟨_,rfl⟩
    subst hwj;clear ht hg hnd hb;by_cases hlt:(k:Int) < n
    ·have hs:=HZ.out.below HBW.out;rcases hs with h0 | ⟨b,o,rfl,-,hc⟩
     ·exfalso;have:=HN.out;rw [h0] at this;simp at this;omega
     have hck:=hc k (by have:=HN.out;omega);have HSN:=hid (FD (bs:=zs) (k:=k) (by have:=HN.out;omega));have HM:=hid (JM (zs:=zs) (k:=k) (by have:=HN.out;omega));obtain ⟨x,hx⟩:∃ x,x=zs.getD k 0:=⟨_,rfl⟩
     rw [<- hx] at hck HSN HM;have hkn:(k < n)=True:=eq_true (by omega);obtain ⟨q,rfl⟩:=Int.eq_ofNat_of_zero_le (show (0:Int)<=x by have:=HIR.out x HM.out;omega);have hqn:q < ks.length:=by have:=HIR.out _ HM.out;omega
     have HKD:Hid (∀ y,Below w.heap.size w y->Calls Tryz.prog 132 #[.pointer (some ⟨p,0,none⟩),.int .i64 (q:Int)] y fun e w'=>e=.returned (.int .i64 (kd ks q:Int))/\Below y.heap.size y w'):=hid fun y hy=>by
      have:=QO (q:Int) (HA.out.below hy) HK.out;rw [Gn hqn] at this;exact this
     have HCN:Hid (∀ y,Below w.heap.size w y->Calls Tryz.prog 131 #[.slice ak nk ck,.int .i64 (kd ks q:Int)] y fun e w'=>e=.returned (.bool (Gt kz (kd ks q)))/\Below y.heap.size y w'):=hid fun y hy=>by
      have:=Lj okk ak ck kz (kd ks q:Int) y (HKZ.out.below hy) HL2.out;rw [<- HNK.out] at this;exact this
     obtain ⟨g,hg⟩:∃ g,g=Gt kz (kd ks q):=⟨_,rfl⟩
     rw [<- hg] at HCN;have HGD:=hid hg;have HQ:=hid hqn;clear hc hx hg hqn
     go_wp2_with fail
     refine (HKD.out wj HBW.out).mono ?_;rintro e w3 ⟨rfl,hb3⟩;have HB3:Hid (Below wi.heap.size wi w3):=hid (HBI.out.trans (hb3.mono HBI.out.size));have HW3:Hid (Below w.heap.size w w3):=hid (HBW.out.trans (hb3.mono HBW.out.size));have HT3:Hid (Sm (fun b=>wi.heap.size<=b) w3 vt m):=hid (HT.out.sm.below hb3);clear hb3
     go_wp2_with fail
     refine (HCN.out w3 HW3.out).mono ?_;rintro e w4 ⟨rfl,hb4⟩;have HB4:Hid (Below wi.heap.size wi w4):=hid (HB3.out.trans (hb4.mono HB3.out.size));have HW4:Hid (Below w.heap.size w w4):=hid (HW3.out.trans (hb4.mono HW3.out.size));have HT4:Hid (Sm (fun b=>wi.heap.size<=b) w4 vt m):=hid (HT3.out.below hb4);clear hb4;cases g
     ·have HO:Hid (E8 ks zs (Gt kz) wrong=wrong):=hid (Zt HOF.out HM.out HGD.out.symm)
      go_wp2_with fail
      go_ret
      exact ⟨by rw [HO.out];rfl,HW4.out⟩
     ·have hadd:=NP HT4.out q (by rw [HT.out.len];exact HQ.out) 3;have hbit:=HT.out.bits q HQ.out;by_cases hmem:(q:Int)∈zs.take k
      ·have HO:Hid (E8 ks zs (Gt kz) wrong=wrong):=hid (Uj HOF.out (MI (k:=k+1) (by rw [HSN.out,nodup_snoc];exact fun h=>h.2 hmem)));rw [hbit,decide_eq_true hmem,if_pos rfl] at hadd;have HADD:=hid hadd;clear hadd hbit hmem
       go_wp2_with fail
       refine HADD.out.mono ?_;rintro e w5 ⟨rfl,-,hm5⟩;have HM5:=hid hm5;clear hm5
       go_wp2_with fail
       go_ret
       exact ⟨by rw [HO.out];rfl,(HW4.out.trans ((Bz w4 _).mono HW4.out.size)).trans (HM5.out.below (by have:=HW4.out.size;simp;omega) fun i hi=>by have:=HB.out.size;have hi2:wi.heap.size<=i:=hi;omega)⟩
      ·rw [hbit,decide_eq_false hmem,if_neg (by decide)] at hadd;have HADD:=hid hadd;have HMEM:=hid hmem;clear hadd hbit hmem
       go_wp2_with fail
       refine HADD.out.mono ?_;rintro e w5 ⟨rfl,hs5,hm5⟩;have HS5:=hid hs5;have HB5:Hid (Below wi.heap.size wi w5):=hid ((HB4.out.trans ((Bz w4 _).mono HB4.out.size)).trans (hm5.below (by have:=HB4.out.size;simp;omega) fun i hi=>hi));clear hm5 hs5 HADD
       go_wp2_with fail
       go_roundw
       case rel=>
        refine ⟨k+1,m.set q true,by omega,by go_num,⟨HS5.out,by rw [List.length_set];exact HT.out.len,fun i hi=>?_⟩,?_,?_,HB5.out⟩
        ·rw [IL (by rw [HT.out.len];exact HQ.out),HT.out.bits i hi,HSN.out];by_cases e:i=q
         ·subst e;simp
         ·have e2:¬ (i:Int)=(q:Int):=by omega
          simp [e,e2]
        ·rw [HSN.out];intro z hz;rcases mem_snoc.1 hz with h | h
         ·exact HG.out z h
         ·subst h;exact HGD.out.symm
        ·rw [HSN.out,nodup_snoc];exact ⟨HND.out,HMEM.out⟩
       case measure=>simp [intOf];omega
    ·have hkf:(k < n)=False:=eq_false (by omega);have HKN2:Hid (k=n):=hid (by omega);have HO:Hid (E8 ks zs (Gt kz) wrong=0):=hid (by
      have h1:=HG.out;have h2:=HND.out;rw [HKN2.out,HN.out,List.take_length] at h1 h2;exact PX HOF.out h1 h2)
     clear hlt
     go_wp2_with fail
     go_ret
     exact ⟨by rw [HO.out];rfl,HBW.out⟩
end Go.Proofs.YtfhdojnobmfefaaGreatDoor
namespace Go.Proofs.YtfhdojnobmfefaaGreatDoor
open Go.RowKit Go.Inc
def Vs (B:Nat) (w:World) (v:Value) (n:Nat) (zs:List Int):Prop:=∃ a c,v=.slice a n c/\Si (fun b=>B<=b) w a zs
end Go.Proofs.YtfhdojnobmfefaaGreatDoor
namespace Go.Proofs.YtfhdojnobmfefaaGreatDoor
open Go.RowKit Go.Inc
theorem eP {C:Nat->Nat} {w w':World} (h:Mv (fun i=>C i≠0) w w') (hz:C 0=0) (ht:Tab w):Tab w':=ht.mv h fun hh=>hh hz
theorem MM {C:Nat->Nat} {k:Nat} {w w':World} (h:Mv (fun i=>C i=k) w w') (hk:k≠0):Mv (fun i=>C i≠0) w w':=h.sub fun i _ hi=>by rw [show C i=k from hi];exact hk
end Go.Proofs.YtfhdojnobmfefaaGreatDoor
namespace Go.Proofs.YtfhdojnobmfefaaGreatDoor
open Go.RowKit Go.Inc
theorem CQ {p:Nat->Bool} {ks:List Nat} {zs:List Int} {k:Nat} (h:∀ z∈zs,p k=p (kd ks z.toNat)):AC p (NW ks zs k)=AC p ks:=IR (by rw [A7,A7,Ci]) fun i hi=>by
 rw [A7,Ci] at hi;rw [BA (by rw [Ci];exact hi),BA hi,GY hi];split
 ·rename_i hm;exact h _ hm
 ·rfl
theorem Hz {p:Nat->Bool} {ks:List Nat} {zs:List Int} {k:Nat} (hp:p k=true):(Bh true (AC p ks) zs zs.length).1=AC p (NW ks zs k):=IR (by rw [Dy,A7,A7,Ci]) fun i hi=>by
 rw [Dy,A7] at hi;rw [TG _ _ _ (by rw [A7];exact hi),BA hi,BA (by rw [Ci];exact hi),GY hi];split
 ·rw [hp]
 ·rfl
def isG (k:Nat):Bool:=decide (k=2)||decide (k=3)
theorem bZ:Gt [1]=isF:=funext fun k=>by
 unfold Gt isF;by_cases h:k=1
 ·subst h;decide
 ·have:¬ ((k:Int)∈([1]:List Int)):=by simp;omega
  simp [h,this]
theorem bY:Gt [2,3]=isG:=funext fun k=>by
 unfold Gt isG;by_cases h:k=2
 ·subst h;decide
 ·by_cases h3:k=3
  ·subst h3;decide
  ·have:¬ ((k:Int)∈([2,3]:List Int)):=by simp;omega
   simp [h,h3,this]
theorem eU (w:World) (z y:Int) (T:TypeId):Si (fun b=>b=w.heap.size) (w.alloc (.cells #[.int .i64 z,.int .i64 y] T)) (some ⟨w.heap.size,0,none⟩) [z,y]:=
 .inr ⟨_,_,rfl,rfl,fun i hi=>by
  have h0:i=0\/i=1:=by simp at hi;omega
  rcases h0 with rfl | rfl
  ·rw [cell_of_row _ w.heap.size _ _ _ _ (heap_alloc_new w _)];rfl
  ·rw [cell_of_row _ w.heap.size _ _ _ _ (heap_alloc_new w _)];rfl⟩
def Io (ks:List Nat) (zs:List Int):Int:=E8 ks zs isG 11
def Fb (ks:List Nat) (zs:List Int):List Nat:=if Io ks zs=0 then Il ks zs else ks
theorem Rx (ks:List Nat) (zs:List Int) (good:Nat->Bool) {wrong:Int} (h:0<=wrong/\wrong<=11):0<=E8 ks zs good wrong/\E8 ks zs good wrong<=11:=by
 unfold E8;split
 ·decide
 ·split
  ·decide
  ·exact h
theorem Ks.gave {ks:List Nat} (h:Ks ks) (zs:List Int):Ks (Fb ks zs):=by
 unfold Fb;split
 ·rename_i he
  exact h.give (IY (by decide) he).1
 ·exact h
set_option maxRecDepth 20000 in
set_option maxHeartbeats 4000000 in
theorem YS {C:Nat->Nat} {p:Nat} {v1 v2 v3:Value} {ks:List Nat} {w:World} (okz:Nat->Prop) (a:Option Addr) (cz:Nat) (zs:List Int) (h:Al C w p v1 v2 v3 ks) (hk:Ks ks) (hz:Si okz w a zs) (hd:∀ i,okz i->C i=0) (hl:(zs.length:Int)<=9223372036854775807) :
  Calls Tryz.prog 123 #[.pointer (some ⟨p,0,none⟩),.slice a zs.length cz] w fun e w'=>e=.returned (.int .i64 (Io ks zs))/\Al C w' p v1 v2 v3 (Fb ks zs)/\Mv (fun i=>C i≠0) w w':=by
 have HAL:=hid h;have HZ:=hid hz;have HDJ:=hid hd;have HB0:=hid (Bz w (.cells #[.int .i64 2,.int .i64 3] 3));have hc:=JU (wrong:=11) okz (fun b=>b=w.heap.size) a (some ⟨w.heap.size,0,none⟩) cz 2 zs [2,3] (h.below HB0.out) hk (hz.below HB0.out) (eU w 2 3 3) hl (by simp);rw [bY] at hc;have HE:=hid (Rx ks zs isG (wrong:=11) (by decide));obtain ⟨E,hE⟩:∃ E,E=E8 ks zs isG 11:=⟨_,rfl⟩
 have HEE:=hid hE;obtain ⟨n,hn⟩:∃ n,n=zs.length:=⟨_,rfl⟩
 have HN:=hid hn;rw [<- hn,<- hE] at hc;rw [<- hE] at HE;rw [<- hn] at hl ⊢;have HCH:=hid hc;clear h hk hz hd hc hE hn
 go_enter Tryz.func123,Tryz.ntmps123
 go_wp2_with fail
 refine HCH.out.mono ?_;clear HCH;rintro e w1 ⟨rfl,hb⟩;have HB1:Hid (Below w.heap.size w w1):=hid (HB0.out.trans (hb.mono (by simp)));have HAL1:Hid (Al C w1 p v1 v2 v3 ks):=hid (HAL.out.below HB1.out);clear hb;by_cases he:E=0
 ·subst he;have HIN:=hid (IY (by decide) HEE.out.symm)
  go_wp2_with fail
  go_loopw [19] (fun i wr=>∃ k:Nat,k<=n/\i=.int .i64 (k:Int)/\Al C wr p v1 v2 v3 (Il ks (zs.take k))/\Mv (fun i=>C i≠0) w wr) (fun i _=>n - (intOf i).toNat)
  case atStart=>exact ⟨0,Nat.zero_le _,rfl,by rw [List.take_zero,WF];exact HAL1.out,Mv.of_below HB1.out⟩
  case round=>
   obtain ⟨k,hk,rfl,hal,hm⟩:=hrel;have HALR:=hid hal;have HM:=hid hm;clear hal hm;obtain ⟨wj,hwj⟩:∃ wj,wj=wr:=⟨_,rfl⟩
   subst hwj;by_cases hlt:(k:Int) < n
   ·have hs:=XY HZ.out HM.out fun i hi hc=>hc (HDJ.out i hi);rcases hs with h0 | ⟨b,o,rfl,-,hc⟩
    ·exfalso;have:=HN.out;rw [h0] at this;simp at this;omega
    have hck:=hc k (by have:=HN.out;omega);have HSN:=hid (FD (bs:=zs) (k:=k) (by have:=HN.out;omega));have hmem:=JM (zs:=zs) (k:=k) (by have:=HN.out;omega);have hnd:(zs.take (k+1)).Nodup:=HIN.out.2.2.sublist (List.take_sublist _ _);rw [HSN.out] at hnd;obtain ⟨x,hx⟩:∃ x,x=zs.getD k 0:=⟨_,rfl⟩
    rw [<- hx] at hck HSN hmem hnd;obtain ⟨q,rfl⟩:=Int.eq_ofNat_of_zero_le (show (0:Int)<=x by have:=HIN.out.1 x hmem;omega);have hqn:q < ks.length:=by have:=HIN.out.1 _ hmem;omega
    have hnm:=(nodup_snoc.1 hnd).2;have hkd:=PM (ks:=ks) hqn hnm;have hgood:isG (kd ks q)=true:=HIN.out.2.1 _ hmem;have hsn:=TL (ks:=ks) (zs:=zs.take k) hqn;obtain ⟨ks1,hks1⟩:∃ ks1,ks1=Il ks (zs.take k):=⟨_,rfl⟩
    rw [<- hks1] at HALR hkd hsn;have hq1:q < ks1.length:=by rw [hks1,Cj];exact hqn
    have hin:=BA (p:=isS) hq1;rw [hkd] at hin;have hdr:=Q7 (HALR.out.s2) q (by rw [A7];exact hq1) 3;rw [hin] at hdr;have hkn:(k < n)=True:=eq_true (by omega);have c1:=HALR.out.c1;have HB5:=hid (Bz wj (.cells #[.int .i64 (q:Int)] 3));have HQ1:=hid hq1;have HKD:=hid hkd;have HSNN:=hid hsn;by_cases h3:kd ks q=3
    ·rw [h3,if_pos (show isS 3=true from rfl)] at hdr;have HDR:=hid hdr;have H3:=hid h3;clear hc hx hmem hnd hqn hnm hkd hgood hsn hks1 hq1 hin hdr h3
     go_wp2_with fail
     refine HDR.out.mono ?_;clear HDR c1;rintro e w2 ⟨rfl,hs2,hm2⟩;have HS2:=hid hs2;have HM2:=hid hm2;clear hs2 hm2
     go_wp2_with fail
     go_roundw
     case rel=>
      refine ⟨k+1,by omega,by go_num,?_,HM.out.trans ((Mv.of_below HB5.out).trans (MM HM2.out (by decide)))⟩;rw [HSN.out,HSNN.out,H3.out];have hh:=(HALR.out.below HB5.out).turn2 HM2.out HS2.out;have e1:AC isC ks1=AC isC (ks1.set q (gK 3)):=(J5 HQ1.out (by rw [HKD.out,H3.out];decide)).symm;have e2:AC isP ks1=AC isP (ks1.set q (gK 3)):=(J5 HQ1.out (by rw [HKD.out,H3.out];decide)).symm;have e3:(AC isS ks1).set q false=AC isS (ks1.set q (gK 3)):=by rw [LQ];rfl
      rw [e1,e2,e3] at hh;exact hh
     case measure=>simp [intOf];omega
    ·have h2:kd ks q=2:=by unfold isG at hgood;simp [h3] at hgood;exact hgood
     rw [h2,if_neg (show ¬ isS 2=true by decide)] at hdr;have HDR:=hid hdr;have H2:=hid h2;clear hc hx hmem hnd hqn hnm hkd hgood hsn hks1 hq1 hin hdr h3 h2
     go_wp2_with fail
     refine HDR.out.mono ?_;clear HDR c1;rintro e w2 ⟨rfl,hs2,hm2⟩;have HAL2:=hid ((HALR.out.below HB5.out).turn2 hm2 hs2);have HM2:Hid (Mv (fun i=>C i≠0) w w2):=hid (HM.out.trans ((Mv.of_below HB5.out).trans (MM hm2 (by decide))));clear hs2 hm2;have hadd:=NP (HAL2.out.s3) q (by rw [A7];exact HQ1.out) 3;have hin:=BA (p:=isP) HQ1.out;rw [HKD.out,H2.out] at hin;rw [hin,if_neg (show ¬ isP 2=true by decide)] at hadd;have HADD:=hid hadd;have HB6:=hid (Bz w2 (.cells #[.int .i64 (q:Int)] 3));have c2:=HAL2.out.c2;clear hadd hin
     go_wp2_with fail
     refine HADD.out.mono ?_;clear HADD c2;rintro e w3 ⟨rfl,hs3,hm3⟩;have HS3:=hid hs3;have HM3:=hid hm3;clear hs3 hm3
     go_wp2_with fail
     go_roundw
     case rel=>
      refine ⟨k+1,by omega,by go_num,?_,HM2.out.trans ((Mv.of_below HB6.out).trans (MM HM3.out (by decide)))⟩;rw [HSN.out,HSNN.out,H2.out];have hh:=(HAL2.out.below HB6.out).turn3 HM3.out HS3.out;have e1:AC isC ks1=AC isC (ks1.set q (gK 2)):=(J5 HQ1.out (by rw [HKD.out,H2.out];decide)).symm;have e2:(AC isP ks1).set q true=AC isP (ks1.set q (gK 2)):=by rw [LQ];rfl
      have e3:(AC isS ks1).set q false=AC isS (ks1.set q (gK 2)):=by rw [LQ];rfl
      rw [e1,e2,e3] at hh;exact hh
     case measure=>simp [intOf];omega
   ·have hkf:(k < n)=False:=eq_false (by omega);have HKN:Hid (k=n):=hid (by omega);clear hlt
    go_wp2_with fail
    go_ret
    have e3:Fb ks zs=Il ks zs:=if_pos (by unfold Io;exact HEE.out.symm);rw [e3];refine ⟨by unfold Io;rw [<- HEE.out];rfl,?_,HM.out⟩;have hh:=HALR.out;rw [HKN.out,HN.out,List.take_length] at hh;exact hh
 ·have hne:(E != 0)=true:=by rw [bne_iff_ne];exact he
  have HNE:=hid he;clear he
  go_wp2_with fail
  go_ret
  have e3:Fb ks zs=ks:=if_neg (by unfold Io;rw [<- HEE.out];exact HNE.out);rw [e3];exact ⟨by unfold Io;rw [<- HEE.out];rfl,HAL1.out,Mv.of_below HB1.out⟩
end Go.Proofs.YtfhdojnobmfefaaGreatDoor
namespace Go.Proofs.YtfhdojnobmfefaaGreatDoor
open Go.RowKit Go.Inc
structure ZK (W0 A B D:Nat) (w:World) (b1 b2 b3 n:Nat):Prop where
 o1:W0<=A
 o2:A<=B
 o3:B<=D
 o4:D<=w.heap.size
 s1:Sm (fun b=>A<=b/\b < B) w (.pointer (some ⟨b1,0,none⟩)) (List.replicate n false)
 s2:Sm (fun b=>B<=b/\b < D) w (.pointer (some ⟨b2,0,none⟩)) (List.replicate n false)
 s3:Sm (fun b=>D<=b) w (.pointer (some ⟨b3,0,none⟩)) (List.replicate n false)
theorem NewSet.ptr {B:Nat} {w:World} {v:Value} {m:List Bool} (h:NewSet B w v m):∃ b,v=.pointer (some ⟨b,0,none⟩)/\Sm (fun b=>B<=b/\b < w.heap.size) w (.pointer (some ⟨b,0,none⟩)) m:=by
 obtain ⟨b,g,c,W,rfl,h2,h3,h4,h5⟩:=h;exact ⟨b,rfl,b,g,c,W,rfl,⟨h2,h4.blt⟩,⟨h3,h4.glt⟩,h4,h5⟩
set_option maxHeartbeats 2000000 in
theorem SG (n:Nat) (w:World) (h1:(1:Int)<=n) (h2:(n:Int)<=2048) :
  Calls Tryz.prog 96 #[.int .i64 (n:Int)] w fun e w'=>(∃ b1 b2 b3 A B D,e=.returned (.agg #[.pointer (some ⟨b1,0,none⟩),.pointer (some ⟨b2,0,none⟩),.pointer (some ⟨b3,0,none⟩)])/\ZK w.heap.size A B D w' b1 b2 b3 n)/\Below w.heap.size w w':=by
 have H:=hid fun x=>Oo n x h1 h2;obtain ⟨w0,hw0⟩:∃ w0,w0=w.alloc (.cells #[.pointer none,.pointer none,.pointer none] 107):=⟨_,rfl⟩
 have HB0:Hid (Below w.heap.size w w0):=hid (by rw [hw0];exact Bz w _);have HR0:Hid (w0.heap[w.heap.size]?=some (.cells #[.pointer none,.pointer none,.pointer none] 107 (0,0))):=hid (by rw [hw0];exact heap_alloc_new w _);have HSZ:Hid (w.heap.size < w0.heap.size):=hid (Aj HR0.out);have HW0:=hid hw0;clear hw0 h1 h2
 go_enter Tryz.func96,Tryz.ntmps96
 go_wp2_with fail
 rw [<- HW0.out];refine (H.out w0).mono ?_;rintro e w1 ⟨⟨u1,rfl,hv1⟩,hb1⟩;obtain ⟨b1,rfl,hs1⟩:=hv1.ptr;have HS1:=hid hs1;have HB1:=hid hb1;have HR1:=hid (Ac HR0.out hb1);clear hv1 hs1 hb1
 go_wp2_with fail
 refine (H.out w1).mono ?_;rintro e w2 ⟨⟨u2,rfl,hv2⟩,hb2⟩;obtain ⟨b2,rfl,hs2⟩:=hv2.ptr;have HS2:=hid hs2;have HB2:=hid hb2;have HR2:=hid (Ac HR1.out hb2);clear hv2 hs2 hb2
 go_wp2_with fail
 refine (H.out w2).mono ?_;rintro e w3 ⟨⟨u3,rfl,hv3⟩,hb3⟩;obtain ⟨b3,rfl,hs3⟩:=hv3.ptr;have HB3:=hid hb3;have HT:Hid (ZK w0.heap.size w0.heap.size w1.heap.size w2.heap.size w3 b1 b2 b3 n):=hid ⟨Nat.le_refl _,HB1.out.size,HB2.out.size,HB3.out.size,(HS1.out.below HB2.out).below HB3.out,HS2.out.below HB3.out,hs3.mono fun _ h _=>h.1⟩;have HR3:=hid (Ac HR2.out hb3);clear hv3 hs3 hb3
 go_wp2_with (refine Ae rfl 107 _ _ rfl w.heap.size #[.pointer (some ⟨b1,0,none⟩),.pointer (some ⟨b2,0,none⟩),.pointer (some ⟨b3,0,none⟩)] rfl rfl 107 _ HR3.out (by kernel_rfl) rfl (by simp [Value.oneCell']) ?_)
 intro w4 hr4 hg4;have HR4:=hid hr4;have HM4:Hid (Mv (fun i=>i=w.heap.size) w3 w4):=hid (Mv.of_grown hg4 fun g h _=>by cases h;rfl);clear hr4 hg4
 go_wp2_with fail
 have hne:∀ i,w0.heap.size<=i->¬ (i=w.heap.size):=fun i hi e=>by have:=HSZ.out;omega
 refine bodyPost_ret (v:=.agg #[.pointer (some ⟨b1,0,none⟩),.pointer (some ⟨b2,0,none⟩),.pointer (some ⟨b3,0,none⟩)]) (results_cell_row rfl _ _ w.heap.size 107 _ (0,0) _ rfl HR4.out Tryz.underlying107 rfl (by kernel_rfl)) rfl ⟨⟨b1,b2,b3,w0.heap.size,w1.heap.size,w2.heap.size,rfl,⟨HB0.out.size,HB1.out.size,HB2.out.size,Nat.le_trans HB3.out.size HM4.out.size,HT.out.s1.mv HM4.out fun i hi=>hne i hi.1,HT.out.s2.mv HM4.out fun i hi=>hne i (Nat.le_trans HB1.out.size hi.1),HT.out.s3.mv HM4.out fun i hi=>hne i (Nat.le_trans HB1.out.size (Nat.le_trans HB2.out.size hi))⟩⟩,?_⟩;have hb03:Below w.heap.size w w3:=HB0.out.trans ((HB1.out.trans ((HB2.out.trans (HB3.out.mono HB2.out.size)).mono HB1.out.size)).mono HB0.out.size);exact hb03.trans (HM4.out.below hb03.size fun i hi=>by rw [show i=w.heap.size from hi];exact Nat.le_refl _)
def N7 (n:Nat) (zs:List Int):Int:=E8 (Dt n) zs isF 8
def Ji (n:Nat) (zs:List Int):List Nat:=NW (Dt n) zs 2
theorem bH {n:Nat} {zs:List Int} (h1:2<=n) (h2:n<=2048) (h:N7 n zs=0):Ks (Ji n zs):=by
 have:=(IY (by decide) h).1;exact (Ks.fresh h1 h2).put this (by decide) (by decide)
def gG (n:Nat) (zs:List Int) (W0:Nat) (w':World) (e:Ending):Prop:=
 (N7 n zs=0/\∃ C p v1 v2 v3,e=.returned (.tuple #[.pointer (some ⟨p,0,none⟩),.int .i64 0])/\Al C w' p v1 v2 v3 (Ji n zs)/\∀ i,C i≠0->W0<=i)\/
  (N7 n zs≠0/\e=.returned (.tuple #[.pointer none,.int .i64 (N7 n zs)]))
set_option maxHeartbeats 4000000 in
theorem P5 (okz:Nat->Prop) (n:Nat) (a:Option Addr) (cz:Nat) (zs:List Int) (w:World) (hz:Si okz w a zs) (h1:(2:Int)<=n) (h2:(n:Int)<=2048) (hl:(zs.length:Int)<=9223372036854775807) (ht:Tab w) :
  Calls Tryz.prog 53 #[.int .i64 (n:Int),.slice a zs.length cz] w fun e w'=>gG n zs w.heap.size w' e/\Below w.heap.size w w':=by
 have HZ:Hid (Si (fun b=>b < w.heap.size) w a zs):=hid (hz.mono fun _ _ h=>h);have HW:Hid (0 < w.heap.size):=hid (AA (ht 0 (by decide)));have HL:=hid hl;have HE:=hid (Rx (Dt n) zs isF (wrong:=8) (by decide));obtain ⟨E,hE⟩:∃ E,E=N7 n zs:=⟨_,rfl⟩
 have HEE:=hid hE;have HKF:Hid (Ks (Dt n)):=hid (Ks.fresh (by omega) (by omega));obtain ⟨nz,hnz⟩:∃ k,k=zs.length:=⟨_,rfl⟩
 have HNZ:=hid hnz;rw [show E8 (Dt n) zs isF 8=E from hE.symm] at HE;have HO:=hid (SG n w (by omega) h2);rw [<- hnz];clear hz ht hl hE hnz
 go_enter Tryz.func53,Tryz.ntmps53
 go_wp2_with fail
 refine HO.out.mono ?_;clear HO;rintro e w1 ⟨⟨b1,b2,b3,A,B,D,rfl,hT⟩,hb1⟩;have HB1:=hid hb1;obtain ⟨wn,hwn⟩:∃ wn,wn=w1.alloc (.cells #[.pointer (some ⟨b1,0,none⟩),.pointer (some ⟨b2,0,none⟩),.pointer (some ⟨b3,0,none⟩)] 109):=⟨_,rfl⟩
 have hbn:Below w1.heap.size w1 wn:=by rw [hwn];exact Bz w1 _
 have hrow:wn.heap[w1.heap.size]?=some (.cells #[.pointer (some ⟨b1,0,none⟩),.pointer (some ⟨b2,0,none⟩),.pointer (some ⟨b3,0,none⟩)] 109 (0,0)):=by rw [hwn];exact heap_alloc_new w1 _
 have hszn:w1.heap.size < wn.heap.size:=Aj hrow;obtain ⟨C,hC⟩:∃ C:Nat->Nat,C=fun i=>if i=w1.heap.size then 1 else if A<=i/\i < B then 2 else if B<=i/\i < D then 3 else if D<=i/\i < w1.heap.size then 4 else 0:=⟨_,rfl⟩
 have o1:=hT.o1;have o2:=hT.o2;have o3:=hT.o3;have o4:=hT.o4;have k1:C w1.heap.size=1:=by rw [hC];exact if_pos rfl
 have k2:∀ i,A<=i/\i < B->C i=2:=fun i hi=>by
  rw [hC];show (if i=w1.heap.size then 1 else if A<=i/\i < B then 2 else if B<=i/\i < D then 3 else if D<=i/\i < w1.heap.size then 4 else 0)=2;rw [if_neg (by omega),if_pos hi]
 have k3:∀ i,B<=i/\i < D->C i=3:=fun i hi=>by
  rw [hC];show (if i=w1.heap.size then 1 else if A<=i/\i < B then 2 else if B<=i/\i < D then 3 else if D<=i/\i < w1.heap.size then 4 else 0)=3;rw [if_neg (by omega),if_neg (by omega),if_pos hi]
 have k4:∀ i,D<=i/\i < w1.heap.size->C i=4:=fun i hi=>by
  rw [hC];show (if i=w1.heap.size then 1 else if A<=i/\i < B then 2 else if B<=i/\i < D then 3 else if D<=i/\i < w1.heap.size then 4 else 0)=4;rw [if_neg (by omega),if_neg (by omega),if_neg (by omega),if_pos hi]
 have k0:∀ i,C i≠0->w.heap.size<=i/\i<=w1.heap.size:=fun i hi=>by
  rw [hC] at hi;have hi2:(if i=w1.heap.size then 1 else if A<=i/\i < B then 2 else if B<=i/\i < D then 3 else if D<=i/\i < w1.heap.size then 4 else 0)≠0:=hi;have:=HB1.out.size;by_cases h1:i=w1.heap.size
  ·omega
  ·by_cases h2:A<=i/\i < B
   ·omega
   ·by_cases h3:B<=i/\i < D
    ·omega
    ·by_cases h4:D<=i/\i < w1.heap.size
     ·omega
     ·rw [if_neg h1,if_neg h2,if_neg h3,if_neg h4] at hi2;exact absurd rfl hi2
 have HK0:=hid k0;have HALN:Hid (Al C wn w1.heap.size (.pointer (some ⟨b1,0,none⟩)) (.pointer (some ⟨b2,0,none⟩)) (.pointer (some ⟨b3,0,none⟩)) (Dt n)):=hid (by
  unfold Al;rw [Ip (p:=isC) rfl rfl,Ip (p:=isS) rfl rfl,Ip (p:=isP) rfl rfl];refine ⟨Decidable.byContradiction fun h=>by have:=(k0 0 h).1;have:=HW.out;omega,fun i hi=>by have:=(k0 i hi).2;omega,k1,cell_of_row wn _ 0 _ _ _ hrow,cell_of_row wn _ 1 _ _ _ hrow,cell_of_row wn _ 2 _ _ _ hrow,?_,?_,?_⟩
  ·exact (hT.s1.below hbn).mono fun b h _=>k2 b h
  ·exact (hT.s2.below hbn).mono fun b h _=>k3 b h
  ·exact (hT.s3.mono (ok':=fun b=>D<=b/\b < w1.heap.size) (fun b h1 h2=>⟨h1,h2⟩)).below hbn |>.mono fun b h _=>k4 b h)
 have HBN:Hid (Below w.heap.size w wn):=hid (HB1.out.trans (hbn.mono HB1.out.size));have HWN:=hid hwn;have HP:Hid (w.heap.size<=w1.heap.size):=hid HB1.out.size;have HB5:=hid (Bz wn (.cells #[.int .i64 1] 3));have hc:=JU (wrong:=8) (fun b=>b < w.heap.size) (fun b=>b=wn.heap.size) a (some ⟨wn.heap.size,0,none⟩) cz 1 zs [1] (HALN.out.below HB5.out) HKF.out ((HZ.out.below HBN.out).below HB5.out) (SE wn 1 3) HL.out (by simp);rw [bZ,show E8 (Dt n) zs isF 8=E from HEE.out.symm,<- HNZ.out] at hc;have hszw:wn.heap.size=w1.heap.size+1:=by rw [hwn];simp
 rw [hszw,hwn] at hc;have HCH:=hid hc;clear hT hb1 hbn hrow hszn hC o1 o2 o3 o4 k1 k2 k3 k4 k0 hc hwn hszw
 go_wp2_with fail
 refine HCH.out.mono ?_;clear HCH;rw [<- HWN.out];rintro e w2 ⟨rfl,hb⟩;have HB2:Hid (Below wn.heap.size wn w2):=hid (HB5.out.trans (hb.mono HB5.out.size));have HALW:Hid (Al C w2 w1.heap.size (.pointer (some ⟨b1,0,none⟩)) (.pointer (some ⟨b2,0,none⟩)) (.pointer (some ⟨b3,0,none⟩)) (Dt n)):=hid (HALN.out.below HB2.out);have HBW:Hid (Below w.heap.size w w2):=hid (HBN.out.trans (HB2.out.mono HBN.out.size));clear hb;by_cases he:E=0
 ·subst he;have HIN:=hid (IY (by decide) (show E8 (Dt n) zs isF 8=0 from HEE.out.symm));have hadd:=JW (fun b=>C b=2) (fun b=>b < w.heap.size) (.pointer (some ⟨b1,0,none⟩)) _ a cz zs w2 HALW.out.s1 (HZ.out.below HBW.out) (fun i hi hc=>by have:=(HK0.out i (by rw [show C i=2 from hc];decide)).1;omega) HL.out;rw [Hz (p:=isC) (k:=2) rfl,<- HNZ.out] at hadd;have HADD:=hid hadd;have c0:=HALW.out.c0;clear hadd
  go_wp2_with fail
  refine HADD.out.mono ?_;clear c0 HADD;rintro e w3 ⟨rfl,hs,hm⟩;have HS:=hid hs;have HM:=hid hm;clear hs hm
  go_wp2_with fail
  go_ret2
  refine ⟨.inl ⟨HEE.out.symm,C,w1.heap.size,.pointer (some ⟨b1,0,none⟩),.pointer (some ⟨b2,0,none⟩),.pointer (some ⟨b3,0,none⟩),rfl,?_,fun i hi=>(HK0.out i hi).1⟩,HBW.out.trans (HM.out.below HBW.out.size fun i hi=>(HK0.out i (by rw [show C i=2 from hi];decide)).1)⟩;have hh:=HALW.out.turn1 HM.out HS.out;have e1:AC isS (Dt n)=AC isS (NW (Dt n) zs 2):=(CQ fun z hz=>by
   have h1:=isF_iff.1 (HIN.out.2.1 z hz);rw [h1];decide).symm
  have e2:AC isP (Dt n)=AC isP (NW (Dt n) zs 2):=(CQ fun z hz=>by
   have h1:=isF_iff.1 (HIN.out.2.1 z hz);rw [h1];decide).symm
  rw [e1,e2] at hh;exact hh
 ·have hne:(E != 0)=true:=by rw [bne_iff_ne];exact he
  have HNE:=hid he;clear he
  go_wp2_with fail
  go_ret2
  exact ⟨.inr ⟨by rw [<- HEE.out];exact HNE.out,by rw [<- HEE.out];rfl⟩,HBW.out⟩
end Go.Proofs.YtfhdojnobmfefaaGreatDoor
namespace Go.Proofs.YtfhdojnobmfefaaGreatDoor
open Go.RowKit Go.Inc
theorem KI {w:World} (ok:Nat->Prop) (v:Value) (m:List Bool) (x:World) (h:Sm ok x v m) (hm:0 < m.length) (hw:w.heap.size<=x.heap.size) :
  Calls Tryz.prog 119 #[v] x fun e w'=>(∃ y,e=.returned y/\NewSet w.heap.size w' y m)/\Below x.heap.size x w':=by
 refine (Rl ok v m x h.bm).mono ?_;rintro e w' ⟨⟨y,h1,h2⟩,h3⟩;obtain ⟨b,g,c,W,e1,e2,e3,e4,e5⟩:=Iw hm h2;exact ⟨⟨y,h1,b,g,c,W,e1,Nat.le_trans hw e2,Nat.le_trans hw e3,e4,e5⟩,h3⟩
set_option maxRecDepth 20000 in
set_option maxHeartbeats 4000000 in
theorem XZ {C:Nat->Nat} {p:Nat} {v1 v2 v3:Value} {ks:List Nat} {w:World} (h:Al C w p v1 v2 v3 ks) (hk:Ks ks) :
  Calls Tryz.prog 73 #[.pointer (some ⟨p,0,none⟩)] w fun e w'=>(∃ x1 x2 x3,e=.returned (.tuple #[x1,x2,x3])/\NewSet w.heap.size w' x1 (AC isC ks)/\NewSet w.heap.size w' x2 (AC isS ks)/\NewSet w.heap.size w' x3 (AC isP ks))/\Below w.heap.size w w':=by
 have HAL:=hid h;have hn:=hk.n2;have HC:Hid (∀ x,Grew w.drew x->x.cell? ⟨p,0,none⟩=some v1/\x.cell? ⟨p,1,none⟩=some v2/\x.cell? ⟨p,2,none⟩=some v3):=hid fun x hx=>by
  have hb:Below w.heap.size w x:=⟨hx.os,hx.tape,hx.output,hx.size,hx.block⟩
  exact ⟨(HAL.out.below hb).c0,(HAL.out.below hb).c1,(HAL.out.below hb).c2⟩
 have HCP1:Hid (∀ x,Grew w.drew x->Calls Tryz.prog 119 #[v1] x fun e w'=>(∃ y,e=.returned y/\NewSet w.heap.size w' y (AC isC ks))/\Below x.heap.size x w'):=hid fun x hx=>by
  have hb:Below w.heap.size w x:=⟨hx.os,hx.tape,hx.output,hx.size,hx.block⟩
  exact KI (w:=w) _ v1 _ x (HAL.out.below hb).s1 (by rw [A7];omega) hx.size
 have HCP2:Hid (∀ x,Grew w.drew x->Calls Tryz.prog 119 #[v2] x fun e w'=>(∃ y,e=.returned y/\NewSet w.heap.size w' y (AC isS ks))/\Below x.heap.size x w'):=hid fun x hx=>by
  have hb:Below w.heap.size w x:=⟨hx.os,hx.tape,hx.output,hx.size,hx.block⟩
  exact KI (w:=w) _ v2 _ x (HAL.out.below hb).s2 (by rw [A7];omega) hx.size
 have HCP3:Hid (∀ x,Grew w.drew x->Calls Tryz.prog 119 #[v3] x fun e w'=>(∃ y,e=.returned y/\NewSet w.heap.size w' y (AC isP ks))/\Below x.heap.size x w'):=hid fun x hx=>by
  have hb:Below w.heap.size w x:=⟨hx.os,hx.tape,hx.output,hx.size,hx.block⟩
  exact KI (w:=w) _ v3 _ x (HAL.out.below hb).s3 (by rw [A7];omega) hx.size
 clear h hn hk
 go_enter Tryz.func73,Tryz.ntmps73
 go_wp2_with fail
 refine Ai 21 [Ah (.pointer (some ⟨p,0,none⟩)),Ah (.pointer (some ⟨p,0,none⟩)),Ah (.pointer (some ⟨p,0,none⟩)),Ah (.pointer (some ⟨p,0,none⟩)),Ah (v1),(fun x v=>NewSet w.heap.size x v (AC isC ks)),Ah (.pointer (some ⟨p,0,none⟩)),Ah (.pointer (some ⟨p,0,none⟩)),Ah (.pointer (some ⟨p,0,none⟩)),Ah (.pointer (some ⟨p,1,none⟩)),Ah (v2),(fun x v=>NewSet w.heap.size x v (AC isS ks)),Ah (.pointer (some ⟨p,0,none⟩)),Ah (.pointer (some ⟨p,0,none⟩)),Ah (.pointer (some ⟨p,0,none⟩)),Ah (.pointer (some ⟨p,2,none⟩)),Ah (v3),(fun x v=>NewSet w.heap.size x v (AC isP ks)),(fun x v=>NewSet w.heap.size x v (AC isC ks)),(fun x v=>NewSet w.heap.size x v (AC isS ks)),(fun x v=>NewSet w.heap.size x v (AC isP ks))] (by kernel_rfl) (by decide) (by kernel_rfl) ?_ ?_ ?_
 ·repeat' (first | exact List.forall_mem_nil _ | refine List.forall_mem_cons.2 ⟨?_,?_⟩)
  all_goals
   intro w w' v hw h
   first | exact h | exact NewSet.below h hw
 ·simp only [AllLt];refine ⟨⟨⟨⟨⟨⟨⟨⟨⟨⟨⟨⟨⟨⟨⟨⟨⟨⟨⟨⟨⟨trivial,?_⟩,?_⟩,?_⟩,?_⟩,?_⟩,?_⟩,?_⟩,?_⟩,?_⟩,?_⟩,?_⟩,?_⟩,?_⟩,?_⟩,?_⟩,?_⟩,?_⟩,?_⟩,?_⟩,?_⟩,?_⟩
  all_goals
   intro o' ho;simp at ho;subst ho;intro ρ w5 hR hL hS hG;obtain ⟨hl1,hl2,-⟩:=hL
  ·refine Aa rfl ?_;intro bA K Q' hK;have e0:=hS 0 (by kernel_rfl);change ρ (.tmp 0)=_ at e0;simp only [execOp];go_simp;exact hK _ _ rfl (Grew.refl _)
  ·refine Aa rfl ?_;intro bA K Q' hK;have e7:=apG (hG 0 7);change ρ (.tmp 7)=_ at e7;simp only [execOp];go_simp;exact hK _ _ rfl (Grew.refl _)
  ·refine Aa rfl ?_;intro bA K Q' hK;have e8:=apG (hG 1 8);change ρ (.tmp 8)=_ at e8;simp only [execOp];go_simp;exact hK _ _ rfl (Grew.refl _)
  ·refine Aa rfl ?_;intro bA K Q' hK;have e9:=apG (hG 2 9);change ρ (.tmp 9)=_ at e9;simp only [execOp];go_simp;exact hK _ _ rfl (Grew.refl _)
  ·refine Aa rfl ?_;intro bA K Q' hK;have e10:=apG (hG 3 10);change ρ (.tmp 10)=_ at e10;obtain ⟨y0,y1,y2⟩:=HC.out w5 hR;simp only [execOp];go_simp;exact hK _ _ rfl (Grew.refl _)
  ·refine Aa rfl ?_;intro bA K Q' hK;have e11:=apG (hG 4 11);change ρ (.tmp 11)=_ at e11;simp only [execOp];go_simp;refine (HCP1.out w5 hR).mono ?_;rintro r9 w9 ⟨⟨y,rfl,hy⟩,hb9⟩;exact hK _ _ hy hb9
  ·refine Aa rfl ?_;intro bA K Q' hK;have e0:=hS 0 (by kernel_rfl);change ρ (.tmp 0)=_ at e0;simp only [execOp];go_simp;exact hK _ _ rfl (Grew.refl _)
  ·refine Aa rfl ?_;intro bA K Q' hK;have e13:=apG (hG 6 13);change ρ (.tmp 13)=_ at e13;simp only [execOp];go_simp;exact hK _ _ rfl (Grew.refl _)
  ·refine Aa rfl ?_;intro bA K Q' hK;have e14:=apG (hG 7 14);change ρ (.tmp 14)=_ at e14;simp only [execOp];go_simp;exact hK _ _ rfl (Grew.refl _)
  ·refine Aa rfl ?_;intro bA K Q' hK;have e15:=apG (hG 8 15);change ρ (.tmp 15)=_ at e15;simp only [execOp];go_simp;exact hK _ _ rfl (Grew.refl _)
  ·refine Aa rfl ?_;intro bA K Q' hK;have e16:=apG (hG 9 16);change ρ (.tmp 16)=_ at e16;obtain ⟨y0,y1,y2⟩:=HC.out w5 hR;simp only [execOp];go_simp;exact hK _ _ rfl (Grew.refl _)
  ·refine Aa rfl ?_;intro bA K Q' hK;have e17:=apG (hG 10 17);change ρ (.tmp 17)=_ at e17;simp only [execOp];go_simp;refine (HCP2.out w5 hR).mono ?_;rintro r9 w9 ⟨⟨y,rfl,hy⟩,hb9⟩;exact hK _ _ hy hb9
  ·refine Aa rfl ?_;intro bA K Q' hK;have e0:=hS 0 (by kernel_rfl);change ρ (.tmp 0)=_ at e0;simp only [execOp];go_simp;exact hK _ _ rfl (Grew.refl _)
  ·refine Aa rfl ?_;intro bA K Q' hK;have e19:=apG (hG 12 19);change ρ (.tmp 19)=_ at e19;simp only [execOp];go_simp;exact hK _ _ rfl (Grew.refl _)
  ·refine Aa rfl ?_;intro bA K Q' hK;have e20:=apG (hG 13 20);change ρ (.tmp 20)=_ at e20;simp only [execOp];go_simp;exact hK _ _ rfl (Grew.refl _)
  ·refine Aa rfl ?_;intro bA K Q' hK;have e21:=apG (hG 14 21);change ρ (.tmp 21)=_ at e21;simp only [execOp];go_simp;exact hK _ _ rfl (Grew.refl _)
  ·refine Aa rfl ?_;intro bA K Q' hK;have e22:=apG (hG 15 22);change ρ (.tmp 22)=_ at e22;obtain ⟨y0,y1,y2⟩:=HC.out w5 hR;simp only [execOp];go_simp;exact hK _ _ rfl (Grew.refl _)
  ·refine Aa rfl ?_;intro bA K Q' hK;have e23:=apG (hG 16 23);change ρ (.tmp 23)=_ at e23;simp only [execOp];go_simp;refine (HCP3.out w5 hR).mono ?_;rintro r9 w9 ⟨⟨y,rfl,hy⟩,hb9⟩;exact hK _ _ hy hb9
  ·refine Aa rfl ?_;intro bA K Q' hK;have e12:=apG (hG 5 12);simp only [execOp];go_simp;exact hK _ _ e12 (Grew.refl _)
  ·refine Aa rfl ?_;intro bA K Q' hK;have e18:=apG (hG 11 18);simp only [execOp];go_simp;exact hK _ _ e18 (Grew.refl _)
  ·refine Aa rfl ?_;intro bA K Q' hK;have e24:=apG (hG 17 24);simp only [execOp];go_simp;exact hK _ _ e24 (Grew.refl _)
 ·intro v w3 hR hG;have h1:NewSet w.heap.size w3 (v 18) (AC isC ks):=hG.1.1.2;have h2:NewSet w.heap.size w3 (v 19) (AC isS ks):=hG.1.2;have h3:NewSet w.heap.size w3 (v 20) (AC isP ks):=hG.2;have H1:=hid h1;have H2:=hid h2;have H3:=hid h3;have hb:Below w.heap.size w w3:=⟨hR.os,hR.tape,hR.output,hR.size,hR.block⟩
  have HB3:=hid hb;clear hG hR hb h1 h2 h3 HC HCP1 HCP2 HCP3;simp [stG,stU,Au,Act.put]
  go_wp2_with fail
  go_ret3
  exact ⟨⟨_,_,_,rfl,H1.out,H2.out,H3.out⟩,HB3.out⟩
end Go.Proofs.YtfhdojnobmfefaaGreatDoor
namespace Go.Proofs.YtfhdojnobmfefaaGreatDoor
open Go.RowKit Go.Inc
theorem Sm.isPtr {ok:Nat->Prop} {w:World} {v:Value} {m:List Bool} (h:Sm ok w v m):∃ b,v=.pointer (some ⟨b,0,none⟩):=by
 obtain ⟨b,_,_,_,h1,_⟩:=h;exact ⟨b,h1⟩
theorem Sm.ne {ok:Nat->Prop} {w:World} {v:Value} {m:List Bool} {bx:Nat} {q:Option Addr} (h:Sm ok w v m) (hx:w.cell? ⟨bx,0,none⟩=some (.pointer q)):Sm (fun b=>ok b/\b≠bx) w v m:=by
 obtain ⟨b,g,c,W,h1,h2,h3,h4,h5⟩:=h;refine ⟨b,g,c,W,h1,⟨h2,fun e=>?_⟩,⟨h3,fun e=>?_⟩,h4,h5⟩
 ·have:=h4.hsz;rw [e,hx] at this;cases this
 ·have:=h4.cell h4.wlen.1;rw [e,hx] at this;cases this
theorem dO {ok:Nat->Prop} {x:World} {b:Nat} {v:Value} {m:List Bool} {T:TypeId} (hr:x.heap[b]?=some (.cells #[v] T (0,0))) (h:Sm ok x v m):BmS (fun _=>True) x (some ⟨b,0,none⟩) 1 (fun _=>m):=fun i hi=>by
 have h0:i=0:=by omega
 subst h0;exact ⟨_,0,v,rfl,trivial,by rw [cell_of_row _ b _ _ _ _ hr];rfl,h.bm.mono fun _ _ _=>trivial⟩
structure Used (okU:Nat->Prop) (w:World) (bx:Nat) (vu:Value) (ks:List Nat):Prop where
 tab:Tab w
 box:w.cell? ⟨bx,0,none⟩=some vu
 set:∃ m,Sm okU w vu m/\m.length=ks.length/\∀ i,i < ks.length->inB m i=(isC (kd ks i)||isS (kd ks i))
 k0:okU 0
 kb:okU bx
theorem Used.mv {okU:Nat->Prop} {w w':World} {bx:Nat} {vu:Value} {ks:List Nat} (h:Used okU w bx vu ks) (hm:Mv (fun b=>¬ okU b) w w'):Used okU w' bx vu ks:=by
 obtain ⟨m,h1,h2⟩:=h.set;exact ⟨h.tab.mv hm fun hh=>hh h.k0,hm.cell h.box fun hh=>hh h.kb,⟨m,h1.mv hm fun i hi hh=>hh hi,h2⟩,h.k0,h.kb⟩
def fK (ks:List Nat) (i:Nat):Bool:=isF (kd ks i)
theorem UU (ks:List Nat):Az isF ks=Bc (fK ks) ks.length:=rfl
def ZQ (ks:List Nat) (no:Nat) (pg e:Value):Prop:=
 (pg=.int .i64 0/\e=.int .i64 7/\Bc (fK ks) no=Az isF ks)\/∃ k:Nat,no<=k/\k < ks.length/\pg=.int .i64 (k:Int)/\e=.int .i64 0/\fK ks k=true/\Bc (fK ks) k=Bc (fK ks) no
theorem VD {okU:Nat->Prop} {w:World} {bx:Nat} {vu:Value} {ks:List Nat} (h:Used okU w bx vu ks) (hk:Ks ks) (no:Nat) (h2:2<=no) (hn:no<=ks.length) :
  Calls Tryz.prog 100 #[vu,.int .i64 (no:Int)] w fun e w'=>(∃ pg er,e=.returned (.tuple #[pg,er])/\ZQ ks no pg er)/\w=w':=by
 obtain ⟨m,h3,h4,h5⟩:=h.set;have hl:=hk.n2048;refine (YW okU vu m (no:Int) w h3.bm h.tab (by omega) (by omega)).mono ?_;rintro e w' ⟨rfl,rfl⟩;refine ⟨?_,rfl⟩;have key:∀ i,no<=i->i < ks.length->((inB m i=false)↔fK ks i=true):=fun i h6 h7=>by
  have:=hk.rest i (by omega) h7;rw [h5 i h7];unfold fK isF isC isS;generalize kd ks i=k at *
  obtain rfl | rfl | rfl | rfl:k=1\/k=2\/k=3\/k=4:=by omega
  all_goals decide
 rw [h4];rcases Tn (inB m) (no:Int) false ks.length with ⟨e1,e2⟩ | ⟨k,e1,e2,e3,e4⟩
 ·rw [Jg e1];refine ⟨_,_,rfl,.inl ⟨rfl,rfl,?_⟩⟩;rw [UU];obtain ⟨t,ht⟩:∃ t,ks.length=no+t:=⟨ks.length - no,by omega⟩
  rw [ht];refine (GR t fun i h6 h7=>?_).symm;cases hf:fK ks i
  ·rfl
  ·exact absurd ⟨by omega,(key i h6 (by omega)).2 hf⟩ (e2 i (by omega))
 ·rw [Ql e2];refine ⟨_,_,rfl,.inr ⟨k,by omega,e1,rfl,rfl,(key k (by omega) e1).1 e3.2,?_⟩⟩;obtain ⟨t,ht⟩:∃ t,k=no+t:=⟨k - no,by omega⟩
  rw [ht];refine GR t fun i h6 h7=>?_;cases hf:fK ks i
  ·rfl
  ·exact absurd ⟨by omega,(key i h6 (by omega)).2 hf⟩ (e4 i (by omega))
def BoxG (W0:Nat) (x:World) (v:Value):Prop:=∃ b,v=.pointer (some ⟨b,0,none⟩)/\W0<=b/\x.heap[b]?=some (.cells #[.pointer none] 105 (0,0))
def RowG (u:Value) (x:World) (v:Value):Prop:=∃ b,v=.slice (some ⟨b,0,none⟩) 1 1/\x.heap[b]?=some (.cells #[u] 105 (0,0))
theorem BoxG.kept {W0:Nat} {x y:World} {v:Value} (h:BoxG W0 x v) (hg:Grew x y):BoxG W0 y v:=by
 obtain ⟨b,h1,h2,h3⟩:=h;exact ⟨b,h1,h2,Ac h3 hg⟩
theorem RowG.kept {u:Value} {x y:World} {v:Value} (h:RowG u x v) (hg:Grew x y):RowG u y v:=by
 obtain ⟨b,h1,h3⟩:=h;exact ⟨b,h1,Ac h3 hg⟩
set_option maxRecDepth 20000 in
set_option maxHeartbeats 4000000 in
theorem Nc {C:Nat->Nat} {p:Nat} {v1 v2 v3:Value} {ks:List Nat} {w:World} (h:Al C w p v1 v2 v3 ks) (hk:Ks ks) (ht:Tab w) :
  Calls Tryz.prog 54 #[.pointer (some ⟨p,0,none⟩)] w fun e w'=>(∃ bx vu,e=.returned (.func (.func 99) #[] #[.pointer (some ⟨bx,0,none⟩)])/\Used (fun i=>i=0\/(w.heap.size<=i/\i < w'.heap.size)) w' bx vu ks)/\Below w.heap.size w w':=by
 obtain ⟨b2,rfl⟩:=h.s2.isPtr;have HAL:=hid h;have HT:=hid ht;have hn:=hk.n2;obtain ⟨U,hU⟩:∃ U,U=GH (AC isC ks) (fun _=>AC isS ks) 1:=⟨_,rfl⟩
 have HLEN:Hid (U.length=ks.length):=hid (by rw [hU,KP,A7]);have HBITS:Hid (∀ i,i < ks.length->inB U i=(isC (kd ks i)||isS (kd ks i))):=hid fun i hi=>by
  rw [hU];show inB (mix (fun x y=>x||y) (AC isC ks) (AC isS ks)) i=_;rw [U2,A7,decide_eq_true hi,BA hi,BA hi];rfl
 have HC:Hid (∀ x,Grew w.drew x->x.cell? ⟨p,0,none⟩=some v1/\x.cell? ⟨p,1,none⟩=some (.pointer (some ⟨b2,0,none⟩))):=hid fun x hx=>by
  have hb:Below w.heap.size w x:=⟨hx.os,hx.tape,hx.output,hx.size,hx.block⟩
  exact ⟨(HAL.out.below hb).c0,(HAL.out.below hb).c1⟩
 have HU:Hid (∀ x,Grew w.drew x->∀ b,x.heap[b]?=some (.cells #[(.pointer (some ⟨b2,0,none⟩))] 105 (0,0))->Calls Tryz.prog 98 #[v1,.slice (some ⟨b,0,none⟩) 1 1] x fun e w'=>(∃ y,e=.returned y/\NewSet w.heap.size w' y U)/\Below x.heap.size x w'):=hid fun x hx b hr=>by
  have hb:Below w.heap.size w x:=⟨hx.os,hx.tape,hx.output,hx.size,hx.block⟩
  refine (VE (fun _=>True) v1 _ (some ⟨b,0,none⟩) 1 1 (fun _=>AC isS ks) x ((HAL.out.below hb).s1.bm.mono fun _ _ _=>trivial) (dO hr (HAL.out.below hb).s2) (by decide)).mono ?_;rintro e w' ⟨⟨y,h1,h2⟩,h3⟩;rw [<- hU] at h2;obtain ⟨b,g,c,W,e1,e2,e3,e4,e5⟩:=Iw (by rw [HLEN.out];omega) h2;exact ⟨⟨y,h1,b,g,c,W,e1,Nat.le_trans hx.size e2,Nat.le_trans hx.size e3,e4,e5⟩,h3⟩
 have HSZ:Hid (∀ x:World,Grew w.drew x->w.heap.size<=x.heap.size):=hid fun x hx=>hx.size;clear h hk ht hn hU
 go_enter Tryz.func54,Tryz.ntmps54
 go_wp2_with fail
 refine Ai 11 [Ah (.pointer (some ⟨p,0,none⟩)),Ah (.pointer (some ⟨p,0,none⟩)),Ah (.pointer (some ⟨p,0,none⟩)),Ah (v1),Ah (.pointer (some ⟨p,0,none⟩)),Ah (.pointer (some ⟨p,0,none⟩)),Ah (.pointer (some ⟨p,1,none⟩)),Ah (.pointer (some ⟨b2,0,none⟩)),RowG (.pointer (some ⟨b2,0,none⟩)),(fun x v=>NewSet w.heap.size x v U),BoxG w.heap.size] (by kernel_rfl) (by decide) (by kernel_rfl) ?_ ?_ ?_
 ·repeat' (first | exact List.forall_mem_nil _ | refine List.forall_mem_cons.2 ⟨?_,?_⟩)
  all_goals
   intro w w' v hw h
   first | exact h | exact NewSet.below h hw | exact BoxG.kept h hw | exact RowG.kept h hw
 ·simp only [AllLt];refine ⟨⟨⟨⟨⟨⟨⟨⟨⟨⟨⟨trivial,?_⟩,?_⟩,?_⟩,?_⟩,?_⟩,?_⟩,?_⟩,?_⟩,?_⟩,?_⟩,?_⟩
  all_goals
   intro o' ho;simp at ho;subst ho;intro ρ w5 hR hL hS hG;obtain ⟨hl1,hl2,-⟩:=hL
  ·refine Aa rfl ?_;intro bA K Q' hK;have e0:=hS 0 (by kernel_rfl);change ρ (.tmp 0)=_ at e0;simp only [execOp];go_simp;exact hK _ _ rfl (Grew.refl _)
  ·refine Aa rfl ?_;intro bA K Q' hK;have e4:=apG (hG 0 4);change ρ (.tmp 4)=_ at e4;simp only [execOp];go_simp;exact hK _ _ rfl (Grew.refl _)
  ·refine Aa rfl ?_;intro bA K Q' hK;have e5:=apG (hG 1 5);change ρ (.tmp 5)=_ at e5;simp only [execOp];go_simp;exact hK _ _ rfl (Grew.refl _)
  ·refine Aa rfl ?_;intro bA K Q' hK;have e6:=apG (hG 2 6);change ρ (.tmp 6)=_ at e6;obtain ⟨y0,y1⟩:=HC.out w5 hR;simp only [execOp];go_simp;exact hK _ _ rfl (Grew.refl _)
  ·refine Aa rfl ?_;intro bA K Q' hK;have e0:=hS 0 (by kernel_rfl);change ρ (.tmp 0)=_ at e0;simp only [execOp];go_simp;exact hK _ _ rfl (Grew.refl _)
  ·refine Aa rfl ?_;intro bA K Q' hK;have e8:=apG (hG 4 8);change ρ (.tmp 8)=_ at e8;simp only [execOp];go_simp;exact hK _ _ rfl (Grew.refl _)
  ·refine Aa rfl ?_;intro bA K Q' hK;have e9:=apG (hG 5 9);change ρ (.tmp 9)=_ at e9;simp only [execOp];go_simp;exact hK _ _ rfl (Grew.refl _)
  ·refine Aa rfl ?_;intro bA K Q' hK;have e10:=apG (hG 6 10);change ρ (.tmp 10)=_ at e10;obtain ⟨y0,y1⟩:=HC.out w5 hR;simp only [execOp];go_simp;exact hK _ _ rfl (Grew.refl _)
  ·refine Aa rfl ?_;intro bA K Q' hK;have e11:=apG (hG 7 11);change ρ (.tmp 11)=_ at e11;simp only [execOp];go_simp;exact hK _ _ ⟨_,rfl,heap_alloc_new w5 _⟩ ((Grew.refl _).alloc _)
  ·refine Aa rfl ?_;intro bA K Q' hK;have e7:=apG (hG 3 7);have e12:=apG (hG 8 12);change ρ (.tmp 7)=_ at e7;obtain ⟨b9,q1,q2⟩:=e12;change ρ (.tmp 12)=_ at q1;simp only [execOp];go_simp;refine (HU.out w5 hR b9 q2).mono ?_;rintro r9 w9 ⟨⟨y,rfl,hy⟩,hb9⟩;exact hK _ _ hy hb9
  ·refine Aa rfl ?_;intro bA K Q' hK;have hsz2:=HSZ.out w5 hR;simp only [execOp];go_simp;exact hK _ _ ⟨_,rfl,hsz2,heap_alloc_new w5 _⟩ ((Grew.refl _).alloc _)
 ·intro v w3 hR hG;obtain ⟨bx,h10,hbx,hrow⟩:BoxG w.heap.size w3 (v 10):=hG.2;have hu:NewSet w.heap.size w3 (v 9) U:=hG.1.2;obtain ⟨bu,h9,hsu⟩:=hu.ptr;have hb:Below w.heap.size w w3:=⟨hR.os,hR.tape,hR.output,hR.size,hR.block⟩
  have hcb:=cell_of_row w3 bx 0 _ _ _ hrow;have hfz:=frozen_of_row w3 bx 0 _ _ hrow;have HSU:Hid (Sm (fun b=>(w.heap.size<=b/\b < w3.heap.size)/\b≠bx) w3 (.pointer (some ⟨bu,0,none⟩)) U):=hid (hsu.ne hcb);have HBX:Hid (w.heap.size<=bx/\bx < w3.heap.size):=hid ⟨hbx,Aj hrow⟩;have HB3:=hid hb;have hcb2:w3.cell? ⟨bx,0,none⟩=some (.pointer none):=hcb;clear hG hR hb hrow hsu hu hbx HC HU hcb;simp [stG,stU,Au,Act.put,h10,h9];clear h10 h9
  go_wp2_with fail
  go_ret
  have hm:Mv (fun i=>i=bx) w3 (w3.setCell ⟨bx,0,none⟩ (.pointer (some ⟨bu,0,none⟩))):=DW (F:=fun i=>i=bx) (Mv.refl _ _) rfl _;have hcn:(w3.setCell ⟨bx,0,none⟩ (.pointer (some ⟨bu,0,none⟩))).cell? ⟨bx,0,none⟩=some (.pointer (some ⟨bu,0,none⟩)):=World.cell?_setCell_same' _ _ _ (by rw [hcb2];rfl);have hbb:Below w.heap.size w (w3.setCell ⟨bx,0,none⟩ (.pointer (some ⟨bu,0,none⟩))):=HB3.out.trans (hm.below HB3.out.size fun i hi=>by rw [show i=bx from hi];exact HBX.out.1);refine ⟨⟨bx,_,rfl,HT.out.below hbb,hcn,⟨U,?_,HLEN.out,HBITS.out⟩,.inl rfl,.inr ⟨HBX.out.1,Nat.lt_of_lt_of_le HBX.out.2 hm.size⟩⟩,hbb⟩;exact (HSU.out.mv hm fun i hi=>hi.2).mono fun b h _=>.inr ⟨h.1.1,Nat.lt_of_lt_of_le h.1.2 hm.size⟩
end Go.Proofs.YtfhdojnobmfefaaGreatDoor
