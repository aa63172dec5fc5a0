/- MADE SMALL. -/
import Derived.Test.YtfhdojnobmfefaaGreatDoorG3
import Derived.Deep.RegionHeld3
import Derived.Test.YtfhdojnobmfefaaGreatDoorG0
namespace Go.Proofs.YtfhdojnobmfefaaGreatDoor
open Go.RowKit Go.Inc
theorem QU (a:Option Addr) (n c:Nat) (w:World) (h:(n:Int) < 4) :
  Calls Tryz.prog 186 #[.slice a n c] w fun e w'=>e=.returned (.bool false)/\w=w':=by
 have h0:(n:Int) - 4 < 0:=by omega
 go_enter Tryz.func186,Tryz.ntmps186
 go_wp2_with fail
 go_ret
 exact ⟨rfl,rfl⟩
def Four (w w':World) (b o:Nat) (x0 x1 x2 x3:Nat):Prop:=
 Below w.heap.size w w'/\w'.cell? ⟨b,o,none⟩=some (.int .u8 (x0:Int))/\w'.cell? ⟨b,o+1,none⟩=some (.int .u8 (x1:Int))/\w'.cell? ⟨b,o+2,none⟩=some (.int .u8 (x2:Int))/\w'.cell? ⟨b,o+3,none⟩=some (.int .u8 (x3:Int))
theorem Four.of {w w':World} {b o x0 x1 x2 x3:Nat} (h:Four w w b o x0 x1 x2 x3) (hB:Below w.heap.size w w'):Four w w' b o x0 x1 x2 x3:=
 ⟨hB,(hB.cell (AA h.2.1)).trans h.2.1,(hB.cell (AA h.2.2.1)).trans h.2.2.1,(hB.cell (AA h.2.2.2.1)).trans h.2.2.2.1,(hB.cell (AA h.2.2.2.2)).trans h.2.2.2.2⟩
theorem eX {w wx:World} {b o:Nat} {pre:List Nat} (hp:Sl (fun b=>b < w.heap.size) w (some ⟨b,o,none⟩) pre) (hb:Bytes pre) (hB:Below w.heap.size w wx) (c:Nat) (hc:pre.length<=c/\c<=maxLen) (T:TypeId) (k:Nat) (hk:pre.length=k) :
  Pt (fun b=>b < w.heap.size\/b=wx.heap.size) (wx.alloc (.cells #[.slice (some ⟨b,o,none⟩) k c] T)) (some ⟨wx.heap.size,0,none⟩) [pre]:=by
 subst hk;exact Pt.one (hp.below hB) hb c hc T
theorem iM (w:World) (a:Addr) (c:Nat):(Instr.arrayAt 276 (.slice (some a) 4 c)).run Tryz.prog w=.ok (.pointer (some a)) w:=by
 simp [Instr.arrayAt,go_sem]
theorem eq4 (w:World) (x0 x1 x2 x3 y0 y1 y2 y3:Int) :
  (Op.equalIn 10000 276 (.agg #[.int .u8 x0,.int .u8 x1,.int .u8 x2,.int .u8 x3]) (.agg #[.int .u8 y0,.int .u8 y1,.int .u8 y2,.int .u8 y3])).run Tryz.prog w =
   .ok (x0 == y0 && (x1 == y1 && (x2 == y2 && x3 == y3))) w:=by
 have hi:∃ i,Tryz.prog.info? 5=some i/\i.size=1:=by obtain ⟨i,h1,_,h2,_⟩:=info_parts FN;exact ⟨i,h1,h2⟩
 obtain ⟨i,hi,hs⟩:=hi;have hp:∀ (cs:Array Value) (n:Nat) (v:Value) (w:World),cs[n]?=some v->(part 5 cs n).run Tryz.prog w=.ok v w:=by
  intro cs n v w h;simp [part,isAgg,Sem.run_bind,run_underlying Tryz.underlying5,h]
 unfold Op.equalIn;simp only [Sem.run_bind,run_underlying Tryz.underlying276,Result.andThen_ok];simp [sizeOf,typeInfo,hi,hs,List.range',hp,run_equalIn_int _ _ _ _ _ _ _ Tryz.underlying5];by_cases h0:x0=y0<;>by_cases h1:x1=y1<;>by_cases h2:x2=y2<;>by_cases h3:x3=y3<;>simp [h0,h1,h2,h3]
theorem fO (w:World) (x0 x1 x2 x3 s:Nat) :
  (Op.equalIn 10000 276 (.agg #[.int .u8 x0,.int .u8 x1,.int .u8 x2,.int .u8 x3]) (.agg (u8s (low s)).toArray)).run Tryz.prog w=.ok (decide ([x0,x1,x2,x3]=low s)) w:=by
 refine (eq4 w x0 x1 x2 x3 _ _ _ _).trans ?_
 congr 1
 rw [Bool.eq_iff_iff];simp only [low,List.cons.injEq,and_true,Bool.and_eq_true,beq_iff_eq,decide_eq_true_eq];omega
set_option maxRecDepth 20000 in
set_option maxHeartbeats 2000000 in
theorem TK (b o k c:Nat) (pre:List Nat) (x0 x1 x2 x3:Nat) (w:World) (hk:pre.length=k) (hb:Bytes pre)
  (hpre:Sl (fun b=>b < w.heap.size) w (some ⟨b,o,none⟩) pre) (hf:Four w w b (o+k) x0 x1 x2 x3) (hc:((k+4:Nat):Int)<=c) (hm:(c:Int)<=9223372036854775807) :
  Calls Tryz.prog 186 #[.slice (some ⟨b,o,none⟩) (k+4) c] w fun e w'=>e=.returned (.bool (decide ([x0,x1,x2,x3]=low (Crc.sum pre))))/\Below w.heap.size w w':=by
 have hk0:(0:Int)<=k:=by omega
 have HK:=hid hk;have HP:=hid hpre;have HF:=hid hf;have HB:=hid hb;have hc2:Hid (pre.length<=c/\c<=maxLen):=hid ⟨by omega,by unfold maxLen;omega⟩;have hfl:Hid ([pre].flatten=pre):=hid (by simp);have hck:(k:Int)<=c:=by omega
 have hck4:(k:Int)<=k+4:=by omega
 have hpt:=Pt.below (eX hpre hb (Below.refl _ _) c hc2.out 74 k hk) ((Below.refl _ _).drew);have H9:=hid (UD _ 1 _ _ _ hpt (by show [pre].flatten.length<=_;rw [hfl.out];omega) (by simp));have HBX:Hid (Below w.heap.size w (w.alloc (.cells #[.slice (some ⟨b,o,none⟩) k c] 74)).drew):=hid (((Below.refl _ _).alloc (Nat.le_refl _) _).drew);have hsl:=Crc.sum_lt pre hb;rw [hfl.out] at H9;generalize Crc.sum pre=s at *
 clear hk hpre hf hb hpt;have harr:=iM;have heqq:=fun w=>fO w x0 x1 x2 x3 s
 go_enter Tryz.func186,Tryz.ntmps186
 go_wp2_with fail
 go_region_held3 (fun w'=>Below w.heap.size w w'/\w'.cell? ⟨b,o+k,none⟩=some (.int .u8 (x0:Int))/\w'.cell? ⟨b,o+k+1,none⟩=some (.int .u8 (x1:Int))/\w'.cell? ⟨b,o+k+2,none⟩=some (.int .u8 (x2:Int))/\w'.cell? ⟨b,o+k+3,none⟩=some (.int .u8 (x3:Int)))
  (exact HF.out.of (by repeat (first | exact Below.refl _ _ | assumption | apply Below.drew | refine Below.alloc ?_ (by first | exact Nat.le_refl _ | (simp;done)) _)))
  (first | (go_at_call 194;refine H9.out.mono ?_;rintro e w1 ⟨rfl,hb1⟩;have hbw:=Below.trans HBX.out (hb1.mono HBX.out.size);clear hb1) | (go_at_call 193;refine (Nq _ _ hsl).mono ?_;rintro e w2 ⟨rfl,hb2⟩;have hbw2:=Below.trans hbw (hb2.mono hbw.size);clear hb2))
 all_goals
  go_wp2_with fail
  go_ret
  exact ⟨rfl,by assumption⟩
def ER (bs:List Nat):Bool:=decide (4<=bs.length/\bs.drop (bs.length - 4)=low (Crc.sum (bs.take (bs.length - 4))))
theorem Wu {l:List Nat} (h:l.length=4):l=[l.getD 0 0,l.getD 1 0,l.getD 2 0,l.getD 3 0]:=by
 match l,h with
 | [a,b,c,d],_=>rfl
theorem WA (ok:Nat->Prop) (a:Option Addr) (c:Nat) (bs:List Nat) (w:World) (hs:Sl ok w a bs) (hby:Bytes bs) (hc:bs.length<=c) (hm:c<=maxLen) :
  Calls Tryz.prog 186 #[.slice a bs.length c] w fun e w'=>e=.returned (.bool (ER bs))/\Below w.heap.size w w':=by
 by_cases h4:bs.length < 4
 ·refine (QU a bs.length c w (by omega)).mono ?_;rintro e w' ⟨rfl,rfl⟩;refine ⟨Eg ?_,Below.refl _ _⟩;symm;unfold ER;rw [decide_eq_false_iff_not];omega
 ·have hs':Sl (fun b=>b < w.heap.size) w a bs:=hs.mono fun _ _ h=>h;rcases hs with rfl | ⟨b,o,rfl,_,hcell⟩
  ·simp at h4
  ·have hk:bs.length - 4+4=bs.length:=by omega
   have hpl:(bs.take (bs.length - 4)).length=bs.length - 4:=by rw [List.length_take];omega
   have hdl:(bs.drop (bs.length - 4)).length=4:=by rw [List.length_drop];omega
   have hd:∀ j,j < 4->(bs.drop (bs.length - 4)).getD j 0=bs.getD (bs.length - 4+j) 0:=by
    intro j hj;simp only [List.getD_eq_getElem?_getD,List.getElem?_drop]
   have hf:Four w w b (o+(bs.length - 4)) ((bs.drop (bs.length - 4)).getD 0 0) ((bs.drop (bs.length - 4)).getD 1 0) ((bs.drop (bs.length - 4)).getD 2 0) ((bs.drop (bs.length - 4)).getD 3 0):=by
    refine ⟨Below.refl _ _,?_,?_,?_,?_⟩
    ·rw [hd 0 (by omega),<- hcell _ (by omega)];rfl
    ·rw [hd 1 (by omega),<- hcell _ (by omega)];rfl
    ·rw [hd 2 (by omega),<- hcell _ (by omega)];rfl
    ·rw [hd 3 (by omega),<- hcell _ (by omega)];rfl
   have H:=TK b o (bs.length - 4) c (bs.take (bs.length - 4)) _ _ _ _ w hpl (hby.take _) (hs'.front _) hf (by omega) (by unfold maxLen at hm;omega);rw [hk] at H;refine H.mono ?_;rintro e w' ⟨rfl,hb⟩;refine ⟨Eg ?_,hb⟩;rw [<- Wu hdl];unfold ER
   congr 1
   simp [show 4<=bs.length by omega]
theorem TJ (bs:List Nat):ER (Le bs)=true:=by
 unfold ER;rw [decide_eq_true_iff,MN];refine ⟨by omega,?_⟩;rw [show bs.length+4 - 4=bs.length from by omega];unfold Le;rw [List.drop_left,List.take_left]
structure Fr where
 k:Int
 e:Int
 p:Int
 b:List Nat
def Fr.ok (f:Fr):Prop:=1<=f.k/\f.k<=9/\0<=f.e/\f.e<=4294967295/\0<=f.p/\f.p<=2047/\f.b.length<=238
def chk (f:Fr):Nat:=if f.k < 1\/9 < f.k then 13 else if f.e < 0\/4294967295 < f.e\/f.p < 0\/2047 < f.p then 10 else if 238 < f.b.length then 2 else 0
theorem JR (f:Fr):chk f=0↔f.ok:=by
 unfold chk Fr.ok
 repeat' split
 all_goals omega
theorem Zq {f:Fr} (h:f.ok):chk f=0:=(JR f).2 h
def fr2 (n:Nat):List Nat:=[n % 256,n / 256 % 256]
def fr4 (n:Nat):List Nat:=[n % 256,n / 256 % 256,n / 65536 % 256,n / 16777216 % 256]
theorem IQ (n:Nat):Bytes (fr2 n):=by intro x hx;simp only [fr2,List.mem_cons,List.not_mem_nil,or_false] at hx;omega
theorem IP (n:Nat):Bytes (fr4 n):=by intro x hx;simp only [fr4,List.mem_cons,List.not_mem_nil,or_false] at hx;omega
def laid (f:Fr):List Nat:=[241,f.k.toNat % 256]++fr4 f.e.toNat++fr2 f.p.toNat++fr2 f.b.length++f.b++List.replicate (238 - f.b.length) 0++fr4 f.e.toNat
theorem Ih {f:Fr} (h:f.b.length<=238):(laid f).length=252:=by
 simp [laid,fr4,fr2];omega
theorem GX {f:Fr} (hb:Bytes f.b):Bytes (laid f):=by
 unfold laid;refine (((((Bytes.append ?_ (IP _)).append (IQ _)).append (IQ _)).append hb).append ?_).append (IP _)
 ·intro x hx;simp at hx;omega
 ·intro x hx;rw [List.mem_replicate] at hx;omega
def enc (f:Fr):List Nat:=Le (laid f)
theorem Vj {f:Fr} (h:f.b.length<=238):(enc f).length=256:=by unfold enc;rw [MN,Ih h]
theorem Y5 {f:Fr} (h:f.b.length<=238):(enc f).take 252=laid f:=by unfold enc Le;exact List.take_left' (Ih h)
def BH (bs:List Nat) (i j:Nat):List Nat:=(bs.drop i).take j
theorem Nh {bs:List Nat} {i j:Nat} (h:i+j<=bs.length):(BH bs i j).length=j:=by unfold BH;rw [List.length_take,List.length_drop];omega
theorem G5 {bs:List Nat} (h:Bytes bs) (i j:Nat):Bytes (BH bs i j):=(h.drop i).take j
theorem WG (bs:List Nat) (i j m:Nat) (h:i+j<=m):BH (bs.take m) i j=BH bs i j:=by
 unfold BH;rw [List.drop_take,List.take_take,Nat.min_eq_left (by omega)]
theorem WH {a b:List Nat} {i j:Nat} (h:i+j<=a.length):BH (a++b) i j=BH a i j:=by
 have:=WG (a++b) i j a.length h;rw [List.take_left] at this;exact this.symm
theorem JO (a b c:List Nat) {i j:Nat} (hi:a.length=i) (hj:b.length=j):BH (a++b++c) i j=b:=by
 unfold BH;rw [List.append_assoc,List.drop_left' hi,List.take_left' hj]
theorem gU (a b:Nat):Var.num [a,b]=a+256 * b:=by simp [Var.num];try omega
theorem iK (a:Nat):Var.num [a]=a:=by simp [Var.num]
theorem iJ (a b c d:Nat):Var.num [a,b,c,d]=a+256 * b+65536 * c+16777216 * d:=by simp [Var.num];omega
theorem UY {n:Nat} (h:n < 65536):Var.num (fr2 n)=n:=by unfold fr2;rw [gU];omega
theorem bF {n:Nat} (h:n < 4294967296):Var.num (fr4 n)=n:=by unfold fr4;rw [iJ];omega
theorem bD {l:List Nat} (h:l.length=2) (hb:Bytes l):Var.num l < 65536:=by
 match l,h with
 | [a,b],_=>
  have ha:=hb a (by simp);have hb:=hb b (by simp);rw [gU];omega
def frN (bs:List Nat):Nat:=Var.num (BH bs 8 2)
def Af (bs:List Nat):Fr:=⟨(Var.num (BH bs 1 1):Nat),(Var.num (BH bs 2 4):Nat),(Var.num (BH bs 6 2):Nat),BH bs 10 (min (frN bs) 238)⟩
theorem JE {bs:List Nat} (h:Bytes bs):Bytes (Af bs).b:=G5 h _ _
theorem Tf {bs:List Nat} (h:bs.length=256):(Af bs).b.length=min (frN bs) 238:=by unfold Af;exact Nh (by omega)
theorem Qy {f:Fr} (h:f.ok) (t:List Nat):Af (laid f++t)=f:=by
 obtain ⟨h1,h2,h3,h4,h5,h6,h7⟩:=h;have hl:=Ih h7;have e:∀ i j,i+j<=252->BH (laid f++t) i j=BH (laid f) i j:=fun i j hij=>WH (by omega);have p0:BH (laid f) 1 1=[f.k.toNat % 256]:=by
  unfold laid BH;simp
 have p2:BH (laid f) 2 4=fr4 f.e.toNat:=by
  unfold laid;rw [List.append_assoc,List.append_assoc,List.append_assoc,List.append_assoc];exact JO [241,f.k.toNat % 256] (fr4 f.e.toNat) _ rfl rfl
 have p6:BH (laid f) 6 2=fr2 f.p.toNat:=by
  unfold laid;rw [List.append_assoc,List.append_assoc,List.append_assoc];exact JO ([241,f.k.toNat % 256]++fr4 f.e.toNat) (fr2 f.p.toNat) _ rfl rfl
 have p8:BH (laid f) 8 2=fr2 f.b.length:=by
  unfold laid;rw [List.append_assoc,List.append_assoc];exact JO ([241,f.k.toNat % 256]++fr4 f.e.toNat++fr2 f.p.toNat) (fr2 f.b.length) _ rfl rfl
 have p10:BH (laid f) 10 f.b.length=f.b:=by
  unfold laid;rw [List.append_assoc];exact JO ([241,f.k.toNat % 256]++fr4 f.e.toNat++fr2 f.p.toNat++fr2 f.b.length) f.b _ rfl rfl
 have hn:frN (laid f++t)=f.b.length:=by unfold frN;rw [e 8 2 (by omega),p8,UY (by omega)]
 unfold Af;rw [hn,Nat.min_eq_left h7,e 1 1 (by omega),e 2 4 (by omega),e 6 2 (by omega),e 10 _ (by omega),p0,p2,p6,p10,iK,bF (by omega),UY (by omega)];have a1:((f.k.toNat % 256:Nat):Int)=f.k:=by omega
 have a2:((f.e.toNat:Nat):Int)=f.e:=by omega
 have a3:((f.p.toNat:Nat):Int)=f.p:=by omega
 rw [a1,a2,a3]
theorem L6 {f:Fr} (h:f.ok):Af (enc f)=f:=Qy h _
def DJ (bs:List Nat):Nat:=if bs.length≠256 then 2 else if ER bs=false then 5 else if chk (Af bs)=0/\laid (Af bs)=bs.take 252 then 0 else 3
def Xq:Fr:=⟨0,0,0,[]⟩
def Be (bs:List Nat):Fr:=if DJ bs=0 then Af bs else Xq
theorem Rf {f:Fr} (h:f.ok):DJ (enc f)=0:=by
 have hl:=h.2.2.2.2.2.2;unfold DJ;rw [if_neg (by rw [Vj hl];simp),if_neg (by unfold enc;rw [TJ];simp),if_pos];rw [L6 h];exact ⟨Zq h,(Y5 hl).symm⟩
theorem Zj {f:Fr} (h:f.ok):Be (enc f)=f:=by unfold Be;rw [if_pos (Rf h),L6 h]
end Go.Proofs.YtfhdojnobmfefaaGreatDoor
