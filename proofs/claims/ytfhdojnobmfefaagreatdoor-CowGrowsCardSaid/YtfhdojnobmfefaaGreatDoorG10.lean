/- MADE SMALL. -/
import Derived.Test.YtfhdojnobmfefaaGreatDoorG9
import Derived.OwnWalk
namespace Go.Proofs.YtfhdojnobmfefaaGreatDoor
open Go.RowKit Go.Inc
def I7 (u size i:Nat):List Nat:=(List.range size).map fun j=>if j < i then u / 256 ^ j % 256 else 0
theorem QY (u size i:Nat):(I7 u size i).length=size:=by simp [I7]
theorem YV (u size i:Nat):(I7 u size i).set i (u / 256 ^ i % 256)=I7 u size (i+1):=by
 apply List.ext_getElem?;intro j;rw [List.getElem?_set];unfold I7;by_cases h:i=j
 ·subst h;by_cases h2:i < size<;>simp [h2]
 ·by_cases h2:j < size
  ·simp only [h,if_false,List.getElem?_map,List.getElem?_range h2,Option.map_some];have:(j < i)=(j < i+1):=by simp;omega
   simp [this]
  ·simp [h,h2]
theorem V8 (u size:Nat):(madeCells #[Value.int .u8 0] size).toList=u8s (I7 u size 0):=by
 unfold madeCells u8s I7;apply List.ext_getElem?;intro j;simp [Nat.mod_one];cases (List.range size)[j]?<;>rfl
def CU (n:Int):Nat:=(n % 18446744073709551616).toNat
theorem Rz {n:Int} (h0:-9223372036854775808<=n) (h1:n<=9223372036854775807) {i:Nat} (hi:i < 8):n / 2 ^ (8 * i) % 256=((CU n / 256 ^ i % 256:Nat):Int):=by
 unfold CU;have h8:i=0\/i=1\/i=2\/i=3\/i=4\/i=5\/i=6\/i=7:=by omega
 rcases h8 with rfl | rfl | rfl | rfl | rfl | rfl | rfl | rfl<;>simp<;>omega
set_option maxHeartbeats 1000000 in
theorem Nk (n:Int) (s:Nat) (w:World) (h0:-9223372036854775808<=n) (h1:n<=9223372036854775807) (hs:(s:Int)<=8) :
  Calls Tryz.prog 196 #[.int .i64 n,.int .i64 (s:Int)] w fun e w'=>∃ v,e=.returned v/\Row 5 w.heap.size w' v (I7 (CU n) s s)/\Below w.heap.size w w':=by
 obtain ⟨i0,hi,hz0,hz1,hz2⟩:=info_parts MW;have HI:=hid (And.intro hi (And.intro hz0 (And.intro hz1 hz2)));clear hi hz0 hz1 hz2
 go_enter Tryz.func196,Tryz.ntmps196
 go_wp2_with (refine wpList_make_full _ rfl _ _ 74 rfl w.heap.size 5 i0 (.int .u8 0) 1 Tryz.underlying74 HI.out.1 HI.out.2.1 HI.out.2.2.1 .i64 .i64 _ _ s rfl rfl rfl rfl (by rw [HI.out.2.2.2];omega) (by unfold maxLen;omega) (Nat.le_refl _) ?_)
 intro w1 hown hg;have hr:w1.ownsRow w.heap.size 5 1 (.slice (some ⟨w.heap.size,0,none⟩) s s) s (u8s (I7 (CU n) s 0)):=by
  rw [V8 (CU n)] at hown;exact hown
 have HR:=hid hr;have HB1:Hid (Below w.heap.size w w1):=hid ⟨hg.os,hg.tape,hg.output,hg.size,fun i hi=>hg.block i hi (by simp)⟩;clear hr hown hg
 go_wp2_with fail
 go_loopw [17] (fun i wr=>∃ k:Nat,k<=s/\i=.int .i64 (k:Int)/\wr.ownsRow w.heap.size 5 1 (.slice (some ⟨w.heap.size,0,none⟩) s s) s (u8s (I7 (CU n) s k))/\Below w.heap.size w wr) (fun i _=>s - (intOf i).toNat)
 case atStart=>exact ⟨0,Nat.zero_le _,rfl,HR.out,HB1.out⟩
 case round=>
  obtain ⟨k,hk,rfl,hr,hb⟩:=hrel;by_cases hlt:(k:Int) < s
  ·have hcell:=hr.cells (g:=w.heap.size) rfl k (.int .u8 (((I7 (CU n) s k).getD k 0:Nat):Int)) (Uz (by rw [QY];omega));rw [Addr.add_lit] at hcell;simp only [Nat.zero_add] at hcell;have hfz:wr.frozen? ⟨w.heap.size,k,none⟩=false:=hr.frozenAt k;have hst:=hid (hr.stored k (.int .u8 ((CU n / 256 ^ k % 256:Nat):Int)));have hby:Hid (n / 2 ^ (8 * k) % 256=((CU n / 256 ^ k % 256:Nat):Int)):=hid (Rz h0 h1 (by omega));have hset:=hid (YV (CU n) s k);have HB2:=hid (hb.setCell (p:=⟨w.heap.size,k,none⟩) (Nat.le_refl _) (.int .u8 ((CU n / 256 ^ k % 256:Nat):Int)));generalize (I7 (CU n) s k).getD k 0=old at *
   clear hr hb
   go_wp2_with fail
   go_roundw
   case rel=>
    refine ⟨k+1,by omega,by go_num,?_,?_⟩
    ·rw [hby.out,<- hset.out,<- Z8];exact hst.out.1
    ·rw [hby.out];exact HB2.out
   case measure=>simp [intOf];omega
  ·have hlt':(s:Int)<=k:=by omega
   have hks:k=s:=by omega
   subst hks;have HR2:=hid hr;have HB2:=hid hb;clear hlt hr hb
   go_wp2_with fail
   go_ret
   refine ⟨_,rfl,?_,HB2.out⟩;unfold Row;rw [QY];exact HR2.out
theorem bC {k n c:Nat} (hk:k < 8) (hn:n < 256 ^ k) (hc:c < 256) :
  bits .or .u64 (n:Int) (IntKind.u64.wrap ((c:Int) * 2 ^ (8 * k)))=((n+c * 256 ^ k:Nat):Int):=by
 have hp:(2:Nat) ^ (8 * k)=256 ^ k:=by rw [Nat.pow_mul]
 have h1:(c:Int) * 2 ^ (8 * k)=((c * 256 ^ k:Nat):Int):=by
  rw [<- hp,Int.natCast_mul,Int.natCast_pow];rfl
 have h7:256 ^ k<=256 ^ 7:=Nat.pow_le_pow_right (by decide) (by omega);have hm:c * 256 ^ k<=255 * 256 ^ k:=Nat.mul_le_mul_right _ (by omega);rw [h1,IntWalk.u64_in _ (by omega),u64_or_nat n _ (by omega) (by omega)]
 congr 1
 rw [<- hp] at hn ⊢;have:=Nat.two_pow_add_eq_or_of_lt hn c;rw [Nat.mul_comm c,Nat.or_comm,<- this,Nat.add_comm]
def Dw (size:Nat) (bs:List Nat):Nat:=if bs.length < size then 4 else if 9223372036854775807 < Var.num (bs.take size) then 3 else 0
def iD (size:Nat) (bs:List Nat) (g:Nat) (w:World) (e:Ending) (w':World):Prop:=
 ∃ (v:Int) (l:List Nat),e=.returned (.int .i64 v)/\(Dw size bs=0->v=(Var.num (bs.take size):Nat)/\l=bs.drop size)/\l.length<=bs.length/\Rd (fun b=>b < g) w' g l (Dw size bs)/\Below g w w'
set_option maxHeartbeats 1000000 in
theorem TN (g size:Nat) (bs:List Nat) (w:World) (hr:Rd (fun b=>b < g) w g bs 0) (hby:Bytes bs) (h0:(1:Int)<=size) (h8:(size:Int)<=8) :
  Calls Tryz.prog 207 #[.pointer (some ⟨g,0,none⟩),.int .i64 (size:Int)] w (iD size bs g w):=by
 have hgw:g < w.heap.size:=by obtain ⟨a,c,h,_⟩:=hr;exact Aj h
 have hok:∀ b,b < g->b≠g:=fun b h e=>by omega
 have HGW:=hid hgw;have HOK:=hid hok;by_cases hl:bs.length < size
 ·have H:=hid (XA _ g 0 (size:Int) bs w hr hok (by omega));have E4:Hid (Dw size bs=4):=hid (by unfold Dw;rw [if_pos hl]);clear hr hby hgw hok hl
  go_enter Tryz.func207,Tryz.ntmps207
  go_wp2_with fail
  refine H.out.mono ?_;rintro e w1 ⟨rfl,hr1,hg1⟩;have HR1:=hid hr1;have HB1:=hid (Dq hg1 (Nat.le_refl _) (Nat.le_of_lt HGW.out));clear hr1 hg1 H
  go_wp2_with fail
  go_loop [5,12] (fun n i=>n=.int .u64 0/\i=.int .i64 0) (fun _ _=>0)
  case atStart=>exact ⟨rfl,rfl⟩
  case round=>
   obtain ⟨rfl,rfl⟩:=hrel
   go_wp2_with fail
   go_ret
   exact ⟨_,bs,rfl,(fun h=>by rw [E4.out] at h;cases h),Nat.le_refl _,by rw [E4.out];exact HR1.out,HB1.out⟩
 ·have H:=hid (Vy _ g size 0 bs w hr hok (by omega));have hlen:(bs.take size).length=size:=by rw [List.length_take];omega
  have hE:Dw size bs=if 9223372036854775807 < Var.num (bs.take size) then 3 else 0:=by unfold Dw;rw [if_neg hl]
  have htb:Bytes (bs.take size):=hby.take size;have hdl:(bs.drop size).length<=bs.length:=by simp
  have HE:=hid hE;have HTB:=hid htb;have HLEN:=hid hlen;have HDL:=hid hdl;clear hr hby hgw hok hl hlen hE htb hdl
  go_enter Tryz.func207,Tryz.ntmps207
  go_wp2_with fail
  refine H.out.mono ?_;rintro e w1 ⟨a,c,rfl,hs,_,_,_,hr1,hg1⟩;have HS:=hid hs;have HR1:=hid hr1;have HB1:=hid (Dq hg1 (Nat.le_refl _) (Nat.le_of_lt HGW.out));have HGW1:Hid (g < w1.heap.size):=hid (Nat.lt_of_lt_of_le HGW.out hg1.size);clear hs hr1 hg1 H;generalize hts:bs.take size=ts at *
  generalize hds:bs.drop size=ds at *
  have HTS:=hid hts;have HDS:=hid hds;clear hts hds
  go_wp2_with fail
  go_loop [5,12] (fun n i=>∃ k:Nat,k<=size/\i=.int .i64 (k:Int)/\n=.int .u64 (Var.num (ts.take k):Nat)) (fun _ i=>size - (intOf i).toNat)
  case atStart=>exact ⟨0,Nat.zero_le _,rfl,rfl⟩
  case round=>
   obtain ⟨k,hk,rfl,rfl⟩:=hrel;have hnl:Var.num (ts.take k) < 256 ^ k:=by
    have h:=Var.num_lt (ts.take k) (HTB.out.take k);rw [List.length_take,HLEN.out,Nat.min_eq_left hk] at h;exact h
   have HNL:=hid hnl;clear hnl;by_cases hlt:(k:Int) < size
   ·have hcell:∃ b off,Hid (a=some ⟨b,off,none⟩)/\w1.cell? ⟨b,off+k,none⟩=some (.int .u8 ((ts.getD k 0:Nat):Int)):=by
     rcases HS.out with h | ⟨b,off,h,_,hc⟩
     ·have:=HLEN.out;rw [h] at this;simp at this;omega
     ·exact ⟨b,off,hid h,hc k (by have:=HLEN.out;omega)⟩
    obtain ⟨b,off,ha,hcell⟩:=hcell;have ha2:=ha.out;subst ha2;have hsn:Hid (Var.num (ts.take (k+1))=Var.num (ts.take k)+ts.getD k 0 * 256 ^ k):=hid (by
     rw [Ol (by have:=HLEN.out;omega),Var.num_snoc,List.length_take,HLEN.out,Nat.min_eq_left hk])
    have hcb:=Bytes.getD HTB.out k;have hor:=bC (c:=ts.getD k 0) (by omega) HNL.out hcb;have hcb2:((ts.getD k 0:Nat):Int) < 256:=by omega
    clear hcb;generalize ts.getD k 0=x at *
    generalize Var.num (ts.take k)=n at *
    generalize n+x * 256 ^ k=n2 at *
    go_wp2_with fail
    go_round
    case rel=>exact ⟨k+1,by omega,by go_num,by rw [hsn.out]⟩
    case measure=>simp [intOf];omega
   ·have hks:k=size:=by omega
    have hall:ts.take k=ts:=List.take_of_length_le (by have:=HLEN.out;omega);rw [hall];have hnum:Var.num ts < 18446744073709551616:=by
     have h:=HNL.out;rw [hall] at h;have h7:256 ^ k<=256 ^ 8:=Nat.pow_le_pow_right (by decide) (by omega);omega
    have hni:((Var.num ts:Nat):Int) < 18446744073709551616:=by omega
    have hlt':(k < size)=False:=eq_false (by omega);have HKS:=hid hks;clear hall HNL hks hlt hnum;obtain ⟨c1,fz⟩:=HR1.out.c1;generalize hnn:Var.num ts=n at *
    have HN:=hid hnn;clear hnn;by_cases hbig:(9223372036854775807:Int) < n
    ·have E3:Hid (Dw size bs=3):=hid (by rw [HE.out,if_pos (by omega)]);have ht:((9223372036854775807:Int) < n)=True:=eq_true hbig;clear hbig
     go_wp2_with fail
     go_ret
     refine ⟨_,ds,rfl,(fun h=>by rw [E3.out] at h;cases h),HDL.out,?_,?_⟩
     ·rw [E3.out];exact HR1.out.fault HOK.out 3
     ·exact HB1.out.trans (Dq (Aq (Aw _ _) (.inl rfl) _) (Nat.le_refl _) (Nat.le_of_lt HGW1.out))
    ·have E0:Hid (Dw size bs=0):=hid (by rw [HE.out,if_neg (by omega)]);have hle:(n:Int)<=9223372036854775807:=by omega
     have ht:((9223372036854775807:Int) < n)=False:=eq_false hbig;clear hbig
     go_wp2_with fail
     go_ret
     exact ⟨_,ds,rfl,(fun _=>⟨by rw [HTS.out,HN.out],HDS.out.symm⟩),HDL.out,by rw [E0.out];exact HR1.out,HB1.out⟩
def KD (size:Nat) (bs:List Nat):Nat:=if Dw size bs=0 then Var.num (bs.take size) else 0
def PS (size:Nat) (bs:List Nat):List Nat:=if Dw size bs=0 then bs.drop size else []
set_option maxHeartbeats 1000000 in
theorem N9 (ok:Nat->Prop) (a:Option Addr) (c size:Nat) (bs:List Nat) (w:World) (hs:Sl ok w a bs) (hc:bs.length<=c/\c<=maxLen) (hn:a=none->c=0) (hby:Bytes bs) (hl:bs.length<=70368744177664) (h0:(1:Int)<=size) (h8:(size:Int)<=8) :
  Calls Tryz.prog 204 #[.slice a bs.length c,.int .i64 (size:Int)] w fun e w'=>Ans (.int .i64 (KD size bs:Nat)) (Dw size bs) (PS size bs) w.heap.size e w'/\Below w.heap.size w w':=by
 have H:=hid (QC (fun b=>b < w.heap.size) a c bs w (hs.mono fun b _ h=>h) hc hn);have HBY:=hid hby;have HL:=hid hl;clear hs hn hby hl hc
 go_enter Tryz.func204,Tryz.ntmps204
 go_wp2_with fail
 refine H.out.mono ?_;rintro e w1 ⟨rfl,hr,hb1⟩;have hgw:w.heap.size < w1.heap.size:=by obtain ⟨a,c,h,_⟩:=hr;exact Aj h
 have H1:=hid (TN w.heap.size size bs w1 hr HBY.out h0 h8);have HB1:=hid hb1;clear hr hb1 hgw H
 go_wp2_with fail
 refine H1.out.mono ?_;rintro e w2 ⟨v,l,rfl,hvl,hll,hr2,hb2⟩;have H2:=hid (NL _ w.heap.size _ v l w2 hr2 (by have:=HL.out;omega));have HB2:=hid (HB1.out.trans hb2);have HV:Hid (OA (Dw size bs) v=(KD size bs:Nat)):=hid (by
  unfold OA KD;by_cases h:Dw size bs=0
  ·rw [if_pos h,if_pos h,(hvl h).1]
  ·rw [if_neg h,if_neg h];rfl)
 have HRS:Hid (J7 (Dw size bs) l=PS size bs):=hid (by
  unfold J7 PS;by_cases h:Dw size bs=0
  ·rw [if_pos h,if_pos h,(hvl h).2]
  ·rw [if_neg h,if_neg h])
 clear hvl hll hr2 hb2 H1
 go_wp2_with fail
 refine H2.out.mono ?_;rintro e w3 ⟨⟨u,rfl,hu⟩,hb3⟩;rw [HRS.out] at hu;rw [HV.out];have HU:=hid hu;have HB3:=hid (HB2.out.trans (hb3.mono HB2.out.size));clear hu hb3
 go_wp2_with fail
 go_ret3
 exact ⟨⟨_,rfl,HU.out.weaken HB2.out.size⟩,HB3.out⟩
end Go.Proofs.YtfhdojnobmfefaaGreatDoor
