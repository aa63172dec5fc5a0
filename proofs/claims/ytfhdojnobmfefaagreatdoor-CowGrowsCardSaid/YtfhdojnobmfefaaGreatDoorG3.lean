/- MADE SMALL. -/
import Derived.Test.YtfhdojnobmfefaaGreatDoorG2
import Derived.Deep.QuietTactic
import Derived.BigQuiet
import Derived.Test.YtfhdojnobmfefaaGreatDoorRows
import Derived.Test.YtfhdojnobmfefaaGreatDoorG1
namespace Go.Proofs.YtfhdojnobmfefaaGreatDoor
open Go.RowKit Go.Inc
theorem FN:(Tryz.prog.info? 5).map (fun i=>(i.zero,i.size,i.bytes))=some (some (.int .u8 0),1,1):=by kernel_rfl
theorem VX {w:World} {B e n m:Nat} {v:Value} {a c:List Nat} (h:w.ownsRow B e 1 v (n+m) (u8s a++u8s c)) (hn:n=a.length) (hm:m=c.length):w.ownsRow B e 1 v (a++c).length (u8s (a++c)):=by
 rw [Sr,List.length_append,<- hn,<- hm];exact h
def low (n:Nat):List Nat:=[n % 256,n / 256 % 256,n / 65536 % 256,n / 16777216]
theorem OC {n:Nat} (h:n < 4294967296):Bytes (low n):=by
 intro x hx;simp only [low,List.mem_cons,List.not_mem_nil,or_false] at hx;omega
theorem Nq (n:Nat) (w:World) (h:n < 4294967296) :
  Calls Tryz.prog 193 #[.int .u32 (n:Int)] w fun e w'=>e=.returned (.agg (u8s (low n)).toArray)/\Below w.heap.size w w':=by
 go_enter Tryz.func193,Tryz.ntmps193
 go_wp2
 simp [bodyPost,results,Tryz.results193,go_sem];exact ⟨rfl,(Below.refl _ _).alloc (Nat.le_refl _) _⟩
theorem Oh (w:World):Calls Tryz.prog 171 #[.slice none 0 0] w fun e w'=>e=.returned (.slice none 0 0)/\w=w':=by
 have hq:=fun w a l c=>Go.Lib.run_eql_slice_nil (P:=Tryz.prog) w 74 5 a l c 0 0 Tryz.underlying74
 go_enter Tryz.func171,Tryz.ntmps171
 go_wp2
 go_ret
 exact ⟨rfl,rfl⟩
theorem ND (ok:Nat->Prop) (ad:Addr) (c:Nat) (bs:List Nat) (w:World) (hs:Sl ok w (some ad) bs) (hbb:bs.length<=140737488355328) :
  Calls Tryz.prog 171 #[.slice (some ad) bs.length c] w fun e w'=>∃ v,e=.returned v/\w'.ownsRow w.heap.size 5 1 v bs.length (u8s bs)/\Below w.heap.size w w':=by
 have HS:=hid hs;clear hs;have hq:=fun w a l c=>Go.Lib.run_eql_slice_nil (P:=Tryz.prog) w 74 5 a l c 0 0 Tryz.underlying74
 go_enter Tryz.func171,Tryz.ntmps171
 have hown:Hid ((w.alloc (.cells #[] 5)).ownsRow w.heap.size 5 1 (.slice (some ⟨w.heap.size,0,none⟩) 0 0) 0 (u8s [])):=hid (World.ownsRow_lit w #[] 0 (Nat.le_refl _) (Nat.zero_le _) rfl);have hb1:Below w.heap.size w (w.alloc (.cells #[] 5)):=(Below.refl _ _).alloc (Nat.le_refl _) _;have HS1:=hid (HS.out.below hb1);have HB1:=hid hb1;clear hb1 HS
 go_wp2_with (refine Bq rfl (.tmp 5) (.tmp 6) 74 rfl w.heap.size 5 (.int .u8 0) 1 Tryz.underlying74 FN rfl _ _ _ rfl hown.out (some ad) _ _ (u8s bs) rfl (DU _) (by intro h;cases h) HS1.out.cells (IA _) (by unfold maxLen;omega) (by omega) (by simp) ?_)
 intro v w2 hv hg _;have hb2:=A8 HB1.out hown.out (Nat.le_refl _) hg;have HV:=hid hv;clear hv hg
 go_wp2_with fail
 go_ret
 refine ⟨_,rfl,?_,hb2⟩;have:=HV.out;simpa [u8s] using this
theorem WB (w:World):Calls Tryz.prog 203 #[.slice none 0 0,.int .i64 0] w fun e w'=>e=.returned (.slice none 0 0)/\w=w':=by
 go_enter Tryz.func203,Tryz.ntmps203
 go_wp2
 go_ret
 exact ⟨rfl,rfl⟩
theorem WC (n:Nat) (w:World) (h0:(0:Int) < n) (h1:(n:Int)<=140737488355328) :
  Calls Tryz.prog 203 #[.slice none 0 0,.int .i64 (n:Int)] w fun e w'=>∃ v,e=.returned v/\w'.ownsRow w.heap.size 5 1 v 0 (u8s [])/\Below w.heap.size w w':=by
 go_enter Tryz.func203,Tryz.ntmps203
 go_wp2_with (refine I4 rfl (.tmp 20) (.tmp 21) 74 3 rfl 5 (.int .u8 0) 1 Tryz.underlying74 .i64 .i64 Tryz.underlying3 FN rfl n rfl rfl (by omega) (by unfold maxLen;omega) (by omega) ?_)
 intro w1 cur hrow hnc hm hb;have HROW:=hid hrow;have hnN:(n:Int)<=cur.size:=by omega
 go_wp2_with fail
 go_ret
 exact ⟨_,rfl,⟨rfl,.inr ⟨w.heap.size,cur.size,cur,rfl,Nat.le_refl _,HROW.out,Nat.zero_le _,hm,by rw [Nat.mul_one],rfl⟩⟩,hb⟩
theorem YR (n:Nat) (w:World) (h1:n<=140737488355328) :
  Calls Tryz.prog 203 #[.slice none 0 0,.int .i64 (n:Int)] w fun e w'=>∃ v,e=.returned v/\w'.ownsRow w.heap.size 5 1 v 0 (u8s [])/\Below w.heap.size w w':=by
 by_cases h:n=0
 ·subst h;refine (WB w).mono ?_;rintro e w' ⟨rfl,rfl⟩;exact ⟨_,rfl,World.ownsRow_nil _ _ _ _,Below.refl _ _⟩
 ·exact WC n w (by omega) (by omega)
def Du (ps:List (List Nat)) (k:Nat):List Nat:=(ps.take k).flatten
theorem KW {ps:List (List Nat)} {k:Nat} (h:k < ps.length):Du ps (k+1)=Du ps k++ps.getD k []:=KA h
theorem KC (ps:List (List Nat)) (k:Nat):(Du ps k).length<=Hg ps:=Vd ps k
theorem Nj (ps:List (List Nat)):Du ps ps.length=ps.flatten:=by unfold Du;rw [List.take_of_length_le (Nat.le_refl _)]
set_option maxHeartbeats 2000000 in
theorem KZ (ok:Nat->Prop) (b o cap:Nat) (ps:List (List Nat)) (A:Nat->Option Addr) (C:Nat->Nat) (w:World) (hp:Parts ok w b o ps A C) (hl:(ps.length:Int)<=9223372036854775807) (ht:Hg ps<=140737488355328) :
  Calls Tryz.prog 195 #[.slice (some ⟨b,o,none⟩) ps.length cap] w fun e w'=>∃ v,e=.returned v/\w'.ownsRow w.heap.size 5 1 v (Hg ps) (u8s ps.flatten)/\Below w.heap.size w w':=by
 have HP:=hid hp;clear hp
 go_enter Tryz.func195,Tryz.ntmps195
 go_wp2
 go_loop [3,11] (fun n i=>∃ k:Nat,k<=ps.length/\i=.int .i64 k/\n=.int .i64 (Du ps k).length) (fun _ i=>ps.length - (intOf i).toNat)
 case atStart=>exact ⟨0,Nat.zero_le _,rfl,rfl⟩
 case round=>
  obtain ⟨k,hk,rfl,rfl⟩:=hrel;have hle:=KC ps k;by_cases hlt:(k:Int) < ps.length
  ·have hcell:=HP.out.cell k (by omega);have hs:Hid ((Du ps (k+1)).length=(Du ps k).length+(ps.getD k []).length):=hid (by rw [KW (by omega),List.length_append]);have hle2:(Du ps k).length+(ps.getD k []).length<=140737488355328:=by
    have:=KC ps (k+1);have:=hs.out;omega
   generalize ps.getD k []=p at *
   have hz:(0:Int)<=(Du ps k).length+p.length:=by omega
   have hle3:((Du ps k).length:Int)+p.length<=140737488355328:=by omega
   go_wp2_with fail
   go_round
   case rel=>exact ⟨k+1,by omega,by go_num,by rw [hs.out];rfl⟩
   case measure=>simp [intOf];omega
  ·have hge:(ps.length:Int)<=k:=by omega
   have hall:Hid ((Du ps k).length=Hg ps):=hid (by
    have:k=ps.length:=by omega
    rw [this,Nj];rfl)
   clear hlt;have H:=hid (YR (Du ps k).length w (by have:=hall.out;omega))
   go_wp2_with fail
   refine H.out.mono ?_;clear H;rintro e w1 ⟨v,rfl,hown,hb⟩;have HOWN:=hid hown;clear hown
   go_wp2_with fail
   go_loopw [6,27] (fun v i wr=>∃ k:Nat,k<=ps.length/\i=.int .i64 k/\wr.ownsRow w.heap.size 5 1 v (Du ps k).length (u8s (Du ps k))/\Below w.heap.size w wr) (fun _ i _=>ps.length - (intOf i).toNat)
   case atStart=>exact ⟨0,Nat.zero_le _,rfl,HOWN.out,hb⟩
   case round=>
    clear hk hle hge hall HOWN hb;obtain ⟨q,hk,rfl,hown,hbel⟩:=hrel;have HOWN:=hid hown;clear hown;by_cases hlt:(q:Int) < ps.length
    ·have hcell:wr.cell? ⟨b,o+q,none⟩=some (.slice (A q) (ps.getD q []).length (C q)):=by
      rw [hbel.cell (AA (HP.out.cell q (by omega)))];exact HP.out.cell q (by omega)
     have HS:=hid ((HP.out.sl q (by omega)).below hbel);have hs:=hid (KW (ps:=ps) (k:=q) (by omega));have hle2:Hid ((Du ps q).length+(ps.getD q []).length<=140737488355328):=hid (by
      have h1:=KC ps (q+1);rw [hs.out,List.length_append] at h1;omega)
     have hbz:=hid hbel.size;generalize ps.getD q []=p at *
     generalize A q=ak at *
     generalize C q=ck at *
     go_wp2_with (refine Bq rfl (.tmp 31) (.tmp 32) 74 rfl w.heap.size 5 (.int .u8 0) 1 Tryz.underlying74 FN rfl _ _ _ rfl HOWN.out ak _ _ (u8s p) rfl (DU _) HS.out.some_len HS.out.cells (IA _) (by have:=hle2.out;unfold maxLen;omega) (by have:=hle2.out;omega) hbz.out ?_)
     intro v2 w2 hv2 hg2 _;have hb2:=A8 hbel HOWN.out (Nat.le_refl _) hg2;have HV2:=hid (VX hv2 rfl rfl);clear hv2 hg2
     go_wp2_with fail
     go_roundw
     case rel=>exact ⟨q+1,by omega,by go_num,by rw [hs.out];exact HV2.out,hb2⟩
     case measure=>simp [intOf];omega
    ·have hge:(ps.length:Int)<=q:=by omega
     have hall:Hid (Du ps q=ps.flatten):=hid (by
      have:q=ps.length:=by omega
      rw [this,Nj])
     clear hlt
     go_wp2_with fail
     go_ret
     exact ⟨_,rfl,by have h:=HOWN.out;rw [hall.out] at h;exact h,hbel⟩
def Le (bs:List Nat):List Nat:=bs++low (Crc.sum bs)
theorem MN (bs:List Nat):(Le bs).length=bs.length+4:=by simp [Le,low]
theorem WI:((Tryz.prog.info? 276).bind (·.zero)).map (·.cells)=some #[.int .u8 0,.int .u8 0,.int .u8 0,.int .u8 0]:=by kernel_rfl
theorem _root_.Go.World.ownsRow.weaken {w:World} {b b' e s n:Nat} {v:Value} {x:List Value} (h:w.ownsRow b e s v n x) (hb:b'<=b):w.ownsRow b' e s v n x:=
 ⟨h.1,h.2.imp id fun ⟨g,cap,cur,h1,h2,r⟩=>⟨g,cap,cur,h1,Nat.le_trans hb h2,r⟩⟩
set_option maxHeartbeats 1000000 in
theorem YB (ok:Nat->Prop) (a:Option Addr) (c:Nat) (bs:List Nat) (w:World) (hs:Sl ok w a bs) (hb:Bytes bs) (hc:bs.length<=c/\c<=maxLen) (hl:bs.length<=1000000) :
  Calls Tryz.prog 180 #[.slice a bs.length c] w fun e w'=>∃ v,e=.returned v/\w'.ownsRow w.heap.size 5 1 v (Le bs).length (u8s (Le bs))/\Below w.heap.size w w':=by
 have HS:=hid hs;have HPx:=Pt.one hs hb c hc 74;have hflat:Hid ([bs].flatten=bs):=hid (by simp);have H4:=hid (UD _ 1 _ _ _ HPx (by show [bs].flatten.length<=_;rw [hflat.out];omega) (by simp));have hbx:=hid ((Below.refl w.heap.size w).alloc (Nat.le_refl _) (.cells #[.slice a bs.length c] 74));clear HPx hs
 go_enter Tryz.func180,Tryz.ntmps180
 go_wp2_with fail
 refine H4.out.mono ?_;rintro e w1 ⟨rfl,hb1⟩;rw [hflat.out];have hb01:=hid (hbx.out.trans (hb1.mono hbx.out.size));have hsl:=Crc.sum_lt bs hb;have hlb:=hid (OC hsl);have hmk:Hid (Le bs=bs++low (Crc.sum bs)):=hid rfl;have hml:=hid (MN bs);generalize hmkk:Le bs=mk at *
 have HMK:=hid hmkk;clear hmkk;generalize Crc.sum bs=n at *
 have H5:=hid (Nq n w1 hsl);clear hb1 H4 hbx
 go_wp2_with fail
 refine H5.out.mono ?_;rintro e w2 ⟨rfl,hb2⟩;have hb02:=hid (hb01.out.trans (hb2.mono hb01.out.size));clear hb2 H5 hb01;have hll:Hid ((low n).length=4):=hid rfl;generalize low n=ln at *
 have hs4:(u8s ln).toArray.size=4:=by rw [List.size_toArray,DU,hll.out]
 have hi4:Hid ((Tryz.prog.info? 276).map (·.size)=some (u8s ln).toArray.size):=hid (by rw [hs4];kernel_rfl);have ho4:Hid ((#[.int .u8 0,.int .u8 0,.int .u8 0,.int .u8 0]:Array Value).size=(u8s ln).toArray.size):=hid (by rw [hs4];rfl);have hall:Hid ((u8s ln).toArray.all (·.oneCell')=true):=hid (by rw [List.all_toArray,List.all_eq_true];exact IA ln);clear hs4
 go_wp2_with (refine Dx rfl 276 rfl _ WI ?_)
 intro w3 hrow3 hb3
 go_wp2_with (refine Ae rfl 276 _ _ rfl w2.heap.size (u8s ln).toArray rfl rfl 276 _ hrow3 hi4.out ho4.out hall.out ?_)
 intro w4 hrow4 hg4;have hsl4:=Sl.row ln hrow4;have hb04:=Bi (hb02.out.trans (hb3.mono hb02.out.size)) hg4 hb02.out.size (Nat.le_trans hb02.out.size hb3.size);have HS4:=(HS.out.mono (fun _ _ h=>h)).below hb04;have hw:w.heap.size<=w4.heap.size:=hb04.size;have hPt:=Parts.two (ok:=fun b=>b < w.heap.size\/b=w2.heap.size) (HS4.mono fun b h _=>.inl h) (hsl4.mono fun b h _=>.inr h) c 4 hc ⟨by rw [hll.out];omega,by unfold maxLen;omega⟩ 74;have htot:Hid (Hg [bs,ln]=mk.length):=hid (by rw [hmk.out];simp [Hg]);have hfl:Hid ([bs,ln].flatten=mk):=hid (by rw [hmk.out];simp);have H6:=hid (KZ _ w4.heap.size 0 2 [bs,ln] _ _ _ hPt (by simp) (by rw [htot.out,hml.out];omega));have hb05:=hid (hb04.alloc hw (.cells #[.slice a bs.length c,.slice (some ⟨w2.heap.size,0,none⟩) ln.length 4] 74));have hll2:=hll.out;clear hPt HS4 hsl4 hrow4 hg4 hb04 hrow3 hb3 hi4 ho4 hall hll;have H7:=H6.out;rw [hll2,htot.out,hfl.out] at H7;rw [hll2] at hb05;have H8:=hid H7;clear H6 H7 hll2
 go_wp2_with fail
 refine H8.out.mono ?_;rintro e w5 ⟨v,rfl,hv,hb5⟩
 go_wp2_with fail
 go_ret
 refine ⟨v,rfl,?_,hb05.out.trans (hb5.mono hb05.out.size)⟩;rw [HMK.out];exact hv.weaken hb05.out.size
theorem Oi (ok:Nat->Prop) (a:Option Addr) (c:Nat) (bs:List Nat) (w:World) (hs:Sl ok w a bs) (hbb:bs.length<=140737488355328) (hn:a=none->c=0) :
  Calls Tryz.prog 171 #[.slice a bs.length c] w fun e w'=>∃ v,e=.returned v/\w'.ownsRow w.heap.size 5 1 v bs.length (u8s bs)/\Below w.heap.size w w':=by
 cases a with
 | none=>
  have h0:=hs.some_len rfl;have hbs:bs=[]:=List.eq_nil_of_length_eq_zero h0;subst hbs;rw [hn rfl];refine (Oh w).mono ?_;rintro e w' ⟨rfl,rfl⟩;exact ⟨_,rfl,World.ownsRow_nil _ _ _ _,Below.refl _ _⟩
 | some ad=>exact ND ok ad c bs w hs hbb
theorem MW:(Tryz.prog.info? 5).map (fun i=>(i.zero,i.size,i.bytes))=some (some (.int .u8 0),1,1):=by kernel_rfl
theorem Xc (w:World):Calls Tryz.prog 171 #[.slice none 0 0] w fun e w'=>e=.returned (.slice none 0 0)/\w=w':=by
 have hq:=fun w a l c=>Go.Lib.run_eql_slice_nil (P:=Tryz.prog) w 74 5 a l c 0 0 Tryz.underlying74
 go_enter Tryz.func171,Tryz.ntmps171
 go_wp2
 go_ret
 exact ⟨rfl,rfl⟩
theorem Uf (ok:Nat->Prop) (ad:Addr) (c:Nat) (bs:List Nat) (w:World) (hs:Sl ok w (some ad) bs) (hbb:bs.length<=140737488355328) :
  Calls Tryz.prog 171 #[.slice (some ad) bs.length c] w fun e w'=>∃ v,e=.returned v/\w'.ownsRow w.heap.size 5 1 v bs.length (u8s bs)/\Below w.heap.size w w':=by
 have HS:=hid hs;clear hs;have hq:=fun w a l c=>Go.Lib.run_eql_slice_nil (P:=Tryz.prog) w 74 5 a l c 0 0 Tryz.underlying74
 go_enter Tryz.func171,Tryz.ntmps171
 have hown:Hid ((w.alloc (.cells #[] 5)).ownsRow w.heap.size 5 1 (.slice (some ⟨w.heap.size,0,none⟩) 0 0) 0 (u8s [])):=hid (World.ownsRow_lit w #[] 0 (Nat.le_refl _) (Nat.zero_le _) rfl);have hb1:Below w.heap.size w (w.alloc (.cells #[] 5)):=(Below.refl _ _).alloc (Nat.le_refl _) _;have HS1:=hid (HS.out.below hb1);have HB1:=hid hb1;clear hb1 HS
 go_wp2_with (refine Bq rfl (.tmp 5) (.tmp 6) 74 rfl w.heap.size 5 (.int .u8 0) 1 Tryz.underlying74 MW rfl _ _ _ rfl hown.out (some ad) _ _ (u8s bs) rfl (DU _) (by intro h;cases h) HS1.out.cells (IA _) (by unfold maxLen;omega) (by omega) (by simp) ?_)
 intro v w2 hv hg _;have hb2:=A8 HB1.out hown.out (Nat.le_refl _) hg;have HV:=hid hv;clear hv hg
 go_wp2_with fail
 go_ret
 refine ⟨_,rfl,?_,hb2⟩;have:=HV.out;simpa [u8s] using this
theorem IW (ok:Nat->Prop) (a:Option Addr) (c:Nat) (bs:List Nat) (w:World) (hs:Sl ok w a bs) (hbb:bs.length<=140737488355328) (hn:a=none->c=0) :
  Calls Tryz.prog 171 #[.slice a bs.length c] w fun e w'=>∃ v,e=.returned v/\w'.ownsRow w.heap.size 5 1 v bs.length (u8s bs)/\Below w.heap.size w w':=by
 cases a with
 | none=>
  have h0:=hs.some_len rfl;have hbs:bs=[]:=List.eq_nil_of_length_eq_zero h0;subst hbs;rw [hn rfl];refine (Xc w).mono ?_;rintro e w' ⟨rfl,rfl⟩;exact ⟨_,rfl,World.ownsRow_nil _ _ _ _,Below.refl _ _⟩
 | some ad=>exact Uf ok ad c bs w hs hbb
end Go.Proofs.YtfhdojnobmfefaaGreatDoor
