/- MADE SMALL. -/
import Derived.Test.YtfhdojnobmfefaaGreatDoorRows
import Derived.Test.YtfhdojnobmfefaaGreatDoorG0
import Derived.Test.YtfhdojnobmfefaaGreatDoorG1
namespace Go.Proofs.YtfhdojnobmfefaaGreatDoor
open Go.RowKit Go.Inc
def Sn:Nat->Nat->Nat
 | 0,r=>r
 | k+1,r=>Crc.S (Sn k r)
theorem ik (k r:Nat) (h:r < 4294967296):Sn k r < 4294967296:=by
 induction k with
 | zero=>exact h
 | succ k ih=>exact Crc.S_lt _ ih
theorem iw {y:Nat} (h:y % 2=1):Crc.S y=(y / 2) ^^^ 2197175160:=by unfold Crc.S;rw [if_pos h];rfl
theorem gq {y:Nat} (h:y % 2=0):Crc.S y=y / 2:=by unfold Crc.S;rw [if_neg (by omega)]
set_option maxHeartbeats 400000 in
theorem Qi (x:Nat) (w:World) (h1:x < 4294967296) :
  Calls Tryz.prog 210 #[.int .u32 x] w fun e w'=>e=.returned (.int .u32 (Crc.S8 x))/\w=w':=by
 go_enter Tryz.func210,Tryz.ntmps210
 go_wp2
 go_loop [0,4] (fun r i=>∃ k:Nat,k<=8/\i=.int .i64 k/\r=.int .u32 (Sn k x:Nat)) (fun _ i=>8 - (intOf i).toNat)
 case atStart=>exact ⟨0,by omega,rfl,rfl⟩
 case round=>
  obtain ⟨k,hk,rfl,rfl⟩:=hrel;have hy:=ik k x h1;have hS:Hid (Sn (k+1) x=Crc.S (Sn k x)):=hid rfl;have hE:Hid (k=8->Crc.S8 x=Sn k x):=hid (by rintro rfl;rfl);generalize Sn k x=y at *
  by_cases hlt:k < 8
  ·clear hE;have hb:bits .and .u32 (y:Int) 1=((y % 2:Nat):Int):=by
    have:=u32_and_nat y 1 hy (by omega);rw [nat_mask1] at this;exact this
   have hx:Hid (bits .xor .u32 ((y:Int) / 2) 2197175160=(((y / 2) ^^^ 2197175160:Nat):Int)):=u32_xor_nat (y / 2) 2197175160 (by omega) (by omega);by_cases hm:y % 2=1
   ·have hc:(bits .and .u32 (y:Int) 1 != 0)=true:=by rw [hb,hm];rfl
    have ho:=hid (iw hm);clear hm hb
    go_wp2
    go_round
    case rel=>exact ⟨k+1,by omega,by go_num,by rw [hS.out,ho.out,hx.out]⟩
    case measure=>simp [intOf];omega
   ·have hm:y % 2=0:=by omega
    have hc:(bits .and .u32 (y:Int) 1 != 0)=false:=by rw [hb,hm];rfl
    have ho:=hid (gq hm);clear hm hb
    go_wp2
    go_round
    case rel=>exact ⟨k+1,by omega,by go_num,by rw [hS.out,ho.out];rfl⟩
    case measure=>simp [intOf];omega
  ·go_wp2
   go_ret
   exact ⟨aN (hE.out (by omega)).symm,rfl⟩
def tab (m:Nat):Array Value:=((List.range 256).map fun i=>Value.int .u32 ((if i < m then Crc.S8 i else 0:Nat):Int)).toArray
theorem DL (m:Nat):(tab m).size=256:=by simp [tab]
theorem Fg (m i:Nat) (hi:i < 256):(tab m)[i]?=some (.int .u32 ((if i < m then Crc.S8 i else 0:Nat):Int)):=by
 simp [tab,hi]
theorem ah (m:Nat):(tab m).setIfInBounds m (.int .u32 (Crc.S8 m:Nat))=tab (m+1):=by
 apply Array.ext_getElem?;intro i;rw [Array.getElem?_setIfInBounds,DL];by_cases hm:m=i
 ·subst hm;by_cases h:m < 256
  ·rw [Fg _ _ h,Fg _ _ h];simp [h]
  ·simp [h,DL]
 ·by_cases h:i < 256
  ·rw [Fg _ _ h,Fg _ _ h];simp only [if_neg hm];have:(i < m)=(i < m+1):=by simp;omega
   simp [this]
  ·have h':256<=i:=by omega
   simp [hm,h',DL]
theorem LP:((Tryz.prog.info? 301).bind (·.zero)).map (·.cells)=some (tab 0):=by kernel_rfl
theorem ai:tab 0=tab 1:=by
 apply Array.ext_getElem?;intro i;by_cases h:i < 256
 ·rw [Fg _ _ h,Fg _ _ h];by_cases h0:i=0
  ·subst h0;rfl
  ·have:¬ (i < 1):=by omega
   simp [this]
 ·have h':256<=i:=by omega
  simp [h',DL]
attribute [irreducible] tab
def Pow2 (m:Nat):Prop:=∃ j,j<=8/\m=2 ^ j
theorem Pow2.le {m:Nat} (h:Pow2 m):1<=m/\m<=256:=by
 obtain ⟨j,hj,rfl⟩:=h;exact ⟨Nat.one_le_two_pow,Nat.le_trans (Nat.pow_le_pow_right (by decide) hj) (by decide)⟩
theorem Pow2.dbl {m:Nat} (h:Pow2 m) (hm:m < 256):Pow2 (2 * m):=by
 obtain ⟨j,hj,rfl⟩:=h;have:j < 8:=by
  rcases Nat.lt_or_ge j 8 with h | h
  ·exact h
  ·have:2 ^ 8<=2 ^ j:=Nat.pow_le_pow_right (by decide) h;omega
 exact ⟨j+1,by omega,by rw [Nat.pow_succ];omega⟩
theorem Pow2.xor {m k:Nat} (h:Pow2 m) (hk:k < m):Crc.S8 m ^^^ Crc.S8 k=Crc.S8 (m+k):=by
 obtain ⟨j,hj,rfl⟩:=h;exact (Crc.S8_bit j k hk).symm
set_option maxHeartbeats 1000000 in
theorem Om (w:World) :
  Calls Tryz.prog 208 #[] w fun e w'=>e=.returned (.agg (tab 256))/\Below w.heap.size w w':=by
 go_enter Tryz.func208,Tryz.ntmps208
 go_wp2_with (refine Ju rfl 301 rfl (tab 0) LP ?_)
 go_loopw [2] (fun i wr=>∃ m:Nat,Pow2 m/\i=.int .i64 m/\wr=(w.alloc (.cells (tab 0) 301)).alloc (.cells (tab m) 301)) (fun i _=>256 - (intOf i).toNat)
 case atStart=>exact ⟨1,⟨0,by omega,rfl⟩,rfl,by rw [<- ai]⟩
 case round=>
  obtain ⟨m,hp,rfl,rfl⟩:=hrel;have hS:=Crc.S8_lt m (by have:=hp.le;omega);have h1:(1:Int)<=m/\(m:Int)<=256:=by have:=hp.le;omega
  obtain ⟨h1,h2⟩:=h1;have hx:Hid (∀ k,k < m->Crc.S8 m ^^^ Crc.S8 k=Crc.S8 (m+k)):=hid fun k hk=>hp.xor hk;by_cases hlt:(m:Int) < 256
  ·have hd:=hid (hp.dbl (by omega))
   go_wp2_with (go_at_call 210;refine (Qi _ _ (by omega)).mono ?_;rintro e w' ⟨rfl,rfl⟩)
   generalize hga:Crc.S8 m=a at *
   clear hga;have h256:Hid (2 * m<=256):=hid hd.out.le.2
   go_loopw [13] (fun i wr=>∃ k:Nat,k<=m/\i=.int .i64 k/\wr=(w.alloc (.cells (tab 0) 301)).alloc (.cells (tab (m+k)) 301)) (fun i _=>m - (intOf i).toNat)
   case atStart=>exact ⟨0,by omega,rfl,rfl⟩
   case round=>
    obtain ⟨k,hk,rfl,rfl⟩:=hrel;by_cases hkm:(k:Int) < m
    ·have hsk:=Crc.S8_lt k (by omega);have hm2:(m:Int)+k < 256:=by have:=h256.out;omega
     have hk2:(k:Int) < 256:=by omega
     have hget:=Fg (m+k) k (by omega);rw [if_pos (by omega)] at hget;obtain ⟨old,hold⟩:∃ v,(tab (m+k))[m+k]?=some v:=⟨_,Fg (m+k) (m+k) (by omega)⟩
     have hset:=hid (ah (m+k));have hxor:=hid (hx.out k (by omega));have hbx:=hid (u32_xor_nat a (Crc.S8 k) hS hsk)
     go_wp2
     go_roundw
     case rel=>
      refine ⟨k+1,by omega,by go_num,?_⟩;rw [hbx.out,hxor.out,hset.out];rfl
     case measure=>simp [intOf];omega
    ·have hge:(m:Int)<=k:=by omega
     have hmk:m=k:=by omega
     clear hge hkm;have hmk:=hid hmk;clear hk;have hge:(m:Int)<=k:=by have:=hmk.out;omega
     go_wp2
     go_roundw
     case rel=>
      have:=hmk.out;subst this;refine ⟨2 * m,hd.out,?_,?_⟩
      ·congr 1;omega
      ·rw [show m+m=2 * m from by omega]
     case measure=>simp [intOf];omega
  ·have hge:(256:Int)<=m:=by omega
   clear hlt;have h4:(256:Nat)=m:=by omega
   subst h4
   go_wp2_with (first | (refine wpList_load_row rfl 301 _ rfl (w.heap.size+1) rfl 301 (tab 256) (0,0) _ (heap_alloc2_new w _ _) Tryz.underlying301 rfl (by kernel_rfl) ?_) | (refine wpList_store_row rfl 301 _ _ rfl w.heap.size (tab 256) rfl rfl 301 (tab 0) (heap_alloc2_old w _ _) (by kernel_rfl) (by rw [DL,DL]) (by kernel_rfl) ?_))
   refine bodyPost_ret (v:=.agg (tab 256)) (results_cell_row rfl _ _ w.heap.size 301 _ (0,0) _ rfl (setRow_heap _ _ (tab 0) _ _ _ (heap_alloc2_old w _ _)) Tryz.underlying301 rfl (by kernel_rfl)) rfl ⟨rfl,?_⟩;exact below_setRow (((Below.refl _ _).alloc (Nat.le_refl _) _).alloc (by simp) _) (Nat.le_refl _) _
end Go.Proofs.YtfhdojnobmfefaaGreatDoor
namespace Go.Proofs.YtfhdojnobmfefaaGreatDoor
open Go.RowKit Go.Inc
def Reg (w:World) (rb t n:Nat):Prop:=w.heap[rb]?=some (.cells #[.int .u32 (t:Int),.int .i64 (n:Int)] 292 (0,0))
section
variable {w:World} {rb t n:Nat}
theorem Reg.c0 (h:Reg w rb t n):w.cell? ⟨rb,0,none⟩=some (.int .u32 (t:Int)):=cell_of_row w rb 0 _ _ _ h
theorem Reg.c1 (h:Reg w rb t n):w.cell? ⟨rb,1,none⟩=some (.int .i64 (n:Int)):=cell_of_row w rb 1 _ _ _ h
theorem Reg.fz (h:Reg w rb t n) (j:Nat):w.frozen? ⟨rb,j,none⟩=false:=frozen_of_row w rb j _ _ h
theorem Reg.set0 (h:Reg w rb t n) (t':Nat):Reg (w.setCell ⟨rb,0,none⟩ (.int .u32 (t':Int))) rb t' n:=heap_setCell_same w rb 0 _ _ _ h
theorem Reg.set1 (h:Reg w rb t n) (n':Nat):Reg (w.setCell ⟨rb,1,none⟩ (.int .i64 (n':Int))) rb t n':=heap_setCell_same w rb 1 _ _ _ h
theorem Reg.lt (h:Reg w rb t n):rb < w.heap.size:=Aj h
end
theorem KA {ps:List (List Nat)} {k:Nat} (h:k < ps.length):(ps.take (k+1)).flatten=(ps.take k).flatten++ps.getD k []:=by
 rw [List.take_succ_eq_append_getElem h,List.getD_eq_getElem?_getD,List.getElem?_eq_getElem h,Option.getD_some,List.flatten_append];simp only [List.flatten_cons,List.flatten_nil,List.append_nil]
theorem Vd (ps:List (List Nat)) (k:Nat):(ps.take k).flatten.length<=ps.flatten.length:=by
 conv=>rhs;rw [<- List.take_append_drop k ps,List.flatten_append,List.length_append]
 omega
def Hg (ps:List (List Nat)):Nat:=ps.flatten.length
theorem XO (i:Nat) (hi:i < 256):(tab 256)[i]?=some (.int .u32 (Crc.S8 i:Nat)):=by rw [Fg _ _ hi,if_pos hi]
set_option maxHeartbeats 1000000 in
theorem XJ (ok:Nat->Prop) (rb b o pc t n:Nat) (ps:List (List Nat)) (A:Nat->Option Addr) (C:Nat->Nat) (w:World) (hr:Reg w rb t n) (ht:t < 4294967296)
  (hp:Parts ok w b o ps A C) (hby:∀ p∈ps,Bytes p) (hkb:ok b) (hkk:∀ b,ok b->b≠rb) (hn:(n:Int)+ps.flatten.length<=9223372036854775807) (hl:(ps.length:Int)<=9223372036854775807) :
  Calls Tryz.prog 206 #[.pointer (some ⟨rb,0,none⟩),.slice (some ⟨b,o,none⟩) ps.length pc] w fun e w'=>
   e=.returned (.tuple #[])/\Reg w' rb (Crc.run (t ^^^ 4294967295) ps.flatten ^^^ 4294967295) (n+Hg ps)/\w.grownBy w' (some rb):=by
 have hr0:=hr.lt
 go_enter Tryz.func206,Tryz.ntmps206
 go_wp2_with fail
 refine (Om _).mono ?_;rintro e w1 ⟨rfl,hb1⟩
 go_wp2_with (refine Dx rfl 301 rfl (tab 0) LP ?_)
 intro w2 hrow2 hb2
 go_wp2_with (refine Ae rfl 301 _ _ rfl w1.heap.size (tab 256) rfl rfl 301 (tab 0) hrow2 (by kernel_rfl) (by rw [DL,DL]) (by kernel_rfl) ?_)
 intro w3 hrow3 hg3;have hT:w.heap.size<=w1.heap.size:=hb1.size;have hg:w.grownBy w3 (some rb):=OL (FZ (FZ (Aw w (some rb)) hb1) hb2) hg3 hT;have hT3:w1.heap.size < w3.heap.size:=Aj hrow3;have hr3:Reg w3 rb t n:=IE (Ac (Ac hr hb1) hb2) hg3 (by have:=hr.lt;intro e;cases e;omega);clear hb1 hb2 hrow2 hg3 hr;generalize w1.heap.size=T at *
 have c0:=hr3.c0;obtain ⟨R0,hR0⟩:∃ R0,R0=t ^^^ 4294967295:=⟨_,rfl⟩
 have hR0l:R0 < 4294967296:=by rw [hR0];exact Crc.xor_lt ht (by decide)
 have hx0:bits .xor .u32 IntKind.u32.max (t:Int)=(R0:Int):=by
  rw [hR0,Nat.xor_comm];exact u32_xor_nat 4294967295 t (by omega) ht
 have HR0:=hid hR0;clear hR0;have HR:=hid hr3;have HT:=hid hrow3;have HG:=hid hg;clear hr3 hrow3 hg
 go_wp2_with fail
 go_loopw [5,18] (fun r i wr=>∃ k:Nat,k<=ps.length/\i=.int .i64 k/\r=.int .u32 (Crc.run R0 (ps.take k).flatten:Nat)/\Reg wr rb t (n+(ps.take k).flatten.length)/\w3.grownBy wr (some rb)) (fun _ i _=>ps.length - (intOf i).toNat)
 case atStart=>exact ⟨0,Nat.zero_le _,rfl,by simp [Crc.run],by simpa using HR.out,Aw _ _⟩
 case round=>
  obtain ⟨k,hk,rfl,rfl,hr,hgr⟩:=hrel;clear c0 hx0;by_cases hlt:(k:Int) < ps.length
  ·have hcell:wr.cell? ⟨b,o+k,none⟩=some (.slice (A k) (ps.getD k []).length (C k)):=by
    have h:=hp.cell k (by omega);rw [<- h];exact World.cell?_of_block ((FY HG.out hgr).block b (AA h) (by intro e;cases e;exact hkk _ hkb rfl))
   have hsl:Sl ok wr (A k) (ps.getD k []):=(hp.sl k (by omega)).grown (FY HG.out hgr) hkk;have hb:Bytes (ps.getD k []):=by
    rw [List.getD_eq_getElem?_getD,List.getElem?_eq_getElem (by omega)];exact hby _ (List.getElem_mem _)
   have hRl:Crc.run R0 (ps.take k).flatten < 4294967296:=Crc.run_lt _ _ hR0l (fun x hx=>by
    obtain ⟨l,hl1,hl2⟩:=List.mem_flatten.1 hx;exact hby l (List.mem_of_mem_take hl1) x hl2)
   have hnext:Hid (Crc.run R0 (ps.take (k+1)).flatten=Crc.run (Crc.run R0 (ps.take k).flatten) (ps.getD k [])):=hid (by rw [KA (by omega),Crc.run_append]);have hlen:Hid ((ps.take (k+1)).flatten.length=(ps.take k).flatten.length+(ps.getD k []).length):=hid (by rw [KA (by omega),List.length_append]);have hcap:((n+(ps.take k).flatten.length:Nat):Int)+(ps.getD k []).length<=9223372036854775807:=by
    have h:=Vd ps (k+1);have h2:=hlen.out;omega
   have hN:Hid (n+(ps.take (k+1)).flatten.length=n+(ps.take k).flatten.length+(ps.getD k []).length):=hid (by rw [hlen.out];omega);generalize Crc.run R0 (ps.take k).flatten=R at *
   generalize ps.getD k []=p at *
   generalize n+(ps.take k).flatten.length=N at *
   generalize A k=ak at *
   generalize C k=ck at *
   rcases hsl with rfl | ⟨sb,so,rfl,hsk,hsc⟩
   ·have c1:=hr.c1;have fz1:=hr.fz 1
    go_wp2_with fail
    go_loop [5,24] (fun r i=>i=.int .i64 0/\r=.int .u32 (R:Nat)) (fun _ i=>0)
    case atStart=>exact ⟨rfl,rfl⟩
    case round=>
     obtain ⟨rfl,rfl⟩:=hrel
     go_wp2
     go_roundw
     case rel=>exact ⟨k+1,by omega,by go_num,by rw [hnext.out];rfl,by rw [hN.out];exact hr.set1 N,Aq hgr (.inl rfl) _⟩
     case measure=>simp [intOf];omega
   ·have HSC:=hid hsc;clear hsc hsk
    go_wp2_with fail
    go_loop [5,24] (fun r i=>∃ j:Nat,j<=p.length/\i=.int .i64 j/\r=.int .u32 (Crc.run R (p.take j):Nat)) (fun _ i=>p.length - (intOf i).toNat)
    case atStart=>exact ⟨0,Nat.zero_le _,rfl,by simp [Crc.run]⟩
    case round=>
     obtain ⟨j,hj,rfl,rfl⟩:=hrel;have hQ:=Crc.run_lt (p.take j) R hRl (hb.take j);by_cases hjl:(j:Int) < p.length
     ·have hcc:=HSC.out j (by omega);have hn:Hid (Crc.run R (p.take (j+1))=Crc.byte (Crc.run R (p.take j)) (p.getD j 0)):=hid (by rw [Ol (by omega),Crc.run_snoc]);have hc0:=hb.getD j;generalize Crc.run R (p.take j)=Q at *
      generalize p.getD j 0=c at *
      have hix:(Q % 256) ^^^ c < 256:=Nat.xor_lt_two_pow (n:=8) (by omega) hc0;have hby:=hid (Crc.byte_table Q c hc0);have hb8:Hid (bits .xor .u8 ((Q:Int) % 256) (c:Int)=(((Q % 256) ^^^ c:Nat):Int)):=u8_xor_nat (Q % 256) c (by omega) hc0;generalize (Q % 256) ^^^ c=ix at *
      have hS:=Crc.S8_lt ix (by omega);have htc:wr.cell? ⟨T,ix,none⟩=some (.int .u32 (Crc.S8 ix:Nat)):=by
       rw [cell_of_row wr T ix _ _ _ (IE HT.out hgr (by have:=hr0;intro e;cases e;omega))];exact XO ix hix
      have hb32:Hid (bits .xor .u32 ((Q:Int) / 256) (Crc.S8 ix:Nat)=(((Q / 256) ^^^ Crc.S8 ix:Nat):Int)):=u32_xor_nat (Q / 256) (Crc.S8 ix) (by omega) hS;have hb8:=hb8.out;have hix2:(ix:Int) < 256:=by omega
      have hQ2:(Q:Int) < 4294967296:=by omega
      clear hQ hc0 hix
      go_wp2
      go_round
      case rel=>exact ⟨j+1,by omega,by go_num,by rw [hn.out,hby.out,hb32.out]⟩
      case measure=>simp [intOf];omega
     ·have hfull:Hid (p.take j=p):=hid (List.take_of_length_le (by omega));have c1:=hr.c1;have fz1:=hr.fz 1
      go_wp2
      go_roundw
      case rel=>exact ⟨k+1,by omega,by go_num,by rw [hnext.out,hfull.out],by rw [hN.out];exact hr.set1 (N+p.length),Aq hgr (.inl rfl) _⟩
      case measure=>simp [intOf];omega
  ·have c0:=hr.c0;have fz0:=hr.fz 0;have hall:ps.take k=ps:=List.take_of_length_le (by omega);rw [hall] at hr;have hR:Crc.run R0 (ps.take k).flatten=Crc.run R0 ps.flatten:=by rw [hall]
   have hRl:Crc.run R0 ps.flatten < 4294967296:=Crc.run_lt _ _ hR0l (fun x hx=>by
    obtain ⟨l,hl1,hl2⟩:=List.mem_flatten.1 hx;exact hby l hl1 x hl2)
   rw [hR];have HR0:=HR0.out;subst HR0;have HF:=hid (hr.set0 (Crc.run (t ^^^ 4294967295) ps.flatten ^^^ 4294967295));generalize hRR:Crc.run (t ^^^ 4294967295) ps.flatten=R at *
   have HRR:=hid hRR;clear hRR;have hx0:Hid (bits .xor .u32 IntKind.u32.max (R:Int)=((R ^^^ 4294967295:Nat):Int)):=hid (by
    rw [Nat.xor_comm];exact u32_xor_nat 4294967295 R (by omega) hRl)
   clear hall hR
   go_wp2
   refine bodyPost_end (results_none rfl _ _ _) rfl ⟨rfl,?_,?_⟩
   ·rw [HRR.out,hx0.out];exact HF.out
   ·exact Aq (FY HG.out hgr) (.inl rfl) _
set_option maxHeartbeats 1000000 in
theorem VF (rb pc t n:Nat) (a:Option Addr) (w:World) (hr:Reg w rb t n) (ht:t < 4294967296) :
  Calls Tryz.prog 206 #[.pointer (some ⟨rb,0,none⟩),.slice a 0 pc] w fun e w'=>
   e=.returned (.tuple #[])/\Reg w' rb t n/\w.grownBy w' (some rb):=by
 have hr0:=hr.lt
 go_enter Tryz.func206,Tryz.ntmps206
 go_wp2_with fail
 refine (Om _).mono ?_;rintro e w1 ⟨rfl,hb1⟩
 go_wp2_with (refine Dx rfl 301 rfl (tab 0) LP ?_)
 intro w2 hrow2 hb2
 go_wp2_with (refine Ae rfl 301 _ _ rfl w1.heap.size (tab 256) rfl rfl 301 (tab 0) hrow2 (by kernel_rfl) (by rw [DL,DL]) (by kernel_rfl) ?_)
 intro w3 hrow3 hg3;have hT:w.heap.size<=w1.heap.size:=hb1.size;have hg:w.grownBy w3 (some rb):=OL (FZ (FZ (Aw w (some rb)) hb1) hb2) hg3 hT;have hT3:w1.heap.size < w3.heap.size:=Aj hrow3;have hr3:Reg w3 rb t n:=IE (Ac (Ac hr hb1) hb2) hg3 (by have:=hr.lt;intro e;cases e;omega);clear hb1 hb2 hrow2 hg3 hr;generalize w1.heap.size=T at *
 have c0:=hr3.c0;have fz0:=hr3.fz 0;obtain ⟨R0,hR0⟩:∃ R0,R0=t ^^^ 4294967295:=⟨_,rfl⟩
 have hR0l:R0 < 4294967296:=by rw [hR0];exact Crc.xor_lt ht (by decide)
 have hback:Hid (R0 ^^^ 4294967295=t):=hid (by rw [hR0,Nat.xor_assoc,Nat.xor_self,Nat.xor_zero]);have hx0:bits .xor .u32 IntKind.u32.max (t:Int)=(R0:Int):=by
  rw [hR0,Nat.xor_comm];exact u32_xor_nat 4294967295 t (by omega) ht
 have hx1:Hid (bits .xor .u32 IntKind.u32.max (R0:Int)=((R0 ^^^ 4294967295:Nat):Int)):=hid (by
  rw [Nat.xor_comm];exact u32_xor_nat 4294967295 R0 (by omega) hR0l)
 clear hR0;have HR:=hid hr3;have HG:=hid hg;clear hr3 hrow3 hg
 go_wp2_with fail
 go_loop [5,18] (fun r i=>i=.int .i64 0/\r=.int .u32 (R0:Nat)) (fun _ i=>0)
 case atStart=>exact ⟨rfl,rfl⟩
 case round=>
  obtain ⟨rfl,rfl⟩:=hrel;clear hx0
  go_wp2
  refine bodyPost_end (results_none rfl _ _ _) rfl ⟨rfl,?_,?_⟩
  ·rw [hx1.out,hback.out];exact HR.out.set0 t
  ·exact Aq HG.out (.inl rfl) _
theorem XK (ok:Nat->Prop) (rb pc t n:Nat) (a:Option Addr) (ps:List (List Nat)) (w:World) (hr:Reg w rb t n) (ht:t < 4294967296) (hp:Pt ok w a ps) (hk:∀ b,ok b->b≠rb)
  (hn:n+Hg ps<=9223372036854775807) (hl:ps.length<=9223372036854775807) :
  Calls Tryz.prog 206 #[.pointer (some ⟨rb,0,none⟩),.slice a ps.length pc] w fun e w'=>
   e=.returned (.tuple #[])/\Reg w' rb (Crc.run (t ^^^ 4294967295) ps.flatten ^^^ 4294967295) (n+Hg ps)/\w.grownBy w' (some rb):=by
 obtain ⟨hby,hp⟩:=hp;rcases hp with rfl | ⟨b,o,A,C,rfl,hb,hp⟩
 ·refine (VF rb pc t n a w hr ht).mono ?_;rintro e w' ⟨h1,h2,h3⟩;refine ⟨h1,?_,h3⟩;show Reg w' rb (t ^^^ 4294967295 ^^^ 4294967295) (n+0);rw [Nat.xor_assoc,Nat.xor_self,Nat.xor_zero];exact h2
 ·exact XJ ok rb b o pc t n ps A C w hr ht hp hby hb hk (by unfold Hg at hn;omega) (by omega)
def told (t:Nat) (ps:List (List Nat)):Nat:=Crc.run (t ^^^ 4294967295) ps.flatten ^^^ 4294967295
theorem ZI (ok:Nat->Prop) (rb pc t n:Nat) (a:Option Addr) (ps:List (List Nat)) (w:World) (hr:Reg w rb t n) (ht:t < 4294967296) (hp:Pt ok w a ps) (hk:∀ b,ok b->b≠rb)
  (hn:n+Hg ps<=9223372036854775807) (hl:ps.length<=9223372036854775807) :
  Calls Tryz.prog 201 #[.pointer (some ⟨rb,0,none⟩),.slice a ps.length pc] w fun e w'=>
   e=.returned (.pointer (some ⟨rb,0,none⟩))/\Reg w' rb (told t ps) (n+Hg ps)/\w.grownBy w' (some rb):=by
 have H:=XK ok rb pc t n a ps w hr ht hp hk hn hl
 go_enter Tryz.func201,Tryz.ntmps201
 go_wp2_with (go_at_call 206;refine H.mono ?_;rintro e w1 ⟨rfl,hr1,hg1⟩)
 go_ret
 exact ⟨rfl,hr1,hg1⟩
theorem VL (rb t n:Nat) (w:World) (hr:Reg w rb t n) :
  Calls Tryz.prog 202 #[.pointer (some ⟨rb,0,none⟩)] w fun e w'=>e=.returned (.int .u32 (t:Int))/\w=w':=by
 have c0:=hr.c0
 go_enter Tryz.func202,Tryz.ntmps202
 go_wp2_with fail
 go_ret
 exact ⟨rfl,rfl⟩
theorem Yf:((Tryz.prog.info? 292).bind (·.zero)).map (·.cells)=some #[.int .u32 0,.int .i64 0]:=by kernel_rfl
theorem UD (ok:Nat->Prop) (pc:Nat) (a:Option Addr) (ps:List (List Nat)) (w:World) (hp:Pt ok w a ps)
  (hn:Hg ps<=9223372036854775807) (hl:ps.length<=9223372036854775807) :
  Calls Tryz.prog 194 #[.slice a ps.length pc] w fun e w'=>e=.returned (.int .u32 (Crc.sum ps.flatten:Nat))/\Below w.heap.size w w':=by
 go_enter Tryz.func194,Tryz.ntmps194
 go_wp2_with (refine Dx rfl 292 rfl _ Yf ?_)
 intro w1 hrow hb;have hr:Reg w1 w.heap.size 0 0:=hrow;have hp1:Pt (fun b=>b < w.heap.size) w1 a ps:=(hp.mono fun _ _ h=>h).below hb;have H:=hid (ZI _ w.heap.size pc 0 0 a ps w1 hr (by decide) hp1 (fun b hb e=>by omega) (by omega) hl);clear hrow
 go_wp2_with (go_at_call 201;refine H.out.mono ?_;rintro e w2 ⟨rfl,hr2,hg2⟩)
 have H2:=hid (VL w.heap.size (told 0 ps) (0+Hg ps) w2 hr2);have hbel:Below w.heap.size w w2:=Bi hb hg2 (Nat.le_refl _) hb.size
 go_wp2_with (go_at_call 202;refine H2.out.mono ?_;rintro e w3 ⟨rfl,rfl⟩)
 go_ret
 exact ⟨rfl,hbel⟩
end Go.Proofs.YtfhdojnobmfefaaGreatDoor
