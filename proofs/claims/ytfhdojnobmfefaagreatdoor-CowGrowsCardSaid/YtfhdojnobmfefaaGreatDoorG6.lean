/- MADE SMALL. -/
import Derived.Test.YtfhdojnobmfefaaGreatDoorRows
import Derived.Test.YtfhdojnobmfefaaGreatDoorG1
import Derived.Deep.QuietTactic
import Derived.BigQuiet
import Derived.Test.YtfhdojnobmfefaaGreatDoorG3
import Derived.Test.YtfhdojnobmfefaaGreatDoorG0
import Derived.Lib.Zigzag
import Derived.IntWalk
namespace Go.Proofs.YtfhdojnobmfefaaGreatDoor
open Go.RowKit Go.Inc
theorem XC (x:Nat) (h:x < 256):bits .or .u8 (x:Int) 128=((x % 128+128:Nat):Int):=by
 have key:∀ n:Fin 256,bits .or .u8 (n.val:Int) 128=((n.val % 128+128:Nat):Int):=by decide+kernel
 exact key ⟨x,h⟩
theorem UJ {w:World} {E B:Nat} {v:Value} {bs:List Nat} {x n m:Nat} (h:w.ownsRow B E 1 v (n+m) (u8s bs++[.int .u8 (x:Int)])) (hn:n=bs.length) (hm:m=1):Row E B w v (bs++[x]):=by
 subst hn hm;have:u8s (bs++[x])=u8s bs++[.int .u8 (x:Int)]:=by simp [u8s]
 unfold Row;rw [this,List.length_append];exact h
set_option maxHeartbeats 1000000 in
theorem QM (B:Nat) (v:Value) (bs:List Nat) (n:Nat) (w:World) (hv:Row 5 B w v bs) (hB:B<=w.heap.size) (hn:n < 18446744073709551616) (hl:bs.length<=70368744177664) :
  Calls Tryz.prog 178 #[v,.int .u64 (n:Int)] w fun e w'=>∃ v',e=.returned v'/\Row 5 B w' v' (bs++Var.put n)/\Below B w w':=by
 have HV:=hid hv;have hpl:=Var.put_ten hn;clear hv
 go_enter Tryz.func178,Tryz.ntmps178
 go_wp2_with fail
 go_loopw [0,1] (fun v1 n1 wr=>∃ (m:Nat) (xs:List Nat),m<=n/\n1=.int .u64 (m:Int)/\Row 5 B wr v1 xs/\bs++Var.put n=xs++Var.put m/\Below B w wr) (fun _ n1 _=>(intOf n1).toNat)
 case atStart=>exact ⟨n,bs,Nat.le_refl _,rfl,HV.out,rfl,Below.refl _ _⟩
 case round=>
  obtain ⟨m,xs,hm,rfl,hr,hs,hb⟩:=hrel;have hx:xs.length<=bs.length+10:=by
   have:=congrArg List.length hs;simp only [List.length_append] at this;omega
  have HR:=hid hr;have HS:=hid hs;have HB:Hid (B<=wr.heap.size):=hid (Nat.le_trans hB hb.size);clear hr hs;have hm2:(m:Int) < 18446744073709551616:=by omega
  by_cases h:(128:Int)<=m
  ·have hp:=hid (Var.put_more (n:=m) (by omega));have ho:Hid (bits .or .u8 ((m:Int) % 256) 128=((m % 128+128:Nat):Int)):=by
    have h:=XC (m % 256) (by omega);rw [show m % 256 % 128=m % 128 from by omega] at h;exact h
   have hi:(128:Int)<=(m:Int):=h
   go_wp2_with (refine Bq rfl (.tmp 9) (.tmp 13) 74 rfl B 5 (.int .u8 0) 1 Tryz.underlying74 MW rfl _ _ _ rfl (HR.out.alloc _) (some ⟨wr.heap.size,0,none⟩) 1 1 _ rfl rfl (by intro h;cases h) (UX wr _ _) (by simp [Value.oneCell']) (by unfold maxLen;omega) (by omega) (by have:=HB.out;simp;omega) ?_)
   intro v2 w2 hv2 hg2 _;have hb2:=(hb.alloc HB.out _).grown hg2 (by have:=HB.out;simp;omega) fun k hk=>(HR.out.lt k hk).1;rw [ho.out] at hv2;have hv3:=hid (UJ hv2 rfl rfl);clear hv2 hg2 hb
   go_wp2_with fail
   go_roundw
   case rel=>
    refine ⟨m / 128,xs++[m % 128+128],by omega,by go_num,hv3.out,?_,hb2⟩;rw [HS.out,hp.out];simp
   case measure=>simp [intOf];omega
  ·have hp:=hid (Var.put_low (n:=m) (by omega));have hi:(m:Int) < 128:=by omega
   have hc:Hid ((m:Int) % 256=m):=hid (by omega)
   go_wp2_with (refine Bq rfl (.tmp 15) (.tmp 18) 74 rfl B 5 (.int .u8 0) 1 Tryz.underlying74 MW rfl _ _ _ rfl (HR.out.alloc _) (some ⟨wr.heap.size,0,none⟩) 1 1 _ rfl rfl (by intro h;cases h) (UX wr _ _) (by simp [Value.oneCell']) (by unfold maxLen;omega) (by omega) (by have:=HB.out;simp;omega) ?_)
   intro v2 w2 hv2 hg2 _;have hb2:=(hb.alloc HB.out _).grown hg2 (by have:=HB.out;simp;omega) fun k hk=>(HR.out.lt k hk).1;have hv3:=hid (UJ hv2 rfl rfl);clear hv2 hg2 hb
   go_wp2_with fail
   go_ret
   refine ⟨_,rfl,?_,hb2⟩;rw [HS.out,hp.out];exact hv3.out
theorem JB {a b:Int} (h:a=b):Ending.returned (.int .u64 a)=.returned (.int .u64 b):=by rw [h]
theorem O3 (n:Int) (w:World):Calls Tryz.prog 177 #[.int .i64 n] w fun e w'=>e=.returned (.bool (decide (n < 0)))/\w=w':=by
 go_enter Tryz.func177,Tryz.ntmps177
 go_wp2
 go_ret
 exact ⟨rfl,rfl⟩
end Go.Proofs.YtfhdojnobmfefaaGreatDoor
