/- MADE SMALL. -/
import Derived.Test.YtfhdojnobmfefaaGreatDoorG4
import Derived.Lib.MinMax
namespace Go.Proofs.YtfhdojnobmfefaaGreatDoor
open Go.RowKit Go.Inc
theorem Xd (f:Fr):(f.k < 1/\chk f=13)\/(1<=f.k/\9 < f.k/\chk f=13)\/(1<=f.k/\f.k<=9/\f.e < 0/\chk f=10)\/(1<=f.k/\f.k<=9/\0<=f.e/\4294967295 < f.e/\chk f=10)\/
  (1<=f.k/\f.k<=9/\0<=f.e/\f.e<=4294967295/\f.p < 0/\chk f=10)\/(1<=f.k/\f.k<=9/\0<=f.e/\f.e<=4294967295/\0<=f.p/\2048<=f.p/\2047 < f.p/\chk f=10)\/
  (1<=f.k/\f.k<=9/\0<=f.e/\f.e<=4294967295/\0<=f.p/\f.p < 2048/\f.p<=2047/\(238:Int) < f.b.length/\chk f=2)\/(1<=f.k/\f.k<=9/\0<=f.e/\f.e<=4294967295/\0<=f.p/\f.p < 2048/\f.p<=2047/\(f.b.length:Int)<=238/\chk f=0):=by
 unfold chk;by_cases a1:f.k < 1
 ·exact .inl ⟨a1,by rw [if_pos (.inl a1)]⟩
 right;by_cases a2:9 < f.k
 ·exact .inl ⟨by omega,a2,by rw [if_pos (.inr a2)]⟩
 right;rw [if_neg (by omega)];by_cases a3:f.e < 0
 ·exact .inl ⟨by omega,by omega,a3,by rw [if_pos (.inl a3)]⟩
 right;by_cases a4:4294967295 < f.e
 ·exact .inl ⟨by omega,by omega,by omega,a4,by rw [if_pos (.inr (.inl a4))]⟩
 right;by_cases a5:f.p < 0
 ·exact .inl ⟨by omega,by omega,by omega,by omega,a5,by rw [if_pos (.inr (.inr (.inl a5)))]⟩
 right;by_cases a6:2047 < f.p
 ·exact .inl ⟨by omega,by omega,by omega,by omega,by omega,by omega,a6,by rw [if_pos (.inr (.inr (.inr a6)))]⟩
 right;rw [if_neg (by omega)];by_cases a7:238 < f.b.length
 ·exact .inl ⟨by omega,by omega,by omega,by omega,by omega,by omega,by omega,by omega,by rw [if_pos a7]⟩
 ·exact .inr ⟨by omega,by omega,by omega,by omega,by omega,by omega,by omega,by omega,by rw [if_neg a7]⟩
set_option maxHeartbeats 2000000 in
theorem JS (k e p:Int) (a:Option Addr) (c:Nat) (bs:List Nat) (w:World) :
  Calls Tryz.prog 179 #[.agg #[.int .i64 k,.int .i64 e,.int .i64 p,.slice a bs.length c]] w fun r w'=>r=.returned (.int .i64 (chk ⟨k,e,p,bs⟩:Nat))/\Below w.heap.size w w':=by
 have hc:=Xd ⟨k,e,p,bs⟩
 dsimp only at hc
 generalize chk ⟨k,e,p,bs⟩=q at *
 have hb:=(Below.refl w.heap.size w).alloc (Nat.le_refl _) (.cells #[.int .i64 k,.int .i64 e,.int .i64 p,.slice a bs.length c] 233);have HB:=hid hb;clear hb;rcases hc with ⟨h1,h⟩ | ⟨h0,h1,h⟩ | ⟨h0,h1,h2,h⟩ | ⟨h0,h1,h2,h3,h⟩ | ⟨h0,h1,h2,h3,h4,h⟩ | ⟨h0,h1,h2,h3,h4,h5,h6,h⟩ | ⟨h0,h1,h2,h3,h4,h5,h6,h7,h⟩ | ⟨h0,h1,h2,h3,h4,h5,h6,h7,h⟩
 all_goals
  have HQ:=hid h;clear h
  go_enter Tryz.func179,Tryz.ntmps179
  go_wp2_with fail
  go_ret
  exact ⟨by rw [HQ.out];rfl,HB.out⟩
end Go.Proofs.YtfhdojnobmfefaaGreatDoor
