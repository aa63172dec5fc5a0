/- MADE SMALL. -/
import Derived.Test.YtfhdojnobmfefaaGreatDoorG18
import Derived.Maps.AppendAt
namespace Go.Proofs.YtfhdojnobmfefaaGreatDoor
open Go.RowKit Go.Inc
theorem bV:(Tryz.prog.info? 74).map (fun i=>(i.zero,i.size,i.bytes))=some (some (.slice none 0 0),1,24):=by kernel_rfl
set_option maxHeartbeats 1000000 in
theorem RJ (w:World) (M n:Nat) (f:Int->Option Value) (x:Int) (v0:Value) (k:Nat) (xs:List Value) (a:Option Addr) (c:Nat) (hm:Mp Tryz.prog 3 w M n f) (hx:-9223372036854775808<=x/\x<=9223372036854775807)
  (hv:(f x).getD (.slice none 0 0)=v0) (hown:w.ownsRow 0 74 1 v0 k xs) (hk:k<=1000000) (hn:n<=1000000) (hM:v0.ownBlock≠some M) :
  Calls Tryz.prog 183 #[.map (some M),.int .i64 x,.slice a 256 c] w fun e w'=>e=.returned (.tuple #[])/\∃ v',Mp Tryz.prog 3 w' M (n+1) (put f x v')/\w'.ownsRow 0 74 1 v' (k+1) (xs++[.slice a 256 c])/\
   (v'.ownBlock=v0.ownBlock\/v'.ownBlock=some w.heap.size\/v'.ownBlock=some (w.heap.size+1))/\Mv (fun b=>b=M\/v0.ownBlock=some b) w w':=by
 have HM:=hid hm;have HV:=hid hv;have hb1:Below w.heap.size w (w.alloc (.cells #[.slice a 256 c] 74)):=(Below.refl _ _).alloc (Nat.le_refl _) _;have HO:=hid (Ag hown (Mv.of_below (F:=fun _=>False) hb1) (fun _ _ h=>h));have HM1:=hid (hm.below hb1);have HMM:=hid hM;have HB1:=hid hb1;clear hm hv hb1 hM hown;obtain ⟨i,hi,hz0,hz1,hz2⟩:=info_parts bV;have hsz:(w.alloc (.cells #[.slice a 256 c] 74)).heap.size=w.heap.size+1:=by simp
 have Hsz:=hid hsz;clear hsz
 go_enter Tryz.func183,Tryz.ntmps183
 go_wp2_with (first | (at_lookup;refine Hl _ rfl _ _ 195 rfl 3 142 Tryz.underlying3 Tryz.underlying195 (.slice none 0 0) (by kernel_rfl) M n f rfl HM.out x rfl hx ?_;rw [HV.out]) | (at_builtin;refine wpList_append_own_at _ rfl (.tmp 10) (.tmp 12) 142 rfl 0 74 i (.slice none 0 0) 1 24 Tryz.underlying142 hi hz0 hz1 hz2 rfl (by decide) v0 k xs rfl HO.out ⟨w.heap.size,0,none⟩ 1 1 [.slice a 256 c] rfl rfl (cell_one_new _ _ _) (by simp [Value.oneCell']) (by unfold maxLen;omega) (by omega) (Nat.zero_le _) ?_))
 intro v' w2 hown2 hg2 _ hat;have HM2:=hid (HM1.out.grown hg2 HMM.out);have HO2:=hid hown2;have hat':Hid (v'.ownBlock=v0.ownBlock\/v'.ownBlock=some (w.heap.size+1)):=hid hat;have HG:Hid (Mv (fun b=>v0.ownBlock=some b) w w2):=hid ((Mv.of_below HB1.out).trans' (Mv.of_grown (F:=fun b=>v0.ownBlock=some b) hg2 fun g h _=>h) fun _ _ h=>h);have hvM:Hid (v'.ownBlock≠some M):=hid (by
  have:=HM1.out.lt;have hlt:=HM.out.lt;rcases hat'.out with h | h
  ·rw [h];exact HMM.out
  ·rw [h];intro e;cases e;omega)
 clear hown2 hg2 hat HM1 HM HO HB1 HMM
 go_wp2_with (at_mapUpdate;refine RY _ rfl _ _ _ 195 rfl 3 142 Tryz.underlying3 Tryz.underlying195 M n f rfl HM2.out (by unfold maxLen;omega) x rfl hx v' rfl ?_;intro w3 hm3 hg3)
 go_end0
 have HG3:Mv (fun b=>b=M) w2 w3:=Mv.of_grown hg3 fun g h _=>by cases h;rfl
 refine ⟨rfl,v',hm3,Ag HO2.out HG3 (fun j hj e=>by subst e;exact hvM.out hj),?_,?_⟩
 ·rcases hat'.out with h | h
  ·exact .inl h
  ·exact .inr (.inr h)
 ·exact (HG.out.sub fun _ _ h=>.inr h).trans' HG3 fun _ _ h=>.inl h
end Go.Proofs.YtfhdojnobmfefaaGreatDoor
