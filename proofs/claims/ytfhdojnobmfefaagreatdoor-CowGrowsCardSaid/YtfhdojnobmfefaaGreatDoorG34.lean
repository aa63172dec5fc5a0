/- MADE SMALL. -/
import Derived.Test.YtfhdojnobmfefaaGreatDoorG33
import Derived.Test.YtfhdojnobmfefaaGreatDoorG1
import Derived.Test.YtfhdojnobmfefaaGreatDoorRows
import Derived.Deep.QuietTactic
import Derived.BigQuiet
import Derived.Deep.CutRange
import Derived.Test.YtfhdojnobmfefaaGreatDoorCards
import Derived.Test.YtfhdojnobmfefaaGreatDoorTie
import Derived.ProofKit
import Derived.OpenShut
import Derived.LaidMore
import Derived.Lay
import Derived.SevenTiedAt
import Derived.Stop.Joined
namespace Go.Proofs.YtfhdojnobmfefaaGreatDoor
open Go.RowKit Go.Inc Go.ChangeShapes Go.WideShapes Go.ChangeAt
def MQ:List (String×DataW Unit):=Rows.cowPlaysRow.laid
theorem Tz:(Rows.laid_math_bits_deBruijn64tab:DataW Unit)=.agg (Lib.deBruijn64tab.map fun n:Nat=>.lit (.int .u8 (n:Int))):=by kernel_rfl
theorem Qh {W:World} (h:laidMetH Tryz.prog MQ W):Tab W:=fun r hr=>by
 rw [MakeChecks.laidMetH_plain _ _ _ (by kernel_rfl)] at h;obtain ⟨ps,⟨g,t,cs,fuel,p,q,hg,ht,hv,hd,_,_⟩,_,_⟩:=h;obtain rfl:=Option.some.inj ((show _=some 0 by kernel_rfl).symm.trans hg);obtain rfl:=Option.some.inj ((show (Tryz.prog.globals[0]?).map (·.type)=some 251 by kernel_rfl).symm.trans ht);rw [Tz] at hd;obtain ⟨xs,m,_,ex,_,hl,hel⟩:=DataW.trod_array Tryz.underlying251 hd;have c5:Tryz.prog.cellsOf 5=1:=by kernel_rfl
 have hlen:Lib.deBruijn64tab.length=64:=by decide
 have hE:=hel r (by omega);rw [c5,Nat.mul_one,List.getElem?_eq_getElem (by omega)] at hE;obtain ⟨z,e1,e2,_⟩:=DataW.trod_int Tryz.underlying5 hE;have e3:(xs.map (·.1))=Lib.deBruijn64tab.map fun n:Nat=>.lit (.int .u8 (n:Int)):=(DataW.agg.inj (Prod.mk.inj ex).1).symm;have e4:(xs.map (·.1))[r]?=(Lib.deBruijn64tab.map fun n:Nat=>(DataW.lit (.int .u8 (n:Int)):DataW Unit))[r]?:=by rw [e3]
 rw [List.getElem?_map,List.getElem?_map,List.getElem?_eq_getElem (by omega:r < xs.length),List.getElem?_eq_getElem hr,e2] at e4;have hz:z=((Lib.deBruijn64tab.getD r 0:Nat):Int):=by
  simp only [Option.map_some,Option.some.injEq,DataW.lit.injEq,Lit.int.injEq,true_and] at e4;rw [e4,List.getD,List.getElem?_eq_getElem hr];rfl
 rw [World.var?_cell hg hv r,<- hz];have:cs.toList[r]?=some (.int .u8 z):=by
  have h0:((cs.toList.drop r).take 1)[0]?=some (.int .u8 z):=by rw [e1];rfl
  simpa using h0
 simpa using this
theorem Wv (os:Os) (args:Array Value):laidMetH Tryz.prog MQ ((World.laidAll Tryz.prog os MQ).forCall (fun _ _=>0) ⟨#[],args,[]⟩).memory:=by
 rw [MakeChecks.laidMetH_plain _ _ _ (by kernel_rfl)];exact laidMet_laidAll _ (by kernel_rfl) (by kernel_rfl)
end Go.Proofs.YtfhdojnobmfefaaGreatDoor
namespace Go.Proofs.YtfhdojnobmfefaaGreatDoor
open Go.RowKit Go.Inc
theorem Iw {B:Nat} {v x:Value} {w:World} {m:List Bool} (hm:0 < m.length) (h:JX B v m w x):NewSet B w x m:=by
 rcases h with ⟨_,h,_⟩ | h
 ·rw [h] at hm;simp at hm
 ·exact h
theorem SE (w:World) (z:Int) (T:TypeId):Si (fun b=>b=w.heap.size) (w.alloc (.cells #[.int .i64 z] T)) (some ⟨w.heap.size,0,none⟩) [z]:=
 .inr ⟨_,_,rfl,rfl,fun i hi=>by
  have h0:i=0:=by simp at hi;omega
  subst h0;rw [cell_of_row _ w.heap.size _ _ _ _ (heap_alloc_new w _)];rfl⟩
theorem Bz (w:World) (o:Obj):Below w.heap.size w (w.alloc o):=(Below.refl _ _).alloc (Nat.le_refl _) _
end Go.Proofs.YtfhdojnobmfefaaGreatDoor
