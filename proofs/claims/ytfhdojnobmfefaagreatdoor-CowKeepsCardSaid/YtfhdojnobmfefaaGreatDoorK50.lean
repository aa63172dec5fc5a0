/- MADE SMALL. -/
import Derived.Test.YtfhdojnobmfefaaGreatDoorK48
import Derived.Test.YtfhdojnobmfefaaGreatDoorK49
import Derived.Lib.SmallJoins
namespace Go.Proofs.YtfhdojnobmfefaaGreatDoor
open Go.RowKit Go.Inc Go.Deep Go.ChangeShapes Go.WideShapes
theorem Zq:Tryz.prog.cellsOf 34=6:=by kernel_rfl
section
variable {H:Type} {enc:TypeId×Value->H} {w:World} {base:Nat} {held:Bool}
theorem Xl {fuel:Nat} {v0 v1 v2 v3 v4 v5:Value} {x:DataW H×List MemPlace} (h:DataW.trod enc Tryz.prog w base (fun _=>true) held fuel 34 [v0,v1,v2,v3,v4,v5]=some x) :
  ∃ t:A10,v0=.int .i64 t.kind/\v1=.int .i64 t.s/\v2=.int .i64 t.z/\v3=.int .i64 t.s2/\v4=.int .i64 t.z2/\v5=.int .i64 t.page:=by
 obtain ⟨y0,y1,y2,y3,n,-,-,h0,h1,h2,h3⟩:=Go.Joins.trod_struct4 Tryz.underlying34 h;have h0':DataW.trod enc Tryz.prog w base (fun _=>true) held n 3 (([v0,v1,v2,v3,v4,v5].drop 0).take (Tryz.prog.cellsOf 3))=some y0:=h0;have h1':DataW.trod enc Tryz.prog w base (fun _=>true) held n 32 (([v0,v1,v2,v3,v4,v5].drop 1).take (Tryz.prog.cellsOf 32))=some y1:=h1;have h2':DataW.trod enc Tryz.prog w base (fun _=>true) held n 32 (([v0,v1,v2,v3,v4,v5].drop 3).take (Tryz.prog.cellsOf 32))=some y2:=h2;have h3':DataW.trod enc Tryz.prog w base (fun _=>true) held n 3 (([v0,v1,v2,v3,v4,v5].drop 5).take (Tryz.prog.cellsOf 3))=some y3:=h3;rw [Ov] at h0' h3';rw [Ym] at h1' h2';obtain ⟨x0,e0,_,_⟩:=DataW.trod_int Tryz.underlying3 h0';obtain ⟨x3,e3,_,_⟩:=DataW.trod_int Tryz.underlying3 h3';obtain ⟨k,rfl,rfl,_⟩:=P7 h1';obtain ⟨k2,rfl,rfl,_⟩:=P7 h2';simp at e0 e3;subst e0 e3;exact ⟨⟨x0,k.1,k.2,k2.1,k2.2,x3⟩,rfl,rfl,rfl,rfl,rfl,rfl⟩
theorem Qx {fuel:Nat} {v:Value} {x:DataW H×List MemPlace} (h:DataW.trod enc Tryz.prog w base (fun _=>true) held fuel 22 [v]=some x) :
  ∃ a c ts,v=.slice a (List.length ts) c/\ZG (fun _=>True) w a ts/\ts.length<=c/\c<=maxLen:=by
 rcases open_slice Tryz.underlying22 h with ⟨hcs,_⟩ | ⟨a,len,cap,m,n,D,Pl,hcs,_,hl,hm,hmm,_,hi⟩
 ·simp at hcs;exact ⟨none,0,[],hcs,(fun i t h=>by simp at h),Nat.le_refl _,Nat.zero_le _⟩
 ·simp only [List.cons.injEq,and_true] at hcs;simp only [if_true] at hmm;subst hmm;rw [Zq] at hi;have each:∀ i,i < m->∃ t:A10,w.cell? (a.add (i * 6))=some (.int .i64 t.kind)/\w.cell? ((a.add (i * 6)).add 1)=some (.int .i64 t.s)/\w.cell? ((a.add (i * 6)).add 2)=some (.int .i64 t.z)/\w.cell? ((a.add (i * 6)).add 3)=some (.int .i64 t.s2)/\w.cell? ((a.add (i * 6)).add 4)=some (.int .i64 t.z2)/\w.cell? ((a.add (i * 6)).add 5)=some (.int .i64 t.page):=by
   intro i him;obtain ⟨cs,hc,ht⟩:=hi i him;obtain ⟨_,hl,hat⟩:=World.cells?_some hc
   match cs,hl with
   | [c0,c1,c2,c3,c4,c5],_=>
    obtain ⟨t,rfl,rfl,rfl,rfl,rfl,rfl⟩:=Xl ht;have h0:=hat 0 (by decide);rw [add_add,Nat.add_zero] at h0;exact ⟨t,h0,hat 1 (by decide),hat 2 (by decide),hat 3 (by decide),hat 4 (by decide),hat 5 (by decide)⟩
  haveI:Inhabited A10:=⟨⟨0,0,0,0,0,0⟩⟩
  obtain ⟨y,hy⟩:=choose_lt each;have hlen:((List.range len).map y).length=len:=by simp
  refine ⟨some a,m,(List.range len).map y,by rw [hlen];exact hcs,?_,by rw [hlen];exact hl,hm⟩;intro i t ht;rw [List.getElem?_map] at ht;obtain ⟨i',hi1,rfl⟩:=Option.map_eq_some_iff.1 ht;obtain ⟨hi2,hi3⟩:=List.getElem?_eq_some_iff.1 hi1;rw [List.length_range] at hi2;rw [List.getElem_range] at hi3;subst hi3;have h00:=(hy 0 (by omega)).1;rw [Nat.zero_mul] at h00;obtain ⟨b,o,rfl⟩:=Zo h00;obtain ⟨q0,q1,q2,q3,q4,q5⟩:=hy i (by omega);rw [Addr.add_lit] at q0;rw [Addr.add_lit,Addr.add_lit] at q1 q2 q3 q4 q5;exact ⟨b,o,rfl,trivial,q0,q1,q2,q3,q4,q5⟩
end
end Go.Proofs.YtfhdojnobmfefaaGreatDoor
