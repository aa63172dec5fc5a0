/- MADE SMALL. -/
import Derived.Test.YtfhdojnobmfefaaGreatDoorG1
import Derived.Test.YtfhdojnobmfefaaGreatDoorG12
import Derived.Laws.ResultCell
namespace Go.Inc
open Go Go.RowKit
def Bb (ok:Nat->Prop) (w:World) (v:Value) (bs:List Nat):Prop:=∃ a c,v=.slice a bs.length c/\Sl ok w a bs/\bs.length<=c/\c<=maxLen/\(a=none->c=0)
section
variable {ok ok':Nat->Prop} {w w':World} {v:Value} {bs:List Nat} {E B:Nat}
theorem Bb.below (h:Bb ok w v bs) (hb:Below w.heap.size w w'):Bb ok w' v bs:=by
 obtain ⟨a,c,rfl,h1,h2⟩:=h;exact ⟨a,c,rfl,h1.below hb,h2⟩
theorem Bb.mono (h:Bb ok w v bs) (hk:∀ b,ok b->b < w.heap.size->ok' b):Bb ok' w v bs:=by
 obtain ⟨a,c,rfl,h1,h2⟩:=h;exact ⟨a,c,rfl,h1.mono hk,h2⟩
theorem Row.bb (h:Row E B w v bs):Bb (fun b=>B<=b) w v bs:=by
 obtain ⟨a,c,rfl,hn,h1,h2,hs⟩:=h.sl;exact ⟨a,c,rfl,hs,h1,h2,hn⟩
end
theorem GL {P:Program} {fn:Func} {p u:Tmp} {ty:TypeId} (h:fn.results=#[.cell p ty,.tmp u]) (tmps:Array Value) (w:World) (g:Nat) (t:TypeId) (cs:Array Value) (fr:Nat×Nat) (d:TypeDesc)
  (hp:tmps.getD p undef=.pointer (some ⟨g,0,none⟩)) (hg:w.heap[g]?=some (.cells cs t fr))
  (hu:P.underlying ty=some d) (hd:(match d with | .struct _ | .array _ _=>true | _=>false)=true) (hi:(P.info? ty).map (·.size)=some cs.size) :
  (results fn tmps).run P w=.ok (.tuple #[.agg cs,tmps.getD u undef]) w:=by
 rw [results_cell_tmp h,hp];simp only [asAddr,Sem.run_pure,Result.andThen_ok];rw [run_loadVar_row w g t ty cs fr d hg hu hd hi];rfl
end Go.Inc
