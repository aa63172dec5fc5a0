/- MADE SMALL. -/
import Derived.Test.YtfhdojnobmfefaaGreatDoorN33
import Derived.Test.YtfhdojnobmfefaaGreatDoorN1
import Derived.Test.YtfhdojnobmfefaaGreatDoorRows
import Derived.Deep.QuietTactic
import Derived.BigQuiet
import Derived.Deep.CutRange
namespace Go.Proofs.YtfhdojnobmfefaaGreatDoor
open Go.RowKit Go.Inc
def RunsIn (B:Nat) (w:World) (v:Value) (l:List Run2):Prop:=∃ a c,v=.slice a l.length c/\l.length<=c/\c<=maxLen/\(l=[]\/∃ g,a=some ⟨g,0,none⟩/\B<=g/\∀ i,i < l.length->w.cell? ⟨g,i * 2,none⟩=some (.int .i64 ((l.getD i (0,0)).1:Int))/\w.cell? ⟨g,i * 2+1,none⟩=some (.int .i64 ((l.getD i (0,0)).2:Int)))
theorem RunsIn.below {w w':World} {B:Nat} {v:Value} {l:List Run2} (h:RunsIn B w v l) (hb:Below w.heap.size w w'):RunsIn B w' v l:=by
 obtain ⟨a,c,h1,h2,h3,h4⟩:=h
 refine ⟨a,c,h1,h2,h3,h4.imp id fun ⟨g,h5,h6,h7⟩=>⟨g,h5,h6,fun i hi=>?_⟩⟩
 have h8:=h7 i hi
 exact ⟨(hb.cell (zQp h8.1)).trans h8.1,(hb.cell (zQp h8.2)).trans h8.2⟩
end Go.Proofs.YtfhdojnobmfefaaGreatDoor
