/- MADE SMALL. -/
import Derived.Test.YtfhdojnobmfefaaGreatDoorK31
import Derived.Test.YtfhdojnobmfefaaGreatDoorK1
import Derived.Test.YtfhdojnobmfefaaGreatDoorRows
import Derived.Deep.QuietTactic
import Derived.BigQuiet
import Derived.Deep.CutRange
namespace Go.Proofs.YtfhdojnobmfefaaGreatDoor
open Go.RowKit Go.Inc
def D6 (m:List Bool):List Int:=(AO (inB m) m.length).map fun x:Nat=>(x:Int)
def Ints (B:Nat) (w:World) (v:Value) (zs:List Int):Prop:=∃ a c,v=.slice a zs.length c/\zs.length<=c/\c<=maxLen/\Si (fun b=>B<=b) w a zs
theorem Ints.of {w:World} {B n:Nat} {v:Value} {m:List Bool} {e:TypeId} (h:w.ownsRow B e 1 v n (Ce (AO (inB m) m.length))):Ints B w v (D6 m):=by
 obtain ⟨a,c,h1,_,_,h2,h3,h4⟩:=Si.ownedN h;exact ⟨a,c,by rw [h1];unfold D6;rw [List.length_map],by unfold D6;rw [List.length_map];exact h2,h3,h4⟩
theorem Nr (ok:Nat->Prop) (v:Value) (m:List Bool) (w:World) (h:Bm ok w v m) (ht:Tab w) :
  Calls Tryz.prog 69 #[v] w fun e w'=>(∃ x,e=.returned x/\Ints w.heap.size w' x (D6 m))/\Below w.heap.size w w':=
 (Ui ok v m w h ht).mono fun _ _ ⟨⟨x,h1,h2⟩,hb⟩=>⟨⟨x,h1,Ints.of h2⟩,hb⟩
end Go.Proofs.YtfhdojnobmfefaaGreatDoor
