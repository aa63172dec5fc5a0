/- MADE SMALL. -/
import Derived.Test.YtfhdojnobmfefaaGreatDoorG8
import Derived.Test.YtfhdojnobmfefaaGreatDoorG1
import Derived.ProofKit
import Derived.OpenShut
import Derived.ChangeOld
import Derived.Deep.Matrix
namespace Go.Proofs.YtfhdojnobmfefaaGreatDoor
open Go.RowKit Go.Inc
def Bs (w:World) (v:Value) (bs:List Nat):Prop:=∃ a c,v=.slice a bs.length c/\Sl (fun _=>True) w a bs/\bs.length<=c/\c<=maxLen/\(a=none->c=0)
section
variable {w w':World} {v:Value} {bs:List Nat} {E B:Nat}
theorem Bs.below (h:Bs w v bs) (hb:Below w.heap.size w w'):Bs w' v bs:=by
 obtain ⟨a,c,rfl,h1,h2⟩:=h;exact ⟨a,c,rfl,h1.below hb,h2⟩
end
end Go.Proofs.YtfhdojnobmfefaaGreatDoor
namespace Go.Proofs.YtfhdojnobmfefaaGreatDoor
open Go.RowKit Go.Inc
theorem Rd.fault {ok:Nat->Prop} {w:World} {g f:Nat} {bs:List Nat} (hr:Rd ok w g bs f) (hg:∀ b,ok b->b≠g) (f':Nat):Rd ok (w.setCell ⟨g,1,none⟩ (.int .i64 (f':Int))) g bs f':=by
 obtain ⟨a,c,hrow,hs,r⟩:=hr;exact ⟨a,c,heap_setCell_same w g 1 _ _ _ hrow,hs.grown (Aq (Aw _ _) (.inl rfl) _) hg,r⟩
theorem Rd.c1 {ok:Nat->Prop} {w:World} {g f:Nat} {bs:List Nat} (hr:Rd ok w g bs f):w.cell? ⟨g,1,none⟩=some (.int .i64 (f:Int))/\w.frozen? ⟨g,1,none⟩=false:=by
 obtain ⟨a,c,hrow,_⟩:=hr;exact ⟨cell_of_row w g 1 _ _ _ hrow,frozen_of_row w g 1 _ _ hrow⟩
theorem Vy (ok:Nat->Prop) (g k f:Nat) (bs:List Nat) (w:World) (hr:Rd ok w g bs f) (hg:∀ b,ok b->b≠g) (hk:k<=bs.length) :
  Calls Tryz.prog 209 #[.pointer (some ⟨g,0,none⟩),.int .i64 (k:Int)] w fun e w'=>∃ a' c',e=.returned (.slice a' k c')/\Sl ok w' a' (bs.take k)/\(a'=none->c'=0)/\k<=c'/\c'<=maxLen/\Rd ok w' g (bs.drop k) f/\w.grownBy w' (some g):=by
 have H:=hid (Qg ok g k f bs w hr hg hk _ rfl);clear hr hg hk
 go_enter Tryz.func209,Tryz.ntmps209
 go_wp2_with fail
 refine H.out.mono ?_;rintro e w' ⟨a',c',rfl,hs,hn,hk,hm,hr,hg⟩;have R:=hid (And.intro hs (And.intro hn (And.intro hk (And.intro hm (And.intro hr hg)))));clear hs hn hk hm hr hg H
 go_wp2_with fail
 go_ret
 exact ⟨_,_,rfl,R.out⟩
theorem XA (ok:Nat->Prop) (g f:Nat) (k:Int) (bs:List Nat) (w:World) (hr:Rd ok w g bs f) (hg:∀ b,ok b->b≠g) (hk:(bs.length:Int) < k) :
  Calls Tryz.prog 209 #[.pointer (some ⟨g,0,none⟩),.int .i64 k] w fun e w'=>e=.returned (.slice none 0 0)/\Rd ok w' g bs 4/\w.grownBy w' (some g):=by
 have H:=hid (ae ok g f k bs w hr hk);have HR:=hid (hr.fault hg 4);obtain ⟨c1,fz⟩:=hr.c1;clear hr hg hk
 go_enter Tryz.func209,Tryz.ntmps209
 go_wp2_with fail
 refine H.out.mono ?_;rintro e w' ⟨rfl,rfl⟩;clear H
 go_wp2_with fail
 go_ret
 exact ⟨rfl,HR.out,Aq (Aw _ _) (.inl rfl) _⟩
end Go.Proofs.YtfhdojnobmfefaaGreatDoor
