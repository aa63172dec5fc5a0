/- THE LAW AllocNil: the walk. -/
import Derived.Test.YtjgnnofpilmgoaaDoorAlN
import Derived.Test.YtjgnnofpilmgoaaDoorAlG
namespace Go.Proofs.YtjgnnofpilmgoaaDoor
open Go.RowKit Go.Inc

set_option maxHeartbeats 4000000 in
theorem allocNil_walk (n : Int) (v : Value) (w : World) (ht : Tab w) : Calls Tryd.prog 6 #[.int .i64 n, v] w fun e w' => e = .returned (.bool true) ∧ Below w.heap.size w w' := by
  have HT := hid ht
  have H1 := hid (take_nil n w)
  clear ht
  go_enter Tryd.func6, Tryd.ntmps6
  go_wp2_with fail
  refine H1.out.mono ?_
  clear H1
  rintro e w1 ⟨rfl, hb1⟩
  have HB1 := hid hb1
  have HT1 : Hid (Tab w1) := hid (HT.out.below hb1)
  clear hb1
  go_wp2_with fail
  refine (sets_nil w1).mono ?_
  rintro e w2 ⟨rfl, rfl⟩
  go_wp2_with fail
  refine (known_any w1 HT1.out).mono ?_
  rintro e w3 ⟨rfl, hb3⟩
  have HB3 : Hid (Below w.heap.size w w3) := hid (HB1.out.trans (hb3.mono HB1.out.size))
  clear hb3 HB1 HT1
  go_wp2_with fail
  refine (give_nil v w3).mono ?_
  rintro e w4 ⟨rfl, rfl⟩
  go_wp2_with fail
  refine (adopt_nil v w3).mono ?_
  rintro e w4 ⟨rfl, rfl⟩
  go_wp2_with fail
  refine (commit_nil w3).mono ?_
  rintro e w4 ⟨rfl, rfl⟩
  go_wp2_with fail
  refine (abort_nil w3).mono ?_
  rintro e w4 ⟨rfl, rfl⟩
  go_wp2_with fail
  refine (allocFree_nil w3).mono ?_
  rintro e w4 ⟨rfl, rfl⟩
  go_wp2_with fail
  refine (kind_nil n w3).mono ?_
  rintro e w4 ⟨rfl, rfl⟩
  go_wp2_with fail
  refine (pages_nil w3).mono ?_
  rintro e w4 ⟨rfl, rfl⟩
  go_wp2_with fail
  refine (allocSame_nil w3).mono ?_
  rintro e w4 ⟨rfl, rfl⟩
  go_wp2_with fail
  go_ret
  exact ⟨rfl, HB3.out⟩
end Go.Proofs.YtjgnnofpilmgoaaDoor
