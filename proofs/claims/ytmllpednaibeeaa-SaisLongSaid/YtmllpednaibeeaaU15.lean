/- CONTRACT: how many bits a number has (math/bits, as the program's translation holds it), and how many bytes. -/
import Derived.Test.YtmllpednaibeeaaRows
import Derived.Test.YtmllpednaibeeaaU14
import Derived.Lib.BitFns
import Derived.Lib.Strings
import Derived.Lib.Slices
import Derived.Lib.Small
import Derived.Lib.Walk
namespace Go.Proofs.Ytmllpednaibeeaa

/-- Of one way through the halvings: what the table tells of the highest byte, and s more. -/
theorem len_way {x y : Int} (s : Nat) (h0 : 0 ≤ x) (h1 : x ≤ 9223372036854775807) (hs : s ≤ 56) (hy : y = ((x.toNat / 2 ^ s : Nat) : Int)) (hb : y < 256) (hx : 2 ^ s ≤ x.toNat) :
    ((s : Int) + ((Lib.len8 (y % 256) + 9223372036854775808) % 18446744073709551616 - 9223372036854775808) + 9223372036854775808) % 18446744073709551616 - 9223372036854775808 = ((Lib.bitLen x.toNat : Nat) : Int) := by
  have hy0 : 0 ≤ y := by rw [hy]; exact Int.natCast_nonneg _
  have e : y % 256 = y := by omega
  rw [e, Lib.len8_int y (by omega) (by omega), Lib.bitLen_shift s x.toNat hx (by omega)]
  have h8 := Lib.bitLen_le8' y (by omega) (by omega)
  have ey : y.toNat = x.toNat / 2 ^ s := by omega
  rw [ey] at h8 ⊢
  omega

set_option maxHeartbeats 4000000 in
set_option maxRecDepth 100000 in
theorem len64_any (x : Int) (w : World) (h0 : 0 ≤ x) (h1 : x ≤ 9223372036854775807) :
    Calls Try.prog 57 #[.int .u64 x] w fun e w' => e = .returned (.int .i64 (Lib.bitLen x.toNat : Nat)) ∧ w = w' := by
  go_enter Try.func57, Try.ntmps57
  go_wp2
  all_goals
    go_ret
    refine ⟨congrArg Ending.returned (congrArg (Value.int IntKind.i64) ?_), rfl⟩
  · exact len_way 56 h0 h1 (by decide) (by omega) (by omega) (by omega)
  · exact len_way 48 h0 h1 (by decide) (by omega) (by omega) (by omega)
  · exact len_way 40 h0 h1 (by decide) (by omega) (by omega) (by omega)
  · exact len_way 32 h0 h1 (by decide) (by omega) (by omega) (by omega)
  · exact len_way 24 h0 h1 (by decide) (by omega) (by omega) (by omega)
  · exact len_way 16 h0 h1 (by decide) (by omega) (by omega) (by omega)
  · exact len_way 8 h0 h1 (by decide) (by omega) (by omega) (by omega)
  · have e : x % 256 = x := by omega
    rw [e]
    exact Lib.len8_int x (by omega) (by omega)

theorem len_any (x : Int) (w : World) (h0 : 0 ≤ x) (h1 : x ≤ 9223372036854775807) :
    Calls Try.prog 37 #[.int .u64 x] w fun e w' => e = .returned (.int .i64 (Lib.bitLen x.toNat : Nat)) ∧ w = w' := by
  have H := len64_any x w h0 h1
  go_enter Try.func37, Try.ntmps37
  go_wp2_with fail
  refine H.mono ?_
  rintro e w' ⟨rfl, rfl⟩
  go_wp2_with fail
  go_ret
  exact ⟨rfl, rfl⟩
end Go.Proofs.Ytmllpednaibeeaa
