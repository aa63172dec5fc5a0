/- CONTRACTS: how many bits of a word are 1 (math/bits.OnesCount64). -/
import Derived.Test.YtjcapiibeekfkaaBmD
import Derived.Laws.CopyOwn
import Derived.Deep.OwnRows
import Derived.Shelf.Spec.TrailingZeros
import Derived.Test.YtjcapiibeekfkaaBmPop
namespace Go.Proofs.Ytjcapiibeekfkaa
open Go.RowKit Go.Inc

theorem u64_in {n : Int} (h0 : 0 ≤ n) (h1 : n < 18446744073709551616) : IntKind.u64.wrap n = n := by rw [IntKind.wrap_u64]; omega
theorem u64_andI {x y r : Nat} {p q : Int} (hx : x < 18446744073709551616) (hy : y < 18446744073709551616) (hp : p = (x : Int)) (hq : q = (y : Int)) (hr : r = x &&& y) : bits .and .u64 p q = (r : Int) := by
  subst hp hq hr
  exact u64_and_nat x y hx hy
theorem i64_and127 (n : Nat) (h : n < 9223372036854775808) : bits .and .i64 (n : Int) 127 = ((n % 128 : Nat) : Int) := by
  have e : ∀ k : Nat, k < 9223372036854775808 → (BitVec.ofInt 64 (k : Int)).toNat = k := fun k hk => by
    rw [BitVec.ofInt_natCast, BitVec.toNat_ofNat]; exact Nat.mod_eq_of_lt (by omega)
  show IntKind.i64.wrap ((BitVec.ofInt 64 (n : Int) &&& BitVec.ofInt 64 ((127 : Nat) : Int)).toNat : Int) = _
  rw [BitVec.toNat_and, e n h, e 127 (by decide), Nat.and_two_pow_sub_one_eq_mod n 7, IntKind.wrap_i64]
  omega
set_option maxRecDepth 20000 in
set_option maxHeartbeats 1000000 in
theorem ones_any (x : Nat) (w : World) (hx : x < 18446744073709551616) :
    Calls Try.prog 54 #[.int .u64 (x : Int)] w fun e w' => e = .returned (.int .i64 ((popN x 64 : Nat) : Int)) ∧ w = w' := by
  obtain ⟨z, hz, hz60, hl1, hl2, hsum, hle⟩ := pop_sum x hx
  unfold t3 t2 t1 at hz
  unfold t1 at hl1
  unfold t2 t1 at hl2
  obtain ⟨a, ha⟩ : ∃ a, a = x / 2 &&& 6148914691236517205 := ⟨_, rfl⟩
  obtain ⟨b, hb⟩ : ∃ b, b = x &&& 6148914691236517205 := ⟨_, rfl⟩
  rw [← ha, ← hb] at hz hl1 hl2
  obtain ⟨c, hc⟩ : ∃ c, c = a + b := ⟨_, rfl⟩
  rw [← hc] at hz hl1 hl2
  obtain ⟨d, hd⟩ : ∃ d, d = c / 4 &&& 3689348814741910323 := ⟨_, rfl⟩
  obtain ⟨e, he⟩ : ∃ e, e = c &&& 3689348814741910323 := ⟨_, rfl⟩
  rw [← hd, ← he] at hz hl2
  obtain ⟨f, hf⟩ : ∃ f, f = d + e := ⟨_, rfl⟩
  rw [← hf] at hz hl2
  obtain ⟨g, hg⟩ : ∃ g, g = f / 16 + f := ⟨_, rfl⟩
  rw [← hg] at hz
  have h1 : bits .and .u64 ((x : Int) / 2) 6148914691236517205 = (a : Int) := u64_andI (x := x / 2) (by omega) (by decide) (by omega) rfl ha
  have h2 : bits .and .u64 (x : Int) 6148914691236517205 = (b : Int) := u64_andI hx (by decide) rfl rfl hb
  have h3 : IntKind.u64.wrap ((a : Int) + b) = (c : Int) := by rw [u64_in (by omega) (by omega)]; omega
  have h4 : bits .and .u64 ((c : Int) / 4) 3689348814741910323 = (d : Int) := u64_andI (x := c / 4) (by omega) (by decide) (by omega) rfl hd
  have h5 : bits .and .u64 (c : Int) 3689348814741910323 = (e : Int) := u64_andI hl1 (by decide) rfl rfl he
  have h6 : IntKind.u64.wrap ((d : Int) + e) = (f : Int) := by rw [u64_in (by omega) (by omega)]; omega
  have h7 : IntKind.u64.wrap ((f : Int) / 16 + f) = (g : Int) := by rw [u64_in (by omega) (by omega)]; omega
  have h8 : bits .and .u64 (g : Int) 1085102592571150095 = (z : Int) := u64_andI (x := g) (by omega) (by decide) rfl rfl hz
  obtain ⟨y, hy⟩ : ∃ y, y = z + z / 256 := ⟨_, rfl⟩
  obtain ⟨u, hu⟩ : ∃ u, u = y + y / 65536 := ⟨_, rfl⟩
  obtain ⟨t, ht⟩ : ∃ t, t = u + u / 4294967296 := ⟨_, rfl⟩
  rw [← hy, ← hu, ← ht] at hsum
  have p60 : (2 : Nat) ^ 60 = 1152921504606846976 := by decide
  rw [p60] at hz60
  have h9 : IntKind.u64.wrap ((z : Int) + (z : Int) / 256) = (y : Int) := by rw [u64_in (by omega) (by omega)]; omega
  have h10 : IntKind.u64.wrap ((y : Int) + (y : Int) / 65536) = (u : Int) := by rw [u64_in (by omega) (by omega)]; omega
  have h11 : IntKind.u64.wrap ((u : Int) + (u : Int) / 4294967296) = (t : Int) := by rw [u64_in (by omega) (by omega)]; omega
  have htl : t < 9223372036854775808 := by omega
  have h12 : bits .and .i64 (t : Int) 127 = ((popN x 64 : Nat) : Int) := by rw [i64_and127 t htl, hsum]
  have h13 : IntKind.i64.wrap (t : Int) = (t : Int) := by rw [IntKind.wrap_i64]; omega
  generalize popN x 64 = pp at *
  clear hz hz60 hl1 hl2 hsum ha hb hc hd he hf hg hy hu ht p60 htl hx
  go_enter Try.func54, Try.ntmps54
  go_wp2_with fail
  go_ret
  exact ⟨rfl, rfl⟩
end Go.Proofs.Ytjcapiibeekfkaa

