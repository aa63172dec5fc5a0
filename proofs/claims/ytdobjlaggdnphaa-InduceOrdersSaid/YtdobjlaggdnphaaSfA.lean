/- CONTRACTS: the document's Common and Less. -/
import Derived.Test.YtdobjlaggdnphaaRows
import Derived.Test.YtdobjlaggdnphaaSfMath
import Derived.Test.YtdobjlaggdnphaaNx
import Derived.Test.YtdobjlaggdnphaaBmRf
import Derived.BigRegion
namespace Go.Proofs.Ytdobjlaggdnphaa
open Go.RowKit Go.Inc
set_option maxRecDepth 20000 in
set_option maxHeartbeats 2000000 in
theorem refCommon_any (ok : Nat → Prop) (x : World) (p : Option Addr) (c : Nat) (zs : List Int) (a b : Nat) (hs : Si ok x p zs) (hl : (zs.length : Int) ≤ 65536) (ha : a < zs.length) (hb : b < zs.length) :
    Calls Try.prog 41 #[.slice p zs.length c, .int .i64 (a : Int), .int .i64 (b : Int)] x fun e w' => e = .returned (.int .i64 ((cmT zs a b : Nat) : Int)) ∧ Below x.heap.size x w' := by
  have HS := hid hs
  have HIS := hid (fun (n : Nat) h1 h2 => cmT_is (x := zs) (a := a) (b := b) (n := n) h1 h2)
  obtain ⟨n, hn⟩ : ∃ n, n = zs.length := ⟨_, rfl⟩
  have HN := hid hn
  rw [← hn] at hl ha hb HIS ⊢
  obtain ⟨pb, po, rfl, hc⟩ : ∃ pb po, p = some ⟨pb, po, none⟩ ∧ ∀ y, Below x.heap.size x y → ∀ i, i < n → y.cell? ⟨pb, po + i, none⟩ = some (.int .i64 (zs.getD i 0)) := by
    rcases HS.out with h | ⟨b, o, h, -, hc⟩
    · rw [h] at hn; simp at hn; omega
    · refine ⟨b, o, h, fun y hy i hi => ?_⟩
      have h1 := hc i (by rw [← hn]; exact hi)
      rw [World.cell?_of_block (hy.block b (cell_lt h1))]; exact h1
  have HC := hid hc
  clear hs hn hc
  go_enter Try.func41, Try.ntmps41
  go_wp2_with fail
  go_loopw [7] (fun k wr => ∃ t : Nat, k = .int .i64 (t : Int) ∧ t ≤ n ∧ (∀ i, i < t → a + i < n ∧ b + i < n ∧ zs.getD (a + i) 0 = zs.getD (b + i) 0) ∧ Below x.heap.size x wr) (fun k _ => n - (intOf k).toNat)
  case atStart => exact ⟨0, rfl, Nat.zero_le _, fun i h => by omega, Below.refl _ _⟩
  case round =>
    obtain ⟨t, rfl, htn, hi, hb2⟩ := hrel
    have HI := hid hi
    have HB := hid hb2
    have hcc := HC.out _ hb2
    clear hi hb2
    obtain ⟨u, hu⟩ : ∃ u, u = a + t := ⟨_, rfl⟩
    obtain ⟨v, hv⟩ : ∃ v, v = b + t := ⟨_, rfl⟩
    have hau : (a : Int) + (t : Int) = (u : Int) := by omega
    have hbv : (b : Int) + (t : Int) = (v : Int) := by omega
    have HU := hid hu
    have HV := hid hv
    have hub : (u : Int) ≤ 200000 := by omega
    have hvb : (v : Int) ≤ 200000 := by omega
    clear hu hv
    by_cases h1 : u < n
    · have h1t : (u < n) = True := eq_true h1
      by_cases h2 : v < n
      · have h2t : (v < n) = True := eq_true h2
        have hc1 := hcc u h1
        have hc2 := hcc v h2
        have HX : Hid (∀ z z' : Int, zs.getD u 0 = z → zs.getD v 0 = z' → zs.getD (a + t) 0 = z ∧ zs.getD (b + t) 0 = z') := hid (by rw [HU.out, HV.out]; exact fun _ _ h k => ⟨h, k⟩)
        obtain ⟨z, hz⟩ : ∃ z, z = zs.getD u 0 := ⟨_, rfl⟩
        obtain ⟨z', hz'⟩ : ∃ z', z' = zs.getD v 0 := ⟨_, rfl⟩
        have HXX := hid (HX.out z z' hz.symm hz'.symm)
        rw [← hz] at hc1
        rw [← hz'] at hc2
        have HLT : Hid (a + t < n ∧ b + t < n) := hid ⟨by rw [← HU.out]; exact h1, by rw [← HV.out]; exact h2⟩
        have htl : t + 1 ≤ n := by have := HLT.out; omega
        clear hz hz' h1 h2 hcc HX HU HV
        by_cases he : z = z'
        · subst he
          go_wp2_with fail
          go_region
          go_wp2_with fail
          go_roundw
          case rel => exact ⟨t + 1, by go_num, htl, fun i hi => (by
            by_cases e : i = t
            · subst e; exact ⟨HLT.out.1, HLT.out.2, by rw [HXX.out.1, HXX.out.2]⟩
            · exact HI.out i (by omega)), HB.out.drew⟩
          case measure => simp [intOf]; omega
        · have hbe : (z == z') = false := by rw [beq_eq_false_iff_ne]; exact he
          go_wp2_with fail
          go_region
          go_wp2_with fail
          go_ret
          exact ⟨by rw [HIS.out t HI.out (fun hh => he (by rw [← HXX.out.1, ← HXX.out.2]; exact hh.2.2))]; rfl, HB.out.drew⟩
      · have h2t : (v < n) = False := eq_false h2
        clear hcc
        go_wp2_with fail
        go_region
        go_wp2_with fail
        go_ret
        exact ⟨by rw [HIS.out t HI.out (fun hh => h2 (by rw [HV.out]; exact hh.2.1))]; rfl, HB.out.drew⟩
    · have h1t : (u < n) = False := eq_false h1
      clear hcc
      go_wp2_with fail
      go_region
      go_wp2_with fail
      go_ret
      exact ⟨by rw [HIS.out t HI.out (fun hh => h1 (by rw [HU.out]; exact hh.1))]; rfl, HB.out.drew⟩
set_option maxRecDepth 20000 in
set_option maxHeartbeats 2000000 in
theorem refLess_any (ok : Nat → Prop) (x : World) (p : Option Addr) (c : Nat) (zs : List Int) (a b : Nat) (hs : Si ok x p zs) (hr : RtL zs) (hl : (zs.length : Int) ≤ 65536) (ha : a < zs.length) (hb : b < zs.length) :
    Calls Try.prog 27 #[.slice p zs.length c, .int .i64 (a : Int), .int .i64 (b : Int)] x fun e w' => e = .returned (.bool (lsT zs a b)) ∧ Below x.heap.size x w' := by
  have HCM := hid (refCommon_any ok x p c zs a b hs hl ha hb)
  have HS := hid hs
  have HPT := hid (fun h => cmT_part (x := zs) (a := a) (b := b) hr ha hb h)
  have HAT := hid (fun h => lsT_at (x := zs) (a := a) (b := b) hr ha hb h)
  obtain ⟨n, hn⟩ : ∃ n, n = zs.length := ⟨_, rfl⟩
  rw [← hn] at hl ha hb HCM HPT ⊢
  obtain ⟨pb, po, rfl, hc⟩ : ∃ pb po, p = some ⟨pb, po, none⟩ ∧ ∀ y, Below x.heap.size x y → ∀ i, i < n → y.cell? ⟨pb, po + i, none⟩ = some (.int .i64 (zs.getD i 0)) := by
    rcases HS.out with h | ⟨b, o, h, -, hc⟩
    · rw [h] at hn; simp at hn; omega
    · refine ⟨b, o, h, fun y hy i hi => ?_⟩
      have h1 := hc i (by rw [← hn]; exact hi)
      rw [World.cell?_of_block (hy.block b (cell_lt h1))]; exact h1
  have HC := hid hc
  obtain ⟨k, hk⟩ : ∃ k, k = cmT zs a b := ⟨_, rfl⟩
  rw [← hk] at HCM HPT HAT
  clear hs hn hc hk hr
  go_enter Try.func27, Try.ntmps27
  go_wp2_with fail
  refine HCM.out.mono ?_
  rintro e w1 ⟨rfl, hb1⟩
  have HB := hid hb1
  have hcc := HC.out _ hb1
  clear HCM hb1
  by_cases hab : a = b
  · subst hab
    have hbe : ((a : Int) != (a : Int)) = false := by rw [bne_self_eq_false]
    have HE := hid (lsT_irrefl zs a)
    clear hcc HPT HAT
    go_wp2_with fail
    go_region
    go_wp2_with fail
    go_ret
    exact ⟨by rw [HE.out]; rfl, HB.out.drew⟩
  · have hbe : ((a : Int) != (b : Int)) = true := by rw [bne_iff_ne]; omega
    have hp := HPT.out hab
    have HA := hid (HAT.out hab)
    obtain ⟨u, hu⟩ : ∃ u, u = a + k := ⟨_, rfl⟩
    obtain ⟨v, hv⟩ : ∃ v, v = b + k := ⟨_, rfl⟩
    have hau : (a : Int) + (k : Int) = (u : Int) := by omega
    have hbv : (b : Int) + (k : Int) = (v : Int) := by omega
    rw [← hu, ← hv] at hp HA
    obtain ⟨h1, h2⟩ := hp
    have h1t : (u < n) = True := eq_true h1
    have h2t : (v < n) = True := eq_true h2
    have hc1 := hcc u h1
    have hc2 := hcc v h2
    have hkb : (k : Int) ≤ 65536 := by omega
    clear hcc HPT HAT hu hv h1 h2
    go_wp2_with fail
    go_region
    go_wp2_with fail
    go_ret
    exact ⟨by rw [HA.out]; rfl, HB.out.drew⟩
end Go.Proofs.Ytdobjlaggdnphaa

