/- CONTRACTS: the law's bits; the document's ranks and places. -/
import Derived.Test.YtjcapiibeekfkaaRows
import Derived.Test.YtjcapiibeekfkaaRkMath
import Derived.Test.YtjcapiibeekfkaaBmD
import Derived.Lib.MinMax
import Derived.Deep.QuietTactic
import Derived.BigQuiet
namespace Go.Proofs.Ytjcapiibeekfkaa
open Go.RowKit Go.Inc

theorem bl_cell {ok : Nat → Prop} {w : World} {a : Option Addr} {m : List Bool} (h : Bl ok w a m) {i : Nat} (hi : i < m.length) : ∃ b o, a = some ⟨b, o, none⟩ ∧ w.cell? ⟨b, o + i, none⟩ = some (.bool (inB m i)) := by
  rcases h with rfl | ⟨b, o, h1, _, h3⟩
  · simp at hi
  · exact ⟨b, o, h1, h3 i hi⟩
theorem refRank_any (ok : Nat → Prop) (x : World) (a : Option Addr) (c : Nat) (m : List Bool) (one : Bool) (i : Nat) (hm : Bl ok x a m) (hi : i ≤ m.length) (hl : (m.length : Int) ≤ 9223372036854775807) :
    Calls Try.prog 13 #[.slice a m.length c, .bool one, .int .i64 (i : Int)] x fun e w' => e = .returned (.int .i64 ((rkB m one i : Nat) : Int)) ∧ x = w' := by
  have HM := hid hm
  obtain ⟨n, hn⟩ : ∃ n, n = m.length := ⟨_, rfl⟩
  have HN := hid hn
  rw [← hn] at hi hl ⊢
  have hib : (i : Int) ≤ 9223372036854775807 := by omega
  have hin : (i : Int) ≤ (n : Int) := by omega
  clear hm hn
  go_enter Try.func13, Try.ntmps13
  go_wp2_with fail
  go_loop [7, 8] (fun c k => ∃ t : Nat, t ≤ i ∧ k = .int .i64 (t : Int) ∧ c = .int .i64 ((rkB m one t : Nat) : Int)) (fun _ k => i - (intOf k).toNat)
  case atStart => exact ⟨0, Nat.zero_le _, rfl, rfl⟩
  case round =>
    obtain ⟨t, ht, rfl, rfl⟩ := hrel
    by_cases hlt : t < i
    · obtain ⟨b, o, rfl, hc⟩ := bl_cell HM.out (i := t) (by rw [← HN.out]; omega)
      have HS := hid (rkB_succ m one t)
      have hle := rkB_le m one t
      obtain ⟨r, hr⟩ : ∃ r, r = rkB m one t := ⟨_, rfl⟩
      rw [← hr] at HS hle ⊢
      have hrb : (r : Int) ≤ (t : Int) := by omega
      have htb : (t : Int) < 9223372036854775807 := by omega
      have hti : (t < i) = True := eq_true hlt
      have htn : (t : Int) < (n : Int) := by omega
      clear hr hle
      cases hv : inB m t <;> cases one
      all_goals
        rw [hv] at hc HS
        simp only [if_true, reduceCtorEq, if_false, Nat.add_zero] at HS
        go_wp2_with fail
        go_round
        case rel => exact ⟨t + 1, hlt, by go_num, by rw [HS.out] <;> go_num⟩
        case measure => simp [intOf]; omega
    · have hti : (t < i) = False := eq_false hlt
      have HT : Hid (t = i) := hid (by omega)
      clear hlt
      go_wp2_with fail
      go_ret
      exact ⟨by rw [HT.out]; rfl, rfl⟩
theorem refSelect_any (ok : Nat → Prop) (x : World) (a : Option Addr) (c : Nat) (m : List Bool) (one : Bool) (k : Int) (hm : Bl ok x a m) (hk : 0 ≤ k) (hl : (m.length : Int) ≤ 9223372036854775807) (hkb : k ≤ 9223372036854775807) :
    Calls Try.prog 14 #[.slice a m.length c, .bool one, .int .i64 k] x fun e w' => e = .returned (.int .i64 (selB m one k.toNat m.length)) ∧ x = w' := by
  obtain ⟨k, rfl⟩ := Int.eq_ofNat_of_zero_le hk
  rw [show ((k : Int)).toNat = k from rfl]
  have HM := hid hm
  obtain ⟨n, hn⟩ : ∃ n, n = m.length := ⟨_, rfl⟩
  have HN := hid hn
  rw [← hn] at hl ⊢
  clear hm hn hk
  go_enter Try.func14, Try.ntmps14
  go_wp2_with fail
  go_loop [2, 7] (fun r j => ∃ t : Nat, t ≤ n ∧ j = .int .i64 (t : Int) ∧ rkB m one t ≤ k ∧ r = .int .i64 ((k - rkB m one t : Nat) : Int)) (fun _ j => n - (intOf j).toNat)
  case atStart => exact ⟨0, Nat.zero_le _, rfl, Nat.zero_le _, by rw [rkB_zero, Nat.sub_zero]⟩
  case round =>
    obtain ⟨t, ht, rfl, hrk, rfl⟩ := hrel
    by_cases hlt : t < n
    · obtain ⟨b, o, rfl, hc⟩ := bl_cell HM.out (i := t) (by rw [← HN.out]; omega)
      have HS := hid (rkB_succ m one t)
      have HAT := hid (fun h1 h2 => selB_at (m := m) (one := one) (k := k) (i := t) (n := n) h1 h2 hlt)
      obtain ⟨r, hr⟩ : ∃ r, r = rkB m one t := ⟨_, rfl⟩
      rw [← hr] at HS hrk HAT ⊢
      obtain ⟨d, hd⟩ : ∃ d, d = k - r := ⟨_, rfl⟩
      rw [← hd]
      have hdb : (d : Int) ≤ 9223372036854775807 := by omega
      have htn : (t < n) = True := eq_true hlt
      have htb : (t : Int) < (n : Int) := by omega
      by_cases hv : inB m t = one
      · rw [if_pos hv] at HS
        have hvv : (one != one) = false := by simp
        by_cases hd0 : d = 0
        · have HA : Hid (selB m one k n = t) := hid (HAT.out hv (by omega))
          rw [hv] at hc
          subst hd0
          clear HAT hv hr hd hrk HS
          cases one
          all_goals
            go_wp2_with fail
            go_ret
            exact ⟨by rw [HA.out]; rfl, rfl⟩
        · have hd0' : ((d : Int) == 0) = false := by rw [beq_eq_false_iff_ne]; omega
          have HX : Hid (r + 1 ≤ k ∧ k - (r + 1) = d - 1) := hid ⟨by omega, by omega⟩
          have hd1 : (1 : Int) ≤ d := by omega
          rw [hv] at hc
          clear HAT hv hr hd hrk hd0
          cases one
          all_goals
            go_wp2_with fail
            go_round
            case rel => exact ⟨t + 1, hlt, by go_num, by rw [HS.out]; exact HX.out.1, by rw [HS.out, HX.out.2]; go_num⟩
            case measure => simp [intOf]; omega
      · have HS : Hid (rkB m one (t + 1) = r) := hid (by rw [HS.out, if_neg hv]; rfl)
        have HX : Hid (r ≤ k ∧ k - r = d) := hid ⟨hrk, hd.symm⟩
        cases hb : inB m t <;> cases one
        · exact absurd hb hv
        · rw [hb] at hc
          clear HAT hv hr hd hrk hb
          go_wp2_with fail
          go_round
          case rel => exact ⟨t + 1, hlt, by go_num, by rw [HS.out]; exact HX.out.1, by rw [HS.out, HX.out.2]⟩
          case measure => simp [intOf]; omega
        · rw [hb] at hc
          clear HAT hv hr hd hrk hb
          go_wp2_with fail
          go_round
          case rel => exact ⟨t + 1, hlt, by go_num, by rw [HS.out]; exact HX.out.1, by rw [HS.out, HX.out.2]⟩
          case measure => simp [intOf]; omega
        · exact absurd hb hv
    · have htn : (t < n) = False := eq_false hlt
      have HT : Hid (t = n) := hid (by omega)
      have HF : Hid (selB m one k n = -1) := hid (selB_none fun i hi h1 h2 => by
        have h3 := rkB_mono m one (show i + 1 ≤ n from hi)
        rw [rkB_succ, if_pos h1, h2] at h3
        have h4 : t = n := by omega
        rw [h4] at hrk
        omega)
      clear hlt hrk
      go_wp2_with fail
      go_ret
      exact ⟨by rw [HF.out]; rfl, rfl⟩
end Go.Proofs.Ytjcapiibeekfkaa
