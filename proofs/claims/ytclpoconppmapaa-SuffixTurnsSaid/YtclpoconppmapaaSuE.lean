/- CONTRACTS (suffix, as it landed): two lists compared; Less. -/
import Derived.Test.YtclpoconppmapaaSuD
import Derived.BigQuiet
namespace Go.Inc
open Go.RowKit
def cmpI (a b : Int) : Int := if a < b then -1 else if b < a then 1 else 0
/-- Two lists, compared. -/
def cmpV (A B : List Int) : Int := if ltL A B = true then -1 else if ltL B A = true then 1 else 0
theorem cmpV_lt (A B : List Int) : decide (cmpV A B < 0) = ltL A B := by
  unfold cmpV
  cases ltL A B
  · cases ltL B A <;> rfl
  · rfl
/-- What is alike at the front doesn't count. -/
theorem ltL_from : ∀ {A B : List Int} {k : Nat}, k ≤ A.length → k ≤ B.length → (∀ j, j < k → A.getD j 0 = B.getD j 0) → ltL A B = ltL (A.drop k) (B.drop k)
  | _, _, 0, _, _, _ => rfl
  | [], _, k + 1, h, _, _ => by simp at h
  | _ :: _, [], k + 1, _, h, _ => by simp at h
  | a :: A, b :: B, k + 1, h1, h2, h3 => by
    have e : a = b := h3 0 (by omega)
    subst e
    have ih := ltL_from (A := A) (B := B) (k := k) (by simpa using h1) (by simpa using h2) (fun j hj => h3 (j + 1) (by omega))
    show (decide (a < a) || (decide (a = a) && ltL A B)) = ltL (A.drop k) (B.drop k)
    rw [ih]; simp
theorem cmpV_from {A B : List Int} {k : Nat} (h1 : k ≤ A.length) (h2 : k ≤ B.length) (h3 : ∀ j, j < k → A.getD j 0 = B.getD j 0) : cmpV A B = cmpV (A.drop k) (B.drop k) := by
  unfold cmpV
  rw [ltL_from h1 h2 h3, ltL_from h2 h1 (fun j hj => (h3 j hj).symm)]
theorem cmpV_ends {A B : List Int} {k : Nat} (h1 : k ≤ A.length) (h2 : k ≤ B.length) (h3 : ∀ j, j < k → A.getD j 0 = B.getD j 0) :
    (k = A.length → k < B.length → cmpV A B = -1) ∧ (k = A.length → k = B.length → cmpV A B = 0) ∧ (k < A.length → k = B.length → cmpV A B = 1) ∧
    (k < A.length → k < B.length → A.getD k 0 ≠ B.getD k 0 → cmpV A B = cmpI (A.getD k 0) (B.getD k 0)) := by
  rw [cmpV_from h1 h2 h3]
  refine ⟨fun h4 h5 => ?_, fun h4 h5 => ?_, fun h4 h5 => ?_, fun h4 h5 h6 => ?_⟩
  · rw [List.drop_of_length_le (by omega), drop_atU h5]; rfl
  · rw [List.drop_of_length_le (by omega), List.drop_of_length_le (by omega)]; rfl
  · rw [drop_atU h4, List.drop_of_length_le (l := B) (by omega)]; rfl
  · rw [drop_atU h4, drop_atU h5]
    generalize A.getD k 0 = z at *
    generalize B.getD k 0 = z' at *
    unfold cmpV cmpI
    by_cases h7 : z < z'
    · rw [if_pos (by rw [ltL_cons]; exact .inl h7), if_pos h7]
    · rw [if_neg (by rw [ltL_cons]; rintro (h | ⟨h, -⟩) <;> omega), if_pos (by rw [ltL_cons]; exact .inl (by omega)), if_neg h7, if_pos (by omega)]
end Go.Inc
namespace Go.Proofs.Ytclpoconppmapaa
open Go.RowKit Go.Inc
theorem isNaN_any (a : Int) (w : World) : Calls Try.prog 46 #[.int .i64 a] w fun x w' => x = .returned (.bool false) ∧ w = w' := by
  go_enter Try.func46, Try.ntmps46
  go_wp2_with fail
  go_ret
  exact ⟨by simp, rfl⟩
theorem compare_any (a b : Int) (w : World) : Calls Try.prog 35 #[.int .i64 a, .int .i64 b] w fun x w' => x = .returned (.int .i64 (cmpI a b)) ∧ w = w' := by
  have hc : (a < b ∧ cmpI a b = -1) ∨ (b < a ∧ ¬ a < b ∧ cmpI a b = 1) ∨ (¬ a < b ∧ ¬ b < a ∧ cmpI a b = 0) := by
    unfold cmpI
    by_cases h : a < b
    · exact .inl ⟨h, if_pos h⟩
    · by_cases h2 : b < a
      · exact .inr (.inl ⟨h2, h, by rw [if_neg h, if_pos h2]⟩)
      · exact .inr (.inr ⟨h, h2, by rw [if_neg h, if_neg h2]⟩)
  generalize cmpI a b = q at *
  rcases hc with ⟨h1, h⟩ | ⟨h1, h2, h⟩ | ⟨h1, h2, h⟩
  all_goals
    have HQ := hid h
    clear h
    go_enter Try.func35, Try.ntmps35
    go_wp2_with fail
    refine (isNaN_any a w).mono ?_
    rintro x w2 ⟨rfl, rfl⟩
    go_wp2_with fail
    refine (isNaN_any b w).mono ?_
    rintro x w2 ⟨rfl, rfl⟩
    go_wp2_with fail
    go_ret
    exact ⟨by rw [HQ.out]; rfl, rfl⟩
set_option maxRecDepth 20000 in
set_option maxHeartbeats 1500000 in
theorem compareL_any (ok ok' : Nat → Prop) (w : World) (a a' : Option Addr) (c c' : Nat) (A B : List Int) (hs : Si ok w a A) (hs' : Si ok' w a' B) (hl : (A.length : Int) ≤ 65536) :
    Calls Try.prog 32 #[.slice a A.length c, .slice a' B.length c'] w fun e w' => e = .returned (.int .i64 (cmpV A B)) ∧ w = w' := by
  have HS := hid hs
  have HS' := hid hs'
  have HE := hid (fun (k : Nat) h1 h2 h3 => cmpV_ends (A := A) (B := B) (k := k) h1 h2 h3)
  obtain ⟨n, hn⟩ : ∃ n, n = A.length := ⟨_, rfl⟩
  obtain ⟨m, hm⟩ : ∃ m, m = B.length := ⟨_, rfl⟩
  have HN := hid hn
  have HM := hid hm
  rw [← hn] at hl HE ⊢
  rw [← hm] at HE ⊢
  clear hs hs' hn hm
  go_enter Try.func32, Try.ntmps32
  go_wp2_with fail
  go_loop [11] (fun i => ∃ k : Nat, k ≤ n ∧ k ≤ m ∧ i = .int .i64 (k : Int) ∧ ∀ j, j < k → A.getD j 0 = B.getD j 0) (fun i => n - (intOf i).toNat)
  case atStart => exact ⟨0, Nat.zero_le _, Nat.zero_le _, rfl, fun j h => by omega⟩
  case round =>
    obtain ⟨k, hk, hkm, rfl, hj⟩ := hrel
    have HJ := hid hj
    have HX := hid (HE.out k hk hkm hj)
    clear hj
    by_cases hlt : k < n
    · have hkn : (k < n) = True := eq_true hlt
      obtain ⟨b, o, rfl, hck⟩ := siCell HS.out (k := k) (by have := HN.out; omega)
      by_cases hlt2 : k < m
      · have hkm2 : (m ≤ k) = False := eq_false (by omega)
        have hkmi : (k : Int) < (m : Int) := by omega
        obtain ⟨b', o', rfl, hck'⟩ := siCell HS'.out (k := k) (by have := HM.out; omega)
        have HX4 := hid (HX.out.2.2.2 hlt hlt2)
        have HSN : Hid (A.getD k 0 = B.getD k 0 → ∀ j, j < k + 1 → A.getD j 0 = B.getD j 0) := hid (fun h j hj => by
          by_cases e : j = k
          · rw [e]; exact h
          · exact HJ.out j (by omega))
        generalize A.getD k 0 = z at *
        generalize B.getD k 0 = z' at *
        have HC := hid (compare_any z z' w)
        have HL1 := hid hlt
        have HL2 := hid hlt2
        by_cases hzz : z = z'
        · have hq : cmpI z z' = 0 := by unfold cmpI; rw [if_neg (by omega), if_neg (by omega)]
          rw [hq] at HC
          have HSS := hid (HSN.out hzz)
          clear hq hzz HX HX4 HSN hlt hlt2
          go_wp2_with fail
          refine HC.out.mono ?_
          rintro e w2 ⟨rfl, rfl⟩
          go_wp2_with fail
          go_round
          case rel => exact ⟨k + 1, by have := HL1.out; omega, by have := HL2.out; omega, by go_num, HSS.out⟩
          case measure => simp [intOf]; have := HL1.out; omega
        · have hq : cmpI z z' ≠ 0 := by unfold cmpI; split; omega; split; omega; omega
          have HXX := hid (HX4.out hzz)
          obtain ⟨q, hqq⟩ : ∃ q, q = cmpI z z' := ⟨_, rfl⟩
          rw [← hqq] at HC HXX hq
          have hqb : (q != 0) = true := by rw [bne_iff_ne]; exact hq
          clear hqq hq hzz HX HX4 HSN hlt hlt2
          go_wp2_with fail
          refine HC.out.mono ?_
          rintro e w2 ⟨rfl, rfl⟩
          go_wp2_with fail
          go_ret
          exact ⟨by rw [HXX.out]; rfl, rfl⟩
      · have hkm2 : (m ≤ k) = True := eq_true (by omega)
        have HXX := hid (HX.out.2.2.1 hlt (by omega))
        generalize A.getD k 0 = z at *
        clear HX hlt hlt2
        go_wp2_with fail
        go_ret
        exact ⟨by rw [HXX.out]; rfl, rfl⟩
    · have hkn : (k < n) = False := eq_false hlt
      by_cases hnm : n < m
      · have HXX := hid (HX.out.1 (by omega) (by omega))
        have hnmt : (n < m) = True := eq_true hnm
        clear HX hlt hnm
        go_wp2_with fail
        go_ret
        exact ⟨by rw [HXX.out]; rfl, rfl⟩
      · have HXX := hid (HX.out.2.1 (by omega) (by omega))
        have hnmt : (n < m) = False := eq_false hnm
        clear HX hlt hnm
        go_wp2_with fail
        go_ret
        exact ⟨by rw [HXX.out]; rfl, rfl⟩
end Go.Proofs.Ytclpoconppmapaa
