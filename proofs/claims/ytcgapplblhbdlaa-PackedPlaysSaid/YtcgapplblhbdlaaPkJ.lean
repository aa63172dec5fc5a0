/- CONTRACTS: the document's answers: how many bits a number has; do numbers fit. -/
import Derived.Test.YtcgapplblhbdlaaPkI
namespace Go.Proofs.Ytcgapplblhbdlaa
open Go.RowKit Go.Inc

theorem widthZ_low {z : Int} (h0 : 0 ≤ z) (h1 : z ≤ 1) : widthZ z = 1 := by
  have : z = 0 ∨ z = 1 := by omega
  rcases this with rfl | rfl <;> decide
set_option maxRecDepth 20000 in
theorem refWidth_any (z : Int) (x : World) : Calls Try.prog 18 #[.int .i64 z] x fun e w' => e = .returned (.int .i64 (widthZ z : Int)) ∧ x = w' := by
  by_cases h1 : z < 0
  · have HW : Hid (widthZ z = 0) := hid (by unfold widthZ; rw [if_pos (.inl h1)])
    go_enter Try.func18, Try.ntmps18
    go_wp2_with fail
    go_ret
    exact ⟨ret_int (by rw [HW.out]; rfl), rfl⟩
  · by_cases h2 : 2147483647 < z
    · have HW : Hid (widthZ z = 0) := hid (by unfold widthZ; rw [if_pos (.inr h2)])
      have h1' : (z < 0) = False := eq_false h1
      clear h1
      go_enter Try.func18, Try.ntmps18
      go_wp2_with fail
      go_ret
      exact ⟨ret_int (by rw [HW.out]; rfl), rfl⟩
    · obtain ⟨m, rfl⟩ := Int.eq_ofNat_of_zero_le (by omega : 0 ≤ z)
      have HW : Hid (widthZ (m : Int) = max 1 (Lib.bitLen m)) := hid (by unfold widthZ; rw [if_neg (by omega)]; simp)
      have hm : (m : Int) ≤ 2147483647 := by omega
      have h1' : ((m : Int) < 0) = False := eq_false h1
      have h2' : ((2147483647 : Int) < (m : Int)) = False := eq_false h2
      clear h1 h2
      go_enter Try.func18, Try.ntmps18
      go_wp2_with fail
      go_loop [0, 3] (fun g k => ∃ (gn kn : Nat), g = .int .i64 (gn : Int) ∧ k = .int .i64 (kn : Int) ∧ gn ≤ m ∧ kn ≤ 40 ∧ 1 ≤ kn ∧ max 1 (Lib.bitLen m) = kn - 1 + max 1 (Lib.bitLen gn)) (fun g _ => (intOf g).toNat)
      case atStart => exact ⟨m, 1, rfl, rfl, Nat.le_refl _, by omega, Nat.le_refl _, by omega⟩
      case round =>
        obtain ⟨g, k, rfl, rfl, hg, hk, hk1, he⟩ := hrel
        have hwl := widthZ_le (m : Int)
        rw [HW.out, he] at hwl
        have HE := hid he
        have hk40 : (k : Int) ≤ 40 := by omega
        have hgm : (g : Int) ≤ 2147483647 := by omega
        by_cases h1 : (1 : Int) < g
        · have hh := Lib.bitLen_half g (by omega) (by omega)
          have hs := (bitLen_spec (g / 2) (by omega)).2 (by omega)
          obtain ⟨g2, hg2⟩ : ∃ g2, g2 = g / 2 := ⟨_, rfl⟩
          rw [← hg2] at hh hs
          have hgd : (g : Int) / 2 = (g2 : Int) := by omega
          have hgt : Int.tdiv (g : Int) 2 = (g2 : Int) := by rw [Int.tdiv_eq_ediv_of_nonneg (by omega)]; exact hgd
          have HN : Hid (g2 ≤ m ∧ k + 1 ≤ 40 ∧ max 1 (Lib.bitLen m) = k + 1 - 1 + max 1 (Lib.bitLen g2) ∧ g2 < g) := hid ⟨by omega, by omega, by omega, by omega⟩
          clear he hwl hg2 hh hs hg hk
          go_wp2_with fail
          go_round
          case rel => exact ⟨g2, k + 1, rfl, by go_num, HN.out.1, HN.out.2.1, by omega, HN.out.2.2.1⟩
          case measure => have := HN.out; simp [intOf]; omega
        · have h1' : ((1 : Int) < g) = False := eq_false h1
          have HL : Hid (max 1 (Lib.bitLen g) = 1) := hid (by
            have : g = 0 ∨ g = 1 := by omega
            rcases this with rfl | rfl <;> decide)
          have HK : Hid ((widthZ (m : Int) : Int) = (k : Int)) := hid (by rw [HW.out, he, HL.out]; omega)
          clear h1 he hwl hg hk hk1
          go_wp2_with fail
          go_ret
          exact ⟨ret_int HK.out.symm, rfl⟩
theorem allF_snoc {w : Nat} {zs : List Int} {k : Nat} (h : k < zs.length) : allF w (zs.take (k + 1)) = (allF w (zs.take k) && fitsZ w (zs.getD k 0)) := by
  unfold allF
  rw [List.take_succ_eq_append_getElem h, List.getD_eq_getElem?_getD, List.getElem?_eq_getElem h]
  simp only [List.all_append, List.all_cons, List.all_nil, Bool.and_true, Option.getD_some]
theorem allF_mono {w : Nat} {zs : List Int} {k : Nat} (h : allF w (zs.take k) = false) : allF w zs = false := by
  unfold allF at *
  rw [List.all_eq_false] at *
  obtain ⟨x, hx, h2⟩ := h
  exact ⟨x, List.mem_of_mem_take hx, h2⟩
set_option maxRecDepth 20000 in
set_option maxHeartbeats 1000000 in
theorem refFits_any (ok : Nat → Prop) (x : World) (w : Nat) (a : Option Addr) (c : Nat) (zs : List Int) (h1 : 1 ≤ w) (h2 : w ≤ 31) (hs : Si ok x a zs) (hl : (zs.length : Int) ≤ 9223372036854775807) :
    Calls Try.prog 8 #[.int .i64 (w : Int), .slice a zs.length c] x fun e w' => e = .returned (.bool (allF w zs)) ∧ x = w' := by
  have HS := hid hs
  have HW := hid (And.intro h1 h2)
  have hwb : (w : Int) ≤ 31 := by omega
  obtain ⟨n, hn⟩ : ∃ n, n = zs.length := ⟨_, rfl⟩
  have HN := hid hn
  rw [← hn] at hl ⊢
  clear hs hn h1 h2
  go_enter Try.func8, Try.ntmps8
  go_wp2_with fail
  go_loop [5] (fun i => ∃ k : Nat, k ≤ n ∧ i = .int .i64 (k : Int) ∧ allF w (zs.take k) = true) (fun i => n - (intOf i).toNat)
  case atStart => exact ⟨0, Nat.zero_le _, rfl, rfl⟩
  case round =>
    obtain ⟨k, hk, rfl, hall⟩ := hrel
    have HA := hid hall
    clear hall
    by_cases hlt : (k : Int) < n
    · obtain ⟨b0, o0, rfl, hc⟩ : ∃ b0 o0, a = some ⟨b0, o0, none⟩ ∧ x.cell? ⟨b0, o0 + k, none⟩ = some (.int .i64 (zs.getD k 0)) := by
        rcases HS.out with h | ⟨b0, o0, h, _, hc⟩
        · have := HN.out; rw [h] at this; simp at this; omega
        · exact ⟨b0, o0, h, hc k (by have := HN.out; omega)⟩
      have hsn := hid (allF_snoc (w := w) (zs := zs) (k := k) (by have := HN.out; omega))
      have hmo := hid (allF_mono (w := w) (zs := zs) (k := k + 1))
      have hkn : (k < n) = True := eq_true (by omega)
      generalize zs.getD k 0 = z at *
      have HR := hid (refWidth_any z x)
      have hfit := widthZ_fits HW.out.1 HW.out.2 z
      have hle := widthZ_le z
      obtain ⟨v, hv⟩ : ∃ v, v = widthZ z := ⟨_, rfl⟩
      rw [← hv] at HR hfit hle
      have hv31 : (v : Int) ≤ 31 := by omega
      by_cases hz : z < 0
      · have HF : Hid (allF w zs = false) := hid (hmo.out (by
          rw [hsn.out]
          have : fitsZ w z = false := by unfold fitsZ; rw [decide_eq_false_iff_not]; omega
          rw [this]; simp))
        clear hfit hle hv
        go_wp2_with fail
        go_ret
        exact ⟨ret_bool HF.out.symm, rfl⟩
      · have hz' : (z < 0) = False := eq_false hz
        by_cases hv0 : v = 0
        · have HF : Hid (allF w zs = false) := hid (hmo.out (by
            rw [hsn.out]
            have : fitsZ w z = false := by rw [← Bool.not_eq_true, ← hfit]; omega
            rw [this]; simp))
          subst hv0
          clear hfit hle hv hz
          go_wp2_with fail
          refine HR.out.mono ?_
          rintro e w1 ⟨rfl, rfl⟩
          go_wp2_with fail
          go_ret
          exact ⟨ret_bool HF.out.symm, rfl⟩
        · have hv0' : ((v : Int) == 0) = false := by rw [beq_eq_false_iff_ne]; omega
          by_cases hvw : (w : Int) < v
          · have HF : Hid (allF w zs = false) := hid (hmo.out (by
              rw [hsn.out]
              have : fitsZ w z = false := by rw [← Bool.not_eq_true, ← hfit]; omega
              rw [this]; simp))
            clear hfit hle hv hz hv0
            go_wp2_with fail
            refine HR.out.mono ?_
            rintro e w1 ⟨rfl, rfl⟩
            go_wp2_with fail
            refine HR.out.mono ?_
            rintro e w1 ⟨rfl, rfl⟩
            go_wp2_with fail
            go_ret
            exact ⟨ret_bool HF.out.symm, rfl⟩
          · have hvw' : ((w : Int) < (v : Int)) = False := eq_false hvw
            have HT : Hid (allF w (zs.take (k + 1)) = true) := hid (by
              rw [hsn.out, HA.out, hfit.1 (by omega)]; rfl)
            clear hfit hle hv hz hv0 hvw
            go_wp2_with fail
            refine HR.out.mono ?_
            rintro e w1 ⟨rfl, rfl⟩
            go_wp2_with fail
            refine HR.out.mono ?_
            rintro e w1 ⟨rfl, rfl⟩
            go_wp2_with fail
            go_round
            case rel => exact ⟨k + 1, by omega, by go_num, HT.out⟩
            case measure => simp [intOf]; omega
    · have hkn : (k < n) = False := eq_false (by omega)
      have HF : Hid (allF w zs = true) := hid (by
        have := HA.out
        rwa [List.take_of_length_le (by have := HN.out; omega)] at this)
      clear hlt
      go_wp2_with fail
      go_ret
      exact ⟨ret_bool HF.out.symm, rfl⟩
end Go.Proofs.Ytcgapplblhbdlaa
