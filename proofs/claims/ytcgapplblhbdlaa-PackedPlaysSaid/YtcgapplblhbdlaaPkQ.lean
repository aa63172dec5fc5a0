/- CONTRACTS: an array of the width that must be; 'PackedFits' walked. -/
import Derived.Test.YtcgapplblhbdlaaPkP
namespace Go.Proofs.Ytcgapplblhbdlaa
open Go.RowKit Go.Inc

/-- The width of the first k numbers. -/
def widTo (zs : List Int) : Nat → Nat
  | 0 => 1
  | k + 1 => max (widTo zs k) (widthZ (zs.getD k 0))
theorem widTo_one (zs : List Int) : ∀ k, 1 ≤ widTo zs k
  | 0 => Nat.le_refl _
  | k + 1 => by have := widTo_one zs k; unfold widTo; omega
theorem widTo_le (zs : List Int) : ∀ k, widTo zs k ≤ 31
  | 0 => by unfold widTo; omega
  | k + 1 => by have := widTo_le zs k; have := widthZ_le (zs.getD k 0); unfold widTo; omega
theorem widTo_ge (zs : List Int) : ∀ k t, t < k → widthZ (zs.getD t 0) ≤ widTo zs k
  | 0, t, h => by omega
  | k + 1, t, h => by
    unfold widTo
    by_cases h1 : t = k
    · subst h1; omega
    · have := widTo_ge zs k t (by omega); omega
theorem allF_wid (zs : List Int) : allF (widTo zs zs.length) zs = true ↔ ∀ t, t < zs.length → widthZ (zs.getD t 0) ≠ 0 := by
  unfold allF
  rw [List.all_eq_true]
  constructor
  · intro h t ht
    have h1 := h (zs.getD t 0) (by rw [List.getD_eq_getElem?_getD, List.getElem?_eq_getElem ht]; exact List.getElem_mem ht)
    have := (widthZ_fits (widTo_one zs _) (widTo_le zs _) _).2 h1
    omega
  · intro h z hz
    obtain ⟨t, ht, rfl⟩ := List.getElem_of_mem hz
    have h1 := h t ht
    have h2 := widTo_ge zs zs.length t ht
    rw [List.getD_eq_getElem?_getD, List.getElem?_eq_getElem ht] at h1 h2
    exact (widthZ_fits (widTo_one zs _) (widTo_le zs _) _).1 ⟨by simp at h1 ⊢; omega, h2⟩
set_option maxRecDepth 20000 in
/-- Up to New. -/
theorem pkFit_up (ok : Nat → Prop) (x : World) (a : Option Addr) (c : Nat) (zs : List Int) (Q : Ending → World → Prop) (hs : Si ok x a zs) (hl : (zs.length : Int) ≤ 9223372036854775807)
    (hN : Calls Try.prog 6 #[.int .i64 (widTo zs zs.length : Nat), .slice a zs.length c] x fun e w' => ∃ p q, e = .returned (.tuple #[p, q]) ∧ ∀ e', e' = .returned (.tuple #[p, q]) → Q e' w') :
    Calls Try.prog 16 #[.slice a zs.length c] x Q := by
  have HS := hid hs
  have HN := hid hN
  obtain ⟨n, hn⟩ : ∃ n, n = zs.length := ⟨_, rfl⟩
  have HE := hid hn
  rw [← hn] at hl HN ⊢
  clear hs hn hN
  go_enter Try.func16, Try.ntmps16
  go_wp2_with fail
  go_loop [4, 9] (fun v i => ∃ k : Nat, k ≤ n ∧ i = .int .i64 (k : Int) ∧ v = .int .i64 ((widTo zs k : Nat) : Int)) (fun _ i => n - (intOf i).toNat)
  case atStart => exact ⟨0, Nat.zero_le _, rfl, rfl⟩
  case round =>
    obtain ⟨k, hk, rfl, rfl⟩ := hrel
    by_cases hlt : (k : Int) < n
    · obtain ⟨b0, o0, rfl, hc⟩ : ∃ b0 o0, a = some ⟨b0, o0, none⟩ ∧ x.cell? ⟨b0, o0 + k, none⟩ = some (.int .i64 (zs.getD k 0)) := by
        rcases HS.out with h | ⟨b0, o0, h, _, hc⟩
        · have := HE.out; rw [h] at this; simp at this; omega
        · exact ⟨b0, o0, h, hc k (by have := HE.out; omega)⟩
      have HX : Hid (widTo zs (k + 1) = max (widTo zs k) (widthZ (zs.getD k 0))) := hid rfl
      obtain ⟨z, hz⟩ : ∃ z, z = zs.getD k 0 := ⟨_, rfl⟩
      rw [← hz] at hc HX
      have HW := hid (pkWidth_any z x)
      have hb1 := widTo_le zs k
      have hb2 := widthZ_le z
      obtain ⟨u, hu⟩ : ∃ u, u = widTo zs k := ⟨_, rfl⟩
      obtain ⟨y, hy⟩ : ∃ y, y = widthZ z := ⟨_, rfl⟩
      rw [← hu] at HX hb1 ⊢
      rw [← hy] at HX HW hb2
      have hmx : max (u : Int) (y : Int) = ((max u y : Nat) : Int) := by omega
      rw [← HX.out] at hmx
      have hkn : (k < n) = True := eq_true (by omega)
      clear hz hu hy
      go_wp2_with fail
      refine HW.out.mono ?_
      rintro e w1 ⟨rfl, rfl⟩
      go_wp2_with fail
      go_round
      case rel => exact ⟨k + 1, by omega, by go_num, rfl⟩
      case measure => simp [intOf]; omega
    · have hkn : (k < n) = False := eq_false (by omega)
      have HK : Hid (k = n) := hid (by omega)
      clear hlt
      rw [HK.out, HE.out, ← HE.out]
      go_wp2_with fail
      refine HN.out.mono ?_
      rintro e w1 ⟨p, q, rfl, hq⟩
      have HQ := hid hq
      clear hq
      go_wp2_with fail
      exact HQ.out _ rfl
theorem pkFit_bad (ok : Nat → Prop) (x : World) (a : Option Addr) (c : Nat) (zs : List Int) (hs : Si ok x a zs) (hl : zs.length ≤ 9223372036854775807) (hbad : allF (widTo zs zs.length) zs = false) :
    Calls Try.prog 16 #[.slice a zs.length c] x fun e w' => e = .returned (.tuple #[.pointer none, .int .i64 10]) ∧ Below x.heap.size x w' :=
  pkFit_up ok x a c zs _ hs (by omega) ((pkNew_bad ok x _ a c zs (widTo_one zs _) (widTo_le zs _) hs hl hbad).mono fun e w' h => ⟨_, _, h.1, fun e' he => ⟨he, h.2⟩⟩)
theorem pkFit_any (ok : Nat → Prop) (x : World) (a : Option Addr) (c : Nat) (ms : List Nat) (hs : Si ok x a (nI ms)) (hl : ms.length ≤ 65536) (hfit : FitsP (widTo (nI ms) ms.length) ms) :
    Calls Try.prog 16 #[.slice a ms.length c] x fun e w' => (∃ p, e = .returned (.tuple #[p, .int .i64 0]) ∧ NewPk x w' p (widTo (nI ms) ms.length) ms) ∧ Below x.heap.size x w' := by
  have H := pkFit_up ok x a c (nI ms) (fun e w' => (∃ p, e = .returned (.tuple #[p, .int .i64 0]) ∧ NewPk x w' p (widTo (nI ms) ms.length) ms) ∧ Below x.heap.size x w') hs (by rw [nI_len]; omega)
  rw [nI_len] at H
  exact H ((pkNew_any ok x _ a c ms (widTo_one _ _) (widTo_le _ _) hs hl hfit).mono fun e w' h => by
    obtain ⟨⟨p, h1, h2⟩, h3⟩ := h
    exact ⟨_, _, h1, fun e' he => ⟨⟨p, he, h2⟩, h3⟩⟩)
end Go.Proofs.Ytcgapplblhbdlaa
