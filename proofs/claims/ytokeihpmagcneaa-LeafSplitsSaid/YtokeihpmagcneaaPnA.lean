/- CONTRACTS: a key, less, an entry that is wrong; is one of them wrong. -/
import Derived.Test.YtokeihpmagcneaaNdP
import Derived.Deep.CutBlock
namespace Go.Proofs.Ytokeihpmagcneaa
open Go.RowKit Go.Inc

set_option maxRecDepth 20000 in
set_option maxHeartbeats 2000000 in
theorem right_any (s n : Int) (w : World) : Calls Try.prog 20 #[.agg #[.int .i64 s, .int .i64 n]] w fun e w' => e = .returned (.bool (okK (s, n))) ∧ Below w.heap.size w w' := by
  obtain ⟨O, hO⟩ : ∃ O, O = okK (s, n) := ⟨_, rfl⟩
  rw [← hO]
  have HO := hid hO
  have hbad : ¬ (0 ≤ s ∧ s < 16 ∧ 0 ≤ n ∧ n < 65536) → O = false := fun h => by
    rw [HO.out]; exact Bool.eq_false_iff.2 fun hh => h (okK_iff.1 hh)
  have HBAD := hid hbad
  clear hbad hO
  by_cases h1 : (0 : Int) ≤ s
  · have d1 : decide ((0 : Int) ≤ s) = true := decide_eq_true h1
    by_cases h2 : s ≤ 15
    · have d2 : decide (s ≤ 15) = true := decide_eq_true h2
      by_cases h3 : (0 : Int) ≤ n
      · have d3 : decide ((0 : Int) ≤ n) = true := decide_eq_true h3
        by_cases h4 : n ≤ 65535
        · have d4 : decide (n ≤ 65535) = true := decide_eq_true h4
          have hT : O = true := by rw [HO.out]; exact okK_iff.2 ⟨h1, by simp only; omega, h3, by simp only; omega⟩
          subst hT
          clear h1 h2 h3 h4
          go_enter Try.func20, Try.ntmps20
          go_wp2_with fail
          go_ret
          exact ⟨rfl, allocBelow w _⟩
        · have d4 : decide (n ≤ 65535) = false := decide_eq_false h4
          have hF : O = false := HBAD.out fun hh => h4 (by omega)
          subst hF
          clear h1 h2 h3 h4
          go_enter Try.func20, Try.ntmps20
          go_wp2_with fail
          go_ret
          exact ⟨rfl, allocBelow w _⟩
      · have d3 : decide ((0 : Int) ≤ n) = false := decide_eq_false h3
        have hF : O = false := HBAD.out fun hh => h3 hh.2.2.1
        subst hF
        clear h1 h2 h3
        go_enter Try.func20, Try.ntmps20
        go_wp2_with fail
        go_ret
        exact ⟨rfl, allocBelow w _⟩
    · have d2 : decide (s ≤ 15) = false := decide_eq_false h2
      have hF : O = false := HBAD.out fun hh => h2 (by omega)
      subst hF
      clear h1 h2
      go_enter Try.func20, Try.ntmps20
      go_wp2_with fail
      go_ret
      exact ⟨rfl, allocBelow w _⟩
  · have d1 : decide ((0 : Int) ≤ s) = false := decide_eq_false h1
    have hF : O = false := HBAD.out fun hh => h1 hh.1
    subst hF
    clear h1
    go_enter Try.func20, Try.ntmps20
    go_wp2_with fail
    go_ret
    exact ⟨rfl, allocBelow w _⟩
set_option maxRecDepth 20000 in
set_option maxHeartbeats 2000000 in
theorem less_any (s z s' z' : Int) (w : World) : Calls Try.prog 23 #[.agg #[.int .i64 s, .int .i64 z], .agg #[.int .i64 s', .int .i64 z']] w fun e w' => e = .returned (.bool (lessK (s, z) (s', z'))) ∧ Below w.heap.size w w' := by
  obtain ⟨O, hO⟩ : ∃ O, O = lessK (s, z) (s', z') := ⟨_, rfl⟩
  have HO := hid hO
  rw [← hO]
  unfold lessK at hO
  simp only at hO
  by_cases hs : s = s'
  · subst hs
    have hE : O = decide (z < z') := by rw [hO]; simp
    have HE := hid hE
    clear hO hE HO
    go_enter Try.func23, Try.ntmps23
    go_wp2_with fail
    go_ret
    exact ⟨by rw [HE.out]; rfl, ((Below.refl _ _).alloc (Nat.le_refl _) _).alloc (by simp) _⟩
  · have hE : O = decide (s < s') := by rw [hO, decide_eq_false hs]; simp
    have HE := hid hE
    have hs1 : (s == s') = false := beq_eq_false_iff_ne.2 hs
    have hs2 : (s = s') = False := eq_false hs
    clear hO hE HO
    go_enter Try.func23, Try.ntmps23
    go_wp2_with fail
    go_ret
    exact ⟨by rw [HE.out]; rfl, ((Below.refl _ _).alloc (Nat.le_refl _) _).alloc (by simp) _⟩
set_option maxRecDepth 20000 in
set_option maxHeartbeats 2000000 in
theorem isWrong_any (s n p : Int) (w : World) : Calls Try.prog 34 #[.agg #[.int .i64 s, .int .i64 n, .int .i64 p]] w fun e w' => e = .returned (.bool (!okE ((s, n), p))) ∧ Below w.heap.size w w' := by
  obtain ⟨O, hO⟩ : ∃ O, O = okE ((s, n), p) := ⟨_, rfl⟩
  have HO := hid hO
  rw [← hO]
  obtain ⟨w0, hw0⟩ : ∃ w0, w0 = w.alloc (.cells #[.int .i64 s, .int .i64 n, .int .i64 p] 57) := ⟨_, rfl⟩
  have HW0 := hid hw0
  have HB0 : Hid (Below w.heap.size w w0) := hid (by rw [hw0]; exact allocBelow w _)
  obtain ⟨g, hg⟩ : ∃ g, g = w.heap.size := ⟨_, rfl⟩
  have HG := hid hg
  have HX0 : Hid (w0.heap[g]? = some (.cells #[.int .i64 s, .int .i64 n, .int .i64 p] 57 (0, 0))) := hid (by rw [hw0, hg]; exact heap_alloc_new w _)
  have HR := hid (right_any s n w0)
  obtain ⟨K, hK⟩ : ∃ K, K = okK (s, n) := ⟨_, rfl⟩
  rw [← hK] at HR
  have hOK : O = (K && decide (1 < p) && decide (p < 2048)) := by rw [hO, hK]; rfl
  have HOK := hid hOK
  clear hO hw0 hg hK hOK
  go_enter Try.func34, Try.ntmps34
  go_upto_region 1 with fail
  rw [← HW0.out, ← HG.out]
  have hc0 : w0.cell? ⟨g, 0, none⟩ = some (.int .i64 s) := by rw [cell_of_row _ _ _ _ _ _ HX0.out]; rfl
  have hc1 : w0.cell? ⟨g, 1, none⟩ = some (.int .i64 n) := by rw [cell_of_row _ _ _ _ _ _ HX0.out]; rfl
  go_wp2_with fail
  refine HR.out.mono ?_
  rintro e w1 ⟨rfl, hb1⟩
  have HB1 : Hid (Below w.heap.size w w1) := hid (HB0.out.trans (hb1.mono HB0.out.size))
  have hx1 := row_below HX0.out hb1
  have hc2 : w1.cell? ⟨g, 2, none⟩ = some (.int .i64 p) := by rw [cell_of_row _ _ _ _ _ _ hx1]; rfl
  clear hc0 hc1 hb1 hx1 HR HW0 HB0 HX0
  cases K with
  | false =>
    have HF : Hid (O = false) := hid HOK.out
    go_wp2_with fail
    go_ret
    exact ⟨by rw [HF.out]; rfl, HB1.out⟩
  | true =>
    by_cases h1 : p < 2
    · have d1 : decide (p < 2) = true := decide_eq_true h1
      have HF : Hid (O = false) := hid (by rw [HOK.out, decide_eq_false (show ¬ 1 < p by omega)]; rfl)
      clear h1
      go_wp2_with fail
      go_ret
      exact ⟨by rw [HF.out]; rfl, HB1.out⟩
    · have d1 : decide (p < 2) = false := decide_eq_false h1
      by_cases h2 : (2048 : Int) ≤ p
      · have d2 : decide ((2048 : Int) ≤ p) = true := decide_eq_true h2
        have HF : Hid (O = false) := hid (by rw [HOK.out, decide_eq_false (show ¬ p < 2048 by omega)]; simp)
        clear h1 h2
        go_wp2_with fail
        go_ret
        exact ⟨by rw [HF.out]; rfl, HB1.out⟩
      · have d2 : decide ((2048 : Int) ≤ p) = false := decide_eq_false h2
        have HF : Hid (O = true) := hid (by rw [HOK.out, decide_eq_true (show p < 2048 by omega), decide_eq_true (show 1 < p by omega)]; rfl)
        clear h1 h2
        go_wp2_with fail
        go_ret
        exact ⟨by rw [HF.out]; rfl, HB1.out⟩
theorem badN_snoc {es : List Et} {k : Nat} (h : k < es.length) : badN (es.take (k + 1)) = (badN (es.take k) || !okE (es.getD k et0)) := by
  unfold badN
  rw [takeSnoc (d := et0) h, List.any_append]
  simp
theorem badN_mono {es : List Et} {k : Nat} (h : badN (es.take k) = true) : badN es = true := by
  unfold badN at *
  rw [List.any_eq_true] at *
  obtain ⟨x, hx, h2⟩ := h
  exact ⟨x, List.mem_of_mem_take hx, h2⟩
set_option maxRecDepth 20000 in
set_option maxHeartbeats 2000000 in
theorem indexW_any (ok : Nat → Prop) (a : Option Addr) (c : Nat) (es : List Et) (w : World) (hs : EtS ok w a es) (hl : (es.length : Int) ≤ 1000000) :
    Calls Try.prog 47 #[.slice a es.length c, .func (Fn.func 34) #[] #[]] w fun e w' => (∃ r : Int, e = .returned (.int .i64 r) ∧ decide (0 ≤ r) = badN es) ∧ Below w.heap.size w w' := by
  have HS := hid hs.old
  obtain ⟨n, hn⟩ : ∃ n, n = es.length := ⟨_, rfl⟩
  have HN := hid hn
  rw [← hn] at hl ⊢
  clear hs hn
  go_enter Try.func47, Try.ntmps47
  go_wp2_with fail
  go_loopw [8] (fun i wr => ∃ k : Nat, k ≤ n ∧ i = .int .i64 (k : Int) ∧ badN (es.take k) = false ∧ Below w.heap.size w wr) (fun i _ => n - (intOf i).toNat)
  case atStart => exact ⟨0, Nat.zero_le _, rfl, rfl, Below.refl _ _⟩
  case round =>
    obtain ⟨k, hk, rfl, hnb, hb⟩ := hrel
    have HNB := hid hnb
    have HB := hid hb
    clear hnb hb
    by_cases hlt : (k : Int) < n
    · have hkn : (k < n) = True := eq_true (by omega)
      obtain ⟨b, o, rfl, hx1, hx2, hx3⟩ := (HS.out.below HB.out).cell (i := k) (by have := HN.out; omega)
      have hsn := badN_snoc (es := es) (k := k) (by have := HN.out; omega)
      have HM := hid (badN_mono (es := es) (k := k + 1))
      obtain ⟨⟨⟨s, z⟩, p⟩, hx⟩ : ∃ x, x = es.getD k et0 := ⟨_, rfl⟩
      rw [← hx] at hx1 hx2 hx3 hsn
      simp only at hx1 hx2 hx3
      have HSN := hid hsn
      have HR := hid (isWrong_any s z p wr)
      obtain ⟨O, hO⟩ : ∃ O, O = okE ((s, z), p) := ⟨_, rfl⟩
      rw [← hO] at HR HSN
      clear hx hO hsn
      go_wp2_with fail
      refine HR.out.mono ?_
      clear HR
      rintro e w1 ⟨rfl, hb1⟩
      have HB1 : Hid (Below w.heap.size w w1) := hid (HB.out.trans (hb1.mono HB.out.size))
      clear hb1 hx1 hx2 hx3 HB
      cases O with
      | false =>
        have HBAD : Hid (badN es = true) := hid (HM.out (by rw [HSN.out]; simp))
        go_wp2_with fail
        go_ret
        refine ⟨⟨_, rfl, ?_⟩, HB1.out⟩
        rw [HBAD.out]
        simp
      | true =>
        have HGD : Hid (badN (es.take (k + 1)) = false) := hid (by rw [HSN.out, HNB.out]; rfl)
        go_wp2_with fail
        go_roundw
        case rel => exact ⟨k + 1, by omega, by go_num, HGD.out, HB1.out⟩
        case measure => simp [intOf]; omega
    · have hkf : (k < n) = False := eq_false (by omega)
      have HBF : Hid (badN es = false) := hid (by have h := HNB.out; rw [show k = n by omega, HN.out, List.take_length] at h; exact h)
      clear hlt
      go_wp2_with fail
      go_ret
      refine ⟨⟨-1, rfl, ?_⟩, HB.out⟩
      rw [HBF.out]; decide
set_option maxRecDepth 20000 in
theorem containsW_any (ok : Nat → Prop) (a : Option Addr) (n c : Nat) (es : List Et) (w : World) (hs : EtS ok w a es) (hn : n = es.length) (hl : (n : Int) ≤ 1000000) :
    Calls Try.prog 33 #[.slice a n c, .func (Fn.func 34) #[] #[]] w fun e w' => e = .returned (.bool (badN es)) ∧ Below w.heap.size w w' := by
  subst hn
  have H := hid (indexW_any ok a c es w hs hl)
  clear hs hl
  go_enter Try.func33, Try.ntmps33
  go_wp2_with fail
  refine H.out.mono ?_
  rintro e w' ⟨⟨r, rfl, hr⟩, hb⟩
  have HR := hid hr
  have HB := hid hb
  clear hr hb
  go_wp2_with fail
  go_ret
  exact ⟨ret_bool HR.out, HB.out⟩
end Go.Proofs.Ytokeihpmagcneaa
