/- THE CHAPTER'S EXAMPLE; THE WALK OF 'RankTells', over the program's contracts. -/
import Derived.Test.YtjcapiibeekfkaaRkQ
namespace Go.Inc
open Go.RowKit
theorem cells3 (w : World) (a b c : Int) (T : TypeId) : Si (fun q => q = w.heap.size) (w.alloc (.cells #[.int .i64 a, .int .i64 b, .int .i64 c] T)) (some ⟨w.heap.size, 0, none⟩) [a, b, c] :=
  .inr ⟨_, _, rfl, rfl, fun i hi => by
    have h0 := fun j => cell_of_row (w.alloc (.cells #[.int .i64 a, .int .i64 b, .int .i64 c] T)) w.heap.size j _ _ _ (heap_alloc_new w _)
    match i, hi with
    | 0, _ => rw [h0]; rfl
    | 1, _ => rw [h0]; rfl
    | 2, _ => rw [h0]; rfl
    | i + 3, hi => simp only [List.length_cons, List.length_nil] at hi; omega⟩
theorem rk_known : ofE 10 [2, 3, 9] = 0 ∧ rkE (onesB 10 [2, 3, 9] 3) 9 = 0 ∧ rkB (onesB 10 [2, 3, 9] 3) true 9 = 2 ∧ slE (onesB 10 [2, 3, 9] 3) true 2 = 0 ∧ selB (onesB 10 [2, 3, 9] 3) true 2 10 = 9 ∧ slE (onesB 10 [2, 3, 9] 3) false 2 = 0 ∧ selB (onesB 10 [2, 3, 9] 3) false 2 10 = 4 := by
  refine ⟨by decide, by decide, by decide, by decide, by decide, by decide, by decide⟩
theorem slE_cases (m : List Bool) (one : Bool) (k : Int) : (slE m one k = 7 ∧ (k < 0 ∨ 0 ≤ k ∧ selB m one k.toNat m.length = -1)) ∨ (slE m one k = 0 ∧ 0 ≤ k ∧ ∃ j : Nat, selB m one k.toNat m.length = j) := by
  unfold slE
  by_cases h0 : 0 ≤ k
  · obtain ⟨k, rfl⟩ := Int.eq_ofNat_of_zero_le h0
    rw [show ((k : Int)).toNat = k from rfl]
    rcases selB_cases m one k m.length with h | ⟨j, hj, h, h1, h2⟩
    · left
      refine ⟨if_neg fun hh => ?_, .inr ⟨h0, h⟩⟩
      obtain ⟨i, hi, h1, h2⟩ := selB_some (m := m) (one := one) (k := k) (n := m.length) (by omega)
      have h3 := selB_at h1 h2 hi
      rw [h] at h3; omega
    · right
      refine ⟨if_pos ⟨h0, ?_⟩, h0, j, h⟩
      have h3 := rkB_mono m one (show j + 1 ≤ m.length from hj)
      rw [rkB_succ, if_pos h1, h2] at h3
      omega
  · exact .inl ⟨if_neg fun hh => h0 hh.1, .inl (by omega)⟩
end Go.Inc
namespace Go.Proofs.Ytjcapiibeekfkaa
open Go.RowKit Go.Inc
set_option maxRecDepth 20000 in
set_option maxHeartbeats 2000000 in
/-- The chapter's example. -/
theorem known_any {Rk : World → Nat → List Bool → (Nat → Prop) → Prop} (pr : PR Rk) (x : World) :
    Calls Try.prog 15 #[] x fun e w' => e = .returned (.bool true) ∧ Below x.heap.size x w' := by
  obtain ⟨m, hm⟩ : ∃ m, m = onesB 10 [2, 3, 9] 3 := ⟨_, rfl⟩
  have hf := rk_known
  have hml : m.length = 10 := by rw [hm]; decide
  obtain ⟨x0, hx0⟩ : ∃ x0, x0 = x.alloc (.cells #[.int .i64 2, .int .i64 3, .int .i64 9] 3) := ⟨_, rfl⟩
  have hof := pr.pOf _ x0 (some ⟨x.heap.size, 0, none⟩) 3 10 [2, 3, 9] (by rw [hx0]; exact cells3 x 2 3 9 3) (by decide) (by decide) (by decide) hf.1
  have hb0 : Below x.heap.size x x0 := by rw [hx0]; exact (Below.refl _ _).alloc (Nat.le_refl _) _
  rw [show onesB (10 : Int).toNat [2, 3, 9] ([2, 3, 9] : List Int).length = m from hm.symm] at hof
  rw [← hm] at hf
  have HOF := hid hof
  have HF := hid hf
  have HML := hid hml
  have HB0 := hid hb0
  have HX0 := hid hx0
  clear hm hf hml hx0 hof hb0
  go_enter Try.func15, Try.ntmps15
  go_wp2_with fail
  rw [← HX0.out]
  refine HOF.out.mono ?_
  rintro e y1 ⟨b, S, rfl, hr, hs, hb⟩
  have HG : Hid (∀ i, S i → x.heap.size ≤ i) := hid fun i hi => Nat.le_trans HB0.out.size (hs i hi)
  have HB1 := hid (HB0.out.trans (hb.mono HB0.out.size))
  have HK := hid (Kp.start hr)
  clear hr hs hb HOF HX0 HB0
  go_wp2_with fail
  refine (pr.pRank _ _ _ _ _ _ HK.out.rk (by decide)).mono ?_
  rintro e y2 ⟨z, S2, rfl, hz, k2⟩
  have HK2 := hid (HK.out.trans k2)
  rw [HF.out.2.1]
  obtain rfl : z = 2 := by rw [hz HF.out.2.1]; show ((rkB m true 9 : Nat) : Int) = 2; rw [HF.out.2.2.1]; rfl
  clear hz k2 HK
  go_wp2_with fail
  refine (pr.pSelect _ _ _ _ _ _ HK2.out.rk (by decide)).mono ?_
  rintro e y3 ⟨z, S3, rfl, hz, k3⟩
  have HK3 := hid (HK2.out.trans k3)
  rw [HF.out.2.2.2.1]
  obtain rfl : z = 9 := by rw [hz HF.out.2.2.2.1, HML.out]; exact HF.out.2.2.2.2.1
  clear hz k3 HK2
  go_wp2_with fail
  refine (pr.pSelect _ _ _ _ _ _ HK3.out.rk (by decide)).mono ?_
  rintro e y4 ⟨z, S4, rfl, hz, k4⟩
  have HK4 := hid (HK3.out.trans k4)
  rw [HF.out.2.2.2.2.2.1]
  obtain rfl : z = 4 := by rw [hz HF.out.2.2.2.2.2.1, HML.out]; exact HF.out.2.2.2.2.2.2
  clear hz k4 HK3 HF HML
  go_wp2_with fail
  go_ret
  exact ⟨rfl, HK4.out.belowW HB1.out HG.out⟩
set_option maxRecDepth 20000 in
set_option maxHeartbeats 4000000 in
/-- RankTells. -/
theorem rankTells_walk {Rk : World → Nat → List Bool → (Nat → Prop) → Prop} (pr : PR Rk) (W : World) (a : Option Addr) (c : Nat) (bs : List Nat) (n : Int) (one : Bool) (i k : Int) (hs : Sl (fun _ => True) W a bs) (hby : Bytes bs) (hl : (bs.length : Int) ≤ 9223372036854775807) (hi : i64z i) (hk : i64z k) :
    Calls Try.prog 3 #[.slice a bs.length c, .int .i64 n, .bool one, .int .i64 i, .int .i64 k] W fun e w' => e = .returned (.bool true) ∧ Below W.heap.size W w' := by
  have HBITS := hid (bits_any _ W a c bs n hs hby hl)
  have HI := hid hi
  have HKI := hid hk
  have hi2 := hi.2
  have hi1 := hi.1
  have hk1 := hk.1
  have hk2 := hk.2
  clear hs hby hi hk
  go_enter Try.func3, Try.ntmps3
  go_wp2_with fail
  refine HBITS.out.mono ?_
  rintro e y1 ⟨m, g, rfl, hm12, hrow, hb1⟩
  obtain ⟨a1, c1, hv, -, -, -, -, hbl⟩ := Bl.owned hrow
  simp only [Value.slice.injEq] at hv
  obtain ⟨rfl, -, rfl⟩ := hv
  have HBL : Hid (Bl (fun i => i < y1.heap.size) y1 (some ⟨g, 0, none⟩) m) := hid (hbl.mono fun _ _ h => h)
  have HB1 := hid hb1
  obtain ⟨nm, hnm⟩ : ∃ nm, nm = m.length := ⟨_, rfl⟩
  have HN := hid hnm
  have hm12' : (nm : Int) ≤ 1200 := by omega
  have HNEW := hid (pr.pNew _ y1 _ m.length m HBL.out (by omega))
  rw [← hnm] at HNEW ⊢
  have HBW : Hid (W.heap.size ≤ y1.heap.size) := hid hb1.size
  clear hrow hb1 hbl HBITS hm12 hnm
  go_wp2_with fail
  refine HNEW.out.mono ?_
  rintro e y2 ⟨b, S, rfl, hr, hs, hb2⟩
  have HG : Hid (∀ i, S i → y1.heap.size ≤ i) := hid hs
  have HB2 := hid (HB1.out.trans (hb2.mono HB1.out.size))
  have HBL2 := hid (HBL.out.below hb2)
  have HA : Hid (∀ i, i < y1.heap.size → ¬ S i) := hid fun i hi hh => absurd (hs i hh) (by omega)
  have htl := tells_any pr _ y2 b m S (some ⟨g, 0, none⟩) nm hr HBL2.out HA.out
  rw [← HN.out] at htl
  have HTL := hid htl
  clear hr hs hb2 HNEW HBL HB1 htl
  go_wp2_with fail
  refine HTL.out.mono ?_
  rintro e y3 ⟨S3, rfl, k3⟩
  have HK3 := hid k3
  clear k3 HTL
  go_wp2_with fail
  refine (pr.pAt _ _ _ _ _ HK3.out.rk HI.out).mono ?_
  rintro e y4 ⟨v, S4, rfl, hv, k4⟩
  have HK4 := hid (HK3.out.trans k4)
  have HV := hid hv
  obtain ⟨ea, hea⟩ : ∃ ea, ea = atE m i := ⟨_, rfl⟩
  have HEA := hid hea
  rw [← hea] at HV ⊢
  clear k4 hv HK3 hea
  go_wp2_with fail
  refine (pr.pRank _ _ _ _ _ _ HK4.out.rk HI.out).mono ?_
  rintro e y5 ⟨rz, S5, rfl, hv, k5⟩
  have HK5 := hid (HK4.out.trans k5)
  have HRZ := hid hv
  obtain ⟨er, her⟩ : ∃ er, er = rkE m i := ⟨_, rfl⟩
  have HER := hid her
  rw [← her] at HRZ ⊢
  clear k5 hv HK4 her
  go_wp2_with fail
  refine (pr.pSelect _ _ _ _ _ _ HK5.out.rk HKI.out).mono ?_
  rintro e y6 ⟨sz, S6, rfl, hv, k6⟩
  have HK6 := hid (HK5.out.trans k6)
  have HSZ := hid hv
  obtain ⟨es, hes⟩ : ∃ es, es = slE m one k := ⟨_, rfl⟩
  have HES := hid hes
  rw [← hes] at HSZ ⊢
  have HBL6 := hid (HK6.out.held_bl HBL2.out HA.out)
  have HBY := hid (HK6.out.belowW HB2.out fun i hi => Nat.le_trans HBW.out (HG.out i hi))
  have hslc := slE_cases m one k
  rw [← hes, ← HN.out] at hslc
  rw [← HN.out] at HSZ
  have HSL := hid hslc
  have HKN := hid (known_any pr y6)
  have HLN : Hid ((m.length : Int) ≤ 9223372036854775807) := hid (by rw [← HN.out]; omega)
  clear k6 hv HK5 hes HK6 HBL2 HB2 HG HA hslc HES HI HKI
  by_cases h0 : i < 0
  · have e1 : ea = 10 := by rw [HEA.out]; unfold atE; exact if_neg (by omega)
    have e2 : er = 10 := by rw [HER.out]; unfold rkE; exact if_neg (by omega)
    subst e1 e2
    clear HV HRZ HEA HER
    rcases HSL.out with ⟨hes7, hk⟩ | ⟨hes0, hk, j, hj⟩
    · rw [hes7]
      rcases hk with hk | ⟨hk, hsel⟩
      · have hk0 : (0 ≤ k) = False := eq_false (by omega)
        clear HSL
        go_wp2_with fail
        refine HKN.out.mono ?_
        rintro e y7 ⟨rfl, hb7⟩
        have HB7 := hid (HBY.out.trans (hb7.mono HBY.out.size))
        clear hb7
        go_wp2_with fail
        go_ret
        exact ⟨rfl, HB7.out⟩
      · have hrs := refSelect_any _ y6 (some ⟨g, 0, none⟩) nm m one k HBL6.out hk HLN.out hk2
        rw [← HN.out, hsel] at hrs
        have HRS := hid hrs
        have hk0 : (0 ≤ k) = True := eq_true hk
        clear HSL hrs hsel
        go_wp2_with fail
        refine HRS.out.mono ?_
        rintro e y6 ⟨rfl, rfl⟩
        clear HRS
        go_wp2_with fail
        refine HKN.out.mono ?_
        rintro e y7 ⟨rfl, hb7⟩
        have HB7 := hid (HBY.out.trans (hb7.mono HBY.out.size))
        clear hb7
        go_wp2_with fail
        go_ret
        exact ⟨rfl, HB7.out⟩
    · rw [hes0]
      have hsz := HSZ.out hes0
      rw [hj] at hsz
      subst hsz
      have hrs := refSelect_any _ y6 (some ⟨g, 0, none⟩) nm m one k HBL6.out hk HLN.out hk2
      rw [← HN.out, hj] at hrs
      have HRS := hid hrs
      have hk0 : (0 ≤ k) = True := eq_true hk
      clear HSL HSZ hrs hj
      go_wp2_with fail
      refine HRS.out.mono ?_
      rintro e y6 ⟨rfl, rfl⟩
      clear HRS
      go_wp2_with fail
      refine HKN.out.mono ?_
      rintro e y7 ⟨rfl, hb7⟩
      have HB7 := hid (HBY.out.trans (hb7.mono HBY.out.size))
      clear hb7
      go_wp2_with fail
      go_ret
      exact ⟨rfl, HB7.out⟩
  · obtain ⟨p, rfl⟩ := Int.eq_ofNat_of_zero_le (Int.not_lt.1 h0)
    rw [show ((p : Int)).toNat = p from rfl] at HV HRZ
    have hp0 : ¬ (p : Int) < 0 := h0
    by_cases h1 : p ≤ nm
    · have e2 : er = 0 := by rw [HER.out]; unfold rkE; exact if_pos (by rw [← HN.out]; omega)
      have hrz := HRZ.out e2
      subst e2 hrz
      have hrr := refRank_any _ y6 (some ⟨g, 0, none⟩) nm m one p HBL6.out (by rw [← HN.out]; exact h1) HLN.out
      rw [← HN.out] at hrr
      have HRR := hid hrr
      clear hrr HRZ
      by_cases h2 : p < nm
      · have e1 : ea = 0 := by rw [HEA.out]; unfold atE; exact if_pos (by rw [← HN.out]; omega)
        have hv := HV.out e1
        subst e1 hv
        obtain ⟨b', o', hbo, hc⟩ := bl_cell HBL6.out (i := p) (by rw [← HN.out]; exact h2)
        cases hbo
        rw [Nat.zero_add] at hc
        have hpn : (p : Int) < nm := by omega
        have hpn2 : (p < nm) = True := eq_true h2
        clear HV HEA HER h0
        go_wp2_with fail
        refine HRR.out.mono ?_
        rintro e y6 ⟨rfl, rfl⟩
        clear HRR
        rcases HSL.out with ⟨hes7, hk⟩ | ⟨hes0, hk, j, hj⟩
        · rw [hes7]
          rcases hk with hk | ⟨hk, hsel⟩
          · have hk0 : (0 ≤ k) = False := eq_false (by omega)
            clear HSL
            go_wp2_with fail
            refine HKN.out.mono ?_
            rintro e y7 ⟨rfl, hb7⟩
            have HB7 := hid (HBY.out.trans (hb7.mono HBY.out.size))
            clear hb7
            go_wp2_with fail
            go_ret
            exact ⟨rfl, HB7.out⟩
          · have hrs := refSelect_any _ y6 (some ⟨g, 0, none⟩) nm m one k HBL6.out hk HLN.out hk2
            rw [← HN.out, hsel] at hrs
            have HRS := hid hrs
            have hk0 : (0 ≤ k) = True := eq_true hk
            clear HSL hrs hsel
            go_wp2_with fail
            refine HRS.out.mono ?_
            rintro e y6 ⟨rfl, rfl⟩
            clear HRS
            go_wp2_with fail
            refine HKN.out.mono ?_
            rintro e y7 ⟨rfl, hb7⟩
            have HB7 := hid (HBY.out.trans (hb7.mono HBY.out.size))
            clear hb7
            go_wp2_with fail
            go_ret
            exact ⟨rfl, HB7.out⟩
        · rw [hes0]
          have hsz := HSZ.out hes0
          rw [hj] at hsz
          subst hsz
          have hrs := refSelect_any _ y6 (some ⟨g, 0, none⟩) nm m one k HBL6.out hk HLN.out hk2
          rw [← HN.out, hj] at hrs
          have HRS := hid hrs
          have hk0 : (0 ≤ k) = True := eq_true hk
          clear HSL HSZ hrs hj
          go_wp2_with fail
          refine HRS.out.mono ?_
          rintro e y6 ⟨rfl, rfl⟩
          clear HRS
          go_wp2_with fail
          refine HKN.out.mono ?_
          rintro e y7 ⟨rfl, hb7⟩
          have HB7 := hid (HBY.out.trans (hb7.mono HBY.out.size))
          clear hb7
          go_wp2_with fail
          go_ret
          exact ⟨rfl, HB7.out⟩
      · have hpn : nm = p := by omega
        subst hpn
        have e1 : ea = 10 := by rw [HEA.out]; unfold atE; exact if_neg (by rw [← HN.out]; omega)
        subst e1
        clear HV HEA HER h0 h1 h2
        go_wp2_with fail
        refine HRR.out.mono ?_
        rintro e y6 ⟨rfl, rfl⟩
        clear HRR
        rcases HSL.out with ⟨hes7, hk⟩ | ⟨hes0, hk, j, hj⟩
        · rw [hes7]
          rcases hk with hk | ⟨hk, hsel⟩
          · have hk0 : (0 ≤ k) = False := eq_false (by omega)
            clear HSL
            go_wp2_with fail
            refine HKN.out.mono ?_
            rintro e y7 ⟨rfl, hb7⟩
            have HB7 := hid (HBY.out.trans (hb7.mono HBY.out.size))
            clear hb7
            go_wp2_with fail
            go_ret
            exact ⟨rfl, HB7.out⟩
          · have hrs := refSelect_any _ y6 (some ⟨g, 0, none⟩) nm m one k HBL6.out hk HLN.out hk2
            rw [← HN.out, hsel] at hrs
            have HRS := hid hrs
            have hk0 : (0 ≤ k) = True := eq_true hk
            clear HSL hrs hsel
            go_wp2_with fail
            refine HRS.out.mono ?_
            rintro e y6 ⟨rfl, rfl⟩
            clear HRS
            go_wp2_with fail
            refine HKN.out.mono ?_
            rintro e y7 ⟨rfl, hb7⟩
            have HB7 := hid (HBY.out.trans (hb7.mono HBY.out.size))
            clear hb7
            go_wp2_with fail
            go_ret
            exact ⟨rfl, HB7.out⟩
        · rw [hes0]
          have hsz := HSZ.out hes0
          rw [hj] at hsz
          subst hsz
          have hrs := refSelect_any _ y6 (some ⟨g, 0, none⟩) nm m one k HBL6.out hk HLN.out hk2
          rw [← HN.out, hj] at hrs
          have HRS := hid hrs
          have hk0 : (0 ≤ k) = True := eq_true hk
          clear HSL HSZ hrs hj
          go_wp2_with fail
          refine HRS.out.mono ?_
          rintro e y6 ⟨rfl, rfl⟩
          clear HRS
          go_wp2_with fail
          refine HKN.out.mono ?_
          rintro e y7 ⟨rfl, hb7⟩
          have HB7 := hid (HBY.out.trans (hb7.mono HBY.out.size))
          clear hb7
          go_wp2_with fail
          go_ret
          exact ⟨rfl, HB7.out⟩
    · have e1 : ea = 10 := by rw [HEA.out]; unfold atE; exact if_neg (by rw [← HN.out]; omega)
      have e2 : er = 10 := by rw [HER.out]; unfold rkE; exact if_neg (by rw [← HN.out]; omega)
      subst e1 e2
      have hpn : (nm : Int) < p := by omega
      have hpn2 : ¬ (p : Int) < nm := by omega
      have hpn3 : (nm : Int) ≤ p := by omega
      clear HV HRZ HEA HER h0 h1
      rcases HSL.out with ⟨hes7, hk⟩ | ⟨hes0, hk, j, hj⟩
      · rw [hes7]
        rcases hk with hk | ⟨hk, hsel⟩
        · have hk0 : (0 ≤ k) = False := eq_false (by omega)
          clear HSL
          go_wp2_with fail
          refine HKN.out.mono ?_
          rintro e y7 ⟨rfl, hb7⟩
          have HB7 := hid (HBY.out.trans (hb7.mono HBY.out.size))
          clear hb7
          go_wp2_with fail
          go_ret
          exact ⟨rfl, HB7.out⟩
        · have hrs := refSelect_any _ y6 (some ⟨g, 0, none⟩) nm m one k HBL6.out hk HLN.out hk2
          rw [← HN.out, hsel] at hrs
          have HRS := hid hrs
          have hk0 : (0 ≤ k) = True := eq_true hk
          clear HSL hrs hsel
          go_wp2_with fail
          refine HRS.out.mono ?_
          rintro e y6 ⟨rfl, rfl⟩
          clear HRS
          go_wp2_with fail
          refine HKN.out.mono ?_
          rintro e y7 ⟨rfl, hb7⟩
          have HB7 := hid (HBY.out.trans (hb7.mono HBY.out.size))
          clear hb7
          go_wp2_with fail
          go_ret
          exact ⟨rfl, HB7.out⟩
      · rw [hes0]
        have hsz := HSZ.out hes0
        rw [hj] at hsz
        subst hsz
        have hrs := refSelect_any _ y6 (some ⟨g, 0, none⟩) nm m one k HBL6.out hk HLN.out hk2
        rw [← HN.out, hj] at hrs
        have HRS := hid hrs
        have hk0 : (0 ≤ k) = True := eq_true hk
        clear HSL HSZ hrs hj
        go_wp2_with fail
        refine HRS.out.mono ?_
        rintro e y6 ⟨rfl, rfl⟩
        clear HRS
        go_wp2_with fail
        refine HKN.out.mono ?_
        rintro e y7 ⟨rfl, hb7⟩
        have HB7 := hid (HBY.out.trans (hb7.mono HBY.out.size))
        clear hb7
        go_wp2_with fail
        go_ret
        exact ⟨rfl, HB7.out⟩
end Go.Proofs.Ytjcapiibeekfkaa
