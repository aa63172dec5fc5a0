/- THE WALK OF 'RankHolds', over the program's contracts. -/
import Derived.Test.YtjcapiibeekfkaaRkR
namespace Go.Proofs.Ytjcapiibeekfkaa
open Go.RowKit Go.Inc
set_option maxRecDepth 20000 in
set_option maxHeartbeats 4000000 in
/-- RankHolds. -/
theorem rankHolds_walk {Rk : World → Nat → List Bool → (Nat → Prop) → Prop} (pr : PR Rk) (W : World) (a : Option Addr) (c : Nat) (bs : List Nat) (n : Int) (hs : Sl (fun _ => True) W a bs) (hby : Bytes bs) (hl : (bs.length : Int) ≤ 9223372036854775807) :
    Calls Try.prog 6 #[.slice a bs.length c, .int .i64 n] W fun e w' => e = .returned (.bool true) ∧ Below W.heap.size W w' := by
  have HBITS := hid (bits_any _ W a c bs n hs hby hl)
  clear hs hby
  go_enter Try.func6, Try.ntmps6
  go_wp2_with fail
  refine HBITS.out.mono ?_
  rintro e y1 ⟨m, g, rfl, hm12, hrow, hb1⟩
  obtain ⟨a1, c1, hv, -, -, -, -, hbl⟩ := Bl.owned hrow
  simp only [Value.slice.injEq] at hv
  obtain ⟨rfl, -, rfl⟩ := hv
  have HB1 := hid hb1
  obtain ⟨nm, hnm⟩ : ∃ nm, nm = m.length := ⟨_, rfl⟩
  have HN := hid hnm
  have hm12' : (nm : Int) ≤ 1200 := by omega
  have HNEW := hid (pr.pNew _ y1 _ m.length m hbl (by omega))
  rw [← hnm] at HNEW ⊢
  clear hrow hb1 hbl HBITS hm12 hnm
  go_wp2_with fail
  refine HNEW.out.mono ?_
  rintro e y2 ⟨b, S, rfl, hr, hs, hb2⟩
  have HB2 := hid (HB1.out.trans (hb2.mono HB1.out.size))
  have HG : Hid (∀ i, S i → W.heap.size ≤ i) := hid fun i hi => Nat.le_trans HB1.out.size (hs i hi)
  have HK0 := hid (Kp.start hr)
  clear hr hs hb2 HNEW HB1
  go_wp2_with fail
  go_loopw [8] (fun i wr => ∃ (t : Nat) (S1 : Nat → Prop), t ≤ nm ∧ i = .int .i64 (t : Int) ∧ Kp Rk y2 wr b m S S1) (fun i _ => nm - (intOf i).toNat)
  case atStart => exact ⟨0, S, Nat.zero_le _, rfl, HK0.out⟩
  case round =>
    clear HK0
    obtain ⟨t, S1, ht, rfl, hk⟩ := hrel
    have HK := hid hk
    clear hk
    by_cases hlt : (t : Int) < nm
    · have HTL : Hid (t < nm) := hid (by omega)
      have htn : (t < nm) = True := eq_true HTL.out
      have htb : (t : Int) < 1200 := by omega
      have HE0 : Hid (atE m (t : Int) = 0 ∧ rkE m (t : Int) = 0 ∧ rkE m ((t : Int) + 1) = 0) := hid (by
        unfold atE rkE
        rw [← HN.out]
        have := HTL.out
        exact ⟨if_pos (by omega), if_pos (by omega), if_pos (by omega)⟩)
      have hzt : i64z (t : Int) := ⟨by omega, by omega⟩
      have hzt1 : i64z ((t : Int) + 1) := ⟨by omega, by omega⟩
      have HZT := hid hzt
      have HZT1 := hid hzt1
      clear hlt hzt hzt1
      go_wp2_with fail
      refine (pr.pAt _ _ _ _ _ HK.out.rk HZT.out).mono ?_
      rintro e y3 ⟨v, S3, rfl, hv, k3⟩
      have HK3 := hid (HK.out.trans k3)
      have hv := hv HE0.out.1
      rw [show ((t : Int)).toNat = t from rfl] at hv
      rw [HE0.out.1]
      clear k3 HK
      go_wp2_with fail
      refine (pr.pRank _ _ _ _ _ _ HK3.out.rk HZT.out).mono ?_
      rintro e y4 ⟨z, S4, rfl, hz, k4⟩
      have HK4 := hid (HK3.out.trans k4)
      have hz := hz HE0.out.2.1
      rw [show ((t : Int)).toNat = t from rfl] at hz
      rw [HE0.out.2.1]
      subst hz
      clear k4 HK3
      go_wp2_with fail
      refine (pr.pRank _ _ _ _ _ _ HK4.out.rk HZT1.out).mono ?_
      rintro e y5 ⟨z, S5, rfl, hz, k5⟩
      have HK5 := hid (HK4.out.trans k5)
      have hz := hz HE0.out.2.2
      rw [show ((t : Int) + 1).toNat = t + 1 from rfl] at hz
      rw [HE0.out.2.2]
      subst hz
      clear k5 HK4
      go_wp2_with fail
      refine (pr.pRank _ _ _ _ _ _ HK5.out.rk HZT.out).mono ?_
      rintro e y6 ⟨z, S6, rfl, hz, k6⟩
      have HK6 := hid (HK5.out.trans k6)
      have hz := hz HE0.out.2.1
      rw [show ((t : Int)).toNat = t from rfl] at hz
      rw [HE0.out.2.1]
      subst hz
      clear k6 HK5 HE0
      have hboth := rkB_both m t
      have hsucc := rkB_succ m true t
      have hat := fun one => selB_at (m := m) (one := one) (k := rkB m one t) (i := t) (n := m.length)
      have hlt2 : ∀ one, inB m t = one → slE m one (rkB m one t : Nat) = 0 := fun one h1 => by
        unfold slE
        refine if_pos ⟨by omega, ?_⟩
        have h3 := rkB_mono m one (show t + 1 ≤ m.length by rw [← HN.out]; exact HTL.out)
        rw [rkB_succ, if_pos h1] at h3
        omega
      subst hv
      cases hb : inB m t
      · rw [hb, if_neg (by decide)] at hsucc
        have HSE := hid (hlt2 false hb)
        have HSA := hid (hat false hb rfl (by rw [← HN.out]; exact HTL.out))
        rw [hsucc]
        obtain ⟨A, hA⟩ : ∃ A, A = rkB m true t := ⟨_, rfl⟩
        obtain ⟨Z, hZ⟩ : ∃ Z, Z = rkB m false t := ⟨_, rfl⟩
        rw [← hA, ← hZ] at hboth
        rw [← hZ] at HSE HSA
        simp only [Nat.add_zero]
        rw [← hA, ← hZ]
        have h1 : (A : Int) + (Z : Int) = (t : Int) := by omega
        have h2 : ((A : Int) == (A : Int) + 1) = false := by rw [beq_eq_false_iff_ne]; omega
        have hab : (A : Int) ≤ 1200 := by omega
        have hZb : (Z : Int) ≤ 1200 := by omega
        have HZZ : Hid (i64z (Z : Int)) := hid ⟨by omega, by omega⟩
        clear hb hsucc hboth hat hlt2 hA hZ
        go_wp2_with fail
        refine (pr.pSelect _ _ _ _ _ _ HK6.out.rk HZZ.out).mono ?_
        rintro e y7 ⟨z, S7, rfl, hz, k7⟩
        have HK7 := hid (HK6.out.trans k7)
        have hz := hz HSE.out
        rw [show ((Z : Int)).toNat = Z from rfl, HSA.out] at hz
        rw [HSE.out]
        subst hz
        clear k7 HK6
        go_wp2_with fail
        go_roundw
        case rel => exact ⟨t + 1, _, HTL.out, by go_num, HK7.out⟩
        case measure => simp [intOf]; have := HTL.out; omega
      · rw [hb, if_pos rfl] at hsucc
        have HSE := hid (hlt2 true hb)
        have HSA := hid (hat true hb rfl (by rw [← HN.out]; exact HTL.out))
        rw [hsucc]
        obtain ⟨A, hA⟩ : ∃ A, A = rkB m true t := ⟨_, rfl⟩
        obtain ⟨Z, hZ⟩ : ∃ Z, Z = rkB m false t := ⟨_, rfl⟩
        rw [← hA, ← hZ] at hboth
        rw [← hA] at HSE HSA
        rw [← hA, ← hZ]
        have h1 : (A : Int) + (Z : Int) = (t : Int) := by omega
        have h3 : ((A + 1 : Nat) : Int) = (A : Int) + 1 := by omega
        have h2 : ¬ ((A : Int) + 1 < (A : Int)) := by omega
        have hab : (A : Int) ≤ 1200 := by omega
        have hZb : (Z : Int) ≤ 1200 := by omega
        have HZZ : Hid (i64z (A : Int)) := hid ⟨by omega, by omega⟩
        rw [h3]
        clear hb hsucc hboth hat hlt2 hA hZ h3
        go_wp2_with fail
        refine (pr.pSelect _ _ _ _ _ _ HK6.out.rk HZZ.out).mono ?_
        rintro e y7 ⟨z, S7, rfl, hz, k7⟩
        have HK7 := hid (HK6.out.trans k7)
        have hz := hz HSE.out
        rw [show ((A : Int)).toNat = A from rfl, HSA.out] at hz
        rw [HSE.out]
        subst hz
        clear k7 HK6
        go_wp2_with fail
        go_roundw
        case rel => exact ⟨t + 1, _, HTL.out, by go_num, HK7.out⟩
        case measure => simp [intOf]; have := HTL.out; omega
    · have htn : (t < nm) = False := eq_false (by omega)
      clear hlt
      go_wp2_with fail
      refine (pr.nAt wr 0 (by decide)).mono ?_
      rintro e y3 ⟨v3, rfl, hb3⟩
      have HK3 := hid (pr.below HK.out hb3)
      clear hb3 HK
      go_wp2_with fail
      refine (pr.nRank y3 true 0 (by decide)).mono ?_
      rintro e y4 ⟨v4, rfl, hb4⟩
      have HK4 := hid (pr.below HK3.out hb4)
      clear hb4 HK3
      go_wp2_with fail
      refine (pr.nSelect y4 true 0 (by decide)).mono ?_
      rintro e y5 ⟨v5, rfl, hb5⟩
      have HK5 := hid (pr.below HK4.out hb5)
      clear hb5 HK4
      go_wp2_with fail
      refine (pr.nDirectory y5).mono ?_
      rintro e y6 ⟨a6, c6, a6', c6', rfl, hb6⟩
      have HK6 := hid (pr.below HK5.out hb6)
      clear hb6 HK5
      go_wp2_with fail
      refine (known_any pr y6).mono ?_
      rintro e y7 ⟨rfl, hb7⟩
      have HK7 := hid (pr.below HK6.out hb7)
      clear hb7 HK6
      go_wp2_with fail
      refine (pr.pCount _ _ _ _ _ HK7.out.rk).mono ?_
      rintro e y8 ⟨S8, rfl, k8⟩
      have HK8 := hid (HK7.out.trans k8)
      clear k8 HK7
      go_wp2_with fail
      refine (pr.pCount _ _ _ _ _ HK8.out.rk).mono ?_
      rintro e y9 ⟨S9, rfl, k9⟩
      have HK9 := hid (HK8.out.trans k9)
      clear k9 HK8
      have hboth := rkB_both m m.length
      rw [← HN.out] at hboth ⊢
      obtain ⟨A, hA⟩ : ∃ A, A = rkB m true nm := ⟨_, rfl⟩
      obtain ⟨Z, hZ⟩ : ∃ Z, Z = rkB m false nm := ⟨_, rfl⟩
      rw [← hA, ← hZ] at hboth ⊢
      have h1 : (A : Int) + (Z : Int) = (nm : Int) := by omega
      have hab : (A : Int) ≤ 1200 := by omega
      have hZb : (Z : Int) ≤ 1200 := by omega
      clear hboth hA hZ
      go_wp2_with fail
      refine (pr.nLen y9).mono ?_
      rintro e y10 ⟨rfl, hb10⟩
      have HK10 := hid (pr.below HK9.out hb10)
      clear hb10 HK9
      go_wp2_with fail
      refine (pr.nCount y10 true).mono ?_
      rintro e y11 ⟨rfl, hb11⟩
      have HK11 := hid (pr.below HK10.out hb11)
      clear hb11 HK10
      go_wp2_with fail
      refine (pr.nBytes y11).mono ?_
      rintro e y12 ⟨a12, c12, rfl, hb12⟩
      have HK12 := hid (pr.below HK11.out hb12)
      clear hb12 HK11
      go_wp2_with fail
      refine (pr.nOnes y12).mono ?_
      rintro e y13 ⟨a13, c13, rfl, hb13⟩
      have HK13 := hid (pr.below HK12.out hb13)
      clear hb13 HK12
      go_wp2_with fail
      refine (pr.pSameNil y13).mono ?_
      rintro e y14 ⟨rfl, hb14⟩
      have HK14 := hid (pr.below HK13.out hb14)
      clear hb14 HK13
      go_wp2_with fail
      refine (pr.pSameOne _ _ _ _ HK14.out.rk).mono ?_
      rintro e y15 ⟨S15, rfl, k15⟩
      have HK15 := hid (HK14.out.trans k15)
      clear k15 HK14
      go_wp2_with fail
      go_ret
      exact ⟨rfl, HK15.out.belowW HB2.out HG.out⟩
end Go.Proofs.Ytjcapiibeekfkaa
