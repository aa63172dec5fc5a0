/- 'CrcTurns' RETURNS TRUE FOR EVERY SLICE OF BYTES, EVERY PLACE AND EVERY BYTE: marked bytes of which one is turned don't hold; turned back they do. No condition. -/
import Derived.Test.YtpciknbcnpnbcaaCrcF
import Derived.Test.YtpciknbcnpnbcaaOpen
namespace Go.Proofs.Ytpciknbcnpnbcaa
open Go.RowKit Go.Inc

set_option maxHeartbeats 2000000 in
theorem crcTurns_walk (ok : Nat → Prop) (a : Option Addr) (c : Nat) (bs : List Nat) (k : Int) (b : Nat) (w : World) (hs : Sl ok w a bs) (hby : Bytes bs) (hc : bs.length ≤ c) (hm : c ≤ maxLen) (hb : b < 256) :
    Calls Try.prog 6 #[.slice a bs.length c, .int .i64 k, .int .u8 (b : Int)] w fun e w' => e = .returned (.bool true) ∧ Below w.heap.size w w' := by
  have hlc : (bs.length : Int) ≤ c := by omega
  have hL : ((bs.length : Int) ≤ 300 ∧ Hid ((bs.take 300).length = bs.length)) ∨ ((300 : Int) < bs.length ∧ Hid ((bs.take 300).length = 300)) := by
    by_cases h : bs.length ≤ 300
    · exact .inl ⟨by omega, hid (by rw [List.length_take]; omega)⟩
    · exact .inr ⟨by omega, hid (by rw [List.length_take]; omega)⟩
  have HS := hid (hs.front 300)
  have HB := hid (hby.take 300)
  have h3 : (bs.take 300).length ≤ 300 := by rw [List.length_take]; omega
  have hcc : Hid ((bs.take 300).length ≤ c ∧ c ≤ maxLen) := hid ⟨by rw [List.length_take]; omega, hm⟩
  have HM := hid (mark_any ok a c (bs.take 300) w HS.out HB.out hcc.out (by omega))
  clear hs hby hc hm
  generalize bs.take 300 = cs at *
  have hmk := hid (mark_len cs)
  have hmb := hid (mark_bytes HB.out)
  have hmh := hid (holds_mark cs)
  rcases hL with ⟨hL, HL⟩ | ⟨hL, HL⟩
  all_goals
    have HM1 := HM.out
    rw [HL.out] at HM1
    have HM := hid HM1
    clear HM1
    go_enter Try.func6, Try.ntmps6
    go_wp2_with fail
    refine HM.out.mono ?_
    clear HM
    rintro e w1 ⟨v, rfl, hv, hb1⟩
    obtain ⟨am, cm, rfl, _, hn, hsm⟩ := Sl.owned hv
    have hcm : Hid ((mark cs).length ≤ cm ∧ cm ≤ maxLen) := hid (own_cap hv)
    have hml := hmk.out
    rw [HL.out] at hml
    try simp only [Nat.reduceAdd] at hml
    have H18 := turn_any _ am cm (mark cs) k b w1 hsm (by rw [hml]; omega) hn hmb.out hb
    have hh := holds_turned cs HB.out
    have HTO := hid (fun h => turned_out (bs := mark cs) (at_ := k) (b := b) h)
    rw [hml] at H18 hh hcm HTO
    have HSM := hid hsm
    have HMT := hid (turned_bytes hmb.out k hb)
    have HTT := hid (turned_twice (mark cs) k b)
    have HTL := hid (turned_len (mark cs) k b)
    have HTZ := hid (turned_zero (mark cs) k)
    have HH := hid hh
    have H18 := hid H18
    have HMLL := hid hml
    rw [hml]
    clear hv hsm hh hn
    generalize hmc : mark cs = mc at *
    clear hmc
    go_wp2_with fail
    refine H18.out.mono ?_
    clear H18
    rintro e w2 ⟨v2, rfl, hv2, hb2⟩
    obtain ⟨at2, ct, rfl, _, hn2, hst⟩ := Sl.owned hv2
    have HCT := hid (own_cap hv2)
    have HST := hid hst
    have HB2 := hid (hb1.trans (hb2.mono hb1.size))
    have HSM2 := hid (HSM.out.below hb2)
    have hkb := hid (known_any w2)
    clear hv2 hst hb1 hb2 HSM hml
    by_cases hk0 : k < 0
    · have HEQ : Hid (turned mc k b = mc) := hid (HTO.out (.inl hk0))
      go_wp2_with fail
      refine hkb.out.mono ?_
      rintro e w3 ⟨rfl, hb3⟩
      have H := same_any _ _ at2 am ct cm (turned mc k b) mc w3 (HST.out.below hb3) (HSM2.out.below hb3) (by rw [HTL.out, HMLL.out]; omega)
      rw [HMLL.out] at H
      have HS1 := hid H
      clear H
      have HB3 := hid (HB2.out.trans (hb3.mono HB2.out.size))
      clear hb3
      go_wp2_with fail
      refine HS1.out.mono ?_
      rintro e w4 ⟨rfl, hb4⟩
      have hdec : decide (turned mc k b = mc) = true := by rw [HEQ.out]; simp
      rw [hdec]
      have HB4 := hid (HB3.out.trans (hb4.mono HB3.out.size))
      clear hb4 HS1 hdec
      go_wp2_with fail
      go_ret
      exact ⟨rfl, HB4.out⟩
    · have hk1 : (0 : Int) ≤ k := by omega
      clear hk0
      have hout : Hid ((mc.length : Int) ≤ k → turned mc k b = mc) := hid fun h => HTO.out (.inr (by rw [← HMLL.out]; exact h))
      by_cases hk2 : (mc.length : Int) ≤ k
      · have HEQ : Hid (turned mc k b = mc) := hid (hout.out hk2)
        rw [HMLL.out] at hk2
        first | rw [show ((bs.length + 4 : Nat) : Int) = (bs.length : Int) + 4 from by omega] at hk2 | rw [show ((304 : Nat) : Int) = 304 from rfl] at hk2
        go_wp2_with fail
        refine hkb.out.mono ?_
        rintro e w3 ⟨rfl, hb3⟩
        have H := same_any _ _ at2 am ct cm (turned mc k b) mc w3 (HST.out.below hb3) (HSM2.out.below hb3) (by rw [HTL.out, HMLL.out]; omega)
        rw [HMLL.out] at H
        have HS1 := hid H
        clear H
        have HB3 := hid (HB2.out.trans (hb3.mono HB2.out.size))
        clear hb3
        go_wp2_with fail
        refine HS1.out.mono ?_
        rintro e w4 ⟨rfl, hb4⟩
        have hdec : decide (turned mc k b = mc) = true := by rw [HEQ.out]; simp
        rw [hdec]
        have HB4 := hid (HB3.out.trans (hb4.mono HB3.out.size))
        clear hb4 HS1 hdec
        go_wp2_with fail
        go_ret
        exact ⟨rfl, HB4.out⟩
      · have hk3 : k < (mc.length : Int) := by omega
        obtain ⟨q, rfl⟩ := Int.eq_ofNat_of_zero_le hk1
        have hht : Hid (b ≠ 0 → holds (turned mc q b) = false) := hid fun h0 => HH.out q b (by rw [← HMLL.out]; omega) hb h0
        rw [HMLL.out] at hk3
        first | rw [show ((bs.length + 4 : Nat) : Int) = (bs.length : Int) + 4 from by omega] at hk3 | rw [show ((304 : Nat) : Int) = 304 from rfl] at hk3
        clear hk2
        have hk5 : ((304 : Int) ≤ (q : Int)) = False := eq_false (by omega)
        have hk6 : ((bs.length : Int) + 4 ≤ (q : Int)) = False := eq_false (by omega)
        have hfin : Hid (∃ r, holds (turned mc q b) = r ∧ (((b : Int) == 0) = r)) := hid (by
          by_cases h0 : b = 0
          · subst h0
            exact ⟨true, by rw [HTZ.out, hmh.out], rfl⟩
          · exact ⟨false, hht.out h0, by rw [beq_eq_false_iff_ne]; omega⟩)
        obtain ⟨r, hr1, hr2⟩ := hfin.out
        have HR1 := hid hr1
        clear hr1 hfin hht HH HTO hout
        clear hk3
        go_wp2_with fail
        refine hkb.out.mono ?_
        rintro e w3 ⟨rfl, hb3⟩
        have HH1 := hid (holds_any _ at2 ct (turned mc q b) w3 (HST.out.below hb3) HMT.out HCT.out.1 HCT.out.2)
        have HT1 := HST.out.below hb3
        have HM1 := HSM2.out.below hb3
        have HB3 := hid (HB2.out.trans (hb3.mono HB2.out.size))
        clear hb3
        go_wp2_with fail
        refine HH1.out.mono ?_
        rintro e w4 ⟨rfl, hb4⟩
        rw [HR1.out]
        have H2 := turn_any _ at2 ct (turned mc q b) q b w4 (HT1.below hb4) (by rw [HTL.out, HMLL.out]; omega) hn2 HMT.out hb
        rw [HTT.out] at H2
        have HT2 := hid H2
        have HM2 := HM1.below hb4
        have HB4 := hid (HB3.out.trans (hb4.mono HB3.out.size))
        clear hb4 HH1 HT1 HM1 H2
        have HM2 := hid HM2
        cases r
        all_goals
          go_wp2_with fail
          refine HT2.out.mono ?_
          clear HT2
          rintro e w5 ⟨v5, rfl, hv5, hb5⟩
          obtain ⟨a5, c5, rfl, _, _, hs5⟩ := Sl.owned hv5
          have H := same_any _ _ a5 am c5 cm mc mc w5 hs5 (HM2.out.below hb5) (by rw [HMLL.out]; omega)
          rw [HMLL.out] at H
          have hd : decide (mc = mc) = true := by simp
          rw [hd] at H
          have HS1 := hid H
          have HM3 := hid (HM2.out.below hb5)
          have HB5 := hid (HB4.out.trans (hb5.mono HB4.out.size))
          rw [HMLL.out]
          clear H hb5 hv5 hs5 hd
          go_wp2_with fail
          refine HS1.out.mono ?_
          rintro e w6 ⟨rfl, hb6⟩
          have H := holds_any _ am cm mc w6 (HM3.out.below hb6) hmb.out (by rw [HMLL.out]; exact hcm.out.1) hcm.out.2
          rw [HMLL.out, hmh.out] at H
          have HS2 := hid H
          have HB6 := hid (HB5.out.trans (hb6.mono HB5.out.size))
          clear H hb6 HS1
          go_wp2_with fail
          refine HS2.out.mono ?_
          rintro e w7 ⟨rfl, hb7⟩
          have HB7 := hid (HB6.out.trans (hb7.mono HB6.out.size))
          clear hb7 HS2
          go_wp2_with fail
          go_ret
          exact ⟨rfl, HB7.out⟩

namespace crcTurns
open Go.ChangeShapes Go.WideShapes Go.ChangeAt

theorem own : ownKnob Try.prog.godebug = none := by kernel_rfl
theorem laidOut : laidOutB Try.prog = true := by kernel_rfl

set_option maxRecDepth 100000 in
theorem lifted (os : Os) (started : os.Started) (H : Type) (enc : TypeId × Value → H) :
    ReturnsInHanded {} Try.checked os 6 .any (Rows.crcTurnsSpec.pre6 enc Try.prog Try.f6 Rows.crcTurnsRow.domain false) (Rows.crcTurnsSpec.post enc Try.prog Try.f6 false true false false) := by
  refine returnsInHanded_of_change (C := Try.checked) own started (by kernel_rfl) Try.func6
    (ChangeSpec.witness6 (enc := enc) (C := Try.checked) false ⟨#[], #[.slice none 0 0, .int .i64 0, .int .u8 0], []⟩ 8 (by kernel_rfl) (by kernel_rfl) (by kernel_rfl) (by kernel_rfl)) ?_
  intro W base args ds gs before hval0 hW hcnd _
  have hval : ∀ (j : Nat) t v, Try.f6.params[j]? = some t → args[j]? = some v → Value.okWide Try.prog W .any base t v := hval0
  have hW' := hW
  obtain ⟨p, q, hA0, hV, rfl, hfz, hnd⟩ := hW
  have hA : DataW.TrodAll enc Try.prog W 0 (fun _ => true) true Try.f6.params.toList args.toList ds p := hA0
  rw [Try.params6] at hA hval
  obtain ⟨v0, vs0, d0, ds0, p0, q0, hargs, rfl, rfl, h0, r0⟩ := trodAll_cons hA
  obtain ⟨v1, vs1, d1, ds1, p1, q1, rfl, rfl, rfl, h1, r1⟩ := trodAll_cons r0
  obtain ⟨v2, vs2, d2, ds2, p2, q2, rfl, rfl, rfl, h2, r2⟩ := trodAll_cons r1
  obtain ⟨rfl, rfl, rfl⟩ := trodAll_nil r2
  obtain rfl : args = #[v0, v1, v2] := by cases args; simp_all
  obtain ⟨rfl, rfl⟩ := trodVars_none hV
  obtain ⟨a0, len0, cap0, rfl⟩ := okWide_slice Try.underlying23 (hval 0 23 v0 rfl rfl)
  have k0 := h0
  have lt0 : ∀ x ∈ p0, x.block < W.heap.size := by obtain ⟨m, hm⟩ := k0; exact DataW.trod_lt m _ _ _ hm
  obtain ⟨a, c, bs, hv, hby, hsl, hlc, hcm, _⟩ : ∃ a c bs, Value.slice a0 len0 cap0 = .slice a (List.length bs) c ∧ Bytes bs ∧ Sl (fun _ => True) W a bs ∧ bs.length ≤ c ∧ c ≤ maxLen ∧ (a = none → c = 0) := by
    obtain ⟨fuel, hf⟩ := h0
    exact open_sl Try.underlying23 Try.underlying5 (by kernel_rfl) hf
  simp only [Value.slice.injEq] at hv
  obtain ⟨rfl, rfl, rfl⟩ := hv
  obtain ⟨x1, rfl, rfl, rfl, wf1⟩ := open_int Try.underlying3 (hval 1 3 v1 rfl rfl) h1
  obtain ⟨x2, rfl, rfl, rfl, wf2⟩ := open_int Try.underlying5 (hval 2 5 v2 rfl rfl) h2
  clear hA0 hval0
  have hx2 := u8_wf wf2
  obtain ⟨b, rfl⟩ := Int.eq_ofNat_of_zero_le hx2.1
  refine (crcTurns_walk _ a0 cap0 bs x1 b W hsl hby hlc hcm (by omega)).mono fun e W' ⟨he, bel⟩ => ?_
  subst he
  exact ⟨_, rfl, _, _, _, [], _, [], hW', trodAll_mk1 (shut_bool Try.underlying4 _), (trodAll_cons_mk (Below.trod laidOut (by kernel_rfl) (of_decide_eq_true (by kernel_rfl)) k0 bel lt0) (trodAll_cons_mk (shut_int Try.underlying3 wf1) (trodAll_cons_mk (shut_int Try.underlying5 wf2) trodAll_mk0))), rfl, bel.frame _, fun h => by cases h⟩

/-- THE STATEMENT. -/
theorem proved : Rows.CrcTurnsSaid :=
  OpenClaim.holds_of_wide 6 Try.f6 rfl rfl rfl rfl rfl rfl rfl ⟨rfl, rfl, rfl, rfl, rfl⟩ rfl rfl rfl rfl rfl (by kernel_rfl) Try.func6 (by kernel_rfl)
    (of_decide_eq_true (by kernel_rfl)) (by unfold Func.isWrapper; first | (rw [if_pos (by decide +kernel)]; kernel_rfl) | (rw [if_neg (by decide +kernel)]; exact ⟨rfl, rfl⟩))
    (fun os started H enc _ => lifted os started H enc)
end crcTurns
end Go.Proofs.Ytpciknbcnpnbcaa
