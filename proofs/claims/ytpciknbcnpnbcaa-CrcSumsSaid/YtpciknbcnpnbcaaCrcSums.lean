/- 'CrcSums' RETURNS TRUE FOR EVERY LIST OF LISTS OF BYTES (nil ones too), and nothing that was there is turned: the sum of any bytes, cut into any parts, is the document's. No condition. -/
import Derived.Test.YtpciknbcnpnbcaaCrcFew
import Derived.Test.YtpciknbcnpnbcaaOpen
namespace Go.Proofs.Ytpciknbcnpnbcaa
open Go.RowKit Go.Inc

set_option maxHeartbeats 2000000 in
theorem crcSums_walk (ok : Nat → Prop) (a : Option Addr) (cap : Nat) (ps : List (List Nat)) (w : World) (hp : Pt ok w a ps) (hl : ps.length ≤ 9223372036854775807) :
    Calls Try.prog 3 #[.slice a ps.length cap] w fun e w' => e = .returned (.bool true) ∧ Below w.heap.size w w' := by
  have H0 := hid (few_any ok a cap ps w hp hl)
  have hct := cutParts_len ps
  have hcb := hid (cutParts_bytes hp.1)
  have hl12 : (cutParts ps).length ≤ 12 := by simp [cutParts]; omega
  generalize cutParts ps = cs at *
  clear hp
  go_enter Try.func3, Try.ntmps3
  go_wp2_with fail
  refine H0.out.mono ?_
  rintro e w1 ⟨a4, c4, a5, c5, rfl, hp4, hs5, hb1, hc4, hc4', hc5, hc5'⟩
  have HP4 := hid hp4
  have HS5 := hid hs5
  have hcf := hid (flat_bytes hcb.out)
  clear H0 hp4 hs5
  have HF : Hid (cs.flatten.length ≤ 1200) := hid hct
  obtain ⟨all, hall⟩ : ∃ all, all = cs.flatten := ⟨_, rfl⟩
  rw [← hall] at HS5 hcf hc5 HF hct ⊢
  have HALL := hid hall
  clear hall
  go_wp2_with fail
  refine (known_any _).mono ?_
  rintro e w2 ⟨rfl, hb2⟩
  have HP2 := HP4.out.below hb2
  have H2 := hid (sum_any _ c4 a4 cs w2 HP2 (by show cs.flatten.length ≤ _; rw [← HALL.out]; omega) (by omega))
  have HP2 := hid HP2
  have hb12 := hid (hb1.trans (hb2.mono hb1.size))
  have HS2 := hid (HS5.out.below hb2)
  clear hb1 hb2 HP4 HS5
  go_wp2_with fail
  refine H2.out.mono ?_
  rintro e w3 ⟨rfl, hb3⟩
  rw [← HALL.out]
  have HS3 := HS2.out.below hb3
  have H3 := hid (refSum_any _ a5 c5 all w3 HS3 hcf.out (by omega))
  have HS3 := hid HS3
  have hb13 := hid (hb12.out.trans (hb3.mono hb12.out.size))
  clear hb3 hb12 HS2 HP2 H2
  go_wp2_with fail
  refine H3.out.mono ?_
  rintro e w4 ⟨rfl, rfl⟩
  have HPx := Pt.one HS3.out hcf.out c5 ⟨hc5, hc5'⟩ 23
  have hflat : Hid ([all].flatten = all) := hid (by simp)
  have H4 := hid (sum_any _ 1 _ _ _ HPx (by show [all].flatten.length ≤ _; rw [hflat.out]; omega) (by simp))
  have hbx := hid (hb13.out.alloc hb13.out.size (.cells #[.slice a5 all.length c5] 23))
  have HSx := hid (HS3.out.below ((Below.refl _ w3).alloc (Nat.le_refl _) (.cells #[.slice a5 all.length c5] 23)))
  clear HPx
  go_wp2_with fail
  refine H4.out.mono ?_
  rintro e w5 ⟨rfl, hb5⟩
  rw [hflat.out]
  have HS5 := HSx.out.below hb5
  have H5 := hid (refSum_any _ a5 c5 all w5 HS5 hcf.out (by omega))
  have hb15 := hid (hbx.out.trans (hb5.mono hbx.out.size))
  clear HS5 hb5 H4
  go_wp2_with fail
  refine H5.out.mono ?_
  rintro e w6 ⟨rfl, rfl⟩
  go_wp2_with fail
  go_ret
  exact ⟨rfl, hb15.out⟩
namespace crcSums
open Go.ChangeShapes Go.WideShapes Go.ChangeAt

theorem own : ownKnob Try.prog.godebug = none := by kernel_rfl
theorem laidOut : laidOutB Try.prog = true := by kernel_rfl

set_option maxRecDepth 100000 in
theorem lifted (os : Os) (started : os.Started) (H : Type) (enc : TypeId × Value → H) :
    ReturnsInHanded {} Try.checked os 3 .any (Rows.crcSumsSpec.pre6 enc Try.prog Try.f3 Rows.crcSumsRow.domain false) (Rows.crcSumsSpec.post enc Try.prog Try.f3 false true false false) := by
  refine returnsInHanded_of_change (C := Try.checked) own started (by kernel_rfl) Try.func3
    (ChangeSpec.witness6 (enc := enc) (C := Try.checked) false ⟨#[], #[.slice none 0 0], []⟩ 8 (by kernel_rfl) (by kernel_rfl) (by kernel_rfl) (by kernel_rfl)) ?_
  intro W base args ds gs before hval0 hW hcnd _
  have hval : ∀ (j : Nat) t v, Try.f3.params[j]? = some t → args[j]? = some v → Value.okWide Try.prog W .any base t v := hval0
  have hW' := hW
  obtain ⟨p, q, hA0, hV, rfl, hfz, hnd⟩ := hW
  have hA : DataW.TrodAll enc Try.prog W 0 (fun _ => true) true Try.f3.params.toList args.toList ds p := hA0
  rw [Try.params3] at hA hval
  obtain ⟨v0, vs0, d0, ds0, p0, q0, hargs, rfl, rfl, h0, r0⟩ := trodAll_cons hA
  obtain ⟨rfl, rfl, rfl⟩ := trodAll_nil r0
  obtain rfl : args = #[v0] := by cases args; simp_all
  obtain ⟨rfl, rfl⟩ := trodVars_none hV
  obtain ⟨a0, len0, cap0, rfl⟩ := okWide_slice Try.underlying22 (hval 0 22 v0 rfl rfl)
  have k0 := h0
  have lt0 : ∀ x ∈ p0, x.block < W.heap.size := by obtain ⟨m, hm⟩ := k0; exact DataW.trod_lt m _ _ _ hm
  obtain ⟨a, c, ps, hv, hpt, hl⟩ : ∃ a c ps, Value.slice a0 len0 cap0 = .slice a (List.length ps) c ∧ Pt (fun _ => True) W a ps ∧ ps.length ≤ maxLen := by
    obtain ⟨fuel, hf⟩ := h0
    exact open_pt Try.underlying22 Try.underlying23 Try.underlying5 (by kernel_rfl) (by kernel_rfl) hf
  simp only [Value.slice.injEq] at hv
  obtain ⟨rfl, rfl, rfl⟩ := hv
  clear hA0 hval0
  refine (crcSums_walk _ a0 cap0 ps W hpt (by unfold maxLen at hl; omega)).mono fun e W' ⟨he, bel⟩ => ?_
  subst he
  exact ⟨_, rfl, _, _, _, [], _, [], hW', trodAll_mk1 (shut_bool Try.underlying4 _), (trodAll_cons_mk (Below.trod laidOut (by kernel_rfl) (of_decide_eq_true (by kernel_rfl)) k0 bel lt0) trodAll_mk0), rfl, bel.frame _, fun h => by cases h⟩

/-- THE STATEMENT. -/
theorem proved : Rows.CrcSumsSaid :=
  OpenClaim.holds_of_wide 3 Try.f3 rfl rfl rfl rfl rfl rfl rfl ⟨rfl, rfl, rfl, rfl, rfl⟩ rfl rfl rfl rfl rfl (by kernel_rfl) Try.func3 (by kernel_rfl)
    (of_decide_eq_true (by kernel_rfl)) (by unfold Func.isWrapper; first | (rw [if_pos (by decide +kernel)]; kernel_rfl) | (rw [if_neg (by decide +kernel)]; exact ⟨rfl, rfl⟩))
    (fun os started H enc _ => lifted os started H enc)
end crcSums
end Go.Proofs.Ytpciknbcnpnbcaa
