/- STATEMENT: frames as bytes. For every frame; bodies of at most 250 bytes. -/
import Derived.Test.YtmdimhijbmeioaaFrP
import Derived.Deep.CutBlock
namespace Go.Proofs.Ytmdimhijbmeioaa
open Go.RowKit Go.Inc

set_option maxRecDepth 20000 in
set_option maxHeartbeats 4000000 in
theorem frameBytes_walk (ok : Nat → Prop) (k e pg : Int) (a : Option Addr) (c : Nat) (bs : List Nat) (w : World) (hs : Sl ok w a bs) (hby : Bytes bs) (hc : bs.length ≤ c ∧ c ≤ maxLen) (hn : a = none → c = 0) :
    Calls Try.prog 3 #[.agg #[.int .i64 k, .int .i64 e, .int .i64 pg, .slice a bs.length c]] w fun r w' => r = .returned (.bool true) ∧ Below w.heap.size w w' := by
  have hb0 := (Below.refl w.heap.size w).alloc (Nat.le_refl _) (.cells #[.int .i64 k, .int .i64 e, .int .i64 pg, .slice a bs.length c] 24)
  have HT := hid (to_any ok k e pg a c bs _ (hs.below hb0) hc hn)
  have HB0 := hid hb0
  have hbh : Bytes (bs.take 250) := hby.take 250
  clear hs hby hc hn hb0
  go_enter Try.func3, Try.ntmps3
  go_wp2_with fail
  refine HT.out.mono ?_
  rintro r w1 ⟨v, rfl, hv, hb1⟩
  obtain ⟨bh, hbhd⟩ : ∃ bh, bh = bs.take 250 := ⟨_, rfl⟩
  rw [← hbhd] at hv hbh
  have hl250 : bh.length ≤ 250 := by rw [hbhd, List.length_take]; omega
  have HBH := hid hbh
  have HL250 := hid hl250
  obtain ⟨a1, c1, rfl, hs1, hlc1, hm1, hn1⟩ := hv
  have HB1 : Hid (Below w.heap.size w w1) := hid (HB0.out.trans (hb1.mono HB0.out.size))
  obtain ⟨w2, hw2⟩ : ∃ w2, w2 = w1.alloc (.cells #[.int .i64 k, .int .i64 e, .int .i64 pg, .slice a1 bh.length c1] 25) := ⟨_, rfl⟩
  have hb2 : Below w1.heap.size w1 w2 := by rw [hw2]; exact (Below.refl _ _).alloc (Nat.le_refl _) _
  have R3 : Hid (w2.heap[w1.heap.size]? = some (.cells #[.int .i64 k, .int .i64 e, .int .i64 pg, .slice a1 bh.length c1] 25 (0, 0))) := hid (by rw [hw2]; exact heap_alloc_new w1 _)
  have HB2 : Hid (Below w.heap.size w w2) := hid (HB1.out.trans (hb2.mono HB1.out.size))
  have HS2 : Hid (Sl (fun b => True) w2 a1 bh) := hid ((hs1.mono fun _ _ _ => trivial).below hb2)
  have HC1 := hid (And.intro hlc1 hm1)
  have HN1 := hid hn1
  have HW2 := hid hw2
  have HOF := hid (of_any k e pg a1 bh.length c1 w2)
  clear hbhd hbh hl250 hs1 hlc1 hm1 hn1 hb1 hb2 hw2 HT HB0 HB1
  have q0 := cell_of_row w2 _ 0 _ _ _ R3.out
  have q1 := cell_of_row w2 _ 1 _ _ _ R3.out
  have q2 := cell_of_row w2 _ 2 _ _ _ R3.out
  have q3 := cell_of_row w2 _ 3 _ _ _ R3.out
  go_wp2_with fail
  rw [← HW2.out]
  refine HOF.out.mono ?_
  rintro r w3 ⟨rfl, hb3⟩
  obtain ⟨w4, hw4⟩ : ∃ w4, w4 = w3.alloc (.cells #[.int .i64 k, .int .i64 e, .int .i64 pg, .slice a1 bh.length c1] 24) := ⟨_, rfl⟩
  have hb4 : Below w3.heap.size w3 w4 := by rw [hw4]; exact (Below.refl _ _).alloc (Nat.le_refl _) _
  have hb24 : Below w2.heap.size w2 w4 := hb3.trans (hb4.mono hb3.size)
  have R4 : Hid (w4.heap[w3.heap.size]? = some (.cells #[.int .i64 k, .int .i64 e, .int .i64 pg, .slice a1 bh.length c1] 24 (0, 0))) := hid (by rw [hw4]; exact heap_alloc_new w3 _)
  have R34 : Hid (w4.heap[w1.heap.size]? = _) := hid (row_below R3.out hb24)
  have HB4 : Hid (Below w.heap.size w w4) := hid (HB2.out.trans (hb24.mono HB2.out.size))
  have HS4 := hid (HS2.out.below hb24)
  have HW4 := hid hw4
  have HEN := hid (encode_any _ k e pg a1 c1 bh w4 HS4.out HBH.out HC1.out HN1.out)
  clear q0 q1 q2 q3 hb3 hb4 hb24 hw4 HOF HB2 HS2 R3 HW2
  have q0 := cell_of_row w4 _ 0 _ _ _ R34.out
  have q1 := cell_of_row w4 _ 1 _ _ _ R34.out
  have q2 := cell_of_row w4 _ 2 _ _ _ R34.out
  have q3 := cell_of_row w4 _ 3 _ _ _ R34.out
  go_upto_region 3 with fail
  rw [← HW4.out]
  go_wp2_with fail
  refine HEN.out.mono ?_
  rintro r w5 ⟨⟨v5, rfl, hv5⟩, hb5⟩
  have R45 : Hid (w5.heap[w3.heap.size]? = _) := hid (row_below R4.out hb5)
  have R35 : Hid (w5.heap[w1.heap.size]? = _) := hid (row_below R34.out hb5)
  have HB5 : Hid (Below w.heap.size w w5) := hid (HB4.out.trans (hb5.mono HB4.out.size))
  have HS5 := hid (HS4.out.below hb5)
  have HV5 := hid hv5
  have HCK := hid (refCheck_any k e pg a1 c1 bh w5)
  clear q0 q1 q2 q3 hb5 hv5 HEN HB4 HS4 R34 R4 HW4
  have q0 := cell_of_row w5 _ 0 _ _ _ R45.out
  have q1 := cell_of_row w5 _ 1 _ _ _ R45.out
  have q2 := cell_of_row w5 _ 2 _ _ _ R45.out
  have q3 := cell_of_row w5 _ 3 _ _ _ R45.out
  go_wp2_with fail
  refine HCK.out.mono ?_
  rintro r w6 ⟨rfl, hb6⟩
  have R46 : Hid (w6.heap[w3.heap.size]? = _) := hid (row_below R45.out hb6)
  have R36 : Hid (w6.heap[w1.heap.size]? = _) := hid (row_below R35.out hb6)
  have HB6 : Hid (Below w.heap.size w w6) := hid (HB5.out.trans (hb6.mono HB5.out.size))
  have HS6 := hid (HS5.out.below hb6)
  have HV6 : Hid (Bb _ w6 v5 _) := hid (HV5.out.below hb6)
  have HCK2 := hid (check_any k e pg a1 c1 bh w6)
  have hqq : (((chk ⟨k, e, pg, bh⟩ : Nat) : Int) != ((chk ⟨k, e, pg, bh⟩ : Nat) : Int)) = false := by simp
  clear q0 q1 q2 q3 hb6 HCK HB5 HS5 HV5 R45 R35
  have q0 := cell_of_row w6 _ 0 _ _ _ R36.out
  have q1 := cell_of_row w6 _ 1 _ _ _ R36.out
  have q2 := cell_of_row w6 _ 2 _ _ _ R36.out
  have q3 := cell_of_row w6 _ 3 _ _ _ R36.out
  go_wp2_with fail
  refine HCK2.out.mono ?_
  rintro r w7 ⟨rfl, hb7⟩
  have R47 : Hid (w7.heap[w3.heap.size]? = _) := hid (row_below R46.out hb7)
  have R37 : Hid (w7.heap[w1.heap.size]? = _) := hid (row_below R36.out hb7)
  have HB7 : Hid (Below w.heap.size w w7) := hid (HB6.out.trans (hb7.mono HB6.out.size))
  have HS7 := hid (HS6.out.below hb7)
  have HV7 : Hid (Bb _ w7 v5 _) := hid (HV6.out.below hb7)
  have HSM := hid (fsame_self _ _ k e pg bh a1 a1 c1 c1 w7 HS7.out HS7.out HBH.out)
  clear q0 q1 q2 q3 hb7 HCK2 HB6 HS6 HV6 R46 R36
  have q0 := cell_of_row w7 _ 0 _ _ _ R37.out
  have q1 := cell_of_row w7 _ 1 _ _ _ R37.out
  have q2 := cell_of_row w7 _ 2 _ _ _ R37.out
  have q3 := cell_of_row w7 _ 3 _ _ _ R37.out
  go_wp2_with fail
  refine HSM.out.mono ?_
  rintro r w8 ⟨rfl, hb8⟩
  have R48 : Hid (w8.heap[w3.heap.size]? = _) := hid (row_below R47.out hb8)
  have R38 : Hid (w8.heap[w1.heap.size]? = _) := hid (row_below R37.out hb8)
  have HB8 : Hid (Below w.heap.size w w8) := hid (HB7.out.trans (hb8.mono HB7.out.size))
  have HS8 := hid (HS7.out.below hb8)
  have HV8 : Hid (Bb _ w8 v5 _) := hid (HV7.out.below hb8)
  clear q0 q1 q2 q3 hb8 HSM HB7 HS7 HV7 R47 R37 hqq
  by_cases hq : chk ⟨k, e, pg, bh⟩ = 0
  · have HQ := hid hq
    have hv9 := HV8.out
    rw [hq] at hv9 ⊢
    rw [if_pos rfl] at hv9
    obtain ⟨a5, c5, rfl, hs5, hlc5, hm5, hn5⟩ := hv9
    have HFO : Hid (Fr.ok ⟨k, e, pg, bh⟩) := hid ((chk_zero _).1 hq)
    have HDC := hid (decode_any _ a5 c5 _ w8 hs5 (enc_bytes (f := ⟨k, e, pg, bh⟩) HBH.out) ⟨hlc5, hm5⟩)
    have HV9 := hid (And.intro hs5 (And.intro hlc5 hm5))
    clear hq hs5 hlc5 hm5 hn5 HV8
    go_wp2_with fail
    refine HDC.out.mono ?_
    rintro r w9 ⟨⟨v9, rfl, hv9⟩, hb9⟩
    have hdE := decE_enc HFO.out
    have hdF := decF_enc HFO.out
    rw [hdF] at hv9 ⊢
    rw [hdE]
    obtain ⟨a9, c9, rfl, hs9, hlc9, hm9, hn9⟩ := hv9
    dsimp only
    obtain ⟨wA, hwA⟩ : ∃ wA, wA = w9.alloc (.cells #[.int .i64 k, .int .i64 e, .int .i64 pg, .slice a9 bh.length c9] 25) := ⟨_, rfl⟩
    have hbA : Below w9.heap.size w9 wA := by rw [hwA]; exact (Below.refl _ _).alloc (Nat.le_refl _) _
    have hb8A : Below w8.heap.size w8 wA := hb9.trans (hbA.mono hb9.size)
    have R8A : Hid (wA.heap[w9.heap.size]? = some (.cells #[.int .i64 k, .int .i64 e, .int .i64 pg, .slice a9 bh.length c9] 25 (0, 0))) := hid (by rw [hwA]; exact heap_alloc_new w9 _)
    have R4A : Hid (wA.heap[w3.heap.size]? = _) := hid (row_below R48.out hb8A)
    have R3A : Hid (wA.heap[w1.heap.size]? = _) := hid (row_below R38.out hb8A)
    have HBA : Hid (Below w.heap.size w wA) := hid (HB8.out.trans (hb8A.mono HB8.out.size))
    have HSA := hid (HS8.out.below hb8A)
    have HS9 := hid (hs9.below hbA)
    have HS5A := hid (HV9.out.1.below hb8A)
    have HWA := hid hwA
    have HKN := hid (known_any wA)
    clear hs9 hlc9 hm9 hn9 hb9 hbA hb8A hwA hdE hdF HDC R48 R38 HB8 HS8
    go_wp2_with fail
    rw [← HWA.out]
    refine HKN.out.mono ?_
    rintro r wB ⟨rfl, hbB⟩
    have R8B : Hid (wB.heap[w9.heap.size]? = _) := hid (row_below R8A.out hbB)
    have R4B : Hid (wB.heap[w3.heap.size]? = _) := hid (row_below R4A.out hbB)
    have R3B : Hid (wB.heap[w1.heap.size]? = _) := hid (row_below R3A.out hbB)
    have HBB : Hid (Below w.heap.size w wB) := hid (HBA.out.trans (hbB.mono HBA.out.size))
    have HSB := hid (HSA.out.below hbB)
    have HS9B := hid (HS9.out.below hbB)
    have HS5B := hid (HS5A.out.below hbB)
    have HRE := hid (refEnc_ok _ k e pg a1 c1 bh wB HQ.out HSB.out HBH.out HN1.out)
    clear hbB HKN R8A R4A R3A HBA HSA HS9 HS5A HWA
    have q0 := cell_of_row wB _ 0 _ _ _ R4B.out
    have q1 := cell_of_row wB _ 1 _ _ _ R4B.out
    have q2 := cell_of_row wB _ 2 _ _ _ R4B.out
    have q3 := cell_of_row wB _ 3 _ _ _ R4B.out
    go_wp2_with fail
    refine HRE.out.mono ?_
    rintro r wC ⟨vC, rfl, hvC, hbC⟩
    obtain ⟨aC, cC, rfl, hnC, hlcC, hmC, hsC⟩ := hvC.sl
    have R8C : Hid (wC.heap[w9.heap.size]? = _) := hid (row_below R8B.out hbC)
    have R3C : Hid (wC.heap[w1.heap.size]? = _) := hid (row_below R3B.out hbC)
    have HBC : Hid (Below w.heap.size w wC) := hid (HBB.out.trans (hbC.mono HBB.out.size))
    have HSC := hid (HSB.out.below hbC)
    have HS9C := hid (HS9B.out.below hbC)
    have HL : Hid ((enc ⟨k, e, pg, bh⟩).length = 256) := hid (enc_len HFO.out.2.2.2.2.2.2)
    have HSS := hid (same_self _ _ a5 aC c5 cC _ wC (HS5B.out.below hbC) hsC (by rw [HL.out]; decide))
    clear q0 q1 q2 q3 hbC hvC hsC hnC hlcC hmC HRE R8B R4B R3B HBB HSB HS9B HS5B
    go_wp2_with fail
    refine HSS.out.mono ?_
    rintro r wD ⟨rfl, hbD⟩
    have R8D : Hid (wD.heap[w9.heap.size]? = _) := hid (row_below R8C.out hbD)
    have R3D : Hid (wD.heap[w1.heap.size]? = _) := hid (row_below R3C.out hbD)
    have HBD : Hid (Below w.heap.size w wD) := hid (HBC.out.trans (hbD.mono HBC.out.size))
    have HFS := hid (fsame_self _ _ k e pg bh a9 a1 c9 c1 wD (HS9C.out.below hbD) (HSC.out.below hbD) HBH.out)
    clear hbD HSS R8C R3C HBC HSC HS9C
    have q0 := cell_of_row wD _ 0 _ _ _ R8D.out
    have q1 := cell_of_row wD _ 1 _ _ _ R8D.out
    have q2 := cell_of_row wD _ 2 _ _ _ R8D.out
    have q3 := cell_of_row wD _ 3 _ _ _ R8D.out
    have p0 := cell_of_row wD _ 0 _ _ _ R3D.out
    have p1 := cell_of_row wD _ 1 _ _ _ R3D.out
    have p2 := cell_of_row wD _ 2 _ _ _ R3D.out
    have p3 := cell_of_row wD _ 3 _ _ _ R3D.out
    go_wp2_with fail
    refine HFS.out.mono ?_
    rintro r wE ⟨rfl, hbE⟩
    have HBE : Hid (Below w.heap.size w wE) := hid (HBD.out.trans (hbE.mono HBD.out.size))
    clear hbE HFS q0 q1 q2 q3 p0 p1 p2 p3
    go_wp2_with fail
    go_ret
    exact ⟨rfl, HBE.out⟩
  · have hq1 : (((chk ⟨k, e, pg, bh⟩ : Nat) : Int) != 0) = true := by rw [bne_iff_ne]; omega
    have hv9 := HV8.out
    rw [if_neg hq] at hv9
    obtain ⟨a5, c5, rfl, _, _, _, _⟩ := hv9
    have HKN := hid (known_any w8)
    clear hq HV8
    generalize chk ⟨k, e, pg, bh⟩ = q at *
    go_wp2_with fail
    refine HKN.out.mono ?_
    rintro r w9 ⟨rfl, hb9⟩
    have HB9 : Hid (Below w.heap.size w w9) := hid (HB8.out.trans (hb9.mono HB8.out.size))
    clear hb9 HKN
    go_wp2_with fail
    go_ret
    exact ⟨rfl, HB9.out⟩
namespace frameBytes
open Go.ChangeShapes Go.WideShapes Go.ChangeAt

theorem own : ownKnob Try.prog.godebug = none := by kernel_rfl
theorem laidOut : laidOutB Try.prog = true := by kernel_rfl

set_option maxRecDepth 100000 in
theorem lifted (os : Os) (started : os.Started) (H : Type) (enc : TypeId × Value → H) :
    ReturnsInHanded {} Try.checked os 3 .any (Rows.frameBytesSpec.pre6 enc Try.prog Try.f3 Rows.frameBytesRow.domain false) (Rows.frameBytesSpec.post enc Try.prog Try.f3 false true false false) := by
  refine returnsInHanded_of_change (C := Try.checked) own started (by kernel_rfl) Try.func3
    (ChangeSpec.witness6 (enc := enc) (C := Try.checked) false ⟨#[], #[.agg #[.int .i64 0, .int .i64 0, .int .i64 0, .slice none 0 0]], []⟩ 8 (by kernel_rfl) (by kernel_rfl) (by kernel_rfl) (by kernel_rfl)) ?_
  intro W base args ds gs before hval0 hW hcnd _
  have hval : ∀ (j : Nat) t v, Try.f3.params[j]? = some t → args[j]? = some v → Value.okWide Try.prog W .any base t v := hval0
  have hW' := hW
  obtain ⟨p, q, hA0, hV, rfl, hfz, hnd⟩ := hW
  have hA : DataW.TrodAll enc Try.prog W 0 (fun _ => true) true Try.f3.params.toList args.toList ds p := hA0
  rw [Try.params3] at hA hval
  obtain ⟨v0, vs0, d0, ds0, p0, q0, hargs, rfl, rfl, h0, r0⟩ := trodAll_cons hA
  obtain ⟨rfl, rfl, rfl⟩ := trodAll_nil r0
  obtain rfl : args = #[v0] := by cases args; simp_all
  obtain ⟨rfl, rfl⟩ := trodVars_none hV
  have k0 := h0
  have lt0 : ∀ x ∈ p0, x.block < W.heap.size := by obtain ⟨m, hm⟩ := k0; exact DataW.trod_lt m _ _ _ hm
  obtain ⟨K0, E0, G0, a0, cap0, bs0, rfl, hKE0, hby0, hsl0, hlc0, hcm0, hn0⟩ := open_fr (hval 0 24 v0 rfl rfl) h0
  clear hA0 hval0
  refine (frameBytes_walk _ K0 E0 G0 a0 cap0 bs0 W hsl0 hby0 ⟨hlc0, hcm0⟩ hn0).mono fun e W' ⟨he, bel⟩ => ?_
  subst he
  exact ⟨_, rfl, _, _, _, [], _, [], hW', trodAll_mk1 (shut_bool Try.underlying4 _), (trodAll_cons_mk (Below.trod laidOut (by kernel_rfl) (of_decide_eq_true (by kernel_rfl)) k0 bel lt0) trodAll_mk0), rfl, bel.frame _, fun h => by cases h⟩

/-- THE STATEMENT. -/
theorem proved : Rows.FrameBytesSaid :=
  OpenClaim.holds_of_wide 3 Try.f3 rfl rfl rfl rfl rfl rfl rfl ⟨rfl, rfl, rfl, rfl, rfl⟩ rfl rfl rfl rfl rfl (by kernel_rfl) Try.func3 (by kernel_rfl)
    (of_decide_eq_true (by kernel_rfl)) (by unfold Func.isWrapper; first | (rw [if_pos (by decide +kernel)]; kernel_rfl) | (rw [if_neg (by decide +kernel)]; exact ⟨rfl, rfl⟩))
    (fun os started H enc _ => lifted os started H enc)
end frameBytes
end Go.Proofs.Ytmdimhijbmeioaa
