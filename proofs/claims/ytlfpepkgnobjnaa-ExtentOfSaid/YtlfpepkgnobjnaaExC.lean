/- CONTRACTS: the document's All, Check, Same of extents. -/
import Derived.Test.YtlfpepkgnobjnaaExB
namespace Go.Proofs.Ytlfpepkgnobjnaa
open Go.RowKit Go.Inc

set_option maxRecDepth 20000 in
set_option maxHeartbeats 4000000 in
theorem rAll_any (ok : Nat → Prop) (a : Option Addr) (c : Nat) (xs : List Xt) (w : World) (hs : XtS ok w a xs) (hok : ∀ x ∈ xs, okX x = true) (hl : (xs.length : Int) ≤ 65536) :
    Calls Try.prog 20 #[.slice a xs.length c] w fun e w' => (∃ v, e = .returned v ∧ w'.ownsRow w.heap.size 3 1 v (pagesX xs).length (zvals (pagesX xs))) ∧ Below w.heap.size w w' := by
  have HS := hid hs.old
  have HOK := hid hok
  obtain ⟨n, hn⟩ : ∃ n, n = xs.length := ⟨_, rfl⟩
  have HN := hid hn
  rw [← hn] at hl ⊢
  clear hs hok hn
  go_enter Try.func20, Try.ntmps20
  go_wp2_with fail
  go_loopw [3, 4] (fun v i wr => ∃ k : Nat, k ≤ n ∧ i = .int .i64 (k : Int) ∧ wr.ownsRow w.heap.size 3 1 v (pagesX (xs.take k)).length (zvals (pagesX (xs.take k))) ∧ Below w.heap.size w wr) (fun _ i _ => n - (intOf i).toNat)
  case atStart => exact ⟨0, Nat.zero_le _, rfl, by rw [List.take_zero]; exact World.ownsRow_nil _ _ _ _, Below.refl _ _⟩
  case round =>
    obtain ⟨k, hk, rfl, hv, hb⟩ := hrel
    have HV := hid hv
    have HB := hid hb
    clear hv hb
    obtain ⟨wj, hwj⟩ : ∃ wj, wj = wr := ⟨_, rfl⟩
    subst hwj
    by_cases hlt : (k : Int) < n
    · have hkn : (k < n) = True := eq_true (by omega)
      have HSN := hid (takeSnoc (bs := xs) (d := ((0 : Int), (0 : Int))) (k := k) (by have := HN.out; omega))
      have HM := hid (memGetD (zs := xs) (d := ((0 : Int), (0 : Int))) (k := k) (by have := HN.out; omega))
      obtain ⟨⟨F, G⟩, hx⟩ : ∃ x, x = xs.getD k (0, 0) := ⟨_, rfl⟩
      have HX := hid hx
      rw [← hx] at HSN HM
      have hxx := okX_iff.1 (HOK.out _ HM.out)
      simp only at hxx
      obtain ⟨m, rfl⟩ := Int.eq_ofNat_of_zero_le (show (0 : Int) ≤ G by omega)
      have hFb : F ≤ 2047 ∧ 2 ≤ F ∧ (m : Int) ≤ 2046 := by omega
      obtain ⟨hF1, hF2, hm1⟩ := hFb
      obtain ⟨L, hL⟩ : ∃ L, L = (pagesX (xs.take k)).length := ⟨_, rfl⟩
      have HL := hid hL
      have HLB : Hid ((L : Int) ≤ 2046 * k) := hid (by
        have hp : ∀ x ∈ xs.take k, okX x = true := fun x hx => HOK.out x (List.mem_of_mem_take hx)
        have h1 := pagesX_len _ hp
        have h2 := (sumX_bnd _ hp).2
        rw [List.length_take] at h2
        omega)
      rw [← hL] at HV
      clear hx hxx hL
      go_wp2_with fail
      go_loopw [3, 5] (fun v j wr => ∃ q : Nat, q ≤ m ∧ j = .int .i64 (q : Int) ∧ wr.ownsRow w.heap.size 3 1 v (L + q) (zvals (pagesX (xs.take k) ++ partX (F, (m : Int)) q)) ∧ Below w.heap.size w wr) (fun _ j _ => m - (intOf j).toNat)
      case atStart => exact ⟨0, Nat.zero_le _, rfl, by rw [Nat.add_zero, show partX (F, (m : Int)) 0 = [] from rfl, List.append_nil]; exact HV.out, HB.out⟩
      case round =>
        clear HV HB
        obtain ⟨q, hq, rfl, hv, hb⟩ := hrel
        have HV := hid hv
        have HB := hid hb
        clear hv hb
        obtain ⟨b, o, rfl, hc1, hc2⟩ := (HS.out.below HB.out).cell (i := k) (by have := HN.out; omega)
        rw [← HX.out] at hc1 hc2
        simp only at hc1 hc2
        by_cases hqm : (q : Int) < m
        · have hqm2 : (q < m) = True := eq_true (by omega)
          have hlb : (L + q : Int) ≤ 140000000 := by have := HLB.out; omega
          have HPS := hid (partX_snoc (F, (m : Int)) q)
          clear hqm
          go_wp2_with (refine wpList_append_any rfl (.tmp 21) (.tmp 29) 22 rfl w.heap.size 3 (.int .i64 0) 8 Try.underlying22 infoI8 rfl _ _ _ rfl (HV.out.alloc _) (some ⟨wr.heap.size, 0, none⟩) 1 1 _ rfl rfl (by intro h; cases h) (one_new wr _ _) (by simp [Value.oneCell']) (by unfold maxLen; omega) (by omega) (by have := HB.out.size; simp; omega) ?_)
          intro v4 w4 hv4 hg4 _
          have HB4 : Hid (Below w.heap.size w w4) := hid (below_owned (w0 := w) (HB.out.alloc HB.out.size _) (HV.out.alloc _) (Nat.le_refl _) hg4)
          have HV4 : Hid (w4.ownsRow w.heap.size 3 1 v4 (L + (q + 1)) (zvals (pagesX (xs.take k) ++ partX (F, (m : Int)) (q + 1)))) := hid (by rw [HPS.out, ← List.append_assoc, zvals_app]; exact hv4)
          clear hv4 hg4 HV HB
          go_wp2_with fail
          go_roundw
          case rel => exact ⟨q + 1, of_eq_true hqm2, by go_num, HV4.out, HB4.out⟩
          case measure => have := of_eq_true hqm2; simp [intOf]; omega
        · have hqf : (q < m) = False := eq_false (by omega)
          have HQM : Hid (q = m) := hid (by omega)
          clear hqm
          go_wp2_with fail
          go_roundw
          case rel =>
            refine ⟨k + 1, by omega, by go_num, ?_, HB.out⟩
            have hv := HV.out
            rw [HQM.out] at hv
            rw [HSN.out, pagesX_snoc, List.length_append, ← HL.out]
            unfold pagesX1
            rw [partX_len]
            exact hv
          case measure => simp [intOf]; omega
    · have hkf : (k < n) = False := eq_false (by omega)
      have HKN : Hid (k = n) := hid (by omega)
      clear hlt
      go_wp2_with fail
      go_ret
      exact ⟨⟨_, rfl, by have h := HV.out; rw [HKN.out, HN.out, List.take_length] at h; exact h⟩, HB.out⟩
set_option maxRecDepth 20000 in
set_option maxHeartbeats 1500000 in
theorem rCheck_any (ok : Nat → Prop) (a : Option Addr) (c : Nat) (xs : List Xt) (w : World) (hs : XtS ok w a xs) (hl : (xs.length : Int) ≤ 65536) (hbx : ∀ x ∈ xs, (-9223372036854775808 ≤ x.1 ∧ x.1 ≤ 9223372036854775807) ∧ -9223372036854775808 ≤ x.2 ∧ x.2 ≤ 9223372036854775807) :
    Calls Try.prog 16 #[.slice a xs.length c] w fun e w' => e = .returned (.int .i64 (chkX xs)) ∧ Below w.heap.size w w' := by
  have HS := hid hs.old
  have HBX := hid hbx
  have HALL : Hid (∀ y, Below w.heap.size w y → (∀ x ∈ xs, okX x = true) → Calls Try.prog 20 #[.slice a xs.length c] y fun e w' => (∃ v, e = .returned v ∧ w'.ownsRow y.heap.size 3 1 v (pagesX xs).length (zvals (pagesX xs))) ∧ Below y.heap.size y w') := hid fun y hy hok => rAll_any ok a c xs y (hs.below hy) hok hl
  obtain ⟨n, hn⟩ : ∃ n, n = xs.length := ⟨_, rfl⟩
  have HN := hid hn
  rw [← hn] at hl HALL ⊢
  clear hs hn hbx
  go_enter Try.func16, Try.ntmps16
  go_wp2_with fail
  go_loopw [3, 4] (fun s i wr => ∃ k : Nat, k ≤ n ∧ i = .int .i64 (k : Int) ∧ s = .int .i64 (sumX (xs.take k)) ∧ (∀ x ∈ xs.take k, okX x = true) ∧ Below w.heap.size w wr) (fun _ i _ => n - (intOf i).toNat)
  case atStart => exact ⟨0, Nat.zero_le _, rfl, rfl, by simp, Below.refl _ _⟩
  case round =>
    obtain ⟨k, hk, rfl, rfl, hg, hb⟩ := hrel
    have HG := hid hg
    have HB := hid hb
    have hsb := sumX_bnd _ hg
    rw [List.length_take] at hsb
    obtain ⟨S, hS⟩ : ∃ S, S = sumX (xs.take k) := ⟨_, rfl⟩
    have HSS := hid hS
    rw [← hS] at hsb ⊢
    have hsb2 : 0 ≤ S ∧ S ≤ 140000000 := by omega
    clear hg hb hS hsb
    by_cases hlt : (k : Int) < n
    · have hkn : (k < n) = True := eq_true (by omega)
      have HSN := hid (takeSnoc (bs := xs) (d := ((0 : Int), (0 : Int))) (k := k) (by have := HN.out; omega))
      have HM := hid (memGetD (zs := xs) (d := ((0 : Int), (0 : Int))) (k := k) (by have := HN.out; omega))
      obtain ⟨b, o, rfl, hc1, hc2⟩ := (HS.out.below HB.out).cell (i := k) (by have := HN.out; omega)
      obtain ⟨⟨F, G⟩, hx⟩ : ∃ x, x = xs.getD k (0, 0) := ⟨_, rfl⟩
      rw [← hx] at HSN HM hc1 hc2
      simp only at hc1 hc2
      have hbF := HBX.out _ HM.out
      simp only at hbF
      clear hx
      by_cases h1 : F < 2
      · have HO : Hid (chkX xs = 10) := hid (chkX_bad (badX_true HM.out (Bool.eq_false_iff.2 fun hh => by have := okX_iff.1 hh; simp only at this; omega)))
        go_wp2_with fail
        go_quiet (fail)
        go_wp2_with fail
        go_ret
        exact ⟨by rw [HO.out]; rfl, HB.out.trans ((belowDrew _ _).mono HB.out.size)⟩
      have h1' : (2 : Int) ≤ F := by omega
      have h1d : decide (F < 2) = false := decide_eq_false h1
      clear h1
      have H1 := hid h1'
      clear h1'
      by_cases h2 : (2047 : Int) < F
      · have HO : Hid (chkX xs = 10) := hid (chkX_bad (badX_true HM.out (Bool.eq_false_iff.2 fun hh => by have := okX_iff.1 hh; simp only at this; omega)))
        have h2T : decide ((2047 : Int) < F) = true := decide_eq_true h2
        clear h2
        go_wp2_with fail
        go_quiet (fail)
        go_wp2_with fail
        go_ret
        exact ⟨by rw [HO.out]; rfl, HB.out.trans ((belowDrew _ _).mono HB.out.size)⟩
      have h2F : decide ((2047 : Int) < F) = false := decide_eq_false h2
      have H2 : Hid (F ≤ 2047) := hid (by omega)
      clear h2
      by_cases h3 : G < 1
      · have HO : Hid (chkX xs = 10) := hid (chkX_bad (badX_true HM.out (Bool.eq_false_iff.2 fun hh => by have := okX_iff.1 hh; simp only at this; omega)))
        have h3T : decide (G < 1) = true := decide_eq_true h3
        clear h3
        go_wp2_with fail
        go_quiet (fail)
        go_wp2_with fail
        go_ret
        exact ⟨by rw [HO.out]; rfl, HB.out.trans ((belowDrew _ _).mono HB.out.size)⟩
      have h3' : (1 : Int) ≤ G := by omega
      have H3 := hid h3'
      have h3F : decide (G < 1) = false := decide_eq_false h3
      clear h3 h3'
      obtain ⟨D, hD⟩ : ∃ D, D = 2048 - F := ⟨_, rfl⟩
      have hD2 : 2048 - F = D := hD.symm
      have HD := hid hD
      have hDb : 1 ≤ D ∧ D ≤ 2046 := by have := H1.out; have := H2.out; omega
      clear hD
      by_cases h4 : D < G
      · have HO : Hid (chkX xs = 10) := hid (chkX_bad (badX_true HM.out (Bool.eq_false_iff.2 fun hh => by have := okX_iff.1 hh; have := HD.out; omega)))
        have h4T : decide (D < G) = true := decide_eq_true h4
        clear h4
        go_wp2_with fail
        go_quiet (fail)
        go_wp2_with fail
        go_ret
        exact ⟨by rw [HO.out]; rfl, HB.out.trans ((belowDrew _ _).mono HB.out.size)⟩
      have h4F : decide (D < G) = false := decide_eq_false h4
      have H4 : Hid (G ≤ D) := hid (by omega)
      have HOKX : Hid (okX (F, G) = true) := hid (okX_iff.2 ⟨H1.out, H2.out, H3.out, by have := HD.out; have := H4.out; simp only; omega⟩)
      have hGb : 1 ≤ G ∧ G ≤ 2046 := by have := H3.out; have := H4.out; omega
      clear h4
      go_wp2_with fail
      go_quiet (fail)
      have HBQ : Hid (Below w.heap.size w (wr.drewN nq)) := hid (HB.out.trans ((belowDrew _ _).mono HB.out.size))
      have hc2' := ((belowDrew wr nq).cell (cell_lt hc2)).trans hc2
      generalize wr.drewN nq = wq at *
      clear hc1 hc2 HB
      go_wp2_with fail
      go_roundw
      case rel => exact ⟨k + 1, by omega, by go_num, by rw [HSN.out, sumX_snoc, ← HSS.out], by rw [HSN.out]; intro x hx; rcases snocMem.1 hx with h | h; exact HG.out x h; subst h; exact HOKX.out, HBQ.out⟩
      case measure => simp [intOf]; omega
    · have hkf : (k < n) = False := eq_false (by omega)
      have HGA : Hid (∀ x ∈ xs, okX x = true) := hid (by have h := HG.out; rw [show k = n by omega, HN.out, List.take_length] at h; exact h)
      have HSA : Hid (S = sumX xs) := hid (by have h := HSS.out; rw [show k = n by omega, HN.out, List.take_length] at h; exact h)
      have HBF : Hid (badX xs = false) := hid (badX_false.2 HGA.out)
      obtain ⟨wi, hwi⟩ : ∃ wi, wi = wr := ⟨_, rfl⟩
      subst hwi
      clear hlt HG HSS
      by_cases hlong : (1024 : Int) < S
      · have HO : Hid (chkX xs = 2) := hid (chkX_long HBF.out (by rw [← HSA.out]; exact hlong))
        have hlongT : ((1024 : Int) < S) = True := eq_true hlong
        go_wp2_with fail
        go_ret
        exact ⟨by rw [HO.out]; rfl, HB.out⟩
      have hlongF : ((1024 : Int) < S) = False := eq_false hlong
      have HSH : Hid (sumX xs ≤ 1024) := hid (by rw [← HSA.out]; omega)
      clear hlong
      go_wp2_with fail
      refine (HALL.out wi HB.out HGA.out).mono ?_
      clear HALL
      rintro e w2 ⟨⟨v, rfl, hv⟩, hb2⟩
      have HB2 : Hid (Below w.heap.size w w2) := hid (HB.out.trans (hb2.mono HB.out.size))
      obtain ⟨a2, c2, rfl, -, hsi, -, -, -⟩ := ownedZ hv
      have HTW := hid (rTwice_any _ a2 c2 (pagesX xs) w2 hsi (pagesX_in HGA.out) (by have := pagesX_len xs HGA.out; have := HSH.out; omega))
      obtain ⟨L, hL⟩ : ∃ L, L = (pagesX xs).length := ⟨_, rfl⟩
      rw [← hL] at HTW ⊢
      clear hv hb2 hsi HB hL
      by_cases hnd : (pagesX xs).Nodup
      · rw [decide_eq_true hnd] at HTW
        have HND := hid hnd
        clear hnd
        go_wp2_with fail
        refine HTW.out.mono ?_
        clear HTW
        rintro e w3 ⟨rfl, hb3⟩
        have HB3 : Hid (Below w.heap.size w w3) := hid (HB2.out.trans (hb3.mono HB2.out.size))
        clear hb3 HB2
        go_wp2_with fail
        go_loopw [5] (fun i wr => ∃ k : Nat, 1 ≤ k ∧ i = .int .i64 (k : Int) ∧ (k ≤ n ∨ k = 1) ∧ (∀ j, j < k → j < n → touchAt xs j = false) ∧ Below w.heap.size w wr) (fun i _ => n - (intOf i).toNat)
        case atStart => exact ⟨1, Nat.le_refl _, rfl, .inr rfl, fun j hj _ => by rw [show j = 0 by omega]; rfl, HB3.out⟩
        case round =>
          clear HB3
          obtain ⟨k, hk1, rfl, hkn0, ht, hb⟩ := hrel
          have HT := hid ht
          have HB := hid hb
          clear ht hb
          by_cases hlt : (k : Int) < n
          · have hkn : (k < n) = True := eq_true (by omega)
            obtain ⟨j, rfl⟩ : ∃ j, k = j + 1 := ⟨k - 1, by omega⟩
            obtain ⟨b, o, rfl, hc1, hc2⟩ := (HS.out.below HB.out).cell (i := j + 1) (by have := HN.out; omega)
            obtain ⟨b', o', hab, hd1, hd2⟩ := (HS.out.below HB.out).cell (i := j) (by have := HN.out; omega)
            cases hab
            obtain ⟨⟨F, G⟩, hx⟩ : ∃ x, x = xs.getD (j + 1) (0, 0) := ⟨_, rfl⟩
            obtain ⟨⟨F', G'⟩, hx'⟩ : ∃ x, x = xs.getD j (0, 0) := ⟨_, rfl⟩
            have hm' := okX_iff.1 (HGA.out _ (memGetD (zs := xs) (d := ((0 : Int), (0 : Int))) (k := j) (by have := HN.out; omega)))
            have hta : touchAt xs (j + 1) = decide (F' + G' = F) := by
              unfold touchAt
              rw [Nat.add_sub_cancel, ← hx, ← hx', decide_eq_true (by omega), Bool.true_and]
            rw [← hx'] at hd1 hd2 hm'
            rw [← hx] at hc1 hc2
            simp only at hc1 hc2 hd1 hd2 hm'
            obtain ⟨hm1, hm2, hm3, hm4⟩ := hm'
            have HTA := hid hta
            have hkj : ((j + 1 : Nat) : Int) - 1 = (j : Int) := by omega
            have hjn : (j < n) = True := eq_true (by omega)
            have hjn2 : (j : Int) < (n : Int) := by omega
            have hjc : ((j + 1 : Nat) : Int) = (j : Int) + 1 := by omega
            have hjn3 : (j : Int) + 1 < (n : Int) := by omega
            have hjn4 : (j + 1 < n) = True := eq_true (by omega)
            clear hx hx' hta
            by_cases heq : F' + G' = F
            · have hq : (F' + G' == F) = true := by rw [beq_iff_eq]; exact heq
              have HO : Hid (chkX xs = 3) := hid (chkX_touch HBF.out HSH.out HND.out (touchX_true (i := j + 1) (by rw [← HN.out]; omega) (by rw [HTA.out, decide_eq_true heq])))
              clear heq
              go_wp2_with fail
              go_quiet (fail)
              go_wp2_with fail
              go_ret
              exact ⟨by rw [HO.out]; rfl, HB.out.trans ((belowDrew _ _).mono HB.out.size)⟩
            · have hq : (F' + G' == F) = false := by rw [beq_eq_false_iff_ne]; exact heq
              have HNE := hid heq
              clear heq
              go_wp2_with fail
              go_quiet (fail)
              go_wp2_with fail
              go_roundw
              case rel =>
                refine ⟨j + 2, by omega, by go_num, .inl (by omega), fun i hi hin => ?_, HB.out.trans ((belowDrew _ _).mono HB.out.size)⟩
                by_cases hij : i = j + 1
                · subst hij; rw [HTA.out, decide_eq_false HNE.out]
                · exact HT.out i (by omega) hin
              case measure => simp [intOf]; omega
          · have hkf : (k < n) = False := eq_false (by omega)
            have HO : Hid (chkX xs = 0) := hid (chkX_ok HBF.out HSH.out HND.out (touchX_false.2 fun i hi => HT.out i (by have := HN.out; omega) (by have := HN.out; omega)))
            clear hlt
            go_wp2_with fail
            go_ret
            exact ⟨by rw [HO.out]; rfl, HB.out⟩
      · rw [decide_eq_false hnd] at HTW
        have HO : Hid (chkX xs = 8) := hid (chkX_twice HBF.out HSH.out hnd)
        clear hnd
        go_wp2_with fail
        refine HTW.out.mono ?_
        clear HTW
        rintro e w3 ⟨rfl, hb3⟩
        have HB3 : Hid (Below w.heap.size w w3) := hid (HB2.out.trans (hb3.mono HB2.out.size))
        clear hb3 HB2
        go_wp2_with fail
        go_ret
        exact ⟨by rw [HO.out]; rfl, HB3.out⟩
end Go.Proofs.Ytlfpepkgnobjnaa
