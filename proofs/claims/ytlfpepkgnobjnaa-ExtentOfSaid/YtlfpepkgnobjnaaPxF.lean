/- CONTRACTS: Part, Encode. -/
import Derived.Test.YtlfpepkgnobjnaaPxE
namespace Go.Proofs.Ytlfpepkgnobjnaa
open Go.RowKit Go.Inc

set_option maxRecDepth 20000 in
set_option maxHeartbeats 2000000 in
theorem pxPart (ok : Nat → Prop) (a : Option Addr) (c : Nat) (xs : List Xt) (i j : Int) (w : World) (hs : XtS ok w a xs) (hl : (xs.length : Int) ≤ 65536) (hbx : ∀ x ∈ xs, fitsX x) (hi : -9223372036854775808 ≤ i ∧ i ≤ 9223372036854775807) (hj : -9223372036854775808 ≤ j ∧ j ≤ 9223372036854775807) :
    Calls Try.prog 19 #[.slice a xs.length c, .int .i64 i, .int .i64 j] w fun e w' => (∃ v, e = .returned (.tuple #[v, .int .i64 (ptE xs i j)]) ∧ w'.ownsRow w.heap.size 57 2 v (ptX xs i j).length (xcells (ptX xs i j))) ∧ Below w.heap.size w w' := by
  have HO := hid (open_any ok a c xs w hs hl hbx)
  have HBAD : Hid (∀ (y : World) (E : Int), ptE xs i j = E → E ≠ 0 → (∃ v, Ending.returned (.tuple #[.slice none 0 0, .int .i64 E]) = .returned (.tuple #[v, .int .i64 (ptE xs i j)]) ∧ y.ownsRow w.heap.size 57 2 v (ptX xs i j).length (xcells (ptX xs i j)))) := hid fun y E hE hne => by
    have e : ptX xs i j = [] := if_neg (by rw [hE]; exact hne)
    rw [e, hE]
    exact ⟨_, rfl, World.ownsRow_nil _ _ _ _⟩
  have hcb := chkX_bnd xs
  obtain ⟨n, hn⟩ : ∃ n, n = xs.length := ⟨_, rfl⟩
  rw [← hn] at hl HO ⊢
  obtain ⟨E, hE⟩ : ∃ E, E = chkX xs := ⟨_, rfl⟩
  rw [← hE] at hcb HO
  have HE := hid hE
  clear hs hbx hn hE
  go_enter Try.func19, Try.ntmps19
  go_wp2_with fail
  refine HO.out.mono ?_
  clear HO
  rintro e w1 ⟨⟨v, rfl, hv⟩, hb⟩
  have HB := hid hb
  by_cases h0 : E = 0
  · have hE0 : (E != 0) = false := by rw [h0]; rfl
    have H0 : Hid (chkX xs = 0) := hid (by rw [← HE.out, h0])
    subst h0
    have hpc := pages_cnt H0.out
    rw [pgX_good H0.out] at hv
    obtain ⟨a2, c2, rfl, -, hsi, hmc, hcm, hnc⟩ := ownedZ hv
    have HSI := hid hsi
    have HNC := hid hnc
    obtain ⟨m, hm⟩ : ∃ m, m = (pagesX xs).length := ⟨_, rfl⟩
    have HM := hid hm
    rw [← hm] at hpc hmc ⊢
    clear hv hb hsi hm hnc
    by_cases hi0 : i < 0
    · have hd : decide (i < 0) = true := decide_eq_true hi0
      have HA : Hid (ptE xs i j = 10) := hid (ptE_out H0.out (.inl hi0))
      clear hi0
      go_wp2_with fail
      go_ret2
      exact ⟨HBAD.out _ 10 HA.out (by decide), HB.out⟩
    have hd : decide (i < 0) = false := decide_eq_false hi0
    by_cases hji : j < i
    · have hd2 : decide (j < i) = true := decide_eq_true hji
      have HA : Hid (ptE xs i j = 10) := hid (ptE_out H0.out (.inr (.inr hji)))
      clear hi0 hji
      go_wp2_with fail
      go_ret2
      exact ⟨HBAD.out _ 10 HA.out (by decide), HB.out⟩
    have hd2 : decide (j < i) = false := decide_eq_false hji
    by_cases hmj : (m : Int) < j
    · have hd3 : decide ((m : Int) < j) = true := decide_eq_true hmj
      have HA : Hid (ptE xs i j = 10) := hid (ptE_out H0.out (.inr (.inl (by rw [← HM.out]; exact hmj))))
      clear hi0 hji hmj
      go_wp2_with fail
      go_ret2
      exact ⟨HBAD.out _ 10 HA.out (by decide), HB.out⟩
    obtain ⟨p, rfl⟩ := Int.eq_ofNat_of_zero_le (show (0 : Int) ≤ i by omega)
    obtain ⟨q, rfl⟩ := Int.eq_ofNat_of_zero_le (show (0 : Int) ≤ j by omega)
    have HPT : Hid (ptE xs (p : Int) (q : Int) = 0) := hid (ptE_in H0.out (by omega) (by rw [← HM.out]; omega) (by omega))
    have hpq : (p : Int) ≤ (q : Int) := by omega
    have hqm : (q : Int) ≤ (m : Int) := by omega
    have hd2' : (q < p) = False := eq_false (by omega)
    have hd3' : (m < q) = False := eq_false (by omega)
    have hplen : (ptP xs (p : Int) (q : Int)).length = q - p := by
      have h := ptP_len (xs := xs) (a := (p : Int)) (b := (q : Int)) (by omega) (by rw [← HM.out]; omega) (by omega)
      omega
    have HOF : Hid (∀ a' : Option Addr, (p < q → a' = a2.map fun x => x.add p) → Calls Try.prog 6 #[.slice a' (q - p) (q - p)] w1 fun e w' => (∃ v, e = .returned (.tuple #[v, .int .i64 (ptE xs (p : Int) (q : Int))]) ∧ w'.ownsRow w1.heap.size 57 2 v (ptX xs (p : Int) (q : Int)).length (xcells (ptX xs (p : Int) (q : Int)))) ∧ Below w1.heap.size w1 w') := hid fun a' ha => by
      have hsc : Si (fun b => w.heap.size ≤ b) w1 a' (ptP xs (p : Int) (q : Int)) := siCut HSI.out p q a' ha
      have h := pxOf _ a' (q - p) (ptP xs (p : Int) (q : Int)) w1 hsc (by rw [hplen]; omega) (fun z hz => by
        have := pagesX_in (badX_false.1 (chkX_zero H0.out).1) z (ptP_mem hz)
        omega)
      rw [ptP_ok H0.out, hplen] at h
      rw [HPT.out, ptX_good HPT.out]
      exact h
    clear hi0 hji hmj hplen
    go_wp2_with fail
    · subst h
      have h1 := HOF.out a2 (fun hh => by omega)
      rw [Nat.sub_self] at h1
      refine h1.mono ?_
      clear h1
      clear HOF
      rintro e w2 ⟨⟨v, rfl, hv⟩, hb2⟩
      have HB2 : Hid (Below w.heap.size w w2) := hid (HB.out.trans (hb2.mono HB.out.size))
      have HV2 : Hid (w2.ownsRow w.heap.size 57 2 v (ptX xs (q : Int) (q : Int)).length (xcells (ptX xs (q : Int) (q : Int)))) := hid (ownsWeaken hv HB.out.size)
      clear hv hb2
      go_wp2_with fail
      go_ret2
      exact ⟨⟨_, rfl, HV2.out⟩, HB2.out⟩
    · refine (HOF.out _ (fun _ => rfl)).mono ?_
      clear HOF
      rintro e w2 ⟨⟨v, rfl, hv⟩, hb2⟩
      have HB2 : Hid (Below w.heap.size w w2) := hid (HB.out.trans (hb2.mono HB.out.size))
      have HV2 : Hid (w2.ownsRow w.heap.size 57 2 v (ptX xs (p : Int) (q : Int)).length (xcells (ptX xs (p : Int) (q : Int)))) := hid (ownsWeaken hv HB.out.size)
      clear hv hb2
      go_wp2_with fail
      go_ret2
      exact ⟨⟨_, rfl, HV2.out⟩, HB2.out⟩
  · have hE0 : (E != 0) = true := by rw [bne_iff_ne]; exact h0
    have HF : Hid (ptE xs i j = E) := hid (by rw [HE.out]; exact ptE_bad (by rw [← HE.out]; exact h0))
    have H0 := hid h0
    clear h0 hv hb
    go_wp2_with fail
    go_ret2
    exact ⟨HBAD.out _ E HF.out H0.out, HB.out⟩

set_option maxRecDepth 20000 in
set_option maxHeartbeats 2000000 in
theorem pxEncode (ok : Nat → Prop) (a : Option Addr) (c : Nat) (xs : List Xt) (w : World) (hs : XtS ok w a xs) (hl : (xs.length : Int) ≤ 30000) (hbx : ∀ x ∈ xs, fitsX x) :
    Calls Try.prog 21 #[.slice a xs.length c] w fun e w' => (∃ v, e = .returned (.tuple #[v, .int .i64 (chkX xs)]) ∧ Row 5 w.heap.size w' v (if chkX xs = 0 then encX xs else [])) ∧ Below w.heap.size w w' := by
  have HCK := hid (pxCheck ok a c xs w hs (by omega) hbx)
  have HS := hid hs.old
  have hcb := chkX_bnd xs
  obtain ⟨n, hn⟩ : ∃ n, n = xs.length := ⟨_, rfl⟩
  have HN := hid hn
  rw [← hn] at hl HCK ⊢
  obtain ⟨E, hE⟩ : ∃ E, E = chkX xs := ⟨_, rfl⟩
  rw [← hE] at hcb HCK ⊢
  have HE := hid hE
  clear hs hbx hn hE
  by_cases h0 : E = 0
  · have hE0 : (E != 0) = false := by rw [h0]; rfl
    have H0 : Hid (chkX xs = 0) := hid (by rw [← HE.out, h0])
    have HOK : Hid (∀ x ∈ xs, okX x = true) := hid (badX_false.1 (chkX_zero H0.out).1)
    subst h0
    go_enter Try.func21, Try.ntmps21
    go_wp2_with fail
    refine HCK.out.mono ?_
    clear HCK
    rintro e w1 ⟨rfl, hb⟩
    have HB1 := hid hb
    clear hb
    go_wp2_with fail
    go_loopw [5, 15] (fun v i wr => ∃ k : Nat, k ≤ n ∧ i = .int .i64 (k : Int) ∧ wr.ownsRow w.heap.size 3 1 v (k * 2) (zvals (flatX (xs.take k))) ∧ Below w.heap.size w wr) (fun _ i _ => n - (intOf i).toNat)
    case atStart => exact ⟨0, Nat.zero_le _, rfl, World.ownsRow_nil _ _ _ _, HB1.out⟩
    case round =>
      clear HB1
      obtain ⟨k, hk, rfl, hv, hb⟩ := hrel
      have HV := hid hv
      have HB := hid hb
      clear hv hb
      by_cases hlt : (k : Int) < n
      · have hkn : (k < n) = True := eq_true (by omega)
        obtain ⟨b, o, rfl, hc1, hc2⟩ := (HS.out.below HB.out).cell (i := k) (by have := HN.out; omega)
        have HSN := hid (takeSnoc (bs := xs) (d := ((0 : Int), (0 : Int))) (k := k) (by have := HN.out; omega))
        obtain ⟨⟨F, G⟩, hx⟩ : ∃ x, x = xs.getD k (0, 0) := ⟨_, rfl⟩
        rw [← hx] at hc1 hc2 HSN
        simp only at hc1 hc2
        have HVA : Hid (((wr.alloc (.cells #[.int .i64 F, .int .i64 G] 57)).alloc (.cells #[.int .i64 F, .int .i64 G] 3)).ownsRow w.heap.size 3 1 u5 (k * 2) (zvals (flatX (xs.take k)))) := hid ((HV.out.alloc _).alloc _)
        have HBA : Hid (Below w.heap.size w ((wr.alloc (.cells #[.int .i64 F, .int .i64 G] 57)).alloc (.cells #[.int .i64 F, .int .i64 G] 3))) := hid ((HB.out.alloc HB.out.size _).alloc (by have := HB.out.size; simp; omega) _)
        have HNC : Hid (∀ ad, some (⟨wr.heap.size + 1, 0, none⟩ : Addr) = some ad → ∀ j u, ([Value.int .i64 F, Value.int .i64 G] : List Value)[j]? = some u → ((wr.alloc (.cells #[.int .i64 F, .int .i64 G] 57)).alloc (.cells #[.int .i64 F, .int .i64 G] 3)).cell? (ad.add j) = some u) := hid (fun ad had => by
          have e : wr.heap.size + 1 = (wr.alloc (.cells #[.int .i64 F, .int .i64 G] 57)).heap.size := by simp
          cases had
          rw [e]
          exact newCells _ [.int .i64 F, .int .i64 G] _)
        have HSZ : Hid (w.heap.size ≤ wr.heap.size) := hid HB.out.size
        clear hx HV HB
        go_wp2_with (refine wpList_append_any rfl (.tmp 19) (.tmp 24) 22 rfl w.heap.size 3 (.int .i64 0) 8 Try.underlying22 infoIn rfl _ (k * 2) _ rfl HVA.out (some ⟨wr.heap.size + 1, 0, none⟩) 2 2 [.int .i64 F, .int .i64 G] rfl rfl (by intro h; cases h) HNC.out (by simp [Value.oneCell']) (by unfold maxLen; omega) (by omega) (by have := HSZ.out; simp; omega) ?_)
        intro v4 w4 hv4 hg4 _
        have HB4 : Hid (Below w.heap.size w w4) := hid (below_owned (w0 := w) HBA.out HVA.out (Nat.le_refl _) hg4)
        have HV4 : Hid (w4.ownsRow w.heap.size 3 1 v4 ((k + 1) * 2) (zvals (flatX (xs.take (k + 1))))) := hid (by
          rw [HSN.out, flatX_snoc, zvals_app, show (k + 1) * 2 = k * 2 + 2 by omega]
          exact hv4)
        clear hv4 hg4 HVA HBA hc1 hc2 HNC
        go_wp2_with fail
        go_roundw
        case rel => exact ⟨k + 1, by omega, by go_num, HV4.out, HB4.out⟩
        case measure => simp [intOf]; omega
      · have hkf : (k < n) = False := eq_false (by omega)
        have HKN : Hid (k = n) := hid (by omega)
        obtain ⟨av, cv, rfl, hkl, hsi, -, -, -⟩ := ownedZ HV.out
        have hfull : flatX (xs.take k) = flatX xs := by rw [HKN.out, HN.out, List.take_length]
        rw [hfull] at hsi hkl ⊢
        have hpos : ∀ z ∈ flatX xs, 1 ≤ z ∧ z ≤ 2048 := fun z hz => by
          obtain ⟨x, hx, hzx⟩ := flatX_mem hz
          have := okX_iff.1 (HOK.out x hx)
          rcases hzx with h | h <;> omega
        have HNEG : Hid (anyNeg (flatX xs) = false) := hid (by
          cases hh : anyNeg (flatX xs)
          · rfl
          · unfold anyNeg at hh
            obtain ⟨z, hz, hzn⟩ := List.any_eq_true.1 hh
            have := hpos z hz
            have := of_decide_eq_true hzn
            omega)
        have HL := hid (list_any _ av cv (flatX xs) wr hsi (by rw [flatX_len, ← HN.out]; omega) (fun z hz => by have := hpos z hz; omega))
        have HENC : Hid (listOf (flatX xs) = encX xs) := hid (by
          unfold listOf
          rw [HNEG.out]; rfl)
        rw [HENC.out] at HL
        obtain ⟨m, hm⟩ : ∃ m, m = (flatX xs).length := ⟨_, rfl⟩
        rw [← hm] at HL ⊢
        clear hlt hkl hsi hfull hpos hm
        go_wp2_with fail
        refine HL.out.mono ?_
        clear HL
        rintro e w2 ⟨v2, rfl, hr2, hb2⟩
        have HR2 := hid hr2
        have HB2 : Hid (Below w.heap.size w w2) := hid (HB.out.trans (hb2.mono HB.out.size))
        clear hr2 hb2
        go_wp2_with fail
        go_ret2
        exact ⟨⟨_, rfl, HR2.out.weaken HB.out.size⟩, HB2.out⟩
  · have hE0 : (E != 0) = true := by rw [bne_iff_ne]; exact h0
    have H0 := hid h0
    clear h0
    go_enter Try.func21, Try.ntmps21
    go_wp2_with fail
    refine HCK.out.mono ?_
    clear HCK
    rintro e w1 ⟨rfl, hb⟩
    have HB1 := hid hb
    clear hb
    go_wp2_with fail
    go_ret2
    exact ⟨⟨_, rfl, Row.nil _ _ _⟩, HB1.out⟩
end Go.Proofs.Ytlfpepkgnobjnaa
