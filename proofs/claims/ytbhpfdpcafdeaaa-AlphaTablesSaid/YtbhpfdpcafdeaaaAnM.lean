/- CONTRACTS (alpha, as it landed): Parse. -/
import Derived.Test.YtbhpfdpcafdeaaaAnL
namespace Go.Proofs.Ytbhpfdpcafdeaaa
open Go.RowKit Go.Inc
/-- What Parse answers. -/
def PpAns (x : World) (bs : List Nat) (e : Ending) (w' : World) : Prop :=
  (paE bs ≠ 0 → ∃ u, e = .returned (.tuple #[.pointer none, u, .int .i64 (paE bs : Nat)])) ∧
  (paE bs = 0 → ∃ b u cu, e = .returned (.tuple #[.pointer (some ⟨b, 0, none⟩), .slice u (paR bs).length cu, .int .i64 0]) ∧ Tb w' b (listVals bs) (listVals (listRest bs)) ∧ Sl (fun g => x.heap.size ≤ g) w' u (paR bs))
theorem paOk_sum {us vs : List Nat} (h : paOk us vs) : vs.sum ≤ 65536 := by
  by_cases h0 : us.length = 0
  · have : vs = [] := List.eq_nil_of_length_eq_zero (by rw [← h.1]; exact h0)
    subst this; decide
  · have h1 := (paI_iff.1 (h.2 (us.length - 1) (by omega))).2.2.2
    rw [sum_take_le _ _ (by rw [← h.1]; omega), Nat.sub_add_cancel (by omega), List.take_of_length_le (by rw [h.1]; exact Nat.le_refl _)] at h1
    exact h1
set_option maxRecDepth 20000 in
set_option maxHeartbeats 4000000 in
theorem parse_any (ok : Nat → Prop) (x : World) (a : Option Addr) (c : Nat) (bs : List Nat) (hs : Sl ok x a bs) (hc : bs.length ≤ c ∧ c ≤ maxLen) (hn : a = none → c = 0) (hby : Bytes bs) (hl : bs.length ≤ 65536) :
    Calls Try.prog 27 #[.slice a bs.length c] x fun e w' => PpAns x bs e w' ∧ Below x.heap.size x w' := by
  have HG1 := hid (getList_any ok a c bs x hs hc hn hby (by omega))
  have HBY := hid hby
  have HL := hid hl
  have HPE : Hid (paE bs = if listErr bs ≠ 0 then listErr bs else if listErr (listRest bs) ≠ 0 then listErr (listRest bs) else if paOk (listVals bs) (listVals (listRest bs)) then 0 else 3) := hid rfl
  obtain ⟨f1, hf1⟩ : ∃ f, f = listErr bs := ⟨_, rfl⟩
  have HF1 := hid hf1
  rw [← hf1] at HG1 HPE
  obtain ⟨n, hnn⟩ : ∃ n, n = bs.length := ⟨_, rfl⟩
  rw [← hnn] at HG1 ⊢
  have hnb : (n : Int) ≤ 65536 := by omega
  clear hs hc hn hby hl hf1 hnn
  go_enter Try.func27, Try.ntmps27
  go_wp2_with fail
  refine HG1.out.mono ?_
  rintro e w1 ⟨⟨u1, v1, rfl, hi1, hr1⟩, hb1⟩
  have HI1 := hid hi1
  have HR1 := hid hr1
  have HB1 := hid hb1
  clear hi1 hr1 hb1 HG1
  by_cases h1 : f1 = 0
  · subst h1
    rw [if_neg (by simp)] at HPE
    obtain ⟨a2, c2, rfl, hn2, hl2, hc2, hs2⟩ := HR1.out.sl
    have HRL := hid (list_restA HBY.out)
    have HG2 := hid (getList_any _ a2 c2 (listRest bs) w1 hs2 ⟨hl2, hc2⟩ hn2 (list_bytesA HBY.out) (by have := HRL.out; have := HL.out; omega))
    obtain ⟨f2, hf2⟩ : ∃ f, f = listErr (listRest bs) := ⟨_, rfl⟩
    have HF2 := hid hf2
    rw [← hf2] at HG2 HPE
    clear hn2 hl2 hc2 hs2 hf2 HR1
    go_wp2_with fail
    refine HG2.out.mono ?_
    rintro e w2 ⟨⟨u2, v2, rfl, hi2, hr2⟩, hb2⟩
    have HI1b := hid (own_belowA HI1.out hb2)
    have HI2 := hid hi2
    have HR2 := hid hr2
    have HB2 := hid (HB1.out.trans (hb2.mono HB1.out.size))
    have HXS : Hid (x.heap.size ≤ w1.heap.size) := hid HB1.out.size
    clear hi2 hr2 hb2 HG2 HI1 HB1
    by_cases h2 : f2 = 0
    · subst h2
      rw [if_neg (by simp)] at HPE
      obtain ⟨a3, c3, rfl, -, -, -, -, hs3⟩ := Si.ownedN HI1b.out
      obtain ⟨a4, c4, rfl, -, -, -, -, hs4⟩ := Si.ownedN HI2.out
      have HPP := hid (paired_any _ _ w2 a3 a4 c3 c4 (listVals bs) (listVals (listRest bs)) hs3 hs4 list_lenA list_lenA (list_leA _) (list_leA _))
      obtain ⟨us, hus⟩ : ∃ us, us = listVals bs := ⟨_, rfl⟩
      obtain ⟨vs, hvs⟩ : ∃ vs, vs = listVals (listRest bs) := ⟨_, rfl⟩
      have HUS := hid hus
      have HVS := hid hvs
      rw [← hus, ← hvs] at HPP HPE
      rw [← hus] at HI1b ⊢
      rw [← hvs] at HI2 ⊢
      clear hs3 hs4 hus hvs
      go_wp2_with fail
      refine HPP.out.mono ?_
      rintro e w3 ⟨⟨A, rfl, hA1, hA2, hA3⟩, hb3⟩
      have HA1 := hid hA1
      have HA2 := hid hA2
      have HA3 := hid hA3
      have HR3 := hid (HR2.out.kept hb3)
      have HB3 := hid (HB2.out.trans (hb3.mono HB2.out.size))
      clear hA1 hA2 hA3 hb3 HPP HR2 HB2 HI1b HI2
      obtain ⟨Z, hZ⟩ : ∃ Z, Z = (nvals (List.replicate 258 0)).toArray := ⟨_, rfl⟩
      have HZS : Hid (Z.size = 258) := hid (by rw [hZ]; exact zeroA_size)
      have HZA : Hid (((Try.prog.info? 66).bind (·.zero)).map (·.cells) = some Z) := hid (by rw [hZ]; exact zeroArr)
      clear hZ
      go_wp2_with (refine wpList_alloc_own rfl 66 rfl Z HZA.out ?_)
      intro w4 hw4 hb4
      have HW4 := hid hw4
      have HR4 := hid (HR3.out.kept hb4)
      have HB4 := hid (HB3.out.trans (hb4.mono HB3.out.size))
      have HXG : Hid (x.heap.size ≤ w3.heap.size) := hid HB3.out.size
      clear hw4 hb4 HR3 HB3
      go_wp2_with (refine wpList_store_own rfl 66 (.tmp 9) (.tmp 33) rfl w3.heap.size A rfl rfl 66 Z HW4.out (by rw [HA1.out]; exact infoArr) (by rw [HA1.out]; exact HZS.out) HA2.out ?_)
      intro w5 hw5 hg5
      have HW5 := hid hw5
      have HR5 : Hid (Row 5 w1.heap.size w5 v2 (listRest (listRest bs))) := hid (by
        have h := HR4.out
        unfold Row at h ⊢
        exact h.kept hg5 ((own_apartT h HW4.out (by decide)).imp id fun h' e' => h' e'.symm))
      have HB5 := hid (below_grown HB4.out hg5 HXG.out HB4.out.size)
      clear hw5 hg5 HR4 HB4 HW4
      obtain ⟨a6, c6, rfl, -, hl6, hc6, hs6⟩ := HR5.out.sl
      have HS6 := hid hs6
      clear hl6 hc6 hs6 HR5
      by_cases hok : paOk us vs
      · rw [if_pos hok] at HPE
        rw [decide_eq_true hok]
        obtain ⟨m, hm1, hm2, hm3, hm4⟩ := HA3.out hok
        have HSUM := hid (paOk_sum hok)
        have HOF := hid (of_any w5 m hm2 (by rw [hm4]; exact HSUM.out))
        rw [hm3, hm4, ← hm1] at HOF
        clear hm1 hm2 hm3 hm4 HA3 hok
        go_wp2_with (refine wpList_load_row rfl 66 _ rfl w3.heap.size rfl 66 A (0, 0) _ HW5.out uArr rfl (by rw [HA1.out]; exact infoArr) ?_)
        go_wp2_with fail
        refine HOF.out.mono ?_
        rintro e w6 ⟨b, rfl, htb, hb6⟩
        have HTB := hid htb
        have HS7 := hid (HS6.out.below hb6)
        have HB6 := hid (HB5.out.trans (hb6.mono HB5.out.size))
        clear htb hb6 HOF HS6 HB5
        go_wp2_with fail
        go_ret3
        exact ⟨⟨fun h => absurd HPE.out h, fun _ => ⟨b, a6, c6, rfl, by rw [← HUS.out, ← HVS.out]; exact HTB.out, HS7.out.mono fun g h _ => Nat.le_trans HXS.out h⟩⟩, HB6.out⟩
      · rw [if_neg hok] at HPE
        rw [decide_eq_false hok]
        clear hok HA3
        go_wp2_with fail
        go_ret3
        exact ⟨⟨fun _ => ⟨_, by rw [HPE.out] <;> rfl⟩, fun h => by have := HPE.out; rw [h] at this; cases this⟩, HB5.out⟩
    · have h2i : ((f2 : Int) == 0) = false := by rw [beq_eq_false_iff_ne]; omega
      rw [if_pos h2] at HPE
      have HF2n := hid h2
      clear h2
      go_wp2_with fail
      go_ret3
      exact ⟨⟨fun _ => ⟨_, by rw [HPE.out] <;> rfl⟩, fun h => absurd (HPE.out.symm.trans h) HF2n.out⟩, HB2.out⟩
  · have h1i : ((f1 : Int) == 0) = false := by rw [beq_eq_false_iff_ne]; omega
    rw [if_pos h1] at HPE
    have HF1n := hid h1
    clear h1
    go_wp2_with fail
    go_ret3
    exact ⟨⟨fun _ => ⟨_, by rw [HPE.out] <;> rfl⟩, fun h => absurd (HPE.out.symm.trans h) HF1n.out⟩, HB1.out⟩
/-- All that the document's side asks of what landed. -/
theorem pa : PA Tb where
  below := fun h hb => h.kept hb
  pText := pText_any
  pNew := pNew_any
  pNewBad := pNewBad_any
  pCodes := pCodes_any
  pSigma := pSigma_any
  pLen := pLen_any
  pC := pC_any
  pSymbol := pSymbol_any
  pCode := pCode_any
  pCount := pCount_any
  pSymbols := pSymbols_any
  pBytes := pBytes_any
  pPattern := pPattern_any
  pDocs := pDocs_any
  pDocsBad := pDocsBad_any
  pParse := fun ok w a c bs hs hc hn hby hl he => (parse_any ok w a c bs hs hc hn hby hl).mono fun e w' ⟨h1, h2⟩ => by
    obtain ⟨b, u, cu, h3, h4, h5⟩ := h1.2 he
    exact ⟨b, u, cu, h3, h4, h5, h2⟩
  pParseBad := fun ok w a c bs hs hc hn hby hl he => (parse_any ok w a c bs hs hc hn hby hl).mono fun e w' ⟨h1, h2⟩ => by
    obtain ⟨u, h3⟩ := h1.1 he
    exact ⟨u, h3, h2⟩
  nCode := fun w i _ => nCode_any w i
  nSymbol := fun w i _ => nSymbol_any w i
  nC := fun w i _ => nC_any w i
  nCodes := nCodes_any
  nSymbols := nSymbols_any
  nSigma := nSigma_any
  nCount := fun w i _ => nCount_any w i
  nLen := nLen_any
  nBytes := nBytes_any
end Go.Proofs.Ytbhpfdpcafdeaaa
