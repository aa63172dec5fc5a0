/- CONTRACTS: what an allocator tells is the document's (tells). -/
import Derived.Test.YtjgnnofpilmgoaaDoorAdE
import Derived.Test.YtjgnnofpilmgoaaDoorAlN
import Derived.Test.YtjgnnofpilmgoaaDoorAlG
namespace Go.Proofs.YtjgnnofpilmgoaaDoor
open Go.RowKit Go.Inc

theorem cnt_or {f g h : Nat → Bool} {k : Nat} (hh : ∀ i, i < k → (f i = (g i || h i)) ∧ ¬ (g i = true ∧ h i = true)) : cntTo f k = cntTo g k + cntTo h k := by
  induction k with
  | zero => rfl
  | succ k ih =>
    have ih := ih fun i hi => hh i (by omega)
    obtain ⟨h1, h2⟩ := hh k (by omega)
    cases hg : g k <;> cases hx : h k
    · rw [cntTo_out (by rw [h1, hg, hx]; rfl), cntTo_out hg, cntTo_out hx, ih]
    · rw [cntTo_in (by rw [h1, hg, hx]; rfl), cntTo_out hg, cntTo_in hx, ih]; omega
    · rw [cntTo_in (by rw [h1, hg, hx]; rfl), cntTo_in hg, cntTo_out hx, ih]; omega
    · exact absurd ⟨hg, hx⟩ h2
theorem count_two (ks : List Nat) : (pagesK isC ks).length = (pagesK (eqK 2) ks).length + (pagesK (eqK 4) ks).length := cnt_or (f := fun i => isC (kd ks i)) (g := fun i => eqK 2 (kd ks i)) (h := fun i => eqK 4 (kd ks i)) fun i _ => ⟨rfl, fun h => by
  have h1 : kd ks i = 2 := by simpa [eqK] using h.1
  have h2 : kd ks i = 4 := by simpa [eqK] using h.2
  omega⟩
theorem own_lit (z : World) (B : Nat) (hB : B ≤ z.heap.size) : (z.alloc (.cells #[] 3)).ownsRow B 3 1 (.slice (some ⟨z.heap.size, 0, none⟩) 0 0) 0 (nvals []) :=
  ⟨rfl, .inr ⟨z.heap.size, 0, #[], rfl, hB, heap_alloc_new z _, Nat.le_refl _, Nat.zero_le _, rfl, rfl⟩⟩
/-- A row of numbers, as an append wants it. -/
theorem row_news {W : World} {B n : Nat} {v : Value} {l : List Nat} (h : W.ownsRow B 3 1 v n (nvals l)) : ∃ a c, v = .slice a l.length c ∧ n = l.length ∧ (a = none → l.length = 0) ∧ (∀ ad, a = some ad → ∀ j u, (nvals l)[j]? = some u → W.cell? (ad.add j) = some u) ∧ l.length ≤ c := by
  obtain ⟨a, c, rfl, h2, h3, h4, _, _⟩ := Si.ownedN h
  refine ⟨a, c, rfl, h2, fun ha => by have := h3 ha; omega, fun ad had j u hu => ?_, h4⟩
  subst had
  rcases h.2 with ⟨hv, _⟩ | ⟨g, cap, cur, hv, _⟩
  · cases hv
  · cases hv
    exact World.ownsRow.cells (g := g) h rfl j u hu
theorem nvals_app (l l' : List Nat) : nvals (l ++ l') = nvals l ++ nvals l' := by simp [nvals]
theorem nvals_one (l : List Nat) : ∀ u ∈ nvals l, u.oneCell' = true := by
  intro u hu
  obtain ⟨_, _, rfl⟩ := List.mem_map.1 hu
  rfl
/-- An allocator and the document's, side by side, in a later world. -/
structure Duo (C : Nat → Nat) (w z : World) (p g : Nat) (v1 v2 v3 : Value) (ks : List Nat) : Prop where
  a : Own C w z p v1 v2 v3 ks
  d : Dk z g ks
  cg : C g = 0
  lowg : w.heap.size ≤ g
section
variable {C : Nat → Nat} {w z z' : World} {p g : Nat} {v1 v2 v3 : Value} {ks ks' : List Nat}
theorem Duo.below (h : Duo C w z p g v1 v2 v3 ks) (hb : Below z.heap.size z z') : Duo C w z' p g v1 v2 v3 ks := ⟨h.a.below hb, h.d.below hb, h.cg, h.lowg⟩
end
theorem newset_lt {B : Nat} {x y : World} {v : Value} {m : List Bool} (h : NewSet B x v m) (hm : Mv (fun i => x.heap.size ≤ i) x y) : NewSet B y v m := by
  obtain ⟨b, g, c, W, h1, h2, h3, h4, h5⟩ := h
  exact ⟨b, g, c, W, h1, h2, h3, h4.mv hm (fun e => by have := h4.blt; omega) (fun e => by have := h4.glt; omega), h5⟩
set_option maxRecDepth 20000 in
set_option maxHeartbeats 2000000 in
theorem tells_any {C : Nat → Nat} {w z : World} {p g : Nat} {v1 v2 v3 : Value} {ks : List Nat} (page : Int) (h : Duo C w z p g v1 v2 v3 ks) :
    Calls Tryd.prog 21 #[.pointer (some ⟨p, 0, none⟩), .slice (some ⟨g, 0, none⟩) ks.length ks.length, .int .i64 page] z fun e z' => e = .returned (.bool true) ∧ Below z.heap.size z z' := by
  have HD0 := hid h
  have HKS := hid h.a.ks
  have HS := hid (sets_any h.a.al h.a.ks)
  obtain ⟨N, hN⟩ : ∃ N, N = ks.length := ⟨_, rfl⟩
  have HNN := hid hN
  have hN2 : (N : Int) ≤ 2048 := by have := h.a.ks.n2048; omega
  have HALL : Hid (∀ kk y, Duo C w y p g v1 v2 v3 ks → Calls Tryd.prog 32 #[.slice (some ⟨g, 0, none⟩) N N, .int .i64 ((kk : Nat) : Int)] y fun r w' => (∃ v, r = .returned v ∧ w'.ownsRow y.heap.size 3 1 v (pagesK (eqK kk) ks).length (nvals (pagesK (eqK kk) ks))) ∧ Below y.heap.size y w') := hid fun kk y hy => by
    rw [hN]; exact dAll_any g ks kk y hy.d (by have := hy.a.ks.n2048; omega)
  have HP2 : Hid ((pagesK (eqK 2) ks).length ≤ 2048 ∧ (pagesK (eqK 4) ks).length ≤ 2048 ∧ (pagesK isF ks).length ≤ 2048) := hid (by
    have h1 := pagesK_len (eqK 2) ks
    have h2 := pagesK_len (eqK 4) ks
    have h3 := pagesK_len isF ks
    have := h.a.ks.n2048
    omega)
  rw [← hN]
  clear h hN
  go_enter Tryd.func21, Tryd.ntmps21
  go_wp2_with fail
  refine HS.out.mono ?_
  clear HS
  rintro e w1 ⟨⟨x1, x2, x3, rfl, hx1, hx2, hx3⟩, hb1⟩
  have HX1 := hid hx1
  have HX2 := hid hx2
  have HX3 := hid hx3
  have HB1 := hid hb1
  have HD1 := hid (HD0.out.below hb1)
  have HB2 := hid (alloc_below w1 (.cells #[] 3))
  have HR2 := hid (own_lit w1 w1.heap.size (Nat.le_refl _))
  have HD2 := hid (HD1.out.below HB2.out)
  clear hx1 hx2 hx3 hb1
  go_wp2_with fail
  refine (HALL.out 2 _ HD2.out).mono ?_
  rintro e w3 ⟨⟨y2, rfl, hy2⟩, hb3⟩
  have HB3 : Hid (Below w1.heap.size w1 w3) := hid (HB2.out.trans (hb3.mono HB2.out.size))
  have HR3 : Hid (w3.ownsRow w1.heap.size 3 1 (.slice (some ⟨w1.heap.size, 0, none⟩) 0 0) 0 (nvals [])) := hid (owns_mv (F := fun _ => False) HR2.out (Mv.of_below hb3) fun _ _ => id)
  have HD3 := hid (HD2.out.below hb3)
  obtain ⟨a2, c2, rfl, -, hn2, hc2, hcap2⟩ := row_news hy2
  obtain ⟨l2, hl2⟩ : ∃ l2, l2 = (pagesK (eqK 2) ks).length := ⟨_, rfl⟩
  have HL2 := hid hl2
  have hl2b : (l2 : Int) ≤ 2048 := by have := HP2.out.1; omega
  have HC2 := hid hc2
  have HN2 := hid hn2
  rw [← hl2]
  clear hy2 hb3 hn2 hc2 hl2 HR2 hcap2
  go_wp2_with (refine wpList_append_any rfl (.tmp 20) (.tmp 22) 22 rfl w1.heap.size 3 (.int .i64 0) 8 Tryd.underlying22 infoInt rfl _ _ _ rfl HR3.out a2 l2 c2 (nvals (pagesK (eqK 2) ks)) rfl (by rw [nvals_len]; exact HL2.out.symm) (fun hh => by rw [HL2.out]; exact HN2.out hh) HC2.out (nvals_one _) (by unfold maxLen; omega) (by omega) (by have := HB3.out.size; omega) ?_)
  intro v4 w4 hv4 hg4 _
  have HB4 : Hid (Below z.heap.size z w4) := hid (below_owned (w0 := z) (HB1.out.trans (HB3.out.mono HB1.out.size)) HR3.out HB1.out.size hg4)
  have HV4 : Hid (w4.ownsRow w1.heap.size 3 1 v4 l2 (nvals (pagesK (eqK 2) ks))) := hid hv4
  have HD4 := hid (HD0.out.below HB4.out)
  have HM14 : Hid (Mv (fun i => w1.heap.size ≤ i) w1 w4) := hid ((Mv.of_below HB3.out).trans (Mv.of_grown hg4 fun gg e _ => by cases e; exact Nat.le_refl _))
  clear hv4 hg4 HC2 HN2 HR3 HB3 HD3 HD2 HD1
  go_wp2_with fail
  refine (HALL.out 4 _ HD4.out).mono ?_
  rintro e w5 ⟨⟨y4, rfl, hy4⟩, hb5⟩
  have HB45 := hid hb5
  have HV5 : Hid (w5.ownsRow w1.heap.size 3 1 v4 l2 (nvals (pagesK (eqK 2) ks))) := hid (owns_mv (F := fun _ => False) HV4.out (Mv.of_below hb5) fun _ _ => id)
  obtain ⟨a4, c4, rfl, -, hn4, hc4, hcap4⟩ := row_news hy4
  obtain ⟨l4, hl4⟩ : ∃ l4, l4 = (pagesK (eqK 4) ks).length := ⟨_, rfl⟩
  have HL4 := hid hl4
  have hl4b : (l4 : Int) ≤ 2048 := by have := HP2.out.2.1; omega
  have HC4 := hid hc4
  have HN4 := hid hn4
  rw [← hl4]
  clear hy4 hb5 hn4 hc4 hl4 HV4 hcap4
  go_wp2_with (refine wpList_append_any rfl (.tmp 23) (.tmp 25) 22 rfl w1.heap.size 3 (.int .i64 0) 8 Tryd.underlying22 infoInt rfl _ _ _ rfl HV5.out a4 l4 c4 (nvals (pagesK (eqK 4) ks)) rfl (by rw [nvals_len]; exact HL4.out.symm) (fun hh => by rw [HL4.out]; exact HN4.out hh) HC4.out (nvals_one _) (by unfold maxLen; omega) (by omega) (by have := HM14.out.size; have := HB45.out.size; omega) ?_)
  intro v6 w6 hv6 hg6 _
  have HB6 : Hid (Below z.heap.size z w6) := hid (below_owned (w0 := z) (HB4.out.trans (HB45.out.mono HB4.out.size)) HV5.out HB1.out.size hg6)
  have HV6 : Hid (w6.ownsRow w1.heap.size 3 1 v6 (l2 + l4) (nvals (pagesK (eqK 2) ks ++ pagesK (eqK 4) ks))) := hid (by rw [nvals_app]; exact hv6)
  have HM16 : Hid (Mv (fun i => w1.heap.size ≤ i) w1 w6) := hid ((HM14.out.trans (Mv.of_below HB45.out)).trans (Mv.of_grown hg6 fun gg e _ => own_base' HV5.out e))
  have HX16 : Hid (NewSet z.heap.size w6 x1 (setK isC ks)) := hid (newset_lt HX1.out HM16.out)
  have HX26 : Hid (NewSet z.heap.size w6 x2 (setK isS ks)) := hid (newset_lt HX2.out HM16.out)
  have HX36 : Hid (NewSet z.heap.size w6 x3 (setK isP ks)) := hid (newset_lt HX3.out HM16.out)
  have HD6 := hid (HD0.out.below HB6.out)
  obtain ⟨a6, c6, hv6e, hl6, hsi6⟩ := owned_slice HV6.out
  have HSI6 := hid hsi6
  obtain ⟨al, hal⟩ : ∃ al, al = pagesK (eqK 2) ks ++ pagesK (eqK 4) ks := ⟨_, rfl⟩
  have HAL := hid hal
  rw [← hal] at HSI6 hl6 hv6e
  obtain ⟨la, hla⟩ : ∃ la, la = al.length := ⟨_, rfl⟩
  have HLA := hid hla
  rw [← hla] at hv6e hl6
  have hlab : (la : Int) ≤ 4096 := by omega
  have HCT : Hid ((pagesK isC ks).length = la) := hid (by rw [count_two, ← HL2.out, ← HL4.out, hl6])
  subst hv6e
  clear hv6 hg6 hsi6 hal hla hl6 HC4 HN4 HV5 HV6 HM14 HM16 HX1 HX2 HX3 HB45 HB4 HB1 HB2 HD4 hl2b hl4b HL2 HL4
  by_cases hp0 : 0 ≤ page
  · by_cases hpN : page < (N : Int)
    · obtain ⟨q, rfl⟩ := Int.eq_ofNat_of_zero_le hp0
      have hql : q < ks.length := by have := HNN.out; omega
      have hcq := HD6.out.d.cell hql
      have hkq := kindK_nat hql
      rw [← hkq] at hcq
      obtain ⟨KQ, hKQ⟩ : ∃ KQ, KQ = kindK ks (q : Int) := ⟨_, rfl⟩
      rw [← hKQ] at hcq
      have HKQ := hid hKQ
      have hqN : (q < N) = True := eq_true (by have := HNN.out; omega)
      clear hql hkq hKQ
      have HPG := hid (pages_any HD6.out.a.al)
      rw [← HNN.out] at HPG
      have hNN : ((N : Int) != N) = false := by simp
      go_wp2_with fail
      refine HPG.out.mono ?_
      clear HPG
      rintro e w7 ⟨rfl, rfl⟩
      obtain ⟨F, hF⟩ : ∃ F, F = (pagesK isF ks).length := ⟨_, rfl⟩
      have HF := hid hF
      have HFR := hid (allocFree_any HD6.out.a.al HD6.out.a.ks HD6.out.a.tab)
      rw [← hF] at HFR
      have hFF : ((F : Int) != F) = false := by simp
      clear hF
      go_wp2_with fail
      refine HFR.out.mono ?_
      clear HFR
      rintro e w8 ⟨rfl, hb8⟩
      have HB8 := hid hb8
      have HD8 := hid (HD6.out.below hb8)
      clear hb8
      go_wp2_with fail
      refine (HALL.out 1 w8 HD8.out).mono ?_
      rintro e w9 ⟨⟨y9, rfl, hy9⟩, hb9⟩
      obtain ⟨a9, c9, rfl, -, -⟩ := owned_slice hy9
      rw [show (pagesK (eqK 1) ks).length = F from HF.out.symm]
      have HB9 : Hid (Below w6.heap.size w6 w9) := hid (HB8.out.trans (hb9.mono HB8.out.size))
      have HD9 := hid (HD6.out.below HB9.out)
      clear hb9 hy9 HB8 HD8
      have HKD := hid (kind_any (q : Int) HD9.out.a.al HD9.out.a.ks)
      rw [← HKQ.out] at HKD
      have hKK : ((KQ : Int) != KQ) = false := by simp
      go_wp2_with fail
      refine HKD.out.mono ?_
      clear HKD
      rintro e w10 ⟨rfl, hb10⟩
      have HB10 : Hid (Below w6.heap.size w6 w10) := hid (HB9.out.trans (hb10.mono HB9.out.size))
      have HD10 := hid (HD6.out.below HB10.out)
      clear hb10 HB9 HD9
      obtain ⟨nS, hnS⟩ : ∃ nS, nS = (intsK isS ks).length := ⟨_, rfl⟩
      have HNS := hid hnS
      obtain ⟨nP, hnP⟩ : ∃ nP, nP = (intsK isP ks).length := ⟨_, rfl⟩
      have HNP := hid hnP
      have hSb : (nS : Int) ≤ 9223372036854775807 := by have h0 := HKS.out.n2048; have h1 := intsK_len isS ks; have h2 := pagesK_len isS ks; omega
      have hPb : (nP : Int) ≤ 9223372036854775807 := by have h0 := HKS.out.n2048; have h1 := intsK_len isP ks; have h2 := pagesK_len isP ks; omega
      have HSA := hid (allK_any (w := w10) _ x2 isS ks w10 (HX26.out.below HB10.out) HD10.out.a.tab (Nat.le_refl _) nS hnS)
      clear hnS hnP
      go_wp2_with fail
      refine HSA.out.mono ?_
      clear HSA
      rintro e w11 ⟨⟨y11, rfl, hy11⟩, hb11⟩
      obtain ⟨a11, c11, rfl, hs11⟩ := hy11
      have HS11 := hid hs11
      have HB11 : Hid (Below w6.heap.size w6 w11) := hid (HB10.out.trans (hb11.mono HB10.out.size))
      have HD11 := hid (HD6.out.below HB11.out)
      clear hs11 hb11 HB10 HD10
      go_wp2_with fail
      refine (HALL.out 3 w11 HD11.out).mono ?_
      rintro e w12 ⟨⟨y12, rfl, hy12⟩, hb12⟩
      obtain ⟨a12, c12, rfl, -, hs12⟩ := owned_slice hy12
      rw [show (pagesK (eqK 3) ks).length = nS by rw [HNS.out, intsK_len]; rfl]
      have HB12 : Hid (Below w6.heap.size w6 w12) := hid (HB11.out.trans (hb12.mono HB11.out.size))
      have HD12 := hid (HD6.out.below HB12.out)
      have HSM := hid (refSame_eq nS c11 c12 (intsK isS ks) (HS11.out.below hb12) hs12 HNS.out hSb)
      clear hb12 hy12 hs12 HS11 HB11 HD11
      go_wp2_with fail
      refine HSM.out.mono ?_
      clear HSM
      rintro e w13 ⟨rfl, hb13⟩
      have HB13 : Hid (Below w6.heap.size w6 w13) := hid (HB12.out.trans (hb13.mono HB12.out.size))
      have HD13 := hid (HD6.out.below HB13.out)
      clear hb13 HB12 HD12
      have HSA := hid (allK_any (w := w13) _ x3 isP ks w13 (HX36.out.below HB13.out) HD13.out.a.tab (Nat.le_refl _) nP HNP.out)
      go_wp2_with fail
      refine HSA.out.mono ?_
      clear HSA
      rintro e w14 ⟨⟨y14, rfl, hy14⟩, hb14⟩
      obtain ⟨a14, c14, rfl, hs14⟩ := hy14
      have HS14 := hid hs14
      have HB14 : Hid (Below w6.heap.size w6 w14) := hid (HB13.out.trans (hb14.mono HB13.out.size))
      have HD14 := hid (HD6.out.below HB14.out)
      clear hs14 hb14 HB13 HD13
      go_wp2_with fail
      refine (HALL.out 4 w14 HD14.out).mono ?_
      rintro e w15 ⟨⟨y15, rfl, hy15⟩, hb15⟩
      obtain ⟨a15, c15, rfl, -, hs15⟩ := owned_slice hy15
      rw [show (pagesK (eqK 4) ks).length = nP by rw [HNP.out, intsK_len]; rfl]
      have HB15 : Hid (Below w6.heap.size w6 w15) := hid (HB14.out.trans (hb15.mono HB14.out.size))
      have HD15 := hid (HD6.out.below HB15.out)
      have HSM := hid (refSame_eq nP c14 c15 (intsK isP ks) (HS14.out.below hb15) hs15 HNP.out hPb)
      clear hb15 hy15 hs15 HS14 HB14 HD14
      go_wp2_with fail
      refine HSM.out.mono ?_
      clear HSM
      rintro e w16 ⟨rfl, hb16⟩
      have HB16 : Hid (Below w6.heap.size w6 w16) := hid (HB15.out.trans (hb16.mono HB15.out.size))
      clear hb16 HB15 HD15
      have HCO := hid (count_any _ x1 _ w16 (HX16.out.below HB16.out).bm)
      rw [show cntTo (inB (setK isC ks)) (setK isC ks).length = la by rw [← HCT.out, ← nums_setK]; rfl] at HCO
      have hll : ((la : Int) != la) = false := by simp
      clear hNN hFF hSb hPb
      go_wp2_with fail
      refine HCO.out.mono ?_
      clear HCO
      rintro e w17 ⟨rfl, rfl⟩
      go_wp2_with fail
      go_loopw [12] (fun i wr => ∃ k : Nat, k ≤ la ∧ i = .int .i64 (k : Int) ∧ Below w6.heap.size w6 wr) (fun i _ => la - (intOf i).toNat)
      case atStart => exact ⟨0, Nat.zero_le _, rfl, HB16.out⟩
      case round =>
        clear HB16
        obtain ⟨k, hk, rfl, hb⟩ := hrel
        have HB := hid hb
        clear hb
        obtain ⟨wj, hwj⟩ : ∃ wj, wj = wr := ⟨_, rfl⟩
        subst hwj
        by_cases hlt : (k : Int) < la
        · obtain ⟨b, o, rfl, hck⟩ := si_cell (HSI6.out.below HB.out) (k := k) (by rw [List.length_map, ← HLA.out]; omega)
          have hmem : al.getD k 0 ∈ al := by
            rw [List.getD_eq_getElem?_getD, List.getElem?_eq_getElem (by rw [← HLA.out]; omega)]
            exact List.getElem_mem _
          have hgd : ((al.map fun x : Nat => (x : Int)).getD k 0) = ((al.getD k 0 : Nat) : Int) := by
            rw [List.getD_eq_getElem?_getD, List.getD_eq_getElem?_getD, List.getElem?_map, List.getElem?_eq_getElem (by rw [← HLA.out]; omega)]; rfl
          rw [hgd] at hck
          obtain ⟨x, hx⟩ : ∃ x, x = al.getD k 0 := ⟨_, rfl⟩
          rw [← hx] at hck hmem
          have hcx : hasB (setK isC ks) (x : Int) = true := by
            rw [hasB_nat]
            rw [HAL.out, List.mem_append] at hmem
            rcases hmem with h | h
            · obtain ⟨h1, h2⟩ := pagesK_mem.1 h
              rw [inB_setK h1, show kd ks x = 2 by simpa [eqK] using h2]; rfl
            · obtain ⟨h1, h2⟩ := pagesK_mem.1 h
              rw [inB_setK h1, show kd ks x = 4 by simpa [eqK] using h2]; rfl
          have HH := hid (has_any _ x1 _ (x : Int) wj (HX16.out.below HB.out).bm)
          rw [hcx] at HH
          have hkn : (k < la) = True := eq_true (by omega)
          clear hmem hgd hx hcx
          go_wp2_with fail
          refine HH.out.mono ?_
          clear HH
          rintro e w18 ⟨rfl, hb⟩
          have HB18 : Hid (Below w6.heap.size w6 w18) := hid (HB.out.trans (hb.mono HB.out.size))
          clear hb
          go_wp2_with fail
          go_roundw
          case rel => exact ⟨k + 1, by omega, by go_num, HB18.out⟩
          case measure => simp [intOf]; omega
        · have hkf : (k < la) = False := eq_false (by omega)
          clear hlt
          go_wp2_with fail
          go_loopw [13] (fun i wr => ∃ k : Nat, k ≤ N ∧ i = .int .i64 (k : Int) ∧ Below w6.heap.size w6 wr) (fun i _ => N - (intOf i).toNat)
          case atStart => exact ⟨0, Nat.zero_le _, rfl, HB.out⟩
          case round =>
            clear HB
            obtain ⟨k, hk, rfl, hb⟩ := hrel
            have HB := hid hb
            have HDK := hid (HD6.out.below hb)
            clear hb
            obtain ⟨wj, hwj⟩ : ∃ wj, wj = wr := ⟨_, rfl⟩
            subst hwj
            by_cases hlt : (k : Int) < N
            · have hkl : k < ks.length := by have := HNN.out; omega
              obtain ⟨X, hX⟩ : ∃ X, X = kd ks k := ⟨_, rfl⟩
              have HCK : Hid (∀ x, Grew wj.drew x → x.cell? ⟨g, k, none⟩ = some (.int .i64 (X : Int))) := hid fun x hx => by
                have hb : Below wj.heap.size wj x := ⟨hx.os, hx.tape, hx.output, hx.size, hx.block⟩
                rw [hX]; exact (HDK.out.below hb).d.cell hkl
              have HKK : Hid (∀ x, Grew wj.drew x → Calls Tryd.prog 26 #[.pointer (some ⟨p, 0, none⟩), .int .i64 (k : Int)] x fun e w' => e = .returned (.int .i64 (X : Int)) ∧ Below x.heap.size x w') := hid fun x hx => by
                have hb : Below wj.heap.size wj x := ⟨hx.os, hx.tape, hx.output, hx.size, hx.block⟩
                have := kind_any (k : Int) (HDK.out.below hb).a.al HKS.out
                rw [kindK_nat hkl, ← hX] at this
                exact this
              have hkn : (k < N) = True := eq_true (by omega)
              have hXX : ((X : Int) != X) = false := by simp
              clear hkl hX
              go_wp2_with fail
              refine wp_region_grows 8 [Eqv' (.pointer (some ⟨p, 0, none⟩)), Eqv' (.int .i64 (k : Int)), Eqv' (.int .i64 (X : Int)), Eqv' (.slice (some ⟨g, 0, none⟩) N N), Eqv' (.int .i64 (k : Int)), Eqv' (.pointer (some ⟨g, k, none⟩)), Eqv' (.int .i64 (X : Int)), Eqv' (.bool false)] (by kernel_rfl) (by decide) (by kernel_rfl) ?_ ?_ ?_
              · repeat' (first | exact List.forall_mem_nil _ | refine List.forall_mem_cons.2 ⟨?_, ?_⟩)
                all_goals
                  intro w w' v hw h
                  first | exact h | exact h
              · simp only [AllLt]
                refine ⟨⟨⟨⟨⟨⟨⟨⟨trivial, ?_⟩, ?_⟩, ?_⟩, ?_⟩, ?_⟩, ?_⟩, ?_⟩, ?_⟩
                all_goals
                  intro o' ho
                  simp at ho
                  subst ho
                  intro ρ w20 hR hL hS hG
                  obtain ⟨hl1, hl2, -⟩ := hL
                · refine plainG rfl ?_
                  intro bA K Q' hK
                  have e0 := hS 0 (by kernel_rfl)
                  change ρ (.tmp 0) = _ at e0
                  simp only [execOp]
                  go_simp
                  exact hK _ _ rfl (Grew.refl _)
                · refine plainG rfl ?_
                  intro bA K Q' hK
                  have e13 := hS 13 (by kernel_rfl)
                  change ρ (.tmp 13) = _ at e13
                  simp only [execOp]
                  go_simp
                  exact hK _ _ rfl (Grew.refl _)
                · refine plainG rfl ?_
                  intro bA K Q' hK
                  have e101 := hG 0 101 (by decide) (by kernel_rfl) (by kernel_rfl)
                  have e102 := hG 1 102 (by decide) (by kernel_rfl) (by kernel_rfl)
                  change ρ (.tmp 101) = _ at e101
                  change ρ (.tmp 102) = _ at e102
                  simp only [execOp]
                  go_simp
                  refine (HKK.out w20 hR).mono ?_
                  rintro r9 w9 ⟨rfl, hb9⟩
                  exact hK _ _ rfl hb9
                · refine plainG rfl ?_
                  intro bA K Q' hK
                  have e1 := hS 1 (by kernel_rfl)
                  change ρ (.tmp 1) = _ at e1
                  simp only [execOp]
                  go_simp
                  exact hK _ _ rfl (Grew.refl _)
                · refine plainG rfl ?_
                  intro bA K Q' hK
                  have e13 := hS 13 (by kernel_rfl)
                  change ρ (.tmp 13) = _ at e13
                  simp only [execOp]
                  go_simp
                  exact hK _ _ rfl (Grew.refl _)
                · refine plainG rfl ?_
                  intro bA K Q' hK
                  have e104 := hG 3 104 (by decide) (by kernel_rfl) (by kernel_rfl)
                  have e105 := hG 4 105 (by decide) (by kernel_rfl) (by kernel_rfl)
                  change ρ (.tmp 104) = _ at e104
                  change ρ (.tmp 105) = _ at e105
                  simp only [execOp]
                  go_simp
                  exact hK _ _ rfl (Grew.refl _)
                · refine plainG rfl ?_
                  intro bA K Q' hK
                  have e106 := hG 5 106 (by decide) (by kernel_rfl) (by kernel_rfl)
                  change ρ (.tmp 106) = _ at e106
                  have y0 := HCK.out w20 hR
                  simp only [execOp]
                  go_simp
                  exact hK _ _ rfl (Grew.refl _)
                · refine plainG rfl ?_
                  intro bA K Q' hK
                  have e103 := hG 2 103 (by decide) (by kernel_rfl) (by kernel_rfl)
                  have e107 := hG 6 107 (by decide) (by kernel_rfl) (by kernel_rfl)
                  change ρ (.tmp 103) = _ at e103
                  change ρ (.tmp 107) = _ at e107
                  simp only [execOp]
                  go_simp
                  exact hK _ _ rfl (Grew.refl _)
              · intro v w19 hR hG
                have h7 : v 7 = .bool false := hG.2
                have hb : Below wj.heap.size wj w19 := ⟨hR.os, hR.tape, hR.output, hR.size, hR.block⟩
                have HB19 : Hid (Below w6.heap.size w6 w19) := hid (HB.out.trans (hb.mono HB.out.size))
                clear hG hR hb HCK HKK
                simp [stG, stU, dstAt, Act.put, h7]
                clear h7
                go_wp2_with fail
                go_roundw
                case rel => exact ⟨k + 1, by omega, by go_num, HB19.out⟩
                case measure => simp [intOf]; omega
            · have hkf : (k < N) = False := eq_false (by omega)
              clear hlt
              go_wp2_with fail
              go_ret
              exact ⟨rfl, HB6.out.trans (HB.out.mono HB6.out.size)⟩
    · have hpk : kindK ks page = 5 := kindK_out (by have := HNN.out; omega)
      have HPK := hid hpk
      have hpf : (page < (N : Int)) = False := eq_false hpN
      clear hpk hpN
      have HPG := hid (pages_any HD6.out.a.al)
      rw [← HNN.out] at HPG
      have hNN : ((N : Int) != N) = false := by simp
      go_wp2_with fail
      refine HPG.out.mono ?_
      clear HPG
      rintro e w7 ⟨rfl, rfl⟩
      obtain ⟨F, hF⟩ : ∃ F, F = (pagesK isF ks).length := ⟨_, rfl⟩
      have HF := hid hF
      have HFR := hid (allocFree_any HD6.out.a.al HD6.out.a.ks HD6.out.a.tab)
      rw [← hF] at HFR
      have hFF : ((F : Int) != F) = false := by simp
      clear hF
      go_wp2_with fail
      refine HFR.out.mono ?_
      clear HFR
      rintro e w8 ⟨rfl, hb8⟩
      have HB8 := hid hb8
      have HD8 := hid (HD6.out.below hb8)
      clear hb8
      go_wp2_with fail
      refine (HALL.out 1 w8 HD8.out).mono ?_
      rintro e w9 ⟨⟨y9, rfl, hy9⟩, hb9⟩
      obtain ⟨a9, c9, rfl, -, -⟩ := owned_slice hy9
      rw [show (pagesK (eqK 1) ks).length = F from HF.out.symm]
      have HB9 : Hid (Below w6.heap.size w6 w9) := hid (HB8.out.trans (hb9.mono HB8.out.size))
      have HD9 := hid (HD6.out.below HB9.out)
      clear hb9 hy9 HB8 HD8
      have HKD := hid (kind_any page HD9.out.a.al HD9.out.a.ks)
      rw [HPK.out] at HKD
      go_wp2_with fail
      refine HKD.out.mono ?_
      clear HKD
      rintro e w10 ⟨rfl, hb10⟩
      have HB10 : Hid (Below w6.heap.size w6 w10) := hid (HB9.out.trans (hb10.mono HB9.out.size))
      have HD10 := hid (HD6.out.below HB10.out)
      clear hb10 HB9 HD9
      obtain ⟨nS, hnS⟩ : ∃ nS, nS = (intsK isS ks).length := ⟨_, rfl⟩
      have HNS := hid hnS
      obtain ⟨nP, hnP⟩ : ∃ nP, nP = (intsK isP ks).length := ⟨_, rfl⟩
      have HNP := hid hnP
      have hSb : (nS : Int) ≤ 9223372036854775807 := by have h0 := HKS.out.n2048; have h1 := intsK_len isS ks; have h2 := pagesK_len isS ks; omega
      have hPb : (nP : Int) ≤ 9223372036854775807 := by have h0 := HKS.out.n2048; have h1 := intsK_len isP ks; have h2 := pagesK_len isP ks; omega
      have HSA := hid (allK_any (w := w10) _ x2 isS ks w10 (HX26.out.below HB10.out) HD10.out.a.tab (Nat.le_refl _) nS hnS)
      clear hnS hnP
      go_wp2_with fail
      refine HSA.out.mono ?_
      clear HSA
      rintro e w11 ⟨⟨y11, rfl, hy11⟩, hb11⟩
      obtain ⟨a11, c11, rfl, hs11⟩ := hy11
      have HS11 := hid hs11
      have HB11 : Hid (Below w6.heap.size w6 w11) := hid (HB10.out.trans (hb11.mono HB10.out.size))
      have HD11 := hid (HD6.out.below HB11.out)
      clear hs11 hb11 HB10 HD10
      go_wp2_with fail
      refine (HALL.out 3 w11 HD11.out).mono ?_
      rintro e w12 ⟨⟨y12, rfl, hy12⟩, hb12⟩
      obtain ⟨a12, c12, rfl, -, hs12⟩ := owned_slice hy12
      rw [show (pagesK (eqK 3) ks).length = nS by rw [HNS.out, intsK_len]; rfl]
      have HB12 : Hid (Below w6.heap.size w6 w12) := hid (HB11.out.trans (hb12.mono HB11.out.size))
      have HD12 := hid (HD6.out.below HB12.out)
      have HSM := hid (refSame_eq nS c11 c12 (intsK isS ks) (HS11.out.below hb12) hs12 HNS.out hSb)
      clear hb12 hy12 hs12 HS11 HB11 HD11
      go_wp2_with fail
      refine HSM.out.mono ?_
      clear HSM
      rintro e w13 ⟨rfl, hb13⟩
      have HB13 : Hid (Below w6.heap.size w6 w13) := hid (HB12.out.trans (hb13.mono HB12.out.size))
      have HD13 := hid (HD6.out.below HB13.out)
      clear hb13 HB12 HD12
      have HSA := hid (allK_any (w := w13) _ x3 isP ks w13 (HX36.out.below HB13.out) HD13.out.a.tab (Nat.le_refl _) nP HNP.out)
      go_wp2_with fail
      refine HSA.out.mono ?_
      clear HSA
      rintro e w14 ⟨⟨y14, rfl, hy14⟩, hb14⟩
      obtain ⟨a14, c14, rfl, hs14⟩ := hy14
      have HS14 := hid hs14
      have HB14 : Hid (Below w6.heap.size w6 w14) := hid (HB13.out.trans (hb14.mono HB13.out.size))
      have HD14 := hid (HD6.out.below HB14.out)
      clear hs14 hb14 HB13 HD13
      go_wp2_with fail
      refine (HALL.out 4 w14 HD14.out).mono ?_
      rintro e w15 ⟨⟨y15, rfl, hy15⟩, hb15⟩
      obtain ⟨a15, c15, rfl, -, hs15⟩ := owned_slice hy15
      rw [show (pagesK (eqK 4) ks).length = nP by rw [HNP.out, intsK_len]; rfl]
      have HB15 : Hid (Below w6.heap.size w6 w15) := hid (HB14.out.trans (hb15.mono HB14.out.size))
      have HD15 := hid (HD6.out.below HB15.out)
      have HSM := hid (refSame_eq nP c14 c15 (intsK isP ks) (HS14.out.below hb15) hs15 HNP.out hPb)
      clear hb15 hy15 hs15 HS14 HB14 HD14
      go_wp2_with fail
      refine HSM.out.mono ?_
      clear HSM
      rintro e w16 ⟨rfl, hb16⟩
      have HB16 : Hid (Below w6.heap.size w6 w16) := hid (HB15.out.trans (hb16.mono HB15.out.size))
      clear hb16 HB15 HD15
      have HCO := hid (count_any _ x1 _ w16 (HX16.out.below HB16.out).bm)
      rw [show cntTo (inB (setK isC ks)) (setK isC ks).length = la by rw [← HCT.out, ← nums_setK]; rfl] at HCO
      have hll : ((la : Int) != la) = false := by simp
      clear hNN hFF hSb hPb
      go_wp2_with fail
      refine HCO.out.mono ?_
      clear HCO
      rintro e w17 ⟨rfl, rfl⟩
      go_wp2_with fail
      go_loopw [12] (fun i wr => ∃ k : Nat, k ≤ la ∧ i = .int .i64 (k : Int) ∧ Below w6.heap.size w6 wr) (fun i _ => la - (intOf i).toNat)
      case atStart => exact ⟨0, Nat.zero_le _, rfl, HB16.out⟩
      case round =>
        clear HB16
        obtain ⟨k, hk, rfl, hb⟩ := hrel
        have HB := hid hb
        clear hb
        obtain ⟨wj, hwj⟩ : ∃ wj, wj = wr := ⟨_, rfl⟩
        subst hwj
        by_cases hlt : (k : Int) < la
        · obtain ⟨b, o, rfl, hck⟩ := si_cell (HSI6.out.below HB.out) (k := k) (by rw [List.length_map, ← HLA.out]; omega)
          have hmem : al.getD k 0 ∈ al := by
            rw [List.getD_eq_getElem?_getD, List.getElem?_eq_getElem (by rw [← HLA.out]; omega)]
            exact List.getElem_mem _
          have hgd : ((al.map fun x : Nat => (x : Int)).getD k 0) = ((al.getD k 0 : Nat) : Int) := by
            rw [List.getD_eq_getElem?_getD, List.getD_eq_getElem?_getD, List.getElem?_map, List.getElem?_eq_getElem (by rw [← HLA.out]; omega)]; rfl
          rw [hgd] at hck
          obtain ⟨x, hx⟩ : ∃ x, x = al.getD k 0 := ⟨_, rfl⟩
          rw [← hx] at hck hmem
          have hcx : hasB (setK isC ks) (x : Int) = true := by
            rw [hasB_nat]
            rw [HAL.out, List.mem_append] at hmem
            rcases hmem with h | h
            · obtain ⟨h1, h2⟩ := pagesK_mem.1 h
              rw [inB_setK h1, show kd ks x = 2 by simpa [eqK] using h2]; rfl
            · obtain ⟨h1, h2⟩ := pagesK_mem.1 h
              rw [inB_setK h1, show kd ks x = 4 by simpa [eqK] using h2]; rfl
          have HH := hid (has_any _ x1 _ (x : Int) wj (HX16.out.below HB.out).bm)
          rw [hcx] at HH
          have hkn : (k < la) = True := eq_true (by omega)
          clear hmem hgd hx hcx
          go_wp2_with fail
          refine HH.out.mono ?_
          clear HH
          rintro e w18 ⟨rfl, hb⟩
          have HB18 : Hid (Below w6.heap.size w6 w18) := hid (HB.out.trans (hb.mono HB.out.size))
          clear hb
          go_wp2_with fail
          go_roundw
          case rel => exact ⟨k + 1, by omega, by go_num, HB18.out⟩
          case measure => simp [intOf]; omega
        · have hkf : (k < la) = False := eq_false (by omega)
          clear hlt
          go_wp2_with fail
          go_loopw [13] (fun i wr => ∃ k : Nat, k ≤ N ∧ i = .int .i64 (k : Int) ∧ Below w6.heap.size w6 wr) (fun i _ => N - (intOf i).toNat)
          case atStart => exact ⟨0, Nat.zero_le _, rfl, HB.out⟩
          case round =>
            clear HB
            obtain ⟨k, hk, rfl, hb⟩ := hrel
            have HB := hid hb
            have HDK := hid (HD6.out.below hb)
            clear hb
            obtain ⟨wj, hwj⟩ : ∃ wj, wj = wr := ⟨_, rfl⟩
            subst hwj
            by_cases hlt : (k : Int) < N
            · have hkl : k < ks.length := by have := HNN.out; omega
              obtain ⟨X, hX⟩ : ∃ X, X = kd ks k := ⟨_, rfl⟩
              have HCK : Hid (∀ x, Grew wj.drew x → x.cell? ⟨g, k, none⟩ = some (.int .i64 (X : Int))) := hid fun x hx => by
                have hb : Below wj.heap.size wj x := ⟨hx.os, hx.tape, hx.output, hx.size, hx.block⟩
                rw [hX]; exact (HDK.out.below hb).d.cell hkl
              have HKK : Hid (∀ x, Grew wj.drew x → Calls Tryd.prog 26 #[.pointer (some ⟨p, 0, none⟩), .int .i64 (k : Int)] x fun e w' => e = .returned (.int .i64 (X : Int)) ∧ Below x.heap.size x w') := hid fun x hx => by
                have hb : Below wj.heap.size wj x := ⟨hx.os, hx.tape, hx.output, hx.size, hx.block⟩
                have := kind_any (k : Int) (HDK.out.below hb).a.al HKS.out
                rw [kindK_nat hkl, ← hX] at this
                exact this
              have hkn : (k < N) = True := eq_true (by omega)
              have hXX : ((X : Int) != X) = false := by simp
              clear hkl hX
              go_wp2_with fail
              refine wp_region_grows 8 [Eqv' (.pointer (some ⟨p, 0, none⟩)), Eqv' (.int .i64 (k : Int)), Eqv' (.int .i64 (X : Int)), Eqv' (.slice (some ⟨g, 0, none⟩) N N), Eqv' (.int .i64 (k : Int)), Eqv' (.pointer (some ⟨g, k, none⟩)), Eqv' (.int .i64 (X : Int)), Eqv' (.bool false)] (by kernel_rfl) (by decide) (by kernel_rfl) ?_ ?_ ?_
              · repeat' (first | exact List.forall_mem_nil _ | refine List.forall_mem_cons.2 ⟨?_, ?_⟩)
                all_goals
                  intro w w' v hw h
                  first | exact h | exact h
              · simp only [AllLt]
                refine ⟨⟨⟨⟨⟨⟨⟨⟨trivial, ?_⟩, ?_⟩, ?_⟩, ?_⟩, ?_⟩, ?_⟩, ?_⟩, ?_⟩
                all_goals
                  intro o' ho
                  simp at ho
                  subst ho
                  intro ρ w20 hR hL hS hG
                  obtain ⟨hl1, hl2, -⟩ := hL
                · refine plainG rfl ?_
                  intro bA K Q' hK
                  have e0 := hS 0 (by kernel_rfl)
                  change ρ (.tmp 0) = _ at e0
                  simp only [execOp]
                  go_simp
                  exact hK _ _ rfl (Grew.refl _)
                · refine plainG rfl ?_
                  intro bA K Q' hK
                  have e13 := hS 13 (by kernel_rfl)
                  change ρ (.tmp 13) = _ at e13
                  simp only [execOp]
                  go_simp
                  exact hK _ _ rfl (Grew.refl _)
                · refine plainG rfl ?_
                  intro bA K Q' hK
                  have e101 := hG 0 101 (by decide) (by kernel_rfl) (by kernel_rfl)
                  have e102 := hG 1 102 (by decide) (by kernel_rfl) (by kernel_rfl)
                  change ρ (.tmp 101) = _ at e101
                  change ρ (.tmp 102) = _ at e102
                  simp only [execOp]
                  go_simp
                  refine (HKK.out w20 hR).mono ?_
                  rintro r9 w9 ⟨rfl, hb9⟩
                  exact hK _ _ rfl hb9
                · refine plainG rfl ?_
                  intro bA K Q' hK
                  have e1 := hS 1 (by kernel_rfl)
                  change ρ (.tmp 1) = _ at e1
                  simp only [execOp]
                  go_simp
                  exact hK _ _ rfl (Grew.refl _)
                · refine plainG rfl ?_
                  intro bA K Q' hK
                  have e13 := hS 13 (by kernel_rfl)
                  change ρ (.tmp 13) = _ at e13
                  simp only [execOp]
                  go_simp
                  exact hK _ _ rfl (Grew.refl _)
                · refine plainG rfl ?_
                  intro bA K Q' hK
                  have e104 := hG 3 104 (by decide) (by kernel_rfl) (by kernel_rfl)
                  have e105 := hG 4 105 (by decide) (by kernel_rfl) (by kernel_rfl)
                  change ρ (.tmp 104) = _ at e104
                  change ρ (.tmp 105) = _ at e105
                  simp only [execOp]
                  go_simp
                  exact hK _ _ rfl (Grew.refl _)
                · refine plainG rfl ?_
                  intro bA K Q' hK
                  have e106 := hG 5 106 (by decide) (by kernel_rfl) (by kernel_rfl)
                  change ρ (.tmp 106) = _ at e106
                  have y0 := HCK.out w20 hR
                  simp only [execOp]
                  go_simp
                  exact hK _ _ rfl (Grew.refl _)
                · refine plainG rfl ?_
                  intro bA K Q' hK
                  have e103 := hG 2 103 (by decide) (by kernel_rfl) (by kernel_rfl)
                  have e107 := hG 6 107 (by decide) (by kernel_rfl) (by kernel_rfl)
                  change ρ (.tmp 103) = _ at e103
                  change ρ (.tmp 107) = _ at e107
                  simp only [execOp]
                  go_simp
                  exact hK _ _ rfl (Grew.refl _)
              · intro v w19 hR hG
                have h7 : v 7 = .bool false := hG.2
                have hb : Below wj.heap.size wj w19 := ⟨hR.os, hR.tape, hR.output, hR.size, hR.block⟩
                have HB19 : Hid (Below w6.heap.size w6 w19) := hid (HB.out.trans (hb.mono HB.out.size))
                clear hG hR hb HCK HKK
                simp [stG, stU, dstAt, Act.put, h7]
                clear h7
                go_wp2_with fail
                go_roundw
                case rel => exact ⟨k + 1, by omega, by go_num, HB19.out⟩
                case measure => simp [intOf]; omega
            · have hkf : (k < N) = False := eq_false (by omega)
              clear hlt
              go_wp2_with fail
              go_ret
              exact ⟨rfl, HB6.out.trans (HB.out.mono HB6.out.size)⟩
  · have hpk : kindK ks page = 5 := kindK_out (by omega)
    have HPK := hid hpk
    have hpf : (0 ≤ page) = False := eq_false hp0
    clear hpk hp0
    have HPG := hid (pages_any HD6.out.a.al)
    rw [← HNN.out] at HPG
    have hNN : ((N : Int) != N) = false := by simp
    go_wp2_with fail
    refine HPG.out.mono ?_
    clear HPG
    rintro e w7 ⟨rfl, rfl⟩
    obtain ⟨F, hF⟩ : ∃ F, F = (pagesK isF ks).length := ⟨_, rfl⟩
    have HF := hid hF
    have HFR := hid (allocFree_any HD6.out.a.al HD6.out.a.ks HD6.out.a.tab)
    rw [← hF] at HFR
    have hFF : ((F : Int) != F) = false := by simp
    clear hF
    go_wp2_with fail
    refine HFR.out.mono ?_
    clear HFR
    rintro e w8 ⟨rfl, hb8⟩
    have HB8 := hid hb8
    have HD8 := hid (HD6.out.below hb8)
    clear hb8
    go_wp2_with fail
    refine (HALL.out 1 w8 HD8.out).mono ?_
    rintro e w9 ⟨⟨y9, rfl, hy9⟩, hb9⟩
    obtain ⟨a9, c9, rfl, -, -⟩ := owned_slice hy9
    rw [show (pagesK (eqK 1) ks).length = F from HF.out.symm]
    have HB9 : Hid (Below w6.heap.size w6 w9) := hid (HB8.out.trans (hb9.mono HB8.out.size))
    have HD9 := hid (HD6.out.below HB9.out)
    clear hb9 hy9 HB8 HD8
    have HKD := hid (kind_any page HD9.out.a.al HD9.out.a.ks)
    rw [HPK.out] at HKD
    go_wp2_with fail
    refine HKD.out.mono ?_
    clear HKD
    rintro e w10 ⟨rfl, hb10⟩
    have HB10 : Hid (Below w6.heap.size w6 w10) := hid (HB9.out.trans (hb10.mono HB9.out.size))
    have HD10 := hid (HD6.out.below HB10.out)
    clear hb10 HB9 HD9
    obtain ⟨nS, hnS⟩ : ∃ nS, nS = (intsK isS ks).length := ⟨_, rfl⟩
    have HNS := hid hnS
    obtain ⟨nP, hnP⟩ : ∃ nP, nP = (intsK isP ks).length := ⟨_, rfl⟩
    have HNP := hid hnP
    have hSb : (nS : Int) ≤ 9223372036854775807 := by have h0 := HKS.out.n2048; have h1 := intsK_len isS ks; have h2 := pagesK_len isS ks; omega
    have hPb : (nP : Int) ≤ 9223372036854775807 := by have h0 := HKS.out.n2048; have h1 := intsK_len isP ks; have h2 := pagesK_len isP ks; omega
    have HSA := hid (allK_any (w := w10) _ x2 isS ks w10 (HX26.out.below HB10.out) HD10.out.a.tab (Nat.le_refl _) nS hnS)
    clear hnS hnP
    go_wp2_with fail
    refine HSA.out.mono ?_
    clear HSA
    rintro e w11 ⟨⟨y11, rfl, hy11⟩, hb11⟩
    obtain ⟨a11, c11, rfl, hs11⟩ := hy11
    have HS11 := hid hs11
    have HB11 : Hid (Below w6.heap.size w6 w11) := hid (HB10.out.trans (hb11.mono HB10.out.size))
    have HD11 := hid (HD6.out.below HB11.out)
    clear hs11 hb11 HB10 HD10
    go_wp2_with fail
    refine (HALL.out 3 w11 HD11.out).mono ?_
    rintro e w12 ⟨⟨y12, rfl, hy12⟩, hb12⟩
    obtain ⟨a12, c12, rfl, -, hs12⟩ := owned_slice hy12
    rw [show (pagesK (eqK 3) ks).length = nS by rw [HNS.out, intsK_len]; rfl]
    have HB12 : Hid (Below w6.heap.size w6 w12) := hid (HB11.out.trans (hb12.mono HB11.out.size))
    have HD12 := hid (HD6.out.below HB12.out)
    have HSM := hid (refSame_eq nS c11 c12 (intsK isS ks) (HS11.out.below hb12) hs12 HNS.out hSb)
    clear hb12 hy12 hs12 HS11 HB11 HD11
    go_wp2_with fail
    refine HSM.out.mono ?_
    clear HSM
    rintro e w13 ⟨rfl, hb13⟩
    have HB13 : Hid (Below w6.heap.size w6 w13) := hid (HB12.out.trans (hb13.mono HB12.out.size))
    have HD13 := hid (HD6.out.below HB13.out)
    clear hb13 HB12 HD12
    have HSA := hid (allK_any (w := w13) _ x3 isP ks w13 (HX36.out.below HB13.out) HD13.out.a.tab (Nat.le_refl _) nP HNP.out)
    go_wp2_with fail
    refine HSA.out.mono ?_
    clear HSA
    rintro e w14 ⟨⟨y14, rfl, hy14⟩, hb14⟩
    obtain ⟨a14, c14, rfl, hs14⟩ := hy14
    have HS14 := hid hs14
    have HB14 : Hid (Below w6.heap.size w6 w14) := hid (HB13.out.trans (hb14.mono HB13.out.size))
    have HD14 := hid (HD6.out.below HB14.out)
    clear hs14 hb14 HB13 HD13
    go_wp2_with fail
    refine (HALL.out 4 w14 HD14.out).mono ?_
    rintro e w15 ⟨⟨y15, rfl, hy15⟩, hb15⟩
    obtain ⟨a15, c15, rfl, -, hs15⟩ := owned_slice hy15
    rw [show (pagesK (eqK 4) ks).length = nP by rw [HNP.out, intsK_len]; rfl]
    have HB15 : Hid (Below w6.heap.size w6 w15) := hid (HB14.out.trans (hb15.mono HB14.out.size))
    have HD15 := hid (HD6.out.below HB15.out)
    have HSM := hid (refSame_eq nP c14 c15 (intsK isP ks) (HS14.out.below hb15) hs15 HNP.out hPb)
    clear hb15 hy15 hs15 HS14 HB14 HD14
    go_wp2_with fail
    refine HSM.out.mono ?_
    clear HSM
    rintro e w16 ⟨rfl, hb16⟩
    have HB16 : Hid (Below w6.heap.size w6 w16) := hid (HB15.out.trans (hb16.mono HB15.out.size))
    clear hb16 HB15 HD15
    have HCO := hid (count_any _ x1 _ w16 (HX16.out.below HB16.out).bm)
    rw [show cntTo (inB (setK isC ks)) (setK isC ks).length = la by rw [← HCT.out, ← nums_setK]; rfl] at HCO
    have hll : ((la : Int) != la) = false := by simp
    clear hNN hFF hSb hPb
    go_wp2_with fail
    refine HCO.out.mono ?_
    clear HCO
    rintro e w17 ⟨rfl, rfl⟩
    go_wp2_with fail
    go_loopw [12] (fun i wr => ∃ k : Nat, k ≤ la ∧ i = .int .i64 (k : Int) ∧ Below w6.heap.size w6 wr) (fun i _ => la - (intOf i).toNat)
    case atStart => exact ⟨0, Nat.zero_le _, rfl, HB16.out⟩
    case round =>
      clear HB16
      obtain ⟨k, hk, rfl, hb⟩ := hrel
      have HB := hid hb
      clear hb
      obtain ⟨wj, hwj⟩ : ∃ wj, wj = wr := ⟨_, rfl⟩
      subst hwj
      by_cases hlt : (k : Int) < la
      · obtain ⟨b, o, rfl, hck⟩ := si_cell (HSI6.out.below HB.out) (k := k) (by rw [List.length_map, ← HLA.out]; omega)
        have hmem : al.getD k 0 ∈ al := by
          rw [List.getD_eq_getElem?_getD, List.getElem?_eq_getElem (by rw [← HLA.out]; omega)]
          exact List.getElem_mem _
        have hgd : ((al.map fun x : Nat => (x : Int)).getD k 0) = ((al.getD k 0 : Nat) : Int) := by
          rw [List.getD_eq_getElem?_getD, List.getD_eq_getElem?_getD, List.getElem?_map, List.getElem?_eq_getElem (by rw [← HLA.out]; omega)]; rfl
        rw [hgd] at hck
        obtain ⟨x, hx⟩ : ∃ x, x = al.getD k 0 := ⟨_, rfl⟩
        rw [← hx] at hck hmem
        have hcx : hasB (setK isC ks) (x : Int) = true := by
          rw [hasB_nat]
          rw [HAL.out, List.mem_append] at hmem
          rcases hmem with h | h
          · obtain ⟨h1, h2⟩ := pagesK_mem.1 h
            rw [inB_setK h1, show kd ks x = 2 by simpa [eqK] using h2]; rfl
          · obtain ⟨h1, h2⟩ := pagesK_mem.1 h
            rw [inB_setK h1, show kd ks x = 4 by simpa [eqK] using h2]; rfl
        have HH := hid (has_any _ x1 _ (x : Int) wj (HX16.out.below HB.out).bm)
        rw [hcx] at HH
        have hkn : (k < la) = True := eq_true (by omega)
        clear hmem hgd hx hcx
        go_wp2_with fail
        refine HH.out.mono ?_
        clear HH
        rintro e w18 ⟨rfl, hb⟩
        have HB18 : Hid (Below w6.heap.size w6 w18) := hid (HB.out.trans (hb.mono HB.out.size))
        clear hb
        go_wp2_with fail
        go_roundw
        case rel => exact ⟨k + 1, by omega, by go_num, HB18.out⟩
        case measure => simp [intOf]; omega
      · have hkf : (k < la) = False := eq_false (by omega)
        clear hlt
        go_wp2_with fail
        go_loopw [13] (fun i wr => ∃ k : Nat, k ≤ N ∧ i = .int .i64 (k : Int) ∧ Below w6.heap.size w6 wr) (fun i _ => N - (intOf i).toNat)
        case atStart => exact ⟨0, Nat.zero_le _, rfl, HB.out⟩
        case round =>
          clear HB
          obtain ⟨k, hk, rfl, hb⟩ := hrel
          have HB := hid hb
          have HDK := hid (HD6.out.below hb)
          clear hb
          obtain ⟨wj, hwj⟩ : ∃ wj, wj = wr := ⟨_, rfl⟩
          subst hwj
          by_cases hlt : (k : Int) < N
          · have hkl : k < ks.length := by have := HNN.out; omega
            obtain ⟨X, hX⟩ : ∃ X, X = kd ks k := ⟨_, rfl⟩
            have HCK : Hid (∀ x, Grew wj.drew x → x.cell? ⟨g, k, none⟩ = some (.int .i64 (X : Int))) := hid fun x hx => by
              have hb : Below wj.heap.size wj x := ⟨hx.os, hx.tape, hx.output, hx.size, hx.block⟩
              rw [hX]; exact (HDK.out.below hb).d.cell hkl
            have HKK : Hid (∀ x, Grew wj.drew x → Calls Tryd.prog 26 #[.pointer (some ⟨p, 0, none⟩), .int .i64 (k : Int)] x fun e w' => e = .returned (.int .i64 (X : Int)) ∧ Below x.heap.size x w') := hid fun x hx => by
              have hb : Below wj.heap.size wj x := ⟨hx.os, hx.tape, hx.output, hx.size, hx.block⟩
              have := kind_any (k : Int) (HDK.out.below hb).a.al HKS.out
              rw [kindK_nat hkl, ← hX] at this
              exact this
            have hkn : (k < N) = True := eq_true (by omega)
            have hXX : ((X : Int) != X) = false := by simp
            clear hkl hX
            go_wp2_with fail
            refine wp_region_grows 8 [Eqv' (.pointer (some ⟨p, 0, none⟩)), Eqv' (.int .i64 (k : Int)), Eqv' (.int .i64 (X : Int)), Eqv' (.slice (some ⟨g, 0, none⟩) N N), Eqv' (.int .i64 (k : Int)), Eqv' (.pointer (some ⟨g, k, none⟩)), Eqv' (.int .i64 (X : Int)), Eqv' (.bool false)] (by kernel_rfl) (by decide) (by kernel_rfl) ?_ ?_ ?_
            · repeat' (first | exact List.forall_mem_nil _ | refine List.forall_mem_cons.2 ⟨?_, ?_⟩)
              all_goals
                intro w w' v hw h
                first | exact h | exact h
            · simp only [AllLt]
              refine ⟨⟨⟨⟨⟨⟨⟨⟨trivial, ?_⟩, ?_⟩, ?_⟩, ?_⟩, ?_⟩, ?_⟩, ?_⟩, ?_⟩
              all_goals
                intro o' ho
                simp at ho
                subst ho
                intro ρ w20 hR hL hS hG
                obtain ⟨hl1, hl2, -⟩ := hL
              · refine plainG rfl ?_
                intro bA K Q' hK
                have e0 := hS 0 (by kernel_rfl)
                change ρ (.tmp 0) = _ at e0
                simp only [execOp]
                go_simp
                exact hK _ _ rfl (Grew.refl _)
              · refine plainG rfl ?_
                intro bA K Q' hK
                have e13 := hS 13 (by kernel_rfl)
                change ρ (.tmp 13) = _ at e13
                simp only [execOp]
                go_simp
                exact hK _ _ rfl (Grew.refl _)
              · refine plainG rfl ?_
                intro bA K Q' hK
                have e101 := hG 0 101 (by decide) (by kernel_rfl) (by kernel_rfl)
                have e102 := hG 1 102 (by decide) (by kernel_rfl) (by kernel_rfl)
                change ρ (.tmp 101) = _ at e101
                change ρ (.tmp 102) = _ at e102
                simp only [execOp]
                go_simp
                refine (HKK.out w20 hR).mono ?_
                rintro r9 w9 ⟨rfl, hb9⟩
                exact hK _ _ rfl hb9
              · refine plainG rfl ?_
                intro bA K Q' hK
                have e1 := hS 1 (by kernel_rfl)
                change ρ (.tmp 1) = _ at e1
                simp only [execOp]
                go_simp
                exact hK _ _ rfl (Grew.refl _)
              · refine plainG rfl ?_
                intro bA K Q' hK
                have e13 := hS 13 (by kernel_rfl)
                change ρ (.tmp 13) = _ at e13
                simp only [execOp]
                go_simp
                exact hK _ _ rfl (Grew.refl _)
              · refine plainG rfl ?_
                intro bA K Q' hK
                have e104 := hG 3 104 (by decide) (by kernel_rfl) (by kernel_rfl)
                have e105 := hG 4 105 (by decide) (by kernel_rfl) (by kernel_rfl)
                change ρ (.tmp 104) = _ at e104
                change ρ (.tmp 105) = _ at e105
                simp only [execOp]
                go_simp
                exact hK _ _ rfl (Grew.refl _)
              · refine plainG rfl ?_
                intro bA K Q' hK
                have e106 := hG 5 106 (by decide) (by kernel_rfl) (by kernel_rfl)
                change ρ (.tmp 106) = _ at e106
                have y0 := HCK.out w20 hR
                simp only [execOp]
                go_simp
                exact hK _ _ rfl (Grew.refl _)
              · refine plainG rfl ?_
                intro bA K Q' hK
                have e103 := hG 2 103 (by decide) (by kernel_rfl) (by kernel_rfl)
                have e107 := hG 6 107 (by decide) (by kernel_rfl) (by kernel_rfl)
                change ρ (.tmp 103) = _ at e103
                change ρ (.tmp 107) = _ at e107
                simp only [execOp]
                go_simp
                exact hK _ _ rfl (Grew.refl _)
            · intro v w19 hR hG
              have h7 : v 7 = .bool false := hG.2
              have hb : Below wj.heap.size wj w19 := ⟨hR.os, hR.tape, hR.output, hR.size, hR.block⟩
              have HB19 : Hid (Below w6.heap.size w6 w19) := hid (HB.out.trans (hb.mono HB.out.size))
              clear hG hR hb HCK HKK
              simp [stG, stU, dstAt, Act.put, h7]
              clear h7
              go_wp2_with fail
              go_roundw
              case rel => exact ⟨k + 1, by omega, by go_num, HB19.out⟩
              case measure => simp [intOf]; omega
          · have hkf : (k < N) = False := eq_false (by omega)
            clear hlt
            go_wp2_with fail
            go_ret
            exact ⟨rfl, HB6.out.trans (HB.out.mono HB6.out.size)⟩
end Go.Proofs.YtjgnnofpilmgoaaDoor
