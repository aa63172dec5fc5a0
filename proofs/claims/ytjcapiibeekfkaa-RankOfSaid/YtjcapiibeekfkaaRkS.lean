/- THE WALK OF 'RankOf', over the program's contracts. -/
import Derived.Test.YtjcapiibeekfkaaRkR
import Derived.Test.YtjcapiibeekfkaaRkMb
namespace Go.Proofs.Ytjcapiibeekfkaa
open Go.RowKit Go.Inc
set_option maxRecDepth 20000 in
set_option maxHeartbeats 4000000 in
/-- RankOf, where nothing is refused. -/
theorem rankOf_good {Rk : World → Nat → List Bool → (Nat → Prop) → Prop} (pr : PR Rk) (W : World) (a : Option Addr) (c N : Nat) (zs0 zs : List Int) (hs : Si (fun _ => True) W a zs0) (hz : ∀ z ∈ zs0, i64z z) (hlc : zs0.length ≤ c) (hzs : zs = zs0.take 40) (hE : ofE (N : Int) zs = 0) :
    Calls Try.prog 4 #[.int .i64 (N : Int), .slice a zs0.length c] W fun e w' => e = .returned (.bool true) ∧ Below W.heap.size W w' := by
  obtain ⟨-, hNb, hgood⟩ := ofE_good hE
  have HS : Hid (Si (fun i => i < W.heap.size) W a zs) := hid (by rw [hzs]; exact (hs.front 40).mono fun _ _ h => h)
  have hzb : ∀ z ∈ zs, i64z z := fun z hh => hz z (by rw [hzs] at hh; exact List.mem_of_mem_take hh)
  obtain ⟨L, hL⟩ : ∃ L, L = zs0.length := ⟨_, rfl⟩
  obtain ⟨nz, hnz⟩ : ∃ nz, nz = zs.length := ⟨_, rfl⟩
  have hmin : min (L : Int) 40 = (nz : Int) := by rw [hnz, hzs, List.length_take]; omega
  have hL0 : (0 : Int) ≤ L := by omega
  have hmL : (nz : Int) ≤ L := by omega
  have hmc : (nz : Int) ≤ c := by omega
  have hn40 : (nz : Int) ≤ 40 := by omega
  have HNZ := hid hnz
  have hof := pr.pOf _ W a c (N : Int) zs HS.out ⟨by omega, by omega⟩ hzb (by omega) hE
  rw [← hnz, show ((N : Int)).toNat = N from rfl] at hof
  have HOF := hid hof
  obtain ⟨m, hm⟩ : ∃ m, m = onesB N zs nz := ⟨_, rfl⟩
  have HM := hid hm
  have hml : m.length = N := by rw [hm, onesB_len]
  have HML := hid hml
  have HGD : Hid (∀ t, t < nz → ∃ q : Nat, zs.getD t 0 = (q : Int) ∧ q < N) := hid fun t ht => by
    have h1 := hgood (zs.getD t 0) (by rw [List.getD_eq_getElem?_getD, List.getElem?_eq_getElem (by omega)]; exact List.getElem_mem _)
    obtain ⟨q, hq⟩ := Int.eq_ofNat_of_zero_le h1.1
    exact ⟨q, hq, by omega⟩
  rw [← hm] at HOF
  rw [← hL]
  obtain ⟨i0, hi, hz0, hz1, hz2⟩ := info_parts infoBool
  have HI := hid (And.intro hi (And.intro hz0 (And.intro hz1 hz2)))
  clear hs hz hlc hzs hE hgood hzb hL hnz hof hm hml hi hz0 hz1 hz2
  go_enter Try.func4, Try.ntmps4
  go_wp2_with fail
  refine HOF.out.mono ?_
  rintro e y1 ⟨b, S, rfl, hr, hs, hb1⟩
  have HR := hid hr
  have HG := hid hs
  have HB1 := hid hb1
  have HLT := hid (pr.lt hr)
  have HS1 := hid (HS.out.below hb1)
  obtain ⟨B, hB⟩ : ∃ B, B = y1.heap.size := ⟨_, rfl⟩
  have HBE := hid hB
  clear hr hs hb1 HOF HS hB
  go_wp2_with (refine wpList_make_full _ rfl _ _ 23 rfl B 4 i0 (.bool false) 1 Try.underlying23 HI.out.1 HI.out.2.1 HI.out.2.2.1 .i64 .i64 _ _ N rfl rfl rfl rfl (by rw [HI.out.2.2.2]; omega) (by unfold maxLen; omega) (by rw [HBE.out]; exact Nat.le_refl _) ?_)
  intro w1 hown hg
  have HR1 : Hid (w1.ownsRow B 4 1 (.slice (some ⟨y1.heap.size, 0, none⟩) N N) N (bvals (onesB N zs 0))) := hid (by rw [bvals_zeros N] at hown; exact hown)
  have HBW1 : Hid (Below B y1 w1) := hid ⟨hg.os, hg.tape, hg.output, hg.size, fun i hi => hg.block i (by rw [HBE.out] at hi; exact hi) (by simp)⟩
  clear hown hg HI
  obtain ⟨g, hg⟩ : ∃ g, g = y1.heap.size := ⟨_, rfl⟩
  rw [← hg] at HR1 ⊢
  clear hg
  go_wp2_with fail
  go_loopw [8] (fun i wr => ∃ t : Nat, t ≤ nz ∧ i = .int .i64 (t : Int) ∧ wr.ownsRow B 4 1 (.slice (some ⟨g, 0, none⟩) N N) N (bvals (onesB N zs t)) ∧ Below B y1 wr) (fun i _ => nz - (intOf i).toNat)
  case atStart => exact ⟨0, Nat.zero_le _, rfl, HR1.out, HBW1.out⟩
  case round =>
    clear HR1 HBW1
    obtain ⟨t, ht, rfl, hr, hb⟩ := hrel
    have HRW := hid hr
    have HB := hid hb
    clear hr hb
    by_cases hlt : (t : Int) < nz
    · have HTL : Hid (t < nz) := hid (by omega)
      obtain ⟨q, hq, hqN⟩ := HGD.out t HTL.out
      obtain ⟨b0, o0, rfl, hc⟩ : ∃ b0 o0, a = some ⟨b0, o0, none⟩ ∧ wr.cell? ⟨b0, o0 + t, none⟩ = some (.int .i64 (q : Int)) := by
        rcases (HS1.out.kept (w' := wr) fun i _ hi => HB.out.block i (by rw [HBE.out]; exact hi)) with h | ⟨b0, o0, h, _, hc⟩
        · have := HNZ.out; rw [h] at this; simp at this; omega
        · exact ⟨b0, o0, h, by rw [hc t (by rw [← HNZ.out]; exact HTL.out), hq]⟩
      have HNEW : Hid ((wr.setCell ⟨g, q, none⟩ (.bool true)).ownsRow B 4 1 (.slice (some ⟨g, 0, none⟩) N N) N (bvals (onesB N zs (t + 1))) ∧ Below B y1 (wr.setCell ⟨g, q, none⟩ (.bool true))) := hid (by
        have h := HRW.out.stored q (.bool true)
        rw [bvals_set] at h
        refine ⟨?_, below_grown HB.out h.2 (HRW.out.lt g rfl).1 (by have := HB.out.size; rw [HBE.out]; exact this)⟩
        show World.ownsRow _ B _ 1 _ N (bvals ((onesB N zs t).set (zs.getD t 0).toNat true))
        rw [hq]
        exact h.1)
      have j3 : wr.cell? ⟨g, q, none⟩ = some (.bool (inB (onesB N zs t) q)) := by
        have h := HRW.out.cells (g := g) rfl q _ (bvals_get (by rw [onesB_len]; exact hqN))
        rw [Addr.add_lit] at h
        simpa using h
      have jf := HRW.out.frozenAt q
      have hqi : (q : Int) < N := by omega
      have hqn : ¬ (q : Int) < 0 := by omega
      have hqg : ¬ (N : Int) ≤ q := by omega
      have htn : (t < nz) = True := eq_true HTL.out
      have htb : (t : Int) < 40 := by omega
      generalize inB (onesB N zs t) q = old at *
      clear hq hlt HRW HB
      go_wp2_with fail
      go_roundw
      case rel => exact ⟨t + 1, HTL.out, by go_num, HNEW.out.1, HNEW.out.2⟩
      case measure => simp [intOf]; have := HTL.out; omega
    · have HTE : Hid (t = nz) := hid (by omega)
      have htn : (t < nz) = False := eq_false (by omega)
      have HR2 : Hid (wr.ownsRow B 4 1 (.slice (some ⟨g, 0, none⟩) N N) N (bvals m)) := hid (by rw [HM.out, ← HTE.out]; exact HRW.out)
      have HB2 := hid HB.out
      clear hlt HRW HB HTE
      go_wp2_with fail
      go_loopw [9, 10] (fun u i wr => ∃ t : Nat, t ≤ N ∧ i = .int .i64 (t : Int) ∧ wr.ownsRow B 3 1 u (plcB m t).length (nvals (plcB m t)) ∧ wr.ownsRow B 4 1 (.slice (some ⟨g, 0, none⟩) N N) N (bvals m) ∧ Below B y1 wr) (fun _ i _ => N - (intOf i).toNat)
      case atStart => exact ⟨0, Nat.zero_le _, rfl, World.ownsRow_nil _ _ _ _, HR2.out, HB2.out⟩
      case round =>
        clear HR2 HB2 HGD
        obtain ⟨t, ht, rfl, hu, hr, hb⟩ := hrel
        have HU := hid hu
        have HRW := hid hr
        have HB := hid hb
        have hbs : B ≤ wr.heap.size := by rw [HBE.out]; exact hb.size
        clear hu hr hb
        by_cases hlt : (t : Int) < N
        · have HTL : Hid (t < N) := hid (by omega)
          have j3 : wr.cell? ⟨g, t, none⟩ = some (.bool (inB m t)) := by
            have h := HRW.out.cells (g := g) rfl t _ (bvals_get (by rw [HML.out]; exact HTL.out))
            rw [Addr.add_lit] at h
            simpa using h
          have htn : (t < N) = True := eq_true HTL.out
          have htb : (t : Int) < 65536 := by omega
          cases hbt : inB m t
          · have HPS := hid (plcB_succ_out hbt)
            rw [hbt] at j3
            clear hbt hlt
            go_wp2_with fail
            go_roundw
            case rel => exact ⟨t + 1, HTL.out, by go_num, by rw [HPS.out]; exact HU.out, HRW.out, HB.out⟩
            case measure => simp [intOf]; have := HTL.out; omega
          · have HPS := hid (plcB_succ_in hbt)
            rw [hbt] at j3
            have hpl : (plcB m t).length ≤ t := by rw [plcB_len]; exact rkB_le m true t
            obtain ⟨l, hl⟩ : ∃ l, l = plcB m t := ⟨_, rfl⟩
            rw [← hl] at HU HPS hpl
            have HPL := hid hpl
            clear hbt hlt hl hpl
            go_wp2_with (refine wpList_append_any rfl (.tmp 91) (.tmp 93) 37 rfl B 3 (.int .i64 0) 8 Try.underlying37 infoI64 rfl _ _ _ rfl (HU.out.alloc _) (some ⟨wr.heap.size, 0, none⟩) 1 1 [.int .i64 (t : Int)] rfl rfl (by intro h; cases h) (one_new wr _ _) (by simp [Value.oneCell']) (by have := HPL.out; unfold maxLen; omega) (by have := HPL.out; omega) (by simp; omega) ?_)
            intro u3 w3 hu3 hg3 _
            have HB3 := hid ((HB.out.alloc hbs (.cells #[.int .i64 (t : Int)] 3)).grown hg3 (by simp; omega) fun k hk => (HU.out.lt k hk).1)
            have HRW3 : Hid (w3.ownsRow B 4 1 (.slice (some ⟨g, 0, none⟩) N N) N (bvals m)) := hid (World.ownsRow.kept (HRW.out.alloc _) hg3 (rows_apart HRW.out HU.out (by decide)))
            have HU3 : Hid (w3.ownsRow B 3 1 u3 (l ++ [t]).length (nvals (l ++ [t]))) := hid (by rw [nvals_snoc, List.length_append]; exact hu3)
            clear hu3 hg3 HU HRW HB
            go_wp2_with fail
            go_roundw
            case rel => exact ⟨t + 1, HTL.out, by go_num, by rw [HPS.out]; exact HU3.out, HRW3.out, HB3.out⟩
            case measure => simp [intOf]; have := HTL.out; omega
        · have hte : t = N := by omega
          subst hte
          have htn : (t < t) = False := eq_false (by omega)
          obtain ⟨a2, c2, rfl, -, -, -, -, hsi⟩ := Si.ownedN HU.out
          have HSI := hid hsi
          obtain ⟨zl, hzl⟩ : ∃ zl, zl = (plcB m t).map fun x : Nat => (x : Int) := ⟨_, rfl⟩
          have hll : zl.length = (plcB m t).length := by rw [hzl, List.length_map]
          have hpl : (plcB m t).length ≤ t := by rw [plcB_len]; exact rkB_le m true t
          have hz2 : ∀ z ∈ zl, i64z z := fun z hh => by
            rw [hzl] at hh
            obtain ⟨x, hx, rfl⟩ := List.mem_map.1 hh
            have := (plcB_mem m x t).1 hx
            exact ⟨by omega, by omega⟩
          have he : ofE (t : Int) zl = 0 := by
            have h := ofE_plcB m (by rw [HML.out]; omega)
            rw [HML.out] at h
            rw [hzl]; exact h
          have hof := pr.pOf _ wr a2 c2 (t : Int) zl (by rw [hzl]; exact hsi) ⟨by omega, by omega⟩ hz2 (by omega) he
          have hone : onesB t zl zl.length = m := by
            have h := onesB_plcB m
            rw [HML.out] at h
            rw [hzl, List.length_map]; exact h
          rw [show ((t : Int)).toNat = t from rfl, hone, hll] at hof
          have HOF := hid hof
          have HRK := hid (pr.keep HR.out (Mv.of_below (F := fun _ => False) (by rw [← HBE.out]; exact HB.out)) fun _ _ => id)
          have HZL := hid hzl
          have HZL2 := hid hzl
          have HLL := hid hll
          have HPL : Hid ((plcB m t).length = rkB m true t ∧ (plcB m t).length ≤ t) := hid ⟨plcB_len m t, hpl⟩
          have HBW := hid (HB1.out.trans (HB.out.mono (by rw [HBE.out]; exact HB1.out.size)))
          have hpt : ((plcB m t).length : Int) ≤ 65536 := by omega
          obtain ⟨np, hnp⟩ : ∃ np, np = (plcB m t).length := ⟨_, rfl⟩
          rw [← hnp] at HOF HLL HPL hpt ⊢
          have HNP := hid hnp
          clear hlt hsi hzl hll hpl hz2 he hof hone HU HRW hnp hbs
          go_wp2_with fail
          refine HOF.out.mono ?_
          rintro e y2 ⟨b2, S2, rfl, hr2, hs2, hb2⟩
          have HK2 := hid (Kp.start (pr.keep HRK.out (Mv.of_below (F := fun _ => False) hb2) fun _ _ => id))
          have HR2 := hid hr2
          have HD2 : Hid (∀ i, S i → ¬ S2 i) := hid fun i h1 h2 => by
            have h3 := HLT.out i h1
            have h4 := hs2 i h2
            have h5 := HB.out.size
            omega
          have HG2 : Hid (∀ i, S2 i → W.heap.size ≤ i) := hid fun i h2 => Nat.le_trans HBW.out.size (hs2 i h2)
          have HBY := hid (HBW.out.trans (hb2.mono HBW.out.size))
          have HAT : Hid (Si (fun i => i < y2.heap.size ∧ ¬ S i) y2 a2 zl) := hid (by
            rw [HZL.out]
            refine (HSI.out.below hb2).mono fun i hi hlt => ⟨hlt, fun h1 => ?_⟩
            have h3 := HLT.out i h1
            rw [← HBE.out] at h3
            omega)
          clear hr2 hs2 hb2 HOF HRK HBW HSI HZL HB HLT
          go_wp2_with fail
          refine (known_any pr y2).mono ?_
          rintro e y3 ⟨rfl, hb3⟩
          have HK3 := hid (pr.below HK2.out hb3)
          clear hb3 HK2
          go_wp2_with fail
          refine (pr.pLen _ _ _ _ HK3.out.rk).mono ?_
          rintro e y4 ⟨S4, rfl, k4⟩
          have HK4 := hid (HK3.out.trans k4)
          rw [HML.out]
          clear k4 HK3
          go_wp2_with fail
          refine (pr.pOnes _ _ _ _ HK4.out.rk).mono ?_
          rintro e y5 ⟨S5, au, cu, rfl, k5, hsi⟩
          have HK5 := hid (HK4.out.trans k5)
          rw [HML.out] at hsi ⊢
          have hs1 := refSame_any _ _ au a2 cu c2 zl zl y5 (by rw [HZL2.out]; exact hsi) (HK5.out.held_si HAT.out fun i hi => hi.2) (by rw [HLL.out]; omega)
          rw [HLL.out, decide_eq_true rfl] at hs1
          have HS1 := hid hs1
          rw [← HNP.out]
          clear k5 hsi hs1 HK4
          go_wp2_with fail
          refine HS1.out.mono ?_
          rintro e y6 ⟨rfl, hb6⟩
          have HK6 := hid (pr.below HK5.out hb6)
          clear hb6 HS1 HK5
          have hsm := pr.pSame y6 b m S5 b2 m S2 HK6.out.rk (pr.keep HR2.out HK6.out.mv fun i h2 h1 => HD2.out i h1 h2) (fun i h5 h2 => HK6.out.out (pr.lt HR2.out i h2) (fun h1 => HD2.out i h1 h2) h5)
          rw [decide_eq_true (rfl : m = m)] at hsm
          have HSM := hid hsm
          clear hsm
          go_wp2_with fail
          refine HSM.out.mono ?_
          rintro e y7 ⟨S7, rfl, hr7, hsub, hmv⟩
          have HBY6 := hid (HK6.out.belowW HBY.out HG.out)
          have HG6 := hid (HK6.out.ge HBY.out.size HG.out)
          have HB7 := hid (HBY6.out.trans (hmv.below HBY6.out.size fun i hi => hi.elim (HG6.out i) (HG2.out i)))
          have HG7 : Hid (∀ i, S7 i → W.heap.size ≤ i) := hid fun i hi => (hsub i hi).elim (HG6.out i) fun h => Nat.le_trans HBY6.out.size h
          have HR7 := hid hr7
          clear hr7 hsub hmv HSM
          go_wp2_with fail
          refine (pr.pCount _ _ _ _ _ HR7.out).mono ?_
          rintro e y8 ⟨S8, rfl, k8⟩
          rw [HML.out, ← HPL.out.1]
          have HB8 := hid (k8.belowW HB7.out HG7.out)
          clear k8
          go_wp2_with fail
          go_ret
          exact ⟨rfl, HB8.out⟩
set_option maxRecDepth 20000 in
set_option maxHeartbeats 4000000 in
/-- RankOf, where something is refused. -/
theorem rankOf_bad {Rk : World → Nat → List Bool → (Nat → Prop) → Prop} (pr : PR Rk) (W : World) (n : Int) (a : Option Addr) (c : Nat) (zs0 zs : List Int) (hn : i64z n) (hs : Si (fun _ => True) W a zs0) (hz : ∀ z ∈ zs0, i64z z) (hlc : zs0.length ≤ c) (hzs : zs = zs0.take 40) (hE : ofE n zs ≠ 0) :
    Calls Try.prog 4 #[.int .i64 n, .slice a zs0.length c] W fun e w' => e = .returned (.bool true) ∧ Below W.heap.size W w' := by
  have HS : Hid (Si (fun i => i < W.heap.size) W a zs) := hid (by rw [hzs]; exact (hs.front 40).mono fun _ _ h => h)
  have hzb : ∀ z ∈ zs, i64z z := fun z hh => hz z (by rw [hzs] at hh; exact List.mem_of_mem_take hh)
  have HZB := hid hzb
  obtain ⟨L, hL⟩ : ∃ L, L = zs0.length := ⟨_, rfl⟩
  obtain ⟨nz, hnz⟩ : ∃ nz, nz = zs.length := ⟨_, rfl⟩
  have hmin : min (L : Int) 40 = (nz : Int) := by rw [hnz, hzs, List.length_take]; omega
  have hL0 : (0 : Int) ≤ L := by omega
  have hmL : (nz : Int) ≤ L := by omega
  have hmc : (nz : Int) ≤ c := by omega
  have hn40 : (nz : Int) ≤ 40 := by omega
  have HNZ := hid hnz
  have hof := pr.pOfBad _ W a c n zs HS.out hn hzb (by omega) hE
  rw [← hnz] at hof
  obtain ⟨er, her⟩ : ∃ er, er = ofE n zs := ⟨_, rfl⟩
  have HER := hid her
  rw [← her] at hof
  have HOF := hid hof
  have HE := hid hE
  have hn1 := hn.1
  have hn2 := hn.2
  rw [← hL]
  obtain ⟨i0, hi, hz0, hz1, hz2⟩ := info_parts infoBool
  have HI := hid (And.intro hi (And.intro hz0 (And.intro hz1 hz2)))
  clear hs hz hlc hzs hE hzb hL hnz hof hn her hi hz0 hz1 hz2
  go_enter Try.func4, Try.ntmps4
  go_wp2_with fail
  refine HOF.out.mono ?_
  rintro e y1 ⟨rfl, hb1⟩
  have HB1 := hid hb1
  have HS1 := hid (HS.out.below hb1)
  clear hb1 HOF HS
  by_cases h1 : 65536 < n
  · have he : er = 2 := by rw [HER.out]; unfold ofE; exact if_pos h1
    subst he
    clear HER HE HI
    go_wp2_with fail
    refine (known_any pr y1).mono ?_
    rintro e y2 ⟨rfl, hb2⟩
    have HB2 := hid (HB1.out.trans (hb2.mono HB1.out.size))
    clear hb2
    go_wp2_with fail
    go_ret
    exact ⟨rfl, HB2.out⟩
  · by_cases h2 : n < 0
    · have he : er = 1 := by rw [HER.out]; unfold ofE; rw [if_neg h1]; exact if_pos h2
      subst he
      clear HER HE HI
      go_wp2_with fail
      refine (known_any pr y1).mono ?_
      rintro e y2 ⟨rfl, hb2⟩
      have HB2 := hid (HB1.out.trans (hb2.mono HB1.out.size))
      clear hb2
      go_wp2_with fail
      go_ret
      exact ⟨rfl, HB2.out⟩
    · obtain ⟨N, rfl⟩ := Int.eq_ofNat_of_zero_le (Int.not_lt.1 h2)
      have hNb : (N : Int) ≤ 65536 := by omega
      have he := ofE_ten (by omega) hNb HE.out
      rw [← HER.out] at he
      obtain ⟨rfl, hnot⟩ := he
      have HNOT : Hid (¬ ∀ t, t < nz → 0 ≤ zs.getD t 0 ∧ zs.getD t 0 < N) := hid fun hh => hnot fun z hzz => by
        obtain ⟨t, ht, rfl⟩ := List.getElem_of_mem hzz
        have h := hh t (by rw [HNZ.out]; exact ht)
        rwa [List.getD_eq_getElem?_getD, List.getElem?_eq_getElem ht] at h
      obtain ⟨B, hB⟩ : ∃ B, B = y1.heap.size := ⟨_, rfl⟩
      have HBE := hid hB
      clear hnot HER HE hB h1
      go_wp2_with (refine wpList_make_full _ rfl _ _ 23 rfl B 4 i0 (.bool false) 1 Try.underlying23 HI.out.1 HI.out.2.1 HI.out.2.2.1 .i64 .i64 _ _ N rfl rfl rfl rfl (by rw [HI.out.2.2.2]; omega) (by unfold maxLen; omega) (by rw [HBE.out]; exact Nat.le_refl _) ?_)
      intro w1 hown hg
      have HR1 : Hid (w1.ownsRow B 4 1 (.slice (some ⟨y1.heap.size, 0, none⟩) N N) N (bvals (onesB N zs 0))) := hid (by rw [bvals_zeros N] at hown; exact hown)
      have HBW1 : Hid (Below B y1 w1) := hid ⟨hg.os, hg.tape, hg.output, hg.size, fun i hi => hg.block i (by rw [HBE.out] at hi; exact hi) (by simp)⟩
      clear hown hg HI
      obtain ⟨g, hg⟩ : ∃ g, g = y1.heap.size := ⟨_, rfl⟩
      rw [← hg] at HR1 ⊢
      clear hg
      go_wp2_with fail
      go_loopw [8] (fun i wr => ∃ t : Nat, t ≤ nz ∧ i = .int .i64 (t : Int) ∧ (∀ k, k < t → 0 ≤ zs.getD k 0 ∧ zs.getD k 0 < N) ∧ wr.ownsRow B 4 1 (.slice (some ⟨g, 0, none⟩) N N) N (bvals (onesB N zs t)) ∧ Below B y1 wr) (fun i _ => nz - (intOf i).toNat)
      case atStart => exact ⟨0, Nat.zero_le _, rfl, fun k hk => absurd hk (by omega), HR1.out, HBW1.out⟩
      case round =>
        clear HR1 HBW1
        obtain ⟨t, ht, rfl, hok, hr, hb⟩ := hrel
        have HRW := hid hr
        have HB := hid hb
        have HOK := hid hok
        clear hr hb hok
        by_cases hlt : (t : Int) < nz
        · have HTL : Hid (t < nz) := hid (by omega)
          have htn : (t < nz) = True := eq_true HTL.out
          have htb : (t : Int) < 40 := by omega
          obtain ⟨z, hzz⟩ : ∃ z, z = zs.getD t 0 := ⟨_, rfl⟩
          have hzb := HZB.out z (by rw [hzz, List.getD_eq_getElem?_getD, List.getElem?_eq_getElem (by rw [← HNZ.out]; exact HTL.out)]; exact List.getElem_mem _)
          have hzb1 := hzb.1
          have hzb2 := hzb.2
          obtain ⟨b0, o0, rfl, hc⟩ : ∃ b0 o0, a = some ⟨b0, o0, none⟩ ∧ wr.cell? ⟨b0, o0 + t, none⟩ = some (.int .i64 z) := by
            rcases (HS1.out.kept (w' := wr) fun i hi hi2 => HB.out.block i (by rw [HBE.out]; exact hi2)) with h | ⟨b0, o0, h, _, hc⟩
            · have := HNZ.out; rw [h] at this; simp at this; omega
            · exact ⟨b0, o0, h, by rw [hc t (by rw [← HNZ.out]; exact HTL.out), hzz]⟩
          have HBX := hid (HB1.out.trans (HB.out.mono (by rw [HBE.out]; exact HB1.out.size)))
          by_cases hz0 : z < 0
          · clear hzz hzb HNOT HOK HRW HB hlt
            go_wp2_with fail
            refine (known_any pr wr).mono ?_
            rintro e y2 ⟨rfl, hb2⟩
            have HB2 := hid (HBX.out.trans (hb2.mono HBX.out.size))
            clear hb2
            go_wp2_with fail
            go_ret
            exact ⟨rfl, HB2.out⟩
          · by_cases hzN : (N : Int) ≤ z
            · clear hzz hzb HNOT HOK HRW HB hlt
              go_wp2_with fail
              refine (known_any pr wr).mono ?_
              rintro e y2 ⟨rfl, hb2⟩
              have HB2 := hid (HBX.out.trans (hb2.mono HBX.out.size))
              clear hb2
              go_wp2_with fail
              go_ret
              exact ⟨rfl, HB2.out⟩
            · obtain ⟨q, rfl⟩ := Int.eq_ofNat_of_zero_le (Int.not_lt.1 hz0)
              have hqN : q < N := by omega
              have HNEW : Hid ((wr.setCell ⟨g, q, none⟩ (.bool true)).ownsRow B 4 1 (.slice (some ⟨g, 0, none⟩) N N) N (bvals (onesB N zs (t + 1))) ∧ Below B y1 (wr.setCell ⟨g, q, none⟩ (.bool true))) := hid (by
                have h := HRW.out.stored q (.bool true)
                rw [bvals_set] at h
                refine ⟨?_, below_grown HB.out h.2 (HRW.out.lt g rfl).1 (by have := HB.out.size; rw [HBE.out]; exact this)⟩
                show World.ownsRow _ B _ 1 _ N (bvals ((onesB N zs t).set (zs.getD t 0).toNat true))
                rw [← hzz]
                exact h.1)
              have HOK2 : Hid (∀ k, k < t + 1 → 0 ≤ zs.getD k 0 ∧ zs.getD k 0 < N) := hid fun k hk => by
                by_cases hkt : k = t
                · subst hkt; rw [← hzz]; omega
                · exact HOK.out k (by omega)
              have j3 : wr.cell? ⟨g, q, none⟩ = some (.bool (inB (onesB N zs t) q)) := by
                have h := HRW.out.cells (g := g) rfl q _ (bvals_get (by rw [onesB_len]; exact hqN))
                rw [Addr.add_lit] at h
                simpa using h
              have jf := HRW.out.frozenAt q
              have hqi : (q : Int) < N := by omega
              generalize inB (onesB N zs t) q = old at *
              clear hzz hzb HNOT HOK HRW HB hlt HBX
              go_wp2_with fail
              go_roundw
              case rel => exact ⟨t + 1, HTL.out, by go_num, HOK2.out, HNEW.out.1, HNEW.out.2⟩
              case measure => simp [intOf]; have := HTL.out; omega
        · exact absurd (fun k hk => HOK.out k (by omega)) HNOT.out
/-- RankOf. -/
theorem rankOf_walk {Rk : World → Nat → List Bool → (Nat → Prop) → Prop} (pr : PR Rk) (W : World) (n : Int) (a : Option Addr) (c : Nat) (zs0 : List Int) (hn : i64z n) (hs : Si (fun _ => True) W a zs0) (hz : ∀ z ∈ zs0, i64z z) (hlc : zs0.length ≤ c) :
    Calls Try.prog 4 #[.int .i64 n, .slice a zs0.length c] W fun e w' => e = .returned (.bool true) ∧ Below W.heap.size W w' := by
  by_cases hE : ofE n (zs0.take 40) = 0
  · obtain ⟨N, rfl⟩ := Int.eq_ofNat_of_zero_le (ofE_good hE).1
    exact rankOf_good pr W a c N zs0 _ hs hz hlc rfl hE
  · exact rankOf_bad pr W n a c zs0 _ hn hs hz hlc rfl hE
end Go.Proofs.Ytjcapiibeekfkaa
