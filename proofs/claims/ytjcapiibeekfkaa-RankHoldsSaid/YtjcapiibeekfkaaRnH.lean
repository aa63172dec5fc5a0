/- CONTRACT: the row of bytes. -/
import Derived.Test.YtjcapiibeekfkaaRnG
namespace Go.Inc
open Go.RowKit
theorem getD_far {W : List Nat} {q : Nat} (h : W.length ≤ q) : W.getD q 0 = 0 := by
  rw [List.getD_eq_getElem?_getD, List.getElem?_eq_none h]; rfl
/-- No bit lies behind the last one. -/
theorem no_more {n : Nat} {W : List Nat} (hl : W.length = (n + 63) / 64) (hlt : ∀ y ∈ W, y < 18446744073709551616) :
    ¬ (0 < n % 64 ∧ W.getD (n / 64) 0 / 2 ^ (n % 64) ≠ 0) ↔ ∀ k, n ≤ k → k < 64 * W.length → (W.getD (k / 64) 0).testBit (k % 64) = false := by
  constructor
  · intro h k hk1 hk2
    have h0 : 0 < n % 64 := by omega
    have hz : W.getD (n / 64) 0 / 2 ^ (n % 64) = 0 := by
      apply Classical.byContradiction
      intro e
      exact h ⟨h0, e⟩
    have h6 := congrArg (fun x => x.testBit (k % 64 - n % 64)) hz
    replace h6 : (W.getD (n / 64) 0 / 2 ^ (n % 64)).testBit (k % 64 - n % 64) = (0 : Nat).testBit (k % 64 - n % 64) := h6
    rw [Nat.testBit_div_two_pow, Nat.zero_testBit, show k % 64 - n % 64 + n % 64 = k % 64 from by omega] at h6
    rw [show k / 64 = n / 64 from by omega]
    exact h6
  · rintro h ⟨h0, hne⟩
    apply hne
    apply Nat.eq_of_testBit_eq
    intro j
    rw [Nat.zero_testBit, Nat.testBit_div_two_pow]
    by_cases hj : n % 64 + j < 64
    · have h5 := h (64 * (n / 64) + (n % 64 + j)) (by omega) (by omega)
      rwa [show (64 * (n / 64) + (n % 64 + j)) / 64 = n / 64 from by omega, show (64 * (n / 64) + (n % 64 + j)) % 64 = j + n % 64 from by omega] at h5
    · refine Nat.testBit_lt_two_pow (Nat.lt_of_lt_of_le (wget_lt hlt (n / 64)) ?_)
      rw [show (18446744073709551616 : Nat) = 2 ^ 64 from rfl]
      exact Nat.pow_le_pow_right (by decide) (by omega)
/-- The bytes that were laid are right just where no bit lies behind the last one; then the words are the row's. -/
theorem laid_row {bs V : List Nat} (hby : Bytes bs) (he : Var.err 9223372036854775807 bs = 0) (hl : prS bs ≤ bs.length) (hv : LyW V ((prN bs + 63) / 64) ((prN bs + 7) / 8) ((bs.drop (prP bs)).take ((prN bs + 7) / 8))) :
    (¬ (0 < prN bs % 64 ∧ V.getD (prN bs / 64) 0 / 2 ^ (prN bs % 64) ≠ 0) ↔ rowBs (prL bs) = bs.take (prS bs)) ∧ (rowBs (prL bs) = bs.take (prS bs) → WdR V (prL bs)) := by
  have hd : ∀ q, q < (prN bs + 7) / 8 → ((bs.drop (prP bs)).take ((prN bs + 7) / 8)).getD q 0 = bs.getD (prP bs + q) 0 := fun q hq => by
    rw [List.getD_eq_getElem?_getD, List.getElem?_take_of_lt hq, List.getElem?_drop, List.getD_eq_getElem?_getD]
  have hbit : ∀ k, k < 8 * ((prN bs + 7) / 8) → (V.getD (k / 64) 0).testBit (k % 64) = (bs.getD (prP bs + k / 8) 0).testBit (k % 8) := fun k hk => by
    rw [hv.bit k, decide_eq_true hk, Bool.true_and, hd _ (by omega)]
  have hfar : ∀ k, ¬ k < 8 * ((prN bs + 7) / 8) → (V.getD (k / 64) 0).testBit (k % 64) = false := fun k hk => by
    rw [hv.bit k, decide_eq_false hk, Bool.false_and]
  have key := rowBs_iff hby he hl
  constructor
  · rw [no_more hv.len hv.lt, key]
    constructor
    · intro h k h1 h2
      rw [← hbit k h2]
      exact h k h1 (by rw [hv.len]; omega)
    · intro h k h1 _
      by_cases h2 : k < 8 * ((prN bs + 7) / 8)
      · rw [hbit k h2]; exact h k h1 h2
      · exact hfar k h2
  · intro h
    rw [key] at h
    have hpl : (prL bs).length = prN bs := by unfold prL; simp
    refine ⟨fun k => ?_, hv.lt, by rw [hv.len, hpl]⟩
    rw [inB_prL]
    by_cases h1 : k < prN bs
    · rw [decide_eq_true h1, Bool.true_and]; exact hbit k (by omega)
    · rw [decide_eq_false h1, Bool.false_and]
      by_cases h2 : k < 8 * ((prN bs + 7) / 8)
      · rw [hbit k h2]; exact h k (by omega) h2
      · exact hfar k h2
end Go.Inc
namespace Go.Proofs.Ytjcapiibeekfkaa
open Go.RowKit Go.Inc

/-- Parse's answers. -/
def PaR (x : World) (bs : List Nat) (e : Ending) (w' : World) : Prop :=
  (prE bs = 0 ∧ ∃ b v W au cu, e = .returned (.tuple #[.pointer (some ⟨b, 0, none⟩), .slice au (bs.drop (prS bs)).length cu, .int .i64 0]) ∧ RkN w' b (prL bs) v W (.slice none 0 0) (.slice none 0 0) ∧ x.heap.size ≤ b ∧ (∀ g, v.ownBlock = some g → x.heap.size ≤ g) ∧ Sl (fun g => g ≠ b ∧ v.ownBlock ≠ some g) w' au (bs.drop (prS bs))) ∨
  (prE bs ≠ 0 ∧ e = .returned (.tuple #[.pointer none, .slice none 0 0, .int .i64 (prE bs : Nat)]))
set_option maxRecDepth 20000 in
set_option maxHeartbeats 2000000 in
theorem rParse_any (ok : Nat → Prop) (x : World) (a : Option Addr) (c : Nat) (bs : List Nat) (hs : Sl ok x a bs) (hc : bs.length ≤ c ∧ c ≤ maxLen) (hn : a = none → c = 0) (hby : Bytes bs) (hl : bs.length ≤ 65536) :
    Calls Try.prog 22 #[.slice a bs.length c] x fun e w' => PaR x bs e w' ∧ Below x.heap.size x w' := by
  have HG := hid (get_any ok a c bs x hs hc hn hby (by omega))
  obtain ⟨N, hN⟩ : ∃ N, N = prN bs := ⟨_, rfl⟩
  obtain ⟨Er, hEr⟩ : ∃ Er, Er = Var.err 9223372036854775807 bs := ⟨_, rfl⟩
  have hN' : Var.val 9223372036854775807 bs = N := hN.symm
  rw [hN', ← hEr] at HG
  have hNg : N ≤ 9223372036854775807 := by rw [hN]; exact Var.val_le _ _
  have HBY := hid hby
  have HL := hid hl
  have HNN := hid hN
  have HER := hid hEr
  obtain ⟨nL, hnL⟩ : ∃ nL, nL = bs.length := ⟨_, rfl⟩
  have HNL := hid hnL
  rw [← hnL] at HG ⊢
  clear hs hc hn hby hl hN hEr hN' hnL
  by_cases hE0 : Er = 0
  · subst hE0
    have HT : Hid (tailOf 9223372036854775807 bs = bs.drop (prP bs)) := hid (by unfold tailOf; rw [if_pos HER.out.symm]; rfl)
    rw [HT.out] at HG
    have hpl : prP bs ≤ bs.length := Var.pos_le _ _
    obtain ⟨rs, hrs⟩ : ∃ rs, rs = bs.drop (prP bs) := ⟨_, rfl⟩
    have hrl : rs.length = nL - prP bs := by rw [hrs, List.length_drop, ← HNL.out]
    rw [← hrs] at HG
    have HRS := hid hrs
    have HRL := hid hrl
    have HPL := hid hpl
    clear hrs hrl hpl HT
    by_cases hbig : 65536 < N
    · have HP : Hid (prE bs = 3) := hid (by
        unfold prE
        rw [if_neg (by rw [← HER.out]; decide), if_pos (by rw [← HNN.out]; exact hbig)])
      have hbi : (65536 : Int) < (N : Int) := by omega
      clear hbig
      go_enter Try.func22, Try.ntmps22
      go_wp2_with fail
      refine HG.out.mono ?_
      rintro e w1 ⟨⟨u, rfl, hu⟩, hb⟩
      have HB := hid hb
      clear hb hu HG
      go_wp2_with fail
      go_ret3
      exact ⟨.inr ⟨by rw [HP.out]; decide, by rw [HP.out]; rfl⟩, HB.out⟩
    · obtain ⟨S, hS⟩ : ∃ S, S = (N + 7) / 8 := ⟨_, rfl⟩
      have HSS := hid hS
      have HPS : Hid (prS bs = prP bs + S) := hid (by unfold prS; rw [← HNN.out, hS])
      have hbi : ((65536 : Int) < (N : Int)) = False := eq_false (by omega)
      have hbn : (65536 < N) = False := eq_false hbig
      have HNB : Hid (N ≤ 65536) := hid (by omega)
      have hSb : (S : Int) ≤ 8192 := by omega
      have HPT : Hid (∀ z, Calls Try.prog 38 #[.int .i64 (N : Int), .int .i64 8] z fun e w' => e = .returned (.int .i64 (S : Int)) ∧ z = w') := hid fun z => by rw [hS]; exact rParts8_any N z (by have := HNB.out; omega)
      have HP1 : Hid (prE bs = if bs.length < prS bs then 4 else if rowBs (prL bs) = bs.take (prS bs) then 0 else 3) := hid (by
        unfold prE
        rw [if_neg (by rw [← HER.out]; decide), if_neg (by rw [← HNN.out]; exact hbig)])
      clear hbig hS
      by_cases hsh : rs.length < S
      · have HP : Hid (prE bs = 4) := hid (by rw [HP1.out, if_pos (by rw [HPS.out]; have := HRL.out; have := HPL.out; have := HNL.out; omega)])
        obtain ⟨nr, hnr⟩ : ∃ nr, nr = rs.length := ⟨_, rfl⟩
        have hshi : (nr : Int) < (S : Int) := by omega
        have HNR := hid hnr
        clear hsh hnr
        go_enter Try.func22, Try.ntmps22
        go_wp2_with fail
        refine HG.out.mono ?_
        rintro e w1 ⟨⟨u, rfl, hu⟩, hb⟩
        have HB := hid hb
        obtain ⟨ar, cr, rfl, hnone, hcl, hcm, hsl⟩ := hu.sl
        rw [← HNR.out]
        clear hb hu HG hsl hnone hcl hcm
        go_wp2_with fail
        refine (HPT.out _).mono ?_
        rintro e w2 ⟨rfl, rfl⟩
        go_wp2_with fail
        go_ret3
        exact ⟨.inr ⟨by rw [HP.out]; decide, by rw [HP.out]; rfl⟩, HB.out⟩
      · have HSH := hid hsh
        have HZ : Hid (∀ z, Calls Try.prog 28 #[.int .i64 (N : Int)] z fun e w' => ∃ b g c, e = .returned (.pointer (some ⟨b, 0, none⟩)) ∧ z.heap.size ≤ b ∧ z.heap.size ≤ g ∧ RwR w' b N (.slice (some ⟨g, 0, none⟩) ((N + 63) / 64) c) (List.replicate ((N + 63) / 64) 0) 0 0 (.slice none 0 0) (.slice none 0 0) [] [] 0 ∧ Below z.heap.size z w') := hid fun z => rZeros_any z N HNB.out
        have HPB : Hid (prS bs ≤ bs.length) := hid (by rw [HPS.out]; have := HRL.out; have := HPL.out; have := HNL.out; omega)
        have HDR : Hid (bs.drop (prS bs) = rs.drop S) := hid (by rw [HRS.out, List.drop_drop, HPS.out])
        obtain ⟨nr, hnr⟩ : ∃ nr, nr = rs.length := ⟨_, rfl⟩
        have HNR := hid hnr
        have hshi : ((nr : Int) < (S : Int)) = False := eq_false (by omega)
        have hshn : (nr < S) = False := eq_false (by omega)
        have hsnr : (S : Int) ≤ (nr : Int) := by omega
        obtain ⟨ts, hts⟩ : ∃ ts, ts = rs.take S := ⟨_, rfl⟩
        have htl : ts.length = S := by rw [hts, List.length_take]; omega
        have HTS := hid hts
        have HTL := hid htl
        have HBT : Hid (Bytes ts) := hid (by rw [hts, HRS.out]; exact (HBY.out.drop _).take _)
        have hNb : (N : Int) ≤ 65536 := by have := HNB.out; omega
        clear hsh hnr hts htl hNb
        go_enter Try.func22, Try.ntmps22
        go_wp2_with fail
        refine HG.out.mono ?_
        rintro e w1 ⟨⟨u, rfl, hu⟩, hb1⟩
        obtain ⟨ar, cr, rfl, hnone, hcl, hcm, hsl⟩ := hu.sl
        have HU := hid hu
        have HB1 := hid hb1
        rw [← HNR.out] at hcl ⊢
        have HCL := hid (And.intro hnone (And.intro hcl hcm))
        have hscr : (S : Int) ≤ (cr : Int) := by omega
        clear hb1 hu HG hsl hnone hcl hcm
        go_wp2_with fail
        refine (HPT.out _).mono ?_
        rintro e w2 ⟨rfl, rfl⟩
        go_wp2_with fail
        refine (HZ.out _).mono ?_
        rintro e w3 ⟨b, g, c3, rfl, hb, hg, hr3, hb3⟩
        obtain ⟨v, hv⟩ : ∃ v, v = Value.slice (some ⟨g, 0, none⟩) ((N + 63) / 64) c3 := ⟨_, rfl⟩
        have HVX : Hid (∀ j, v.ownBlock = some j → w1.heap.size ≤ j) := hid fun j hj => by
          rw [hv] at hj
          have : g = j := by simpa [Value.ownBlock] using hj
          omega
        rw [← hv] at hr3
        have hu3 := HU.out.kept hb3
        have HU3 := hid hu3
        have hsl3 : Sl (fun i => i ≠ b ∧ v.ownBlock ≠ some i) w3 ar rs := by
          obtain ⟨a', c', he, _, _, hsl⟩ := Sl.owned hu3
          simp only [Value.slice.injEq] at he
          obtain ⟨rfl, -, rfl⟩ := he
          refine hsl.mono fun i hi _ => ⟨?_, ?_⟩
          · rintro rfl
            exact own_ne hu3 hr3.box (by decide) hi.2
          · intro e
            rcases owns_apart hu3 hr3.row (by decide) with h1 | h1
            · rw [h1] at hi; cases hi.2
            · exact h1 (by rw [hi.2, e])
        have HSL3 := hid hsl3
        have hfr := (hsl3.front S).mono (ok' := fun i => v.ownBlock ≠ some i) fun i hi _ => hi.2
        rw [← HTS.out] at hfr
        have HLAY := hid (rLay_any _ w3 b N 0 0 0 v (.slice none 0 0) (.slice none 0 0) [] [] ar cr ts hr3 HNB.out hfr (fun i h => h) HBT.out (by rw [HTL.out]; exact HSS.out))
        rw [HTL.out] at HLAY
        have HB3 : Hid (Below x.heap.size x w3) := hid (HB1.out.trans (hb3.mono HB1.out.size))
        have HBX : Hid (x.heap.size ≤ b) := hid (Nat.le_trans HB1.out.size hb)
        have HVX2 : Hid (∀ j, v.ownBlock = some j → x.heap.size ≤ j) := hid fun j hj => Nat.le_trans HB1.out.size (HVX.out j hj)
        clear hb hg hr3 hb3 hv hu3 hsl3 hfr HZ
        go_wp2_with fail
        refine HLAY.out.mono ?_
        rintro e w4 ⟨rfl, ⟨V, hr4, hv4⟩, hm4⟩
        have HLR := hid (laid_row HBY.out HER.out.symm HPB.out (V := V) (by rw [← HNN.out, ← HSS.out, ← HRS.out, ← HTS.out]; exact hv4))
        have HHM := hid (rHasMore_any w4 b N 0 0 0 v _ _ V [] [] hr4 hv4.len hv4.lt HNB.out)
        have HR4 := hid hr4
        have HB4 : Hid (Below x.heap.size x w4) := hid (HB3.out.trans (ownMv_below hm4 HB3.out.size HVX2.out))
        have HSL4 : Hid (Sl (fun i => i ≠ b ∧ v.ownBlock ≠ some i) w4 ar rs) := hid (HSL3.out.mv hm4 fun i hi => hi.2)
        clear hr4 hv4 hm4 HLAY HSL3 HB3
        by_cases hmore : hmB N V = true
        · have HP : Hid (prE bs = 3) := hid (by
            have h1 := HLR.out.1
            rw [← HNN.out] at h1
            have h2 : 0 < N % 64 ∧ V.getD (N / 64) 0 / 2 ^ (N % 64) ≠ 0 := of_decide_eq_true hmore
            rw [HP1.out, if_neg (by have := HPB.out; omega), if_neg (fun hh => h1.2 hh h2)])
          rw [hmore] at HHM
          clear hmore
          go_wp2_with fail
          refine HHM.out.mono ?_
          rintro e w5 ⟨rfl, j, rfl⟩
          go_wp2_with fail
          go_ret3
          exact ⟨.inr ⟨by rw [HP.out]; decide, by rw [HP.out]; rfl⟩, HB4.out.trans ((below_drewN _ _).mono HB4.out.size)⟩
        · have hmf : hmB N V = false := by simpa using hmore
          have HRB : Hid (rowBs (prL bs) = bs.take (prS bs)) := hid (by
            have h1 := HLR.out.1
            rw [← HNN.out] at h1
            exact h1.1 (of_decide_eq_false hmf))
          have HP : Hid (prE bs = 0) := hid (by rw [HP1.out, if_neg (by have := HPB.out; omega), if_pos HRB.out])
          rw [hmf] at HHM
          clear hmore hmf
          go_wp2_with fail
          refine HHM.out.mono ?_
          rintro e w5 ⟨rfl, j, rfl⟩
          obtain ⟨w5, hw5⟩ : ∃ w5, w5 = w4.drewN j := ⟨_, rfl⟩
          have HW5 := hid hw5
          rw [← hw5]
          have HFIN : Hid (∀ n' au cu, (S < rs.length → au = ar.map (·.add S)) → PaR x bs (.returned (.tuple #[.pointer (some ⟨b, 0, none⟩), .slice au (nr - S) cu, .int .i64 0])) (w5.drewN n') ∧ Below x.heap.size x (w5.drewN n')) := hid fun n' au cu hau => by
            have hb5 : Below w4.heap.size w4 (w5.drewN n') := by
              rw [hw5]
              exact (below_drewN _ _).trans ((below_drewN _ _).mono (below_drewN w4 j).size)
            have hpl : (prL bs).length = N := by rw [HNN.out]; unfold prL; simp
            refine ⟨.inl ⟨HP.out, b, v, V, au, cu, ?_, ⟨?_, HLR.out.2 HRB.out, by rw [hpl]; exact HNB.out, rfl, rfl⟩, HBX.out, HVX2.out, ?_⟩, HB4.out.trans (hb5.mono HB4.out.size)⟩
            · rw [HDR.out, List.length_drop, ← HNR.out]
            · rw [hpl]; exact HR4.out.below hb5
            · rw [HDR.out]
              exact (HSL4.out.below hb5).behind S au hau
          clear hw5 HHM
          by_cases hcs : cr = S
          · have HCS := hid hcs
            have hcst : (cr = S) = True := eq_true hcs
            clear hcs
            go_wp2_with fail
            go_quiet (fail)
            go_wp2_with fail
            go_ret3
            exact HFIN.out _ _ _ fun h => by have := HNR.out; have := HCL.out.2.1; have := HCS.out; omega
          · have hcst : (cr = S) = False := eq_false hcs
            clear hcs
            go_wp2_with fail
            go_quiet (fail)
            go_wp2_with fail
            go_ret3
            exact HFIN.out _ _ _ fun _ => rfl
  · have HP : Hid (prE bs = Er) := hid (by unfold prE; rw [if_pos (by rw [← HER.out]; exact hE0), ← HER.out])
    have hei : ((Er : Int) = 0) = False := eq_false (by omega)
    have heb : ((Er : Int) == 0) = false := by simp; omega
    have hen : (Er = 0) = False := eq_false hE0
    have HE0 := hid hE0
    clear hE0
    go_enter Try.func22, Try.ntmps22
    go_wp2_with fail
    refine HG.out.mono ?_
    rintro e w1 ⟨⟨u, rfl, hu⟩, hb⟩
    have HB := hid hb
    clear hb hu HG
    go_wp2_with fail
    go_ret3
    exact ⟨.inr ⟨by rw [HP.out]; exact HE0.out, by rw [HP.out]; rfl⟩, HB.out⟩
end Go.Proofs.Ytjcapiibeekfkaa
