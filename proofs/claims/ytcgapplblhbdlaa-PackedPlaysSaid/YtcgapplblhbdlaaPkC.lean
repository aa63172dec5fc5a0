/- CONTRACT: a number laid into its words. -/
import Derived.Test.YtcgapplblhbdlaaPkB
import Derived.BigRegion
import Derived.StillTailTactics
namespace Go.Proofs.Ytcgapplblhbdlaa
open Go.RowKit Go.Inc

theorem mixedP : Try.prog.follows .mixedOrders = true := by kernel_rfl
/-- What turns when an array turns. -/
def Own2 (b : Nat) (v : Value) (i : Nat) : Prop := i = b ∨ v.ownBlock = some i
set_option maxRecDepth 20000 in
set_option maxHeartbeats 1000000 in
theorem pkPut_any (x : World) (b i B n : Nat) (v : Value) (w : Nat) (l W : List Nat) (h : PkAt x b v w l W B) (hi : i < l.length) (hn : n < 2 ^ w) :
    Calls Try.prog 32 #[.pointer (some ⟨b, 0, none⟩), .int .i64 (i : Int), .int .i64 (n : Int)] x fun e w' => e = .returned (.tuple #[]) ∧ (∃ V, PkAt w' b v w (l.set i n) V B) ∧ Mv (Own2 b v) x w' := by
  obtain ⟨A, hA⟩ : ∃ A, A = i * w := ⟨_, rfl⟩
  obtain ⟨q, hq⟩ : ∃ q, q = i * w / 64 := ⟨_, rfl⟩
  obtain ⟨o, ho⟩ : ∃ o, o = i * w % 64 := ⟨_, rfl⟩
  have hAb : A ≤ 2031616 := by rw [hA]; exact mul_31 h.w2 (by have := h.n; omega)
  have hql : q < W.length := by rw [h.wd.len]; exact place_lt hi h.w1 hq
  obtain ⟨g, c, rfl, hc1, hc2, -, -⟩ := h.raw.here (by omega)
  have hwl := h.wlen
  have HP := hid (fun n => pkPlace_any (x.drewN n) b w i A q o (h.raw.below (below_drewN x n)).c0 (by rw [hA]; simp) (by omega) (by rw [hq, ← hA]; omega) (by rw [ho, ← hA]; omega))
  obtain ⟨M, hM⟩ : ∃ M, M = 2 ^ w - 1 := ⟨_, rfl⟩
  have l1 : Hid (∀ (z : World), z.cell? ⟨b, 0, none⟩ = some (.int .i64 (w : Int)) → Calls Try.prog 44 #[.pointer (some ⟨b, 0, none⟩)] z fun e w' => e = .returned (.int .u64 (M : Int)) ∧ w' = z) := hid fun z hz => by rw [hM]; exact (pkMask_any z b w hz h.w2).mono fun _ _ h => ⟨h.1, h.2.symm⟩
  have hM64 : M < 18446744073709551616 := by rw [hM]; exact mask_lt h.w2
  have hx0 := wget_lt h.wd.lt q
  have hp31 := pow31 h.w2
  have hn64 : n < 18446744073709551616 := by omega
  have hnb : (n : Int) < 2147483648 := by omega
  have ho64 : (o : Int) < 64 := by omega
  have hwi : (w : Int) ≤ 31 := by have := h.w2; omega
  have hbg : b ≠ g := fun e => h.raw.ne (by rw [e]; rfl)
  have hgb : ¬ g = b := fun e => hbg e.symm
  have hnw64 : IntKind.u64.wrap (n : Int) = (n : Int) := wrap_nat hn64
  by_cases h2 : 64 < o + w
  · have hres := h.wd.put_two hi hn h.w1 h.w2 hq ho h2
    have hql2 : q + 1 < W.length := by rw [h.wd.len]; exact place_lt2 hi hq ho h2
    have hx1 := wget_lt h.wd.lt (q + 1)
    rw [← hM] at hres
    obtain ⟨x0, hx0e⟩ : ∃ x0, x0 = W.getD q 0 := ⟨_, rfl⟩
    rw [← hx0e] at hres
    rw [← hx0e] at hx0
    obtain ⟨a1, ha1⟩ : ∃ a1, a1 = M <<< o % 18446744073709551616 := ⟨_, rfl⟩
    obtain ⟨a2, ha2⟩ : ∃ a2, a2 = x0 &&& (18446744073709551615 - a1) := ⟨_, rfl⟩
    obtain ⟨a3, ha3⟩ : ∃ a3, a3 = n <<< o % 18446744073709551616 := ⟨_, rfl⟩
    obtain ⟨y, hy⟩ : ∃ y, y = a2 ||| a3 := ⟨_, rfl⟩
    have hlay : layLo x0 M n o = y := by rw [hy, ha2, ha3, ha1]; rfl
    rw [hlay] at hres
    have b1 : a1 < 18446744073709551616 := by rw [ha1]; exact mod64_lt _
    have b2 : a2 < 18446744073709551616 := by rw [ha2]; exact and_lt64 hx0 _
    have b3 : a3 < 18446744073709551616 := by rw [ha3]; exact mod64_lt _
    have f1 : IntKind.u64.wrap ((M : Int) * 2 ^ o) = (a1 : Int) := by rw [IntKind.wrap_u64, ha1, Nat.shiftLeft_eq]; simp
    have f2 : bits .andNot .u64 (x0 : Int) (a1 : Int) = (a2 : Int) := by rw [u64_andNot_nat x0 a1 hx0 b1, ha2]
    have f3 : IntKind.u64.wrap ((n : Int) * 2 ^ o) = (a3 : Int) := by rw [IntKind.wrap_u64, ha3, Nat.shiftLeft_eq]; simp
    have f4 : bits .or .u64 (a2 : Int) (a3 : Int) = (y : Int) := by rw [u64_or_nat a2 a3 b2 b3, hy]
    obtain ⟨x1, hx1e⟩ : ∃ x1, x1 = W.getD (q + 1) 0 := ⟨_, rfl⟩
    rw [← hx1e] at hres hx1
    obtain ⟨r, hr⟩ : ∃ r, r = 64 - o := ⟨_, rfl⟩
    rw [← hr] at hres
    obtain ⟨d1, hd1⟩ : ∃ d1, d1 = M >>> r := ⟨_, rfl⟩
    obtain ⟨d2, hd2⟩ : ∃ d2, d2 = x1 &&& (18446744073709551615 - d1) := ⟨_, rfl⟩
    obtain ⟨d3, hd3⟩ : ∃ d3, d3 = n >>> r := ⟨_, rfl⟩
    obtain ⟨u, hu⟩ : ∃ u, u = d2 ||| d3 := ⟨_, rfl⟩
    have hlay2 : layHi x1 M n r = u := by rw [hu, hd2, hd3, hd1]; rfl
    rw [hlay2] at hres
    have e1 : d1 < 18446744073709551616 := by rw [hd1]; exact Nat.lt_of_le_of_lt (shr_le _ _) hM64
    have e2 : d2 < 18446744073709551616 := by rw [hd2]; exact and_lt64 hx1 _
    have e3 : d3 < 18446744073709551616 := by rw [hd3]; exact Nat.lt_of_le_of_lt (shr_le _ _) hn64
    have f5 : (M : Int) / 2 ^ r = (d1 : Int) := by rw [hd1, Nat.shiftRight_eq_div_pow]; simp
    have f6 : bits .andNot .u64 (x1 : Int) (d1 : Int) = (d2 : Int) := by rw [u64_andNot_nat x1 d1 hx1 e1, hd2]
    have f7 : (n : Int) / 2 ^ r = (d3 : Int) := by rw [hd3, Nat.shiftRight_eq_div_pow]; simp
    have f8 : bits .or .u64 (d2 : Int) (d3 : Int) = (u : Int) := by rw [u64_or_nat d2 d3 e2 e3, hu]
    have hrr : 64 - (o : Int) = (r : Int) := by omega
    have hr64 : (r : Int) < 64 := by omega
    have hgt : (64 : Int) < (o : Int) + w := by omega
    obtain ⟨q2, hq2⟩ : ∃ q2, q2 = q + 1 := ⟨_, rfl⟩
    rw [← hq2] at hres hx1e hql2
    have hq2i : (q : Int) + 1 = (q2 : Int) := by omega
    have HRES : Hid (∀ z z', Below x.heap.size x z → Below (z.setCell ⟨g, q, none⟩ (.int .u64 (y : Int))).heap.size (z.setCell ⟨g, q, none⟩ (.int .u64 (y : Int))) z' → PkAt (z'.setCell ⟨g, q2, none⟩ (.int .u64 (u : Int))) b (.slice (some ⟨g, 0, none⟩) W.length c) w (l.set i n) ((W.set q y).set q2 u) B ∧ Mv (Own2 b (.slice (some ⟨g, 0, none⟩) W.length c)) x (z'.setCell ⟨g, q2, none⟩ (.int .u64 (u : Int)))) := hid fun z z' hb hb' => by
      have hz := h.below hb
      refine ⟨⟨?_, h.w1, h.w2, by rw [List.length_set]; exact h.n, h.fit.set hn, hres⟩, mv_setCell ((mv_setCell (Mv.of_below hb) (.inr rfl) _).trans (Mv.of_below hb')) (.inr rfl) _⟩
      have h3 := ((hz.raw.put q y).below hb').put' (by rw [List.length_set]) q2 u
      rw [List.length_set]
      exact h3
    have HC : Hid (∀ z, Below x.heap.size x z → z.cell? ⟨b, 0, none⟩ = some (.int .i64 (w : Int)) ∧ z.cell? ⟨b, 2, none⟩ = some (.slice (some ⟨g, 0, none⟩) W.length c) ∧ z.cell? ⟨g, q, none⟩ = some (.int .u64 (x0 : Int)) ∧ z.frozen? ⟨g, q, none⟩ = false) := hid fun z hz => by
      have h3 := h.below hz
      exact ⟨h3.raw.c0, h3.raw.c2, by rw [hx0e]; exact h3.raw.word hql, h3.raw.row.frozenAt q⟩
    have hst : ∀ (z : World) (V : List Nat), z.ownsRow B 35 1 (.slice (some ⟨g, 0, none⟩) W.length c) V.length (wvals V) → ∀ k, z.frozen? ⟨g, k, none⟩ = false := fun z V hV k => by
      have hl : W.length = V.length := by
        rcases hV.2 with ⟨h1, _⟩ | ⟨g', cap, cur, h1, _⟩
        · cases h1
        · simp only [Value.slice.injEq] at h1; exact h1.2.1
      rw [hl] at hV
      exact hV.frozenAt k
    have HC2 : Hid (∀ z z', Below x.heap.size x z → Below (z.setCell ⟨g, q, none⟩ (.int .u64 (y : Int))).heap.size (z.setCell ⟨g, q, none⟩ (.int .u64 (y : Int))) z' → z'.cell? ⟨b, 0, none⟩ = some (.int .i64 (w : Int)) ∧ z'.cell? ⟨b, 2, none⟩ = some (.slice (some ⟨g, 0, none⟩) W.length c) ∧ z'.cell? ⟨g, q2, none⟩ = some (.int .u64 (x1 : Int)) ∧ z'.frozen? ⟨g, q2, none⟩ = false) := hid fun z z' hb hb' => by
      have h3 := ((h.below hb).raw.put q y).below hb'
      refine ⟨h3.c0, h3.c2, ?_, hst z' _ h3.row q2⟩
      have h4 := h3.word' (q := q2) (by rw [List.length_set]) (by rw [List.length_set]; exact hql2)
      rw [h4, hx1e]
      simp only [List.getD_eq_getElem?_getD, List.getElem?_set]
      rw [if_neg (by omega)]
    obtain ⟨nw, hnw⟩ : ∃ nw, nw = W.length := ⟨_, rfl⟩
    rw [← hnw] at hwl hql hc1 hql2 ⊢
    rw [← hnw] at HRES HC HC2
    have hqn : (q : Int) < (nw : Int) := by omega
    have hqn2 : (q2 : Int) < (nw : Int) := by omega
    have hq31 : (nw : Int) ≤ 31745 := by omega
    have hqw : IntKind.i64.wrap (q : Int) = (q : Int) := by rw [IntKind.wrap_i64]; omega
    have hqw2 : IntKind.i64.wrap (q2 : Int) = (q2 : Int) := by rw [IntKind.wrap_i64]; omega
    clear hst h hi hA hq ho hAb hx0e hx1e hM hn hp31 hx0 hx1 hM64 h2 hres hql hql2 hnw hwl hlay hlay2 ha1 ha2 ha3 hy hd1 hd2 hd3 hu b1 b2 b3 e1 e2 e3 hn64 hr hq2
    go_enter Try.func32, Try.ntmps32
    go_wp2_with fail
    refine (HP.out 0).mono ?_
    rintro e w1 ⟨rfl, m1, rfl⟩
    have hbm : Below x.heap.size x ((x.drewN 0).drewN m1) := below_drewN x m1
    generalize ((x.drewN 0).drewN m1) = xm at *
    have HB := hid hbm.drew
    obtain ⟨k0, k2, kw, kf⟩ := HC.out xm hbm
    have HM := hid (l1.out xm.drew (HC.out xm.drew hbm.drew).1)
    clear hbm
    go_wp2_with fail
    go_still_tail 23, mixedP
    still_call HM.out
    repeat still_step
    refine wpStill_nil ?_
    change wpList _ _ _ _ _ xm.drew
    have kw' : xm.drew.cell? ⟨g, q, none⟩ = some (.int .u64 (x0 : Int)) := kw
    have kf' : xm.drew.frozen? ⟨g, q, none⟩ = false := kf
    have k0' : xm.drew.cell? ⟨b, 0, none⟩ = some (.int .i64 (w : Int)) := k0
    have k2' : xm.drew.cell? ⟨b, 2, none⟩ = some (.slice (some ⟨g, 0, none⟩) nw c) := k2
    clear k0 k2 kw kf HM HC
    generalize xm.drew = z1 at *
    go_wp2_with fail
    have HBD := HB
    have HB2 : Hid (Below (z1.setCell ⟨g, q, none⟩ (.int .u64 (y : Int))).heap.size (z1.setCell ⟨g, q, none⟩ (.int .u64 (y : Int))) (z1.setCell ⟨g, q, none⟩ (.int .u64 (y : Int))).drew) := hid ((Below.refl _ _).drew)
    have HM2 := hid (l1.out _ (HC2.out z1 _ HBD.out HB2.out).1)
    have HMM := hid (HRES.out z1 _ HBD.out HB2.out)
    obtain ⟨j0, j2, jw, jf⟩ := HC2.out z1 _ HBD.out (Below.refl _ _)
    clear k0' k2' kw' kf'
    generalize z1.setCell ⟨g, q, none⟩ (.int .u64 (y : Int)) = z2 at *
    clear HC2 HRES HB2
    go_wp2_with fail
    go_still_tail 25, mixedP
    repeat still_step
    still_call HM2.out
    repeat still_step
    refine wpStill_nil ?_
    change wpList _ _ _ _ _ z2.drew
    have jw' : z2.drew.cell? ⟨g, q2, none⟩ = some (.int .u64 (x1 : Int)) := jw
    have jf' : z2.drew.frozen? ⟨g, q2, none⟩ = false := jf
    clear HM2
    generalize z2.drew = z3 at *
    go_wp2_with fail
    exact bodyPost_end (results_none rfl _ _ _) rfl ⟨rfl, ⟨_, HMM.out.1⟩, HMM.out.2⟩
  · have hres := h.wd.put_low hi hn h.w1 hq ho (by omega)
    rw [← hM] at hres
    obtain ⟨x0, hx0e⟩ : ∃ x0, x0 = W.getD q 0 := ⟨_, rfl⟩
    rw [← hx0e] at hres
    rw [← hx0e] at hx0
    obtain ⟨a1, ha1⟩ : ∃ a1, a1 = M <<< o % 18446744073709551616 := ⟨_, rfl⟩
    obtain ⟨a2, ha2⟩ : ∃ a2, a2 = x0 &&& (18446744073709551615 - a1) := ⟨_, rfl⟩
    obtain ⟨a3, ha3⟩ : ∃ a3, a3 = n <<< o % 18446744073709551616 := ⟨_, rfl⟩
    obtain ⟨y, hy⟩ : ∃ y, y = a2 ||| a3 := ⟨_, rfl⟩
    have hlay : layLo x0 M n o = y := by rw [hy, ha2, ha3, ha1]; rfl
    rw [hlay] at hres
    have b1 : a1 < 18446744073709551616 := by rw [ha1]; exact mod64_lt _
    have b2 : a2 < 18446744073709551616 := by rw [ha2]; exact and_lt64 hx0 _
    have b3 : a3 < 18446744073709551616 := by rw [ha3]; exact mod64_lt _
    have f1 : IntKind.u64.wrap ((M : Int) * 2 ^ o) = (a1 : Int) := by rw [IntKind.wrap_u64, ha1, Nat.shiftLeft_eq]; simp
    have f2 : bits .andNot .u64 (x0 : Int) (a1 : Int) = (a2 : Int) := by rw [u64_andNot_nat x0 a1 hx0 b1, ha2]
    have f3 : IntKind.u64.wrap ((n : Int) * 2 ^ o) = (a3 : Int) := by rw [IntKind.wrap_u64, ha3, Nat.shiftLeft_eq]; simp
    have f4 : bits .or .u64 (a2 : Int) (a3 : Int) = (y : Int) := by rw [u64_or_nat a2 a3 b2 b3, hy]
    have hgt : (o : Int) + w ≤ 64 := by omega
    have hgt2 : ((64 : Int) < (o : Int) + w) = False := eq_false (by omega)
    have HRES : Hid (∀ z, Below x.heap.size x z → PkAt (z.setCell ⟨g, q, none⟩ (.int .u64 (y : Int))) b (.slice (some ⟨g, 0, none⟩) W.length c) w (l.set i n) (W.set q y) B ∧ Mv (Own2 b (.slice (some ⟨g, 0, none⟩) W.length c)) x (z.setCell ⟨g, q, none⟩ (.int .u64 (y : Int)))) := hid fun z hb => by
      have hz := h.below hb
      refine ⟨⟨?_, h.w1, h.w2, by rw [List.length_set]; exact h.n, h.fit.set hn, hres⟩, mv_setCell (Mv.of_below hb) (.inr rfl) _⟩
      have := hz.raw.put q y
      rw [List.length_set]
      exact this
    have HC : Hid (∀ z, Below x.heap.size x z → z.cell? ⟨b, 0, none⟩ = some (.int .i64 (w : Int)) ∧ z.cell? ⟨b, 2, none⟩ = some (.slice (some ⟨g, 0, none⟩) W.length c) ∧ z.cell? ⟨g, q, none⟩ = some (.int .u64 (x0 : Int)) ∧ z.frozen? ⟨g, q, none⟩ = false) := hid fun z hz => by
      have h3 := h.below hz
      exact ⟨h3.raw.c0, h3.raw.c2, by rw [hx0e]; exact h3.raw.word hql, h3.raw.row.frozenAt q⟩
    obtain ⟨nw, hnw⟩ : ∃ nw, nw = W.length := ⟨_, rfl⟩
    rw [← hnw] at hwl hql hc1 ⊢
    rw [← hnw] at HRES HC
    have hqn : (q : Int) < (nw : Int) := by omega
    have hq31 : (nw : Int) ≤ 31745 := by omega
    have hqw : IntKind.i64.wrap (q : Int) = (q : Int) := by rw [IntKind.wrap_i64]; omega
    clear h hi hA hq ho hAb hx0e hM hn hp31 hx0 hM64 h2 hres hql hnw hwl hlay ha1 ha2 ha3 hy b1 b2 b3 hn64
    go_enter Try.func32, Try.ntmps32
    go_wp2_with fail
    refine (HP.out 0).mono ?_
    rintro e w1 ⟨rfl, m1, rfl⟩
    have hbm : Below x.heap.size x ((x.drewN 0).drewN m1) := below_drewN x m1
    generalize ((x.drewN 0).drewN m1) = xm at *
    have HB := hid hbm.drew
    obtain ⟨k0, k2, kw, kf⟩ := HC.out xm hbm
    have HM := hid (l1.out xm.drew (HC.out xm.drew hbm.drew).1)
    clear hbm
    go_wp2_with fail
    go_still_tail 23, mixedP
    still_call HM.out
    repeat still_step
    refine wpStill_nil ?_
    change wpList _ _ _ _ _ xm.drew
    have kw' : xm.drew.cell? ⟨g, q, none⟩ = some (.int .u64 (x0 : Int)) := kw
    have kf' : xm.drew.frozen? ⟨g, q, none⟩ = false := kf
    have k0' : xm.drew.cell? ⟨b, 0, none⟩ = some (.int .i64 (w : Int)) := k0
    have k2' : xm.drew.cell? ⟨b, 2, none⟩ = some (.slice (some ⟨g, 0, none⟩) nw c) := k2
    clear k0 k2 kw kf HM HC
    generalize xm.drew = z1 at *
    go_wp2_with fail
    exact bodyPost_end (results_none rfl _ _ _) rfl ⟨rfl, ⟨_, (HRES.out _ HB.out).1⟩, (HRES.out _ HB.out).2⟩
end Go.Proofs.Ytcgapplblhbdlaa
