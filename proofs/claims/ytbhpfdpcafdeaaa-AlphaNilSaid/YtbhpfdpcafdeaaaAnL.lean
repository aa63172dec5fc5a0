/- CONTRACTS (alpha, as it landed): the table of bytes. -/
import Derived.Test.YtbhpfdpcafdeaaaAnK
namespace Go.Inc
open Go.RowKit
theorem resCellTmpA {P : Program} {fn : Func} {p u : Tmp} {ty : TypeId} (h : fn.results = #[.cell p ty, .tmp u]) (tmps : Array Value) (w : World) (g : Nat) (t : TypeId) (cs : Array Value) (fr : Nat × Nat) (d : TypeDesc) (bv : Value)
    (hp : tmps.getD p undef = .pointer (some ⟨g, 0, none⟩)) (hbv : tmps.getD u undef = bv) (hg : w.heap[g]? = some (.cells cs t fr))
    (hu : P.underlying ty = some d) (hd : (match d with | .struct _ | .array _ _ => true | _ => false) = true) (hi : (P.info? ty).map (·.size) = some cs.size) :
    (results fn tmps).run P w = .ok (.tuple #[.agg cs, bv]) w := by
  subst hbv
  have hp' : tmps[p]?.getD undef = .pointer (some ⟨g, 0, none⟩) := by simpa using hp
  simp [results, h, hp', asAddr, run_loadVar_row w g t ty cs fr d hg hu hd hi]
/-- A value without parts is built. -/
theorem wpList_build_none {P : Program} {ops : Array Oper} {rest : List Oper} {o : Oper} {a : Act} {w : World} {Q : Exit → Act → World → Prop} (hgd : o.guard = none) (t : TypeId) (ho : o.op = .build t #[])
    (cs : Array Value) (hb : P.built t [] = some cs)
    (h : wpList P ops Q rest (a.put o.dst (.agg cs)) w) : wpList P ops Q (o :: rest) a w :=
  by
  have e : (#[].map fun ((i, x) : Nat × Operand) => (i, a.eval x)).toList = [] := by simp
  exact wpList_build hgd t _ ho (by rw [e, hb]; rfl) (by rw [e, hb]; exact h)
end Go.Inc
namespace Go.Proofs.Ytbhpfdpcafdeaaa
open Go.RowKit Go.Inc
/-- The first t symbols are entered. -/
structure PaM (us vs m : List Nat) (t : Nat) : Prop where
  len : m.length = 258
  ok : ∀ i, i < t → paI us vs i = true
  at_ : ∀ i, i < t → m.getD (us.getD i 0) 0 = vs.getD i 0
  none_ : ∀ s, s < 258 → (∀ i, i < t → us.getD i 0 ≠ s) → m.getD s 0 = 0
theorem PaM.zero (us vs : List Nat) : PaM us vs (List.replicate 258 0) 0 :=
  ⟨List.length_replicate, fun i h => absurd h (by omega), fun i h => absurd h (by omega), fun s hs _ => by
    rw [List.getD_eq_getElem?_getD, List.getElem?_replicate, if_pos hs]; rfl⟩
theorem paI_iff {us vs : List Nat} {i : Nat} : paI us vs i = true ↔ us.getD i 0 < 258 ∧ (i = 0 ∨ us.getD (i - 1) 0 < us.getD i 0) ∧ 0 < vs.getD i 0 ∧ (vs.take i).sum + vs.getD i 0 ≤ 65536 := by
  unfold paI; rw [decide_eq_true_iff]
theorem PaM.rise {us vs m : List Nat} {t : Nat} (h : PaM us vs m t) : ∀ {i j : Nat}, i < j → j < t → us.getD i 0 < us.getD j 0 := by
  intro i j hij
  induction j with
  | zero => omega
  | succ j ih =>
    intro hj
    have h1 := (paI_iff.1 (h.ok (j + 1) hj)).2.1
    rcases h1 with h1 | h1
    · omega
    · rw [Nat.add_sub_cancel] at h1
      by_cases e : i = j
      · subst e; exact h1
      · exact Nat.lt_trans (ih (by omega) (by omega)) h1
/-- The lowest symbol that may come. -/
def loP (us : List Nat) (t : Nat) : Nat := if t = 0 then 0 else us.getD (t - 1) 0 + 1
theorem paI_lo {us vs : List Nat} {t : Nat} : paI us vs t = true ↔ us.getD t 0 < 258 ∧ loP us t ≤ us.getD t 0 ∧ 0 < vs.getD t 0 ∧ (vs.take t).sum + vs.getD t 0 ≤ 65536 := by
  rw [paI_iff]
  unfold loP
  by_cases h : t = 0
  · subst h; rw [if_pos rfl]; simp
  · rw [if_neg h]
    constructor
    · rintro ⟨h1, h2, h3⟩; exact ⟨h1, by omega, h3⟩
    · rintro ⟨h1, h2, h3⟩; exact ⟨h1, .inr (by omega), h3⟩
theorem PaM.step {us vs m : List Nat} {t : Nat} (h : PaM us vs m t) (hi : paI us vs t = true) : PaM us vs (m.set (us.getD t 0) (vs.getD t 0)) (t + 1) := by
  have h1 := paI_lo.1 hi
  have hok : ∀ i, i < t + 1 → paI us vs i = true := fun i hi2 => by
    by_cases e : i = t
    · subst e; exact hi
    · exact h.ok i (by omega)
  have hlt : ∀ i, i < t → us.getD i 0 < us.getD t 0 := fun i hi2 => by
    have h2 := h1.2.1
    unfold loP at h2
    rw [if_neg (by omega)] at h2
    by_cases e : i = t - 1
    · subst e; omega
    · exact Nat.lt_of_lt_of_le (h.rise (show i < t - 1 by omega) (by omega)) (by omega)
  refine ⟨by rw [List.length_set]; exact h.len, hok, fun i hi2 => ?_, fun s hs hn => ?_⟩
  · rw [List.getD_eq_getElem?_getD, List.getElem?_set]
    by_cases e : i = t
    · subst e
      rw [if_pos rfl, if_pos (by rw [h.len]; exact h1.1)]; rfl
    · have := hlt i (by omega)
      rw [if_neg (by omega), ← List.getD_eq_getElem?_getD]
      exact h.at_ i (by omega)
  · have h2 := hn t (by omega)
    rw [List.getD_eq_getElem?_getD, List.getElem?_set, if_neg h2, ← List.getD_eq_getElem?_getD]
    exact h.none_ s hs fun i hi2 => hn i (by omega)
theorem PaM.done {us vs m : List Nat} (h : PaM us vs m us.length) (hl : us.length = vs.length) : syO m 258 = us ∧ ctO m 258 = vs := by
  have hpw : us.Pairwise (· < ·) := by
    rw [List.pairwise_iff_getElem]
    intro i j hi hj hij
    have := h.rise hij hj
    rw [List.getD_eq_getElem?_getD, List.getD_eq_getElem?_getD, List.getElem?_eq_getElem hi, List.getElem?_eq_getElem hj] at this
    exact this
  have e1 : syO m 258 = us := by
    refine rise_ext (syO_rise m 258) hpw fun x => ?_
    rw [syO_mem]
    constructor
    · rintro ⟨h1, h2⟩
      refine Classical.byContradiction fun hx => ?_
      rw [h.none_ x h1 fun i hi e => hx (by rw [← e]; exact getD_memA hi)] at h2
      omega
    · intro hx
      obtain ⟨i, hi, e⟩ := List.getElem_of_mem hx
      have e2 : us.getD i 0 = x := by rw [List.getD_eq_getElem?_getD, List.getElem?_eq_getElem hi]; exact e
      have h1 := paI_iff.1 (h.ok i hi)
      rw [← e2, h.at_ i hi]
      exact ⟨h1.1, h1.2.2.1⟩
  refine ⟨e1, ?_⟩
  unfold ctO
  rw [e1]
  apply List.ext_getElem (by rw [List.length_map, hl])
  intro i h1 h2
  rw [List.length_map] at h1
  have := h.at_ i h1
  rw [List.getD_eq_getElem?_getD (l := vs), List.getElem?_eq_getElem h2, List.getD_eq_getElem?_getD (l := us), List.getElem?_eq_getElem h1] at this
  rw [List.getElem_map]
  exact this
theorem builtArr : Try.prog.built 66 [] = some (nvals (List.replicate 258 0)).toArray := by kernel_rfl
/-- What paired answers. -/
def PaAns (us vs : List Nat) (e : Ending) : Prop := ∃ A : Array Value, e = .returned (.tuple #[.agg A, .bool (decide (paOk us vs))]) ∧ A.size = 258 ∧ A.all (·.oneCell') = true ∧ (paOk us vs → ∃ m : List Nat, A = (nvals m).toArray ∧ m.length = 258 ∧ syO m 258 = us ∧ ctO m 258 = vs)
theorem zeroA_size : (nvals (List.replicate 258 0)).toArray.size = 258 := by rw [List.size_toArray, nvals_len, List.length_replicate]
theorem zeroA_one : (nvals (List.replicate 258 0)).toArray.all (·.oneCell') = true := by kernel_rfl
theorem nvalsA_one (m : List Nat) : (nvals m).toArray.all (·.oneCell') = true := by
  rw [Array.all_eq_true]
  intro i hi
  rw [List.size_toArray] at hi
  rw [List.getElem_toArray]
  exact nvals_oneA m _ (List.getElem_mem hi)
set_option maxRecDepth 20000 in
set_option maxHeartbeats 4000000 in
theorem paired_any (ok ok' : Nat → Prop) (x : World) (a b : Option Addr) (c d : Nat) (us vs : List Nat) (hs : Si ok x a (nZ us)) (ht : Si ok' x b (nZ vs)) (hl : us.length ≤ 65536) (hl' : vs.length ≤ 65536) (hu : ∀ y ∈ us, y ≤ 9223372036854775807) (hv : ∀ y ∈ vs, y ≤ 9223372036854775807) :
    Calls Try.prog 48 #[.slice a us.length c, .slice b vs.length d] x fun e w' => PaAns us vs e ∧ Below x.heap.size x w' := by
  have HS := hid hs
  have HT := hid ht
  have HU := hid hu
  have HV := hid hv
  obtain ⟨n, hn⟩ : ∃ n, n = us.length := ⟨_, rfl⟩
  have HN := hid hn
  obtain ⟨m, hm⟩ : ∃ m, m = vs.length := ⟨_, rfl⟩
  have HM := hid hm
  have hnb : (n : Int) ≤ 65536 := by omega
  have hmb : (m : Int) ≤ 65536 := by omega
  rw [← hn, ← hm]
  obtain ⟨Z, hZ⟩ : ∃ Z, Z = (nvals (List.replicate 258 0)).toArray := ⟨_, rfl⟩
  have hzs : Z.size = 258 := by rw [hZ]; exact zeroA_size
  have HZS := hid hzs
  have HZ1 : Hid (Z.all (·.oneCell') = true) := hid (by rw [hZ]; exact zeroA_one)
  have HZB : Hid (Try.prog.built 66 [] = some Z) := hid (by rw [hZ]; exact builtArr)
  have HZA : Hid (((Try.prog.info? 66).bind (·.zero)).map (·.cells) = some Z) := hid (by rw [hZ]; exact zeroArr)
  have HZE := hid hZ
  clear hs ht hl hl' hu hv hn hm hZ hzs
  by_cases hnm : n = m
  · subst hnm
    have hnn : ((n : Int) == (n : Int)) = true := by simp
    go_enter Try.func48, Try.ntmps48
    go_upto_region 0 with fail
    refine wp_region_lit ?_
    refine wpList_alloc_own rfl 66 rfl Z HZA.out ?_
    intro w1 hw1 hb1
    obtain ⟨g0, hg0⟩ : ∃ g, g = x.heap.size := ⟨_, rfl⟩
    rw [← hg0] at hw1 ⊢
    have HG0 := hid hg0
    have HW1 := hid hw1
    have HB1 := hid hb1
    clear hw1 hb1 hg0
    go_upto_region 3 with fail
    refine wp_region_lit ?_
    refine wpList_alloc_own rfl 66 rfl Z HZA.out ?_
    intro w2 hw2 hb2
    obtain ⟨g1, hg1⟩ : ∃ g, g = w1.heap.size := ⟨_, rfl⟩
    rw [← hg1] at hw2 ⊢
    have HG1 : Hid (g0 < g1) := hid (by rw [hg1]; exact row_lt HW1.out)
    have HW2 := hid hw2
    have HW21 := hid (row_below HW1.out hb2)
    have HB2 := hid (HB1.out.trans (hb2.mono HB1.out.size))
    clear hw2 hb2 hg1 HW1 HB1
    go_wp2_with fail
    go_loopw [7, 8, 20] (fun lo le i wr => ∃ (t lw lf : Nat) (q : List Nat), t ≤ n ∧ i = .int .i64 (t : Int) ∧ lo = .int .i64 (lw : Int) ∧ le = .int .i64 (lf : Int) ∧ lw = loP us t ∧ lf + (vs.take t).sum = 65536 ∧ PaM us vs q t ∧ wr.heap[g0]? = some (.cells Z 66 (0, 0)) ∧ wr.heap[g1]? = some (.cells (nvals q).toArray 66 (0, 0)) ∧ Below x.heap.size x wr) (fun _ _ i _ => n - (intOf i).toNat)
    case atStart => exact ⟨0, 0, 65536, List.replicate 258 0, Nat.zero_le _, rfl, rfl, rfl, rfl, rfl, PaM.zero us vs, HW21.out, by rw [← HZE.out]; exact HW2.out, HB2.out⟩
    case round =>
      clear HW2 HW21 HB2
      obtain ⟨t, lw, lf, q, ht, rfl, rfl, rfl, hlw, hlf, hpm, hw0, hw1, hb⟩ := hrel
      have HLW := hid hlw
      have HLF := hid hlf
      have HPM := hid hpm
      have HW0 := hid hw0
      have HW1 := hid hw1
      have HB := hid hb
      have hlfb : (lf : Int) ≤ 65536 := by omega
      clear hlw hlf hpm hw0 hw1 hb
      by_cases hlt : t < n
      · have hti : (t < n) = True := eq_true hlt
        have HLT := hid hlt
        have htb : (t : Int) ≤ 65535 := by omega
        obtain ⟨b1, o1, rfl, hc1⟩ : ∃ b1 o1, a = some ⟨b1, o1, none⟩ ∧ wr.cell? ⟨b1, o1 + t, none⟩ = some (.int .i64 ((us.getD t 0 : Nat) : Int)) := by
          rcases HS.out.below HB.out with h | ⟨b1, o1, h, _, hc⟩
          · have h1 := nZ_len us
            rw [h, ← HN.out] at h1; simp at h1; omega
          · exact ⟨b1, o1, h, by rw [hc t (by rw [nZ_len, ← HN.out]; exact hlt), nZ_get]⟩
        obtain ⟨b2, o2, rfl, hc2⟩ : ∃ b2 o2, b = some ⟨b2, o2, none⟩ ∧ wr.cell? ⟨b2, o2 + t, none⟩ = some (.int .i64 ((vs.getD t 0 : Nat) : Int)) := by
          rcases HT.out.below HB.out with h | ⟨b2, o2, h, _, hc⟩
          · have h1 := nZ_len vs
            rw [h, ← HM.out] at h1; simp at h1; omega
          · exact ⟨b2, o2, h, by rw [hc t (by rw [nZ_len, ← HM.out]; exact hlt), nZ_get]⟩
        have hub := HU.out _ (getD_memA (d := 0) (by rw [← HN.out]; exact hlt) : us.getD t 0 ∈ us)
        have hvb := HV.out _ (getD_memA (d := 0) (by rw [← HM.out]; exact hlt) : vs.getD t 0 ∈ vs)
        have HIS := hid (isSymbol_any wr ((us.getD t 0 : Nat) : Int) ⟨by omega, by omega⟩)
        have HPI := hid (paI_lo (us := us) (vs := vs) (t := t))
        have HST := hid (fun h => HPM.out.step (t := t) h)
        have HSM := hid (sum_take_le vs t (by rw [← HM.out]; exact hlt))
        have HLO2 : Hid (loP us (t + 1) = us.getD t 0 + 1) := hid (by unfold loP; rw [if_neg (by omega), Nat.add_sub_cancel])
        have HNO : Hid (paI us vs t ≠ true → decide (paOk us vs) = false) := hid fun h => decide_eq_false fun h2 => h (h2.2 t (by rw [← HN.out]; exact hlt))
        generalize us.getD t 0 = u at *
        generalize vs.getD t 0 = v at *
        rw [← HLW.out] at HPI
        have hui : (u : Int) ≤ 9223372036854775807 := by omega
        have hvi : (v : Int) ≤ 9223372036854775807 := by omega
        clear hlt hub hvb
        by_cases q1 : u < lw
        · have HF := hid (HNO.out fun h => by have := (HPI.out.1 h).2.1; omega)
          have q1n : (u < lw) = True := eq_true q1
          have q1i : (u : Int) < (lw : Int) := by omega
          clear q1 HIS
          clear HST HSM HLO2 HPM HLF HLW HNO HPI
          go_upto_region 10 with fail
          refine wp_region_lit ?_
          refine wpList_build_none rfl 66 rfl Z HZB.out ?_
          refine wpList_store_own rfl 66 (.tmp 4) (.tmp 46) rfl g0 Z rfl rfl 66 Z HW0.out (by rw [HZS.out]; exact infoArr) rfl HZ1.out ?_
          intro w5 hw5 hg5
          have HW5 := hid hw5
          have HB5 := hid (below_grown HB.out hg5 (by rw [HG0.out]; exact Nat.le_refl _) HB.out.size)
          clear hw5 hg5
          go_wp2_with fail
          exact bodyPost_ret (v := .tuple #[.agg Z, .bool false]) (resCellTmpA rfl _ _ g0 66 Z (0, 0) _ _ rfl rfl HW5.out uArr rfl (by rw [HZS.out]; exact infoArr)) rfl ⟨⟨Z, by rw [HF.out], HZS.out, HZ1.out, fun h => by have := HF.out; rw [decide_eq_false_iff_not] at this; exact absurd h this⟩, HB5.out⟩
        · have q1n : (u < lw) = False := eq_false q1
          have q1i : (lw : Int) ≤ (u : Int) := by omega
          have q1d : decide ((u : Int) < (lw : Int)) = false := decide_eq_false (by omega)
          by_cases q2 : u < 258
          · have hsy : symB (u : Int) = true := symB_iff.2 ⟨by omega, by omega⟩
            rw [hsy] at HIS
            by_cases q3 : 0 < v
            · have q3d : decide ((v : Int) < 1) = false := decide_eq_false (by omega)
              have q3i : (1 : Int) ≤ (v : Int) := by omega
              by_cases q4 : v ≤ lf
              · have q4n : (lf < v) = False := eq_false (by omega)
                have q4d : decide ((lf : Int) < (v : Int)) = false := decide_eq_false (by omega)
                have HOK := hid (HPI.out.2 ⟨q2, Nat.le_of_not_lt q1, q3, by have := HLF.out; omega⟩)
                have HS2 := hid (HST.out HOK.out)
                have HQL := hid HPM.out.len
                have j1 : wr.cell? ⟨g1, u, none⟩ = some (.int .i64 ((q.getD u 0 : Nat) : Int)) := by
                  rw [cell_of_row _ _ _ _ _ _ HW1.out, List.getElem?_toArray]
                  exact nvals_get (by rw [HQL.out]; exact q2)
                have f1 : wr.frozen? ⟨g1, u, none⟩ = false := frozen_of_row _ _ _ _ _ HW1.out
                have hub : (u : Int) < 258 := by omega
                have hu9 : (u < 258) = True := eq_true q2
                have HWA := hid (heap_setCell_same wr g1 u _ _ (.int .i64 (v : Int)) HW1.out)
                rw [nvals_setIf] at HWA
                have HWB : Hid ((wr.setCell ⟨g1, u, none⟩ (.int .i64 (v : Int))).heap[g0]? = some (.cells Z 66 (0, 0))) := hid (by
                  rw [heap_setCell_other _ _ _ _ (by show g0 ≠ g1; exact Nat.ne_of_lt HG1.out)]; exact HW0.out)
                have HBB := hid (HB.out.setCell (p := ⟨g1, u, none⟩) (by show x.heap.size ≤ g1; rw [← HG0.out]; exact Nat.le_of_lt HG1.out) (.int .i64 (v : Int)))
                obtain ⟨l2, hl2⟩ : ∃ l2 : Nat, lf = l2 + v := ⟨lf - v, by omega⟩
                have hl3 : (lf : Int) - (v : Int) = (l2 : Int) := by omega
                have HL2 : Hid (l2 + (vs.take (t + 1)).sum = 65536) := hid (by rw [← HSM.out]; have := HLF.out; omega)
                generalize q.getD u 0 = oldq at *
                clear q1 q2 q3 q4 hl2 HST HSM HPM HLF HLW HNO HPI HW0 HW1 HB
                go_wp2_with fail
                refine HIS.out.mono ?_
                rintro e w' ⟨rfl, rfl⟩
                go_wp2_with fail
                go_roundw
                case rel => exact ⟨t + 1, u + 1, l2, _, HLT.out, by go_num, by go_num, rfl, HLO2.out.symm, HL2.out, HS2.out, HWB.out, HWA.out, HBB.out⟩
                case measure => simp [intOf]; have := HLT.out; omega
              · have q4n : (lf < v) = True := eq_true (by omega)
                have q4i : (lf : Int) < (v : Int) := by omega
                have HF := hid (HNO.out fun h => by have := (HPI.out.1 h).2.2.2; have := HLF.out; omega)
                clear q1 q2 q3 q4
                clear HST HSM HLO2 HPM HLF HLW HNO HPI
                go_wp2_with fail
                refine HIS.out.mono ?_
                rintro e w' ⟨rfl, rfl⟩
                go_upto_region 10 with fail
                refine wp_region_lit ?_
                refine wpList_build_none rfl 66 rfl Z HZB.out ?_
                refine wpList_store_own rfl 66 (.tmp 4) (.tmp 46) rfl g0 Z rfl rfl 66 Z HW0.out (by rw [HZS.out]; exact infoArr) rfl HZ1.out ?_
                intro w5 hw5 hg5
                have HW5 := hid hw5
                have HB5 := hid (below_grown HB.out hg5 (by rw [HG0.out]; exact Nat.le_refl _) HB.out.size)
                clear hw5 hg5
                go_wp2_with fail
                exact bodyPost_ret (v := .tuple #[.agg Z, .bool false]) (resCellTmpA rfl _ _ g0 66 Z (0, 0) _ _ rfl rfl HW5.out uArr rfl (by rw [HZS.out]; exact infoArr)) rfl ⟨⟨Z, by rw [HF.out], HZS.out, HZ1.out, fun h => by have := HF.out; rw [decide_eq_false_iff_not] at this; exact absurd h this⟩, HB5.out⟩
            · obtain rfl : v = 0 := by omega
              have HF := hid (HNO.out fun h => by have := (HPI.out.1 h).2.2.1; omega)
              clear q1 q2 q3
              clear HST HSM HLO2 HPM HLF HLW HNO HPI
              go_wp2_with fail
              refine HIS.out.mono ?_
              rintro e w' ⟨rfl, rfl⟩
              go_upto_region 10 with fail
              refine wp_region_lit ?_
              refine wpList_build_none rfl 66 rfl Z HZB.out ?_
              refine wpList_store_own rfl 66 (.tmp 4) (.tmp 46) rfl g0 Z rfl rfl 66 Z HW0.out (by rw [HZS.out]; exact infoArr) rfl HZ1.out ?_
              intro w5 hw5 hg5
              have HW5 := hid hw5
              have HB5 := hid (below_grown HB.out hg5 (by rw [HG0.out]; exact Nat.le_refl _) HB.out.size)
              clear hw5 hg5
              go_wp2_with fail
              exact bodyPost_ret (v := .tuple #[.agg Z, .bool false]) (resCellTmpA rfl _ _ g0 66 Z (0, 0) _ _ rfl rfl HW5.out uArr rfl (by rw [HZS.out]; exact infoArr)) rfl ⟨⟨Z, by rw [HF.out], HZS.out, HZ1.out, fun h => by have := HF.out; rw [decide_eq_false_iff_not] at this; exact absurd h this⟩, HB5.out⟩
          · have hsy : symB (u : Int) = false := by
              cases h : symB (u : Int) with
              | false => rfl
              | true => have := symB_iff.1 h; omega
            rw [hsy] at HIS
            have HF := hid (HNO.out fun h => by have := (HPI.out.1 h).1; omega)
            clear q1 q2
            clear HST HSM HLO2 HPM HLF HLW HNO HPI
            go_wp2_with fail
            refine HIS.out.mono ?_
            rintro e w' ⟨rfl, rfl⟩
            go_upto_region 10 with fail
            refine wp_region_lit ?_
            refine wpList_build_none rfl 66 rfl Z HZB.out ?_
            refine wpList_store_own rfl 66 (.tmp 4) (.tmp 46) rfl g0 Z rfl rfl 66 Z HW0.out (by rw [HZS.out]; exact infoArr) rfl HZ1.out ?_
            intro w5 hw5 hg5
            have HW5 := hid hw5
            have HB5 := hid (below_grown HB.out hg5 (by rw [HG0.out]; exact Nat.le_refl _) HB.out.size)
            clear hw5 hg5
            go_wp2_with fail
            exact bodyPost_ret (v := .tuple #[.agg Z, .bool false]) (resCellTmpA rfl _ _ g0 66 Z (0, 0) _ _ rfl rfl HW5.out uArr rfl (by rw [HZS.out]; exact infoArr)) rfl ⟨⟨Z, by rw [HF.out], HZS.out, HZ1.out, fun h => by have := HF.out; rw [decide_eq_false_iff_not] at this; exact absurd h this⟩, HB5.out⟩
      · have hti : (t < n) = False := eq_false hlt
        have HTE : Hid (t = us.length) := hid (by rw [← HN.out]; omega)
        have HP2 : Hid (PaM us vs q us.length) := hid (by rw [← HTE.out]; exact HPM.out)
        have HLE : Hid (us.length = vs.length) := hid (by rw [← HN.out]; exact HM.out)
        have HOK : Hid (decide (paOk us vs) = true) := hid (decide_eq_true ⟨HLE.out, fun i hi => HP2.out.ok i hi⟩)
        have HDN := hid (HP2.out.done HLE.out)
        have HQL := hid HPM.out.len
        have hqs : (nvals q).toArray.size = 258 := by rw [List.size_toArray, nvals_len, HQL.out]
        have HQS := hid hqs
        have HQ1 := hid (nvalsA_one q)
        obtain ⟨A, hA⟩ : ∃ A, A = (nvals q).toArray := ⟨_, rfl⟩
        rw [← hA] at HQS HQ1 HW1
        have HA := hid hA
        clear hlt HPM hqs hA HLW HLF
        go_upto_region 15 with fail
        refine wp_region_lit ?_
        refine wpList_load_row rfl 66 _ rfl g1 rfl 66 A (0, 0) _ HW1.out uArr rfl (by rw [HQS.out]; exact infoArr) ?_
        refine wpList_store_own rfl 66 (.tmp 4) (.tmp 56) rfl g0 A rfl rfl 66 Z HW0.out (by rw [HQS.out]; exact infoArr) (by rw [HQS.out]; exact HZS.out) HQ1.out ?_
        intro w5 hw5 hg5
        have HW5 := hid hw5
        have HB5 := hid (below_grown HB.out hg5 (by rw [HG0.out]; exact Nat.le_refl _) HB.out.size)
        clear hw5 hg5
        go_wp2_with fail
        exact bodyPost_ret (v := .tuple #[.agg A, .bool true]) (resCellTmpA rfl _ _ g0 66 A (0, 0) _ _ rfl rfl HW5.out uArr rfl (by rw [HQS.out]; exact infoArr)) rfl ⟨⟨A, by rw [HOK.out], HQS.out, HQ1.out, fun _ => ⟨q, HA.out, HQL.out, HDN.out.1, HDN.out.2⟩⟩, HB5.out⟩
  · have hnn : ((n : Int) == (m : Int)) = false := by rw [beq_eq_false_iff_ne]; omega
    have HF : Hid (decide (paOk us vs) = false) := hid (decide_eq_false fun h => hnm (by rw [HN.out, HM.out]; exact h.1))
    have hnm' : ((n : Int) != (m : Int)) = true := by rw [bne, hnn]; rfl
    have hnm2 : (n = m) = False := eq_false hnm
    clear hnm
    go_enter Try.func48, Try.ntmps48
    go_upto_region 0 with fail
    refine wp_region_lit ?_
    refine wpList_alloc_own rfl 66 rfl Z HZA.out ?_
    intro wr hw1 hb1
    obtain ⟨g0, hg0⟩ : ∃ g, g = x.heap.size := ⟨_, rfl⟩
    rw [← hg0] at hw1 ⊢
    have HG0 := hid hg0
    have HW0 := hid hw1
    have HB := hid hb1
    clear hw1 hb1 hg0
    go_upto_region 2 with fail
    refine wp_region_lit ?_
    refine wpList_build_none rfl 66 rfl Z HZB.out ?_
    refine wpList_store_own rfl 66 (.tmp 4) (.tmp 17) rfl g0 Z rfl rfl 66 Z HW0.out (by rw [HZS.out]; exact infoArr) rfl HZ1.out ?_
    intro w5 hw5 hg5
    have HW5 := hid hw5
    have HB5 := hid (below_grown HB.out hg5 (by rw [HG0.out]; exact Nat.le_refl _) HB.out.size)
    clear hw5 hg5
    go_wp2_with fail
    exact bodyPost_ret (v := .tuple #[.agg Z, .bool false]) (resCellTmpA rfl _ _ g0 66 Z (0, 0) _ _ rfl rfl HW5.out uArr rfl (by rw [HZS.out]; exact infoArr)) rfl ⟨⟨Z, by rw [HF.out], HZS.out, HZ1.out, fun h => by have := HF.out; rw [decide_eq_false_iff_not] at this; exact absurd h this⟩, HB5.out⟩
end Go.Proofs.Ytbhpfdpcafdeaaa
