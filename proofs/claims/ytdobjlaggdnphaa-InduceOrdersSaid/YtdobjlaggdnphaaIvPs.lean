/- THE CONTRACTS THAT THE LAW'S SIDE ASKS FOR (layer 16), of what landed. (CONTRACTS (induce, as it landed): names; Names; Reduced. (CONTRACTS (induce, as it landed): the pieces of all first Ss, by place. (CONTRACTS (induce, as it landed): the order that is induced; Induce.))) -/
import Derived.Test.YtdobjlaggdnphaaIvF
import Derived.Test.YtdobjlaggdnphaaDevLib
namespace Go.Proofs.Ytdobjlaggdnphaa
open Go.RowKit Go.Inc
set_option maxRecDepth 100000 in
set_option maxHeartbeats 4000000 in
theorem induced_any (ok ok' : Nat → Prop) (w : World) (v v' : Value) (zs : List Int) (fs : List Nat) (h : So ok w v zs) (h' : So ok' w v' (zsN fs)) (hl : zs.length ≤ 65536) (hck : ckT zs = 0) (hfs : isFs zs fs) :
    Calls Try.prog 37 #[v, v'] w fun e w' => ∃ u, e = .returned u ∧ w'.ownsRow w.heap.size 3 1 u zs.length (nvals (indT zs fs)) ∧ Below w.heap.size w w' := by
  have hI := InT.of hck
  have HK := hid (suKinds ok w v zs h hl hck)
  obtain ⟨a, c, rfl, hs, hlc, hcm, hna⟩ := h
  obtain ⟨b, d, rfl, hs', hlc', hcm', hnb⟩ := h'
  rw [zsN_len]
  obtain ⟨n, hn⟩ : ∃ n, n = zs.length := ⟨_, rfl⟩
  have HN := hid hn
  obtain ⟨m, hm⟩ : ∃ m, m = fs.length := ⟨_, rfl⟩
  have HM := hid hm
  rw [← hn, ← hm]
  by_cases h1 : n = 1
  · have HE : Hid (indT zs fs = [0]) := hid (by unfold indT; rw [← hn, if_pos h1])
    rw [h1]
    clear hs hs' hlc hlc' hcm hcm' hna hnb hI hn hl hck hfs h1 HN HK hm
    go_enter Try.func37, Try.ntmps37
    go_wp2_with fail
    go_ret
    exact ⟨_, rfl, by rw [HE.out]; exact one_row w _, (Below.refl _ _).alloc (Nat.le_refl _) _⟩
  · have hone : ((n : Int) == 1) = false := by rw [beq_eq_false_iff_ne]; omega
    have H2 : Hid (1 < n) := hid (by have := hI.two (by rw [← hn]; exact h1); omega)
    have HI := hid hI
    have HFS := hid hfs
    have HCK := hid hck
    have hnb' : (n : Int) ≤ 65536 := by omega
    obtain ⟨tb, tq, rfl, htx⟩ : ∃ tb tq, a = some ⟨tb, tq, none⟩ ∧ ∀ i, i < n → w.cell? ⟨tb, tq + i, none⟩ = some (.int .i64 ((cdT zs i : Nat) : Int)) := by
      rcases hs with h | ⟨tb, tq, h, _, hc⟩
      · rw [h] at hn; simp at hn; have := H2.out; omega
      · exact ⟨tb, tq, h, fun i hi => by rw [hc i (by rw [← hn]; exact hi), hI.cd (by rw [← hn]; exact hi)]⟩
    have HTX := hid htx
    have HF := hid hs'
    rw [← hn] at HK
    clear hs hs' hlc hlc' hcm hcm' hna hnb hI hn hl hck hfs h1 htx hm
    go_enter Try.func37, Try.ntmps37
    go_wp2_with fail
    refine HK.out.mono ?_
    clear HK
    rintro e w1 ⟨ku, kc, rfl, hk, hb1⟩
    have HB1 := hid hb1
    obtain ⟨kb, ko, rfl, hkx⟩ : ∃ kb ko, ku = some ⟨kb, ko, none⟩ ∧ ∀ i, i < n → w1.cell? ⟨kb, ko + i, none⟩ = some (.bool (kdT zs i)) := by
      rcases hk with h | ⟨kb, ko, h, _, hc⟩
      · have h2 := kdTo_len zs n
        rw [h] at h2; simp at h2; have := H2.out; omega
      · exact ⟨kb, ko, h, fun i hi => by rw [hc i (by rw [kdTo_len]; exact hi), kdTo_get hi]⟩
    have HKX := hid hkx
    have hA := allocBelow w1 (.cells #[.int .i64 (-1)] 3)
    have HA := hid hA
    have HRP := hid (repeat_any (w1.alloc (.cells #[.int .i64 (-1)] 3)) w1.heap.size n hnb' (by simp))
    clear hk hb1 hkx hA
    go_wp2_with fail
    refine HRP.out.mono ?_
    clear HRP
    rintro e w2 ⟨g1, rfl, hg, hrow, hb⟩
    have hsz : w1.heap.size < g1 := by simp at hg; omega
    have hB12 : Below w1.heap.size w1 w2 := HA.out.trans (hb.mono HA.out.size)
    obtain ⟨w3, hw3⟩ : ∃ w3, w3 = w2.alloc (.cells #[.slice (some ⟨tb, tq, none⟩) n c, .slice (some ⟨kb, ko, none⟩) n kc, .slice (some ⟨g1, 0, none⟩) n n] 66) := ⟨_, rfl⟩
    obtain ⟨wb, hwb⟩ : ∃ wb, wb = w2.heap.size := ⟨_, rfl⟩
    have hb23 : Below w2.heap.size w2 w3 := by rw [hw3]; exact allocBelow _ _
    have hB13 : Below w1.heap.size w1 w3 := hB12.trans (hb23.mono hB12.size)
    have hB03 : Below w.heap.size w w3 := HB1.out.trans (hB13.mono HB1.out.size)
    have hg2 : g1 < w2.heap.size := row_lt hrow
    have hc : ∀ k, k < 3 → w3.cell? ⟨wb, k, none⟩ = (#[Value.slice (some ⟨tb, tq, none⟩) n c, .slice (some ⟨kb, ko, none⟩) n kc, .slice (some ⟨g1, 0, none⟩) n n])[k]? := fun k _ => by
      rw [hw3, hwb, cell_of_row _ _ _ _ _ _ (heap_alloc_new w2 _)]
    have HWK : Hid (WkS w3 wb tb tq c kb ko kc g1 n zs) := hid ⟨hc 0 (by omega), hc 1 (by omega), hc 2 (by omega), fun i hi => (hB03.cell (cell_lt (HTX.out i hi))).trans (HTX.out i hi), fun i hi => (hB13.cell (cell_lt (HKX.out i hi))).trans (HKX.out i hi), by omega,
      by have := cell_lt (HTX.out 0 (by have := H2.out; omega)); simp only at this; have := HB1.out.size; omega, by have := cell_lt (HKX.out 0 (by have := H2.out; omega)); simp only at this; omega⟩
    have hiv : zvals (List.replicate n (-1)) = ivl (fun _ => none) n := by
      unfold zvals ivl
      apply List.ext_getElem (by simp)
      intro i h1 h2
      simp [ov]
    have HO3 : Hid (w3.ownsRow 0 3 1 (.slice (some ⟨g1, 0, none⟩) n n) n (ivl (fun _ => none) n)) := hid (by
      rw [← hiv]
      exact owns_mv (F := fun _ => False) (own_of_heap hrow (by simp) (by omega) (Nat.zero_le _)) (Mv.of_below hb23) fun _ _ => id)
    have HF3 := hid ((HF.out.mono (ok' := fun b => b < w.heap.size) fun b _ h => h).below hB03)
    have HB3 := hid hB03
    have HG : Hid (w.heap.size ≤ g1 ∧ g1 < w3.heap.size) := hid ⟨by have := HB1.out.size; omega, by have := hb23.size; omega⟩
    have HW3 := hid hw3
    have HWB := hid hwb
    have HS := hid (sow_any (fun b => b < w.heap.size) w3 wb tb tq c kb ko kc g1 n d b zs fs HWK.out HO3.out HF3.out (fun b h => by have := HG.out; omega) HFS.out HCK.out HN.out H2.out (by omega))
    rw [← HM.out] at HS
    clear hg hrow hb hsz hB12 hw3 hwb hb23 hB13 hB03 hg2 hc hiv HA HB1 HTX HKX HF HF3 HO3
    go_wp2_with fail
    rw [← HW3.out, ← HWB.out]
    refine HS.out.mono ?_
    clear HS
    rintro e w4 ⟨rfl, ho4, hm4⟩
    have HM4 := hid hm4
    have HWK4 := hid (HWK.out.mv (F := fun b => b = g1) hm4 fun _ _ h => h)
    have HL := hid (putL_any w4 wb tb tq c kb ko kc g1 n zs fs HWK4.out ho4 HFS.out HCK.out HN.out (by omega))
    clear ho4 hm4
    go_wp2_with fail
    refine HL.out.mono ?_
    clear HL
    rintro e w5 ⟨rfl, ho5, hm5⟩
    have HM5 := hid (HM4.out.trans hm5)
    have HWK5 := hid (HWK4.out.mv (F := fun b => b = g1) hm5 fun _ _ h => h)
    have hTx := HI.out.txt
    rw [← HN.out] at hTx
    have HT := hid (takeS_any w5 wb tb tq c kb ko kc g1 n zs (pass1 n (cdT zs) (kdT zs) fs).1 HWK5.out ho5 (fun p i h => by
      have h0 := sow_ok (R := fun _ _ => True) hTx fs HFS.out.1 (fun f hh => by have := isFs_lt HFS.out hh; rw [← HN.out] at this; exact this) (fun _ _ _ _ _ => trivial) (List.pairwise_of_forall (fun _ _ _ => trivial))
      exact ((ScanI.scan hTx.scanL (trR.scanL hTx) h0.1 n).at_ h).1) (by have := H2.out; omega) (by omega))
    clear ho5 hm5 hTx HM4 HWK4
    go_wp2_with fail
    refine HT.out.mono ?_
    clear HT
    rintro e w6 ⟨rfl, ho6, hm6⟩
    have HM6 := hid (HM5.out.trans hm6)
    have HWK6 := hid (HWK5.out.mv (F := fun b => b = g1) hm6 fun _ _ h => h)
    have HP := hid (putS_any w6 wb tb tq c kb ko kc g1 n zs fs HWK6.out ho6 HFS.out HCK.out HN.out H2.out (by omega))
    clear ho6 hm6 HM5 HWK5
    go_wp2_with fail
    refine HP.out.mono ?_
    clear HP
    rintro e w7 ⟨rfl, ho7, hm7⟩
    have c2 := hm7.cell HWK6.out.c2 HWK6.out.nw
    have HB7 : Hid (Below w.heap.size w w7) := hid (HB3.out.trans ((HM6.out.trans hm7).below HB3.out.size fun i e => by have := HG.out; omega))
    have HR := hid (own_weaken (ownSelf ho7) HG.out.1)
    clear ho7 hm7 HM6 HWK6
    go_wp2_with fail
    go_ret
    exact ⟨_, rfl, HR.out, HB7.out⟩
set_option maxRecDepth 20000 in
set_option maxHeartbeats 2000000 in
theorem ivInduce_any (ok ok' : Nat → Prop) (w : World) (v v' : Value) (zs ls : List Int) (h : So ok w v zs) (h' : So ok' w v' ls) (hl : zs.length ≤ 65536) (hk : ckT zs = 0) (hl' : ls.length ≤ 65536) :
    Calls Try.prog 16 #[v, v'] w fun e w' => (∀ fs, ls = zsN fs → isFs zs fs → ∃ u, e = .returned (.tuple #[u, .int .i64 0]) ∧ So (fun g => w.heap.size ≤ g) w' u (zsN (indT zs fs))) ∧ (¬ isFsI zs ls → ∃ u, e = .returned (.tuple #[u, .int .i64 3])) ∧ Below w.heap.size w w' := by
  have HF := hid (suFirsts ok w v zs h hl hk)
  have HCL : Hid (∀ y, Below w.heap.size w y → Calls Try.prog 34 #[v'] y fun e w' => ∃ u, e = .returned u ∧ w'.ownsRow y.heap.size 3 1 u ls.length (zvals ls) ∧ Below y.heap.size y w') := hid fun y hy => cloneR_any ok' y v' ls (h'.below hy) hl'
  have HIN : Hid (∀ y, Below w.heap.size w y → ∀ fs, ls = zsN fs → isFs zs fs → Calls Try.prog 37 #[v, v'] y fun e w' => ∃ u, e = .returned u ∧ w'.ownsRow y.heap.size 3 1 u zs.length (nvals (indT zs fs)) ∧ Below y.heap.size y w') := hid fun y hy fs e hf => by
    subst e
    exact induced_any ok ok' y v v' zs fs (h.below hy) (h'.below hy) hl hk hf
  have HIS := hid (isFsI_sort (x := zs) (ls := ls))
  have hfl := fs_half (x := zs)
  obtain ⟨a, c, rfl, -, -, -, -⟩ := h
  obtain ⟨a', c', rfl, -, -, -, -⟩ := h'
  obtain ⟨F, hF⟩ : ∃ F, F = fsT zs zs.length := ⟨_, rfl⟩
  rw [← hF] at HF HIS hfl
  have hml : (ls.mergeSort fun x y => decide (x ≤ y)).length = ls.length := List.length_mergeSort ..
  obtain ⟨n', hn'⟩ : ∃ n', n' = ls.length := ⟨_, rfl⟩
  have HN' := hid hn'
  have HL' := hid hl'
  rw [← hn'] at HCL hml
  rw [← hn'] at HIN ⊢
  have HML := hid hml
  generalize zs.length = n at *
  clear hk hF hn' hml hl' hl hfl
  go_enter Try.func16, Try.ntmps16
  go_wp2_with fail
  refine HF.out.mono ?_
  clear HF
  rintro e w1 ⟨u, rfl, hu, hb⟩
  have HB1 := hid hb
  obtain ⟨fa, fc, rfl, hfs, -, -, -⟩ := hu
  have HFS := hid hfs
  have HCL1 := hid (HCL.out w1 hb)
  obtain ⟨m, hm⟩ : ∃ m, m = (zsN F).length := ⟨_, rfl⟩
  have HM := hid hm
  rw [← hm]
  clear hb hfs HCL hm
  go_wp2_with fail
  refine HCL1.out.mono ?_
  clear HCL1
  rintro e w2 ⟨u2, rfl, hr2, hb⟩
  have HB2 := hid hb
  have HSO := hid (sort_any w2 w1.heap.size n' u2 ls hr2 (by rw [HN'.out]; exact HL'.out))
  clear hr2 hb
  go_wp2_with fail
  refine HSO.out.mono ?_
  clear HSO
  rintro e w3 ⟨rfl, hso, hmv⟩
  have HB13 : Hid (Below w1.heap.size w1 w3) := hid (HB2.out.trans (hmv.below HB2.out.size fun _ h => h))
  obtain ⟨a3, c3, rfl, hs3, -, -, -⟩ := hso
  have HEQ := hid (equalI_any _ _ w3 a3 fa c3 fc _ (zsN F) hs3 (HFS.out.below HB13.out) (by rw [HML.out, HN'.out]; have := HL'.out; omega))
  rw [HML.out, ← HM.out] at HEQ
  rw [HML.out]
  have HB3 : Hid (Below w.heap.size w w3) := hid (HB1.out.trans (HB13.out.mono HB1.out.size))
  clear hmv hs3 HB2 HB13
  go_wp2_with fail
  refine HEQ.out.mono ?_
  clear HEQ
  rintro e w4 ⟨rfl, hb⟩
  have HB4 : Hid (Below w.heap.size w w4) := hid (HB3.out.trans (hb.mono HB3.out.size))
  clear hb HB3
  by_cases hq : (ls.mergeSort fun x y => decide (x ≤ y)) = zsN F
  · have hd : decide ((ls.mergeSort fun x y => decide (x ≤ y)) = zsN F) = true := decide_eq_true hq
    rw [hd]
    obtain ⟨fs, hfe, hff⟩ := HIS.out.2 hq
    have HFE := hid hfe
    have HFF := hid hff
    have HIN1 := hid (HIN.out w4 HB4.out fs hfe hff)
    have HNO : Hid (isFsI zs ls) := hid ⟨fs, hfe, hff⟩
    clear hq hd hfe hff HIN
    go_wp2_with fail
    refine HIN1.out.mono ?_
    clear HIN1
    rintro e w5 ⟨u5, rfl, hr, hb⟩
    have HB5 : Hid (Below w.heap.size w w5) := hid (HB4.out.trans (hb.mono HB4.out.size))
    have HR := hid ((So.ownedN hr).mono (ok' := fun g => w.heap.size ≤ g) fun b hb _ => Nat.le_trans HB4.out.size hb)
    clear hr hb
    go_wp2_with fail
    go_ret2
    refine ⟨fun gs hg _ => ⟨_, rfl, ?_⟩, fun h => absurd HNO.out h, HB5.out⟩
    have e2 : gs = fs := zsN_inj (hg.symm.trans HFE.out)
    rw [e2]
    exact HR.out
  · have hd : decide ((ls.mergeSort fun x y => decide (x ≤ y)) = zsN F) = false := decide_eq_false hq
    rw [hd]
    have HNO : Hid (¬ isFsI zs ls) := hid fun h => hq (HIS.out.1 h)
    clear hq hd HIN HIS
    go_wp2_with fail
    go_ret2
    exact ⟨fun fs h1 h2 => absurd ⟨fs, h1, h2⟩ HNO.out, fun _ => ⟨_, rfl⟩, HB4.out⟩
theorem ivInduceE (ok : Nat → Prop) (w : World) (v v' : Value) (zs : List Int) (h : So ok w v zs) (hl : zs.length ≤ 65536) (hz : ∀ z ∈ zs, i64s z) (hk : ckT zs ≠ 0) :
    Calls Try.prog 16 #[v, v'] w fun e w' => ∃ u, e = .returned (.tuple #[u, .int .i64 ((ckT zs : Nat) : Int)]) ∧ Below w.heap.size w w' := by
  have HC := hid (suFirstsE ok w v zs h hl hz hk)
  obtain ⟨k, hkk⟩ : ∃ k, k = ckT zs := ⟨_, rfl⟩
  rw [← hkk] at HC hk ⊢
  have hk0 : ((k : Int) != 0) = true := by rw [bne_iff_ne]; omega
  clear h hl hz hk hkk
  go_enter Try.func16, Try.ntmps16
  go_wp2_with fail
  refine HC.out.mono ?_
  rintro e w' ⟨u, rfl, hb⟩
  have HB := hid hb
  clear hb HC
  go_wp2_with fail
  go_ret2
  exact ⟨_, rfl, HB.out⟩
end Go.Proofs.Ytdobjlaggdnphaa
namespace Go.Inc
open Go.RowKit Go.Maps
section
variable {P : Program} (w : World) {ops : Array Oper} {rest : List Oper} {o : Oper} {a : Act} {Q : Exit → Act → World → Prop}
/-- 'v, ok := m[k]'. -/
theorem wpList_look2 (hg : o.guard = none) (m x : Operand) (t : TypeId) (hop : o.op = Op.lookup t m x true) (k e : TypeId) (hk : P.underlying k = some (.int .i64)) (ht : P.underlying t = some (.map k e)) (z : Value) (hz : (P.info? e).bind (·.zero) = some z)
    (b n : Nat) (f : Int → Option Value) (hm : a.eval m = .map (some b)) (hown : Mp P k w b n f) (y : Int) (hx : a.eval x = .int .i64 y) (hw : -9223372036854775808 ≤ y ∧ y ≤ 9223372036854775807) (u : Value) (ok : Bool) (hu : u = (f y).getD z) (hok : ok = (f y).isSome)
    (hK : wpList P ops Q rest (a.put o.dst (.tuple #[u, .bool ok])) w) : wpList P ops Q (o :: rest) a w := by
  obtain ⟨D, hD, hs⟩ := hown
  have hz' : (zeroValue e).run P w = .ok z w := by
    obtain ⟨i, hi, hz⟩ := Option.bind_eq_some_iff.1 hz
    simp [zeroValue, typeInfo, hi, hz]
  refine wpList_lookup_own_ok w hg m x t hop k e (int_keyed hk) ht heldElem hz' (.held z) [] rfl b n D hm hD _ _ hx (keyOf_int_mk hk (a := y) (Go.WalkArith.wf_i64 hw)) fun v ps hv => ?_
  rw [hs.at] at hv
  unfold heldElem at hv
  simp only [Option.some.injEq, Prod.mk.injEq, DataW.held.injEq] at hv
  obtain ⟨rfl, -⟩ := hv
  have hh : Maps.has D (.int .i64 y) = (f y).isSome := by
    cases hf : f y with
    | none => exact (hs y).2 hf
    | some v => exact ((hs y).1 v hf).1
  rw [hh, ← hu, ← hok]
  exact hK
end
/-- A piece's slice. -/
def pcS (x : List Int) (tb tq a : Nat) : Value := .slice (some ⟨tb, tq + a, none⟩) (pceT x a).length (pceT x a).length
/-- The first k pieces, by place. -/
def pcM (x : List Int) (tb tq : Nat) : Nat → Int → Option Value
  | 0 => noKeys
  | k + 1 => put (pcM x tb tq k) (((fsT x x.length).getD k 0 : Nat) : Int) (.agg #[.int .i64 (k : Int), pcS x tb tq ((fsT x x.length).getD k 0)])
theorem pcM_at {x : List Int} {tb tq : Nat} : ∀ {k j : Nat}, k ≤ (fsT x x.length).length → j < k → pcM x tb tq k (((fsT x x.length).getD j 0 : Nat) : Int) = some (.agg #[.int .i64 (j : Int), pcS x tb tq ((fsT x x.length).getD j 0)])
  | 0, j, _, h => absurd h (by omega)
  | k + 1, j, hk, h => by
    show (if _ then _ else _) = _
    by_cases e : j = k
    · subst e; rw [if_pos rfl]
    · have h1 := rise_getD (inF_rise (x := x) x.length) (show j < k by omega) (by omega)
      rw [if_neg (by omega)]
      exact pcM_at (by omega) (by omega)
theorem pcM_none {x : List Int} {tb tq : Nat} {z : Nat} (hz : z ∉ fsT x x.length) : ∀ {k : Nat}, k ≤ (fsT x x.length).length → pcM x tb tq k (z : Int) = none
  | 0, _ => rfl
  | k + 1, hk => by
    show (if _ then _ else _) = _
    rw [if_neg (fun e => hz (by
      have h1 : z = (fsT x x.length).getD k 0 := by omega
      rw [h1]
      exact getD_inN (by omega)))]
    exact pcM_none hz (by omega)
theorem run_makeMapN {P : Program} (t k e : TypeId) (ht : P.underlying t = some (.map k e)) (n : Int) (w : World) : (Instr.makeMap t (some (.int .i64 n))).run P w = .ok (.map (some w.heap.size)) (w.alloc (.map #[] 0)) := by
  simp [Instr.makeMap, Sem.run_bind, run_underlying ht, asInt, asIntOf, Result.andThen]
end Go.Inc
namespace Go.Proofs.Ytdobjlaggdnphaa
open Go.RowKit Go.Inc
set_option maxRecDepth 100000 in
set_option maxHeartbeats 4000000 in
theorem pieces_any (ok' : Nat → Prop) (w : World) (tb tq c d : Nat) (b : Option Addr) (zs : List Int) (hcn : zs.length ≤ c ∧ c ≤ maxLen) (hf : Si ok' w b (zsN (fsT zs zs.length))) (hl : zs.length ≤ 65536) (hck : ckT zs = 0) :
    Calls Try.prog 56 #[.slice (some ⟨tb, tq, none⟩) zs.length c, .slice b (fsT zs zs.length).length d] w fun e w' => ∃ M, e = .returned (.map (some M)) ∧ w.heap.size ≤ M ∧ Mp Try.prog 3 w' M 65536 (pcM zs tb tq (fsT zs zs.length).length) ∧ Below w.heap.size w w' := by
  have hI := InT.of hck
  have HPC := hid (fun k hk => pce_at hI (k := k) hk)
  have hml := fs_half (x := zs)
  have HF := hid hf
  obtain ⟨F, hF⟩ : ∃ F, F = fsT zs zs.length := ⟨_, rfl⟩
  have HFE := hid hF
  obtain ⟨m, hm⟩ : ∃ m, m = F.length := ⟨_, rfl⟩
  have HM := hid hm
  obtain ⟨n, hn⟩ : ∃ n, n = zs.length := ⟨_, rfl⟩
  have HN := hid hn
  rw [← hF] at HF HPC hml
  rw [← hF, ← hm, ← hn]
  rw [← hn] at HPC hml hcn hl
  rw [← hm] at HPC hml
  have hmb : (m : Int) ≤ 65536 := by omega
  have hnb : (n : Int) ≤ 65536 := by omega
  have hc1 : (n : Int) ≤ c := by omega
  have hc2 : (c : Int) ≤ 9223372036854775807 := by have := hcn.2; unfold maxLen at this; omega
  have HST : Hid (∀ k, pcM zs tb tq (k + 1) = put (pcM zs tb tq k) ((F.getD k 0 : Nat) : Int) (.agg #[.int .i64 (k : Int), pcS zs tb tq (F.getD k 0)])) := hid fun k => by rw [hF]; rfl
  obtain ⟨M, hM⟩ : ∃ M, M = w.heap.size := ⟨_, rfl⟩
  obtain ⟨w1, hw1⟩ : ∃ w1, w1 = w.alloc (.map #[] 0) := ⟨_, rfl⟩
  have HMM : Hid (Mp Try.prog 3 w1 M 0 (pcM zs tb tq 0)) := hid (by rw [hw1, hM]; exact Mp.made w Try.prog 3)
  have HB1 : Hid (Below w.heap.size w w1) := hid (by rw [hw1]; exact allocBelow w _)
  have hmm : (Instr.makeMap 68 (some (.int .i64 (m : Int)))).run Try.prog w = .ok (.map (some M)) w1 := by rw [hw1, hM]; exact run_makeMapN _ _ _ Try.underlying68 _ _
  have HMW : Hid (M = w.heap.size) := hid hM
  clear hf hF hm hn hck hI hM hw1 hcn hl
  go_enter Try.func56, Try.ntmps56
  go_wp2_with fail
  go_loopw [14] (fun i wr => ∃ t : Nat, t ≤ m ∧ i = .int .i64 (t : Int) ∧ Mp Try.prog 3 wr M t (pcM zs tb tq t) ∧ Below w.heap.size w wr) (fun i _ => m - (intOf i).toNat)
  case atStart => exact ⟨0, Nat.zero_le _, rfl, HMM.out, HB1.out⟩
  case round =>
    clear hmm HMM HB1
    obtain ⟨t, ht, rfl, hmp, hb⟩ := hrel
    have HMP := hid hmp
    have HB := hid hb
    clear hmp hb
    by_cases hlt : t < m
    · have hti : (t < m) = True := eq_true hlt
      have htb : (t : Int) < (m : Int) := by omega
      have HT := hid hlt
      obtain ⟨b1, o1, rfl, h1⟩ := siCell (HF.out.below HB.out) (k := t) (by rw [zsN_len, ← HM.out]; exact hlt)
      rw [zsN_get] at h1
      obtain ⟨L, hL1, hL2, hL3, hL4, hL5, -⟩ := HPC.out t hlt
      obtain ⟨a, ha⟩ : ∃ a, a = F.getD t 0 := ⟨_, rfl⟩
      rw [← ha] at h1 hL1 hL2 hL4 hL5
      have HST1 := hid (HST.out t)
      rw [← ha] at HST1
      have hpcs : pcS zs tb tq a = .slice (some ⟨tb, tq + a, none⟩) L L := by unfold pcS; rw [hL2]
      rw [hpcs] at HST1
      obtain ⟨e, he⟩ : ∃ e, e = a + L := ⟨_, rfl⟩
      have hea : (a : Int) ≤ (e : Int) := by omega
      have hea2 : (e = a) = False := eq_false (by omega)
      have hen : (e : Int) ≤ (n : Int) := by omega
      have hel : e - a = L := by omega
      have hel2 : (e : Int) - (a : Int) = (L : Int) := by omega
      have hec : (e : Int) ≤ (c : Int) := by omega
      have HAB : Hid (-9223372036854775808 ≤ (a : Int) ∧ (a : Int) ≤ 9223372036854775807) := hid (by omega)
      by_cases h2 : t + 1 < m
      · have h2i : ((t : Int) + 1 < (m : Int)) = True := eq_true (by omega)
        obtain ⟨b2, o2, e2, h3⟩ := siCell (HF.out.below HB.out) (k := t + 1) (by rw [zsN_len, ← HM.out]; exact h2)
        cases e2
        rw [zsN_get] at h3
        obtain ⟨a2, ha2⟩ : ∃ a2, a2 = F.getD (t + 1) 0 := ⟨_, rfl⟩
        have h4 := hL4 h2
        rw [← ha2] at h3 h4
        have h5 : (a2 : Int) + 1 = (e : Int) := by omega
        obtain ⟨t1, ht1⟩ : ∃ t1, t1 = t + 1 := ⟨_, rfl⟩
        have ht2 : (t : Int) + 1 = (t1 : Int) := by omega
        have ht3 : (t1 < m) = True := eq_true (by omega)
        rw [← ht1] at h3
        have ht4 : (t1 : Int) < (m : Int) := by omega
        clear hlt hL1 hL2 hL3 hL4 hL5 ha he hpcs h2 ha2 h4 ht1 h2i
        go_wp2_with (at_mapUpdate; refine wpList_put _ rfl _ _ _ 68 rfl 3 71 Try.underlying3 Try.underlying68 M t _ rfl HMP.out (by unfold maxLen; omega) (a : Int) rfl HAB.out (.agg #[.int .i64 (t : Int), .slice (some ⟨tb, tq + a, none⟩) L L]) rfl ?_; intro w3 hm3 hg3)
        have HM3 : Hid (Mp Try.prog 3 w3 M (t + 1) (pcM zs tb tq (t + 1))) := hid (by rw [HST1.out]; exact hm3)
        have HB3 : Hid (Below w.heap.size w w3) := hid (below_grown HB.out hg3 (by rw [HMW.out]; exact Nat.le_refl _) HB.out.size)
        clear hm3 hg3 HMP HB
        go_wp2_with fail
        go_roundw
        case rel => exact ⟨t + 1, HT.out, by go_num, HM3.out, HB3.out⟩
        case measure => simp [intOf]; have := HT.out; omega
      · have h2i : ((t : Int) + 1 < (m : Int)) = False := eq_false (by omega)
        have h4 := hL5 h2
        have h5 : e = n := by omega
        obtain ⟨t1, ht1⟩ : ∃ t1, t1 = t + 1 := ⟨_, rfl⟩
        have ht2 : (t : Int) + 1 = (t1 : Int) := by omega
        have ht3 : (t1 < m) = False := eq_false (by omega)
        subst h5
        clear hlt hL1 hL2 hL3 hL4 hL5 ha he hpcs h2 h4 ht1 h2i
        go_wp2_with (at_mapUpdate; refine wpList_put _ rfl _ _ _ 68 rfl 3 71 Try.underlying3 Try.underlying68 M t _ rfl HMP.out (by unfold maxLen; omega) (a : Int) rfl HAB.out (.agg #[.int .i64 (t : Int), .slice (some ⟨tb, tq + a, none⟩) L L]) rfl ?_; intro w3 hm3 hg3)
        have HM3 : Hid (Mp Try.prog 3 w3 M (t + 1) (pcM zs tb tq (t + 1))) := hid (by rw [HST1.out]; exact hm3)
        have HB3 : Hid (Below w.heap.size w w3) := hid (below_grown HB.out hg3 (by rw [HMW.out]; exact Nat.le_refl _) HB.out.size)
        clear hm3 hg3 HMP HB
        go_wp2_with fail
        go_roundw
        case rel => exact ⟨t + 1, HT.out, by go_num, HM3.out, HB3.out⟩
        case measure => simp [intOf]; have := HT.out; omega
    · have hti : (t < m) = False := eq_false hlt
      obtain rfl : t = m := by omega
      have HR : Hid (Mp Try.prog 3 wr M 65536 (pcM zs tb tq t)) := hid (HMP.out.mono (by omega))
      clear hlt
      go_wp2_with fail
      go_ret
      exact ⟨M, rfl, by rw [HMW.out]; exact Nat.le_refl _, HR.out, HB.out⟩
end Go.Proofs.Ytdobjlaggdnphaa
namespace Go.Inc
open Go.RowKit
/-- All places, in some order. -/
structure AllP (x : List Int) (l : List Nat) : Prop where
  nodup : (gsT x l).Nodup
  mem : ∀ j, j ∈ gsT x l ↔ j ∈ fsT x x.length
theorem allP_ok {x : List Int} {l : List Nat} (ho : okT (zsN l)) (hl : l.length = x.length) : AllP x l := by
  have hn : l.Nodup := by
    have h := okT_nodup ho
    unfold zsN at h
    rw [List.nodup_iff_pairwise_ne, List.pairwise_map] at h
    rw [List.nodup_iff_pairwise_ne]
    exact h.imp fun {a b} h1 h2 => h1 (by rw [h2])
  refine ⟨hn.filter _, fun j => ?_⟩
  unfold gsT
  rw [List.mem_filter, decide_eq_true_iff]
  constructor
  · exact fun h => h.2
  · intro h
    have h1 := (inF_mem.1 h).2.1
    have h2 := ho j (by rw [zsN_len]; omega)
    exact ⟨mem_zsN.1 h2, h⟩
theorem ByP.allP {x : List Int} {l : List Nat} (h : ByP x l) : AllP x l := ⟨gs_nodup h, fun _ => gs_mem h⟩
/-- What stands behind r named first Ss. -/
structure NmA (x : List Int) (l : List Nat) (W : List Nat) (N : Nat) (r : Nat) : Prop where
  len : W.length = (fsT x x.length).length
  at_ : ∀ t, t < r → W.getD ((fsT x x.length).idxOf ((gsT x l).getD t 0)) 0 = chg x (gsT x l) t
  num : N = if r = 0 then 0 else chg x (gsT x l) (r - 1) + 1
theorem NmA.zero (x : List Int) (l : List Nat) : NmA x l (List.replicate (fsT x x.length).length 0) 0 0 :=
  ⟨List.length_replicate, fun t h => absurd h (by omega), rfl⟩
theorem NmA.step {x : List Int} {l : List Nat} (hl : AllP x l) {W : List Nat} {N : Nat} {r k : Nat} (h : NmA x l W N r) (hk : k < (fsT x x.length).length) (hr : r < (gsT x l).length) (hg : (gsT x l).getD r 0 = (fsT x x.length).getD k 0) :
    NmA x l (W.set k (chg x (gsT x l) r)) (chg x (gsT x l) r + 1) (r + 1) := by
  have hi : (fsT x x.length).idxOf ((gsT x l).getD r 0) = k := by rw [hg]; exact idx_getD (fs_nodup x) hk
  refine ⟨by rw [List.length_set]; exact h.len, fun t ht => ?_, by rw [if_neg (by omega), Nat.add_sub_cancel]⟩
  rw [List.getD_eq_getElem?_getD, List.getElem?_set]
  by_cases e : t = r
  · subst e
    rw [hi, if_pos rfl, if_pos (by rw [h.len]; exact hk)]; rfl
  · have hne : k ≠ (fsT x x.length).idxOf ((gsT x l).getD t 0) := fun e2 => by
      have h1 := (hl.mem _).1 (getD_inN (show t < (gsT x l).length by omega))
      have h2 := (idx_at h1).2
      rw [← e2, ← hg] at h2
      have h3 := idx_getD hl.nodup (show t < (gsT x l).length by omega)
      rw [← h2, idx_getD hl.nodup hr] at h3
      exact e h3.symm
    rw [if_neg hne, ← List.getD_eq_getElem?_getD]
    exact h.at_ t (by omega)
theorem NmA.done {x : List Int} {l : List Nat} (hl : AllP x l) {W : List Nat} {N : Nat} (h : NmA x l W N (gsT x l).length) : W = nmT x l ∧ N = ncT x l := by
  constructor
  · apply List.ext_getElem (by rw [h.len, nmT_len])
    intro i h1 h2
    have h3 : i < (fsT x x.length).length := by rw [← h.len]; exact h1
    have h4 := idx_at ((hl.mem _).2 (getD_inN h3))
    have h5 := h.at_ _ h4.1
    rw [h4.2, idx_getD (fs_nodup x) h3, ← nmT_get h3] at h5
    rw [List.getD_eq_getElem?_getD, List.getD_eq_getElem?_getD, List.getElem?_eq_getElem h1, List.getElem?_eq_getElem h2] at h5
    exact h5
  · rw [h.num]
    unfold ncT
    by_cases e : gsT x l = []
    · rw [e]; rfl
    · rw [if_neg (by rw [List.length_eq_zero_iff]; exact e), if_neg e]
/-- The piece ahead. -/
def ahV (x : List Int) (tb tq : Nat) (g : List Nat) (r : Nat) : Value := if r = 0 then .slice none 0 0 else pcS x tb tq (g.getD (r - 1) 0)
/-- Is this one that of the one ahead? -/
def ahB (x : List Int) (g : List Nat) (r : Nat) : Bool := decide (r ≠ 0 ∧ pceT x (g.getD r 0) = pceT x (g.getD (r - 1) 0))
theorem NmA.count {x : List Int} {l W : List Nat} {N r : Nat} (h : NmA x l W N r) : (ahB x (gsT x l) r = true → N = chg x (gsT x l) r + 1) ∧ (ahB x (gsT x l) r = false → N = chg x (gsT x l) r) := by
  have hn := h.num
  unfold ahB
  by_cases e : r = 0
  · subst e
    rw [if_pos rfl] at hn
    exact ⟨fun h => absurd rfl (of_decide_eq_true h).1, fun _ => by rw [hn]; rfl⟩
  · rw [if_neg e] at hn
    have h1 := chg_next x (gsT x l) (show 0 < r by omega)
    by_cases e2 : pceT x ((gsT x l).getD r 0) = pceT x ((gsT x l).getD (r - 1) 0)
    · rw [if_pos e2] at h1
      exact ⟨fun _ => by omega, fun h => absurd ⟨e, e2⟩ (of_decide_eq_false h)⟩
    · rw [if_neg e2] at h1
      exact ⟨fun h => absurd (of_decide_eq_true h).2 e2, fun _ => by omega⟩
/-- A piece's cells. -/
theorem pce_cells {x : List Int} (h : InT x) {tb tq : Nat} {y : World} (ht : ∀ i, i < x.length → y.cell? ⟨tb, tq + i, none⟩ = some (.int .i64 (x.getD i 0))) {a : Nat} (ha : a ∈ fsT x x.length) : Si (fun b => b = tb) y (some ⟨tb, tq + a, none⟩) (pceT x a) ∧ 0 < (pceT x a).length ∧ (pceT x a).length ≤ x.length := by
  obtain ⟨k, hk, rfl⟩ := mem_getD ha
  obtain ⟨L, h1, h2, h3, -, -, h6⟩ := pce_at h hk
  refine ⟨.inr ⟨tb, _, rfl, rfl, fun i hi => ?_⟩, by omega, by omega⟩
  rw [h6 i (by omega), Nat.add_assoc]
  exact ht _ (by omega)
end Go.Inc
namespace Go.Proofs.Ytdobjlaggdnphaa
open Go.RowKit Go.Inc
theorem eqAh_any {zs : List Int} (hI : InT zs) (hl : zs.length ≤ 65536) {tb tq : Nat} {y : World} (ht : ∀ i, i < zs.length → y.cell? ⟨tb, tq + i, none⟩ = some (.int .i64 (zs.getD i 0))) {g : List Nat} (hg : ∀ j ∈ g, j ∈ fsT zs zs.length) {r : Nat} (hr : r < g.length) :
    Calls Try.prog 36 #[pcS zs tb tq (g.getD r 0), ahV zs tb tq g r] y fun e w' => e = .returned (.bool (ahB zs g r)) ∧ Below y.heap.size y w' := by
  obtain ⟨h1, h2, h3⟩ := pce_cells hI ht (hg _ (getD_inN hr))
  unfold ahV ahB
  by_cases e : r = 0
  · rw [if_pos e]
    have h := equalI_any _ (fun _ => True) y (some ⟨tb, tq + g.getD r 0, none⟩) none (pceT zs (g.getD r 0)).length 0 (pceT zs (g.getD r 0)) [] h1 (Si.nil _ _ _) (by omega)
    refine Calls.mono h ?_
    rintro e' w' ⟨rfl, hb⟩
    refine ⟨ret_bool ?_, hb⟩
    rw [decide_eq_false (fun h => by rw [h] at h2; simp at h2), decide_eq_false (fun h => h.1 e)]
  · rw [if_neg e]
    obtain ⟨h4, h5, h6⟩ := pce_cells hI ht (hg _ (getD_inN (show r - 1 < g.length by omega)))
    have h := equalI_any _ _ y (some ⟨tb, tq + g.getD r 0, none⟩) (some ⟨tb, tq + g.getD (r - 1) 0, none⟩) (pceT zs (g.getD r 0)).length (pceT zs (g.getD (r - 1) 0)).length (pceT zs (g.getD r 0)) (pceT zs (g.getD (r - 1) 0)) h1 h4 (by omega)
    refine Calls.mono h ?_
    rintro e' w' ⟨rfl, hb⟩
    refine ⟨ret_bool ?_, hb⟩
    exact decide_eq_decide.2 ⟨fun h => ⟨e, h⟩, fun h => h.2⟩
set_option maxRecDepth 100000 in
set_option maxHeartbeats 4000000 in
theorem names_any (ok ok' ok'' : Nat → Prop) (w : World) (v vf vo : Value) (zs : List Int) (l : List Nat) (h : So ok w v zs) (hf : So ok' w vf (zsN (fsT zs zs.length))) (ho : So ok'' w vo (zsN l)) (hl : zs.length ≤ 65536) (hck : ckT zs = 0) (hal : AllP zs l) (hll : l.length = zs.length) (hlt : ∀ j ∈ l, j < zs.length) :
    Calls Try.prog 39 #[v, vf, vo] w fun e w' => ∃ u, e = .returned (.tuple #[u, .int .i64 ((ncT zs l : Nat) : Int)]) ∧ w'.ownsRow w.heap.size 3 1 u (fsT zs zs.length).length (nvals (nmT zs l)) ∧ Below w.heap.size w w' := by
  have hI := InT.of hck
  have HI := hid hI
  have HAL := hid hal
  have HL0 := hid hl
  have hml := fs_half (x := zs)
  have HZ := hid (NmA.zero zs l)
  obtain ⟨a, c, rfl, hs, hlc, hcm, -⟩ := h
  obtain ⟨fa, fc, rfl, hfs, -, -, -⟩ := hf
  obtain ⟨oa, oc, rfl, hos, -, -, -⟩ := ho
  rw [zsN_len, zsN_len]
  obtain ⟨tb, tq, rfl, htx⟩ : ∃ tb tq, a = some ⟨tb, tq, none⟩ ∧ ∀ i, i < zs.length → w.cell? ⟨tb, tq + i, none⟩ = some (.int .i64 (zs.getD i 0)) := by
    rcases hs with h | ⟨tb, tq, h, _, hc⟩
    · have := hI.right.1; rw [h] at this; simp at this
    · exact ⟨tb, tq, h, hc⟩
  have HTX : Hid (∀ y, Below w.heap.size w y → ∀ i, i < zs.length → y.cell? ⟨tb, tq + i, none⟩ = some (.int .i64 (zs.getD i 0))) := hid fun y hy i hi => (hy.cell (cell_lt (htx i hi))).trans (htx i hi)
  have HPI := hid (pieces_any ok' w tb tq c fc fa zs ⟨hlc, hcm⟩ hfs hl hck)
  have HOS := hid hos
  have HRI := hid (fun j hj hm => rn_in (x := zs) (l := l) (j := j) hj hm)
  have HRO := hid (fun j hj hm => rn_out (x := zs) (l := l) (j := j) hj hm)
  have HLT : Hid (∀ j, j < l.length → l.getD j 0 < 65536) := hid fun j hj => by have := hlt _ (getD_inN hj); omega
  obtain ⟨F, hF⟩ : ∃ F, F = fsT zs zs.length := ⟨_, rfl⟩
  have HF := hid hF
  obtain ⟨m, hm⟩ : ∃ m, m = F.length := ⟨_, rfl⟩
  have HM := hid hm
  obtain ⟨L, hL⟩ : ∃ L, L = l.length := ⟨_, rfl⟩
  have HL := hid hL
  rw [← hF, ← hm] at HPI HZ hml
  rw [← hF] at HRI HRO
  rw [← hL] at HRI HRO HLT hll
  rw [← hF, ← hm, ← hL]
  have hmb : (m : Int) ≤ 65536 := by omega
  have hLb : (L : Int) ≤ 65536 := by omega
  obtain ⟨n, hn⟩ : ∃ n, n = zs.length := ⟨_, rfl⟩
  rw [← hn] at HPI ⊢
  obtain ⟨i0, hi, hz0, hz1, hz2⟩ := info_parts infoIntS
  have HINF := hid (And.intro hi (And.intro hz0 (And.intro hz1 hz2)))
  clear hs hfs hos hck hI hal hll hlt htx hlc hcm hF hm hL hn hml hl hi hz0 hz1 hz2
  go_enter Try.func39, Try.ntmps39
  go_wp2_with fail
  refine HPI.out.mono ?_
  clear HPI
  rintro e w1 ⟨M, rfl, hMl, hmp, hb1⟩
  have HB1 := hid hb1
  have HMP := hid hmp
  have HX : Hid (∀ y, Below w1.heap.size w1 y → Below w.heap.size w y) := hid fun y hy => hb1.trans (hy.mono hb1.size)
  clear hb1 hmp hMl
  go_wp2_with (refine wpList_make_full _ rfl _ _ 22 rfl w1.heap.size 3 i0 (.int .i64 0) 1 Try.underlying22 HINF.out.1 HINF.out.2.1 HINF.out.2.2.1 .i64 .i64 _ _ m rfl rfl rfl rfl (by rw [HINF.out.2.2.2]; omega) (by unfold maxLen; omega) (Nat.le_refl _) ?_)
  intro w2 ho2 hg2
  rw [names_zero] at ho2
  obtain ⟨g1, hg1⟩ : ∃ g1, g1 = w1.heap.size := ⟨_, rfl⟩
  have HG1 := hid hg1
  rw [← hg1] at ho2 HX ⊢
  have hbw : Below g1 w1 w2 := ⟨hg2.os, hg2.tape, hg2.output, hg2.size, fun i hi => hg2.block i (by rw [← hg1]; exact hi) (by simp)⟩
  have HO2 := hid ho2
  have HB2 := hid hbw
  have HMB : Hid (∀ y, Below g1 w1 y → Mp Try.prog 3 y M 65536 (pcM zs tb tq m)) := hid fun y hy => HMP.out.below (by rw [← HG1.out]; exact hy)
  clear ho2 hg2 hbw hg1 HMP
  go_wp2_with fail
  go_loopw [10, 11, 24] (fun nn aa jj wr => ∃ (j N : Nat) (W : List Nat), j ≤ L ∧ jj = .int .i64 (j : Int) ∧ nn = .int .i64 (N : Int) ∧ aa = ahV zs tb tq (gsT zs l) (rnT zs l j) ∧ NmA zs l W N (rnT zs l j) ∧ wr.ownsRow g1 3 1 (.slice (some ⟨g1, 0, none⟩) m m) m (nvals W) ∧ Below g1 w1 wr) (fun _ _ jj _ => L - (intOf jj).toNat)
  case atStart => exact ⟨0, 0, _, Nat.zero_le _, rfl, rfl, rfl, HZ.out, HO2.out, HB2.out⟩
  case round =>
    clear HZ HO2 HB2
    obtain ⟨j, N, W, hj, rfl, rfl, rfl, hni, ho, hb⟩ := hrel
    have HNI := hid hni
    have HO := hid ho
    have HB := hid hb
    clear hni ho hb
    by_cases hlt : j < L
    · have hji : (j < L) = True := eq_true hlt
      have HLT2 := hid hlt
      have hjb : (j : Int) < (L : Int) := by omega
      obtain ⟨b1, o1, rfl, h1⟩ := siCell (HOS.out.below (HX.out wr HB.out)) (k := j) (by rw [zsN_len, ← HL.out]; exact hlt)
      rw [zsN_get] at h1
      have hvb := HLT.out j hlt
      have HMPR := hid (HMB.out wr HB.out)
      obtain ⟨v, hv⟩ : ∃ v, v = l.getD j 0 := ⟨_, rfl⟩
      have HV := hid hv
      rw [← hv] at h1 hvb
      have HVB : Hid (-9223372036854775808 ≤ (v : Int) ∧ (v : Int) ≤ 9223372036854775807) := hid (by omega)
      by_cases hvF : v ∈ F
      · obtain ⟨hr1, hr2, hr3⟩ := HRI.out j hlt (by rw [← hv]; exact hvF)
        obtain ⟨k, hkk⟩ : ∃ k, k = F.idxOf v := ⟨_, rfl⟩
        have hk1 := idx_at hvF
        rw [← hkk, ← HM.out] at hk1
        have hpc := pcM_at (x := zs) (tb := tb) (tq := tq) (k := m) (j := k) (by rw [← HF.out, ← HM.out]; exact Nat.le_refl _) hk1.1
        rw [← HF.out, hk1.2] at hpc
        obtain ⟨r, hrr⟩ : ∃ r, r = rnT zs l j := ⟨_, rfl⟩
        have HRR := hid hrr
        rw [← hrr] at HNI hr1 hr2 hr3
        rw [← hrr]
        rw [← hv] at hr2
        have HR1 := hid hr1
        have HEQ : Hid (∀ y, Below g1 w1 y → Calls Try.prog 36 #[pcS zs tb tq v, ahV zs tb tq (gsT zs l) r] y fun e w' => e = .returned (.bool (ahB zs (gsT zs l) r)) ∧ Below y.heap.size y w') := hid fun y hy => by
          have h := eqAh_any HI.out HL0.out (HTX.out y (HX.out y hy)) (g := gsT zs l) (fun j hj => (HAL.out.mem j).1 hj) hr3
          rw [hr2] at h
          exact h
        have hcnt := HNI.out.count
        have hstep := HNI.out.step HAL.out (k := k) (by rw [← HF.out, ← HM.out]; exact hk1.1) hr3 (by rw [hr2, ← HF.out, hk1.2])
        have hah : ahV zs tb tq (gsT zs l) (r + 1) = pcS zs tb tq v := by unfold ahV; rw [if_neg (by omega), Nat.add_sub_cancel, hr2]
        obtain ⟨q, hq⟩ : ∃ q, q = chg zs (gsT zs l) r := ⟨_, rfl⟩
        rw [← hq] at hcnt hstep
        have HSTEP := hid hstep
        have HAH := hid hah
        have hqb : q ≤ r := by rw [hq]; exact chg_le _ _ _
        have hrb : r < 65536 := by
          have h2 : (gsT zs l).length ≤ L := by rw [HL.out]; exact List.length_filter_le _ _
          omega
        have hlen := HNI.out.len
        rw [← HF.out, ← HM.out] at hlen
        have HLEN := hid hlen
        obtain ⟨bq, hbq⟩ : ∃ bq, bq = ahB zs (gsT zs l) r := ⟨_, rfl⟩
        rw [← hbq] at HEQ hcnt
        obtain ⟨S, hS⟩ : ∃ S, S = pcS zs tb tq v := ⟨_, rfl⟩
        rw [← hS] at HEQ HAH hpc
        have hSl : ∃ aS nS cS, S = .slice aS nS cS := by rw [hS]; exact ⟨_, _, _, rfl⟩
        obtain ⟨aS, nS, cS, rfl⟩ := hSl
        obtain ⟨V, hVV⟩ : ∃ V, V = ahV zs tb tq (gsT zs l) r := ⟨_, rfl⟩
        rw [← hVV] at HEQ ⊢
        obtain ⟨w3, hw3⟩ : ∃ w3, w3 = wr.alloc (.cells #[.int .i64 (k : Int), .slice aS nS cS] 71) := ⟨_, rfl⟩
        obtain ⟨pb, hpb⟩ : ∃ pb, pb = wr.heap.size := ⟨_, rfl⟩
        have hb3 : Below wr.heap.size wr w3 := by rw [hw3]; exact allocBelow _ _
        have p0 : w3.cell? ⟨pb, 0, none⟩ = some (.int .i64 (k : Int)) := by rw [hw3, hpb, cell_of_row _ _ _ _ _ _ (heap_alloc_new wr _)]; rfl
        have p1 : w3.cell? ⟨pb, 1, none⟩ = some (.slice aS nS cS) := by rw [hw3, hpb, cell_of_row _ _ _ _ _ _ (heap_alloc_new wr _)]; rfl
        have HB3 : Hid (Below g1 w1 w3) := hid (HB.out.trans (hb3.mono (rowSlot HO.out |> Nat.le_of_lt)))
        have HO3 := hid (own_below16 HO.out hb3)
        have HE3 := hid (HEQ.out w3 HB3.out)
        have HW3 := hid hw3
        have HPB := hid hpb
        have HPG : Hid (g1 < pb) := hid (by rw [hpb]; exact rowSlot HO.out)
        have HLK : Hid (Value.agg #[.int .i64 (k : Int), .slice aS nS cS] = (pcM zs tb tq m (v : Int)).getD (.agg #[.int .i64 0, .slice none 0 0]) ∧ true = (pcM zs tb tq m (v : Int)).isSome) := hid (by rw [hpc]; exact ⟨rfl, rfl⟩)
        have hkb : (k : Int) < (m : Int) := by omega
        have hkN : (k < m) = True := eq_true hk1.1
        have HKM := hid hk1.1
        clear hlt hv hvF hr1 hr2 hr3 hkk hk1 hpc hrr hstep hah hq hlen hbq hS hVV hw3 hpb hb3 HNI HB HO HEQ
        go_wp2_with (at_lookup; refine wpList_look2 _ rfl _ _ 68 rfl 3 71 Try.underlying3 Try.underlying68 (.agg #[.int .i64 0, .slice none 0 0]) (by kernel_rfl) M 65536 _ rfl HMPR.out (v : Int) rfl HVB.out _ true HLK.out.1 HLK.out.2 ?_)
        rw [← HW3.out, ← HPB.out]
        clear HMPR
        go_wp2_with fail
        refine HE3.out.mono ?_
        clear HE3
        rintro e w4 ⟨rfl, hb4⟩
        have p0' := (hb4.cell (cell_lt p0)).trans p0
        have p1' := (hb4.cell (cell_lt p1)).trans p1
        have HB4 : Hid (Below g1 w1 w4) := hid (HB3.out.trans (hb4.mono (Nat.le_of_lt (rowSlot HO3.out))))
        have HO4 := hid (own_below16 HO3.out hb4)
        have hcell : w4.cell? ⟨g1, k, none⟩ = some (.int .i64 ((W.getD k 0 : Nat) : Int)) := by
          have h := HO4.out.cells (g := g1) rfl k _ (nvals_get (by rw [HLEN.out]; exact HKM.out))
          rw [Addr.add_lit] at h
          simpa using h
        have hfr := HO4.out.frozenAt k
        have hst := HO4.out.stored k (.int .i64 (q : Int))
        rw [nvals_set16] at hst
        have p2 : (w4.setCell ⟨g1, k, none⟩ (.int .i64 (q : Int))).cell? ⟨pb, 1, none⟩ = some (.slice aS nS cS) := (mvSet (F := fun b => b = g1) (Mv.refl _ w4) (g := g1) (q := k) rfl (.int .i64 (q : Int))).cell p1' (by have := HPG.out; simp only; omega)
        have HST := hid hst.1
        have HBT := hid (HB4.out.setCell (p := ⟨g1, k, none⟩) (Nat.le_refl _) (.int .i64 (q : Int)))
        generalize ((W.getD k 0 : Nat) : Int) = old at *
        have hqi : (q : Int) ≤ 65536 := by omega
        clear p0 p1 hb4 hst HB3 HO3 HB4 HO4 HLK
        cases bq with
        | true =>
          have hN := hcnt.1 rfl
          subst hN
          have hN1 : ((q + 1 : Nat) : Int) - 1 = (q : Int) := by omega
          obtain ⟨N', hN'⟩ : ∃ N', N' = q + 1 := ⟨_, rfl⟩
          have hN2 : (N' : Int) - 1 = (q : Int) := by omega
          have HNN := hid hN'
          have hNb : (N' : Int) ≤ 65537 := by omega
          rw [← hN'] at hN1 ⊢
          clear hcnt hN'
          go_wp2_with fail
          go_roundw
          case rel => exact ⟨j + 1, q + 1, W.set k q, HLT2.out, by go_num, by rw [HNN.out], by rw [HR1.out, HAH.out], by rw [HR1.out]; exact HSTEP.out, HST.out, HBT.out⟩
          case measure => simp [intOf]; have := HLT2.out; omega
        | false =>
          have hN := hcnt.2 rfl
          subst hN
          have hN2 : (N : Int) + 1 - 1 = (N : Int) := by omega
          clear hcnt
          go_wp2_with fail
          go_roundw
          case rel => exact ⟨j + 1, N + 1, W.set k N, HLT2.out, by go_num, by go_num, by rw [HR1.out, HAH.out], by rw [HR1.out]; exact HSTEP.out, HST.out, HBT.out⟩
          case measure => simp [intOf]; have := HLT2.out; omega
      · have hr1 := HRO.out j hlt (by rw [← hv]; exact hvF)
        have HR1 := hid hr1
        have hpc := pcM_none (x := zs) (tb := tb) (tq := tq) (z := v) (by rw [← HF.out]; exact hvF) (k := m) (by rw [← HF.out, ← HM.out]; exact Nat.le_refl _)
        have HLK : Hid (Value.agg #[.int .i64 0, .slice none 0 0] = (pcM zs tb tq m (v : Int)).getD (.agg #[.int .i64 0, .slice none 0 0]) ∧ false = (pcM zs tb tq m (v : Int)).isSome) := hid (by rw [hpc]; exact ⟨rfl, rfl⟩)
        have hb3 : Below wr.heap.size wr (wr.alloc (.cells #[.int .i64 0, .slice none 0 0] 71)) := allocBelow _ _
        have HB3 := hid (HB.out.trans (hb3.mono (Nat.le_of_lt (rowSlot HO.out))))
        have HO3 := hid (own_below16 HO.out hb3)
        rw [← hr1] at HNI ⊢
        clear hlt hv hvF hr1 hpc hb3 HB HO
        obtain ⟨V, hVV⟩ : ∃ V, V = ahV zs tb tq (gsT zs l) (rnT zs l (j + 1)) := ⟨_, rfl⟩
        rw [← hVV]
        have HVV := hid hVV
        clear hVV
        go_wp2_with (at_lookup; refine wpList_look2 _ rfl _ _ 68 rfl 3 71 Try.underlying3 Try.underlying68 (.agg #[.int .i64 0, .slice none 0 0]) (by kernel_rfl) M 65536 _ rfl HMPR.out (v : Int) rfl HVB.out _ false HLK.out.1 HLK.out.2 ?_)
        clear HMPR
        go_wp2_with fail
        go_roundw
        case rel => exact ⟨j + 1, N, W, HLT2.out, by go_num, rfl, HVV.out, HNI.out, HO3.out, HB3.out⟩
        case measure => simp [intOf]; have := HLT2.out; omega
    · have hti : (j < L) = False := eq_false hlt
      obtain rfl : j = L := by omega
      have hni := HNI.out
      rw [HL.out, rn_all] at hni
      have hd := hni.done HAL.out
      have ho := HO.out
      rw [hd.1] at ho
      have HR : Hid (wr.ownsRow w.heap.size 3 1 (.slice (some ⟨g1, 0, none⟩) m m) m (nvals (nmT zs l))) := hid (own_weaken ho (by rw [HG1.out]; exact HB1.out.size))
      have HNC := hid hd.2
      clear hlt hni hd ho
      go_wp2_with fail
      go_ret2
      exact ⟨_, by rw [HNC.out]; rfl, HR.out, HX.out wr HB.out⟩
set_option maxRecDepth 20000 in
set_option maxHeartbeats 2000000 in
theorem ivNames (ok ok' : Nat → Prop) (w : World) (v v' : Value) (zs : List Int) (l : List Nat) (h : So ok w v zs) (h' : So ok' w v' (zsN l)) (hl : zs.length ≤ 65536) (hk : ckT zs = 0) (ho : okT (zsN l)) (hll : l.length = zs.length) :
    Calls Try.prog 19 #[v, v'] w fun e w' => ∃ u, e = .returned (.tuple #[u, .int .i64 ((ncT zs l : Nat) : Int), .int .i64 0]) ∧ So (fun g => w.heap.size ≤ g) w' u (zsN (nmT zs l)) ∧ Below w.heap.size w w' := by
  have HF := hid (suFirsts ok w v zs h hl hk)
  have HAL : Hid (∀ y, Below w.heap.size w y → Calls Try.prog 38 #[v', .int .i64 (zs.length : Int)] y fun e w' => e = .returned (.bool true) ∧ Below y.heap.size y w') := hid fun y hy => by
    refine (isAll_any ok' y v' (zsN l) zs.length (h'.below hy) (by rw [zsN_len]; omega)).mono ?_
    rintro e w' ⟨⟨r, rfl, hr⟩, hb⟩
    exact ⟨by rw [hr.2 ⟨ho, by rw [zsN_len]; exact hll⟩], hb⟩
  have hlt : ∀ j ∈ l, j < zs.length := fun j hj => by
    have h1 := okT_in ho (z := (j : Int)) (mem_zsN.2 hj)
    rw [zsN_len, hll] at h1
    omega
  have HNM : Hid (∀ y vf ok2, Below w.heap.size w y → So ok2 y vf (zsN (fsT zs zs.length)) → Calls Try.prog 39 #[v, vf, v'] y fun e w' => ∃ u, e = .returned (.tuple #[u, .int .i64 ((ncT zs l : Nat) : Int)]) ∧ w'.ownsRow y.heap.size 3 1 u (fsT zs zs.length).length (nvals (nmT zs l)) ∧ Below y.heap.size y w') := hid fun y vf ok2 hy hvf =>
    names_any ok ok2 ok' y v vf v' zs l (h.below hy) hvf (h'.below hy) hl hk (allP_ok ho hll) hll hlt
  obtain ⟨a, c, rfl, -, -, -, -⟩ := h
  obtain ⟨a', c', rfl, -, -, -, -⟩ := h'
  obtain ⟨R, hR⟩ : ∃ R, R = nmT zs l := ⟨_, rfl⟩
  obtain ⟨C, hC⟩ : ∃ C, C = ncT zs l := ⟨_, rfl⟩
  rw [← hR, ← hC] at HNM ⊢
  generalize fsT zs zs.length = F at *
  generalize zs.length = n at *
  generalize (zsN l).length = n' at *
  clear hl hk ho hll hlt hR hC
  go_enter Try.func19, Try.ntmps19
  go_wp2_with fail
  refine HF.out.mono ?_
  clear HF
  rintro e w1 ⟨u, rfl, hu, hb⟩
  have HB1 := hid hb
  have HU := hid hu
  obtain ⟨fa, fc, rfl, -, -, -, -⟩ := hu
  have HA := hid (HAL.out w1 hb)
  obtain ⟨m, hm⟩ : ∃ m, m = (zsN F).length := ⟨_, rfl⟩
  rw [← hm] at HU ⊢
  clear HAL hb hm
  go_wp2_with fail
  refine HA.out.mono ?_
  clear HA
  rintro e w2 ⟨rfl, hb⟩
  have HB2 : Hid (Below w.heap.size w w2) := hid (HB1.out.trans (hb.mono HB1.out.size))
  have HN2 := hid (HNM.out w2 _ _ HB2.out (HU.out.below hb))
  clear hb HB1 HNM HU
  go_wp2_with fail
  refine HN2.out.mono ?_
  clear HN2
  rintro e w3 ⟨u3, rfl, hr, hb⟩
  have HB3 : Hid (Below w.heap.size w w3) := hid (HB2.out.trans (hb.mono HB2.out.size))
  have HR := hid ((So.ownedN hr).mono (ok' := fun g => w.heap.size ≤ g) fun b hb _ => Nat.le_trans HB2.out.size hb)
  clear hr hb
  go_wp2_with fail
  go_ret3
  exact ⟨_, rfl, HR.out, HB3.out⟩
set_option maxRecDepth 20000 in
set_option maxHeartbeats 1000000 in
theorem ivNamesF (ok ok' : Nat → Prop) (w : World) (v v' : Value) (zs ls : List Int) (h : So ok w v zs) (h' : So ok' w v' ls) (hl : zs.length ≤ 65536) (hk : ckT zs = 0) (hl' : ls.length ≤ 65536) (hno : ¬ (okT ls ∧ ls.length = zs.length)) :
    Calls Try.prog 19 #[v, v'] w fun e w' => ∃ u m, e = .returned (.tuple #[u, m, .int .i64 3]) ∧ Below w.heap.size w w' := by
  have HF := hid (suFirsts ok w v zs h hl hk)
  have HAL : Hid (∀ y, Below w.heap.size w y → Calls Try.prog 38 #[v', .int .i64 (zs.length : Int)] y fun e w' => e = .returned (.bool false) ∧ Below y.heap.size y w') := hid fun y hy => by
    refine (isAll_any ok' y v' ls zs.length (h'.below hy) hl').mono ?_
    rintro e w' ⟨⟨r, rfl, hr⟩, hb⟩
    refine ⟨?_, hb⟩
    cases r with
    | false => rfl
    | true => exact absurd (hr.1 rfl) hno
  obtain ⟨a, c, rfl, -, -, -, -⟩ := h
  obtain ⟨a', c', rfl, -, -, -, -⟩ := h'
  generalize fsT zs zs.length = F at *
  generalize zs.length = n at *
  generalize ls.length = n' at *
  clear hl hk hl' hno
  go_enter Try.func19, Try.ntmps19
  go_wp2_with fail
  refine HF.out.mono ?_
  clear HF
  rintro e w1 ⟨u, rfl, hu, hb⟩
  obtain ⟨fa, fc, rfl, -, -, -, -⟩ := hu
  have HB1 := hid hb
  have HA := hid (HAL.out w1 hb)
  generalize (zsN F).length = m at *
  clear HAL hb
  go_wp2_with fail
  refine HA.out.mono ?_
  clear HA
  rintro e w2 ⟨rfl, hb⟩
  have HB2 : Hid (Below w.heap.size w w2) := hid (HB1.out.trans (hb.mono HB1.out.size))
  clear hb HB1
  go_wp2_with fail
  go_ret3
  exact ⟨_, _, rfl, HB2.out⟩
theorem ivNamesE (ok : Nat → Prop) (w : World) (v v' : Value) (zs : List Int) (h : So ok w v zs) (hl : zs.length ≤ 65536) (hz : ∀ z ∈ zs, i64s z) (hk : ckT zs ≠ 0) :
    Calls Try.prog 19 #[v, v'] w fun e w' => ∃ u m, e = .returned (.tuple #[u, m, .int .i64 ((ckT zs : Nat) : Int)]) ∧ Below w.heap.size w w' := by
  have HC := hid (suFirstsE ok w v zs h hl hz hk)
  obtain ⟨k, hkk⟩ : ∃ k, k = ckT zs := ⟨_, rfl⟩
  rw [← hkk] at HC hk ⊢
  have hk0 : ((k : Int) != 0) = true := by rw [bne_iff_ne]; omega
  clear h hl hz hk hkk
  go_enter Try.func19, Try.ntmps19
  go_wp2_with fail
  refine HC.out.mono ?_
  rintro e w' ⟨u, rfl, hb⟩
  have HB := hid hb
  clear hb HC
  go_wp2_with fail
  go_ret3
  exact ⟨_, _, rfl, HB.out⟩
set_option maxRecDepth 20000 in
set_option maxHeartbeats 2000000 in
theorem ivReduced (ok : Nat → Prop) (w : World) (v : Value) (zs : List Int) (h : So ok w v zs) (hl : zs.length ≤ 65536) (hk : ckT zs = 0) :
    Calls Try.prog 23 #[v] w fun e w' => ∃ u, e = .returned (.tuple #[u, .int .i64 0]) ∧ So (fun g => w.heap.size ≤ g) w' u (rdT zs) ∧ Below w.heap.size w w' := by
  have hI := InT.of hk
  have HF := hid (suFirsts ok w v zs h hl hk)
  have hby := ind_byP hI (isFs_own zs)
  have HIN : Hid (∀ y vf ok2, Below w.heap.size w y → So ok2 y vf (zsN (fsT zs zs.length)) → Calls Try.prog 37 #[v, vf] y fun e w' => ∃ u, e = .returned u ∧ w'.ownsRow y.heap.size 3 1 u zs.length (nvals (indT zs (fsT zs zs.length))) ∧ Below y.heap.size y w') := hid fun y vf ok2 hy hvf =>
    induced_any ok ok2 y v vf zs _ (h.below hy) hvf hl hk (isFs_own zs)
  have HNM : Hid (∀ y vf vo ok2 ok3, Below w.heap.size w y → So ok2 y vf (zsN (fsT zs zs.length)) → So ok3 y vo (zsN (indT zs (fsT zs zs.length))) → Calls Try.prog 39 #[v, vf, vo] y fun e w' => ∃ u, e = .returned (.tuple #[u, .int .i64 ((ncT zs (indT zs (fsT zs zs.length)) : Nat) : Int)]) ∧ w'.ownsRow y.heap.size 3 1 u (fsT zs zs.length).length (nvals (nmT zs (indT zs (fsT zs zs.length)))) ∧ Below y.heap.size y w') := hid fun y vf vo ok2 ok3 hy hvf hvo =>
    names_any ok ok2 ok3 y v vf vo zs _ (h.below hy) hvf hvo hl hk hby.1.allP hby.2 (fun j hj => (hby.1.all j).1 hj)
  obtain ⟨a, c, rfl, -, -, -, -⟩ := h
  have HRD : Hid (rdT zs = zsN (nmT zs (indT zs (fsT zs zs.length)))) := hid rfl
  obtain ⟨R, hR⟩ : ∃ R, R = nmT zs (indT zs (fsT zs zs.length)) := ⟨_, rfl⟩
  obtain ⟨C, hC⟩ : ∃ C, C = ncT zs (indT zs (fsT zs zs.length)) := ⟨_, rfl⟩
  rw [← hR, ← hC] at HNM
  rw [← hR] at HRD
  obtain ⟨F, hF⟩ : ∃ F, F = fsT zs zs.length := ⟨_, rfl⟩
  rw [← hF] at HF HIN HNM
  generalize zs.length = n at *
  clear hl hk hI hby hR hC hF
  go_enter Try.func23, Try.ntmps23
  go_wp2_with fail
  refine HF.out.mono ?_
  clear HF
  rintro e w1 ⟨u, rfl, hu, hb⟩
  have HB1 := hid hb
  have HU := hid hu
  have HI1 := hid (HIN.out w1 u _ hb hu)
  obtain ⟨fa, fc, rfl, -, -, -, -⟩ := hu
  obtain ⟨m, hm⟩ : ∃ m, m = (zsN F).length := ⟨_, rfl⟩
  rw [← hm] at HU HI1 ⊢
  clear HIN hb hm
  go_wp2_with fail
  refine HI1.out.mono ?_
  clear HI1
  rintro e w2 ⟨u2, rfl, hr2, hb⟩
  have HB2 : Hid (Below w.heap.size w w2) := hid (HB1.out.trans (hb.mono HB1.out.size))
  have HN2 := hid (HNM.out w2 _ u2 _ _ HB2.out (HU.out.below hb) (So.ownedN hr2))
  clear hb HB1 HNM HU hr2
  go_wp2_with fail
  refine HN2.out.mono ?_
  clear HN2
  rintro e w3 ⟨u3, rfl, hr, hb⟩
  have HB3 : Hid (Below w.heap.size w w3) := hid (HB2.out.trans (hb.mono HB2.out.size))
  have HR : Hid (So (fun g => w.heap.size ≤ g) w3 u3 (rdT zs)) := hid (by rw [HRD.out]; exact (So.ownedN hr).mono (ok' := fun g => w.heap.size ≤ g) fun b hb _ => Nat.le_trans HB2.out.size hb)
  clear hr hb
  go_wp2_with fail
  go_ret2
  exact ⟨_, rfl, HR.out, HB3.out⟩
theorem ivReducedE (ok : Nat → Prop) (w : World) (v : Value) (zs : List Int) (h : So ok w v zs) (hl : zs.length ≤ 65536) (hz : ∀ z ∈ zs, i64s z) (hk : ckT zs ≠ 0) :
    Calls Try.prog 23 #[v] w fun e w' => ∃ u, e = .returned (.tuple #[u, .int .i64 ((ckT zs : Nat) : Int)]) ∧ Below w.heap.size w w' := by
  have HC := hid (suFirstsE ok w v zs h hl hz hk)
  obtain ⟨k, hkk⟩ : ∃ k, k = ckT zs := ⟨_, rfl⟩
  rw [← hkk] at HC hk ⊢
  have hk0 : ((k : Int) != 0) = true := by rw [bne_iff_ne]; omega
  clear h hl hz hk hkk
  go_enter Try.func23, Try.ntmps23
  go_wp2_with fail
  refine HC.out.mono ?_
  rintro e w' ⟨u, rfl, hb⟩
  have HB := hid hb
  clear hb HC
  go_wp2_with fail
  go_ret2
  exact ⟨_, rfl, HB.out⟩
end Go.Proofs.Ytdobjlaggdnphaa
namespace Go.Proofs.Ytdobjlaggdnphaa
open Go.RowKit Go.Inc
theorem ps : PI16 where
  pHeads ok w v zs h hl hk := ivHeads ok w v zs h hl hk
  pHeadsE ok w v zs h hl hz hk := ivHeadsE ok w v zs h hl hz hk
  pTails ok w v zs h hl hk := ivTails ok w v zs h hl hk
  pTailsE ok w v zs h hl hz hk := ivTailsE ok w v zs h hl hz hk
  pInduce ok ok' w v v' zs fs h h' hl hk hf := by
    have hfl := fs_half (x := zs)
    have hp : fs.Perm (fsT zs zs.length) := (List.perm_ext_iff_of_nodup hf.1 (isFs_own zs).1).2 hf.2
    refine (ivInduce_any ok ok' w v v' zs (zsN fs) h h' hl hk (by rw [zsN_len, hp.length_eq]; omega)).mono ?_
    rintro e w' ⟨h1, -, hb⟩
    obtain ⟨u, rfl, hu⟩ := h1 fs rfl hf
    exact ⟨u, rfl, hu, hb⟩
  pInduceF ok ok' w v v' zs ls h h' hl hk hl' _ hno := by
    refine (ivInduce_any ok ok' w v v' zs ls h h' hl hk hl').mono ?_
    rintro e w' ⟨-, h1, hb⟩
    obtain ⟨u, rfl⟩ := h1 hno
    exact ⟨u, rfl, hb⟩
  pInduceE ok ok' w v v' zs ls h h' hl hz hk _ _ := by
    obtain ⟨a', c', rfl, -⟩ := h'
    exact ivInduceE ok w v _ zs h hl hz hk
  pNames ok ok' w v v' zs l h h' hl hk ho hll := ivNames ok ok' w v v' zs l h h' hl hk ho hll
  pNamesF ok ok' w v v' zs ls h h' hl hk hl' _ hno := ivNamesF ok ok' w v v' zs ls h h' hl hk hl' hno
  pNamesE ok ok' w v v' zs ls h h' hl hz hk _ _ := ivNamesE ok w v v' zs h hl hz hk
  pReduced ok w v zs h hl hk := ivReduced ok w v zs h hl hk
  pReducedE ok w v zs h hl hz hk := ivReducedE ok w v zs h hl hz hk
  pBack ok ok' w v v' zs l h h' hl hk ho hll := ivBack ok ok' w v v' zs l h h' hl hk ho hll
  pBackF ok ok' w v v' zs ls h h' hl hk hl' _ hno := ivBackF ok ok' w v v' zs ls h h' hl hk hl' hno
  pBackE ok ok' w v v' zs ls h h' hl hz hk _ _ := ivBackE ok w v v' zs h hl hz hk
end Go.Proofs.Ytdobjlaggdnphaa
