/- CONTRACTS (layer 16): the document's Names. -/
import Derived.Test.YtdobjlaggdnphaaInJ
namespace Go.Inc
open Go.RowKit
/-- How many first Ss are among the first j. -/
def rnT (x : List Int) (l : List Nat) (j : Nat) : Nat := (gsT x (l.take j)).length
theorem rn_in {x : List Int} {l : List Nat} {j : Nat} (hj : j < l.length) (h : l.getD j 0 ∈ fsT x x.length) : rnT x l (j + 1) = rnT x l j + 1 ∧ (gsT x l).getD (rnT x l j) 0 = l.getD j 0 ∧ rnT x l j < (gsT x l).length := by
  have e : l.take (j + 1) = l.take j ++ [l.getD j 0] := by
    rw [List.take_succ_eq_append_getElem hj, List.getD_eq_getElem?_getD, List.getElem?_eq_getElem hj]; rfl
  have e2 : gsT x (l.take (j + 1)) = gsT x (l.take j) ++ [l.getD j 0] := by
    unfold gsT
    rw [e, List.filter_append, List.filter_cons_of_pos (by simpa using h)]; rfl
  have e3 : gsT x l = (gsT x (l.take j) ++ [l.getD j 0]) ++ gsT x (l.drop (j + 1)) := by
    rw [← e2]
    unfold gsT
    rw [← List.filter_append, List.take_append_drop]
  refine ⟨by unfold rnT; rw [e2, List.length_append]; rfl, ?_, ?_⟩
  · rw [e3, List.append_assoc]
    unfold rnT
    rw [List.getD_eq_getElem?_getD, List.getElem?_append_right (Nat.le_refl _), Nat.sub_self]; rfl
  · rw [e3, List.length_append, List.length_append]
    unfold rnT
    simp; omega
theorem rn_out {x : List Int} {l : List Nat} {j : Nat} (hj : j < l.length) (h : ¬ l.getD j 0 ∈ fsT x x.length) : rnT x l (j + 1) = rnT x l j := by
  have e : l.take (j + 1) = l.take j ++ [l.getD j 0] := by
    rw [List.take_succ_eq_append_getElem hj, List.getD_eq_getElem?_getD, List.getElem?_eq_getElem hj]; rfl
  unfold rnT gsT
  rw [e, List.filter_append, List.filter_cons_of_neg (by simpa using h)]
  simp
theorem rn_all (x : List Int) (l : List Nat) : rnT x l l.length = (gsT x l).length := by unfold rnT; rw [List.take_length]
/-- What stands behind r named first Ss. -/
structure NmI (x : List Int) (l : List Nat) (W : List Nat) (N : Nat) (ah : Int) (r : Nat) : Prop where
  len : W.length = (fsT x x.length).length
  at_ : ∀ t, t < r → W.getD ((fsT x x.length).idxOf ((gsT x l).getD t 0)) 0 = chg x (gsT x l) t
  num : N = if r = 0 then 0 else chg x (gsT x l) (r - 1) + 1
  ahead : ah = if r = 0 then -1 else (((fsT x x.length).idxOf ((gsT x l).getD (r - 1) 0) : Nat) : Int)
theorem NmI.zero (x : List Int) (l : List Nat) : NmI x l (List.replicate (fsT x x.length).length 0) 0 (-1) 0 :=
  ⟨List.length_replicate, fun t h => absurd h (by omega), rfl, rfl⟩
theorem fs_nodup (x : List Int) : (fsT x x.length).Nodup := (isFs_own x).1
theorem NmI.step {x : List Int} {l : List Nat} (hl : ByP x l) {W : List Nat} {N : Nat} {ah : Int} {r k : Nat} (h : NmI x l W N ah r) (hk : k < (fsT x x.length).length) (hr : r < (gsT x l).length) (hg : (gsT x l).getD r 0 = (fsT x x.length).getD k 0) :
    NmI x l (W.set k (chg x (gsT x l) r)) (chg x (gsT x l) r + 1) (k : Int) (r + 1) := by
  have hi : (fsT x x.length).idxOf ((gsT x l).getD r 0) = k := by rw [hg]; exact idx_getD (fs_nodup x) hk
  refine ⟨by rw [List.length_set]; exact h.len, fun t ht => ?_, by rw [if_neg (by omega), Nat.add_sub_cancel], by rw [if_neg (by omega), Nat.add_sub_cancel, hi]⟩
  rw [List.getD_eq_getElem?_getD, List.getElem?_set]
  by_cases e : t = r
  · subst e
    rw [hi, if_pos rfl, if_pos (by rw [h.len]; exact hk)]; rfl
  · have hne : k ≠ (fsT x x.length).idxOf ((gsT x l).getD t 0) := fun e2 => by
      have h1 := (gs_mem hl).1 (getD_inN (show t < (gsT x l).length by omega))
      have h2 := (idx_at h1).2
      rw [← e2, ← hg] at h2
      have h3 := idx_getD (gs_nodup hl) (show t < (gsT x l).length by omega)
      rw [← h2, idx_getD (gs_nodup hl) hr] at h3
      exact e h3.symm
    rw [if_neg hne, ← List.getD_eq_getElem?_getD]
    exact h.at_ t (by omega)
theorem NmI.done {x : List Int} {l : List Nat} (hl : ByP x l) {W : List Nat} {N : Nat} {ah : Int} (h : NmI x l W N ah (gsT x l).length) : W = nmT x l ∧ N = ncT x l := by
  constructor
  · apply List.ext_getElem (by rw [h.len, nmT_len])
    intro i h1 h2
    have h3 : i < (fsT x x.length).length := by rw [← h.len]; exact h1
    have h4 := idx_at ((gs_mem hl).2 (getD_inN h3))
    have h5 := h.at_ _ h4.1
    rw [h4.2, idx_getD (fs_nodup x) h3, ← nmT_get h3] at h5
    rw [List.getD_eq_getElem?_getD, List.getD_eq_getElem?_getD, List.getElem?_eq_getElem h1, List.getElem?_eq_getElem h2] at h5
    exact h5
  · rw [h.num]
    unfold ncT
    by_cases e : gsT x l = []
    · rw [e]; rfl
    · rw [if_neg (by rw [List.length_eq_zero_iff]; exact e), if_neg e]
theorem chg_next (x : List Int) (g : List Nat) {r : Nat} (h : 0 < r) : chg x g r = chg x g (r - 1) + (if pceT x (g.getD r 0) = pceT x (g.getD (r - 1) 0) then 0 else 1) := by
  obtain ⟨q, rfl⟩ : ∃ q, r = q + 1 := ⟨r - 1, by omega⟩
  rfl
theorem pce_codes {x : List Int} (h : ckT x = 0) {k : Nat} (hk : k < (fsT x x.length).length) : (∀ z ∈ pceT x ((fsT x x.length).getD k 0), 0 ≤ z ∧ z ≤ 65535) ∧ (pceT x ((fsT x x.length).getD k 0)).length ≤ x.length := by
  obtain ⟨L, h1, h2, -, -, -, h6⟩ := pce_at (InT.of h) hk
  refine ⟨fun z hz => ?_, by omega⟩
  obtain ⟨i, hi, e⟩ := List.getElem_of_mem hz
  have h7 := h6 i (by rw [← h2]; exact hi)
  rw [List.getD_eq_getElem?_getD, List.getElem?_eq_getElem hi] at h7
  have h8 : z = x.getD ((fsT x x.length).getD k 0 + i) 0 := by rw [← h7]; exact e.symm
  rw [h8]
  exact (ckT_zero h).2.1 _ (in_cell (by omega))
theorem names_zero (n : Nat) : (madeCells #[Value.int .i64 0] n).toList = nvals (List.replicate n 0) := by
  rw [zero_cells]
  unfold qvl
  congr 1
  apply List.ext_getElem?
  intro i
  by_cases h : i < n
  · rw [List.getElem?_map, List.getElem?_range h, List.getElem?_replicate, if_pos h]; rfl
  · rw [List.getElem?_eq_none (by simp; omega), List.getElem?_eq_none (by simp; omega)]
theorem nvals_set16 (ks : List Nat) (i k : Nat) : (nvals ks).set i (.int .i64 (k : Int)) = nvals (ks.set i k) := by simp [nvals, List.map_set]
theorem own_below16 {w w' : World} {B e sz n : Nat} {v : Value} {xs : List Value} (h : w.ownsRow B e sz v n xs) (hb : Below w.heap.size w w') : w'.ownsRow B e sz v n xs := by
  refine World.ownsRow.kept h (⟨hb.os, hb.tape, hb.output, hb.size, fun i hi _ => hb.block i hi⟩ : w.grownBy w' none) ?_
  cases hv : v.ownBlock with
  | none => exact .inl rfl
  | some _ => exact .inr (by simp)
end Go.Inc
namespace Go.Proofs.Ytdobjlaggdnphaa
open Go.RowKit Go.Inc
set_option maxRecDepth 20000 in
set_option maxHeartbeats 4000000 in
theorem refNames_any (ok ok' : Nat → Prop) (x : World) (a b : Option Addr) (c d : Nat) (zs : List Int) (l : List Nat) (hs : Si ok x a zs) (hc : zs.length ≤ c ∧ c ≤ maxLen) (hf : Si ok' x b (zsN l)) (hck : ckT zs = 0) (hl : (zs.length : Int) ≤ 65536) (hlp : ByP zs l) (hll : l.length = zs.length) :
    Calls Try.prog 20 #[.slice a zs.length c, .slice b l.length d] x fun e w' => ∃ u, e = .returned (.tuple #[u, .int .i64 ((ncT zs l : Nat) : Int)]) ∧ w'.ownsRow x.heap.size 3 1 u (fsT zs zs.length).length (nvals (nmT zs l)) ∧ Below x.heap.size x w' := by
  have hI := InT.of hck
  have HI := hid hI
  have HCK := hid hck
  have HLP := hid hlp
  have HFI := hid (refFirsts_any ok x a c zs hs hI.right hl)
  have hml := fs_half (x := zs)
  have HMN := hid hml
  have HZ := hid (NmI.zero zs l)
  obtain ⟨bo, oo, rfl, hox⟩ : ∃ bo oo, b = some ⟨bo, oo, none⟩ ∧ ∀ i, i < l.length → x.cell? ⟨bo, oo + i, none⟩ = some (.int .i64 ((l.getD i 0 : Nat) : Int)) := by
    rcases hf with h | ⟨bo, oo, h, _, hc⟩
    · have h1 := zsN_len l
      rw [h, hll] at h1
      have := hI.right.1
      simp at h1; omega
    · exact ⟨bo, oo, h, fun i hi => by rw [hc i (by rw [zsN_len]; exact hi), zsN_get]⟩
  have HOX : Hid (∀ y, Below x.heap.size x y → ∀ i, i < l.length → y.cell? ⟨bo, oo + i, none⟩ = some (.int .i64 ((l.getD i 0 : Nat) : Int))) := hid fun y hy i hi => cell_kept16 (hox i hi) hy
  have HPC : Hid (∀ (y : World) (b' : Option Addr) (d' : Nat) (ok2 : Nat → Prop), Below x.heap.size x y → Si ok2 y b' (zsN (fsT zs zs.length)) → ∀ k, k < (fsT zs zs.length).length → Calls Try.prog 22 #[.slice a zs.length c, .slice b' (fsT zs zs.length).length d', .int .i64 (k : Int)] y fun e w' => ∃ u, e = .returned u ∧ So ok w' u (pceT zs ((fsT zs zs.length).getD k 0)) ∧ Below y.heap.size y w') := hid fun y b' d' ok2 hy hs2 k hk => refPiece_any ok ok2 y a b' c d' zs k (hs.below hy) hc hs2 hI hl hk
  obtain ⟨n, hn⟩ : ∃ n, n = zs.length := ⟨_, rfl⟩
  have HN := hid hn
  obtain ⟨L, hL⟩ : ∃ L, L = l.length := ⟨_, rfl⟩
  have HL := hid hL
  obtain ⟨F, hF⟩ : ∃ F, F = fsT zs zs.length := ⟨_, rfl⟩
  have HF := hid hF
  obtain ⟨m, hm⟩ : ∃ m, m = F.length := ⟨_, rfl⟩
  have HM := hid hm
  have hnL : n = L := by rw [hn, hL, hll]
  rw [← hF, ← hm] at HFI HPC HZ HMN hml
  rw [← hn] at HFI HPC hl HMN hml
  rw [← hL] at HOX
  rw [← hF, ← hm, ← hn, ← hL]
  have hmb : (m : Int) ≤ 65536 := by omega
  have hLb : (L : Int) ≤ 65536 := by omega
  obtain ⟨i0, hi, hz0, hz1, hz2⟩ := info_parts infoIntS
  have HINF := hid (And.intro hi (And.intro hz0 (And.intro hz1 hz2)))
  clear hs hf hck hI hlp hll hox hc hn hL hF hm hnL hml hi hz0 hz1 hz2
  go_enter Try.func20, Try.ntmps20
  go_wp2_with fail
  refine HFI.out.mono ?_
  rintro e w1 ⟨uf, rfl, hof, hb1⟩
  obtain ⟨fa, fc, rfl, -, -, -, -, hfs⟩ := Si.ownedN hof
  rw [← HM.out]
  have HFS : Hid (Si (fun g => x.heap.size ≤ g) w1 fa (zsN F)) := hid hfs
  have HB1 := hid hb1
  have HX : Hid (∀ y, Below w1.heap.size w1 y → Below x.heap.size x y) := hid fun y hy => hb1.trans (hy.mono hb1.size)
  clear hof hb1 hfs HFI
  go_wp2_with (refine wpList_make_full _ rfl _ _ 22 rfl w1.heap.size 3 i0 (.int .i64 0) 1 Try.underlying22 HINF.out.1 HINF.out.2.1 HINF.out.2.2.1 .i64 .i64 _ _ m rfl rfl rfl rfl (by rw [HINF.out.2.2.2]; omega) (by unfold maxLen; omega) (Nat.le_refl _) ?_)
  intro w2 ho2 hg2
  rw [names_zero] at ho2
  obtain ⟨g1, hg1⟩ : ∃ g1, g1 = w1.heap.size := ⟨_, rfl⟩
  have HG1 := hid hg1
  rw [← hg1] at ho2 HX ⊢
  have hbw : Below g1 w1 w2 := ⟨hg2.os, hg2.tape, hg2.output, hg2.size, fun i hi => hg2.block i (by rw [← hg1]; exact hi) (by simp)⟩
  have HO2 := hid ho2
  have HB2 := hid hbw
  clear ho2 hg2 hbw hg1
  have HFC : Hid (∀ y, Below g1 w1 y → Si (fun g => x.heap.size ≤ g) y fa (zsN F)) := hid fun y hy => HFS.out.below (by rw [← HG1.out]; exact hy)
  clear HFS
  go_wp2_with fail
  go_loopw [8, 9, 10, 11] (fun nn aa jj _ wr => ∃ (j N : Nat) (W : List Nat) (ah : Int), j ≤ L ∧ jj = .int .i64 (j : Int) ∧ nn = .int .i64 (N : Int) ∧ aa = .int .i64 ah ∧ NmI zs l W N ah (rnT zs l j) ∧ wr.ownsRow g1 3 1 (.slice (some ⟨g1, 0, none⟩) m m) m (nvals W) ∧ Below g1 w1 wr) (fun _ _ jj _ _ => L - (intOf jj).toNat)
  case atStart => exact ⟨0, 0, _, -1, Nat.zero_le _, rfl, rfl, rfl, HZ.out, HO2.out, HB2.out⟩
  case round =>
    clear HZ HO2 HB2
    obtain ⟨j, N, W, ah, hj, rfl, rfl, rfl, hni, ho, hb⟩ := hrel
    have HNI := hid hni
    have HO := hid ho
    have HB := hid hb
    clear hni ho hb
    by_cases hlt : j < L
    · have hji : (j < L) = True := eq_true hlt
      have HLT := hid hlt
      have hjb : (j : Int) < (L : Int) := by omega
      obtain ⟨v, hv⟩ : ∃ v, v = l.getD j 0 := ⟨_, rfl⟩
      have HV := hid hv
      obtain ⟨r, hr⟩ : ∃ r, r = rnT zs l j := ⟨_, rfl⟩
      have HR := hid hr
      rw [← hr] at HNI
      clear hlt hv hr
      go_wp2_with fail
      go_loopw [8, 9, 11] (fun nn aa kk wq => ∃ (k N : Nat) (W : List Nat) (ah : Int), k ≤ m ∧ kk = .int .i64 (k : Int) ∧ nn = .int .i64 (N : Int) ∧ aa = .int .i64 ah ∧ NmI zs l W N ah (if v ∈ F ∧ F.idxOf v < k then r + 1 else r) ∧ wq.ownsRow g1 3 1 (.slice (some ⟨g1, 0, none⟩) m m) m (nvals W) ∧ Below g1 w1 wq) (fun _ _ kk _ => m - (intOf kk).toNat)
      case atStart => exact ⟨0, N, W, ah, Nat.zero_le _, rfl, rfl, rfl, by rw [if_neg (by omega)]; exact HNI.out, HO.out, HB.out⟩
      case round =>
        clear HNI HO HB
        obtain ⟨k, N2, W2, ah2, hk, rfl, rfl, rfl, hni, ho, hb⟩ := hrel
        have HNI := hid hni
        have HO := hid ho
        have HB := hid hb
        clear hni ho hb
        generalize wr = wq at *
        by_cases hkm : k < m
        · have hki : (k < m) = True := eq_true hkm
          have HKM := hid hkm
          have hkb : (k : Int) < (m : Int) := by omega
          obtain ⟨b1, o1, rfl, hc1⟩ : ∃ b1 o1, fa = some ⟨b1, o1, none⟩ ∧ wq.cell? ⟨b1, o1 + k, none⟩ = some (.int .i64 ((F.getD k 0 : Nat) : Int)) := by
            rcases HFC.out wq HB.out with h | ⟨b1, o1, h, _, hc⟩
            · have h1 := zsN_len F
              rw [h, ← HM.out] at h1; simp at h1; omega
            · exact ⟨b1, o1, h, by rw [hc k (by rw [zsN_len, ← HM.out]; exact hkm), zsN_get]⟩
          have hc2 := HOX.out wq (HX.out wq HB.out) j HLT.out
          rw [← HV.out] at hc2
          have HND : Hid (F.Nodup) := hid (by rw [HF.out]; exact fs_nodup zs)
          obtain ⟨u, hu⟩ : ∃ u, u = F.getD k 0 := ⟨_, rfl⟩
          have HU := hid hu
          rw [← hu] at hc1
          clear hkm hu
          by_cases huv : u = v
          · have hub : ((u : Int) == (v : Int)) = true := by rw [beq_iff_eq]; omega
            have hix : F.idxOf v = k := by rw [← huv, HU.out]; exact idx_getD HND.out (by rw [← HM.out]; exact HKM.out)
            have hvF : v ∈ F := by rw [← huv, HU.out]; exact getD_inN (by rw [← HM.out]; exact HKM.out)
            have hri := rn_in (x := zs) (l := l) (j := j) (by rw [← HL.out]; exact HLT.out) (by rw [← HV.out, ← HF.out]; exact hvF)
            rw [← HR.out, ← HV.out] at hri
            have hst := HNI.out
            rw [if_neg (by omega)] at hst
            have HST := hid (hst.step HLP.out (k := k) (by rw [← HF.out, ← HM.out]; exact HKM.out) hri.2.2 (by rw [hri.2.1, ← HF.out, ← HU.out, huv]))
            have HSM := hid hst
            have HRI := hid hri
            have HIX : Hid ((if v ∈ F ∧ F.idxOf v < k + 1 then r + 1 else r) = r + 1) := hid (if_pos ⟨hvF, by omega⟩)
            obtain ⟨q, hq⟩ : ∃ q, q = chg zs (gsT zs l) r := ⟨_, rfl⟩
            have HQ := hid hq
            rw [← hq] at HST
            have hnum := hst.num
            have hahd := hst.ahead
            have hqb : q ≤ r := by rw [hq]; exact chg_le _ _ _
            have hrl : r < 65536 := by
              have h1 := hri.2.2
              have h2 := List.length_filter_le (fun j => decide (j ∈ fsT zs zs.length)) l
              have h3 : (gsT zs l).length ≤ l.length := h2
              rw [← HL.out] at h3
              omega
            have hwl : W2.length = m := by rw [hst.len, ← HF.out, HM.out]
            have HWL := hid hwl
            have hcn : wq.cell? ⟨g1, k, none⟩ = some (.int .i64 ((W2.getD k 0 : Nat) : Int)) := by
              have h := HO.out.cells (g := g1) rfl k _ (nvals_get (by rw [hwl]; exact HKM.out))
              rw [Addr.add_lit] at h
              simpa using h
            generalize W2.getD k 0 = old at *
            have hvi : (u : Int) = (v : Int) := by omega
            clear huv hix hvF hri hst hq hwl
            by_cases hr0 : r = 0
            · subst hr0
              rw [if_pos rfl] at hnum hahd
              subst hnum hahd
              obtain rfl : q = 0 := by omega
              have f1 : ∀ y : World, y.ownsRow g1 3 1 (.slice (some ⟨g1, 0, none⟩) m m) m (nvals W2) → y.frozen? ⟨g1, k, none⟩ = false := fun y h => h.frozenAt k
              have f2 : wq.drew.frozen? ⟨g1, k, none⟩ = false := HO.out.frozenAt k
              have hcn2 : wq.drew.cell? ⟨g1, k, none⟩ = some (.int .i64 (old : Int)) := hcn
              have HO3 : Hid ((wq.drew.setCell ⟨g1, k, none⟩ (.int .i64 0)).ownsRow g1 3 1 (.slice (some ⟨g1, 0, none⟩) m m) m (nvals (W2.set k 0))) := hid (by
                have h := (show wq.drew.ownsRow g1 3 1 (.slice (some ⟨g1, 0, none⟩) m m) m (nvals W2) from HO.out).stored k (.int .i64 ((0 : Nat) : Int))
                rw [nvals_set16] at h
                exact h.1)
              have HB3 := hid (HB.out.drew.setCell (p := ⟨g1, k, none⟩) (Nat.le_refl _) (.int .i64 0))
              clear f1 hqb hrl HO HB hcn
              go_wp2_with fail
              go_region
              go_wp2_with fail
              go_roundw
              case rel => exact ⟨k + 1, 1, _, _, HKM.out, by go_num, rfl, rfl, by rw [HIX.out]; exact HST.out, HO3.out, HB3.out⟩
              case measure => simp [intOf]; have := HKM.out; omega
            · rw [if_neg hr0] at hnum hahd
              have hag : (gsT zs l).getD (r - 1) 0 ∈ fsT zs zs.length := (gs_mem HLP.out).1 (getD_inN (by have := HRI.out.2.2; omega))
              rw [← HF.out] at hag hahd
              obtain ⟨k0, hk0⟩ : ∃ k0, k0 = F.idxOf ((gsT zs l).getD (r - 1) 0) := ⟨_, rfl⟩
              have hk0m : k0 < m := by rw [hk0, HM.out]; exact (idx_at hag).1
              have hk0g : F.getD k0 0 = (gsT zs l).getD (r - 1) 0 := by rw [hk0]; exact (idx_at hag).2
              rw [← hk0] at hahd
              subst hahd
              have hcx := chg_next zs (gsT zs l) (show 0 < r by omega)
              rw [← HQ.out, ← hk0g, HRI.out.2.1, show v = F.getD k 0 by have := HU.out; omega] at hcx
              have HCX := hid hcx
              have HNM := hid hnum
              have ha0 : decide ((k0 : Int) < 0) = false := decide_eq_false (by omega)
              have HC1 := hid (HPC.out wq.drew (some ⟨b1, o1, none⟩) fc _ ((HX.out wq HB.out).drew) (HFC.out wq.drew HB.out.drew) k (by exact HKM.out))
              have HOD : Hid (wq.drew.ownsRow g1 3 1 (.slice (some ⟨g1, 0, none⟩) m m) m (nvals W2)) := hid HO.out
              have HBD := hid HB.out.drew
              have hNb : N2 ≤ 65536 := by omega
              have hNi : (N2 : Int) ≤ 65536 := by omega
              obtain ⟨hp1, hp2⟩ := pce_codes HCK.out (k := k) (by rw [← HF.out, ← HM.out]; exact HKM.out)
              obtain ⟨hp3, hp4⟩ := pce_codes HCK.out (k := k0) (by rw [← HF.out, ← HM.out]; exact hk0m)
              rw [← HF.out] at hp1 hp2 hp3 hp4
              rw [← HN.out] at hp2 hp4
              have HP := hid (And.intro hp1 (And.intro hp2 (And.intro hp3 hp4)))
              have HK0M := hid hk0m
              have HC9 := hid (fun (y : World) (hy : Below g1 w1 y) => HPC.out y (some ⟨b1, o1, none⟩) fc _ (HX.out y hy) (HFC.out y hy) k0 HK0M.out)
              obtain ⟨P1, hP1⟩ : ∃ P1, P1 = pceT zs (F.getD k 0) := ⟨_, rfl⟩
              obtain ⟨P2, hP2⟩ : ∃ P2, P2 = pceT zs (F.getD k0 0) := ⟨_, rfl⟩
              rw [← hP1] at HC1 HP HCX
              rw [← hP2] at HC9 HP HCX
              clear hP1 hP2
              clear hr0 hag hk0 hk0g hcx hnum hqb hrl hNb hp1 hp2 hp3 hp4 hcn HO HB hk0m
              go_wp2_with fail
              go_region
              go_wp2_with fail
              refine HC1.out.mono ?_
              rintro e w3 ⟨p1, rfl, ⟨a1, c1, rfl, hsi1, -, -, -⟩, hb3⟩
              have HS1 := hid hsi1
              have HB3 := hid (HBD.out.trans (hb3.mono (by have := HBD.out.size; rw [HG1.out]; exact this)))
              have HO3 := hid (own_below16 HOD.out hb3)
              have HC2 := hid (HC9.out w3 HB3.out)
              clear hsi1 hb3 HC1 HOD HBD
              go_wp2_with fail
              refine HC2.out.mono ?_
              rintro e w4 ⟨p2, rfl, ⟨a2, c2, rfl, hsi2, -, -, -⟩, hb4⟩
              have HS2 := hid hsi2
              have HS12 := hid (HS1.out.below hb4)
              have HB4 := hid (HB3.out.trans (hb4.mono (by have := HB3.out.size; rw [HG1.out]; exact this)))
              have HO4 := hid (own_below16 HO3.out hb4)
              have HC3 := hid (refSame16_any _ _ w4 a1 a2 c1 c2 P1 P2 HS12.out HS2.out HP.out.1 HP.out.2.2.1 (by have := HP.out.2.1; omega) (by have := HP.out.2.2.2; omega))
              clear hsi2 hb4 HC2 HO3 HB3 HS1 HS12 HS2
              by_cases hpp : P1 = P2
              · rw [decide_eq_true hpp] at HC3
                rw [if_pos hpp] at HCX
                have hNq : (N2 : Int) - 1 = (q : Int) := by have := HCX.out; have := HNM.out; omega
                have HNQ : Hid (N2 = q + 1) := hid (by omega)
                clear hpp
                go_wp2_with fail
                refine HC3.out.mono ?_
                rintro e w5 ⟨rfl, hb5⟩
                have HB5 := hid (HB4.out.trans (hb5.mono (by have := HB4.out.size; rw [HG1.out]; exact this)))
                have HO5 := hid (own_below16 HO4.out hb5)
                have hcn5 : w5.cell? ⟨g1, k, none⟩ = some (.int .i64 ((W2.getD k 0 : Nat) : Int)) := by
                  have h := HO5.out.cells (g := g1) rfl k _ (nvals_get (by rw [HWL.out]; exact HKM.out))
                  rw [Addr.add_lit] at h
                  simpa using h
                generalize W2.getD k 0 = old5 at *
                have f5 := HO5.out.frozenAt k
                have HO6 := hid (HO5.out.stored k (.int .i64 ((q : Nat) : Int)))
                rw [nvals_set16] at HO6
                have HB6 := hid (HB5.out.setCell (p := ⟨g1, k, none⟩) (Nat.le_refl _) (.int .i64 ((q : Nat) : Int)))
                clear hb5 HC3 HO4 HB4 HO5 HB5
                go_wp2_with fail
                go_roundw
                case rel => exact ⟨k + 1, N2, _, _, HKM.out, by go_num, rfl, rfl, by rw [HIX.out, HNQ.out]; exact HST.out, HO6.out.1, HB6.out⟩
                case measure => simp [intOf]; have := HKM.out; omega
              · rw [decide_eq_false hpp] at HC3
                rw [if_neg hpp] at HCX
                obtain ⟨N3, hN3⟩ : ∃ N3, N3 = N2 + 1 := ⟨_, rfl⟩
                have hN3i : (N2 : Int) + 1 = (N3 : Int) := by omega
                have hNq : (N3 : Int) - 1 = (q : Int) := by have := HCX.out; have := HNM.out; omega
                have HNQ : Hid (N3 = q + 1) := hid (by omega)
                have hN3b : (N3 : Int) ≤ 65537 := by omega
                clear hpp hN3
                go_wp2_with fail
                refine HC3.out.mono ?_
                rintro e w5 ⟨rfl, hb5⟩
                have HB5 := hid (HB4.out.trans (hb5.mono (by have := HB4.out.size; rw [HG1.out]; exact this)))
                have HO5 := hid (own_below16 HO4.out hb5)
                have hcn5 : w5.cell? ⟨g1, k, none⟩ = some (.int .i64 ((W2.getD k 0 : Nat) : Int)) := by
                  have h := HO5.out.cells (g := g1) rfl k _ (nvals_get (by rw [HWL.out]; exact HKM.out))
                  rw [Addr.add_lit] at h
                  simpa using h
                generalize W2.getD k 0 = old5 at *
                have f5 := HO5.out.frozenAt k
                have HO6 := hid (HO5.out.stored k (.int .i64 ((q : Nat) : Int)))
                rw [nvals_set16] at HO6
                have HB6 := hid (HB5.out.setCell (p := ⟨g1, k, none⟩) (Nat.le_refl _) (.int .i64 ((q : Nat) : Int)))
                clear hb5 HC3 HO4 HB4 HO5 HB5
                go_wp2_with fail
                go_roundw
                case rel => exact ⟨k + 1, N3, _, _, HKM.out, by go_num, rfl, rfl, by rw [HIX.out, HNQ.out]; exact HST.out, HO6.out.1, HB6.out⟩
                case measure => simp [intOf]; have := HKM.out; omega
          · have hub : ((u : Int) == (v : Int)) = false := by rw [beq_eq_false_iff_ne]; omega
            have HIX : Hid ((if v ∈ F ∧ F.idxOf v < k + 1 then r + 1 else r) = if v ∈ F ∧ F.idxOf v < k then r + 1 else r) := hid (by
              by_cases hvF : v ∈ F
              · have hne : F.idxOf v ≠ k := fun e => huv (by rw [HU.out, ← e]; exact (idx_at hvF).2)
                by_cases h : F.idxOf v < k
                · rw [if_pos ⟨hvF, by omega⟩, if_pos ⟨hvF, h⟩]
                · rw [if_neg (by omega), if_neg (by omega)]
              · rw [if_neg (fun h => hvF h.1), if_neg (fun h => hvF h.1)])
            have HOD : Hid (wq.drew.ownsRow g1 3 1 (.slice (some ⟨g1, 0, none⟩) m m) m (nvals W2)) := hid HO.out
            have HBD := hid HB.out.drew
            clear huv HO HB
            go_wp2_with fail
            go_region
            go_wp2_with fail
            go_roundw
            case rel => exact ⟨k + 1, N2, W2, _, HKM.out, by go_num, rfl, rfl, by rw [HIX.out]; exact HNI.out, HOD.out, HBD.out⟩
            case measure => simp [intOf]; have := HKM.out; omega
        · have hki : (k < m) = False := eq_false hkm
          obtain rfl : m = k := by omega
          have HRN : Hid ((if v ∈ F ∧ F.idxOf v < m then r + 1 else r) = rnT zs l (j + 1)) := hid (by
            by_cases hvF : v ∈ F
            · rw [if_pos ⟨hvF, by rw [HM.out]; exact (idx_at hvF).1⟩, HR.out]
              exact (rn_in (by rw [← HL.out]; exact HLT.out) (by rw [← HV.out, ← HF.out]; exact hvF)).1.symm
            · rw [if_neg (fun h => hvF h.1), HR.out]
              exact (rn_out (by rw [← HL.out]; exact HLT.out) (by rw [← HV.out, ← HF.out]; exact hvF)).symm)
          clear hkm
          go_wp2_with fail
          go_roundw
          case rel => exact ⟨j + 1, N2, W2, ah2, HLT.out, by go_num, rfl, rfl, by rw [← HRN.out]; exact HNI.out, HO.out, HB.out⟩
          case measure => simp [intOf]; have := HLT.out; omega
    · have hji : (j < L) = False := eq_false hlt
      obtain rfl : L = j := by omega
      have hfin := HNI.out
      rw [HL.out, rn_all] at hfin
      obtain ⟨hf1, hf2⟩ := hfin.done HLP.out
      have HF1 := hid hf1
      have HF2 := hid hf2
      clear hlt hfin hf1 hf2
      go_wp2_with fail
      go_ret2
      exact ⟨_, by rw [← HF2.out] <;> rfl, by rw [← HF1.out]; exact own_weaken HO.out (by rw [HG1.out]; exact HB1.out.size), HX.out _ HB.out⟩
end Go.Proofs.Ytdobjlaggdnphaa
