/- CONTRACTS (layer 16): the document's Names. WHAT IS ASKED OF THE PROGRAM'S CALLS (layer 16): their contracts, in one place, to be proved of what lands. PLAIN (layer 17, as it landed): what comes back of a level induces the order of the one above it; codes that are all unlike tell the order; levels as a stack. CONTRACTS (layer 17): the document's levels. THE LAW OF LONG TEXTS (layer 17), walked over the program's contracts. (written by gen_sag.py) THE LAW OF LEVELS (layer 17), walked over the program's contracts. (written by gen_say.py) -/
import Derived.Test.YtmllpednaibeeaaU8
import Derived.Test.YtmllpednaibeeaaU0
import Derived.Test.YtmllpednaibeeaaU3
namespace Go.Inc
open Go.RowKit
/-- How many first Ss are among the first j. -/
def rnT (x : List Int) (l : List Nat) (j : Nat) : Nat := (gsT x (l.take j)).length
theorem rn_in {x : List Int} {l : List Nat} {j : Nat} (hj : j < l.length) (h : l.getD j 0 ∈ fsT x x.length) : rnT x l (j + 1) = rnT x l j + 1 ∧ (gsT x l).getD (rnT x l j) 0 = l.getD j 0 ∧ rnT x l j < (gsT x l).length := by
  have e : l.take (j + 1) = l.take j ++ [l.getD j 0] := by
    rw [List.take_succ_eq_append_getElem hj, List.getD_eq_getElem?_getD, List.getElem?_eq_getElem hj]; rfl
  have e2 : gsT x (l.take (j + 1)) = gsT x (l.take j) ++ [l.getD j 0] := by
    unfold gsT
    rw [e, List.filter_append, List.filter_cons_of_pos (by simpa using h)]; rfl
  have e3 : gsT x l = (gsT x (l.take j) ++ [l.getD j 0]) ++ gsT x (l.drop (j + 1)) := by
    rw [← e2]
    unfold gsT
    rw [← List.filter_append, List.take_append_drop]
  refine ⟨by unfold rnT; rw [e2, List.length_append]; rfl, ?_, ?_⟩
  · rw [e3, List.append_assoc]
    unfold rnT
    rw [List.getD_eq_getElem?_getD, List.getElem?_append_right (Nat.le_refl _), Nat.sub_self]; rfl
  · rw [e3, List.length_append, List.length_append]
    unfold rnT
    simp; omega
theorem rn_out {x : List Int} {l : List Nat} {j : Nat} (hj : j < l.length) (h : ¬ l.getD j 0 ∈ fsT x x.length) : rnT x l (j + 1) = rnT x l j := by
  have e : l.take (j + 1) = l.take j ++ [l.getD j 0] := by
    rw [List.take_succ_eq_append_getElem hj, List.getD_eq_getElem?_getD, List.getElem?_eq_getElem hj]; rfl
  unfold rnT gsT
  rw [e, List.filter_append, List.filter_cons_of_neg (by simpa using h)]
  simp
theorem rn_all (x : List Int) (l : List Nat) : rnT x l l.length = (gsT x l).length := by unfold rnT; rw [List.take_length]
/-- What stands behind r named first Ss. -/
structure NmI (x : List Int) (l : List Nat) (W : List Nat) (N : Nat) (ah : Int) (r : Nat) : Prop where
  len : W.length = (fsT x x.length).length
  at_ : ∀ t, t < r → W.getD ((fsT x x.length).idxOf ((gsT x l).getD t 0)) 0 = chg x (gsT x l) t
  num : N = if r = 0 then 0 else chg x (gsT x l) (r - 1) + 1
  ahead : ah = if r = 0 then -1 else (((fsT x x.length).idxOf ((gsT x l).getD (r - 1) 0) : Nat) : Int)
theorem NmI.zero (x : List Int) (l : List Nat) : NmI x l (List.replicate (fsT x x.length).length 0) 0 (-1) 0 :=
  ⟨List.length_replicate, fun t h => absurd h (by omega), rfl, rfl⟩
theorem fs_nodup (x : List Int) : (fsT x x.length).Nodup := (isFs_own x).1
theorem NmI.step {x : List Int} {l : List Nat} (hl : ByP x l) {W : List Nat} {N : Nat} {ah : Int} {r k : Nat} (h : NmI x l W N ah r) (hk : k < (fsT x x.length).length) (hr : r < (gsT x l).length) (hg : (gsT x l).getD r 0 = (fsT x x.length).getD k 0) :
    NmI x l (W.set k (chg x (gsT x l) r)) (chg x (gsT x l) r + 1) (k : Int) (r + 1) := by
  have hi : (fsT x x.length).idxOf ((gsT x l).getD r 0) = k := by rw [hg]; exact idx_getD (fs_nodup x) hk
  refine ⟨by rw [List.length_set]; exact h.len, fun t ht => ?_, by rw [if_neg (by omega), Nat.add_sub_cancel], by rw [if_neg (by omega), Nat.add_sub_cancel, hi]⟩
  rw [List.getD_eq_getElem?_getD, List.getElem?_set]
  by_cases e : t = r
  · subst e
    rw [hi, if_pos rfl, if_pos (by rw [h.len]; exact hk)]; rfl
  · have hne : k ≠ (fsT x x.length).idxOf ((gsT x l).getD t 0) := fun e2 => by
      have h1 := (gs_mem hl).1 (getD_inN (show t < (gsT x l).length by omega))
      have h2 := (idx_at h1).2
      rw [← e2, ← hg] at h2
      have h3 := idx_getD (gs_nodup hl) (show t < (gsT x l).length by omega)
      rw [← h2, idx_getD (gs_nodup hl) hr] at h3
      exact e h3.symm
    rw [if_neg hne, ← List.getD_eq_getElem?_getD]
    exact h.at_ t (by omega)
theorem NmI.done {x : List Int} {l : List Nat} (hl : ByP x l) {W : List Nat} {N : Nat} {ah : Int} (h : NmI x l W N ah (gsT x l).length) : W = nmT x l ∧ N = ncT x l := by
  constructor
  · apply List.ext_getElem (by rw [h.len, nmT_len])
    intro i h1 h2
    have h3 : i < (fsT x x.length).length := by rw [← h.len]; exact h1
    have h4 := idx_at ((gs_mem hl).2 (getD_inN h3))
    have h5 := h.at_ _ h4.1
    rw [h4.2, idx_getD (fs_nodup x) h3, ← nmT_get h3] at h5
    rw [List.getD_eq_getElem?_getD, List.getD_eq_getElem?_getD, List.getElem?_eq_getElem h1, List.getElem?_eq_getElem h2] at h5
    exact h5
  · rw [h.num]
    unfold ncT
    by_cases e : gsT x l = []
    · rw [e]; rfl
    · rw [if_neg (by rw [List.length_eq_zero_iff]; exact e), if_neg e]
theorem chg_next (x : List Int) (g : List Nat) {r : Nat} (h : 0 < r) : chg x g r = chg x g (r - 1) + (if pceT x (g.getD r 0) = pceT x (g.getD (r - 1) 0) then 0 else 1) := by
  obtain ⟨q, rfl⟩ : ∃ q, r = q + 1 := ⟨r - 1, by omega⟩
  rfl
theorem pce_codes {x : List Int} (h : ckT x = 0) {k : Nat} (hk : k < (fsT x x.length).length) : (∀ z ∈ pceT x ((fsT x x.length).getD k 0), 0 ≤ z ∧ z ≤ 65535) ∧ (pceT x ((fsT x x.length).getD k 0)).length ≤ x.length := by
  obtain ⟨L, h1, h2, -, -, -, h6⟩ := pce_at (InT.of h) hk
  refine ⟨fun z hz => ?_, by omega⟩
  obtain ⟨i, hi, e⟩ := List.getElem_of_mem hz
  have h7 := h6 i (by rw [← h2]; exact hi)
  rw [List.getD_eq_getElem?_getD, List.getElem?_eq_getElem hi] at h7
  have h8 : z = x.getD ((fsT x x.length).getD k 0 + i) 0 := by rw [← h7]; exact e.symm
  rw [h8]
  exact (ckT_zero h).2.1 _ (in_cell (by omega))
theorem names_zero (n : Nat) : (madeCells #[Value.int .i64 0] n).toList = nvals (List.replicate n 0) := by
  rw [zero_cells]
  unfold qvl
  congr 1
  apply List.ext_getElem?
  intro i
  by_cases h : i < n
  · rw [List.getElem?_map, List.getElem?_range h, List.getElem?_replicate, if_pos h]; rfl
  · rw [List.getElem?_eq_none (by simp; omega), List.getElem?_eq_none (by simp; omega)]
theorem nvals_set16 (ks : List Nat) (i k : Nat) : (nvals ks).set i (.int .i64 (k : Int)) = nvals (ks.set i k) := by simp [nvals, List.map_set]
theorem own_below16 {w w' : World} {B e sz n : Nat} {v : Value} {xs : List Value} (h : w.ownsRow B e sz v n xs) (hb : Below w.heap.size w w') : w'.ownsRow B e sz v n xs := by
  refine World.ownsRow.kept h (⟨hb.os, hb.tape, hb.output, hb.size, fun i hi _ => hb.block i hi⟩ : w.grownBy w' none) ?_
  cases hv : v.ownBlock with
  | none => exact .inl rfl
  | some _ => exact .inr (by simp)
end Go.Inc
namespace Go.Proofs.Ytmllpednaibeeaa
open Go.RowKit Go.Inc
set_option maxRecDepth 20000 in
set_option maxHeartbeats 4000000 in
theorem refNames_any (ok ok' : Nat → Prop) (x : World) (a b : Option Addr) (c d : Nat) (zs : List Int) (l : List Nat) (hs : Si ok x a zs) (hc : zs.length ≤ c ∧ c ≤ maxLen) (hf : Si ok' x b (zsN l)) (hck : ckT zs = 0) (hl : (zs.length : Int) ≤ 65536) (hlp : ByP zs l) (hll : l.length = zs.length) :
    Calls Try.prog 34 #[.slice a zs.length c, .slice b l.length d] x fun e w' => ∃ u, e = .returned (.tuple #[u, .int .i64 ((ncT zs l : Nat) : Int)]) ∧ w'.ownsRow x.heap.size 3 1 u (fsT zs zs.length).length (nvals (nmT zs l)) ∧ Below x.heap.size x w' := by
  have hI := InT.of hck
  have HI := hid hI
  have HCK := hid hck
  have HLP := hid hlp
  have HFI := hid (refFirsts_any ok x a c zs hs hI.right hl)
  have hml := fs_half (x := zs)
  have HMN := hid hml
  have HZ := hid (NmI.zero zs l)
  obtain ⟨bo, oo, rfl, hox⟩ : ∃ bo oo, b = some ⟨bo, oo, none⟩ ∧ ∀ i, i < l.length → x.cell? ⟨bo, oo + i, none⟩ = some (.int .i64 ((l.getD i 0 : Nat) : Int)) := by
    rcases hf with h | ⟨bo, oo, h, _, hc⟩
    · have h1 := zsN_len l
      rw [h, hll] at h1
      have := hI.right.1
      simp at h1; omega
    · exact ⟨bo, oo, h, fun i hi => by rw [hc i (by rw [zsN_len]; exact hi), zsN_get]⟩
  have HOX : Hid (∀ y, Below x.heap.size x y → ∀ i, i < l.length → y.cell? ⟨bo, oo + i, none⟩ = some (.int .i64 ((l.getD i 0 : Nat) : Int))) := hid fun y hy i hi => cell_kept16 (hox i hi) hy
  have HPC : Hid (∀ (y : World) (b' : Option Addr) (d' : Nat) (ok2 : Nat → Prop), Below x.heap.size x y → Si ok2 y b' (zsN (fsT zs zs.length)) → ∀ k, k < (fsT zs zs.length).length → Calls Try.prog 52 #[.slice a zs.length c, .slice b' (fsT zs zs.length).length d', .int .i64 (k : Int)] y fun e w' => ∃ u, e = .returned u ∧ So ok w' u (pceT zs ((fsT zs zs.length).getD k 0)) ∧ Below y.heap.size y w') := hid fun y b' d' ok2 hy hs2 k hk => refPiece_any ok ok2 y a b' c d' zs k (hs.below hy) hc hs2 hI hl hk
  obtain ⟨n, hn⟩ : ∃ n, n = zs.length := ⟨_, rfl⟩
  have HN := hid hn
  obtain ⟨L, hL⟩ : ∃ L, L = l.length := ⟨_, rfl⟩
  have HL := hid hL
  obtain ⟨F, hF⟩ : ∃ F, F = fsT zs zs.length := ⟨_, rfl⟩
  have HF := hid hF
  obtain ⟨m, hm⟩ : ∃ m, m = F.length := ⟨_, rfl⟩
  have HM := hid hm
  have hnL : n = L := by rw [hn, hL, hll]
  rw [← hF, ← hm] at HFI HPC HZ HMN hml
  rw [← hn] at HFI HPC hl HMN hml
  rw [← hL] at HOX
  rw [← hF, ← hm, ← hn, ← hL]
  have hmb : (m : Int) ≤ 65536 := by omega
  have hLb : (L : Int) ≤ 65536 := by omega
  obtain ⟨i0, hi, hz0, hz1, hz2⟩ := info_parts infoIntS
  have HINF := hid (And.intro hi (And.intro hz0 (And.intro hz1 hz2)))
  clear hs hf hck hI hlp hll hox hc hn hL hF hm hnL hml hi hz0 hz1 hz2
  go_enter Try.func34, Try.ntmps34
  go_wp2_with fail
  refine HFI.out.mono ?_
  rintro e w1 ⟨uf, rfl, hof, hb1⟩
  obtain ⟨fa, fc, rfl, -, -, -, -, hfs⟩ := Si.ownedN hof
  rw [← HM.out]
  have HFS : Hid (Si (fun g => x.heap.size ≤ g) w1 fa (zsN F)) := hid hfs
  have HB1 := hid hb1
  have HX : Hid (∀ y, Below w1.heap.size w1 y → Below x.heap.size x y) := hid fun y hy => hb1.trans (hy.mono hb1.size)
  clear hof hb1 hfs HFI
  go_wp2_with (refine wpList_make_full _ rfl _ _ 22 rfl w1.heap.size 3 i0 (.int .i64 0) 1 Try.underlying22 HINF.out.1 HINF.out.2.1 HINF.out.2.2.1 .i64 .i64 _ _ m rfl rfl rfl rfl (by rw [HINF.out.2.2.2]; omega) (by unfold maxLen; omega) (Nat.le_refl _) ?_)
  intro w2 ho2 hg2
  rw [names_zero] at ho2
  obtain ⟨g1, hg1⟩ : ∃ g1, g1 = w1.heap.size := ⟨_, rfl⟩
  have HG1 := hid hg1
  rw [← hg1] at ho2 HX ⊢
  have hbw : Below g1 w1 w2 := ⟨hg2.os, hg2.tape, hg2.output, hg2.size, fun i hi => hg2.block i (by rw [← hg1]; exact hi) (by simp)⟩
  have HO2 := hid ho2
  have HB2 := hid hbw
  clear ho2 hg2 hbw hg1
  have HFC : Hid (∀ y, Below g1 w1 y → Si (fun g => x.heap.size ≤ g) y fa (zsN F)) := hid fun y hy => HFS.out.below (by rw [← HG1.out]; exact hy)
  clear HFS
  go_wp2_with fail
  go_loopw [8, 9, 10, 11] (fun nn aa jj _ wr => ∃ (j N : Nat) (W : List Nat) (ah : Int), j ≤ L ∧ jj = .int .i64 (j : Int) ∧ nn = .int .i64 (N : Int) ∧ aa = .int .i64 ah ∧ NmI zs l W N ah (rnT zs l j) ∧ wr.ownsRow g1 3 1 (.slice (some ⟨g1, 0, none⟩) m m) m (nvals W) ∧ Below g1 w1 wr) (fun _ _ jj _ _ => L - (intOf jj).toNat)
  case atStart => exact ⟨0, 0, _, -1, Nat.zero_le _, rfl, rfl, rfl, HZ.out, HO2.out, HB2.out⟩
  case round =>
    clear HZ HO2 HB2
    obtain ⟨j, N, W, ah, hj, rfl, rfl, rfl, hni, ho, hb⟩ := hrel
    have HNI := hid hni
    have HO := hid ho
    have HB := hid hb
    clear hni ho hb
    by_cases hlt : j < L
    · have hji : (j < L) = True := eq_true hlt
      have HLT := hid hlt
      have hjb : (j : Int) < (L : Int) := by omega
      obtain ⟨v, hv⟩ : ∃ v, v = l.getD j 0 := ⟨_, rfl⟩
      have HV := hid hv
      obtain ⟨r, hr⟩ : ∃ r, r = rnT zs l j := ⟨_, rfl⟩
      have HR := hid hr
      rw [← hr] at HNI
      clear hlt hv hr
      go_wp2_with fail
      go_loopw [8, 9, 11] (fun nn aa kk wq => ∃ (k N : Nat) (W : List Nat) (ah : Int), k ≤ m ∧ kk = .int .i64 (k : Int) ∧ nn = .int .i64 (N : Int) ∧ aa = .int .i64 ah ∧ NmI zs l W N ah (if v ∈ F ∧ F.idxOf v < k then r + 1 else r) ∧ wq.ownsRow g1 3 1 (.slice (some ⟨g1, 0, none⟩) m m) m (nvals W) ∧ Below g1 w1 wq) (fun _ _ kk _ => m - (intOf kk).toNat)
      case atStart => exact ⟨0, N, W, ah, Nat.zero_le _, rfl, rfl, rfl, by rw [if_neg (by omega)]; exact HNI.out, HO.out, HB.out⟩
      case round =>
        clear HNI HO HB
        obtain ⟨k, N2, W2, ah2, hk, rfl, rfl, rfl, hni, ho, hb⟩ := hrel
        have HNI := hid hni
        have HO := hid ho
        have HB := hid hb
        clear hni ho hb
        generalize wr = wq at *
        by_cases hkm : k < m
        · have hki : (k < m) = True := eq_true hkm
          have HKM := hid hkm
          have hkb : (k : Int) < (m : Int) := by omega
          obtain ⟨b1, o1, rfl, hc1⟩ : ∃ b1 o1, fa = some ⟨b1, o1, none⟩ ∧ wq.cell? ⟨b1, o1 + k, none⟩ = some (.int .i64 ((F.getD k 0 : Nat) : Int)) := by
            rcases HFC.out wq HB.out with h | ⟨b1, o1, h, _, hc⟩
            · have h1 := zsN_len F
              rw [h, ← HM.out] at h1; simp at h1; omega
            · exact ⟨b1, o1, h, by rw [hc k (by rw [zsN_len, ← HM.out]; exact hkm), zsN_get]⟩
          have hc2 := HOX.out wq (HX.out wq HB.out) j HLT.out
          rw [← HV.out] at hc2
          have HND : Hid (F.Nodup) := hid (by rw [HF.out]; exact fs_nodup zs)
          obtain ⟨u, hu⟩ : ∃ u, u = F.getD k 0 := ⟨_, rfl⟩
          have HU := hid hu
          rw [← hu] at hc1
          clear hkm hu
          by_cases huv : u = v
          · have hub : ((u : Int) == (v : Int)) = true := by rw [beq_iff_eq]; omega
            have hix : F.idxOf v = k := by rw [← huv, HU.out]; exact idx_getD HND.out (by rw [← HM.out]; exact HKM.out)
            have hvF : v ∈ F := by rw [← huv, HU.out]; exact getD_inN (by rw [← HM.out]; exact HKM.out)
            have hri := rn_in (x := zs) (l := l) (j := j) (by rw [← HL.out]; exact HLT.out) (by rw [← HV.out, ← HF.out]; exact hvF)
            rw [← HR.out, ← HV.out] at hri
            have hst := HNI.out
            rw [if_neg (by omega)] at hst
            have HST := hid (hst.step HLP.out (k := k) (by rw [← HF.out, ← HM.out]; exact HKM.out) hri.2.2 (by rw [hri.2.1, ← HF.out, ← HU.out, huv]))
            have HSM := hid hst
            have HRI := hid hri
            have HIX : Hid ((if v ∈ F ∧ F.idxOf v < k + 1 then r + 1 else r) = r + 1) := hid (if_pos ⟨hvF, by omega⟩)
            obtain ⟨q, hq⟩ : ∃ q, q = chg zs (gsT zs l) r := ⟨_, rfl⟩
            have HQ := hid hq
            rw [← hq] at HST
            have hnum := hst.num
            have hahd := hst.ahead
            have hqb : q ≤ r := by rw [hq]; exact chg_le _ _ _
            have hrl : r < 65536 := by
              have h1 := hri.2.2
              have h2 := List.length_filter_le (fun j => decide (j ∈ fsT zs zs.length)) l
              have h3 : (gsT zs l).length ≤ l.length := h2
              rw [← HL.out] at h3
              omega
            have hwl : W2.length = m := by rw [hst.len, ← HF.out, HM.out]
            have HWL := hid hwl
            have hcn : wq.cell? ⟨g1, k, none⟩ = some (.int .i64 ((W2.getD k 0 : Nat) : Int)) := by
              have h := HO.out.cells (g := g1) rfl k _ (nvals_get (by rw [hwl]; exact HKM.out))
              rw [Addr.add_lit] at h
              simpa using h
            generalize W2.getD k 0 = old at *
            have hvi : (u : Int) = (v : Int) := by omega
            clear huv hix hvF hri hst hq hwl
            by_cases hr0 : r = 0
            · subst hr0
              rw [if_pos rfl] at hnum hahd
              subst hnum hahd
              obtain rfl : q = 0 := by omega
              have f1 : ∀ y : World, y.ownsRow g1 3 1 (.slice (some ⟨g1, 0, none⟩) m m) m (nvals W2) → y.frozen? ⟨g1, k, none⟩ = false := fun y h => h.frozenAt k
              have f2 : wq.drew.frozen? ⟨g1, k, none⟩ = false := HO.out.frozenAt k
              have hcn2 : wq.drew.cell? ⟨g1, k, none⟩ = some (.int .i64 (old : Int)) := hcn
              have HO3 : Hid ((wq.drew.setCell ⟨g1, k, none⟩ (.int .i64 0)).ownsRow g1 3 1 (.slice (some ⟨g1, 0, none⟩) m m) m (nvals (W2.set k 0))) := hid (by
                have h := (show wq.drew.ownsRow g1 3 1 (.slice (some ⟨g1, 0, none⟩) m m) m (nvals W2) from HO.out).stored k (.int .i64 ((0 : Nat) : Int))
                rw [nvals_set16] at h
                exact h.1)
              have HB3 := hid (HB.out.drew.setCell (p := ⟨g1, k, none⟩) (Nat.le_refl _) (.int .i64 0))
              clear f1 hqb hrl HO HB hcn
              go_wp2_with fail
              go_region
              go_wp2_with fail
              go_roundw
              case rel => exact ⟨k + 1, 1, _, _, HKM.out, by go_num, rfl, rfl, by rw [HIX.out]; exact HST.out, HO3.out, HB3.out⟩
              case measure => simp [intOf]; have := HKM.out; omega
            · rw [if_neg hr0] at hnum hahd
              have hag : (gsT zs l).getD (r - 1) 0 ∈ fsT zs zs.length := (gs_mem HLP.out).1 (getD_inN (by have := HRI.out.2.2; omega))
              rw [← HF.out] at hag hahd
              obtain ⟨k0, hk0⟩ : ∃ k0, k0 = F.idxOf ((gsT zs l).getD (r - 1) 0) := ⟨_, rfl⟩
              have hk0m : k0 < m := by rw [hk0, HM.out]; exact (idx_at hag).1
              have hk0g : F.getD k0 0 = (gsT zs l).getD (r - 1) 0 := by rw [hk0]; exact (idx_at hag).2
              rw [← hk0] at hahd
              subst hahd
              have hcx := chg_next zs (gsT zs l) (show 0 < r by omega)
              rw [← HQ.out, ← hk0g, HRI.out.2.1, show v = F.getD k 0 by have := HU.out; omega] at hcx
              have HCX := hid hcx
              have HNM := hid hnum
              have ha0 : decide ((k0 : Int) < 0) = false := decide_eq_false (by omega)
              have HC1 := hid (HPC.out wq.drew (some ⟨b1, o1, none⟩) fc _ ((HX.out wq HB.out).drew) (HFC.out wq.drew HB.out.drew) k (by exact HKM.out))
              have HOD : Hid (wq.drew.ownsRow g1 3 1 (.slice (some ⟨g1, 0, none⟩) m m) m (nvals W2)) := hid HO.out
              have HBD := hid HB.out.drew
              have hNb : N2 ≤ 65536 := by omega
              have hNi : (N2 : Int) ≤ 65536 := by omega
              obtain ⟨hp1, hp2⟩ := pce_codes HCK.out (k := k) (by rw [← HF.out, ← HM.out]; exact HKM.out)
              obtain ⟨hp3, hp4⟩ := pce_codes HCK.out (k := k0) (by rw [← HF.out, ← HM.out]; exact hk0m)
              rw [← HF.out] at hp1 hp2 hp3 hp4
              rw [← HN.out] at hp2 hp4
              have HP := hid (And.intro hp1 (And.intro hp2 (And.intro hp3 hp4)))
              have HK0M := hid hk0m
              have HC9 := hid (fun (y : World) (hy : Below g1 w1 y) => HPC.out y (some ⟨b1, o1, none⟩) fc _ (HX.out y hy) (HFC.out y hy) k0 HK0M.out)
              obtain ⟨P1, hP1⟩ : ∃ P1, P1 = pceT zs (F.getD k 0) := ⟨_, rfl⟩
              obtain ⟨P2, hP2⟩ : ∃ P2, P2 = pceT zs (F.getD k0 0) := ⟨_, rfl⟩
              rw [← hP1] at HC1 HP HCX
              rw [← hP2] at HC9 HP HCX
              clear hP1 hP2
              clear hr0 hag hk0 hk0g hcx hnum hqb hrl hNb hp1 hp2 hp3 hp4 hcn HO HB hk0m
              go_wp2_with fail
              go_region
              go_wp2_with fail
              refine HC1.out.mono ?_
              rintro e w3 ⟨p1, rfl, ⟨a1, c1, rfl, hsi1, -, -, -⟩, hb3⟩
              have HS1 := hid hsi1
              have HB3 := hid (HBD.out.trans (hb3.mono (by have := HBD.out.size; rw [HG1.out]; exact this)))
              have HO3 := hid (own_below16 HOD.out hb3)
              have HC2 := hid (HC9.out w3 HB3.out)
              clear hsi1 hb3 HC1 HOD HBD
              go_wp2_with fail
              refine HC2.out.mono ?_
              rintro e w4 ⟨p2, rfl, ⟨a2, c2, rfl, hsi2, -, -, -⟩, hb4⟩
              have HS2 := hid hsi2
              have HS12 := hid (HS1.out.below hb4)
              have HB4 := hid (HB3.out.trans (hb4.mono (by have := HB3.out.size; rw [HG1.out]; exact this)))
              have HO4 := hid (own_below16 HO3.out hb4)
              have HC3 := hid (refSame16_any _ _ w4 a1 a2 c1 c2 P1 P2 HS12.out HS2.out HP.out.1 HP.out.2.2.1 (by have := HP.out.2.1; omega) (by have := HP.out.2.2.2; omega))
              clear hsi2 hb4 HC2 HO3 HB3 HS1 HS12 HS2
              by_cases hpp : P1 = P2
              · rw [decide_eq_true hpp] at HC3
                rw [if_pos hpp] at HCX
                have hNq : (N2 : Int) - 1 = (q : Int) := by have := HCX.out; have := HNM.out; omega
                have HNQ : Hid (N2 = q + 1) := hid (by omega)
                clear hpp
                go_wp2_with fail
                refine HC3.out.mono ?_
                rintro e w5 ⟨rfl, hb5⟩
                have HB5 := hid (HB4.out.trans (hb5.mono (by have := HB4.out.size; rw [HG1.out]; exact this)))
                have HO5 := hid (own_below16 HO4.out hb5)
                have hcn5 : w5.cell? ⟨g1, k, none⟩ = some (.int .i64 ((W2.getD k 0 : Nat) : Int)) := by
                  have h := HO5.out.cells (g := g1) rfl k _ (nvals_get (by rw [HWL.out]; exact HKM.out))
                  rw [Addr.add_lit] at h
                  simpa using h
                generalize W2.getD k 0 = old5 at *
                have f5 := HO5.out.frozenAt k
                have HO6 := hid (HO5.out.stored k (.int .i64 ((q : Nat) : Int)))
                rw [nvals_set16] at HO6
                have HB6 := hid (HB5.out.setCell (p := ⟨g1, k, none⟩) (Nat.le_refl _) (.int .i64 ((q : Nat) : Int)))
                clear hb5 HC3 HO4 HB4 HO5 HB5
                go_wp2_with fail
                go_roundw
                case rel => exact ⟨k + 1, N2, _, _, HKM.out, by go_num, rfl, rfl, by rw [HIX.out, HNQ.out]; exact HST.out, HO6.out.1, HB6.out⟩
                case measure => simp [intOf]; have := HKM.out; omega
              · rw [decide_eq_false hpp] at HC3
                rw [if_neg hpp] at HCX
                obtain ⟨N3, hN3⟩ : ∃ N3, N3 = N2 + 1 := ⟨_, rfl⟩
                have hN3i : (N2 : Int) + 1 = (N3 : Int) := by omega
                have hNq : (N3 : Int) - 1 = (q : Int) := by have := HCX.out; have := HNM.out; omega
                have HNQ : Hid (N3 = q + 1) := hid (by omega)
                have hN3b : (N3 : Int) ≤ 65537 := by omega
                clear hpp hN3
                go_wp2_with fail
                refine HC3.out.mono ?_
                rintro e w5 ⟨rfl, hb5⟩
                have HB5 := hid (HB4.out.trans (hb5.mono (by have := HB4.out.size; rw [HG1.out]; exact this)))
                have HO5 := hid (own_below16 HO4.out hb5)
                have hcn5 : w5.cell? ⟨g1, k, none⟩ = some (.int .i64 ((W2.getD k 0 : Nat) : Int)) := by
                  have h := HO5.out.cells (g := g1) rfl k _ (nvals_get (by rw [HWL.out]; exact HKM.out))
                  rw [Addr.add_lit] at h
                  simpa using h
                generalize W2.getD k 0 = old5 at *
                have f5 := HO5.out.frozenAt k
                have HO6 := hid (HO5.out.stored k (.int .i64 ((q : Nat) : Int)))
                rw [nvals_set16] at HO6
                have HB6 := hid (HB5.out.setCell (p := ⟨g1, k, none⟩) (Nat.le_refl _) (.int .i64 ((q : Nat) : Int)))
                clear hb5 HC3 HO4 HB4 HO5 HB5
                go_wp2_with fail
                go_roundw
                case rel => exact ⟨k + 1, N3, _, _, HKM.out, by go_num, rfl, rfl, by rw [HIX.out, HNQ.out]; exact HST.out, HO6.out.1, HB6.out⟩
                case measure => simp [intOf]; have := HKM.out; omega
          · have hub : ((u : Int) == (v : Int)) = false := by rw [beq_eq_false_iff_ne]; omega
            have HIX : Hid ((if v ∈ F ∧ F.idxOf v < k + 1 then r + 1 else r) = if v ∈ F ∧ F.idxOf v < k then r + 1 else r) := hid (by
              by_cases hvF : v ∈ F
              · have hne : F.idxOf v ≠ k := fun e => huv (by rw [HU.out, ← e]; exact (idx_at hvF).2)
                by_cases h : F.idxOf v < k
                · rw [if_pos ⟨hvF, by omega⟩, if_pos ⟨hvF, h⟩]
                · rw [if_neg (by omega), if_neg (by omega)]
              · rw [if_neg (fun h => hvF h.1), if_neg (fun h => hvF h.1)])
            have HOD : Hid (wq.drew.ownsRow g1 3 1 (.slice (some ⟨g1, 0, none⟩) m m) m (nvals W2)) := hid HO.out
            have HBD := hid HB.out.drew
            clear huv HO HB
            go_wp2_with fail
            go_region
            go_wp2_with fail
            go_roundw
            case rel => exact ⟨k + 1, N2, W2, _, HKM.out, by go_num, rfl, rfl, by rw [HIX.out]; exact HNI.out, HOD.out, HBD.out⟩
            case measure => simp [intOf]; have := HKM.out; omega
        · have hki : (k < m) = False := eq_false hkm
          obtain rfl : m = k := by omega
          have HRN : Hid ((if v ∈ F ∧ F.idxOf v < m then r + 1 else r) = rnT zs l (j + 1)) := hid (by
            by_cases hvF : v ∈ F
            · rw [if_pos ⟨hvF, by rw [HM.out]; exact (idx_at hvF).1⟩, HR.out]
              exact (rn_in (by rw [← HL.out]; exact HLT.out) (by rw [← HV.out, ← HF.out]; exact hvF)).1.symm
            · rw [if_neg (fun h => hvF h.1), HR.out]
              exact (rn_out (by rw [← HL.out]; exact HLT.out) (by rw [← HV.out, ← HF.out]; exact hvF)).symm)
          clear hkm
          go_wp2_with fail
          go_roundw
          case rel => exact ⟨j + 1, N2, W2, ah2, HLT.out, by go_num, rfl, rfl, by rw [← HRN.out]; exact HNI.out, HO.out, HB.out⟩
          case measure => simp [intOf]; have := HLT.out; omega
    · have hji : (j < L) = False := eq_false hlt
      obtain rfl : L = j := by omega
      have hfin := HNI.out
      rw [HL.out, rn_all] at hfin
      obtain ⟨hf1, hf2⟩ := hfin.done HLP.out
      have HF1 := hid hf1
      have HF2 := hid hf2
      clear hlt hfin hf1 hf2
      go_wp2_with fail
      go_ret2
      exact ⟨_, by rw [← HF2.out] <;> rfl, by rw [← HF1.out]; exact own_weaken HO.out (by rw [HG1.out]; exact HB1.out.size), HX.out _ HB.out⟩
end Go.Proofs.Ytmllpednaibeeaa
namespace Go.Inc
open Go.RowKit
/-- Heads and tails of all codes' buckets. -/
def hdsT (x : List Int) : List Nat := (List.range (grT x x.length + 1)).map fun s => hdC x.length (cdT x) s
/-- These are the first Ss. -/
def isFsI (x ls : List Int) : Prop := ∃ fs, ls = zsN fs ∧ isFs x fs
/-- First Ss, ordered so. -/
def bkT (x : List Int) (l : List Nat) : List Nat := l.map fun k => (fsT x x.length).getD k 0
end Go.Inc
namespace Go.Proofs.Ytmllpednaibeeaa
open Go.RowKit Go.Inc
end Go.Proofs.Ytmllpednaibeeaa
namespace Go.Inc
open Go.RowKit
theorem bk_mem {x : List Int} {l : List Nat} (hl : ∀ k, k ∈ l ↔ k < (fsT x x.length).length) (j : Nat) : j ∈ bkT x l ↔ j ∈ (srT x x.length).filter fun j => decide (j ∈ fsT x x.length) := by
  rw [List.mem_filter, srT_mem, decide_eq_true_iff]
  unfold bkT
  rw [List.mem_map]
  constructor
  · rintro ⟨k, hk, rfl⟩
    have h1 := getD_inN ((hl k).1 hk)
    exact ⟨(inF_mem.1 h1).2.1, h1⟩
  · rintro ⟨-, h⟩
    obtain ⟨k, hk, rfl⟩ := mem_getD h
    exact ⟨k, (hl k).2 hk, rfl⟩
/-- The first Ss in the order of the reduced text's suffixes. -/
theorem bk_sr {x : List Int} (h : InT x) (hx : x.length ≤ 65536) (h2 : 2 ≤ (fsT x x.length).length) : bkT x (srT (rdT x) (rdT x).length) = (srT x x.length).filter fun j => decide (j ∈ fsT x x.length) := by
  have hlen := rd_len x
  refine rise_one (x := x) ?_ ((srT_sorted (Nat.le_refl _)).filter _) (bk_mem fun k => by rw [srT_mem, hlen])
  unfold bkT
  rw [List.pairwise_map]
  refine List.Pairwise.imp_of_mem (R := fun a b => lsT (rdT x) a b = true) (fun {a b} ha hb hab => ?_) (srT_sorted (x := rdT x) (Nat.le_refl _))
  have ha' := srT_mem.1 ha
  have hb' := srT_mem.1 hb
  rw [hlen] at ha' hb'
  exact rd_ls h hx h2 ((fsT x x.length).length - a) a b (by omega) ha' hb' hab
theorem bk_one {x : List Int} (h1 : (fsT x x.length).length = 1) : bkT x [0] = (srT x x.length).filter fun j => decide (j ∈ fsT x x.length) := by
  refine rise_one (x := x) ?_ ((srT_sorted (Nat.le_refl _)).filter _) (bk_mem fun k => by rw [h1, List.mem_singleton]; omega)
  exact List.pairwise_singleton _ _
theorem sr_isFs (x : List Int) : isFs x ((srT x x.length).filter fun j => decide (j ∈ fsT x x.length)) := by
  refine ⟨(nodup_rise (srT_sorted (x := x) (Nat.le_refl _))).filter _, fun j => ?_⟩
  rw [List.mem_filter, srT_mem, decide_eq_true_iff]
  exact ⟨fun h => h.2, fun h => ⟨(inF_mem.1 h).2.1, h⟩⟩
theorem fs_some {x : List Int} (h : InT x) (hn : ¬ x.Nodup) : 0 < (fsT x x.length).length := by
  have h1 : 1 < x.length := by
    rcases Nat.lt_or_ge 1 x.length with h1 | h1
    · exact h1
    · refine absurd ?_ hn
      match x, h1 with
      | [], _ => exact List.nodup_nil
      | [a], _ => exact List.nodup_cons.2 ⟨by simp, List.nodup_nil⟩
      | a :: b :: t, h1 => simp at h1
  exact List.length_pos_of_mem (fs_last h h1)
/-- Codes that are all unlike tell the order. -/
theorem hd_self {n : Nat} {c : Nat → Nat} {j : Nat} (hj : j < n) : hdC n c (c j) < n := by
  have h1 := hdC_succ n c (c j)
  have h2 := hdC_le n c (c j + 1)
  have h3 : 0 < szC n c (c j) := List.length_pos_of_mem (List.mem_filter.2 ⟨List.mem_range.2 hj, beq_self_eq_true _⟩)
  omega
theorem hd_unlike {x : List Int} (h : InT x) (hn : x.Nodup) {i j : Nat} (hi : i < x.length) (hj : j < x.length) (e : hdC x.length (cdT x) (cdT x i) = hdC x.length (cdT x) (cdT x j)) : i = j := by
  have key : ∀ {i j : Nat}, i < x.length → j < x.length → cdT x i < cdT x j → hdC x.length (cdT x) (cdT x i) < hdC x.length (cdT x) (cdT x j) := fun {i j} hi hj hlt => by
    have h1 := hdC_succ x.length (cdT x) (cdT x i)
    have h2 := hdC_mono x.length (cdT x) (show cdT x i + 1 ≤ cdT x j from hlt)
    have h3 : 0 < szC x.length (cdT x) (cdT x i) := List.length_pos_of_mem (List.mem_filter.2 ⟨List.mem_range.2 hi, beq_self_eq_true _⟩)
    omega
  have hc : cdT x i = cdT x j := by
    rcases Nat.lt_trichotomy (cdT x i) (cdT x j) with h1 | h1 | h1
    · have := key hi hj h1; omega
    · exact h1
    · have := key hj hi h1; omega
  have h1 := h.cd hi
  have h2 := h.cd hj
  rw [hc, ← h2] at h1
  have h3 := at_is hn hi rfl
  rw [h1, at_is hn hj rfl] at h3
  exact h3.symm
theorem un_sr {x : List Int} (h : InT x) {l : List Nat} (hl : l.length = x.length) (hp : ∀ j, j < x.length → l.getD (hdC x.length (cdT x) (cdT x j)) 0 = j) : l = srT x x.length := by
  obtain ⟨W, hW⟩ : ∃ W, W = (List.range x.length).map fun j => hdC x.length (cdT x) (cdT x j) := ⟨_, rfl⟩
  have hWl : W.length = (zsN l).length := by rw [hW, zsN_len, hl]; simp
  have hWg : ∀ j, j < x.length → W.getD j 0 = hdC x.length (cdT x) (cdT x j) := fun j hj => by
    rw [hW, List.getD_eq_getElem?_getD, List.getElem?_map, List.getElem?_range hj]; rfl
  obtain ⟨hok, hWe⟩ := tnT_is (l := zsN l) (W := W) hWl fun j hj => by
    rw [zsN_len, hl] at hj
    rw [hWg j hj, zsN_len, hl, zsN_get, hp j hj]
    exact ⟨hd_self hj, rfl⟩
  have hlt : ∀ i, i < l.length → l.getD i 0 < x.length := fun i hi => by
    have := okT_in hok (getD_mem (l := zsN l) (i := i) (by rw [zsN_len]; exact hi))
    rw [zsN_get, zsN_len] at this
    omega
  have hback : ∀ i, i < l.length → hdC x.length (cdT x) (cdT x (l.getD i 0)) = i := fun i hi => by
    have h1 := hlt i hi
    rw [← hWg _ h1, hWe, tnT_get (by rw [zsN_len]; omega)]
    exact at_is (okT_nodup hok) (by rw [zsN_len]; exact hi) (zsN_get i)
  refine srT_is ?_ fun j => ?_
  · rw [List.pairwise_iff_getElem]
    intro i k hi hk hik
    have e1 : l[i] = l.getD i 0 := by rw [List.getD_eq_getElem?_getD, List.getElem?_eq_getElem hi]; rfl
    have e2 : l[k] = l.getD k 0 := by rw [List.getD_eq_getElem?_getD, List.getElem?_eq_getElem hk]; rfl
    rw [e1, e2]
    have h1 := hback i hi
    have h2 := hback k hk
    have h3 := hlt i hi
    have h4 := hlt k hk
    rw [lsT_step h3 h4, h.cd h3, h.cd h4]
    refine .inl ?_
    rcases Nat.lt_or_ge (cdT x (l.getD i 0)) (cdT x (l.getD k 0)) with h5 | h5
    · omega
    · have := hdC_mono x.length (cdT x) h5
      omega
  · constructor
    · intro hj
      obtain ⟨i, hi, rfl⟩ := mem_getD hj
      exact hlt i hi
    · intro hj
      have h1 := hp j hj
      have h2 := hd_self (c := cdT x) hj
      rw [← h1]
      exact getD_inN (by omega)
theorem hds_at {x : List Int} {s : Nat} (h : s < grT x x.length + 1) : (hdsT x).getD s 0 = hdC x.length (cdT x) s := by
  unfold hdsT
  rw [List.getD_eq_getElem?_getD, List.getElem?_map, List.getElem?_range h]; rfl
/-- What orders codes that are all unlike. -/
theorem un_all {x : List Int} (h : InT x) (hn : x.Nodup) : ∃ hd cd : Nat → Nat, (∀ t, t < x.length → x.getD t 0 = ((cd t : Nat) : Int) ∧ cd t < (hdsT x).length ∧ (hdsT x).getD (cd t) 0 = hd t ∧ hd t < x.length) ∧ (∀ i j, i < x.length → j < x.length → hd i = hd j → i = j) ∧ ∀ l : List Nat, l.length = x.length → (∀ j, j < x.length → l.getD (hd j) 0 = j) → l = srT x x.length := by
  refine ⟨fun t => hdC x.length (cdT x) (cdT x t), cdT x, fun t ht => ?_, fun i j hi hj e => hd_unlike h hn hi hj e, fun l hl hp => un_sr h hl hp⟩
  have h1 := grT_le x x.length t ht
  have h2 : (hdsT x).length = grT x x.length + 1 := by unfold hdsT; simp
  exact ⟨h.cd ht, by omega, hds_at (by omega), hd_self ht⟩
/-- The levels: each is the one ahead reduced; the last one has none below it. -/
structure StT (S : List (List Int)) : Prop where
  pos : 0 < S.length
  ok : ∀ y ∈ S, ckT y = 0 ∧ y.length ≤ 65536
  down : ∀ i, i + 1 < S.length → S.getD (i + 1) [] = rdT (S.getD i []) ∧ 2 ≤ (fsT (S.getD i []) (S.getD i []).length).length
  last : (S.getD (S.length - 1) []).Nodup ∨ (fsT (S.getD (S.length - 1) []) (S.getD (S.length - 1) []).length).length < 2
theorem stT_lv {x : List Int} (h : InT x) (hx : x.length ≤ 65536) (hck : ckT x = 0) : StT (lvT x) := by
  generalize hn : x.length = n
  induction n using Nat.strongRecOn generalizing x with
  | ind n ih =>
    have hp := h.right.1
    obtain ⟨h1, -, -, h4, h5⟩ := lvT_ok h hx hck hp
    rw [lvT_eq h hx] at h1 h4 h5 ⊢
    by_cases hc : x.Nodup ∨ (fsT x x.length).length < 2
    · rw [if_pos hc] at h1 h4 h5 ⊢
      exact ⟨h5, fun y hy => ⟨(h1 y hy).1, Nat.le_trans (h1 y hy).2 hx⟩, fun i hi => by simp at hi, hc⟩
    · rw [if_neg hc] at h1 h4 h5 ⊢
      have h2 : 2 ≤ (fsT x x.length).length := by
        rcases Nat.lt_or_ge (fsT x x.length).length 2 with h | h
        · exact absurd (.inr h) hc
        · exact h
      have hrk := rd_ok h hx h2
      have hr := InT.of hrk
      have hf := fs_half (x := x)
      have hlen := rd_len x
      have hS := ih (rdT x).length (by omega) hr (by omega) hrk rfl
      obtain ⟨-, -, -, g4, -⟩ := lvT_ok hr (by omega) hrk hr.right.1
      refine ⟨h5, fun y hy => ⟨(h1 y hy).1, Nat.le_trans (h1 y hy).2 hx⟩, fun i hi => ?_, ?_⟩
      · match i with
        | 0 => exact ⟨g4, h2⟩
        | i + 1 =>
          simp only [List.length_cons] at hi
          exact hS.down i (by omega)
      · have h6 := hS.pos
        have h7 := hS.last
        rw [List.length_cons, show (lvT (rdT x)).length + 1 - 1 = ((lvT (rdT x)).length - 1) + 1 by omega]
        exact h7
theorem lvT_first {x : List Int} (h : InT x) (hx : x.length ≤ 65536) (hck : ckT x = 0) : (lvT x).getD 0 [] = x := (lvT_ok h hx hck h.right.1).2.2.2.1
theorem StT.at {S : List (List Int)} (h : StT S) {i : Nat} (hi : i < S.length) : ckT (S.getD i []) = 0 ∧ (S.getD i []).length ≤ 65536 := by
  refine h.ok _ ?_
  rw [List.getD_eq_getElem?_getD, List.getElem?_eq_getElem hi]
  exact List.getElem_mem hi
/-- So many halvings: the highest bit's place. -/
theorem dpT_bits : ∀ n : Nat, dpT n = if n = 0 then 0 else Nat.log2 n + 1 := by
  intro n
  induction n using Nat.strongRecOn with
  | ind n ih =>
    rcases Nat.eq_zero_or_pos n with h | h
    · subst h; rfl
    · rw [dpT_eq h, ih (n / 2) (by omega), if_neg (show ¬ n = 0 by omega)]
      by_cases h1 : n = 1
      · subst h1; decide +kernel
      · rw [if_neg (by omega)]
        conv => rhs; rw [Nat.log2_def, if_pos (by omega)]
        omega
end Go.Inc
namespace Go.Inc
open Go.RowKit
theorem lvT_cons {x : List Int} (h : InT x) (hx : x.length ≤ 65536) : x :: (lvT x).tail = lvT x := by
  rw [lvT_eq h hx]
  by_cases hc : x.Nodup ∨ (fsT x x.length).length < 2
  · rw [if_pos hc]; rfl
  · rw [if_neg hc]; rfl
theorem owns_below {w w' : World} {B n s : Nat} {T : TypeId} {v : Value} {xs : List Value} (h : w.ownsRow B T s v n xs) (hb : Below w.heap.size w w') : w'.ownsRow B T s v n xs := by
  refine ⟨h.1, ?_⟩
  rcases h.2 with h | ⟨g, cap, cur, e, h1, h2, h3⟩
  · exact .inl h
  · refine .inr ⟨g, cap, cur, e, h1, ?_, h3⟩
    have hg : g < w.heap.size := by
      rcases Nat.lt_or_ge g w.heap.size with h | h
      · exact h
      · rw [Array.getElem?_eq_none h] at h2; cases h2
    rw [hb.block g hg]; exact h2
theorem owns_first {z : World} {T : TypeId} {B : Nat} {u : Value} (hB : B ≤ z.heap.size) : (z.alloc (.cells #[u] T)).ownsRow B T 1 (.slice (some ⟨z.heap.size, 0, none⟩) 1 1) 1 [u] :=
  ⟨rfl, .inr ⟨z.heap.size, 1, #[u], rfl, hB, heap_alloc_new z _, Nat.le_refl _, by unfold maxLen; omega, rfl, rfl⟩⟩
theorem owns_lt {w : World} {B n s g : Nat} {T : TypeId} {u : Value} {xs : List Value} (h : w.ownsRow B T s u n xs) (hg : u.ownBlock = some g) : g < w.heap.size := by
  rcases h.2 with ⟨rfl, -⟩ | ⟨g', cap, cur, rfl, h1, h2, h3⟩
  · cases hg
  · injection hg with hg
    have hg' : g' = g := hg
    subst hg'
    rcases Nat.lt_or_ge g' w.heap.size with h | h
    · exact h
    · rw [Array.getElem?_eq_none h] at h2; cases h2
/-- Not in that value's own row. -/
def Av (u : Value) : Nat → Prop := fun b => some b ≠ u.ownBlock
theorem So.appended {w w' : World} {v0 v1 v : Value} {zs : List Int} (h : So (Av v0) w v zs) (hg : w.grownBy w' v0.ownBlock) (hn : Nw w v0 v1) : So (Av v1) w' v zs := by
  obtain ⟨a, c, rfl, hs, h1⟩ := h
  have h2 : Si (fun b => Av v1 b ∧ Av v0 b) w a zs := hs.mono fun b hb hl => ⟨by
    rcases hn with e | ⟨j, e, hj⟩
    · unfold Av; rw [e]; exact hb
    · unfold Av; rw [e]; intro h
      have h' : b = j := Option.some.inj h
      omega, hb⟩
  exact ⟨a, c, rfl, (h2.kept fun b hb hl => hg.block b hl hb.2).mono fun b hb _ => hb.1, h1⟩
def lnOf : Value → Nat
  | .slice _ n _ => n
  | _ => 0
/-- These values are slices of these integers. -/
def Rv (ok : Nat → Prop) (w : World) (rs : List Value) (O : List (List Int)) : Prop := rs.length = O.length ∧ ∀ i, i < O.length → So ok w (rs.getD i (.slice none 0 0)) (O.getD i [])
theorem Rv.below {ok : Nat → Prop} {w w' : World} {rs : List Value} {O : List (List Int)} (h : Rv ok w rs O) (hb : Below w.heap.size w w') : Rv ok w' rs O :=
  ⟨h.1, fun i hi => (h.2 i hi).below hb⟩
theorem Rv.snoc {ok : Nat → Prop} {w : World} {rs : List Value} {O : List (List Int)} (h : Rv ok w rs O) {v : Value} {y : List Int} (hv : So ok w v y) : Rv ok w (rs ++ [v]) (O ++ [y]) := by
  have h0 := h.1
  refine ⟨by simp; exact h0, fun i hi => ?_⟩
  rw [List.length_append, List.length_singleton] at hi
  rw [List.getD_eq_getElem?_getD, List.getD_eq_getElem?_getD]
  rcases Nat.lt_or_ge i O.length with h1 | h1
  · rw [List.getElem?_append_left (by omega), List.getElem?_append_left h1, ← List.getD_eq_getElem?_getD, ← List.getD_eq_getElem?_getD]
    exact h.2 i h1
  · rw [List.getElem?_append_right (by omega), List.getElem?_append_right h1, h0, show i - O.length = 0 by omega]
    exact hv
theorem Ro.owned {ok : Nat → Prop} {w : World} {B n : Nat} {T : TypeId} {u : Value} {rs : List Value} {O : List (List Int)} (h : w.ownsRow B T 1 u n rs) (hr : Rv ok w rs O) : ∃ a c, u = .slice a n c ∧ n = O.length ∧ Ro (fun _ => True) w u O := by
  have hn : n = O.length := by have := h.1; rw [← hr.1, this, Nat.mul_one]
  rcases h.2 with ⟨rfl, h0⟩ | ⟨g, cap, cur, rfl, hbg, hg, hnc, hcm, hcs, htk⟩
  · rw [h0] at hn
    have : O = [] := List.eq_nil_of_length_eq_zero hn.symm
    subst this
    exact ⟨none, 0, by rw [h0], by rw [h0]; rfl, none, 0, rfl, Nat.le_refl _, Nat.zero_le _, .inl rfl⟩
  · refine ⟨some ⟨g, 0, none⟩, cap, rfl, hn, some ⟨g, 0, none⟩, cap, by rw [hn], by rw [← hn]; exact hnc, hcm, .inr ⟨g, 0, rfl, trivial, fun i hi => ⟨rs.getD i (.slice none 0 0), ?_, (hr.2 i hi).mono fun _ _ _ => trivial⟩⟩⟩
    have hi2 : i < rs.length := by rw [hr.1]; exact hi
    rw [cell_of_row _ _ _ _ _ _ hg, Nat.zero_add, ← Array.getElem?_toList, List.getD_eq_getElem?_getD, List.getElem?_eq_getElem hi2, Option.getD_some, ← List.getElem?_eq_getElem hi2, ← htk, List.getElem?_take, if_pos (by rw [Nat.mul_one]; omega)]
end Go.Inc
namespace Go.Proofs.Ytmllpednaibeeaa
open Go.RowKit Go.Inc
theorem refInduce_so (ok ok' : Nat → Prop) (x : World) (v v' : Value) (zs : List Int) (fs : List Nat) (h : So ok x v zs) (h' : So ok' x v' (zsN fs)) (hl : zs.length ≤ 65536) (hck : ckT zs = 0) (hfs : isFs zs fs) :
    Calls Try.prog 35 #[v, v'] x fun e w' => ∃ u, e = .returned u ∧ So (fun g => x.heap.size ≤ g) w' u (zsN (indT zs fs)) ∧ Below x.heap.size x w' := by
  obtain ⟨a, c, rfl, hs, -⟩ := h
  obtain ⟨b, d, rfl, hf, -⟩ := h'
  rw [zsN_len]
  refine (refInduce_any ok ok' x a b c d zs fs hs hf hck (by omega) hfs).mono ?_
  rintro e w' ⟨u, rfl, h1, h2⟩
  exact ⟨u, rfl, So.ownedN h1, h2⟩
theorem refNames_so (ok ok' : Nat → Prop) (x : World) (v v' : Value) (zs : List Int) (l : List Nat) (h : So ok x v zs) (h' : So ok' x v' (zsN l)) (hl : zs.length ≤ 65536) (hck : ckT zs = 0) (hlp : ByP zs l) (hll : l.length = zs.length) :
    Calls Try.prog 34 #[v, v'] x fun e w' => ∃ u, e = .returned (.tuple #[u, .int .i64 ((ncT zs l : Nat) : Int)]) ∧ So (fun g => x.heap.size ≤ g) w' u (zsN (nmT zs l)) ∧ Below x.heap.size x w' := by
  obtain ⟨a, c, rfl, hs, hc, hm, -⟩ := h
  obtain ⟨b, d, rfl, hf, -⟩ := h'
  rw [zsN_len]
  refine (refNames_any ok ok' x a b c d zs l hs ⟨hc, hm⟩ hf hck (by omega) hlp hll).mono ?_
  rintro e w' ⟨u, rfl, h1, h2⟩
  exact ⟨u, rfl, So.ownedN h1, h2⟩
theorem infoRowS : (Try.prog.info? 22).map (fun i => (i.zero, i.size, i.bytes)) = some (some (.slice none 0 0), 1, 24) := by kernel_rfl
set_option maxRecDepth 20000 in
set_option maxHeartbeats 4000000 in
theorem refLevels_so (ok : Nat → Prop) (x : World) (v : Value) (zs : List Int) (h : So ok x v zs) (hl : zs.length ≤ 65536) (hck : ckT zs = 0) :
    Calls Try.prog 17 #[v] x fun e w' => ∃ u, e = .returned u ∧ Ro (fun _ => True) w' u (lvT zs) ∧ Below x.heap.size x w' := by
  have HZL := hid hl
  have HCK := hid hck
  have HI := hid (InT.of hck)
  have HV := hid (So.mono h fun _ _ _ => trivial : So (fun _ => True) x v zs)
  have HLC := hid (lvT_cons HI.out hl)
  have HLB : Hid ((lvT zs).length ≤ 65536) := hid (by
    have h1 := (lvT_ok HI.out hl hck HI.out.right.1).2.1
    have h2 := dpT_le zs.length
    omega)
  clear hl hck h
  obtain ⟨va, vc, rfl, -⟩ := HV.out
  obtain ⟨n, hn⟩ : ∃ n, n = zs.length := ⟨_, rfl⟩
  have HN := hid hn
  rw [← hn] at HV ⊢
  clear hn
  obtain ⟨x1, hx1⟩ : ∃ x1, x1 = x.alloc (.cells #[.slice va n vc] 22) := ⟨_, rfl⟩
  have HB1 : Hid (Below x.heap.size x x1) := hid (by rw [hx1]; exact (Below.refl _ _).alloc (Nat.le_refl _) _)
  have HO1 : Hid (x1.ownsRow x.heap.size 22 1 (.slice (some ⟨x.heap.size, 0, none⟩) 1 1) 1 [.slice va n vc]) := hid (by rw [hx1]; exact owns_first (Nat.le_refl _))
  have HX1 := hid hx1
  have HA1 : Hid (So (Av (.slice (some ⟨x.heap.size, 0, none⟩) 1 1)) x (.slice va n vc) zs) := hid (So.mono HV.out fun b _ hb e => by have e' : b = x.heap.size := Option.some.inj e; omega)
  clear hx1
  go_enter Try.func17, Try.ntmps17
  go_wp2_with fail
  rw [← HX1.out]
  go_loopw [0, 3, 4, 5] (fun v u _ _ wr => ∃ (y : List Int) (O : List (List Int)) (rs : List Value), So (Av u) wr v y ∧ ckT y = 0 ∧ y.length ≤ zs.length ∧ O ++ (lvT y).tail = lvT zs ∧ wr.ownsRow x.heap.size 22 1 u O.length rs ∧ Rv (Av u) wr rs O ∧ Below x.heap.size x wr) (fun v _ _ _ _ => lnOf v)
  case atStart => exact ⟨zs, [zs], [.slice va n vc], HA1.out.below HB1.out, HCK.out, Nat.le_refl _, HLC.out, HO1.out, ⟨rfl, fun i hi => by
    have : i = 0 := by simpa using hi
    subst this
    exact HA1.out.below HB1.out⟩, HB1.out⟩
  case round =>
    clear HB1 HO1 HX1 HA1
    obtain ⟨y, O, rs, hy, hck, hyl, hO, hown, hrv, hb⟩ := hrel
    have hy6 : y.length ≤ 65536 := Nat.le_trans hyl HZL.out
    have HYL := hid hy6
    have HYZ := hid hyl
    have HYK := hid hck
    have HYI := hid (InT.of hck)
    have HYV := hid hy
    have HOE := hid hO
    have HOW := hid hown
    have HRV := hid hrv
    have HB := hid hb
    have HLY := hid (lvT_eq HYI.out hy6)
    have HC := hid (refUnlike_so _ wr _ y hy hy6)
    obtain ⟨ya, yc, rfl, -⟩ := hy
    obtain ⟨k, hk⟩ : ∃ k, k = y.length := ⟨_, rfl⟩
    have HKY := hid hk
    rw [← hk] at HYV HC ⊢
    obtain ⟨q, hq⟩ : ∃ q, q = O.length := ⟨_, rfl⟩
    have HQ := hid hq
    rw [← hq] at HOW
    clear hck hyl hy6 hO hown hrv hb hk hq
    by_cases hnd : y.Nodup
    · rw [decide_eq_true hnd] at HC
      have HE : Hid (O = lvT zs) := hid (by have h1 := HOE.out; rw [HLY.out, if_pos (.inl hnd)] at h1; simpa using h1)
      clear hnd
      go_wp2_with fail
      refine HC.out.mono ?_
      rintro e w1 ⟨rfl, hb1⟩
      have HR1 := hid (Ro.owned (owns_below HOW.out hb1) (HRV.out.below hb1))
      have HBa := hid (HB.out.trans (hb1.mono HB.out.size))
      clear hb1 HC HB HOW HRV
      go_wp2_with fail
      go_ret
      obtain ⟨a, c, h1, h2, h3⟩ := HR1.out
      rw [HE.out] at h3
      exact ⟨_, rfl, h3, HBa.out⟩
    · rw [decide_eq_false hnd] at HC
      have HND := hid hnd
      clear hnd
      obtain ⟨F, hF⟩ : ∃ F, F = fsT y y.length := ⟨_, rfl⟩
      have HF := hid hF
      obtain ⟨m, hm⟩ : ∃ m, m = F.length := ⟨_, rfl⟩
      have HM := hid hm
      have hml := fs_half (x := y)
      rw [← hF, ← hm] at hml
      have hmb : (m : Int) ≤ 65536 := by have := HYL.out; omega
      have HML := hid hml
      clear hF hm hml
      go_wp2_with fail
      refine HC.out.mono ?_
      rintro e w1 ⟨rfl, hb1⟩
      have HO1 := hid (owns_below HOW.out hb1)
      have HR1 := hid (HRV.out.below hb1)
      have HV1 := hid (HYV.out.below hb1)
      have HB1 := hid (HB.out.trans (hb1.mono HB.out.size))
      have HC := hid (refFirsts_so _ w1 _ y HV1.out HYL.out HYI.out.right)
      rw [← HF.out] at HC
      clear hb1 HOW HRV HYV HB
      go_wp2_with fail
      refine HC.out.mono ?_
      rintro e w2 ⟨r2, rfl, h2, hb1⟩
      have HO2 := hid (owns_below HO1.out hb1)
      have HR2 := hid (HR1.out.below hb1)
      have HV2 := hid (HV1.out.below hb1)
      have HB2 := hid (HB1.out.trans (hb1.mono HB1.out.size))
      have HC := hid (refInduce_so _ _ w2 _ r2 y F HV2.out h2 HYL.out HYK.out (by rw [HF.out]; exact isFs_own y))
      obtain ⟨l, hle⟩ : ∃ l, l = indT y F := ⟨_, rfl⟩
      have HLE := hid hle
      rw [← hle] at HC
      clear hb1 h2 hle HO1 HR1 HV1 HB1
      go_wp2_with fail
      refine HC.out.mono ?_
      rintro e w3 ⟨r3, rfl, h3, hb1⟩
      have HO3 := hid (owns_below HO2.out hb1)
      have HR3 := hid (HR2.out.below hb1)
      have HV3 := hid (HV2.out.below hb1)
      have HB3 := hid (HB2.out.trans (hb1.mono HB2.out.size))
      have hby := ind_byP HYI.out (isFs_own y)
      rw [← HF.out, ← HLE.out] at hby
      have HC := hid (refNames_so _ _ w3 _ r3 y l HV3.out h3 HYL.out HYK.out hby.1 hby.2)
      have hrd : zsN (nmT y l) = rdT y := by unfold rdT; rw [← HF.out, ← HLE.out]
      rw [hrd] at HC
      obtain ⟨N, hN⟩ : ∃ N, N = ncT y l := ⟨_, rfl⟩
      rw [← hN] at HC
      clear hb1 h3 hby hrd hN HO2 HR2 HV2 HB2
      go_wp2_with fail
      refine HC.out.mono ?_
      rintro e w4 ⟨r4, rfl, h4, hb1⟩
      have HO4 := hid (owns_below HO3.out hb1)
      have HR4 := hid (HR3.out.below hb1)
      have HB4 := hid (HB3.out.trans (hb1.mono HB3.out.size))
      have hrl : (rdT y).length = m := by rw [rd_len, ← HF.out, ← HM.out]
      have HRL := hid hrl
      have HN4 := hid (So.mono h4 fun b hb _ e => by have := owns_lt HO3.out e.symm; omega : So (Av u3) w4 r4 (rdT y))
      obtain ⟨ra, rc, rfl, -⟩ := h4
      rw [hrl] at HN4 ⊢
      clear hb1 hrl HO3 HR3 HV3 HB3 HC
      by_cases h2m : m < 2
      · have h2i : decide ((m : Int) < 2) = true := decide_eq_true (by omega)
        have h2j : (m : Int) < 2 := by omega
        have HE : Hid (O = lvT zs) := hid (by
          have h1 := HOE.out
          rw [HLY.out, if_pos (.inr (by rw [← HF.out, ← HM.out]; exact h2m))] at h1; simpa using h1)
        have HRO := hid (Ro.owned HO4.out HR4.out)
        clear h2m HO4 HR4
        go_wp2_with fail
        go_ret
        obtain ⟨a, c, h1, h2, h3⟩ := HRO.out
        rw [HE.out] at h3
        exact ⟨_, rfl, h3, HB4.out⟩
      · have h2i : decide ((m : Int) < 2) = false := decide_eq_false (by omega)
        have h2j : (2 : Int) ≤ (m : Int) := by omega
        have h22 : 2 ≤ (fsT y y.length).length := by rw [← HF.out, ← HM.out]; omega
        have hrk := rd_ok HYI.out HYL.out h22
        have HRK := hid hrk
        have hnx : (O ++ [rdT y]) ++ (lvT (rdT y)).tail = lvT zs := by
          rw [← HOE.out, HLY.out, if_neg (fun h => by
            rcases h with h | h
            · exact HND.out h
            · omega), List.tail_cons, List.append_assoc, List.singleton_append, lvT_cons (InT.of hrk) (by have h1 := HML.out; have h3 := HRL.out; have h4 := HYL.out; omega)]
        have HNX := hid hnx
        have hqb : q + 1 ≤ 65536 := by
          have h1 := congrArg List.length hnx
          rw [List.length_append, List.length_append, List.length_singleton, ← HQ.out] at h1
          have := HLB.out
          omega
        have HQB := hid hqb
        clear h2m h22 hrk hnx hqb
        go_wp2_with (refine wpList_append_nx rfl (.tmp 24) (.tmp 26) 35 rfl x.heap.size 22 (.slice none 0 0) 24 Try.underlying35 infoRowS rfl _ _ _ rfl (HO4.out.alloc _) (some ⟨w4.heap.size, 0, none⟩) 1 1 [.slice ra m rc] rfl rfl (by intro h; cases h) (one_new w4 _ _) (by simp [Value.oneCell']) (by have := HQB.out; unfold maxLen; omega) (by have := HQB.out; omega) (by have := HB4.out.size; simp; omega) ?_)
        intro v5 w5 hv5 hg5 hnw
        have hb5 := below_owned (w0 := x) (HB4.out.alloc HB4.out.size _) (HO4.out.alloc _) (Nat.le_refl _) hg5
        have hal : Below w4.heap.size w4 (w4.alloc (.cells #[.slice ra m rc] 22)) := (Below.refl _ _).alloc (Nat.le_refl _) _
        have HT5 := hid ((HN4.out.below hal).appended hg5 hnw)
        have HR5 : Hid (Rv (Av v5) w5 rs O) := hid ⟨HR4.out.1, fun i hi => ((HR4.out.2 i hi).below hal).appended hg5 hnw⟩
        have HR6 := hid (HR5.out.snoc HT5.out)
        have HO5 : Hid (w5.ownsRow x.heap.size 22 1 v5 (O ++ [rdT y]).length (rs ++ [.slice ra m rc])) := hid (by rw [List.length_append, List.length_singleton, ← HQ.out]; exact hv5)
        have HB5 := hid hb5
        have HLE2 : Hid (m ≤ zs.length ∧ m < k) := hid (by have h1 := HML.out; have h2 := HYZ.out; have h3 := HKY.out; omega)
        clear hv5 hg5 hnw hb5 hal HO4 HR4 HB4 HN4 HR5
        go_wp2_with fail
        go_roundw
        case rel => exact ⟨rdT y, O ++ [rdT y], rs ++ [.slice ra m rc], HT5.out, HRK.out, by rw [HRL.out]; exact HLE2.out.1, HNX.out, HO5.out, HR6.out, HB5.out⟩
        case measure => simp [lnOf]; exact HLE2.out.2
end Go.Proofs.Ytmllpednaibeeaa
namespace Go.Inc
open Go.RowKit
theorem ckT_made2 {m : List Nat} (hl : m.length ≤ 65535) (h : ∀ z ∈ m, 1 ≤ z ∧ z ≤ 65535) : ckT (zsN (m ++ [0])) = 0 := by
  have hget : ∀ i, i < m.length → 1 ≤ (m ++ [0]).getD i 0 ∧ (m ++ [0]).getD i 0 ≤ 65535 := by
    intro i hi
    rw [List.getD_eq_getElem?_getD, List.getElem?_append_left hi, List.getElem?_eq_getElem hi]
    exact h _ (List.getElem_mem hi)
  have hend : (m ++ [0]).getD m.length 0 = 0 := by
    rw [List.getD_eq_getElem?_getD, List.getElem?_append_right (Nat.le_refl _), Nat.sub_self]; rfl
  have hlen : (zsN (m ++ [0])).length = m.length + 1 := by rw [zsN_len]; simp
  refine ckT_ok (by omega) (fun i hi => ?_) ⟨by omega, fun i hi => ?_⟩
  · rw [zsN_get]
    by_cases e : i = m.length
    · rw [e, hend]; decide
    · have := hget i (by omega); omega
  · rw [zsN_get, hlen]
    by_cases e : i = m.length
    · rw [e, hend]; simp
    · have := hget i (by omega)
      omega

/-- The pieces again and again, each round of 97 a little higher. -/
def lgT (m : List Nat) (s : Nat) (t : Nat) : List Nat := (List.range t).map fun i => m.getD (i % m.length) 0 + (i / 97 * s) % 5
theorem lgT_len (m : List Nat) (s t : Nat) : (lgT m s t).length = t := by simp [lgT]
theorem lgT_snoc (m : List Nat) (s t : Nat) : lgT m s (t + 1) = lgT m s t ++ [m.getD (t % m.length) 0 + (t / 97 * s) % 5] := by simp [lgT, List.range_succ]
theorem lgT_codes {m : List Nat} (h : ∀ z ∈ m, 1 ≤ z ∧ z ≤ 100) (h0 : 0 < m.length) (s t : Nat) : ∀ z ∈ lgT m s t, 1 ≤ z ∧ z ≤ 65535 := by
  intro z hz
  obtain ⟨i, -, rfl⟩ := List.mem_map.1 hz
  have hi : i % m.length < m.length := Nat.mod_lt _ h0
  have h1 : m.getD (i % m.length) 0 ∈ m := by rw [List.getD_eq_getElem?_getD, List.getElem?_eq_getElem hi]; exact List.getElem_mem hi
  have h2 := h _ h1
  have h3 : i / 97 * s % 5 < 5 := Nat.mod_lt _ (by decide)
  omega
end Go.Inc
namespace Go.Proofs.Ytmllpednaibeeaa
open Go.RowKit Go.Inc
set_option maxRecDepth 20000 in
set_option maxHeartbeats 4000000 in
theorem saisLong_walk (ps : PS17) (W : World) (a : Option Addr) (c : Nat) (zs0 : List Int) (s0 n0 p0 : Int) (hs : Si (fun _ => True) W a zs0) (hlc : zs0.length ≤ c) (hcm : c ≤ maxLen) (hn : a = none → c = 0) :
    Calls Try.prog 4 #[.slice a zs0.length c, .int .i64 s0, .int .i64 n0, .int .i64 p0] W fun e w' => e = .returned (.bool true) ∧ Below W.heap.size W w' := by
  have HTX := hid (text17_any _ W (.slice a zs0.length c) zs0 s0 ⟨a, c, rfl, hs, hlc, hcm, hn⟩)
  clear hs hlc hcm hn
  obtain ⟨N, hN, hNb⟩ := u64_rem n0 (m := 3000) (by decide)
  obtain ⟨S, hS, hSb⟩ := u64_rem p0 (m := 7) (by decide)
  have hNw : IntKind.i64.wrap (N : Int) = (N : Int) := by rw [IntKind.wrap_i64]; omega
  have hSw : IntKind.i64.wrap (S : Int) = (S : Int) := by rw [IntKind.wrap_i64]; omega
  go_enter Try.func4, Try.ntmps4
  go_wp2_with fail
  refine HTX.out.mono ?_
  rintro e w1 ⟨vx, m, rfl, hx, hmz, hml, hb⟩
  have HMZ := hid hmz
  obtain ⟨L, hL⟩ : ∃ L, L = m.length := ⟨_, rfl⟩
  have HL := hid hL
  have hLb : (L : Int) ≤ 120 := by omega
  have HB1 := hid hb
  obtain ⟨xa, xc, rfl, hsx, hlx, hcx, -⟩ := hx
  have hlen : (zsN (m ++ [0])).length = L + 1 := by rw [zsN_len, List.length_append, List.length_singleton, hL]
  obtain ⟨L1, hL1⟩ : ∃ L1 : Nat, L1 = L + 1 := ⟨_, rfl⟩
  rw [hlen, ← hL1] at hlx ⊢
  obtain ⟨b, o, rfl, hc⟩ : ∃ b o, xa = some ⟨b, o, none⟩ ∧ ∀ i, i < L → w1.cell? ⟨b, o + i, none⟩ = some (.int .i64 ((m.getD i 0 : Nat) : Int)) := by
    rcases hsx with h | ⟨b, o, h, -, hc⟩
    · rw [h] at hlen; simp at hlen
    · refine ⟨b, o, h, fun i hi => ?_⟩
      have h1 := hc i (by rw [hlen]; omega)
      rw [zsN_get, List.getD_eq_getElem?_getD, List.getElem?_append_left (by omega), ← List.getD_eq_getElem?_getD] at h1
      exact h1
  have HCL : Hid (∀ y, Below w1.heap.size w1 y → ∀ i, i < L → y.cell? ⟨b, o + i, none⟩ = some (.int .i64 ((m.getD i 0 : Nat) : Int))) := hid fun y hy i hi => by
    rw [World.cell?_of_block (hy.block b (cell_lt (hc i hi)))]; exact hc i hi
  have hL1i : (L1 : Int) - 1 = (L : Int) := by omega
  have hLc : (L : Int) ≤ (xc : Int) := by omega
  have hLc2 : L ≤ xc := by omega
  have hcb : xc ≤ 9223372036854775807 := by unfold maxLen at hcx; omega
  have hL1b : (L1 : Int) ≤ 121 := by omega
  have hLw : IntKind.i64.wrap (L : Int) = (L : Int) := by rw [IntKind.wrap_i64]; omega
  clear hmz hml hb hsx hlx hcx hlen hL hL1 hc HTX
  go_wp2_with fail
  go_loopw [10, 11] (fun u i wr => ∃ t : Nat, t ≤ N ∧ i = .int .i64 (t : Int) ∧ (L = 0 → t = 0) ∧ wr.ownsRow w1.heap.size 3 1 u t (nvals (lgT m S t)) ∧ Below w1.heap.size w1 wr) (fun _ i _ => N - (intOf i).toNat)
  case atStart => exact ⟨0, Nat.zero_le _, rfl, fun _ => rfl, World.ownsRow_nil _ _ _ _, Below.refl _ _⟩
  case round =>
    obtain ⟨t, ht, rfl, ht0, hu, hb⟩ := hrel
    have HT0 := hid ht0
    have HU := hid hu
    have HB := hid hb
    have htb : (t : Int) ≤ 3000 := by omega
    clear ht0 hu hb
    by_cases h1 : t < N
    · have h1t : (t < N) = True := eq_true h1
      have h1i : (t : Int) < (N : Int) := by omega
      have HLT := hid h1
      by_cases h2 : 0 < L
      · have h2t : (0 < L) = True := eq_true h2
        have h2i : (0 : Int) < (L : Int) := by omega
        have HL0 := hid h2
        obtain ⟨r, hr⟩ : ∃ r, r = t % L := ⟨_, rfl⟩
        have hrL : r < L := by rw [hr]; exact Nat.mod_lt _ h2
        have hrm : (t : Int).tmod (L : Int) = (r : Int) := by rw [hr]; exact (Int.ofNat_tmod t L).symm
        have hrw : IntKind.i64.wrap (r : Int) = (r : Int) := by rw [IntKind.wrap_i64]; omega
        have hLz : ((L : Int) = 0) = False := eq_false (by omega)
        have hrt : (r < L) = True := eq_true hrL
        have hri : (r : Int) < (L : Int) := by omega
        have hcv := HCL.out _ HB.out r hrL
        obtain ⟨v, hv⟩ : ∃ v, v = m.getD r 0 := ⟨_, rfl⟩
        rw [← hv] at hcv
        have hvb : (v : Int) ≤ 100 := by
          have h3 : r < m.length := by rw [← HL.out]; exact hrL
          have h4 : v ∈ m := by rw [hv, List.getD_eq_getElem?_getD, List.getElem?_eq_getElem h3]; exact List.getElem_mem h3
          have := (HMZ.out v h4).2; omega
        obtain ⟨A, hA⟩ : ∃ A, A = t / 97 := ⟨_, rfl⟩
        have hAm : (t : Int).tdiv 97 = (A : Int) := by rw [hA]; exact (Int.ofNat_tdiv t 97).symm
        have hAb : (A : Int) ≤ 100 := by omega
        have hAw : IntKind.i64.wrap (A : Int) = (A : Int) := by rw [IntKind.wrap_i64]; omega
        obtain ⟨P, hP⟩ : ∃ P, P = A * S := ⟨_, rfl⟩
        have hPm : (A : Int) * (S : Int) = (P : Int) := by rw [hP]; exact (Int.natCast_mul A S).symm
        have hPb : (P : Int) ≤ 700 := by
          have h3 : A * S ≤ 100 * 7 := Nat.mul_le_mul (by omega) (by omega)
          omega
        have hPw : IntKind.i64.wrap (P : Int) = (P : Int) := by rw [IntKind.wrap_i64]; omega
        obtain ⟨R, hR⟩ : ∃ R, R = P % 5 := ⟨_, rfl⟩
        have hRm : (P : Int).tmod 5 = (R : Int) := by rw [hR]; exact (Int.ofNat_tmod P 5).symm
        have hRb : (R : Int) ≤ 4 := by omega
        have hRw : IntKind.i64.wrap (R : Int) = (R : Int) := by rw [IntKind.wrap_i64]; omega
        obtain ⟨y, hy⟩ : ∃ y, y = v + R := ⟨_, rfl⟩
        have hym : (v : Int) + (R : Int) = (y : Int) := by omega
        have hyb : (y : Int) ≤ 104 := by omega
        have hyw : IntKind.i64.wrap (y : Int) = (y : Int) := by rw [IntKind.wrap_i64]; omega
        have HNX : Hid (lgT m S (t + 1) = lgT m S t ++ [y]) := hid (by rw [lgT_snoc, ← HL.out, ← hr, ← hv, ← hA, ← hP, ← hR, ← hy])
        clear h1 h2 hr hrL hv hA hP hR hy
        go_wp2_with (refine wpList_append_any rfl (.tmp 40) (.tmp 54) 22 rfl w1.heap.size 3 (.int .i64 0) 8 Try.underlying22 infoIntS rfl _ _ _ rfl (HU.out.alloc _) (some ⟨wr.heap.size, 0, none⟩) 1 1 [.int .i64 (y : Int)] rfl rfl (by intro h; cases h) (one_new wr _ _) (by simp [Value.oneCell']) (by unfold maxLen; omega) (by omega) (by have := HB.out.size; simp; omega) ?_)
        intro v4 w4 hv4 hg4 _
        have HB4 := hid (below_owned (w0 := w1) (HB.out.alloc HB.out.size _) (HU.out.alloc _) (Nat.le_refl _) hg4)
        have HV4 : Hid (w4.ownsRow w1.heap.size 3 1 v4 (t + 1) (nvals (lgT m S (t + 1)))) := hid (by rw [HNX.out, nvals_snoc]; exact hv4)
        clear hv4 hg4 HU HB
        go_wp2_with fail
        go_roundw
        case rel => exact ⟨t + 1, HLT.out, by have h3 := HLT.out; go_num, fun h => absurd h (by have := HL0.out; omega), HV4.out, HB4.out⟩
        case measure => simp [intOf]; have := HLT.out; omega
      · have h2t : (0 < L) = False := eq_false h2
        have h2i : (L : Int) ≤ 0 := by omega
        have hz : t = 0 := HT0.out (by omega)
        have HXK0 : Hid (ckT (zsN (lgT m S t ++ [0])) = 0) := hid (ckT_made2 (by rw [lgT_len]; omega) (by rw [hz]; intro z h; cases h))
        clear h1 h2 hz
        go_wp2_with (refine wpList_append_any rfl (.tmp 56) (.tmp 57) 22 rfl w1.heap.size 3 (.int .i64 0) 8 Try.underlying22 infoIntS rfl _ _ _ rfl (HU.out.alloc _) (some ⟨wr.heap.size, 0, none⟩) 1 1 [.int .i64 0] rfl rfl (by intro h; cases h) (one_new wr _ _) (by simp [Value.oneCell']) (by unfold maxLen; omega) (by omega) (by have := HB.out.size; simp; omega) ?_)
        intro v4 w4 hv4 hg4 _
        have hb4 := below_owned (w0 := w1) (HB.out.alloc HB.out.size _) (HU.out.alloc _) (Nat.le_refl _) hg4
        have hx := So.ownedN (n := t + 1) (l := lgT m S t ++ [0]) (e := 3) (by rw [nvals_snoc]; exact hv4)
        obtain ⟨X, hX⟩ : ∃ X, X = zsN (lgT m S t ++ [0]) := ⟨_, rfl⟩
        have HXK : Hid (ckT X = 0) := hid (by rw [hX]; exact HXK0.out)
        have HXL : Hid (X.length ≤ 65536) := hid (by rw [hX, zsN_len, List.length_append, lgT_len, List.length_singleton]; omega)
        rw [← hX] at hx
        have HX := hid hx
        obtain ⟨va, vc, rfl, -⟩ := hx
        obtain ⟨n4, hn4⟩ : ∃ n4, n4 = X.length := ⟨_, rfl⟩
        have HN4 := hid hn4
        rw [← hn4] at HX ⊢
        have HB4 := hid (HB1.out.trans (hb4.mono HB1.out.size))
        have HC := hid (ps.pOrder _ w4 _ X HX.out HXL.out HXK.out)
        obtain ⟨Z, hZ⟩ : ∃ Z, Z = srT X X.length := ⟨_, rfl⟩
        have HZ := hid hZ
        have hZl : (zsN Z).length = n4 := by rw [zsN_len, hZ, srT_len, hn4]
        have HZL := hid hZl
        have HZZ : Hid (∀ z ∈ zsN Z, i64s z) := hid (fun z hz => by
          obtain ⟨k, hk, rfl⟩ := List.mem_map.1 hz
          rw [hZ] at hk
          have := srT_mem.1 hk
          have := HXL.out
          unfold i64s; omega)
        have HXZ : Hid (∀ z ∈ X, i64s z) := hid (fun z hz => by have := (ckT_zero HXK.out).2.1 z hz; unfold i64s; omega)
        rw [← hZ] at HC
        clear hv4 hg4 hb4 HU HB hX hn4 hZ hZl HXK0 HCL
        go_wp2_with fail
        refine HC.out.mono ?_
        rintro e w5 ⟨r5, rfl, h5, hb⟩
        have HO5 := hid h5
        obtain ⟨ra, rc, rfl, -⟩ := h5
        rw [HZL.out] at HO5 ⊢
        have HX5 := hid (HX.out.below hb)
        have HB5 := hid (HB4.out.trans (hb.mono HB4.out.size))
        have HC := hid (known17_any ps w5)
        clear hb HX HB4
        go_wp2_with fail
        refine HC.out.mono ?_
        rintro e w6 ⟨rfl, hb⟩
        have HB6 := hid (HB5.out.trans (hb.mono HB5.out.size))
        have HC := hid (ps.pRight _ _ w6 _ _ X (zsN Z) (HX5.out.below hb) (HO5.out.below hb) HXL.out HXZ.out (by rw [HZL.out, HN4.out]; exact HXL.out) HZZ.out)
        rw [decide_eq_true (⟨HXK.out, by rw [HZ.out]⟩ : ckT X = 0 ∧ zsN Z = zsN (srT X X.length))] at HC
        have hnn : ((n4 : Int) == (n4 : Int)) = true := beq_self_eq_true _
        clear hb HX5 HB5 HO5
        go_wp2_with fail
        refine HC.out.mono ?_
        rintro e w7 ⟨rfl, hb⟩
        have HB7 := hid (HB6.out.trans (hb.mono HB6.out.size))
        clear hb HC HB6
        go_wp2_with fail
        go_ret
        exact ⟨rfl, HB7.out⟩
    · have h1t : (t < N) = False := eq_false h1
      have HXK0 : Hid (ckT (zsN (lgT m S t ++ [0])) = 0) := hid (ckT_made2 (by rw [lgT_len]; omega) (by
        rcases Nat.eq_zero_or_pos L with h | h
        · rw [HT0.out h]; intro z h; cases h
        · exact lgT_codes HMZ.out (by rw [← HL.out]; exact h) S t))
      clear h1
      go_wp2_with (refine wpList_append_any rfl (.tmp 56) (.tmp 57) 22 rfl w1.heap.size 3 (.int .i64 0) 8 Try.underlying22 infoIntS rfl _ _ _ rfl (HU.out.alloc _) (some ⟨wr.heap.size, 0, none⟩) 1 1 [.int .i64 0] rfl rfl (by intro h; cases h) (one_new wr _ _) (by simp [Value.oneCell']) (by unfold maxLen; omega) (by omega) (by have := HB.out.size; simp; omega) ?_)
      intro v4 w4 hv4 hg4 _
      have hb4 := below_owned (w0 := w1) (HB.out.alloc HB.out.size _) (HU.out.alloc _) (Nat.le_refl _) hg4
      have hx := So.ownedN (n := t + 1) (l := lgT m S t ++ [0]) (e := 3) (by rw [nvals_snoc]; exact hv4)
      obtain ⟨X, hX⟩ : ∃ X, X = zsN (lgT m S t ++ [0]) := ⟨_, rfl⟩
      have HXK : Hid (ckT X = 0) := hid (by rw [hX]; exact HXK0.out)
      have HXL : Hid (X.length ≤ 65536) := hid (by rw [hX, zsN_len, List.length_append, lgT_len, List.length_singleton]; omega)
      rw [← hX] at hx
      have HX := hid hx
      obtain ⟨va, vc, rfl, -⟩ := hx
      obtain ⟨n4, hn4⟩ : ∃ n4, n4 = X.length := ⟨_, rfl⟩
      have HN4 := hid hn4
      rw [← hn4] at HX ⊢
      have HB4 := hid (HB1.out.trans (hb4.mono HB1.out.size))
      have HC := hid (ps.pOrder _ w4 _ X HX.out HXL.out HXK.out)
      obtain ⟨Z, hZ⟩ : ∃ Z, Z = srT X X.length := ⟨_, rfl⟩
      have HZ := hid hZ
      have hZl : (zsN Z).length = n4 := by rw [zsN_len, hZ, srT_len, hn4]
      have HZL := hid hZl
      have HZZ : Hid (∀ z ∈ zsN Z, i64s z) := hid (fun z hz => by
        obtain ⟨k, hk, rfl⟩ := List.mem_map.1 hz
        rw [hZ] at hk
        have := srT_mem.1 hk
        have := HXL.out
        unfold i64s; omega)
      have HXZ : Hid (∀ z ∈ X, i64s z) := hid (fun z hz => by have := (ckT_zero HXK.out).2.1 z hz; unfold i64s; omega)
      rw [← hZ] at HC
      clear hv4 hg4 hb4 HU HB hX hn4 hZ hZl HXK0 HCL
      go_wp2_with fail
      refine HC.out.mono ?_
      rintro e w5 ⟨r5, rfl, h5, hb⟩
      have HO5 := hid h5
      obtain ⟨ra, rc, rfl, -⟩ := h5
      rw [HZL.out] at HO5 ⊢
      have HX5 := hid (HX.out.below hb)
      have HB5 := hid (HB4.out.trans (hb.mono HB4.out.size))
      have HC := hid (known17_any ps w5)
      clear hb HX HB4
      go_wp2_with fail
      refine HC.out.mono ?_
      rintro e w6 ⟨rfl, hb⟩
      have HB6 := hid (HB5.out.trans (hb.mono HB5.out.size))
      have HC := hid (ps.pRight _ _ w6 _ _ X (zsN Z) (HX5.out.below hb) (HO5.out.below hb) HXL.out HXZ.out (by rw [HZL.out, HN4.out]; exact HXL.out) HZZ.out)
      rw [decide_eq_true (⟨HXK.out, by rw [HZ.out]⟩ : ckT X = 0 ∧ zsN Z = zsN (srT X X.length))] at HC
      have hnn : ((n4 : Int) == (n4 : Int)) = true := beq_self_eq_true _
      clear hb HX5 HB5 HO5
      go_wp2_with fail
      refine HC.out.mono ?_
      rintro e w7 ⟨rfl, hb⟩
      have HB7 := hid (HB6.out.trans (hb.mono HB6.out.size))
      clear hb HC HB6
      go_wp2_with fail
      go_ret
      exact ⟨rfl, HB7.out⟩
end Go.Proofs.Ytmllpednaibeeaa
namespace Go.Inc
open Go.RowKit
def EqA (v : Value) : World → Value → Prop := fun _ u => u = v
theorem Ro.openR {ok : Nat → Prop} {w : World} {u : Value} {xss : List (List Int)} (h : Ro ok w u xss) (h0 : 0 < xss.length) :
    ∃ b o c, u = .slice (some ⟨b, o, none⟩) xss.length c ∧ ∀ i, i < xss.length → ∃ r, (∀ y, Below w.heap.size w y → y.cell? ⟨b, o + i, none⟩ = some r) ∧ So ok w r (xss.getD i []) := by
  obtain ⟨a, c, rfl, -, -, h⟩ := h
  rcases h with h | ⟨b, o, rfl, -, hc⟩
  · rw [h] at h0; simp at h0
  · refine ⟨b, o, c, rfl, fun i hi => ?_⟩
    obtain ⟨r, e, hs⟩ := hc i hi
    exact ⟨r, fun y hy => by rw [World.cell?_of_block (hy.block b (cell_lt e))]; exact e, hs⟩
end Go.Inc
namespace Go.Proofs.Ytmllpednaibeeaa
open Go.RowKit Go.Inc
set_option maxRecDepth 20000 in
set_option maxHeartbeats 8000000 in
theorem saisLevels_walk (ps : PS17) (W : World) (a : Option Addr) (c : Nat) (zs0 : List Int) (s0 : Int) (x2 : Int) (hx2 : i64s x2) (hs : Si (fun _ => True) W a zs0) (hlc : zs0.length ≤ c) (hcm : c ≤ maxLen) (hn : a = none → c = 0) :
    Calls Try.prog 5 #[.slice a zs0.length c, .int .i64 s0, .int .i64 x2] W fun e w' => e = .returned (.bool true) ∧ Below W.heap.size W w' := by
  have HTX := hid (text15_any _ W (.slice a zs0.length c) zs0 s0 ⟨a, c, rfl, hs, hlc, hcm, hn⟩)
  have HX2 := hid hx2
  clear hs hlc hcm hn hx2
  go_enter Try.func5, Try.ntmps5
  go_wp2_with fail
  refine HTX.out.mono ?_
  rintro e w1 ⟨vx, X, rfl, hx, hck, hxl, hb⟩
  have hxl2 : X.length ≤ 65536 := by omega
  have HXL := hid hxl2
  have HI := hid (InT.of hck)
  have HCK := hid hck
  have HV1 := hid hx
  have HB1 := hid hb
  obtain ⟨Q, hQ⟩ : ∃ Q, Q = lvT X := ⟨_, rfl⟩
  have hok := lvT_ok HI.out hxl2 hck HI.out.right.1
  rw [← hQ] at hok
  have HOK := hid hok
  have HQE := hid hQ
  obtain ⟨n, hnx⟩ : ∃ n, n = X.length := ⟨_, rfl⟩
  have HNX := hid hnx
  have hnb : (n : Int) ≤ 121 := by omega
  obtain ⟨nl, hnl⟩ : ∃ nl, nl = Q.length := ⟨_, rfl⟩
  have HNL := hid hnl
  obtain ⟨D, hD⟩ : ∃ D, D = dpT n := ⟨_, rfl⟩
  have HDE := hid hD
  have hDn : decide ((D : Int) < (nl : Int)) = false := decide_eq_false (by have := hok.2.1; rw [← hnx, ← hD, ← hnl] at this; omega)
  have hDp : ((nl : Int) ≤ (D : Int)) := by have := hok.2.1; rw [← hnx, ← hD, ← hnl] at this; omega
  have hDb : (D : Int) ≤ 121 := by have := dpT_le n; omega
  have hn0 : 0 < nl := by rw [hnl]; exact hok.2.2.2.2
  have HN0 := hid hn0
  have HC := hid (ps.pLevels _ w1 vx X hx hxl2 hck)
  rw [← hQ] at HC
  clear hx hck hxl hxl2 hb HTX hok hQ hnx hnl hD hn0
  go_wp2_with fail
  refine HC.out.mono ?_
  rintro e w2 ⟨u2, rfl, h2, hb⟩
  have HR2 := hid h2
  have HV2 := hid (HV1.out.below hb)
  have HB2 := hid (HB1.out.trans (hb.mono HB1.out.size))
  have HC := hid (refLevels_so _ w2 vx X HV2.out HXL.out HCK.out)
  rw [← HQE.out] at HC
  clear hb h2 HV1 HB1
  go_wp2_with fail
  refine HC.out.mono ?_
  rintro e w3 ⟨u3, rfl, h3, hb⟩
  have hr2 := HR2.out.below hb
  obtain ⟨lb, lo, lc, rfl, hl⟩ := hr2.openR (by rw [← HNL.out]; exact HN0.out)
  obtain ⟨wb, wo, wc, rfl, hw⟩ := h3.openR (by rw [← HNL.out]; exact HN0.out)
  have HL3 := hid hl
  have HW3 := hid hw
  have HV3 := hid (HV2.out.below hb)
  have HB3 := hid (HB2.out.trans (hb.mono HB2.out.size))
  obtain ⟨xa, xc, rfl, -⟩ := HV3.out
  rw [← HNL.out]
  rw [← HNX.out]
  have hnn : ((nl : Int) != (nl : Int)) = false := bne_self_eq_false _
  have HC := hid (ps.pDeepest w3 (n : Int) (by unfold i64s; omega))
  rw [show ((n : Int).toNat) = n from rfl, ← HDE.out] at HC
  clear hb h3 hr2 hl hw HV2 HB2 HR2
  go_wp2_with fail
  refine HC.out.mono ?_
  rintro e w4 ⟨rfl, hb⟩
  have HB34 := hid hb
  have HB4 := hid (HB3.out.trans (hb.mono HB3.out.size))
  clear hb HC HB3 HV3 hnn
  go_wp2_with fail
  go_loopw [11] (fun i wr => ∃ t : Nat, t ≤ nl ∧ i = .int .i64 (t : Int) ∧ Below w4.heap.size w4 wr) (fun i _ => nl - (intOf i).toNat)
  case atStart => exact ⟨0, Nat.zero_le _, rfl, Below.refl _ _⟩
  case round =>
    obtain ⟨t, ht, rfl, hb⟩ := hrel
    have HBR := hid hb
    by_cases hlt : t < nl
    · have hti : (t < nl) = True := eq_true hlt
      have HLT := hid hlt
      have htb : (t : Int) < (nl : Int) := by omega
      have hnlb : (nl : Int) ≤ 121 := by omega
      have h3r : Below w3.heap.size w3 wr := HB34.out.trans (hb.mono HB34.out.size)
      have htQ : t < Q.length := by rw [← HNL.out]; exact hlt
      obtain ⟨r1, hc1, hs1⟩ := HL3.out t htQ
      obtain ⟨r2, hc2, hs2⟩ := HW3.out t htQ
      obtain ⟨Y, hY⟩ : ∃ Y, Y = Q.getD t [] := ⟨_, rfl⟩
      rw [← hY] at hs1 hs2
      have hYQ : Y ∈ Q := by rw [hY, List.getD_eq_getElem?_getD, List.getElem?_eq_getElem htQ]; exact List.getElem_mem htQ
      have hYk := HOK.out.1 Y hYQ
      have hYl : Y.length ≤ 65536 := by have := HXL.out; omega
      have hYb : (Y.length : Int) ≤ 121 := by have := HNX.out; omega
      have hYz : ∀ z ∈ Y, i64s z := fun z hz => by have := (ckT_zero hYk.1).2.1 z hz; unfold i64s; omega
      obtain ⟨U, hU⟩ : ∃ U, U = decide Y.Nodup := ⟨_, rfl⟩
      have HSM : Hid (∀ y, Below wr.heap.size wr y → Calls Try.prog 14 #[r1, r2] y fun e w' => e = .returned (.bool true) ∧ Below y.heap.size y w') := hid fun y hy => by
        have h3y := h3r.trans (hy.mono h3r.size)
        have h := same_so _ _ y r1 r2 Y Y (hs1.below h3y) (hs2.below h3y) (by omega)
        rw [decide_eq_true rfl] at h; exact h
      have HUN : Hid (∀ y, Below wr.heap.size wr y → Calls Try.prog 19 #[r1] y fun e w' => e = .returned (.bool U) ∧ Below y.heap.size y w') := hid fun y hy => by
        rw [hU]; exact ps.pUnlike _ y r1 Y (hs1.below (h3r.trans (hy.mono h3r.size))) hYl hYz
      have HUR : Hid (∀ y, Below wr.heap.size wr y → Calls Try.prog 20 #[r2] y fun e w' => e = .returned (.bool U) ∧ Below y.heap.size y w') := hid fun y hy => by
        rw [hU]; exact refUnlike_so _ y r2 Y (hs2.below (h3r.trans (hy.mono h3r.size))) hYl
      have hUU : (U != U) = false := bne_self_eq_false _
      obtain ⟨a1, c1, rfl, -⟩ := hs1
      obtain ⟨n1, hn1⟩ : ∃ n1, n1 = Y.length := ⟨_, rfl⟩
      rw [← hn1] at hc1 HSM HUN
      by_cases ht0 : 0 < t
      · obtain ⟨k, hk⟩ : ∃ k, t = k + 1 := ⟨t - 1, by omega⟩
        have hk1 : (t : Int) - 1 = (k : Int) := by omega
        have hkw : IntKind.i64.wrap (k : Int) = (k : Int) := by rw [IntKind.wrap_i64]; omega
        have hkm : (k < nl) = True := eq_true (by omega)
        have hkb : (k : Int) < (nl : Int) := by omega
        have htg : decide ((0 : Int) < (t : Int)) = true := decide_eq_true (by omega)
        have htg2 : (0 : Int) < (t : Int) := by omega
        have htgN : (0 < t) = True := eq_true ht0
        have hkQ : k < Q.length := by omega
        obtain ⟨r0, hc0, hs0⟩ := HL3.out k hkQ
        obtain ⟨a0, c0, rfl, -⟩ := hs0
        obtain ⟨n0, hn0⟩ : ∃ n0, n0 = (Q.getD k []).length := ⟨_, rfl⟩
        rw [← hn0] at hc0
        have hhalf : 2 * n1 ≤ n0 := by
          have := HOK.out.2.2.1 k (by rw [← hk]; exact htQ)
          rw [← hk, ← hY, ← hn1, ← hn0] at this; exact this
        obtain ⟨n2, hn2⟩ : ∃ n2 : Nat, n2 = 2 * n1 := ⟨_, rfl⟩
        have hn2i : 2 * (n1 : Int) = (n2 : Int) := by omega
        have hn2b : (n2 : Int) ≤ 242 := by omega
        have hn2w : IntKind.i64.wrap (n2 : Int) = (n2 : Int) := by rw [IntKind.wrap_i64]; omega
        have hn20 : decide ((n0 : Int) < (n2 : Int)) = false := decide_eq_false (by omega)
        have hn21 : (n2 : Int) ≤ (n0 : Int) := by omega
        have hn20N : (n0 < n2) = False := eq_false (by omega)
        have HCE : Hid (∀ y, Below wr.heap.size wr y → y.cell? ⟨lb, lo + t, none⟩ = some (.slice a1 n1 c1) ∧ y.cell? ⟨wb, wo + t, none⟩ = some r2 ∧ y.cell? ⟨lb, lo + k, none⟩ = some (.slice a0 n0 c0)) := hid fun y hy =>
          ⟨hc1 y (h3r.trans (hy.mono h3r.size)), hc2 y (h3r.trans (hy.mono h3r.size)), hc0 y (h3r.trans (hy.mono h3r.size))⟩
        clear hlt hb h3r htQ hc1 hc2 hs2 hY hYQ hYk hYl hYb hYz hU hn1 hk hkQ hc0 hn0 hhalf hn2 ht0
        go_wp2_with fail
        refine wp_region_grows 42 [EqA (.slice (some ⟨lb, lo, none⟩) nl lc), EqA (.int .i64 (t : Int)), EqA (.pointer (some ⟨lb, lo + t, none⟩)), EqA (.slice a1 n1 c1), EqA (.slice (some ⟨wb, wo, none⟩) nl wc), EqA (.int .i64 (t : Int)), EqA (.pointer (some ⟨wb, wo + t, none⟩)), EqA (r2), EqA (.bool true), EqA (.bool false), EqA (.bool false), EqA (.slice (some ⟨lb, lo, none⟩) nl lc), EqA (.int .i64 (t : Int)), EqA (.pointer (some ⟨lb, lo + t, none⟩)), EqA (.slice a1 n1 c1), EqA (.bool U), EqA (.slice (some ⟨wb, wo, none⟩) nl wc), EqA (.int .i64 (t : Int)), EqA (.pointer (some ⟨wb, wo + t, none⟩)), EqA (r2), EqA (.bool U), EqA (.bool false), EqA (.bool false), EqA (.bool false), EqA (.int .i64 (t : Int)), EqA (.bool true), EqA (.bool true), EqA (.slice (some ⟨lb, lo, none⟩) nl lc), EqA (.int .i64 (t : Int)), EqA (.pointer (some ⟨lb, lo + t, none⟩)), EqA (.slice a1 n1 c1), EqA (.int .i64 (n1 : Int)), EqA (.int .i64 (n2 : Int)), EqA (.slice (some ⟨lb, lo, none⟩) nl lc), EqA (.int .i64 (t : Int)), EqA (.int .i64 (k : Int)), EqA (.pointer (some ⟨lb, lo + k, none⟩)), EqA (.slice a0 n0 c0), EqA (.int .i64 (n0 : Int)), EqA (.bool false), EqA (.bool false), EqA (.bool false)] (by kernel_rfl) (by decide) (by kernel_rfl) ?_ ?_ ?_
        · repeat' (first | exact List.forall_mem_nil _ | refine List.forall_mem_cons.2 ⟨?_, ?_⟩)
          all_goals
            intro w w' v hw h
            exact h
        · simp only [AllLt]
          refine ⟨⟨⟨⟨⟨⟨⟨⟨⟨⟨⟨⟨⟨⟨⟨⟨⟨⟨⟨⟨⟨⟨⟨⟨⟨⟨⟨⟨⟨⟨⟨⟨⟨⟨⟨⟨⟨⟨⟨⟨⟨⟨trivial, ?_⟩, ?_⟩, ?_⟩, ?_⟩, ?_⟩, ?_⟩, ?_⟩, ?_⟩, ?_⟩, ?_⟩, ?_⟩, ?_⟩, ?_⟩, ?_⟩, ?_⟩, ?_⟩, ?_⟩, ?_⟩, ?_⟩, ?_⟩, ?_⟩, ?_⟩, ?_⟩, ?_⟩, ?_⟩, ?_⟩, ?_⟩, ?_⟩, ?_⟩, ?_⟩, ?_⟩, ?_⟩, ?_⟩, ?_⟩, ?_⟩, ?_⟩, ?_⟩, ?_⟩, ?_⟩, ?_⟩, ?_⟩, ?_⟩
          all_goals
            intro o' ho
            simp at ho
            subst ho
            intro ρ w6 hR hL hS hG
            obtain ⟨hl1, hl2, -⟩ := hL
          · refine plainG rfl ?_
            intro bA K Q' hK
            have e8 := hS 8 (by kernel_rfl)
            change ρ (.tmp 8) = _ at e8
            simp only [execOp]
            go_simp
            exact hK _ _ rfl (Grew.refl _)
          · refine plainG rfl ?_
            intro bA K Q' hK
            have e11 := hS 11 (by kernel_rfl)
            change ρ (.tmp 11) = _ at e11
            simp only [execOp]
            go_simp
            exact hK _ _ rfl (Grew.refl _)
          · refine plainG rfl ?_
            intro bA K Q' hK
            have e45 := hG 0 45 (by decide) (by kernel_rfl) (by kernel_rfl)
            have e46 := hG 1 46 (by decide) (by kernel_rfl) (by kernel_rfl)
            change ρ (.tmp 45) = _ at e45
            change ρ (.tmp 46) = _ at e46
            simp only [execOp]
            go_simp
            exact hK _ _ rfl (Grew.refl _)
          · refine plainG rfl ?_
            intro bA K Q' hK
            have e47 := hG 2 47 (by decide) (by kernel_rfl) (by kernel_rfl)
            change ρ (.tmp 47) = _ at e47
            obtain ⟨y1, y2, y3⟩ := HCE.out w6 ⟨hR.os, hR.tape, hR.output, hR.size, hR.block⟩
            simp only [execOp]
            go_simp
            exact hK _ _ rfl (Grew.refl _)
          · refine plainG rfl ?_
            intro bA K Q' hK
            have e10 := hS 10 (by kernel_rfl)
            change ρ (.tmp 10) = _ at e10
            simp only [execOp]
            go_simp
            exact hK _ _ rfl (Grew.refl _)
          · refine plainG rfl ?_
            intro bA K Q' hK
            have e11 := hS 11 (by kernel_rfl)
            change ρ (.tmp 11) = _ at e11
            simp only [execOp]
            go_simp
            exact hK _ _ rfl (Grew.refl _)
          · refine plainG rfl ?_
            intro bA K Q' hK
            have e49 := hG 4 49 (by decide) (by kernel_rfl) (by kernel_rfl)
            have e50 := hG 5 50 (by decide) (by kernel_rfl) (by kernel_rfl)
            change ρ (.tmp 49) = _ at e49
            change ρ (.tmp 50) = _ at e50
            simp only [execOp]
            go_simp
            exact hK _ _ rfl (Grew.refl _)
          · refine plainG rfl ?_
            intro bA K Q' hK
            have e51 := hG 6 51 (by decide) (by kernel_rfl) (by kernel_rfl)
            change ρ (.tmp 51) = _ at e51
            obtain ⟨y1, y2, y3⟩ := HCE.out w6 ⟨hR.os, hR.tape, hR.output, hR.size, hR.block⟩
            simp only [execOp]
            go_simp
            exact hK _ _ rfl (Grew.refl _)
          · refine plainG rfl ?_
            intro bA K Q' hK
            have e48 := hG 3 48 (by decide) (by kernel_rfl) (by kernel_rfl)
            have e52 := hG 7 52 (by decide) (by kernel_rfl) (by kernel_rfl)
            change ρ (.tmp 48) = _ at e48
            change ρ (.tmp 52) = _ at e52
            simp only [execOp]
            go_simp
            refine (HSM.out w6 ⟨hR.os, hR.tape, hR.output, hR.size, hR.block⟩).mono ?_
            rintro r9 w9 ⟨rfl, hb9⟩
            exact hK _ _ rfl hb9
          · refine plainG rfl ?_
            intro bA K Q' hK
            have e53 := hG 8 53 (by decide) (by kernel_rfl) (by kernel_rfl)
            change ρ (.tmp 53) = _ at e53
            simp only [execOp]
            go_simp
            exact hK _ _ rfl (Grew.refl _)
          · refine plainG rfl ?_
            intro bA K Q' hK
            have e54 := hG 9 54 (by decide) (by kernel_rfl) (by kernel_rfl)
            change ρ (.tmp 54) = _ at e54
            simp only [execOp]
            go_simp
            exact hK _ _ rfl (Grew.refl _)
          · have eG : ρ (.tmp 55) = _ := hG 10 55 (by decide) (by kernel_rfl) (by kernel_rfl)
            refine onG rfl (by kernel_rfl) eG ?_
            intro bA K Q' hK
            have e8 := hS 8 (by kernel_rfl)
            change ρ (.tmp 8) = _ at e8
            simp only [execOp]
            go_simp
            exact hK _ _ rfl (Grew.refl _)
          · have eG : ρ (.tmp 55) = _ := hG 10 55 (by decide) (by kernel_rfl) (by kernel_rfl)
            refine onG rfl (by kernel_rfl) eG ?_
            intro bA K Q' hK
            have e11 := hS 11 (by kernel_rfl)
            change ρ (.tmp 11) = _ at e11
            simp only [execOp]
            go_simp
            exact hK _ _ rfl (Grew.refl _)
          · have eG : ρ (.tmp 55) = _ := hG 10 55 (by decide) (by kernel_rfl) (by kernel_rfl)
            refine onG rfl (by kernel_rfl) eG ?_
            intro bA K Q' hK
            have e56 := hG 11 56 (by decide) (by kernel_rfl) (by kernel_rfl)
            have e57 := hG 12 57 (by decide) (by kernel_rfl) (by kernel_rfl)
            change ρ (.tmp 56) = _ at e56
            change ρ (.tmp 57) = _ at e57
            simp only [execOp]
            go_simp
            exact hK _ _ rfl (Grew.refl _)
          · have eG : ρ (.tmp 55) = _ := hG 10 55 (by decide) (by kernel_rfl) (by kernel_rfl)
            refine onG rfl (by kernel_rfl) eG ?_
            intro bA K Q' hK
            have e58 := hG 13 58 (by decide) (by kernel_rfl) (by kernel_rfl)
            change ρ (.tmp 58) = _ at e58
            obtain ⟨y1, y2, y3⟩ := HCE.out w6 ⟨hR.os, hR.tape, hR.output, hR.size, hR.block⟩
            simp only [execOp]
            go_simp
            exact hK _ _ rfl (Grew.refl _)
          · have eG : ρ (.tmp 55) = _ := hG 10 55 (by decide) (by kernel_rfl) (by kernel_rfl)
            refine onG rfl (by kernel_rfl) eG ?_
            intro bA K Q' hK
            have e59 := hG 14 59 (by decide) (by kernel_rfl) (by kernel_rfl)
            change ρ (.tmp 59) = _ at e59
            simp only [execOp]
            go_simp
            refine (HUN.out w6 ⟨hR.os, hR.tape, hR.output, hR.size, hR.block⟩).mono ?_
            rintro r9 w9 ⟨rfl, hb9⟩
            exact hK _ _ rfl hb9
          · have eG : ρ (.tmp 55) = _ := hG 10 55 (by decide) (by kernel_rfl) (by kernel_rfl)
            refine onG rfl (by kernel_rfl) eG ?_
            intro bA K Q' hK
            have e10 := hS 10 (by kernel_rfl)
            change ρ (.tmp 10) = _ at e10
            simp only [execOp]
            go_simp
            exact hK _ _ rfl (Grew.refl _)
          · have eG : ρ (.tmp 55) = _ := hG 10 55 (by decide) (by kernel_rfl) (by kernel_rfl)
            refine onG rfl (by kernel_rfl) eG ?_
            intro bA K Q' hK
            have e11 := hS 11 (by kernel_rfl)
            change ρ (.tmp 11) = _ at e11
            simp only [execOp]
            go_simp
            exact hK _ _ rfl (Grew.refl _)
          · have eG : ρ (.tmp 55) = _ := hG 10 55 (by decide) (by kernel_rfl) (by kernel_rfl)
            refine onG rfl (by kernel_rfl) eG ?_
            intro bA K Q' hK
            have e61 := hG 16 61 (by decide) (by kernel_rfl) (by kernel_rfl)
            have e62 := hG 17 62 (by decide) (by kernel_rfl) (by kernel_rfl)
            change ρ (.tmp 61) = _ at e61
            change ρ (.tmp 62) = _ at e62
            simp only [execOp]
            go_simp
            exact hK _ _ rfl (Grew.refl _)
          · have eG : ρ (.tmp 55) = _ := hG 10 55 (by decide) (by kernel_rfl) (by kernel_rfl)
            refine onG rfl (by kernel_rfl) eG ?_
            intro bA K Q' hK
            have e63 := hG 18 63 (by decide) (by kernel_rfl) (by kernel_rfl)
            change ρ (.tmp 63) = _ at e63
            obtain ⟨y1, y2, y3⟩ := HCE.out w6 ⟨hR.os, hR.tape, hR.output, hR.size, hR.block⟩
            simp only [execOp]
            go_simp
            exact hK _ _ rfl (Grew.refl _)
          · have eG : ρ (.tmp 55) = _ := hG 10 55 (by decide) (by kernel_rfl) (by kernel_rfl)
            refine onG rfl (by kernel_rfl) eG ?_
            intro bA K Q' hK
            have e64 := hG 19 64 (by decide) (by kernel_rfl) (by kernel_rfl)
            change ρ (.tmp 64) = _ at e64
            simp only [execOp]
            go_simp
            refine (HUR.out w6 ⟨hR.os, hR.tape, hR.output, hR.size, hR.block⟩).mono ?_
            rintro r9 w9 ⟨rfl, hb9⟩
            exact hK _ _ rfl hb9
          · have eG : ρ (.tmp 55) = _ := hG 10 55 (by decide) (by kernel_rfl) (by kernel_rfl)
            refine onG rfl (by kernel_rfl) eG ?_
            intro bA K Q' hK
            have e60 := hG 15 60 (by decide) (by kernel_rfl) (by kernel_rfl)
            have e65 := hG 20 65 (by decide) (by kernel_rfl) (by kernel_rfl)
            change ρ (.tmp 60) = _ at e60
            change ρ (.tmp 65) = _ at e65
            simp only [execOp]
            go_simp
            exact hK _ _ rfl (Grew.refl _)
          · refine plainG rfl ?_
            intro bA K Q' hK
            have e55 := hG 10 55 (by decide) (by kernel_rfl) (by kernel_rfl)
            have e66 := hG 21 66 (by decide) (by kernel_rfl) (by kernel_rfl)
            change ρ (.tmp 55) = _ at e55
            change ρ (.tmp 66) = _ at e66
            simp only [execOp]
            go_simp
            exact hK _ _ rfl (Grew.refl _)
          · refine plainG rfl ?_
            intro bA K Q' hK
            have e67 := hG 22 67 (by decide) (by kernel_rfl) (by kernel_rfl)
            change ρ (.tmp 67) = _ at e67
            simp only [execOp]
            go_simp
            exact hK _ _ rfl (Grew.refl _)
          · have eG : ρ (.tmp 68) = _ := hG 23 68 (by decide) (by kernel_rfl) (by kernel_rfl)
            refine onG rfl (by kernel_rfl) eG ?_
            intro bA K Q' hK
            have e11 := hS 11 (by kernel_rfl)
            change ρ (.tmp 11) = _ at e11
            simp only [execOp]
            go_simp
            exact hK _ _ rfl (Grew.refl _)
          · have eG : ρ (.tmp 68) = _ := hG 23 68 (by decide) (by kernel_rfl) (by kernel_rfl)
            refine onG rfl (by kernel_rfl) eG ?_
            intro bA K Q' hK
            have e69 := hG 24 69 (by decide) (by kernel_rfl) (by kernel_rfl)
            change ρ (.tmp 69) = _ at e69
            simp only [execOp]
            go_simp
            exact hK _ _ rfl (Grew.refl _)
          · have eG : ρ (.tmp 68) = _ := hG 23 68 (by decide) (by kernel_rfl) (by kernel_rfl)
            refine onG rfl (by kernel_rfl) eG ?_
            intro bA K Q' hK
            have e70 := hG 25 70 (by decide) (by kernel_rfl) (by kernel_rfl)
            change ρ (.tmp 70) = _ at e70
            simp only [execOp]
            go_simp
            exact hK _ _ rfl (Grew.refl _)
          · have eG : ρ (.tmp 71) = _ := hG 26 71 (by decide) (by kernel_rfl) (by kernel_rfl)
            refine onG rfl (by kernel_rfl) eG ?_
            intro bA K Q' hK
            have e8 := hS 8 (by kernel_rfl)
            change ρ (.tmp 8) = _ at e8
            simp only [execOp]
            go_simp
            exact hK _ _ rfl (Grew.refl _)
          · have eG : ρ (.tmp 71) = _ := hG 26 71 (by decide) (by kernel_rfl) (by kernel_rfl)
            refine onG rfl (by kernel_rfl) eG ?_
            intro bA K Q' hK
            have e11 := hS 11 (by kernel_rfl)
            change ρ (.tmp 11) = _ at e11
            simp only [execOp]
            go_simp
            exact hK _ _ rfl (Grew.refl _)
          · have eG : ρ (.tmp 71) = _ := hG 26 71 (by decide) (by kernel_rfl) (by kernel_rfl)
            refine onG rfl (by kernel_rfl) eG ?_
            intro bA K Q' hK
            have e72 := hG 27 72 (by decide) (by kernel_rfl) (by kernel_rfl)
            have e73 := hG 28 73 (by decide) (by kernel_rfl) (by kernel_rfl)
            change ρ (.tmp 72) = _ at e72
            change ρ (.tmp 73) = _ at e73
            simp only [execOp]
            go_simp
            exact hK _ _ rfl (Grew.refl _)
          · have eG : ρ (.tmp 71) = _ := hG 26 71 (by decide) (by kernel_rfl) (by kernel_rfl)
            refine onG rfl (by kernel_rfl) eG ?_
            intro bA K Q' hK
            have e74 := hG 29 74 (by decide) (by kernel_rfl) (by kernel_rfl)
            change ρ (.tmp 74) = _ at e74
            obtain ⟨y1, y2, y3⟩ := HCE.out w6 ⟨hR.os, hR.tape, hR.output, hR.size, hR.block⟩
            simp only [execOp]
            go_simp
            exact hK _ _ rfl (Grew.refl _)
          · have eG : ρ (.tmp 71) = _ := hG 26 71 (by decide) (by kernel_rfl) (by kernel_rfl)
            refine onG rfl (by kernel_rfl) eG ?_
            intro bA K Q' hK
            have e75 := hG 30 75 (by decide) (by kernel_rfl) (by kernel_rfl)
            change ρ (.tmp 75) = _ at e75
            simp only [execOp]
            go_simp
            exact hK _ _ rfl (Grew.refl _)
          · have eG : ρ (.tmp 71) = _ := hG 26 71 (by decide) (by kernel_rfl) (by kernel_rfl)
            refine onG rfl (by kernel_rfl) eG ?_
            intro bA K Q' hK
            have e76 := hG 31 76 (by decide) (by kernel_rfl) (by kernel_rfl)
            change ρ (.tmp 76) = _ at e76
            simp only [execOp]
            go_simp
            exact hK _ _ rfl (Grew.refl _)
          · have eG : ρ (.tmp 71) = _ := hG 26 71 (by decide) (by kernel_rfl) (by kernel_rfl)
            refine onG rfl (by kernel_rfl) eG ?_
            intro bA K Q' hK
            have e8 := hS 8 (by kernel_rfl)
            change ρ (.tmp 8) = _ at e8
            simp only [execOp]
            go_simp
            exact hK _ _ rfl (Grew.refl _)
          · have eG : ρ (.tmp 71) = _ := hG 26 71 (by decide) (by kernel_rfl) (by kernel_rfl)
            refine onG rfl (by kernel_rfl) eG ?_
            intro bA K Q' hK
            have e11 := hS 11 (by kernel_rfl)
            change ρ (.tmp 11) = _ at e11
            simp only [execOp]
            go_simp
            exact hK _ _ rfl (Grew.refl _)
          · have eG : ρ (.tmp 71) = _ := hG 26 71 (by decide) (by kernel_rfl) (by kernel_rfl)
            refine onG rfl (by kernel_rfl) eG ?_
            intro bA K Q' hK
            have e79 := hG 34 79 (by decide) (by kernel_rfl) (by kernel_rfl)
            change ρ (.tmp 79) = _ at e79
            simp only [execOp]
            go_simp
            exact hK _ _ rfl (Grew.refl _)
          · have eG : ρ (.tmp 71) = _ := hG 26 71 (by decide) (by kernel_rfl) (by kernel_rfl)
            refine onG rfl (by kernel_rfl) eG ?_
            intro bA K Q' hK
            have e78 := hG 33 78 (by decide) (by kernel_rfl) (by kernel_rfl)
            have e80 := hG 35 80 (by decide) (by kernel_rfl) (by kernel_rfl)
            change ρ (.tmp 78) = _ at e78
            change ρ (.tmp 80) = _ at e80
            simp only [execOp]
            go_simp
            exact hK _ _ rfl (Grew.refl _)
          · have eG : ρ (.tmp 71) = _ := hG 26 71 (by decide) (by kernel_rfl) (by kernel_rfl)
            refine onG rfl (by kernel_rfl) eG ?_
            intro bA K Q' hK
            have e81 := hG 36 81 (by decide) (by kernel_rfl) (by kernel_rfl)
            change ρ (.tmp 81) = _ at e81
            obtain ⟨y1, y2, y3⟩ := HCE.out w6 ⟨hR.os, hR.tape, hR.output, hR.size, hR.block⟩
            simp only [execOp]
            go_simp
            exact hK _ _ rfl (Grew.refl _)
          · have eG : ρ (.tmp 71) = _ := hG 26 71 (by decide) (by kernel_rfl) (by kernel_rfl)
            refine onG rfl (by kernel_rfl) eG ?_
            intro bA K Q' hK
            have e82 := hG 37 82 (by decide) (by kernel_rfl) (by kernel_rfl)
            change ρ (.tmp 82) = _ at e82
            simp only [execOp]
            go_simp
            exact hK _ _ rfl (Grew.refl _)
          · have eG : ρ (.tmp 71) = _ := hG 26 71 (by decide) (by kernel_rfl) (by kernel_rfl)
            refine onG rfl (by kernel_rfl) eG ?_
            intro bA K Q' hK
            have e77 := hG 32 77 (by decide) (by kernel_rfl) (by kernel_rfl)
            have e83 := hG 38 83 (by decide) (by kernel_rfl) (by kernel_rfl)
            change ρ (.tmp 77) = _ at e77
            change ρ (.tmp 83) = _ at e83
            simp only [execOp]
            go_simp
            exact hK _ _ rfl (Grew.refl _)
          · have eG : ρ (.tmp 68) = _ := hG 23 68 (by decide) (by kernel_rfl) (by kernel_rfl)
            refine onG rfl (by kernel_rfl) eG ?_
            intro bA K Q' hK
            have e71 := hG 26 71 (by decide) (by kernel_rfl) (by kernel_rfl)
            have e84 := hG 39 84 (by decide) (by kernel_rfl) (by kernel_rfl)
            change ρ (.tmp 71) = _ at e71
            change ρ (.tmp 84) = _ at e84
            simp only [execOp]
            go_simp
            exact hK _ _ rfl (Grew.refl _)
          · refine plainG rfl ?_
            intro bA K Q' hK
            have e68 := hG 23 68 (by decide) (by kernel_rfl) (by kernel_rfl)
            have e85 := hG 40 85 (by decide) (by kernel_rfl) (by kernel_rfl)
            change ρ (.tmp 68) = _ at e68
            change ρ (.tmp 85) = _ at e85
            simp only [execOp]
            go_simp
            exact hK _ _ rfl (Grew.refl _)
        · intro vv w7 hR hG
          have h9 : vv 41 = .bool false := hG.2
          have hb7 : Below wr.heap.size wr w7 := ⟨hR.os, hR.tape, hR.output, hR.size, hR.block⟩
          have HB7 := hid (HBR.out.trans (hb7.mono HBR.out.size))
          clear hG hR hb7 HCE HSM HUN HUR
          simp [stG, stU, dstAt, Act.put, h9]
          clear h9
          go_wp2_with fail
          go_roundw
          case rel => exact ⟨t + 1, HLT.out, by have h1 := HLT.out; have h2 : (t : Int) < 100000 := (by omega); go_num, HB7.out⟩
          case measure => simp [intOf]; have := HLT.out; omega
      · have htg : decide ((0 : Int) < (t : Int)) = false := decide_eq_false (by omega)
        have htg2 : (t : Int) ≤ 0 := by omega
        have htgN : (0 < t) = False := eq_false ht0
        have HCE : Hid (∀ y, Below wr.heap.size wr y → y.cell? ⟨lb, lo + t, none⟩ = some (.slice a1 n1 c1) ∧ y.cell? ⟨wb, wo + t, none⟩ = some r2 ∧ True) := hid fun y hy =>
          ⟨hc1 y (h3r.trans (hy.mono h3r.size)), hc2 y (h3r.trans (hy.mono h3r.size)), trivial⟩
        clear hlt hb h3r htQ hc1 hc2 hs2 hY hYQ hYk hYl hYb hYz hU hn1 ht0
        go_wp2_with fail
        refine wp_region_grows 42 [EqA (.slice (some ⟨lb, lo, none⟩) nl lc), EqA (.int .i64 (t : Int)), EqA (.pointer (some ⟨lb, lo + t, none⟩)), EqA (.slice a1 n1 c1), EqA (.slice (some ⟨wb, wo, none⟩) nl wc), EqA (.int .i64 (t : Int)), EqA (.pointer (some ⟨wb, wo + t, none⟩)), EqA (r2), EqA (.bool true), EqA (.bool false), EqA (.bool false), EqA (.slice (some ⟨lb, lo, none⟩) nl lc), EqA (.int .i64 (t : Int)), EqA (.pointer (some ⟨lb, lo + t, none⟩)), EqA (.slice a1 n1 c1), EqA (.bool U), EqA (.slice (some ⟨wb, wo, none⟩) nl wc), EqA (.int .i64 (t : Int)), EqA (.pointer (some ⟨wb, wo + t, none⟩)), EqA (r2), EqA (.bool U), EqA (.bool false), EqA (.bool false), EqA (.bool false), EqA (.int .i64 (t : Int)), EqA (.bool false), EqA (.bool false), EqA undef, EqA undef, EqA undef, EqA undef, EqA undef, EqA undef, EqA undef, EqA undef, EqA undef, EqA undef, EqA undef, EqA undef, EqA undef, EqA (.bool false), EqA (.bool false)] (by kernel_rfl) (by decide) (by kernel_rfl) ?_ ?_ ?_
        · repeat' (first | exact List.forall_mem_nil _ | refine List.forall_mem_cons.2 ⟨?_, ?_⟩)
          all_goals
            intro w w' v hw h
            exact h
        · simp only [AllLt]
          refine ⟨⟨⟨⟨⟨⟨⟨⟨⟨⟨⟨⟨⟨⟨⟨⟨⟨⟨⟨⟨⟨⟨⟨⟨⟨⟨⟨⟨⟨⟨⟨⟨⟨⟨⟨⟨⟨⟨⟨⟨⟨⟨trivial, ?_⟩, ?_⟩, ?_⟩, ?_⟩, ?_⟩, ?_⟩, ?_⟩, ?_⟩, ?_⟩, ?_⟩, ?_⟩, ?_⟩, ?_⟩, ?_⟩, ?_⟩, ?_⟩, ?_⟩, ?_⟩, ?_⟩, ?_⟩, ?_⟩, ?_⟩, ?_⟩, ?_⟩, ?_⟩, ?_⟩, ?_⟩, ?_⟩, ?_⟩, ?_⟩, ?_⟩, ?_⟩, ?_⟩, ?_⟩, ?_⟩, ?_⟩, ?_⟩, ?_⟩, ?_⟩, ?_⟩, ?_⟩, ?_⟩
          all_goals
            intro o' ho
            simp at ho
            subst ho
            intro ρ w6 hR hL hS hG
            obtain ⟨hl1, hl2, -⟩ := hL
          · refine plainG rfl ?_
            intro bA K Q' hK
            have e8 := hS 8 (by kernel_rfl)
            change ρ (.tmp 8) = _ at e8
            simp only [execOp]
            go_simp
            exact hK _ _ rfl (Grew.refl _)
          · refine plainG rfl ?_
            intro bA K Q' hK
            have e11 := hS 11 (by kernel_rfl)
            change ρ (.tmp 11) = _ at e11
            simp only [execOp]
            go_simp
            exact hK _ _ rfl (Grew.refl _)
          · refine plainG rfl ?_
            intro bA K Q' hK
            have e45 := hG 0 45 (by decide) (by kernel_rfl) (by kernel_rfl)
            have e46 := hG 1 46 (by decide) (by kernel_rfl) (by kernel_rfl)
            change ρ (.tmp 45) = _ at e45
            change ρ (.tmp 46) = _ at e46
            simp only [execOp]
            go_simp
            exact hK _ _ rfl (Grew.refl _)
          · refine plainG rfl ?_
            intro bA K Q' hK
            have e47 := hG 2 47 (by decide) (by kernel_rfl) (by kernel_rfl)
            change ρ (.tmp 47) = _ at e47
            obtain ⟨y1, y2, y3⟩ := HCE.out w6 ⟨hR.os, hR.tape, hR.output, hR.size, hR.block⟩
            simp only [execOp]
            go_simp
            exact hK _ _ rfl (Grew.refl _)
          · refine plainG rfl ?_
            intro bA K Q' hK
            have e10 := hS 10 (by kernel_rfl)
            change ρ (.tmp 10) = _ at e10
            simp only [execOp]
            go_simp
            exact hK _ _ rfl (Grew.refl _)
          · refine plainG rfl ?_
            intro bA K Q' hK
            have e11 := hS 11 (by kernel_rfl)
            change ρ (.tmp 11) = _ at e11
            simp only [execOp]
            go_simp
            exact hK _ _ rfl (Grew.refl _)
          · refine plainG rfl ?_
            intro bA K Q' hK
            have e49 := hG 4 49 (by decide) (by kernel_rfl) (by kernel_rfl)
            have e50 := hG 5 50 (by decide) (by kernel_rfl) (by kernel_rfl)
            change ρ (.tmp 49) = _ at e49
            change ρ (.tmp 50) = _ at e50
            simp only [execOp]
            go_simp
            exact hK _ _ rfl (Grew.refl _)
          · refine plainG rfl ?_
            intro bA K Q' hK
            have e51 := hG 6 51 (by decide) (by kernel_rfl) (by kernel_rfl)
            change ρ (.tmp 51) = _ at e51
            obtain ⟨y1, y2, y3⟩ := HCE.out w6 ⟨hR.os, hR.tape, hR.output, hR.size, hR.block⟩
            simp only [execOp]
            go_simp
            exact hK _ _ rfl (Grew.refl _)
          · refine plainG rfl ?_
            intro bA K Q' hK
            have e48 := hG 3 48 (by decide) (by kernel_rfl) (by kernel_rfl)
            have e52 := hG 7 52 (by decide) (by kernel_rfl) (by kernel_rfl)
            change ρ (.tmp 48) = _ at e48
            change ρ (.tmp 52) = _ at e52
            simp only [execOp]
            go_simp
            refine (HSM.out w6 ⟨hR.os, hR.tape, hR.output, hR.size, hR.block⟩).mono ?_
            rintro r9 w9 ⟨rfl, hb9⟩
            exact hK _ _ rfl hb9
          · refine plainG rfl ?_
            intro bA K Q' hK
            have e53 := hG 8 53 (by decide) (by kernel_rfl) (by kernel_rfl)
            change ρ (.tmp 53) = _ at e53
            simp only [execOp]
            go_simp
            exact hK _ _ rfl (Grew.refl _)
          · refine plainG rfl ?_
            intro bA K Q' hK
            have e54 := hG 9 54 (by decide) (by kernel_rfl) (by kernel_rfl)
            change ρ (.tmp 54) = _ at e54
            simp only [execOp]
            go_simp
            exact hK _ _ rfl (Grew.refl _)
          · have eG : ρ (.tmp 55) = _ := hG 10 55 (by decide) (by kernel_rfl) (by kernel_rfl)
            refine onG rfl (by kernel_rfl) eG ?_
            intro bA K Q' hK
            have e8 := hS 8 (by kernel_rfl)
            change ρ (.tmp 8) = _ at e8
            simp only [execOp]
            go_simp
            exact hK _ _ rfl (Grew.refl _)
          · have eG : ρ (.tmp 55) = _ := hG 10 55 (by decide) (by kernel_rfl) (by kernel_rfl)
            refine onG rfl (by kernel_rfl) eG ?_
            intro bA K Q' hK
            have e11 := hS 11 (by kernel_rfl)
            change ρ (.tmp 11) = _ at e11
            simp only [execOp]
            go_simp
            exact hK _ _ rfl (Grew.refl _)
          · have eG : ρ (.tmp 55) = _ := hG 10 55 (by decide) (by kernel_rfl) (by kernel_rfl)
            refine onG rfl (by kernel_rfl) eG ?_
            intro bA K Q' hK
            have e56 := hG 11 56 (by decide) (by kernel_rfl) (by kernel_rfl)
            have e57 := hG 12 57 (by decide) (by kernel_rfl) (by kernel_rfl)
            change ρ (.tmp 56) = _ at e56
            change ρ (.tmp 57) = _ at e57
            simp only [execOp]
            go_simp
            exact hK _ _ rfl (Grew.refl _)
          · have eG : ρ (.tmp 55) = _ := hG 10 55 (by decide) (by kernel_rfl) (by kernel_rfl)
            refine onG rfl (by kernel_rfl) eG ?_
            intro bA K Q' hK
            have e58 := hG 13 58 (by decide) (by kernel_rfl) (by kernel_rfl)
            change ρ (.tmp 58) = _ at e58
            obtain ⟨y1, y2, y3⟩ := HCE.out w6 ⟨hR.os, hR.tape, hR.output, hR.size, hR.block⟩
            simp only [execOp]
            go_simp
            exact hK _ _ rfl (Grew.refl _)
          · have eG : ρ (.tmp 55) = _ := hG 10 55 (by decide) (by kernel_rfl) (by kernel_rfl)
            refine onG rfl (by kernel_rfl) eG ?_
            intro bA K Q' hK
            have e59 := hG 14 59 (by decide) (by kernel_rfl) (by kernel_rfl)
            change ρ (.tmp 59) = _ at e59
            simp only [execOp]
            go_simp
            refine (HUN.out w6 ⟨hR.os, hR.tape, hR.output, hR.size, hR.block⟩).mono ?_
            rintro r9 w9 ⟨rfl, hb9⟩
            exact hK _ _ rfl hb9
          · have eG : ρ (.tmp 55) = _ := hG 10 55 (by decide) (by kernel_rfl) (by kernel_rfl)
            refine onG rfl (by kernel_rfl) eG ?_
            intro bA K Q' hK
            have e10 := hS 10 (by kernel_rfl)
            change ρ (.tmp 10) = _ at e10
            simp only [execOp]
            go_simp
            exact hK _ _ rfl (Grew.refl _)
          · have eG : ρ (.tmp 55) = _ := hG 10 55 (by decide) (by kernel_rfl) (by kernel_rfl)
            refine onG rfl (by kernel_rfl) eG ?_
            intro bA K Q' hK
            have e11 := hS 11 (by kernel_rfl)
            change ρ (.tmp 11) = _ at e11
            simp only [execOp]
            go_simp
            exact hK _ _ rfl (Grew.refl _)
          · have eG : ρ (.tmp 55) = _ := hG 10 55 (by decide) (by kernel_rfl) (by kernel_rfl)
            refine onG rfl (by kernel_rfl) eG ?_
            intro bA K Q' hK
            have e61 := hG 16 61 (by decide) (by kernel_rfl) (by kernel_rfl)
            have e62 := hG 17 62 (by decide) (by kernel_rfl) (by kernel_rfl)
            change ρ (.tmp 61) = _ at e61
            change ρ (.tmp 62) = _ at e62
            simp only [execOp]
            go_simp
            exact hK _ _ rfl (Grew.refl _)
          · have eG : ρ (.tmp 55) = _ := hG 10 55 (by decide) (by kernel_rfl) (by kernel_rfl)
            refine onG rfl (by kernel_rfl) eG ?_
            intro bA K Q' hK
            have e63 := hG 18 63 (by decide) (by kernel_rfl) (by kernel_rfl)
            change ρ (.tmp 63) = _ at e63
            obtain ⟨y1, y2, y3⟩ := HCE.out w6 ⟨hR.os, hR.tape, hR.output, hR.size, hR.block⟩
            simp only [execOp]
            go_simp
            exact hK _ _ rfl (Grew.refl _)
          · have eG : ρ (.tmp 55) = _ := hG 10 55 (by decide) (by kernel_rfl) (by kernel_rfl)
            refine onG rfl (by kernel_rfl) eG ?_
            intro bA K Q' hK
            have e64 := hG 19 64 (by decide) (by kernel_rfl) (by kernel_rfl)
            change ρ (.tmp 64) = _ at e64
            simp only [execOp]
            go_simp
            refine (HUR.out w6 ⟨hR.os, hR.tape, hR.output, hR.size, hR.block⟩).mono ?_
            rintro r9 w9 ⟨rfl, hb9⟩
            exact hK _ _ rfl hb9
          · have eG : ρ (.tmp 55) = _ := hG 10 55 (by decide) (by kernel_rfl) (by kernel_rfl)
            refine onG rfl (by kernel_rfl) eG ?_
            intro bA K Q' hK
            have e60 := hG 15 60 (by decide) (by kernel_rfl) (by kernel_rfl)
            have e65 := hG 20 65 (by decide) (by kernel_rfl) (by kernel_rfl)
            change ρ (.tmp 60) = _ at e60
            change ρ (.tmp 65) = _ at e65
            simp only [execOp]
            go_simp
            exact hK _ _ rfl (Grew.refl _)
          · refine plainG rfl ?_
            intro bA K Q' hK
            have e55 := hG 10 55 (by decide) (by kernel_rfl) (by kernel_rfl)
            have e66 := hG 21 66 (by decide) (by kernel_rfl) (by kernel_rfl)
            change ρ (.tmp 55) = _ at e55
            change ρ (.tmp 66) = _ at e66
            simp only [execOp]
            go_simp
            exact hK _ _ rfl (Grew.refl _)
          · refine plainG rfl ?_
            intro bA K Q' hK
            have e67 := hG 22 67 (by decide) (by kernel_rfl) (by kernel_rfl)
            change ρ (.tmp 67) = _ at e67
            simp only [execOp]
            go_simp
            exact hK _ _ rfl (Grew.refl _)
          · have eG : ρ (.tmp 68) = _ := hG 23 68 (by decide) (by kernel_rfl) (by kernel_rfl)
            refine onG rfl (by kernel_rfl) eG ?_
            intro bA K Q' hK
            have e11 := hS 11 (by kernel_rfl)
            change ρ (.tmp 11) = _ at e11
            simp only [execOp]
            go_simp
            exact hK _ _ rfl (Grew.refl _)
          · have eG : ρ (.tmp 68) = _ := hG 23 68 (by decide) (by kernel_rfl) (by kernel_rfl)
            refine onG rfl (by kernel_rfl) eG ?_
            intro bA K Q' hK
            have e69 := hG 24 69 (by decide) (by kernel_rfl) (by kernel_rfl)
            change ρ (.tmp 69) = _ at e69
            simp only [execOp]
            go_simp
            exact hK _ _ rfl (Grew.refl _)
          · have eG : ρ (.tmp 68) = _ := hG 23 68 (by decide) (by kernel_rfl) (by kernel_rfl)
            refine onG rfl (by kernel_rfl) eG ?_
            intro bA K Q' hK
            have e70 := hG 25 70 (by decide) (by kernel_rfl) (by kernel_rfl)
            change ρ (.tmp 70) = _ at e70
            simp only [execOp]
            go_simp
            exact hK _ _ rfl (Grew.refl _)
          · have eG : ρ (.tmp 71) = _ := hG 26 71 (by decide) (by kernel_rfl) (by kernel_rfl)
            exact offG rfl (by kernel_rfl) eG rfl rfl
          · have eG : ρ (.tmp 71) = _ := hG 26 71 (by decide) (by kernel_rfl) (by kernel_rfl)
            exact offG rfl (by kernel_rfl) eG rfl rfl
          · have eG : ρ (.tmp 71) = _ := hG 26 71 (by decide) (by kernel_rfl) (by kernel_rfl)
            exact offG rfl (by kernel_rfl) eG rfl rfl
          · have eG : ρ (.tmp 71) = _ := hG 26 71 (by decide) (by kernel_rfl) (by kernel_rfl)
            exact offG rfl (by kernel_rfl) eG rfl rfl
          · have eG : ρ (.tmp 71) = _ := hG 26 71 (by decide) (by kernel_rfl) (by kernel_rfl)
            exact offG rfl (by kernel_rfl) eG rfl rfl
          · have eG : ρ (.tmp 71) = _ := hG 26 71 (by decide) (by kernel_rfl) (by kernel_rfl)
            exact offG rfl (by kernel_rfl) eG rfl rfl
          · have eG : ρ (.tmp 71) = _ := hG 26 71 (by decide) (by kernel_rfl) (by kernel_rfl)
            exact offG rfl (by kernel_rfl) eG rfl rfl
          · have eG : ρ (.tmp 71) = _ := hG 26 71 (by decide) (by kernel_rfl) (by kernel_rfl)
            exact offG rfl (by kernel_rfl) eG rfl rfl
          · have eG : ρ (.tmp 71) = _ := hG 26 71 (by decide) (by kernel_rfl) (by kernel_rfl)
            exact offG rfl (by kernel_rfl) eG rfl rfl
          · have eG : ρ (.tmp 71) = _ := hG 26 71 (by decide) (by kernel_rfl) (by kernel_rfl)
            exact offG rfl (by kernel_rfl) eG rfl rfl
          · have eG : ρ (.tmp 71) = _ := hG 26 71 (by decide) (by kernel_rfl) (by kernel_rfl)
            exact offG rfl (by kernel_rfl) eG rfl rfl
          · have eG : ρ (.tmp 71) = _ := hG 26 71 (by decide) (by kernel_rfl) (by kernel_rfl)
            exact offG rfl (by kernel_rfl) eG rfl rfl
          · have eG : ρ (.tmp 71) = _ := hG 26 71 (by decide) (by kernel_rfl) (by kernel_rfl)
            exact offG rfl (by kernel_rfl) eG rfl rfl
          · have eG : ρ (.tmp 68) = _ := hG 23 68 (by decide) (by kernel_rfl) (by kernel_rfl)
            refine onG rfl (by kernel_rfl) eG ?_
            intro bA K Q' hK
            have e71 := hG 26 71 (by decide) (by kernel_rfl) (by kernel_rfl)
            have e84 := hG 39 84 (by decide) (by kernel_rfl) (by kernel_rfl)
            change ρ (.tmp 71) = _ at e71
            change ρ (.tmp 84) = _ at e84
            simp only [execOp]
            go_simp
            exact hK _ _ rfl (Grew.refl _)
          · refine plainG rfl ?_
            intro bA K Q' hK
            have e68 := hG 23 68 (by decide) (by kernel_rfl) (by kernel_rfl)
            have e85 := hG 40 85 (by decide) (by kernel_rfl) (by kernel_rfl)
            change ρ (.tmp 68) = _ at e68
            change ρ (.tmp 85) = _ at e85
            simp only [execOp]
            go_simp
            exact hK _ _ rfl (Grew.refl _)
        · intro vv w7 hR hG
          have h9 : vv 41 = .bool false := hG.2
          have hb7 : Below wr.heap.size wr w7 := ⟨hR.os, hR.tape, hR.output, hR.size, hR.block⟩
          have HB7 := hid (HBR.out.trans (hb7.mono HBR.out.size))
          clear hG hR hb7 HCE HSM HUN HUR
          simp [stG, stU, dstAt, Act.put, h9]
          clear h9
          go_wp2_with fail
          go_roundw
          case rel => exact ⟨t + 1, HLT.out, by have h1 := HLT.out; have h2 : (t : Int) < 100000 := (by omega); go_num, HB7.out⟩
          case measure => simp [intOf]; have := HLT.out; omega
    · have hti : (t < nl) = False := eq_false hlt
      have HB5 := hid (HB4.out.trans (hb.mono HB4.out.size))
      have HC := hid (known17_any ps wr)
      clear hlt hb HBR
      obtain ⟨E, hE⟩ : ∃ E, E = dpT x2.toNat := ⟨_, rfl⟩
      have HEE := hid hE
      have hEE : ((E : Int) == (E : Int)) = true := beq_self_eq_true _
      clear hE
      go_wp2_with fail
      refine HC.out.mono ?_
      rintro e w5 ⟨rfl, hb⟩
      have HB6 := hid (HB5.out.trans (hb.mono HB5.out.size))
      have HC := hid (ps.pDeepest w5 x2 HX2.out)
      rw [← HEE.out] at HC
      clear hb HB5
      go_wp2_with fail
      refine HC.out.mono ?_
      rintro e w6 ⟨rfl, hb⟩
      have HB7 := hid (HB6.out.trans (hb.mono HB6.out.size))
      have HC := hid (refDeepest_any w6 x2 HX2.out)
      rw [← HEE.out] at HC
      clear hb HB6
      go_wp2_with fail
      refine HC.out.mono ?_
      rintro e w7 ⟨rfl, rfl⟩
      clear HC
      go_wp2_with fail
      go_ret
      exact ⟨rfl, HB7.out⟩
end Go.Proofs.Ytmllpednaibeeaa
