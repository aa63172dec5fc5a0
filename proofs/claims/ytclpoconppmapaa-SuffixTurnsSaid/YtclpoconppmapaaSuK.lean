/- CONTRACTS (suffix, as it landed): Commons. -/
import Derived.Test.YtclpoconppmapaaSuH
namespace Go.Inc
open Go.RowKit
/-- What two have in common with one between them is no more than the one between and the last one have. -/
theorem cmL_between : ∀ {A B C : List Int}, ltL A B = true → ltL B C = true → cmL A C ≤ cmL B C
  | [], _, _, _, _ => by simp [cmL]
  | _ :: _, [], _, h, _ => by cases h
  | _ :: _, _ :: _, [], _, h => by cases h
  | a :: A, b :: B, c :: C, h, k => by
    show (if a = c then cmL A C + 1 else 0) ≤ (if b = c then cmL B C + 1 else 0)
    by_cases e : a = c
    · subst e
      rw [ltL_cons] at h k
      have hab : a = b := by omega
      subst hab
      rw [if_pos rfl, if_pos rfl]
      have h1 : ltL A B = true := by rcases h with h | ⟨-, h⟩; omega; exact h
      have h2 : ltL B C = true := by rcases k with h | ⟨-, h⟩; omega; exact h
      have := cmL_between h1 h2
      omega
    · rw [if_neg e]; omega
/-- Where a place stands in the order. -/
def psT (x : List Int) (p : Nat) : Nat := (tnT (zsN (srT x x.length))).getD p 0
/-- The place ahead of a place. -/
def prT (x : List Int) (p : Nat) : Nat := (srT x x.length).getD (psT x p - 1) 0
theorem psT_at {x : List Int} {p : Nat} (h : p < x.length) : psT x p < x.length ∧ (srT x x.length).getD (psT x p) 0 = p := by
  have hlen : (zsN (srT x x.length)).length = x.length := by rw [zsN_len, srT_len]
  have h1 := at_pos (okT_sr x) (a := p) (by omega)
  rw [zsN_get] at h1
  unfold psT
  exact ⟨by omega, Int.ofNat.inj h1.2⟩
theorem psT_of {x : List Int} {i : Nat} (h : i < x.length) : (srT x x.length).getD i 0 < x.length ∧ psT x ((srT x x.length).getD i 0) = i := by
  have hlen : (zsN (srT x x.length)).length = x.length := by rw [zsN_len, srT_len]
  obtain ⟨a, h1, h2, h3⟩ := pos_of (okT_sr x) (i := i) (by omega)
  rw [zsN_get] at h1
  have e : (srT x x.length).getD i 0 = a := Int.ofNat.inj h1
  rw [e]
  exact ⟨by omega, h3⟩
theorem psT_pos {x : List Int} (hk : ckT x = 0) {p : Nat} (h : p + 1 < x.length) : 0 < psT x p := by
  apply Classical.byContradiction
  intro hc
  have h1 := psT_at (x := x) (p := p) (by omega)
  rw [show psT x p = 0 from by omega, srT_head hk] at h1
  omega
theorem prT_at {x : List Int} (hk : ckT x = 0) {p : Nat} (h : p + 1 < x.length) : prT x p < x.length ∧ psT x (prT x p) + 1 = psT x p ∧ lsT x (prT x p) p = true := by
  have h0 := psT_pos hk h
  have h1 := psT_at (x := x) (p := p) (by omega)
  have h2 := psT_of (x := x) (i := psT x p - 1) (by omega)
  unfold prT
  refine ⟨h2.1, by omega, ?_⟩
  refine (pos_sr h2.1 (by omega)).2 ?_
  have e1 := h2.2
  unfold psT at e1 h0 ⊢
  omega
/-- The next place has in common with the one ahead of it at most one less. -/
theorem kasai {x : List Int} (hk : ckT x = 0) {p : Nat} (h : p + 2 < x.length) : cmT x (prT x p) p - 1 ≤ cmT x (prT x (p + 1)) (p + 1) := by
  have hr := (ckT_zero hk).2.2
  by_cases h1 : cmT x (prT x p) p ≤ 1
  · omega
  · obtain ⟨ha, hb, hc⟩ := prT_at hk (p := p) (by omega)
    obtain ⟨hd, he, hf⟩ := prT_at hk (p := p + 1) (by omega)
    have hs : x.getD (prT x p) 0 = x.getD p 0 := by
      have := cmL_same (x.drop (prT x p)) (x.drop p) 0 (by unfold cmT at h1; omega)
      rw [drop_get, drop_get] at this
      exact this
    have hne : prT x p ≠ p := fun e => by rw [e, lsT_irrefl] at hc; cases hc
    have hin := same_in hr ha (by omega) hne hs
    have hcm : cmT x (prT x p) p = cmT x (prT x p + 1) (p + 1) + 1 := by
      unfold cmT
      rw [drop_atU ha, drop_atU (i := p) (by omega)]
      show (if _ = _ then _ else _) = _
      rw [if_pos hs]
    have hl1 : lsT x (prT x p + 1) (p + 1) = true := by
      rcases (lsT_stepU ha (by omega)).1 hc with h2 | ⟨-, h2⟩
      · omega
      · exact h2
    have hp1 := (pos_sr hin.1 hin.2).1 hl1
    have hq : psT x (prT x p + 1) ≤ psT x (prT x (p + 1)) := by unfold psT at he ⊢; omega
    by_cases hqq : psT x (prT x p + 1) = psT x (prT x (p + 1))
    · have e1 := (psT_at hin.1).2
      have e2 := (psT_at hd).2
      rw [hqq, e2] at e1
      rw [e1, hcm]; omega
    · have hl2 : lsT x (prT x p + 1) (prT x (p + 1)) = true := (pos_sr hin.1 hd).2 (by unfold psT at hq hqq; omega)
      have := cmL_between hl2 hf
      unfold cmT at hcm ⊢
      omega
/-- What is told of the rows of the first t places. -/
def CmS (x : List Int) (t : Nat) (C : List Nat) : Prop := C.length = x.length ∧ C.getD 0 0 = 0 ∧ ∀ p, p < t → C.getD (psT x p) 0 = cmT x (prT x p) p
theorem CmS.zero (x : List Int) : CmS x 0 (List.replicate x.length 0) := by
  refine ⟨List.length_replicate, ?_, fun p h => by omega⟩
  rw [List.getD_eq_getElem?_getD, List.getElem?_replicate]
  split <;> rfl
theorem setN_at {m : List Nat} {u j b : Nat} (hu : u < m.length) : (m.set u b).getD j 0 = if j = u then b else m.getD j 0 := by
  rw [List.getD_eq_getElem?_getD, List.getElem?_set]
  by_cases e : u = j
  · subst e; rw [if_pos rfl, if_pos hu, if_pos rfl]; rfl
  · rw [if_neg e, if_neg (fun h => e h.symm), List.getD_eq_getElem?_getD]
theorem CmS.step {x : List Int} {C : List Nat} {t : Nat} (hk : ckT x = 0) (h : CmS x t C) (ht : t + 1 < x.length) : CmS x (t + 1) (C.set (psT x t) (cmT x (prT x t) t)) := by
  obtain ⟨h1, h2, h3⟩ := h
  have h0 := psT_pos hk ht
  have h4 := psT_at (x := x) (p := t) (by omega)
  refine ⟨by rw [List.length_set]; exact h1, by rw [setN_at (by omega), if_neg (by omega)]; exact h2, fun p hp => ?_⟩
  rw [setN_at (by omega)]
  by_cases e : p = t
  · subst e; rw [if_pos rfl]
  · rw [if_neg (fun e2 => e (by
      have h5 := (psT_at (x := x) (p := p) (by omega)).2
      rw [e2, h4.2] at h5
      exact h5.symm))]
    exact h3 p (by omega)
theorem CmS.done {x : List Int} {C : List Nat} (hk : ckT x = 0) (h : CmS x (x.length - 1) C) : C = cmsT x (srT x x.length) := by
  obtain ⟨h1, h2, h3⟩ := h
  have h0 := (ckT_zero hk).2.2.1
  apply List.ext_getElem (by unfold cmsT; simp [h1, srT_len])
  intro i hi1 hi2
  have hin : i < x.length := by omega
  simp only [cmsT, List.getElem_map, List.getElem_range]
  have e1 : C.getD i 0 = C[i] := by rw [List.getD_eq_getElem?_getD, List.getElem?_eq_getElem hi1]; rfl
  rw [← e1]
  by_cases e : i = 0
  · subst e; rw [if_pos rfl]; exact h2
  · rw [if_neg e]
    have h4 := psT_of (x := x) hin
    have h5 : (srT x x.length).getD i 0 + 1 < x.length := by
      apply Classical.byContradiction
      intro hc
      have h6 := psT_of (x := x) h0
      rw [srT_head hk] at h6
      rw [show (srT x x.length).getD i 0 = x.length - 1 from by omega, h6.2] at h4
      omega
    have h6 := h3 _ (show (srT x x.length).getD i 0 < x.length - 1 by omega)
    rw [h4.2] at h6
    rw [h6]
    unfold prT
    rw [h4.2]
end Go.Inc
namespace Go.Proofs.Ytclpoconppmapaa
open Go.RowKit Go.Inc
theorem nvals_zerosU (n : Nat) : (madeCells #[Value.int .i64 0] n).toList = nvals (List.replicate n 0) := by
  apply List.ext_getElem
  · simp [madeCells, nvals]
  · intro i h1 h2
    simp [madeCells, nvals, Nat.mod_one]
theorem nvals_setU (ks : List Nat) (i k : Nat) : (nvals ks).set i (.int .i64 (k : Int)) = nvals (ks.set i k) := by simp [nvals, List.map_set]
set_option maxRecDepth 20000 in
set_option maxHeartbeats 1500000 in
theorem suCommonsE (ok ok' : Nat → Prop) (w : World) (v v' : Value) (zs ls : List Int) (hs : So ok w v zs) (_hs' : So ok' w v' ls) (hl : zs.length ≤ 65536) (hz : ∀ z ∈ zs, i64s z) (hk : ckT zs ≠ 0) :
    Calls Try.prog 17 #[v, v'] w fun e w' => ∃ u, e = .returned (.tuple #[u, .int .i64 ((ckT zs : Nat) : Int)]) ∧ Below w.heap.size w w' := by
  have HC := hid (check_any ok w v zs hs hl hz)
  obtain ⟨k, hkk⟩ : ∃ k, k = ckT zs := ⟨_, rfl⟩
  rw [← hkk] at HC hk ⊢
  have hk0 : ((k : Int) != 0) = true := by rw [bne_iff_ne]; omega
  clear hs hl hz hk hkk
  go_enter Try.func17, Try.ntmps17
  go_wp2_with fail
  refine HC.out.mono ?_
  rintro e w' ⟨rfl, rfl⟩
  go_wp2_with fail
  go_ret2
  exact ⟨_, rfl, Below.refl _ _⟩
set_option maxRecDepth 20000 in
set_option maxHeartbeats 1500000 in
theorem suCommonsF (ok ok' : Nat → Prop) (w : World) (v v' : Value) (zs ls : List Int) (hs : So ok w v zs) (hs' : So ok' w v' ls) (hl : zs.length ≤ 65536) (hk : ckT zs = 0) (hl' : ls.length ≤ 65536) (hne : ls ≠ zsN (srT zs zs.length)) :
    Calls Try.prog 17 #[v, v'] w fun e w' => ∃ u, e = .returned (.tuple #[u, .int .i64 3]) ∧ Below w.heap.size w w' := by
  have HC := hid (check_any ok w v zs hs hl (ckT_i64 hk))
  rw [hk] at HC
  obtain ⟨a, c, rfl, hsi, hlc, -, -⟩ := hs
  obtain ⟨a', c', rfl, hsi', hlc', -, -⟩ := hs'
  have HR := hid (right_any ok ok' w a a' c c' zs ls hsi hsi' (ckT_zero hk).2.2 (by omega) (by omega) hlc hlc')
  rw [decide_eq_false hne] at HR
  obtain ⟨n, hn⟩ : ∃ n, n = zs.length := ⟨_, rfl⟩
  obtain ⟨m, hm⟩ : ∃ m, m = ls.length := ⟨_, rfl⟩
  rw [← hn] at HC HR ⊢
  rw [← hm] at HR ⊢
  clear hsi hsi' hlc hlc' hl hl' hk hn hm hne
  go_enter Try.func17, Try.ntmps17
  go_wp2_with fail
  refine HC.out.mono ?_
  rintro e w' ⟨rfl, rfl⟩
  clear HC
  go_wp2_with fail
  refine HR.out.mono ?_
  rintro e w1 ⟨rfl, hb⟩
  have HB := hid hb
  clear hb HR
  go_wp2_with fail
  go_ret2
  exact ⟨_, rfl, HB.out⟩
set_option maxRecDepth 20000 in
set_option maxHeartbeats 2000000 in
theorem suCommons (ok ok' : Nat → Prop) (w : World) (v v' : Value) (zs : List Int) (hs : So ok w v zs) (hs' : So ok' w v' (zsN (srT zs zs.length))) (hl : zs.length ≤ 65536) (hk : ckT zs = 0) :
    Calls Try.prog 17 #[v, v'] w (NewS w (zsN (cmsT zs (srT zs zs.length)))) := by
  have HC := hid (check_any ok w v zs hs hl (ckT_i64 hk))
  rw [hk] at HC
  obtain ⟨a, c, rfl, hsi, hlc, -, -⟩ := hs
  obtain ⟨a', c', rfl, hsi', hlc', -, -⟩ := hs'
  have hlen : (zsN (srT zs zs.length)).length = zs.length := by rw [zsN_len, srT_len]
  have HR := hid (right_any ok ok' w a a' c c' zs _ hsi hsi' (ckT_zero hk).2.2 (by omega) (by omega) hlc hlc')
  have HT := hid (fun (y : World) (hy : Below w.heap.size w y) => turned_any ok' y a' c' _ (hsi'.below hy) (by omega))
  rw [decide_eq_true rfl] at HR
  have HCM := hid (fun (y : World) (hy : Below w.heap.size w y) (i j k : Nat) hi hj hk => common_any ok y a c zs i j k (hsi.below hy) (by omega) hi hj hk)
  have HPS := hid (fun (p : Nat) h => psT_at (x := zs) (p := p) h)
  have HPP := hid (fun (p : Nat) h => psT_pos hk (p := p) h)
  have HPR := hid (fun (p : Nat) h => prT_at hk (p := p) h)
  have HKA := hid (fun (p : Nat) h => kasai hk (p := p) h)
  have HST := hid (fun (C : List Nat) (t : Nat) h1 h2 => CmS.step (C := C) (t := t) hk h1 h2)
  have HDN := hid (fun (C : List Nat) h => CmS.done (C := C) hk h)
  have HZ := hid (CmS.zero zs)
  have HOK := hid (okT_sr zs)
  have h0 := (ckT_zero hk).2.2.1
  obtain ⟨L, hL⟩ : ∃ L, L = zsN (srT zs zs.length) := ⟨_, rfl⟩
  have HPL : Hid (∀ p, psT zs p = (tnT L).getD p 0) := hid (fun p => by rw [hL]; rfl)
  have HPX : Hid (∀ p, L.getD (psT zs p - 1) 0 = ((prT zs p : Nat) : Int)) := hid (fun p => by rw [hL, zsN_get]; rfl)
  rw [← hL] at hsi' hlen HR HT HOK hlc' ⊢
  rw [hlen] at HR HT hlc' ⊢
  obtain ⟨R, hR⟩ : ∃ R, R = cmsT zs (srT zs zs.length) := ⟨_, rfl⟩
  rw [← hR] at HDN ⊢
  obtain ⟨n, hn⟩ : ∃ n, n = zs.length := ⟨_, rfl⟩
  have HN := hid hn
  rw [← hn] at HC HR HT hl hlc hlc' h0 hlen HCM HPS HPP HPR HKA HST HDN HZ ⊢
  have HLN := hid hlen
  have HSI' := hid hsi'
  obtain ⟨l, hnl⟩ : ∃ l : Nat, (n : Int) - 1 = (l : Int) := ⟨n - 1, by omega⟩
  have HNL : Hid (l + 1 = n ∧ n - 1 = l) := hid (by omega)
  rw [HNL.out.2] at HDN
  have hlb : (n : Int) ≤ 65536 := by omega
  have hll : (l : Int) ≤ (n : Int) := by omega
  obtain ⟨i0, hi, hz0, hz1, hz2⟩ := info_parts infoIntS
  have HI := hid (And.intro hi (And.intro hz0 (And.intro hz1 hz2)))
  clear hsi hsi' hk hl hlen hL hR hn hi hz0 hz1 hz2
  go_enter Try.func17, Try.ntmps17
  go_wp2_with fail
  refine HC.out.mono ?_
  rintro e w' ⟨rfl, rfl⟩
  clear HC
  go_wp2_with fail
  refine HR.out.mono ?_
  rintro e w1 ⟨rfl, hb⟩
  have HB1 := hid hb
  have HT1 := hid (HT.out w1 hb)
  clear hb HR HT
  go_wp2_with fail
  refine HT1.out.mono ?_
  rintro e w2 ⟨⟨u, k, rfl, hgood, -⟩, hb⟩
  obtain ⟨rfl, hso⟩ := hgood HOK.out
  obtain ⟨a2, c2, rfl, hsi2, hlc2, hcm2, -⟩ := hso
  have HLEN : Hid ((zsN (tnT L)).length = n) := hid (by rw [zsN_len, tnT_len]; exact HLN.out)
  rw [HLEN.out] at hlc2 ⊢
  have HSI2 := hid hsi2
  have HB2 := hid (HB1.out.trans (hb.mono HB1.out.size))
  have hlc2' : (n : Int) ≤ (c2 : Int) := by omega
  have hc2b : (c2 : Int) ≤ 9223372036854775807 := by unfold maxLen at hcm2; omega
  clear hgood hsi2 hb HT1 HB1 hcm2 hlc2
  go_wp2_with (refine wpList_make_full _ rfl _ _ 22 rfl w2.heap.size 3 i0 (.int .i64 0) 1 Try.underlying22 HI.out.1 HI.out.2.1 HI.out.2.2.1 .i64 .i64 _ _ n rfl rfl rfl rfl (by rw [HI.out.2.2.2]; omega) (by unfold maxLen; omega) (Nat.le_refl _) ?_)
  intro w3 hown hg
  obtain ⟨g, hgg⟩ : ∃ g, g = w2.heap.size := ⟨_, rfl⟩
  have HG := hid hgg
  have HBX : Hid (Below w2.heap.size w2 w3) := hid ⟨hg.os, hg.tape, hg.output, hg.size, fun i hi => hg.block i hi (by simp)⟩
  have HRW : Hid (w3.ownsRow w2.heap.size 3 1 (.slice (some ⟨w2.heap.size, 0, none⟩) n n) n (nvals (List.replicate n 0))) := hid (by rw [nvals_zerosU n] at hown; exact hown)
  rw [← hgg] at HRW ⊢
  clear hown hg HI hgg
  obtain ⟨qb, qo, rfl, hq⟩ : ∃ pb po, a2 = some ⟨pb, po, none⟩ ∧ ∀ y, Below w2.heap.size w2 y → ∀ p, p < n → y.cell? ⟨pb, po + p, none⟩ = some (.int .i64 ((psT zs p : Nat) : Int)) := by
    rcases HSI2.out with h | ⟨b, o, h, -, hc⟩
    · have := HLEN.out; rw [h] at this; simp at this; omega
    · refine ⟨b, o, h, fun y hy p hp => ?_⟩
      have h1 := hc p (by rw [HLEN.out]; exact hp)
      rw [zsN_get, ← HPL.out] at h1
      rw [World.cell?_of_block (hy.block b (cell_lt h1))]; exact h1
  obtain ⟨rb, ro, rfl, ho⟩ : ∃ pb po, a' = some ⟨pb, po, none⟩ ∧ ∀ y, Below w2.heap.size w2 y → ∀ i, i < n → y.cell? ⟨pb, po + i, none⟩ = some (.int .i64 (L.getD i 0)) := by
    rcases HSI'.out.below HB2.out with h | ⟨b, o, h, -, hc⟩
    · have := HLN.out; rw [h] at this; simp at this; omega
    · refine ⟨b, o, h, fun y hy i hi => ?_⟩
      have h1 := hc i (by rw [HLN.out]; exact hi)
      rw [World.cell?_of_block (hy.block b (cell_lt h1))]; exact h1
  have HQ := hid hq
  have HO := hid ho
  clear hq ho HSI2 HSI' h0
  go_wp2_with fail
  go_loopw [10, 36] (fun al i wr => ∃ (t α : Nat) (C : List Nat), t ≤ l ∧ i = .int .i64 (t : Int) ∧ al = .int .i64 (α : Int) ∧ (t < l → α ≤ cmT zs (prT zs t) t) ∧ CmS zs t C ∧ wr.ownsRow w2.heap.size 3 1 (.slice (some ⟨g, 0, none⟩) n n) n (nvals C) ∧ Below w2.heap.size w2 wr) (fun _ i _ => l - (intOf i).toNat)
  case atStart => exact ⟨0, 0, _, Nat.zero_le _, rfl, rfl, fun _ => Nat.zero_le _, HZ.out, by rw [← HG.out]; exact HRW.out, HBX.out⟩
  case round =>
    clear HRW HBX HZ
    obtain ⟨t, α, C, ht, rfl, rfl, hal, hcs, hr, hb⟩ := hrel
    have HCS := hid hcs
    have HR := hid hr
    have HB := hid hb
    clear hcs hr hb
    by_cases hlt : t < l
    · have hti : (t < l) = True := eq_true hlt
      have HLT := hid hlt
      have htb : (t : Int) ≤ 65536 := by omega
      have htl : (t : Int) < (l : Int) := by omega
      have HAL := hid (hal hlt)
      have hP := HPS.out t (by have := HNL.out; omega)
      have hP0 := HPP.out t (by have := HNL.out; omega)
      have hPR := HPR.out t (by have := HNL.out; omega)
      have hcr := HQ.out wr HB.out t (by have := HNL.out; omega)
      have HST1 := hid (HST.out C t HCS.out (by have := HNL.out; omega))
      have HKA1 := hid (HKA.out t)
      obtain ⟨r1, hr1⟩ : ∃ r1 : Nat, ((psT zs t : Nat) : Int) - 1 = (r1 : Int) := ⟨psT zs t - 1, by omega⟩
      have hco := HO.out wr HB.out r1 (by omega)
      rw [show r1 = psT zs t - 1 from by omega, HPX.out t] at hco
      rw [show psT zs t - 1 = r1 from by omega] at hco
      have HCL := hid (HCM.out wr (HB2.out.trans (HB.out.mono HB2.out.size)) (prT zs t) t α (by have := hPR.1; have := HN.out; omega) (by have := HNL.out; have := HN.out; omega) HAL.out)
      obtain ⟨r, hr⟩ : ∃ r, r = psT zs t := ⟨_, rfl⟩
      obtain ⟨j, hj⟩ : ∃ j, j = prT zs t := ⟨_, rfl⟩
      rw [← hr] at hP hP0 hcr HST1 hr1
      rw [← hj] at hco HCL HST1 HKA1
      obtain ⟨h, hh⟩ : ∃ h, h = cmT zs j t := ⟨_, rfl⟩
      have HHB : Hid (h ≤ 65536) := hid (by
        have h1 := (cmL_le (zs.drop j) (zs.drop t)).1
        rw [List.length_drop] at h1
        have := HN.out
        rw [hh]; unfold cmT; omega)
      rw [← hh] at HCL HST1 HKA1
      have hrn : (r : Int) < (n : Int) := by omega
      have hr1n : (r1 : Int) < (n : Int) := by omega
      have HRN := hid hP.1
      have HCN : Hid (C.length = n) := hid (by rw [HCS.out.1]; exact HN.out.symm)
      clear hlt hal hP hP0 hPR hr hj hh HAL
      go_wp2_with fail
      refine HCL.out.mono ?_
      rintro e w4 ⟨rfl, hb4⟩
      have HB4 := hid (HB.out.trans (hb4.mono HB.out.size))
      have HR4 := hid (owns_mv (F := fun _ => False) HR.out (Mv.of_below hb4) (fun _ _ => id))
      have HNEW : Hid ((w4.setCell ⟨g, r, none⟩ (.int .i64 (h : Int))).ownsRow w2.heap.size 3 1 (.slice (some ⟨g, 0, none⟩) n n) n (nvals (C.set r h)) ∧ Below w2.heap.size w2 (w4.setCell ⟨g, r, none⟩ (.int .i64 (h : Int)))) := hid (by
        have h1 := HR4.out.stored r (.int .i64 (h : Int))
        rw [nvals_setU] at h1
        exact ⟨h1.1, below_grown HB4.out h1.2 (by rw [HG.out]; exact Nat.le_refl _) HB4.out.size⟩)
      have j3 : w4.cell? ⟨g, r, none⟩ = some (.int .i64 ((C.getD r 0 : Nat) : Int)) := by
        have h1 := HR4.out.cells (g := g) rfl r _ (nvals_get (by rw [HCN.out]; exact HRN.out))
        rw [Addr.add_lit] at h1
        simpa using h1
      have jf := HR4.out.frozenAt r
      obtain ⟨d, hd⟩ : ∃ d : Int, (h : Int) - 1 = d := ⟨_, rfl⟩
      obtain ⟨β, hβ⟩ : ∃ β : Nat, max d 0 = (β : Int) := ⟨h - 1, by omega⟩
      have HBB : Hid (β = h - 1) := hid (by omega)
      have hhb : (h : Int) ≤ 65536 := by have := HHB.out; omega
      generalize C.getD r 0 = old at *
      clear hb4 HCL HR HB HR4 HB4
      go_wp2_with fail
      go_roundw
      case rel => exact ⟨t + 1, β, _, HLT.out, by go_num, rfl, fun h2 => (by rw [HBB.out]; exact HKA1.out (by have := HNL.out; omega)), HST1.out, HNEW.out.1, HNEW.out.2⟩
      case measure => simp [intOf]; have := HLT.out; omega
    · have hti : (t < l) = False := eq_false hlt
      obtain rfl : t = l := by omega
      have HD := hid (HDN.out C HCS.out)
      have HSO := hid (So.ownedN HR.out)
      rw [HD.out] at HSO
      clear hlt hal
      go_wp2_with fail
      go_ret2
      exact ⟨_, rfl, HSO.out.mono (fun b hb _ => Nat.le_trans HB2.out.size hb), HB2.out.trans (HB.out.mono HB2.out.size)⟩
end Go.Proofs.Ytclpoconppmapaa
