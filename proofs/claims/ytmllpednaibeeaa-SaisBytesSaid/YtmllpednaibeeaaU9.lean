/- CONTRACTS (suffix, as it landed): the kinds of a text's places, and its first Ss. CONTRACTS (suffix, as it landed): a text's first Ss; Kinds and Firsts. CONTRACTS (suffix, as it landed): Kinds, Firsts; whether places are there. CONTRACTS (suffix, as it landed): Less; how much two suffixes begin with alike. -/
import Derived.Test.YtmllpednaibeeaaU8
import Derived.OwnWalk
import Derived.BigQuiet
import Derived.Lib.MinMax
namespace Go.Inc
open Go.RowKit
theorem drop_atU {x : List Int} {i : Nat} (h : i < x.length) : x.drop i = x.getD i 0 :: x.drop (i + 1) := by
  rw [List.drop_eq_getElem_cons h, List.getD_eq_getElem?_getD, List.getElem?_eq_getElem h]; rfl
theorem lsT_stepU {x : List Int} {i j : Nat} (hi : i < x.length) (hj : j < x.length) : lsT x i j = true ↔ x.getD i 0 < x.getD j 0 ∨ (x.getD i 0 = x.getD j 0 ∧ lsT x (i + 1) (j + 1) = true) := by
  unfold lsT
  rw [drop_atU hi, drop_atU hj, ltL_cons]
/-- The last place is of kind S. -/
theorem kdT_last {x : List Int} {i : Nat} (h : i + 1 = x.length) : kdT x i = true := by
  unfold kdT; rw [decide_eq_true h]; rfl
/-- Each other one's kind by the next one's. -/
theorem kdT_step {x : List Int} (hr : RtL x) {i : Nat} (h : i + 1 < x.length) :
    (x.getD i 0 < x.getD (i + 1) 0 → kdT x i = true) ∧ (x.getD i 0 = x.getD (i + 1) 0 → kdT x i = kdT x (i + 1)) ∧ (x.getD (i + 1) 0 < x.getD i 0 → kdT x i = false) := by
  have h1 : kdT x i = lsT x i (i + 1) := by
    unfold kdT; rw [decide_eq_false (by omega), Bool.false_or]
  have h2 := lsT_stepU (x := x) (i := i) (j := i + 1) (by omega) h
  refine ⟨fun h3 => by rw [h1]; exact h2.2 (.inl h3), fun h3 => ?_, fun h3 => ?_⟩
  · have h4 : i + 2 < x.length := by
      apply Classical.byContradiction
      intro hc
      have h5 := (hr.2 (i + 1) h).2 (by omega)
      have h6 := (hr.2 i (by omega)).1 (by rw [h3]; exact h5)
      omega
    have h5 : kdT x (i + 1) = lsT x (i + 1) (i + 2) := by
      unfold kdT; rw [decide_eq_false (by omega), Bool.false_or]
    rw [h1, h5]
    cases hk : lsT x (i + 1) (i + 2)
    · cases hk2 : lsT x i (i + 1)
      · rfl
      · rcases h2.1 hk2 with h6 | ⟨-, h6⟩
        · omega
        · rw [hk] at h6; cases h6
    · exact h2.2 (.inr ⟨h3, hk⟩)
  · rw [h1]
    cases hk2 : lsT x i (i + 1)
    · rfl
    · rcases h2.1 hk2 with h6 | ⟨h6, -⟩ <;> omega
theorem setB_at {m : List Bool} {u j : Nat} {b : Bool} (hu : u < m.length) : inB (m.set u b) j = if j = u then b else inB m j := by
  unfold inB
  rw [List.getD_eq_getElem?_getD, List.getElem?_set]
  by_cases e : u = j
  · subst e; rw [if_pos rfl, if_pos hu, if_pos rfl]; rfl
  · rw [if_neg e, if_neg (fun h => e h.symm), List.getD_eq_getElem?_getD]
theorem kd_done {x : List Int} {m : List Bool} (h : m.length = x.length) (hk : ∀ j, 0 ≤ j → j < x.length → inB m j = kdT x j) : m = kdTo x x.length := by
  apply List.ext_getElem (by rw [h, kdTo_len])
  intro i h1 h2
  have h3 := hk i (by omega) (by omega)
  have h4 := kdTo_get (x := x) (t := x.length) (i := i) (by omega)
  unfold inB at h3 h4
  rw [List.getD_eq_getElem?_getD, List.getElem?_eq_getElem h1] at h3
  rw [List.getD_eq_getElem?_getD, List.getElem?_eq_getElem h2] at h4
  exact h3.trans h4.symm
end Go.Inc
namespace Go.Proofs.Ytmllpednaibeeaa
open Go.RowKit Go.Inc
set_option maxRecDepth 20000 in
set_option maxHeartbeats 2000000 in
theorem kinds_any (ok : Nat → Prop) (x : World) (p : Option Addr) (c : Nat) (zs : List Int) (hs : Si ok x p zs) (hr : RtL zs) (hl : (zs.length : Int) ≤ 65536) :
    Calls Try.prog 80 #[.slice p zs.length c] x fun e w' => ∃ u, e = .returned u ∧ w'.ownsRow x.heap.size 4 1 u zs.length (bvals (kdTo zs zs.length)) ∧ Below x.heap.size x w' := by
  have HST := hid (fun (i : Nat) h => kdT_step (x := zs) hr (i := i) h)
  have HLA := hid (fun (i : Nat) h => kdT_last (x := zs) (i := i) h)
  have HDN := hid (fun (m : List Bool) h h2 => kd_done (x := zs) (m := m) h h2)
  have h0 := hr.1
  obtain ⟨n, hn⟩ : ∃ n, n = zs.length := ⟨_, rfl⟩
  have HCC : Hid (∃ pb po, p = some ⟨pb, po, none⟩ ∧ ∀ y, Below x.heap.size x y → ∀ i, i < n → y.cell? ⟨pb, po + i, none⟩ = some (.int .i64 (zs.getD i 0))) := hid (by
    rcases hs with h | ⟨b, o, h, -, hc⟩
    · rw [h] at h0; simp at h0
    · refine ⟨b, o, h, fun y hy i hi => ?_⟩
      have h1 := hc i (by rw [← hn]; exact hi)
      rw [World.cell?_of_block (hy.block b (cell_lt h1))]; exact h1)
  obtain ⟨pb, po, rfl, hcc⟩ := HCC.out
  have HCV := hid hcc
  rw [← hn] at hl HST HLA HDN h0 ⊢
  obtain ⟨l, hnl⟩ : ∃ l : Nat, (n : Int) - 1 = (l : Int) := ⟨n - 1, by omega⟩
  have HNL : Hid (l + 1 = n) := hid (by omega)
  obtain ⟨i0, hi, hz0, hz1, hz2⟩ := info_parts infoBoolS
  have HI := hid (And.intro hi (And.intro hz0 (And.intro hz1 hz2)))
  clear hs hn hr hi hz0 hz1 hz2 hcc HCC
  go_enter Try.func80, Try.ntmps80
  go_wp2_with (refine wpList_make_full _ rfl _ _ 68 rfl x.heap.size 4 i0 (.bool false) 1 Try.underlying68 HI.out.1 HI.out.2.1 HI.out.2.2.1 .i64 .i64 _ _ n rfl rfl rfl rfl (by rw [HI.out.2.2.2]; omega) (by unfold maxLen; omega) (Nat.le_refl _) ?_)
  intro w1 hown hg
  have HR : Hid (w1.ownsRow x.heap.size 4 1 (.slice (some ⟨x.heap.size, 0, none⟩) n n) n (bvals (List.replicate n false))) := hid (by rw [bvals_zeros n] at hown; exact hown)
  have HB1 : Hid (Below x.heap.size x w1) := hid ⟨hg.os, hg.tape, hg.output, hg.size, fun i hi => hg.block i hi (by simp)⟩
  clear hown hg HI
  obtain ⟨g, hg⟩ : ∃ g, g = x.heap.size := ⟨_, rfl⟩
  rw [← hg] at HR ⊢
  have HG := hid hg
  clear hg
  have HNEW : Hid ((w1.setCell ⟨g, l, none⟩ (.bool true)).ownsRow g 4 1 (.slice (some ⟨g, 0, none⟩) n n) n (bvals ((List.replicate n false).set l true)) ∧ Below x.heap.size x (w1.setCell ⟨g, l, none⟩ (.bool true))) := hid (by
    have h := HR.out.stored l (.bool true)
    rw [bvals_set] at h
    exact ⟨h.1, below_grown HB1.out h.2 (by rw [HG.out]; exact Nat.le_refl _) HB1.out.size⟩)
  have j3 : w1.cell? ⟨g, l, none⟩ = some (.bool false) := by
    have h := HR.out.cells (g := g) rfl l _ (bvals_get (by rw [List.length_replicate]; have := HNL.out; omega))
    rw [Addr.add_lit, inB_zeros] at h
    simpa using h
  have jf := HR.out.frozenAt l
  have hln : (l : Int) < (n : Int) := by omega
  have hl0 : (0 : Int) ≤ (l : Int) := by omega
  clear HR HB1
  go_wp2_with fail
  go_loopw [5] (fun i wr => ∃ (t : Nat) (iv : Int) (m : List Bool), t ≤ l ∧ i = .int .i64 iv ∧ iv = (t : Int) - 1 ∧ m.length = n ∧ (∀ j, t ≤ j → j < n → inB m j = kdT zs j) ∧ wr.ownsRow g 4 1 (.slice (some ⟨g, 0, none⟩) n n) n (bvals m) ∧ Below x.heap.size x wr) (fun i _ => (intOf i + 1).toNat)
  case atStart => exact ⟨l, _, _, Nat.le_refl _, rfl, rfl, by simp, fun j h1 h2 => (by
    have e : j = l := by have := HNL.out; omega
    rw [setB_at (by simp; have := HNL.out; omega), if_pos e, HLA.out j (by have := HNL.out; omega)]), HNEW.out.1, HNEW.out.2⟩
  case round =>
    clear HNEW j3 jf
    obtain ⟨t, iv, m, ht, rfl, hiv, hml, hm, hr, hb⟩ := hrel
    have HML := hid hml
    have HM := hid hm
    have HR := hid hr
    have HB := hid hb
    clear hml hm hr hb
    cases t with
    | zero =>
      obtain rfl : iv = -1 := by omega
      have HD := hid (HDN.out m HML.out HM.out)
      clear hiv ht
      go_wp2_with fail
      go_ret
      exact ⟨_, rfl, by rw [← HD.out, ← HG.out]; exact HR.out, HB.out⟩
    | succ u =>
      obtain rfl : iv = (u : Int) := by omega
      obtain ⟨u1, hu1⟩ : ∃ u1 : Nat, (u : Int) + 1 = (u1 : Int) := ⟨u + 1, by omega⟩
      have HU1 : Hid (u1 = u + 1) := hid (by omega)
      have huN : (u : Int) < (n : Int) := by omega
      have hu1N : (u1 : Int) < (n : Int) := by omega
      have HS3 := hid (HST.out u (by have := HNL.out; omega))
      have hc1 := HCV.out wr HB.out u (by omega)
      have hc2 := HCV.out wr HB.out u1 (by omega)
      have HNB := hid (HM.out u1 (by have := HU1.out; omega) (by omega))
      rw [← HU1.out] at HS3
      have jn : wr.cell? ⟨g, u1, none⟩ = some (.bool (kdT zs u1)) := by
        have h := HR.out.cells (g := g) rfl u1 _ (bvals_get (by rw [HML.out]; omega))
        rw [Addr.add_lit, HNB.out] at h
        simpa using h
      have jo : wr.cell? ⟨g, u, none⟩ = some (.bool (inB m u)) := by
        have h := HR.out.cells (g := g) rfl u _ (bvals_get (by rw [HML.out]; omega))
        rw [Addr.add_lit] at h
        simpa using h
      have jf := HR.out.frozenAt u
      have HNEW : Hid (∀ b : Bool, (wr.setCell ⟨g, u, none⟩ (.bool b)).ownsRow g 4 1 (.slice (some ⟨g, 0, none⟩) n n) n (bvals (m.set u b)) ∧ Below x.heap.size x (wr.setCell ⟨g, u, none⟩ (.bool b))) := hid (fun b => by
        have h := HR.out.stored u (.bool b)
        rw [bvals_set] at h
        exact ⟨h.1, below_grown HB.out h.2 (by rw [HG.out]; exact Nat.le_refl _) HB.out.size⟩)
      have HREL : Hid (∀ b : Bool, kdT zs u = b → ∀ j, u ≤ j → j < n → inB (m.set u b) j = kdT zs j) := hid (fun b hb j h1 h2 => by
        rw [setB_at (by rw [HML.out]; omega)]
        split
        · rename_i e; rw [e]; exact hb.symm
        · exact HM.out j (by omega) h2)
      have HSL : Hid (∀ b : Bool, (m.set u b).length = n) := hid (fun b => by rw [List.length_set]; exact HML.out)
      have HUL : Hid (u ≤ l) := hid (by omega)
      obtain ⟨z, hz⟩ : ∃ z, z = zs.getD u 0 := ⟨_, rfl⟩
      obtain ⟨z', hz'⟩ : ∃ z', z' = zs.getD u1 0 := ⟨_, rfl⟩
      obtain ⟨q, hq⟩ : ∃ q, q = kdT zs u1 := ⟨_, rfl⟩
      obtain ⟨old, hold⟩ : ∃ old, old = inB m u := ⟨_, rfl⟩
      rw [← hz] at hc1 HS3
      rw [← hz'] at hc2 HS3
      rw [← hq] at jn HS3
      rw [← hold] at jo
      clear hz hz' hq hold hiv ht HR HB HM HNB HST HML HU1
      by_cases h1 : z < z'
      · have HK := hid (HS3.out.1 h1)
        have h1t : (z < z') = True := eq_true h1
        clear HS3
        go_wp2_with fail
        go_region
        go_wp2_with fail
        go_roundw
        case rel => exact ⟨u, _, _, HUL.out, rfl, rfl, HSL.out true, HREL.out true HK.out, (HNEW.out true).1, (HNEW.out true).2.drew⟩
        case measure => simp [intOf]
      · by_cases h2 : z = z'
        · have HK := hid (HS3.out.2.1 h2)
          have h1t : (z < z') = False := eq_false h1
          have h2t : (z == z') = true := by rw [beq_iff_eq]; exact h2
          clear HS3 h2 h1
          cases q
          · go_wp2_with fail
            go_region
            go_wp2_with fail
            go_roundw
            case rel => exact ⟨u, _, _, HUL.out, rfl, rfl, HSL.out false, HREL.out false HK.out, (HNEW.out false).1, (HNEW.out false).2.drew⟩
            case measure => simp [intOf]
          · go_wp2_with fail
            go_region
            go_wp2_with fail
            go_roundw
            case rel => exact ⟨u, _, _, HUL.out, rfl, rfl, HSL.out true, HREL.out true HK.out, (HNEW.out true).1, (HNEW.out true).2.drew⟩
            case measure => simp [intOf]
        · have HK := hid (HS3.out.2.2 (by omega))
          have h1t : (z < z') = False := eq_false h1
          have h2t : (z == z') = false := by rw [beq_eq_false_iff_ne]; exact h2
          clear HS3 h2 h1
          go_wp2_with fail
          go_region
          go_wp2_with fail
          go_roundw
          case rel => exact ⟨u, _, _, HUL.out, rfl, rfl, HSL.out false, HREL.out false HK.out, (HNEW.out false).1, (HNEW.out false).2.drew⟩
          case measure => simp [intOf]
end Go.Proofs.Ytmllpednaibeeaa
namespace Go.Proofs.Ytmllpednaibeeaa
open Go.RowKit Go.Inc
set_option maxRecDepth 20000 in
set_option maxHeartbeats 2000000 in
theorem firsts_any (ok : Nat → Prop) (x : World) (p : Option Addr) (c : Nat) (zs : List Int) (hs : Si ok x p zs) (hr : RtL zs) (hl : (zs.length : Int) ≤ 65536) :
    Calls Try.prog 66 #[.slice p zs.length c] x fun e w' => ∃ u, e = .returned u ∧ w'.ownsRow x.heap.size 3 1 u (fsT zs zs.length).length (nvals (fsT zs zs.length)) ∧ Below x.heap.size x w' := by
  have HKC := hid (kinds_any ok x p c zs hs hr hl)
  have HLA := hid (fun (i : Nat) h => kdT_last (x := zs) (i := i) h)
  obtain ⟨n, hn⟩ : ∃ n, n = zs.length := ⟨_, rfl⟩
  have h0 : 0 < n := by rw [hn]; exact hr.1
  rw [← hn] at hl HKC HLA ⊢
  clear hs hn hr
  go_enter Try.func66, Try.ntmps66
  go_wp2_with fail
  go_step3
  go_wp2_with fail
  refine HKC.out.mono ?_
  rintro e w1 ⟨k, rfl, hk, hb⟩
  obtain ⟨ka, kc, rfl, hkn, -, -, -, hkb⟩ := Bl.owned hk
  have HKL : Hid ((kdTo zs n).length = n) := hid (kdTo_len _ _)
  rw [HKL.out]
  obtain ⟨pb, po, rfl, hc⟩ : ∃ pb po, ka = some ⟨pb, po, none⟩ ∧ ∀ y, Below w1.heap.size w1 y → ∀ i, i < n → y.cell? ⟨pb, po + i, none⟩ = some (.bool (kdT zs i)) := by
    rcases hkb with h | ⟨b, o, h, -, hc⟩
    · have := HKL.out; rw [h] at this; simp at this; omega
    · refine ⟨b, o, h, fun y hy i hi => ?_⟩
      have h1 := hc i (by rw [HKL.out]; exact hi)
      rw [kdTo_get hi] at h1
      rw [World.cell?_of_block (hy.block b (cell_lt h1))]; exact h1
  have HC := hid hc
  have HBX := hid hb
  clear hk hkn hkb hc HKC HKL hb
  go_wp2_with fail
  go_step3
  go_wp2_with fail
  go_loopw [3, 5] (fun u i wr => ∃ t : Nat, t < n ∧ i = .int .i64 (t : Int) ∧ wr.ownsRow w1.heap.size 3 1 u (fsT zs (t + 1)).length (nvals (fsT zs (t + 1))) ∧ Below w1.heap.size w1 wr) (fun _ i _ => n - (intOf i).toNat)
  case atStart => exact ⟨0, h0, rfl, World.ownsRow_nil _ _ _ _, Below.refl _ _⟩
  case round =>
    obtain ⟨t, ht, rfl, hu, hb⟩ := hrel
    have HU := hid hu
    have HB := hid hb
    have HCC := hid (HC.out _ hb)
    have HT := hid ht
    clear hu hb ht
    have HFL := hid (fsT_len zs (t + 1))
    have HNX := hid (fun (r : Nat) => fsT_succ zs r)
    go_wp2_with fail
    go_loop [5] (fun i => ∃ s : Nat, t ≤ s ∧ s < n ∧ i = .int .i64 (s : Int) ∧ fsT zs (s + 1) = fsT zs (t + 1)) (fun i => n - (intOf i).toNat)
    case atStart => exact ⟨t, Nat.le_refl _, HT.out, rfl, rfl⟩
    case round =>
      obtain ⟨s, hts, hsn, rfl, hfs⟩ := hrel
      have HTS := hid hts
      have HSN := hid hsn
      have HFS := hid hfs
      have hc1 := HCC.out s hsn
      have hsb : (s : Int) ≤ 65536 := by omega
      clear hts hfs
      cases hk : kdT zs s
      · rw [hk] at hc1
        have HK := hid hk
        have HF0 : Hid (fsT zs s = fsT zs (t + 1)) := hid (by rw [← HFS.out, HNX.out, hk, if_neg (by simp)])
        clear hk hsn
        go_wp2_with fail
        go_loop [5] (fun i => ∃ r : Nat, s ≤ r ∧ r < n ∧ i = .int .i64 (r : Int) ∧ fsT zs r = fsT zs (t + 1) ∧ (kdT zs r = true → s < r ∧ kdT zs (r - 1) = false)) (fun i => n - (intOf i).toNat)
        case atStart => exact ⟨s, Nat.le_refl _, HSN.out, rfl, HF0.out, fun h => by rw [HK.out] at h; cases h⟩
        case round =>
          clear hc1 hsb
          obtain ⟨r, hsr, hrn, rfl, hfr, hkr⟩ := hrel
          have HSR := hid hsr
          have HRN := hid hrn
          have HFR := hid hfr
          have HKR := hid hkr
          have hc1 := HCC.out r hrn
          have hrb : (r : Int) ≤ 65536 := by omega
          clear hsr hfr hkr
          cases hk : kdT zs r
          · rw [hk] at hc1
            have HF1 : Hid (fsT zs (r + 1) = fsT zs (t + 1)) := hid (by rw [HNX.out, hk, if_neg (by simp)]; exact HFR.out)
            have HRL : Hid (r + 1 < n) := hid (by
              apply Classical.byContradiction
              intro hc
              have := HLA.out r (by omega)
              rw [hk] at this; cases this)
            have HK2 := hid hk
            clear hk hrn
            go_wp2_with fail
            go_round
            case rel => exact ⟨r + 1, by have := HSR.out; omega, HRL.out, by go_num, HF1.out, fun _ => ⟨by have := HSR.out; omega, HK2.out⟩⟩
            case measure => simp [intOf]; have := HRL.out; omega
          · rw [hk] at hc1
            have HKK := hid (HKR.out hk)
            have HF1 : Hid (fsT zs (r + 1) = fsT zs (t + 1) ++ [r]) := hid (by rw [HNX.out, hk, if_pos ⟨by have := HKK.out.1; omega, rfl, HKK.out.2⟩, HFR.out])
            clear hk hrn
            go_wp2_with (refine wpList_append_any rfl (.tmp 25) (.tmp 27) 22 rfl w1.heap.size 3 (.int .i64 0) 8 Try.underlying22 infoIntS rfl _ _ _ rfl (HU.out.alloc _) (some ⟨wr.heap.size, 0, none⟩) 1 1 [.int .i64 (r : Int)] rfl rfl (by intro h; cases h) (one_new wr _ _) (by simp [Value.oneCell']) (by have := HFL.out; have := HT.out; unfold maxLen; omega) (by have := HFL.out; have := HT.out; omega) (by have := HB.out.size; simp; omega) ?_)
            intro v4 w4 hv4 hg4 _
            have HB4 := hid (below_owned (w0 := w1) (HB.out.alloc HB.out.size _) (HU.out.alloc _) (Nat.le_refl _) hg4)
            have HV4 : Hid (w4.ownsRow w1.heap.size 3 1 v4 (fsT zs (r + 1)).length (nvals (fsT zs (r + 1)))) := hid (by rw [HF1.out, nvals_snoc, List.length_append]; exact hv4)
            clear hv4 hg4 HU HB
            go_wp2_with fail
            go_roundw
            case rel => exact ⟨r, HRN.out, rfl, HV4.out, HB4.out⟩
            case measure => simp [intOf]; have := HRN.out; have := HKK.out.1; have := HTS.out; omega
      · rw [hk] at hc1
        have HK := hid hk
        clear hk
        by_cases hl1 : s + 1 = n
        · have hbe : ((s : Int) + 1 == (n : Int)) = true := by rw [beq_iff_eq]; omega
          have HE : Hid (fsT zs n = fsT zs (t + 1)) := hid (by rw [← hl1]; exact HFS.out)
          clear hl1 hsn
          go_wp2_with fail
          go_ret
          exact ⟨_, rfl, by rw [HE.out]; exact own_weaken HU.out HBX.out.size, HBX.out.trans (HB.out.mono HBX.out.size)⟩
        · have hbe : ((s : Int) + 1 == (n : Int)) = false := by rw [beq_eq_false_iff_ne]; omega
          have HE : Hid (fsT zs (s + 1 + 1) = fsT zs (t + 1)) := hid (by rw [HNX.out, if_neg (by rw [Nat.add_sub_cancel, HK.out]; simp)]; exact HFS.out)
          have HSL : Hid (s + 1 < n) := hid (by omega)
          clear hl1 hsn
          go_wp2_with fail
          go_round
          case rel => exact ⟨s + 1, by have := HTS.out; omega, HSL.out, by go_num, HE.out⟩
          case measure => simp [intOf]; have := HSL.out; omega
end Go.Proofs.Ytmllpednaibeeaa
namespace Go.Inc
open Go.RowKit
theorem ckT_i64 {x : List Int} (h : ckT x = 0) : ∀ z ∈ x, i64s z := fun z hz => by
  have := (ckT_zero h).2.1 z hz
  unfold i64s; omega
/-- Handed back: a new slice of these, and no error. -/
def NewS (w : World) (zs : List Int) (e : Ending) (w' : World) : Prop := ∃ u, e = .returned (.tuple #[u, .int .i64 0]) ∧ So (fun g => w.heap.size ≤ g) w' u zs ∧ Below w.heap.size w w'
theorem allocU (w : World) (o : Obj) : Below w.heap.size w (w.alloc o) := (Below.refl _ _).alloc (Nat.le_refl _) _
end Go.Inc
namespace Go.Proofs.Ytmllpednaibeeaa
open Go.RowKit Go.Inc
set_option maxRecDepth 20000 in
set_option maxHeartbeats 1000000 in
theorem suKinds (ok : Nat → Prop) (w : World) (v : Value) (zs : List Int) (hs : So ok w v zs) (hl : zs.length ≤ 65536) (hk : ckT zs = 0) :
    Calls Try.prog 68 #[v] w fun e w' => ∃ u cu, e = .returned (.tuple #[.slice u zs.length cu, .int .i64 0]) ∧ Bl (fun g => w.heap.size ≤ g) w' u (kdTo zs zs.length) ∧ Below w.heap.size w w' := by
  have HC := hid (check_any ok w v zs hs hl (ckT_i64 hk))
  rw [hk] at HC
  obtain ⟨a, c, rfl, hsi, -, -, -⟩ := hs
  have HK := hid (kinds_any ok w a c zs hsi (ckT_zero hk).2.2 (by omega))
  have HKL := hid (kdTo_len zs zs.length)
  obtain ⟨n, hn⟩ : ∃ n, n = zs.length := ⟨_, rfl⟩
  rw [← hn] at HK HKL HC ⊢
  clear hsi hl hk hn
  go_enter Try.func68, Try.ntmps68
  go_wp2_with fail
  refine HC.out.mono ?_
  rintro e w' ⟨rfl, rfl⟩
  go_wp2_with fail
  refine HK.out.mono ?_
  rintro e w1 ⟨u, rfl, hu, hb⟩
  obtain ⟨ka, kc, rfl, -, -, -, -, hkb⟩ := Bl.owned hu
  rw [HKL.out]
  have HB := hid hb
  have HKB := hid hkb
  clear HK HC hu hb hkb
  go_wp2_with fail
  go_ret2
  exact ⟨ka, kc, rfl, HKB.out, HB.out⟩
set_option maxRecDepth 20000 in
set_option maxHeartbeats 1000000 in
theorem suFirsts (ok : Nat → Prop) (w : World) (v : Value) (zs : List Int) (hs : So ok w v zs) (hl : zs.length ≤ 65536) (hk : ckT zs = 0) :
    Calls Try.prog 48 #[v] w (NewS w (zsN (fsT zs zs.length))) := by
  have HC := hid (check_any ok w v zs hs hl (ckT_i64 hk))
  rw [hk] at HC
  obtain ⟨a, c, rfl, hsi, -, -, -⟩ := hs
  have HK := hid (firsts_any ok w a c zs hsi (ckT_zero hk).2.2 (by omega))
  obtain ⟨L, hL⟩ : ∃ L, L = fsT zs zs.length := ⟨_, rfl⟩
  rw [← hL] at HK ⊢
  obtain ⟨n, hn⟩ : ∃ n, n = zs.length := ⟨_, rfl⟩
  rw [← hn] at HK HC ⊢
  clear hsi hl hk hn hL
  go_enter Try.func48, Try.ntmps48
  go_wp2_with fail
  refine HC.out.mono ?_
  rintro e w' ⟨rfl, rfl⟩
  go_wp2_with fail
  refine HK.out.mono ?_
  rintro e w1 ⟨u, rfl, hu, hb⟩
  have HB := hid hb
  have HU := hid (So.ownedN hu)
  obtain ⟨a1, c1, rfl, -⟩ := HU.out
  obtain ⟨ln, hln⟩ : ∃ ln, ln = (zsN L).length := ⟨_, rfl⟩
  rw [← hln] at HU ⊢
  clear HK HC hu hb hln
  go_wp2_with fail
  go_ret2
  exact ⟨_, rfl, HU.out, HB.out⟩
set_option maxRecDepth 20000 in
set_option maxHeartbeats 1000000 in
theorem suFirstsE (ok : Nat → Prop) (w : World) (v : Value) (zs : List Int) (hs : So ok w v zs) (hl : zs.length ≤ 65536) (hz : ∀ z ∈ zs, i64s z) (hk : ckT zs ≠ 0) :
    Calls Try.prog 48 #[v] w fun e w' => ∃ u, e = .returned (.tuple #[u, .int .i64 ((ckT zs : Nat) : Int)]) ∧ Below w.heap.size w w' := by
  have HC := hid (check_any ok w v zs hs hl hz)
  obtain ⟨k, hkk⟩ : ∃ k, k = ckT zs := ⟨_, rfl⟩
  rw [← hkk] at HC hk ⊢
  have hk0 : ((k : Int) != 0) = true := by rw [bne_iff_ne]; omega
  clear hs hl hz hk hkk
  go_enter Try.func48, Try.ntmps48
  go_wp2_with fail
  refine HC.out.mono ?_
  rintro e w' ⟨rfl, rfl⟩
  go_wp2_with fail
  go_ret2
  exact ⟨_, rfl, Below.refl _ _⟩
end Go.Proofs.Ytmllpednaibeeaa
namespace Go.Inc
open Go.RowKit
/-- A slice of two numbers, just made. -/
theorem So.two (w : World) (a b : Int) (T : TypeId) : So (fun g => w.heap.size ≤ g) (w.alloc (.cells #[.int .i64 a, .int .i64 b] T)) (.slice (some ⟨w.heap.size, 0, none⟩) 2 2) [a, b] := by
  refine ⟨_, 2, rfl, .inr ⟨w.heap.size, 0, rfl, Nat.le_refl _, fun i hi => ?_⟩, Nat.le_refl _, by unfold maxLen; omega, fun h => by cases h⟩
  have : i = 0 ∨ i = 1 := by simp at hi; omega
  rcases this with rfl | rfl <;> simp
end Go.Inc
namespace Go.Proofs.Ytmllpednaibeeaa
open Go.RowKit Go.Inc
end Go.Proofs.Ytmllpednaibeeaa
