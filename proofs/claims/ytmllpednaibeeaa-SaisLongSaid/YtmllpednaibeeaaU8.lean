/- CONTRACTS: the document's Common and Less. CONTRACTS: the document's Kinds and Firsts. CONTRACTS: the document's Sort. CONTRACTS: the document's Turned and Check. WHAT IS ASKED OF THE PROGRAM'S CALLS (layer 15): their contracts, in one place, to be proved of what lands. THE LAW'S OWN TEXTS (layer 15): numbers cut short; a text made of any numbers. THE CHAPTER'S EXAMPLE (layer 15), over the program's contracts. CONTRACTS OVER VALUES (layer 15): the document's calls, told of a slice's value; the numbers cut short. WHAT IS ASKED OF THE PROGRAM'S CALLS (layer 17): their contracts, in one place, to be proved of what lands. CONTRACTS OVER VALUES (layer 17): the chapter's example. THE LAW OF ORDERS (layer 17), walked over the program's contracts. CONTRACTS (layer 17): the document's Unlike and Deepest. CONTRACTS (layer 16): the greatest code, a bucket. Rows of places of which some are empty. CONTRACTS (layer 16): the document's Induce. CONTRACTS (suffix, as it landed): is there one of which a closure tells; where a number first stands; Check. CONTRACTS (layer 16): the document's pieces, and comparing them. CONTRACTS (layer 17): the law's text, told closer. (written by gen_sat.py) THE LAW OF CHECKS (layer 17), walked over the program's contracts. -/
import Derived.Test.YtmllpednaibeeaaRows
import Derived.Test.YtmllpednaibeeaaU0
import Derived.Test.YtmllpednaibeeaaU7
import Derived.BigRegion
import Derived.Deep.OwnRows
import Derived.Lib.MinMax
import Derived.Test.YtmllpednaibeeaaU2
namespace Go.Proofs.Ytmllpednaibeeaa
open Go.RowKit Go.Inc
set_option maxRecDepth 20000 in
set_option maxHeartbeats 2000000 in
theorem refCommon_any (ok : Nat → Prop) (x : World) (p : Option Addr) (c : Nat) (zs : List Int) (a b : Nat) (hs : Si ok x p zs) (hl : (zs.length : Int) ≤ 65536) (ha : a < zs.length) (hb : b < zs.length) :
    Calls Try.prog 43 #[.slice p zs.length c, .int .i64 (a : Int), .int .i64 (b : Int)] x fun e w' => e = .returned (.int .i64 ((cmT zs a b : Nat) : Int)) ∧ Below x.heap.size x w' := by
  have HS := hid hs
  have HIS := hid (fun (n : Nat) h1 h2 => cmT_is (x := zs) (a := a) (b := b) (n := n) h1 h2)
  obtain ⟨n, hn⟩ : ∃ n, n = zs.length := ⟨_, rfl⟩
  have HN := hid hn
  rw [← hn] at hl ha hb HIS ⊢
  obtain ⟨pb, po, rfl, hc⟩ : ∃ pb po, p = some ⟨pb, po, none⟩ ∧ ∀ y, Below x.heap.size x y → ∀ i, i < n → y.cell? ⟨pb, po + i, none⟩ = some (.int .i64 (zs.getD i 0)) := by
    rcases HS.out with h | ⟨b, o, h, -, hc⟩
    · rw [h] at hn; simp at hn; omega
    · refine ⟨b, o, h, fun y hy i hi => ?_⟩
      have h1 := hc i (by rw [← hn]; exact hi)
      rw [World.cell?_of_block (hy.block b (cell_lt h1))]; exact h1
  have HC := hid hc
  clear hs hn hc
  go_enter Try.func43, Try.ntmps43
  go_wp2_with fail
  go_loopw [7] (fun k wr => ∃ t : Nat, k = .int .i64 (t : Int) ∧ t ≤ n ∧ (∀ i, i < t → a + i < n ∧ b + i < n ∧ zs.getD (a + i) 0 = zs.getD (b + i) 0) ∧ Below x.heap.size x wr) (fun k _ => n - (intOf k).toNat)
  case atStart => exact ⟨0, rfl, Nat.zero_le _, fun i h => by omega, Below.refl _ _⟩
  case round =>
    obtain ⟨t, rfl, htn, hi, hb2⟩ := hrel
    have HI := hid hi
    have HB := hid hb2
    have hcc := HC.out _ hb2
    clear hi hb2
    obtain ⟨u, hu⟩ : ∃ u, u = a + t := ⟨_, rfl⟩
    obtain ⟨v, hv⟩ : ∃ v, v = b + t := ⟨_, rfl⟩
    have hau : (a : Int) + (t : Int) = (u : Int) := by omega
    have hbv : (b : Int) + (t : Int) = (v : Int) := by omega
    have HU := hid hu
    have HV := hid hv
    have hub : (u : Int) ≤ 200000 := by omega
    have hvb : (v : Int) ≤ 200000 := by omega
    clear hu hv
    by_cases h1 : u < n
    · have h1t : (u < n) = True := eq_true h1
      by_cases h2 : v < n
      · have h2t : (v < n) = True := eq_true h2
        have hc1 := hcc u h1
        have hc2 := hcc v h2
        have HX : Hid (∀ z z' : Int, zs.getD u 0 = z → zs.getD v 0 = z' → zs.getD (a + t) 0 = z ∧ zs.getD (b + t) 0 = z') := hid (by rw [HU.out, HV.out]; exact fun _ _ h k => ⟨h, k⟩)
        obtain ⟨z, hz⟩ : ∃ z, z = zs.getD u 0 := ⟨_, rfl⟩
        obtain ⟨z', hz'⟩ : ∃ z', z' = zs.getD v 0 := ⟨_, rfl⟩
        have HXX := hid (HX.out z z' hz.symm hz'.symm)
        rw [← hz] at hc1
        rw [← hz'] at hc2
        have HLT : Hid (a + t < n ∧ b + t < n) := hid ⟨by rw [← HU.out]; exact h1, by rw [← HV.out]; exact h2⟩
        have htl : t + 1 ≤ n := by have := HLT.out; omega
        clear hz hz' h1 h2 hcc HX HU HV
        by_cases he : z = z'
        · subst he
          go_wp2_with fail
          go_region
          go_wp2_with fail
          go_roundw
          case rel => exact ⟨t + 1, by go_num, htl, fun i hi => (by
            by_cases e : i = t
            · subst e; exact ⟨HLT.out.1, HLT.out.2, by rw [HXX.out.1, HXX.out.2]⟩
            · exact HI.out i (by omega)), HB.out.drew⟩
          case measure => simp [intOf]; omega
        · have hbe : (z == z') = false := by rw [beq_eq_false_iff_ne]; exact he
          go_wp2_with fail
          go_region
          go_wp2_with fail
          go_ret
          exact ⟨by rw [HIS.out t HI.out (fun hh => he (by rw [← HXX.out.1, ← HXX.out.2]; exact hh.2.2))]; rfl, HB.out.drew⟩
      · have h2t : (v < n) = False := eq_false h2
        clear hcc
        go_wp2_with fail
        go_region
        go_wp2_with fail
        go_ret
        exact ⟨by rw [HIS.out t HI.out (fun hh => h2 (by rw [HV.out]; exact hh.2.1))]; rfl, HB.out.drew⟩
    · have h1t : (u < n) = False := eq_false h1
      clear hcc
      go_wp2_with fail
      go_region
      go_wp2_with fail
      go_ret
      exact ⟨by rw [HIS.out t HI.out (fun hh => h1 (by rw [HU.out]; exact hh.1))]; rfl, HB.out.drew⟩
set_option maxRecDepth 20000 in
set_option maxHeartbeats 2000000 in
theorem refLess_any (ok : Nat → Prop) (x : World) (p : Option Addr) (c : Nat) (zs : List Int) (a b : Nat) (hs : Si ok x p zs) (hr : RtL zs) (hl : (zs.length : Int) ≤ 65536) (ha : a < zs.length) (hb : b < zs.length) :
    Calls Try.prog 29 #[.slice p zs.length c, .int .i64 (a : Int), .int .i64 (b : Int)] x fun e w' => e = .returned (.bool (lsT zs a b)) ∧ Below x.heap.size x w' := by
  have HCM := hid (refCommon_any ok x p c zs a b hs hl ha hb)
  have HS := hid hs
  have HPT := hid (fun h => cmT_part (x := zs) (a := a) (b := b) hr ha hb h)
  have HAT := hid (fun h => lsT_at (x := zs) (a := a) (b := b) hr ha hb h)
  obtain ⟨n, hn⟩ : ∃ n, n = zs.length := ⟨_, rfl⟩
  rw [← hn] at hl ha hb HCM HPT ⊢
  obtain ⟨pb, po, rfl, hc⟩ : ∃ pb po, p = some ⟨pb, po, none⟩ ∧ ∀ y, Below x.heap.size x y → ∀ i, i < n → y.cell? ⟨pb, po + i, none⟩ = some (.int .i64 (zs.getD i 0)) := by
    rcases HS.out with h | ⟨b, o, h, -, hc⟩
    · rw [h] at hn; simp at hn; omega
    · refine ⟨b, o, h, fun y hy i hi => ?_⟩
      have h1 := hc i (by rw [← hn]; exact hi)
      rw [World.cell?_of_block (hy.block b (cell_lt h1))]; exact h1
  have HC := hid hc
  obtain ⟨k, hk⟩ : ∃ k, k = cmT zs a b := ⟨_, rfl⟩
  rw [← hk] at HCM HPT HAT
  clear hs hn hc hk hr
  go_enter Try.func29, Try.ntmps29
  go_wp2_with fail
  refine HCM.out.mono ?_
  rintro e w1 ⟨rfl, hb1⟩
  have HB := hid hb1
  have hcc := HC.out _ hb1
  clear HCM hb1
  by_cases hab : a = b
  · subst hab
    have hbe : ((a : Int) != (a : Int)) = false := by rw [bne_self_eq_false]
    have HE := hid (lsT_irrefl zs a)
    clear hcc HPT HAT
    go_wp2_with fail
    go_region
    go_wp2_with fail
    go_ret
    exact ⟨by rw [HE.out]; rfl, HB.out.drew⟩
  · have hbe : ((a : Int) != (b : Int)) = true := by rw [bne_iff_ne]; omega
    have hp := HPT.out hab
    have HA := hid (HAT.out hab)
    obtain ⟨u, hu⟩ : ∃ u, u = a + k := ⟨_, rfl⟩
    obtain ⟨v, hv⟩ : ∃ v, v = b + k := ⟨_, rfl⟩
    have hau : (a : Int) + (k : Int) = (u : Int) := by omega
    have hbv : (b : Int) + (k : Int) = (v : Int) := by omega
    rw [← hu, ← hv] at hp HA
    obtain ⟨h1, h2⟩ := hp
    have h1t : (u < n) = True := eq_true h1
    have h2t : (v < n) = True := eq_true h2
    have hc1 := hcc u h1
    have hc2 := hcc v h2
    have hkb : (k : Int) ≤ 65536 := by omega
    clear hcc HPT HAT hu hv h1 h2
    go_wp2_with fail
    go_region
    go_wp2_with fail
    go_ret
    exact ⟨by rw [HA.out]; rfl, HB.out.drew⟩
end Go.Proofs.Ytmllpednaibeeaa
namespace Go.Inc
open Go.RowKit
def kdTo (x : List Int) (t : Nat) : List Bool := (List.range t).map (kdT x)
theorem kdTo_succ (x : List Int) (t : Nat) : kdTo x (t + 1) = kdTo x t ++ [kdT x t] := by unfold kdTo; rw [List.range_succ, List.map_append]; rfl
theorem kdTo_len (x : List Int) (t : Nat) : (kdTo x t).length = t := by simp [kdTo]
theorem kdTo_get {x : List Int} {t i : Nat} (h : i < t) : inB (kdTo x t) i = kdT x i := by
  unfold inB kdTo
  rw [List.getD_eq_getElem?_getD, List.getElem?_map, List.getElem?_range h]; rfl
theorem bvals_snoc (m : List Bool) (b : Bool) : bvals (m ++ [b]) = bvals m ++ [.bool b] := by simp [bvals]
theorem fsT_succ (x : List Int) (n : Nat) : fsT x (n + 1) = if 0 < n ∧ kdT x n = true ∧ kdT x (n - 1) = false then fsT x n ++ [n] else fsT x n := rfl
theorem fsT_len (x : List Int) : ∀ n, (fsT x n).length ≤ n
  | 0 => Nat.le_refl _
  | n + 1 => by
    have := fsT_len x n
    rw [fsT_succ]
    split
    · simp; omega
    · omega
end Go.Inc
namespace Go.Proofs.Ytmllpednaibeeaa
open Go.RowKit Go.Inc
theorem infoIntS : (Try.prog.info? 3).map (fun i => (i.zero, i.size, i.bytes)) = some (some (.int .i64 0), 1, 8) := by kernel_rfl
theorem infoBoolS : (Try.prog.info? 4).map (fun i => (i.zero, i.size, i.bytes)) = some (some (.bool false), 1, 1) := by kernel_rfl
set_option maxRecDepth 20000 in
set_option maxHeartbeats 2000000 in
theorem refKinds_any (ok : Nat → Prop) (x : World) (p : Option Addr) (c : Nat) (zs : List Int) (hs : Si ok x p zs) (hr : RtL zs) (hl : (zs.length : Int) ≤ 65536) :
    Calls Try.prog 53 #[.slice p zs.length c] x fun e w' => ∃ u, e = .returned u ∧ w'.ownsRow x.heap.size 4 1 u zs.length (bvals (kdTo zs zs.length)) ∧ Below x.heap.size x w' := by
  have HLS := hid (fun (y : World) (hy : Below x.heap.size x y) (t : Nat) (h : t + 1 < zs.length) => refLess_any _ y p c zs t (t + 1) (hs.below hy) hr hl (by omega) h)
  obtain ⟨n, hn⟩ : ∃ n, n = zs.length := ⟨_, rfl⟩
  have HN := hid hn
  have HKD := hid (fun (t : Nat) => show kdT zs t = (decide (t + 1 = n) || lsT zs t (t + 1)) from by rw [hn]; rfl)
  rw [← hn] at hl HLS ⊢
  clear hs hn hr
  go_enter Try.func53, Try.ntmps53
  go_wp2_with fail
  go_loopw [3, 4] (fun u i wr => ∃ t : Nat, t ≤ n ∧ i = .int .i64 (t : Int) ∧ wr.ownsRow x.heap.size 4 1 u t (bvals (kdTo zs t)) ∧ Below x.heap.size x wr) (fun _ i _ => n - (intOf i).toNat)
  case atStart => exact ⟨0, Nat.zero_le _, rfl, World.ownsRow_nil _ _ _ _, Below.refl _ _⟩
  case round =>
    obtain ⟨t, ht, rfl, hu, hb⟩ := hrel
    have HU := hid hu
    have HB := hid hb
    clear hu hb
    by_cases hlt : t < n
    · have hti : (t < n) = True := eq_true hlt
      have HLT := hid hlt
      have htb : (t : Int) ≤ 65536 := by omega
      have HKT := hid (HKD.out t)
      by_cases he : t + 1 = n
      · have hbe : ((t : Int) == (n : Int) - 1) = true := by rw [beq_iff_eq]; omega
        have HK1 : Hid (kdTo zs (t + 1) = kdTo zs t ++ [true]) := hid (by rw [kdTo_succ, HKT.out, decide_eq_true he, Bool.true_or])
        clear hlt he
        go_wp2_with (refine wpList_append_any rfl (.tmp 11) (.tmp 24) 68 rfl x.heap.size 4 (.bool false) 1 Try.underlying68 infoBoolS rfl _ _ _ rfl (HU.out.alloc _) (some ⟨wr.heap.size, 0, none⟩) 1 1 [.bool true] rfl rfl (by intro h; cases h) (one_new wr _ _) (by simp [Value.oneCell']) (by unfold maxLen; omega) (by omega) (by have := HB.out.size; simp; omega) ?_)
        intro v4 w4 hv4 hg4 _
        have HB4 := hid (below_owned (w0 := x) (HB.out.alloc HB.out.size _) (HU.out.alloc _) (Nat.le_refl _) hg4)
        have HV4 : Hid (w4.ownsRow x.heap.size 4 1 v4 (t + 1) (bvals (kdTo zs (t + 1)))) := hid (by rw [HK1.out, bvals_snoc]; exact hv4)
        clear hv4 hg4 HU HB
        go_wp2_with fail
        go_roundw
        case rel => exact ⟨t + 1, HLT.out, by go_num, HV4.out, HB4.out⟩
        case measure => simp [intOf]; have := HLT.out; omega
      · have hbe : ((t : Int) == (n : Int) - 1) = false := by rw [beq_eq_false_iff_ne]; omega
        have HLC := hid (by have h := HLS.out wr HB.out t (by omega); rw [show ((t + 1 : Nat) : Int) = (t : Int) + 1 from by omega] at h; exact h)
        obtain ⟨q, hq⟩ : ∃ q, q = lsT zs t (t + 1) := ⟨_, rfl⟩
        have HK1 : Hid (kdTo zs (t + 1) = kdTo zs t ++ [q]) := hid (by rw [kdTo_succ, HKT.out, decide_eq_false he, Bool.false_or, hq])
        rw [← hq] at HLC
        clear hlt he hq HKT
        go_wp2_with fail
        refine HLC.out.mono ?_
        rintro e w1 ⟨rfl, hb1⟩
        have HB1 := hid (HB.out.trans (hb1.mono HB.out.size))
        have HU1 : Hid (w1.ownsRow x.heap.size 4 1 _ t (bvals (kdTo zs t))) := hid (owns_mv (F := fun _ => False) HU.out (Mv.of_below hb1) (fun _ _ => id))
        clear HLC hb1 HU HB
        go_wp2_with (refine wpList_append_any rfl (.tmp 11) (.tmp 24) 68 rfl x.heap.size 4 (.bool false) 1 Try.underlying68 infoBoolS rfl _ _ _ rfl (HU1.out.alloc _) (some ⟨w1.heap.size, 0, none⟩) 1 1 [.bool q] rfl rfl (by intro h; cases h) (one_new w1 _ _) (by simp [Value.oneCell']) (by unfold maxLen; omega) (by omega) (by have := HB1.out.size; simp; omega) ?_)
        intro v4 w4 hv4 hg4 _
        have HB4 := hid (below_owned (w0 := x) (HB1.out.alloc HB1.out.size _) (HU1.out.alloc _) (Nat.le_refl _) hg4)
        have HV4 : Hid (w4.ownsRow x.heap.size 4 1 v4 (t + 1) (bvals (kdTo zs (t + 1)))) := hid (by rw [HK1.out, bvals_snoc]; exact hv4)
        clear hv4 hg4 HU1 HB1
        go_wp2_with fail
        go_roundw
        case rel => exact ⟨t + 1, HLT.out, by go_num, HV4.out, HB4.out⟩
        case measure => simp [intOf]; have := HLT.out; omega
    · have hti : (t < n) = False := eq_false hlt
      obtain rfl : t = n := by omega
      clear hlt
      go_wp2_with fail
      go_ret
      exact ⟨_, rfl, HU.out, HB.out⟩
set_option maxRecDepth 20000 in
set_option maxHeartbeats 2000000 in
theorem refFirsts_any (ok : Nat → Prop) (x : World) (p : Option Addr) (c : Nat) (zs : List Int) (hs : Si ok x p zs) (hr : RtL zs) (hl : (zs.length : Int) ≤ 65536) :
    Calls Try.prog 36 #[.slice p zs.length c] x fun e w' => ∃ u, e = .returned u ∧ w'.ownsRow x.heap.size 3 1 u (fsT zs zs.length).length (nvals (fsT zs zs.length)) ∧ Below x.heap.size x w' := by
  have HKC := hid (refKinds_any ok x p c zs hs hr hl)
  obtain ⟨n, hn⟩ : ∃ n, n = zs.length := ⟨_, rfl⟩
  have h0 : 0 < n := by rw [hn]; exact hr.1
  rw [← hn] at hl HKC ⊢
  clear hs hn hr
  go_enter Try.func36, Try.ntmps36
  go_wp2_with fail
  refine HKC.out.mono ?_
  rintro e w1 ⟨k, rfl, hk, hb⟩
  obtain ⟨ka, kc, rfl, hkn, -, -, -, hkb⟩ := Bl.owned hk
  have HKL : Hid ((kdTo zs n).length = n) := hid (kdTo_len _ _)
  rw [HKL.out]
  obtain ⟨pb, po, rfl, hc⟩ : ∃ pb po, ka = some ⟨pb, po, none⟩ ∧ ∀ y, Below w1.heap.size w1 y → ∀ i, i < n → y.cell? ⟨pb, po + i, none⟩ = some (.bool (kdT zs i)) := by
    rcases hkb with h | ⟨b, o, h, -, hc⟩
    · have := HKL.out; rw [h] at this; simp at this; omega
    · refine ⟨b, o, h, fun y hy i hi => ?_⟩
      have h1 := hc i (by rw [HKL.out]; exact hi)
      rw [kdTo_get hi] at h1
      rw [World.cell?_of_block (hy.block b (cell_lt h1))]; exact h1
  have HC := hid hc
  have HBX := hid hb
  clear hk hkn hkb hc HKC HKL hb
  go_wp2_with fail
  go_loopw [4, 5] (fun u i wr => ∃ t : Nat, t + 1 ≤ n ∧ i = .int .i64 ((t : Int) + 1) ∧ wr.ownsRow w1.heap.size 3 1 u (fsT zs (t + 1)).length (nvals (fsT zs (t + 1))) ∧ Below w1.heap.size w1 wr) (fun _ i _ => n - (intOf i).toNat)
  case atStart => exact ⟨0, h0, rfl, World.ownsRow_nil _ _ _ _, Below.refl _ _⟩
  case round =>
    obtain ⟨t, ht, rfl, hu, hb⟩ := hrel
    have HU := hid hu
    have HB := hid hb
    have hcc := HC.out _ hb
    have HFL := hid (fsT_len zs (t + 1))
    have htb : (t : Int) ≤ 65536 := by omega
    clear hu hb
    by_cases hlt : t + 1 < n
    · have hti : ((t : Int) + 1 < (n : Int)) = True := eq_true (by omega)
      have HLT := hid hlt
      have hc1 := hcc (t + 1) hlt
      have hc2 := hcc t (by omega)
      have hm1 : (t : Int) + 1 - 1 = (t : Int) := by omega
      have HF := hid (fsT_succ zs (t + 1))
      cases hk1 : kdT zs (t + 1)
      · rw [hk1] at hc1
        have HF2 : Hid (fsT zs (t + 2) = fsT zs (t + 1)) := hid (by rw [HF.out, hk1, if_neg (by simp)])
        clear hcc hlt hk1 HF
        go_wp2_with fail
        go_roundw
        case rel => exact ⟨t + 1, HLT.out, by go_num, by rw [HF2.out]; exact HU.out, HB.out⟩
        case measure => simp [intOf]; have := HLT.out; omega
      · rw [hk1] at hc1
        cases hk2 : kdT zs t
        · rw [hk2] at hc2
          have HF2 : Hid (fsT zs (t + 2) = fsT zs (t + 1) ++ [t + 1]) := hid (by rw [HF.out, hk1, Nat.add_sub_cancel, hk2, if_pos ⟨by omega, rfl, rfl⟩])
          clear hcc hlt hk1 hk2 HF
          go_wp2_with (refine wpList_append_any rfl (.tmp 26) (.tmp 28) 22 rfl w1.heap.size 3 (.int .i64 0) 8 Try.underlying22 infoIntS rfl _ _ _ rfl (HU.out.alloc _) (some ⟨wr.heap.size, 0, none⟩) 1 1 [.int .i64 ((t : Int) + 1)] rfl rfl (by intro h; cases h) (one_new wr _ _) (by simp [Value.oneCell']) (by have := HFL.out; unfold maxLen; omega) (by have := HFL.out; omega) (by have := HB.out.size; simp; omega) ?_)
          intro v4 w4 hv4 hg4 _
          have HB4 := hid (below_owned (w0 := w1) (HB.out.alloc HB.out.size _) (HU.out.alloc _) (Nat.le_refl _) hg4)
          have HV4 : Hid (w4.ownsRow w1.heap.size 3 1 v4 (fsT zs (t + 2)).length (nvals (fsT zs (t + 2)))) := hid (by rw [HF2.out, nvals_snoc, List.length_append]; exact hv4)
          clear hv4 hg4 HU HB
          go_wp2_with fail
          go_roundw
          case rel => exact ⟨t + 1, HLT.out, by go_num, HV4.out, HB4.out⟩
          case measure => simp [intOf]; have := HLT.out; omega
        · rw [hk2] at hc2
          have HF2 : Hid (fsT zs (t + 2) = fsT zs (t + 1)) := hid (by rw [HF.out, hk1, Nat.add_sub_cancel, hk2, if_neg (by simp)])
          clear hcc hlt hk1 hk2 HF
          go_wp2_with fail
          go_roundw
          case rel => exact ⟨t + 1, HLT.out, by go_num, by rw [HF2.out]; exact HU.out, HB.out⟩
          case measure => simp [intOf]; have := HLT.out; omega
    · have hti : ((t : Int) + 1 < (n : Int)) = False := eq_false (by omega)
      obtain rfl : t + 1 = n := by omega
      clear hlt hcc
      go_wp2_with fail
      go_ret
      exact ⟨_, rfl, own_weaken HU.out HBX.out.size, HBX.out.trans (HB.out.mono HBX.out.size)⟩
end Go.Proofs.Ytmllpednaibeeaa
namespace Go.Inc
open Go.RowKit
theorem mapZ_get (l : List Nat) (k : Nat) : (l.map fun x : Nat => (x : Int)).getD k 0 = ((l.getD k 0 : Nat) : Int) := by
  rw [List.getD_eq_getElem?_getD, List.getElem?_map, List.getD_eq_getElem?_getD]
  cases l[k]? <;> rfl
/-- Where the places that are less end. -/
theorem span_at {x : List Int} {i : Nat} : ∀ {l : List Nat} {k : Nat}, k ≤ l.length → (∀ j, j < k → lsT x (l.getD j 0) i = true) → (k < l.length → lsT x (l.getD k 0) i = false) →
    l.takeWhile (fun j => lsT x j i) = l.take k ∧ l.dropWhile (fun j => lsT x j i) = l.drop k
  | [], k, hk, _, _ => by
    obtain rfl : k = 0 := by simpa using hk
    exact ⟨rfl, rfl⟩
  | a :: l, 0, _, _, h2 => by
    have ha : ¬ lsT x a i = true := by rw [show lsT x a i = false from h2 (by simp)]; simp
    exact ⟨by rw [List.takeWhile_cons_of_neg (p := fun j => lsT x j i) ha]; rfl, by rw [List.dropWhile_cons_of_neg (p := fun j => lsT x j i) ha]; rfl⟩
  | a :: l, k + 1, hk, h1, h2 => by
    have ha : lsT x a i = true := h1 0 (by omega)
    obtain ⟨e1, e2⟩ := span_at (l := l) (k := k) (by simpa using hk) (fun j hj => h1 (j + 1) (by omega)) (fun h => h2 (by simpa using h))
    exact ⟨by rw [List.takeWhile_cons_of_pos (p := fun j => lsT x j i) ha, e1]; rfl, by rw [List.dropWhile_cons_of_pos (p := fun j => lsT x j i) ha, e2]; rfl⟩
theorem insT_at {x : List Int} {i : Nat} {l : List Nat} {k : Nat} (h0 : k ≤ l.length) (h1 : ∀ j, j < k → lsT x (l.getD j 0) i = true) (h2 : k < l.length → lsT x (l.getD k 0) i = false) : insT x l i = l.take k ++ [i] ++ l.drop k := by
  obtain ⟨e1, e2⟩ := span_at h0 h1 h2
  unfold insT
  rw [e1, e2, List.append_assoc]; rfl
theorem own_lit (w : World) {B : Nat} (E : TypeId) (h : B ≤ w.heap.size) : (w.alloc (.cells #[] E)).ownsRow B E 1 (.slice (some ⟨w.heap.size, 0, none⟩) 0 0) 0 [] :=
  ⟨rfl, .inr ⟨w.heap.size, 0, #[], rfl, h, heap_alloc_new w _, Nat.le_refl _, Nat.zero_le _, rfl, rfl⟩⟩
theorem nvals_app (a b : List Nat) : nvals (a ++ b) = nvals a ++ nvals b := by simp [nvals]
theorem nvals_oneS (l : List Nat) : ∀ u ∈ nvals l, u.oneCell' = true := by
  intro u hu
  obtain ⟨_, _, rfl⟩ := List.mem_map.1 hu
  rfl
/-- The cells of a slice's first ones, and of those behind. -/
theorem Si.cells_at {ok : Nat → Prop} {w : World} {b o : Nat} {l : List Nat} (h : Si ok w (some ⟨b, o, none⟩) (l.map fun x : Nat => (x : Int))) {k : Nat} {m : List Nat} (hm : ∀ j, j < m.length → k + j < l.length ∧ l.getD (k + j) 0 = m.getD j 0) :
    ∀ ad, some (⟨b, o + k, none⟩ : Addr) = some ad → ∀ j u, (nvals m)[j]? = some u → w.cell? (ad.add j) = some u := by
  intro ad had j u hu
  cases had
  have hj : j < m.length := by
    have := (List.getElem?_eq_some_iff.1 hu).1
    simpa [nvals] using this
  obtain ⟨h1, h2⟩ := hm j hj
  have hv : u = .int .i64 ((m.getD j 0 : Nat) : Int) := by
    rw [nvals, List.getElem?_map, List.getElem?_eq_getElem hj] at hu
    rw [List.getD_eq_getElem?_getD, List.getElem?_eq_getElem hj]
    simpa using hu.symm
  rcases h with h | ⟨b', o', hb, -, hc⟩
  · have : l = [] := by simpa using h
    rw [this] at h1; simp at h1
  · cases hb
    have h3 := hc (k + j) (by simpa using h1)
    rw [mapZ_get, h2] at h3
    rw [Addr.add_lit, hv, ← h3, Nat.add_assoc]
end Go.Inc
namespace Go.Proofs.Ytmllpednaibeeaa
open Go.RowKit Go.Inc
set_option maxRecDepth 20000 in
set_option maxHeartbeats 2000000 in
theorem refSort_any (ok : Nat → Prop) (x : World) (p : Option Addr) (c : Nat) (zs : List Int) (hs : Si ok x p zs) (hr : RtL zs) (hl : (zs.length : Int) ≤ 65536) :
    Calls Try.prog 11 #[.slice p zs.length c] x fun e w' => ∃ u, e = .returned u ∧ w'.ownsRow x.heap.size 3 1 u zs.length (nvals (srT zs zs.length)) ∧ Below x.heap.size x w' := by
  have HLS := hid (fun (y : World) (hy : Below x.heap.size x y) (a b : Nat) (h : a < zs.length) (h' : b < zs.length) => refLess_any _ y p c zs a b (hs.below hy) hr hl h h')
  obtain ⟨n, hn⟩ : ∃ n, n = zs.length := ⟨_, rfl⟩
  rw [← hn] at hl HLS ⊢
  clear hs hn hr
  go_enter Try.func11, Try.ntmps11
  go_wp2_with fail
  go_loopw [3, 4] (fun u i wr => ∃ t : Nat, t ≤ n ∧ i = .int .i64 (t : Int) ∧ wr.ownsRow x.heap.size 3 1 u t (nvals (srT zs t)) ∧ Below x.heap.size x wr) (fun _ i _ => n - (intOf i).toNat)
  case atStart => exact ⟨0, Nat.zero_le _, rfl, World.ownsRow_nil _ _ _ _, Below.refl _ _⟩
  case round =>
    obtain ⟨t, ht, rfl, hu, hb⟩ := hrel
    have HB := hid hb
    have HLW := hid (fun (y : World) (hy : Below wr.heap.size wr y) (a : Nat) (h : a < n) (h' : t < n) => HLS.out y (hb.trans (hy.mono hb.size)) a t h h')
    by_cases hlt : t < n
    · have hti : (t < n) = True := eq_true hlt
      have HLT := hid hlt
      have htb : (t : Int) ≤ 65536 := by omega
      obtain ⟨l, hll⟩ : ∃ l, l = srT zs t := ⟨_, rfl⟩
      have HLM : Hid (∀ j, j < t → l.getD j 0 < n) := hid (fun j hj => by
        have hm : l.getD j 0 ∈ srT zs t := by
          rw [hll, List.getD_eq_getElem?_getD, List.getElem?_eq_getElem (by rw [srT_len]; exact hj)]; exact List.getElem_mem _
        have := srT_mem.1 hm
        omega)
      have HLL : Hid (l.length = t) := hid (by rw [hll, srT_len])
      have HNX : Hid (srT zs (t + 1) = insT zs l t) := hid (by rw [hll]; rfl)
      rw [← hll] at hu
      have hu2 := hu
      obtain ⟨a, cu, rfl, -, hcn, hcl, hcm, hsi⟩ := Si.ownedN hu
      have HSM : Hid (a ≠ none → ∃ pb po, a = some (⟨pb, po, none⟩ : Addr)) := hid (fun h0 => by
        rcases hu2.2 with ⟨h, -⟩ | ⟨g, cap, cur, h, -⟩
        · rw [Value.slice.injEq] at h; exact absurd h.1 h0
        · rw [Value.slice.injEq] at h; exact ⟨_, _, h.1⟩)
      rw [HLL.out] at hu2 hcl
      rw [HLL.out]
      have HSI := hid hsi
      have HCN := hid hcn
      have hct : (t : Int) ≤ (cu : Int) := by omega
      have hcb : (cu : Int) ≤ 9223372036854775807 := by unfold maxLen at hcm; omega
      clear hlt hu hb hll hcn hcl hcm hsi hu2
      obtain ⟨wo, hwo⟩ : ∃ wo, wo = wr := ⟨_, rfl⟩
      rw [← hwo] at HB HLW HSI
      go_wp2_with fail
      go_loopw [5] (fun k w2 => ∃ m : Nat, m ≤ t ∧ k = .int .i64 (m : Int) ∧ (∀ j, j < m → lsT zs (l.getD j 0) t = true) ∧ Below wo.heap.size wo w2) (fun k _ => t - (intOf k).toNat)
      case atStart => exact ⟨0, Nat.zero_le _, rfl, fun j h => by omega, by rw [hwo]; exact Below.refl _ _⟩
      case round =>
        clear hwo
        obtain ⟨m, hm, rfl, hj, hb⟩ := hrel
        have HJ := hid hj
        have HB2 := hid hb
        clear hj hb
        have hmb : (m : Int) ≤ 65536 := by omega
        by_cases hmt : m < t
        · have hmi : (m < t) = True := eq_true hmt
          have HMT := hid hmt
          obtain ⟨pb, po, rfl, hc⟩ : ∃ pb po, a = some ⟨pb, po, none⟩ ∧ wr.cell? ⟨pb, po + m, none⟩ = some (.int .i64 ((l.getD m 0 : Nat) : Int)) := by
            rcases (HSI.out.below HB2.out) with h | ⟨b, o, h, -, hc⟩
            · have := HLL.out; simp at h; rw [h] at this; simp at this; omega
            · refine ⟨b, o, h, ?_⟩
              have h1 := hc m (by rw [List.length_map, HLL.out]; exact hmt)
              rw [mapZ_get] at h1; exact h1
          have HLC := hid (HLW.out wr HB2.out (l.getD m 0) (HLM.out m hmt) HLT.out)
          obtain ⟨g, hg⟩ : ∃ g, g = l.getD m 0 := ⟨_, rfl⟩
          obtain ⟨q, hq⟩ : ∃ q, q = lsT zs g t := ⟨_, rfl⟩
          rw [← hg] at hc HLC
          rw [← hq] at HLC
          have HQ : Hid (lsT zs (l.getD m 0) t = q) := hid (by rw [hq, hg])
          clear hg hq hmt
          go_wp2_with fail
          refine HLC.out.mono ?_
          rintro e w3 ⟨rfl, hb3⟩
          have HB3 := hid (HB2.out.trans (hb3.mono HB2.out.size))
          clear hb3 HLC HB2
          cases q
          · have HB2 := HB3
            have HCX := hid hc
            clear hc
            have HIN : Hid (srT zs (t + 1) = l.take m ++ [t] ++ l.drop m) := hid (by rw [HNX.out, insT_at (k := m) (by rw [HLL.out]; exact hm) HJ.out (fun _ => HQ.out)])
            have hKt : (m : Int) ≤ (t : Int) := by omega
            have hKc : (m : Int) ≤ (cu : Int) := by omega
            have HKT := hid hm
            have HL1 : Hid ((nvals (l.take m)).length = m) := hid (by simp [nvals]; have := HLL.out; omega)
            have HL2 : Hid ((nvals (l.drop m)).length = t - m) := hid (by simp [nvals]; have := HLL.out; omega)
            have hcm : (cu = m) = False := eq_false (by have := HMT.out; omega)
            have HC1 : Hid (∀ y, Below wo.heap.size wo y → ∀ ad, some (⟨pb, po, none⟩ : Addr) = some ad → ∀ j u, (nvals (l.take m))[j]? = some u → y.cell? (ad.add j) = some u) := hid (fun y hy => (HSI.out.below hy).cells_at (k := 0) (fun j hj => by rw [List.length_take] at hj; refine ⟨by omega, ?_⟩; rw [Nat.zero_add, List.getD_eq_getElem?_getD, List.getD_eq_getElem?_getD, List.getElem?_take, if_pos (by omega)]))
            have HC2 : Hid (∀ y, Below wo.heap.size wo y → ∀ ad, some (⟨pb, po + m, none⟩ : Addr) = some ad → ∀ j u, (nvals (l.drop m))[j]? = some u → y.cell? (ad.add j) = some u) := hid (fun y hy => (HSI.out.below hy).cells_at (k := m) (fun j hj => by rw [List.length_drop] at hj; refine ⟨by omega, ?_⟩; rw [List.getD_eq_getElem?_getD, List.getD_eq_getElem?_getD, List.getElem?_drop]))
            clear HNX HLW HLM
            go_wp2_with (refine wpList_append_any rfl (.tmp 28) (.tmp 31) 22 rfl wo.heap.size 3 (.int .i64 0) 8 Try.underlying22 infoIntS rfl _ _ _ rfl (own_lit w3 3 HB2.out.size) _ m _ (nvals (l.take m)) rfl HL1.out (by intro h; cases h) (HC1.out _ (HB2.out.alloc HB2.out.size _)) (nvals_oneS _) (by have := HKT.out; unfold maxLen; omega) (by have := HKT.out; omega) (by have := HB2.out.size; simp; omega) ?_)
            intro v5 w5 hv5 hg5 _
            try rw [Nat.zero_add] at hv5
            try rw [List.nil_append] at hv5
            have HB5 := hid (below_owned (w0 := wo) (HB2.out.alloc HB2.out.size _) (own_lit w3 3 HB2.out.size) (Nat.le_refl _) hg5)
            have HV5 := hid hv5
            clear hv5 hg5 HC1
            go_wp2_with (refine wpList_append_any rfl (.tmp 32) (.tmp 34) 22 rfl wo.heap.size 3 (.int .i64 0) 8 Try.underlying22 infoIntS rfl _ _ _ rfl (HV5.out.alloc _) (some ⟨w5.heap.size, 0, none⟩) 1 1 [.int .i64 (t : Int)] rfl rfl (by intro h; cases h) (one_new w5 _ _) (by simp [Value.oneCell']) (by have := HKT.out; unfold maxLen; omega) (by have := HKT.out; omega) (by have := HB5.out.size; simp; omega) ?_)
            intro v6 w6 hv6 hg6 _
            have HB6 := hid (below_owned (w0 := wo) (HB5.out.alloc HB5.out.size _) (HV5.out.alloc _) (Nat.le_refl _) hg6)
            have HV6 := hid hv6
            clear hv6 hg6 HV5 HB5
            go_wp2_with (refine wpList_append_any rfl (.tmp 36) (.tmp 39) 22 rfl wo.heap.size 3 (.int .i64 0) 8 Try.underlying22 infoIntS rfl _ _ _ rfl HV6.out _ (t - m) _ (nvals (l.drop m)) rfl HL2.out (by intro h; cases h) (HC2.out _ HB6.out) (nvals_oneS _) (by have := HKT.out; unfold maxLen; omega) (by have := HKT.out; omega) (by have := HB6.out.size; simp; omega) ?_)
            intro v7 w7 hv7 hg7 _
            have HB7 := hid (below_owned (w0 := wo) HB6.out HV6.out (Nat.le_refl _) hg7)
            have HV7 : Hid (w7.ownsRow x.heap.size 3 1 v7 (t + 1) (nvals (srT zs (t + 1)))) := hid (own_weaken (b := wo.heap.size) (by rw [HIN.out, nvals_app, nvals_snoc, show t + 1 = m + 1 + (t - m) from by have := HKT.out; omega, List.append_assoc]; exact hv7) HB.out.size)
            clear hv7 hg7 HV6 HB6
            go_wp2_with fail
            go_roundw
            case rel => exact ⟨t + 1, HLT.out, by go_num, HV7.out, HB.out.trans (HB7.out.mono HB.out.size)⟩
            case measure => simp [intOf]; have := HLT.out; omega
          · go_wp2_with fail
            go_roundw
            case rel => exact ⟨m + 1, HMT.out, by go_num, fun j hj => (by
              by_cases e : j = m
              · rw [e]; exact HQ.out
              · exact HJ.out j (by omega)), HB3.out⟩
            case measure => simp [intOf]; have := HMT.out; omega
        · have hmi : (m < t) = False := eq_false hmt
          have hmt2 : m = t := by omega
          subst hmt2
          by_cases h0 : a = none
          · subst h0
            obtain rfl : cu = 0 := HCN.out rfl
            obtain rfl : m = 0 := by omega
            obtain rfl : l = [] := List.eq_nil_of_length_eq_zero HLL.out
            clear hmt
            have HIN : Hid (srT zs (0 + 1) = ([] : List Nat) ++ [0]) := hid (by rw [HNX.out, insT_at (k := 0) (by rw [HLL.out]; exact hm) HJ.out (fun h => absurd h (by simp))]; rfl)
            have hKt : (0 : Int) ≤ (0 : Int) := by omega
            have hKc : (0 : Int) ≤ (0 : Int) := by omega
            have HKT := hid hm
            have HL1 : Hid ((nvals (([] : List Nat))).length = 0) := hid (by simp [nvals])
            clear HNX HLW HLM
            go_wp2_with (refine wpList_append_any rfl (.tmp 28) (.tmp 31) 22 rfl wo.heap.size 3 (.int .i64 0) 8 Try.underlying22 infoIntS rfl _ _ _ rfl (own_lit wr 3 HB2.out.size) _ 0 _ (nvals (([] : List Nat))) rfl HL1.out (by intro h; rfl) (by intro ad h; cases h) (nvals_oneS _) (by have := HKT.out; unfold maxLen; omega) (by have := HKT.out; omega) (by have := HB2.out.size; simp; omega) ?_)
            intro v5 w5 hv5 hg5 _
            try rw [Nat.zero_add] at hv5
            try rw [List.nil_append] at hv5
            have HB5 := hid (below_owned (w0 := wo) (HB2.out.alloc HB2.out.size _) (own_lit wr 3 HB2.out.size) (Nat.le_refl _) hg5)
            have HV5 := hid hv5
            clear hv5 hg5
            go_wp2_with (refine wpList_append_any rfl (.tmp 32) (.tmp 34) 22 rfl wo.heap.size 3 (.int .i64 0) 8 Try.underlying22 infoIntS rfl _ _ _ rfl (HV5.out.alloc _) (some ⟨w5.heap.size, 0, none⟩) 1 1 [.int .i64 (0 : Int)] rfl rfl (by intro h; cases h) (one_new w5 _ _) (by simp [Value.oneCell']) (by have := HKT.out; unfold maxLen; omega) (by have := HKT.out; omega) (by have := HB5.out.size; simp; omega) ?_)
            intro v6 w6 hv6 hg6 _
            have HB6 := hid (below_owned (w0 := wo) (HB5.out.alloc HB5.out.size _) (HV5.out.alloc _) (Nat.le_refl _) hg6)
            have HV6 := hid hv6
            clear hv6 hg6 HV5 HB5
            go_wp2_with (refine wpList_append_any rfl (.tmp 36) (.tmp 39) 22 rfl wo.heap.size 3 (.int .i64 0) 8 Try.underlying22 infoIntS rfl _ _ _ rfl HV6.out _ 0 _ [] rfl rfl (by intro h; rfl) (by intro ad h; cases h) (by intro u hu; cases hu) (by have := HKT.out; unfold maxLen; omega) (by have := HKT.out; omega) (by have := HB6.out.size; simp; omega) ?_)
            intro v7 w7 hv7 hg7 _
            have HB7 := hid (below_owned (w0 := wo) HB6.out HV6.out (Nat.le_refl _) hg7)
            have HV7 : Hid (w7.ownsRow x.heap.size 3 1 v7 (0 + 1) (nvals (srT zs (0 + 1)))) := hid (own_weaken (b := wo.heap.size) (by rw [HIN.out, nvals_snoc]; simpa using hv7) HB.out.size)
            clear hv7 hg7 HV6 HB6
            go_wp2_with fail
            go_roundw
            case rel => exact ⟨0 + 1, HLT.out, by go_num, HV7.out, HB.out.trans (HB7.out.mono HB.out.size)⟩
            case measure => simp [intOf]; have := HLT.out; omega
          · obtain ⟨pb, po, rfl⟩ : ∃ pb po, a = some ⟨pb, po, none⟩ := HSM.out h0
            clear hmt h0
            by_cases hcu : cu = m
            · subst hcu
              have HIN : Hid (srT zs (cu + 1) = l ++ [cu]) := hid (by rw [HNX.out, insT_at (k := cu) (by rw [HLL.out]; exact hm) HJ.out (fun h => by have := HLL.out; omega)]; rw [List.take_of_length_le (by rw [HLL.out]; exact Nat.le_refl _), List.drop_of_length_le (by rw [HLL.out]; exact Nat.le_refl _), List.append_nil])
              have hKt : (cu : Int) ≤ (cu : Int) := by omega
              have hKc : (cu : Int) ≤ (cu : Int) := by omega
              have HKT := hid hm
              have HL1 : Hid ((nvals (l)).length = cu) := hid (by simp [nvals]; have := HLL.out; omega)
              have HC1 : Hid (∀ y, Below wo.heap.size wo y → ∀ ad, some (⟨pb, po, none⟩ : Addr) = some ad → ∀ j u, (nvals (l))[j]? = some u → y.cell? (ad.add j) = some u) := hid (fun y hy => (HSI.out.below hy).cells_at (k := 0) (fun j hj => by refine ⟨by omega, by rw [Nat.zero_add]⟩))
              clear HNX HLW HLM
              go_wp2_with (refine wpList_append_any rfl (.tmp 28) (.tmp 31) 22 rfl wo.heap.size 3 (.int .i64 0) 8 Try.underlying22 infoIntS rfl _ _ _ rfl (own_lit wr 3 HB2.out.size) _ cu _ (nvals (l)) rfl HL1.out (by intro h; cases h) (HC1.out _ (HB2.out.alloc HB2.out.size _)) (nvals_oneS _) (by have := HKT.out; unfold maxLen; omega) (by have := HKT.out; omega) (by have := HB2.out.size; simp; omega) ?_)
              intro v5 w5 hv5 hg5 _
              try rw [Nat.zero_add] at hv5
              try rw [List.nil_append] at hv5
              have HB5 := hid (below_owned (w0 := wo) (HB2.out.alloc HB2.out.size _) (own_lit wr 3 HB2.out.size) (Nat.le_refl _) hg5)
              have HV5 := hid hv5
              clear hv5 hg5 HC1
              go_wp2_with (refine wpList_append_any rfl (.tmp 32) (.tmp 34) 22 rfl wo.heap.size 3 (.int .i64 0) 8 Try.underlying22 infoIntS rfl _ _ _ rfl (HV5.out.alloc _) (some ⟨w5.heap.size, 0, none⟩) 1 1 [.int .i64 (cu : Int)] rfl rfl (by intro h; cases h) (one_new w5 _ _) (by simp [Value.oneCell']) (by have := HKT.out; unfold maxLen; omega) (by have := HKT.out; omega) (by have := HB5.out.size; simp; omega) ?_)
              intro v6 w6 hv6 hg6 _
              have HB6 := hid (below_owned (w0 := wo) (HB5.out.alloc HB5.out.size _) (HV5.out.alloc _) (Nat.le_refl _) hg6)
              have HV6 := hid hv6
              clear hv6 hg6 HV5 HB5
              go_wp2_with (refine wpList_append_any rfl (.tmp 36) (.tmp 39) 22 rfl wo.heap.size 3 (.int .i64 0) 8 Try.underlying22 infoIntS rfl _ _ _ rfl HV6.out _ 0 _ [] rfl rfl (by intro h; cases h) (by intro ad h j u hu; simp at hu) (by intro u hu; cases hu) (by have := HKT.out; unfold maxLen; omega) (by have := HKT.out; omega) (by have := HB6.out.size; simp; omega) ?_)
              intro v7 w7 hv7 hg7 _
              have HB7 := hid (below_owned (w0 := wo) HB6.out HV6.out (Nat.le_refl _) hg7)
              have HV7 : Hid (w7.ownsRow x.heap.size 3 1 v7 (cu + 1) (nvals (srT zs (cu + 1)))) := hid (own_weaken (b := wo.heap.size) (by rw [HIN.out, nvals_snoc]; simpa using hv7) HB.out.size)
              clear hv7 hg7 HV6 HB6
              go_wp2_with fail
              go_roundw
              case rel => exact ⟨cu + 1, HLT.out, by go_num, HV7.out, HB.out.trans (HB7.out.mono HB.out.size)⟩
              case measure => simp [intOf]; have := HLT.out; omega
            · have hcf : (cu = m) = False := eq_false hcu
              have HIN : Hid (srT zs (m + 1) = l ++ [m]) := hid (by rw [HNX.out, insT_at (k := m) (by rw [HLL.out]; exact hm) HJ.out (fun h => by have := HLL.out; omega)]; rw [List.take_of_length_le (by rw [HLL.out]; exact Nat.le_refl _), List.drop_of_length_le (by rw [HLL.out]; exact Nat.le_refl _), List.append_nil])
              have hKt : (m : Int) ≤ (m : Int) := by omega
              have hKc : (m : Int) ≤ (cu : Int) := by omega
              have HKT := hid hm
              have HL1 : Hid ((nvals (l)).length = m) := hid (by simp [nvals]; have := HLL.out; omega)
              have HC1 : Hid (∀ y, Below wo.heap.size wo y → ∀ ad, some (⟨pb, po, none⟩ : Addr) = some ad → ∀ j u, (nvals (l))[j]? = some u → y.cell? (ad.add j) = some u) := hid (fun y hy => (HSI.out.below hy).cells_at (k := 0) (fun j hj => by refine ⟨by omega, by rw [Nat.zero_add]⟩))
              clear HNX HLW HLM
              go_wp2_with (refine wpList_append_any rfl (.tmp 28) (.tmp 31) 22 rfl wo.heap.size 3 (.int .i64 0) 8 Try.underlying22 infoIntS rfl _ _ _ rfl (own_lit wr 3 HB2.out.size) _ m _ (nvals (l)) rfl HL1.out (by intro h; cases h) (HC1.out _ (HB2.out.alloc HB2.out.size _)) (nvals_oneS _) (by have := HKT.out; unfold maxLen; omega) (by have := HKT.out; omega) (by have := HB2.out.size; simp; omega) ?_)
              intro v5 w5 hv5 hg5 _
              try rw [Nat.zero_add] at hv5
              try rw [List.nil_append] at hv5
              have HB5 := hid (below_owned (w0 := wo) (HB2.out.alloc HB2.out.size _) (own_lit wr 3 HB2.out.size) (Nat.le_refl _) hg5)
              have HV5 := hid hv5
              clear hv5 hg5 HC1
              go_wp2_with (refine wpList_append_any rfl (.tmp 32) (.tmp 34) 22 rfl wo.heap.size 3 (.int .i64 0) 8 Try.underlying22 infoIntS rfl _ _ _ rfl (HV5.out.alloc _) (some ⟨w5.heap.size, 0, none⟩) 1 1 [.int .i64 (m : Int)] rfl rfl (by intro h; cases h) (one_new w5 _ _) (by simp [Value.oneCell']) (by have := HKT.out; unfold maxLen; omega) (by have := HKT.out; omega) (by have := HB5.out.size; simp; omega) ?_)
              intro v6 w6 hv6 hg6 _
              have HB6 := hid (below_owned (w0 := wo) (HB5.out.alloc HB5.out.size _) (HV5.out.alloc _) (Nat.le_refl _) hg6)
              have HV6 := hid hv6
              clear hv6 hg6 HV5 HB5
              go_wp2_with (refine wpList_append_any rfl (.tmp 36) (.tmp 39) 22 rfl wo.heap.size 3 (.int .i64 0) 8 Try.underlying22 infoIntS rfl _ _ _ rfl HV6.out _ 0 _ [] rfl rfl (by intro h; cases h) (by intro ad h j u hu; simp at hu) (by intro u hu; cases hu) (by have := HKT.out; unfold maxLen; omega) (by have := HKT.out; omega) (by have := HB6.out.size; simp; omega) ?_)
              intro v7 w7 hv7 hg7 _
              have HB7 := hid (below_owned (w0 := wo) HB6.out HV6.out (Nat.le_refl _) hg7)
              have HV7 : Hid (w7.ownsRow x.heap.size 3 1 v7 (m + 1) (nvals (srT zs (m + 1)))) := hid (own_weaken (b := wo.heap.size) (by rw [HIN.out, nvals_snoc]; simpa using hv7) HB.out.size)
              clear hv7 hg7 HV6 HB6
              go_wp2_with fail
              go_roundw
              case rel => exact ⟨m + 1, HLT.out, by go_num, HV7.out, HB.out.trans (HB7.out.mono HB.out.size)⟩
              case measure => simp [intOf]; have := HLT.out; omega
    · have hti : (t < n) = False := eq_false hlt
      obtain rfl : t = n := by omega
      have HU := hid hu
      clear hlt hu hb
      go_wp2_with fail
      go_ret
      exact ⟨_, rfl, HU.out, HB.out⟩
end Go.Proofs.Ytmllpednaibeeaa
namespace Go.Inc
open Go.RowKit
theorem snoc_get {W : List Nat} {t r j : Nat} (h : W.length = t) : (W ++ [r]).getD j 0 = if j = t then r else W.getD j 0 := by
  rw [List.getD_eq_getElem?_getD, List.getD_eq_getElem?_getD]
  split
  · rename_i e; subst e; subst h; simp
  · by_cases hj : j < t
    · rw [List.getElem?_append_left (by omega)]
    · rw [List.getElem?_eq_none (by simp; omega), List.getElem?_eq_none (by omega)]
/-- What is wrong with a text that isn't too long. -/
theorem ckT_range {x : List Int} (h : x.length ≤ 65536) {i : Nat} (hi : i < x.length) (hb : x.getD i 0 < 0 ∨ 65535 < x.getD i 0) : ckT x = 10 := by
  unfold ckT
  rw [if_neg (by omega), if_pos]
  intro hall
  have hm : x.getD i 0 ∈ x := by
    rw [List.getD_eq_getElem?_getD, List.getElem?_eq_getElem hi]; exact List.getElem_mem _
  have := hall _ hm
  omega
theorem all_codes {x : List Int} (h : ∀ i, i < x.length → 0 ≤ x.getD i 0 ∧ x.getD i 0 ≤ 65535) : ∀ z ∈ x, 0 ≤ z ∧ z ≤ 65535 := by
  intro z hz
  obtain ⟨i, hi, rfl⟩ := List.mem_iff_getElem.1 hz
  have := h i hi
  rw [List.getD_eq_getElem?_getD, List.getElem?_eq_getElem hi] at this
  exact this
theorem ckT_form {x : List Int} (h : x.length ≤ 65536) (hc : ∀ i, i < x.length → 0 ≤ x.getD i 0 ∧ x.getD i 0 ≤ 65535) (hr : ¬ RtL x) : ckT x = 3 := by
  unfold ckT
  rw [if_neg (by omega), if_neg (fun hh => hh (all_codes hc)), if_neg hr]
theorem ckT_ok {x : List Int} (h : x.length ≤ 65536) (hc : ∀ i, i < x.length → 0 ≤ x.getD i 0 ∧ x.getD i 0 ≤ 65535) (hr : RtL x) : ckT x = 0 := by
  unfold ckT
  rw [if_neg (by omega), if_neg (fun hh => hh (all_codes hc)), if_pos hr]
end Go.Inc
namespace Go.Proofs.Ytmllpednaibeeaa
open Go.RowKit Go.Inc
set_option maxRecDepth 20000 in
set_option maxHeartbeats 2000000 in
theorem refTurned_any (ok : Nat → Prop) (x : World) (p : Option Addr) (c : Nat) (zs : List Int) (hs : Si ok x p zs) (hl : (zs.length : Int) ≤ 65536) :
    Calls Try.prog 12 #[.slice p zs.length c] x fun e w' => ∃ u, e = .returned (.tuple #[u, .bool (decide (okT zs))]) ∧ (okT zs → w'.ownsRow x.heap.size 3 1 u zs.length (nvals (tnT zs))) ∧ Below x.heap.size x w' := by
  have HS := hid hs
  have HIS := hid (fun (W : List Nat) h0 h => tnT_is (l := zs) (W := W) h0 h)
  have HNO := hid (fun (n : Nat) (h : n < zs.length) (h2 : ∀ j, j < zs.length → zs.getD j 0 ≠ (n : Int)) => show decide (okT zs) = false from decide_eq_false (fun hok => by
    have := at_get (hok n h)
    exact h2 _ this.1 this.2))
  obtain ⟨n, hn⟩ : ∃ n, n = zs.length := ⟨_, rfl⟩
  have HN := hid hn
  rw [← hn] at hl HIS HNO ⊢
  clear hs hn
  go_enter Try.func12, Try.ntmps12
  go_wp2_with fail
  go_loopw [4, 5] (fun u i wr => ∃ (t : Nat) (W : List Nat), t ≤ n ∧ i = .int .i64 (t : Int) ∧ W.length = t ∧ (∀ j, j < t → W.getD j 0 < n ∧ zs.getD (W.getD j 0) 0 = (j : Int)) ∧ wr.ownsRow x.heap.size 3 1 u t (nvals W) ∧ Below x.heap.size x wr) (fun _ i _ => n - (intOf i).toNat)
  case atStart => exact ⟨0, [], Nat.zero_le _, rfl, rfl, fun j h => by omega, World.ownsRow_nil _ _ _ _, Below.refl _ _⟩
  case round =>
    obtain ⟨t, W, ht, rfl, hwl, hw, hu, hb⟩ := hrel
    have HU := hid hu
    have HB := hid hb
    have HW := hid hw
    have HWL := hid hwl
    clear hu hb hw hwl
    by_cases hlt : t < n
    · have hti : (t < n) = True := eq_true hlt
      have HLT := hid hlt
      have htb : (t : Int) ≤ 65536 := by omega
      obtain ⟨pb, po, rfl, hc⟩ : ∃ pb po, p = some ⟨pb, po, none⟩ ∧ ∀ i, i < n → wr.cell? ⟨pb, po + i, none⟩ = some (.int .i64 (zs.getD i 0)) := by
        rcases HS.out.below HB.out with h | ⟨b, o, h, -, hc⟩
        · have := HN.out; rw [h] at this; simp at this; omega
        · exact ⟨b, o, h, fun i hi => hc i (by rw [← HN.out]; exact hi)⟩
      have HC := hid hc
      clear hlt hc
      go_wp2_with fail
      go_loop [6, 7] (fun a i => ∃ (k : Nat) (av : Int), k ≤ n ∧ i = .int .i64 (k : Int) ∧ a = .int .i64 av ∧ ((av = -1 ∧ ∀ j, j < k → zs.getD j 0 ≠ (t : Int)) ∨ ∃ r, r < n ∧ av = ((r : Nat) : Int) ∧ zs.getD r 0 = (t : Int))) (fun _ i => n - (intOf i).toNat)
      case atStart => exact ⟨0, -1, Nat.zero_le _, rfl, rfl, .inl ⟨rfl, fun j h => by omega⟩⟩
      case round =>
        obtain ⟨k, av, hk, rfl, rfl, hav⟩ := hrel
        have HAV := hid hav
        clear hav
        by_cases hkn : k < n
        · have hki : (k < n) = True := eq_true hkn
          have hkb : (k : Int) ≤ 65536 := by omega
          have hc1 := HC.out k hkn
          have HKN := hid hkn
          obtain ⟨z, hz⟩ : ∃ z, z = zs.getD k 0 := ⟨_, rfl⟩
          have HZ := hid hz
          rw [← hz] at hc1
          clear hkn hz
          by_cases he : z = (t : Int)
          · subst he
            go_wp2_with fail
            go_round
            case rel => exact ⟨k + 1, k, HKN.out, by go_num, rfl, .inr ⟨k, HKN.out, rfl, HZ.out.symm⟩⟩
            case measure => simp [intOf]; have := HKN.out; omega
          · have hbe : (z == (t : Int)) = false := by rw [beq_eq_false_iff_ne]; exact he
            go_wp2_with fail
            go_round
            case rel => exact ⟨k + 1, av, HKN.out, by go_num, rfl, by
              rcases HAV.out with ⟨h1, h2⟩ | h
              · refine .inl ⟨h1, fun j hj => ?_⟩
                by_cases e : j = k
                · rw [e, ← HZ.out]; exact he
                · exact h2 j (by omega)
              · exact .inr h⟩
            case measure => simp [intOf]; have := HKN.out; omega
        · have hki : (k < n) = False := eq_false hkn
          obtain rfl : k = n := by omega
          clear hkn
          rcases HAV.out with ⟨rfl, h2⟩ | ⟨r, hr, rfl, hzr⟩
          · have HF := hid (HNO.out t HLT.out h2)
            clear HAV h2
            go_wp2_with fail
            go_ret2
            exact ⟨_, by rw [HF.out]; rfl, fun hok => absurd hok (of_decide_eq_false HF.out), HB.out⟩
          · have HR := hid (And.intro hr hzr)
            have hr0 : ((r : Int) < 0) = False := eq_false (by omega)
            clear HAV hr hzr
            go_wp2_with (refine wpList_append_any rfl (.tmp 29) (.tmp 31) 22 rfl x.heap.size 3 (.int .i64 0) 8 Try.underlying22 infoIntS rfl _ _ _ rfl (HU.out.alloc _) (some ⟨wr.heap.size, 0, none⟩) 1 1 [.int .i64 (r : Int)] rfl rfl (by intro h; cases h) (one_new wr _ _) (by simp [Value.oneCell']) (by unfold maxLen; omega) (by omega) (by have := HB.out.size; simp; omega) ?_)
            intro v4 w4 hv4 hg4 _
            have HB4 := hid (below_owned (w0 := x) (HB.out.alloc HB.out.size _) (HU.out.alloc _) (Nat.le_refl _) hg4)
            have HV4 : Hid (w4.ownsRow x.heap.size 3 1 v4 (t + 1) (nvals (W ++ [r]))) := hid (by rw [nvals_snoc]; exact hv4)
            clear hv4 hg4 HU HB
            go_wp2_with fail
            go_roundw
            case rel => exact ⟨t + 1, W ++ [r], HLT.out, by go_num, by rw [List.length_append, HWL.out]; rfl, fun j hj => (by
              rw [snoc_get HWL.out]
              split
              · rename_i e; subst e; exact HR.out
              · exact HW.out j (by omega)), HV4.out, HB4.out⟩
            case measure => simp [intOf]; have := HLT.out; omega
    · have hti : (t < n) = False := eq_false hlt
      obtain rfl : t = n := by omega
      obtain ⟨hok, hW⟩ := HIS.out W HWL.out HW.out
      have HOK := hid hok
      have HWW := hid hW
      clear hlt hok hW
      go_wp2_with fail
      go_ret2
      exact ⟨_, by rw [decide_eq_true HOK.out]; rfl, fun _ => by rw [← HWW.out]; exact HU.out, HB.out⟩
set_option maxRecDepth 20000 in
set_option maxHeartbeats 2000000 in
theorem refCheck_any (ok : Nat → Prop) (x : World) (p : Option Addr) (c : Nat) (zs : List Int) (hs : Si ok x p zs) (hl : (zs.length : Int) ≤ 65536) :
    Calls Try.prog 25 #[.slice p zs.length c] x fun e w' => e = .returned (.int .i64 ((ckT zs : Nat) : Int)) ∧ x = w' := by
  have HS := hid hs
  have HRG := hid (fun (i : Nat) h1 h2 => ckT_range (x := zs) (by omega) (i := i) h1 h2)
  have HFM := hid (fun h1 h2 => ckT_form (x := zs) (by omega) h1 h2)
  have HOK := hid (fun h1 h2 => ckT_ok (x := zs) (by omega) h1 h2)
  obtain ⟨n, hn⟩ : ∃ n, n = zs.length := ⟨_, rfl⟩
  have HRT : Hid (RtL zs ↔ 0 < n ∧ ∀ i, i < n → (zs.getD i 0 = 0 ↔ i + 1 = n)) := hid (by rw [hn]; exact Iff.rfl)
  have HCC : Hid (∀ i, i < n → ∃ pb po, p = some ⟨pb, po, none⟩ ∧ x.cell? ⟨pb, po + i, none⟩ = some (.int .i64 (zs.getD i 0))) := hid (fun i hi => by
    rcases HS.out with h | ⟨b, o, h, -, hc⟩
    · rw [h] at hn; simp at hn; omega
    · exact ⟨b, o, h, hc i (by rw [← hn]; exact hi)⟩)
  rw [← hn] at hl HRG HFM HOK ⊢
  have hbig : ((65536 : Int) < (n : Int)) = False := eq_false (by omega)
  clear hs hn HS
  go_enter Try.func25, Try.ntmps25
  go_wp2_with fail
  go_loop [3] (fun i => ∃ k : Nat, k ≤ n ∧ i = .int .i64 (k : Int) ∧ ∀ j, j < k → 0 ≤ zs.getD j 0 ∧ zs.getD j 0 ≤ 65535) (fun i => n - (intOf i).toNat)
  case atStart => exact ⟨0, Nat.zero_le _, rfl, fun j h => by omega⟩
  case round =>
    obtain ⟨k, hk, rfl, hj⟩ := hrel
    have HJ := hid hj
    clear hj
    by_cases hkn : k < n
    · have hki : (k < n) = True := eq_true hkn
      have HKN := hid hkn
      have hkb : (k : Int) ≤ 65536 := by omega
      obtain ⟨pb, po, rfl, hc⟩ := HCC.out k hkn
      obtain ⟨z, hz⟩ : ∃ z, z = zs.getD k 0 := ⟨_, rfl⟩
      have HZ := hid hz
      rw [← hz] at hc
      clear hkn hz
      by_cases h1 : z < 0
      · have h1t : (z < 0) = True := eq_true h1
        have HR := hid (HRG.out k HKN.out (.inl (by rw [← HZ.out]; exact h1)))
        clear h1
        go_wp2_with fail
        go_ret
        exact ⟨by rw [HR.out]; rfl, rfl⟩
      · have h1t : (z < 0) = False := eq_false h1
        by_cases h2 : 65535 < z
        · have h2t : (65535 < z) = True := eq_true h2
          have HR := hid (HRG.out k HKN.out (.inr (by rw [← HZ.out]; exact h2)))
          clear h1 h2
          go_wp2_with fail
          go_ret
          exact ⟨by rw [HR.out]; rfl, rfl⟩
        · have h2t : (65535 < z) = False := eq_false h2
          have HZZ : Hid (0 ≤ z ∧ z ≤ 65535) := hid (by omega)
          clear h1 h2
          go_wp2_with fail
          go_round
          case rel => exact ⟨k + 1, HKN.out, by go_num, fun j hj => (by
            by_cases e : j = k
            · rw [e, ← HZ.out]; exact HZZ.out
            · exact HJ.out j (by omega))⟩
          case measure => simp [intOf]; have := HKN.out; omega
    · have hki : (k < n) = False := eq_false hkn
      obtain rfl : k = n := by omega
      clear hkn
      go_wp2_with fail
      go_loop [4] (fun i => ∃ t : Nat, t ≤ k ∧ i = .int .i64 (t : Int) ∧ ∀ j, j < t → (zs.getD j 0 = 0 ↔ j + 1 = k)) (fun i => k - (intOf i).toNat)
      case atStart => exact ⟨0, Nat.zero_le _, rfl, fun j h => by omega⟩
      case round =>
        obtain ⟨t, ht, rfl, hj⟩ := hrel
        have HI := hid hj
        clear hj
        by_cases htn : t < k
        · have hti : (t < k) = True := eq_true htn
          have HTN := hid htn
          have htb : (t : Int) ≤ 65536 := by omega
          obtain ⟨pb, po, rfl, hc⟩ := HCC.out t htn
          obtain ⟨z, hz⟩ : ∃ z, z = zs.getD t 0 := ⟨_, rfl⟩
          have HZ := hid hz
          rw [← hz] at hc
          have HZT := hid (show zs.getD t 0 = z from hz.symm)
          clear htn hz
          by_cases e1 : z = 0
          · have hz0 : (z == 0) = true := by rw [beq_iff_eq]; exact e1
            by_cases e2 : t + 1 = k
            · have ht1 : ((t : Int) == (k : Int) - 1) = true := by rw [beq_iff_eq]; omega
              have HQ : Hid (z = 0 ↔ t + 1 = k) := hid ⟨fun _ => e2, fun _ => e1⟩
              clear e1 e2
              go_wp2_with fail
              go_round
              case rel => exact ⟨t + 1, HTN.out, by go_num, fun j hj => (by
                by_cases e : j = t
                · rw [e, ← HZ.out]; exact HQ.out
                · exact HI.out j (by omega))⟩
              case measure => simp [intOf]; have := HTN.out; omega
            · have ht1 : ((t : Int) == (k : Int) - 1) = false := by rw [beq_eq_false_iff_ne]; omega
              have HQ := hid (HFM.out HJ.out (fun hr => by have h := (HRT.out.1 hr).2 t HTN.out; rw [HZT.out] at h; exact e2 (h.1 e1)))
              clear e1 e2
              go_wp2_with fail
              go_ret
              exact ⟨by rw [HQ.out]; rfl, rfl⟩
          · have hz0 : (z == 0) = false := by rw [beq_eq_false_iff_ne]; exact e1
            by_cases e2 : t + 1 = k
            · have ht1 : ((t : Int) == (k : Int) - 1) = true := by rw [beq_iff_eq]; omega
              have HQ := hid (HFM.out HJ.out (fun hr => by have h := (HRT.out.1 hr).2 t HTN.out; rw [HZT.out] at h; exact e1 (h.2 e2)))
              clear e1 e2
              go_wp2_with fail
              go_ret
              exact ⟨by rw [HQ.out]; rfl, rfl⟩
            · have ht1 : ((t : Int) == (k : Int) - 1) = false := by rw [beq_eq_false_iff_ne]; omega
              have HQ : Hid (z = 0 ↔ t + 1 = k) := hid ⟨fun h => absurd h e1, fun h => absurd h e2⟩
              clear e1 e2
              go_wp2_with fail
              go_round
              case rel => exact ⟨t + 1, HTN.out, by go_num, fun j hj => (by
                by_cases e : j = t
                · rw [e, ← HZ.out]; exact HQ.out
                · exact HI.out j (by omega))⟩
              case measure => simp [intOf]; have := HTN.out; omega
        · have hti : (t < k) = False := eq_false htn
          obtain rfl : t = k := by omega
          clear htn
          by_cases h0 : t = 0
          · subst h0
            have HQ := hid (HFM.out HJ.out (fun hr => by have := (HRT.out.1 hr).1; omega))
            go_wp2_with fail
            go_ret
            exact ⟨by rw [HQ.out]; rfl, rfl⟩
          · have hb0 : ((t : Int) == 0) = false := by rw [beq_eq_false_iff_ne]; omega
            have HQ := hid (HOK.out HJ.out (HRT.out.2 ⟨by omega, HI.out⟩))
            go_wp2_with fail
            go_ret
            exact ⟨by rw [HQ.out]; rfl, rfl⟩
end Go.Proofs.Ytmllpednaibeeaa
namespace Go.Inc
open Go.RowKit
/-- A slice of these integers. -/
def So (ok : Nat → Prop) (w : World) (v : Value) (zs : List Int) : Prop := ∃ a c, v = .slice a zs.length c ∧ Si ok w a zs ∧ zs.length ≤ c ∧ c ≤ maxLen ∧ (a = none → c = 0)
def i64s (z : Int) : Prop := -9223372036854775808 ≤ z ∧ z ≤ 9223372036854775807
/-- How much neighbours begin with alike. -/
def cmsT (x : List Int) (l : List Nat) : List Nat := (List.range l.length).map fun i => if i = 0 then 0 else cmT x (l.getD (i - 1) 0) (l.getD i 0)
theorem So.below {ok : Nat → Prop} {w w' : World} {v : Value} {zs : List Int} (h : So ok w v zs) (hb : Below w.heap.size w w') : So ok w' v zs := by
  obtain ⟨a, c, h1, h2, h3⟩ := h
  exact ⟨a, c, h1, h2.below hb, h3⟩
theorem So.mono {ok ok' : Nat → Prop} {w : World} {v : Value} {zs : List Int} (h : So ok w v zs) (hk : ∀ b, ok b → b < w.heap.size → ok' b) : So ok' w v zs := by
  obtain ⟨a, c, h1, h2, h3⟩ := h
  exact ⟨a, c, h1, h2.mono hk, h3⟩
theorem So.ownedN {w : World} {B n : Nat} {v : Value} {l : List Nat} {e : TypeId} (h : w.ownsRow B e 1 v n (nvals l)) : So (fun b => B ≤ b) w v (zsN l) := by
  obtain ⟨a, c, h1, -, h3, h4, h5, h6⟩ := Si.ownedN h
  exact ⟨a, c, by rw [zsN_len]; exact h1, h6, by rw [zsN_len]; exact h4, h5, h3⟩
end Go.Inc
namespace Go.Proofs.Ytmllpednaibeeaa
open Go.RowKit Go.Inc
end Go.Proofs.Ytmllpednaibeeaa
namespace Go.Inc
open Go.RowKit
theorem ckT_made {m : List Nat} (hl : m.length ≤ 120) (h : ∀ z ∈ m, 1 ≤ z ∧ z ≤ 65535) : ckT (zsN (m ++ [0])) = 0 := by
  have hget : ∀ i, i < m.length → 1 ≤ (m ++ [0]).getD i 0 ∧ (m ++ [0]).getD i 0 ≤ 65535 := by
    intro i hi
    rw [List.getD_eq_getElem?_getD, List.getElem?_append_left hi, List.getElem?_eq_getElem hi]
    exact h _ (List.getElem_mem hi)
  have hend : (m ++ [0]).getD m.length 0 = 0 := by
    rw [List.getD_eq_getElem?_getD, List.getElem?_append_right (Nat.le_refl _), Nat.sub_self]; rfl
  have hlen : (zsN (m ++ [0])).length = m.length + 1 := by rw [zsN_len]; simp
  refine ckT_ok (by omega) (fun i hi => ?_) ⟨by omega, fun i hi => ?_⟩
  · rw [zsN_get]
    by_cases e : i = m.length
    · rw [e, hend]; decide
    · have := hget i (by omega); omega
  · rw [zsN_get, hlen]
    by_cases e : i = m.length
    · rw [e, hend]; simp
    · have := hget i (by omega)
      omega
theorem u64_rem (z : Int) {m : Int} (hm : 0 < m) : ∃ r : Nat, (IntKind.u64.wrap z).tmod m = (r : Int) ∧ (r : Int) < m := by
  have h0 : 0 ≤ IntKind.u64.wrap z := by rw [IntKind.wrap_u64]; omega
  have h1 := Int.tmod_nonneg m h0
  have h2 := Int.tmod_lt_of_pos (IntKind.u64.wrap z) hm
  exact ⟨((IntKind.u64.wrap z).tmod m).toNat, by omega, by omega⟩
end Go.Inc
namespace Go.Proofs.Ytmllpednaibeeaa
open Go.RowKit Go.Inc
set_option maxRecDepth 20000 in
set_option maxHeartbeats 2000000 in
/-- The law's text: a right one, of at most 121 codes. -/
theorem text15_any (ok : Nat → Prop) (x : World) (v : Value) (zs : List Int) (s : Int) (hv : So ok x v zs) :
    Calls Try.prog 8 #[v, .int .i64 s] x fun e w' => ∃ u X, e = .returned u ∧ So (fun g => x.heap.size ≤ g) w' u X ∧ ckT X = 0 ∧ X.length ≤ 121 ∧ Below x.heap.size x w' := by
  obtain ⟨p, c, rfl, hs, -, -, -⟩ := hv
  have HS := hid hs
  obtain ⟨n, hnn⟩ : ∃ n, n = zs.length := ⟨_, rfl⟩
  have HN := hid hnn
  rw [← hnn]
  obtain ⟨r, hr, hr9⟩ := u64_rem s (m := 9) (by decide)
  obtain ⟨g, hg⟩ : ∃ g : Nat, g = r + 1 := ⟨_, rfl⟩
  have hg1 : (1 : Int) + (r : Int) = (g : Int) := by omega
  have hgb : (g : Int) ≤ 9 := by omega
  have hg0 : (0 : Int) < (g : Int) := by omega
  have hgw : IntKind.u64.wrap (g : Int) = (g : Int) := by rw [IntKind.wrap_u64]; omega
  have hgz : ((g : Int) = 0) = False := eq_false (by omega)
  have hri : IntKind.i64.wrap (r : Int) = (r : Int) := by rw [IntKind.wrap_i64]; omega
  clear hs hnn hg
  go_enter Try.func8, Try.ntmps8
  go_wp2_with fail
  go_loopw [5, 6] (fun u i wr => ∃ (t : Nat) (m : List Nat), t ≤ n ∧ t ≤ 120 ∧ i = .int .i64 (t : Int) ∧ m.length = t ∧ (∀ z ∈ m, 1 ≤ z ∧ z ≤ 65535) ∧ wr.ownsRow x.heap.size 3 1 u t (nvals m) ∧ Below x.heap.size x wr) (fun _ i _ => n - (intOf i).toNat)
  case atStart => exact ⟨0, [], Nat.zero_le _, Nat.zero_le _, rfl, rfl, (fun z h => by cases h), World.ownsRow_nil _ _ _ _, Below.refl _ _⟩
  case round =>
    obtain ⟨t, m, htn, ht, rfl, hml, hmz, hu, hb⟩ := hrel
    have HU := hid hu
    have HB := hid hb
    have HMZ := hid hmz
    have HML := hid hml
    have htb : (t : Int) ≤ 120 := by omega
    clear hu hb hmz hml
    by_cases h1 : t < n ∧ t < 120
    · have h1t : (t < n) = True := eq_true h1.1
      have h2t : ((t : Int) < 120) = True := eq_true (by omega)
      have HLT := hid h1
      obtain ⟨pb, po, rfl, hc⟩ : ∃ pb po, p = some ⟨pb, po, none⟩ ∧ wr.cell? ⟨pb, po + t, none⟩ = some (.int .i64 (zs.getD t 0)) := by
        rcases HS.out.below HB.out with h | ⟨b, o, h, -, hc⟩
        · have := HN.out; rw [h] at this; simp at this; omega
        · exact ⟨b, o, h, hc t (by rw [← HN.out]; exact h1.1)⟩
      obtain ⟨z, hz⟩ : ∃ z, z = zs.getD t 0 := ⟨_, rfl⟩
      rw [← hz] at hc
      obtain ⟨q, hq, hq9⟩ := u64_rem z (m := (g : Int)) hg0
      obtain ⟨y, hy⟩ : ∃ y : Nat, y = q + 1 := ⟨_, rfl⟩
      have hy1 : (1 : Int) + (q : Int) = (y : Int) := by omega
      have hyi : IntKind.i64.wrap (q : Int) = (q : Int) := by rw [IntKind.wrap_i64]; omega
      have hyb : (y : Int) ≤ 100 := by omega
      have HY : Hid (1 ≤ y ∧ y ≤ 65535) := hid (by omega)
      clear h1 hz hy
      go_wp2_with (refine wpList_append_any rfl (.tmp 22) (.tmp 33) 22 rfl x.heap.size 3 (.int .i64 0) 8 Try.underlying22 infoIntS rfl _ _ _ rfl (HU.out.alloc _) (some ⟨wr.heap.size, 0, none⟩) 1 1 [.int .i64 (y : Int)] rfl rfl (by intro h; cases h) (one_new wr _ _) (by simp [Value.oneCell']) (by unfold maxLen; omega) (by omega) (by have := HB.out.size; simp; omega) ?_)
      intro v4 w4 hv4 hg4 _
      have HB4 := hid (below_owned (w0 := x) (HB.out.alloc HB.out.size _) (HU.out.alloc _) (Nat.le_refl _) hg4)
      have HV4 : Hid (w4.ownsRow x.heap.size 3 1 v4 (t + 1) (nvals (m ++ [y]))) := hid (by rw [nvals_snoc]; exact hv4)
      clear hv4 hg4 HU HB
      go_wp2_with fail
      go_roundw
      case rel => exact ⟨t + 1, m ++ [y], HLT.out.1, HLT.out.2, by go_num, by rw [List.length_append, HML.out]; rfl, fun z hz => (by
        rcases List.mem_append.1 hz with h | h
        · exact HMZ.out z h
        · rw [List.mem_singleton.1 h]; exact HY.out), HV4.out, HB4.out⟩
      case measure => simp [intOf]; have := HLT.out; omega
    · have HC := hid (ckT_made (m := m) (by rw [HML.out]; exact ht) HMZ.out)
      have fin : ∀ (v4 : Value) (w4 : World), w4.ownsRow x.heap.size 3 1 v4 (t + 1) (nvals m ++ [.int .i64 0]) → Below x.heap.size x w4 → ∃ u X, Ending.returned v4 = .returned u ∧ So (fun g => x.heap.size ≤ g) w4 u X ∧ ckT X = 0 ∧ X.length ≤ 121 ∧ Below x.heap.size x w4 := fun v4 w4 hv hb => ⟨v4, zsN (m ++ [0]), rfl, So.ownedN (n := t + 1) (e := 3) (by rw [nvals_snoc]; exact hv), HC.out, by rw [zsN_len, List.length_append, HML.out]; simp; omega, hb⟩
      have FIN := hid fin
      clear fin HC
      by_cases h2 : t < n
      · have h1t : (t < n) = True := eq_true h2
        have h2t : ((t : Int) < 120) = False := eq_false (by omega)
        clear h1 h2
        go_wp2_with (refine wpList_append_any rfl (.tmp 35) (.tmp 36) 22 rfl x.heap.size 3 (.int .i64 0) 8 Try.underlying22 infoIntS rfl _ _ _ rfl (HU.out.alloc _) (some ⟨wr.heap.size, 0, none⟩) 1 1 [.int .i64 0] rfl rfl (by intro h; cases h) (one_new wr _ _) (by simp [Value.oneCell']) (by unfold maxLen; omega) (by omega) (by have := HB.out.size; simp; omega) ?_)
        intro v4 w4 hv4 hg4 _
        have HB4 := hid (below_owned (w0 := x) (HB.out.alloc HB.out.size _) (HU.out.alloc _) (Nat.le_refl _) hg4)
        have HV4 := hid hv4
        clear hv4 hg4 HU HB
        go_wp2_with fail
        go_ret
        exact FIN.out _ _ HV4.out HB4.out
      · have h1t : (t < n) = False := eq_false h2
        clear h1 h2
        go_wp2_with (refine wpList_append_any rfl (.tmp 35) (.tmp 36) 22 rfl x.heap.size 3 (.int .i64 0) 8 Try.underlying22 infoIntS rfl _ _ _ rfl (HU.out.alloc _) (some ⟨wr.heap.size, 0, none⟩) 1 1 [.int .i64 0] rfl rfl (by intro h; cases h) (one_new wr _ _) (by simp [Value.oneCell']) (by unfold maxLen; omega) (by omega) (by have := HB.out.size; simp; omega) ?_)
        intro v4 w4 hv4 hg4 _
        have HB4 := hid (below_owned (w0 := x) (HB.out.alloc HB.out.size _) (HU.out.alloc _) (Nat.le_refl _) hg4)
        have HV4 := hid hv4
        clear hv4 hg4 HU HB
        go_wp2_with fail
        go_ret
        exact FIN.out _ _ HV4.out HB4.out
end Go.Proofs.Ytmllpednaibeeaa
namespace Go.Inc
open Go.RowKit
theorem si_lit (w : World) (zs : List Int) (T : TypeId) : Si (fun q => q = w.heap.size) (w.alloc (.cells (zs.map fun z => Value.int .i64 z).toArray T)) (some ⟨w.heap.size, 0, none⟩) zs :=
  .inr ⟨_, _, rfl, rfl, fun i hi => by
    rw [cell_of_row _ w.heap.size _ _ _ _ (heap_alloc_new w _)]
    rw [Nat.zero_add, List.getD_eq_getElem?_getD, List.getElem?_eq_getElem hi]
    simp [hi]⟩
end Go.Inc
namespace Go.Proofs.Ytmllpednaibeeaa
open Go.RowKit Go.Inc
end Go.Proofs.Ytmllpednaibeeaa
namespace Go.Proofs.Ytmllpednaibeeaa
open Go.RowKit Go.Inc
theorem same_so (ok ok' : Nat → Prop) (x : World) (v v' : Value) (xs ys : List Int) (h : So ok x v xs) (h' : So ok' x v' ys) (hl : (xs.length : Int) ≤ 65536) :
    Calls Try.prog 14 #[v, v'] x fun e w' => e = .returned (.bool (decide (xs = ys))) ∧ Below x.heap.size x w' := by
  obtain ⟨a, c, rfl, hs, -⟩ := h
  obtain ⟨b, d, rfl, hs', -⟩ := h'
  exact refSame_any ok ok' a b c d xs ys x hs hs' (by omega)
theorem refCheck_so (ok : Nat → Prop) (x : World) (v : Value) (zs : List Int) (h : So ok x v zs) (hl : zs.length ≤ 65536) :
    Calls Try.prog 25 #[v] x fun e w' => e = .returned (.int .i64 ((ckT zs : Nat) : Int)) ∧ x = w' := by
  obtain ⟨a, c, rfl, hs, -⟩ := h
  exact refCheck_any ok x a c zs hs (by omega)
theorem refTurned_so (ok : Nat → Prop) (x : World) (v : Value) (zs : List Int) (h : So ok x v zs) (hl : zs.length ≤ 65536) :
    Calls Try.prog 12 #[v] x fun e w' => ∃ u, e = .returned (.tuple #[u, .bool (decide (okT zs))]) ∧ (okT zs → So (fun g => x.heap.size ≤ g) w' u (zsN (tnT zs))) ∧ Below x.heap.size x w' := by
  obtain ⟨a, c, rfl, hs, -⟩ := h
  refine (refTurned_any ok x a c zs hs (by omega)).mono ?_
  rintro e w' ⟨u, rfl, h1, h2⟩
  exact ⟨u, rfl, fun hok => So.ownedN (h1 hok), h2⟩
theorem refSort_so (ok : Nat → Prop) (x : World) (v : Value) (zs : List Int) (h : So ok x v zs) (hl : zs.length ≤ 65536) (hr : RtL zs) :
    Calls Try.prog 11 #[v] x fun e w' => ∃ u, e = .returned u ∧ So (fun g => x.heap.size ≤ g) w' u (zsN (srT zs zs.length)) ∧ Below x.heap.size x w' := by
  obtain ⟨a, c, rfl, hs, -⟩ := h
  refine (refSort_any ok x a c zs hs hr (by omega)).mono ?_
  rintro e w' ⟨u, rfl, h1, h2⟩
  exact ⟨u, rfl, So.ownedN h1, h2⟩
theorem refFirsts_so (ok : Nat → Prop) (x : World) (v : Value) (zs : List Int) (h : So ok x v zs) (hl : zs.length ≤ 65536) (hr : RtL zs) :
    Calls Try.prog 36 #[v] x fun e w' => ∃ u, e = .returned u ∧ So (fun g => x.heap.size ≤ g) w' u (zsN (fsT zs zs.length)) ∧ Below x.heap.size x w' := by
  obtain ⟨a, c, rfl, hs, -⟩ := h
  refine (refFirsts_any ok x a c zs hs hr (by omega)).mono ?_
  rintro e w' ⟨u, rfl, h1, h2⟩
  exact ⟨u, rfl, So.ownedN h1, h2⟩
theorem refKinds_so (ok : Nat → Prop) (x : World) (v : Value) (zs : List Int) (h : So ok x v zs) (hl : zs.length ≤ 65536) (hr : RtL zs) :
    Calls Try.prog 53 #[v] x fun e w' => ∃ a c, e = .returned (.slice a zs.length c) ∧ Bl (fun g => x.heap.size ≤ g) w' a (kdTo zs zs.length) ∧ Below x.heap.size x w' := by
  obtain ⟨a, c, rfl, hs, -⟩ := h
  refine (refKinds_any ok x a c zs hs hr (by omega)).mono ?_
  rintro e w' ⟨u, rfl, h1, h2⟩
  obtain ⟨a, c, rfl, -, -, -, -, h3⟩ := Bl.owned h1
  exact ⟨a, c, by rw [kdTo_len], h3, h2⟩
theorem refLess_so (ok : Nat → Prop) (x : World) (v : Value) (zs : List Int) (a b : Nat) (h : So ok x v zs) (hl : zs.length ≤ 65536) (hr : RtL zs) (ha : a < zs.length) (hb : b < zs.length) :
    Calls Try.prog 29 #[v, .int .i64 (a : Int), .int .i64 (b : Int)] x fun e w' => e = .returned (.bool (lsT zs a b)) ∧ Below x.heap.size x w' := by
  obtain ⟨p, c, rfl, hs, -⟩ := h
  exact refLess_any ok x p c zs a b hs hr (by omega) ha hb
end Go.Proofs.Ytmllpednaibeeaa
namespace Go.Inc
open Go.RowKit
/-- A slice of slices of these integers. -/
def Ro (ok : Nat → Prop) (w : World) (u : Value) (xss : List (List Int)) : Prop :=
  ∃ a c, u = .slice a xss.length c ∧ xss.length ≤ c ∧ c ≤ maxLen ∧ (xss = [] ∨ ∃ b o, a = some ⟨b, o, none⟩ ∧ ok b ∧ ∀ i, i < xss.length → ∃ r, w.cell? ⟨b, o + i, none⟩ = some r ∧ So ok w r (xss.getD i []))
theorem Ro.below {ok : Nat → Prop} {w w' : World} {u : Value} {xss : List (List Int)} (h : Ro ok w u xss) (hb : Below w.heap.size w w') : Ro ok w' u xss := by
  obtain ⟨a, c, rfl, h1, h2, h3⟩ := h
  refine ⟨a, c, rfl, h1, h2, ?_⟩
  rcases h3 with h | ⟨b, o, rfl, hk, hc⟩
  · exact .inl h
  · refine .inr ⟨b, o, rfl, hk, fun i hi => ?_⟩
    obtain ⟨r, e, hs⟩ := hc i hi
    exact ⟨r, by rw [World.cell?_of_block (hb.block b (cell_lt e))]; exact e, hs.below hb⟩
end Go.Inc
namespace Go.Proofs.Ytmllpednaibeeaa
open Go.RowKit Go.Inc
structure PS17 : Prop where
  pOrder : ∀ (ok : Nat → Prop) (w : World) (v : Value) (zs : List Int), So ok w v zs → zs.length ≤ 65536 → ckT zs = 0 →
    Calls Try.prog 9 #[v] w fun e w' => ∃ u, e = .returned (.tuple #[u, .int .i64 0]) ∧ So (fun g => w.heap.size ≤ g) w' u (zsN (srT zs zs.length)) ∧ Below w.heap.size w w'
  pOrderE : ∀ (ok : Nat → Prop) (w : World) (v : Value) (zs : List Int), So ok w v zs → zs.length ≤ 65536 → (∀ z ∈ zs, i64s z) → ckT zs ≠ 0 →
    Calls Try.prog 9 #[v] w fun e w' => ∃ u, e = .returned (.tuple #[u, .int .i64 ((ckT zs : Nat) : Int)]) ∧ So (fun _ => True) w' u [] ∧ Below w.heap.size w w'
  pRanks : ∀ (ok : Nat → Prop) (w : World) (v : Value) (zs : List Int), So ok w v zs → zs.length ≤ 65536 → ckT zs = 0 →
    Calls Try.prog 10 #[v] w fun e w' => ∃ u, e = .returned (.tuple #[u, .int .i64 0]) ∧ So (fun g => w.heap.size ≤ g) w' u (zsN (tnT (zsN (srT zs zs.length)))) ∧ Below w.heap.size w w'
  pRanksE : ∀ (ok : Nat → Prop) (w : World) (v : Value) (zs : List Int), So ok w v zs → zs.length ≤ 65536 → (∀ z ∈ zs, i64s z) → ckT zs ≠ 0 →
    Calls Try.prog 10 #[v] w fun e w' => ∃ u, e = .returned (.tuple #[u, .int .i64 ((ckT zs : Nat) : Int)]) ∧ Below w.heap.size w w'
  pLevels : ∀ (ok : Nat → Prop) (w : World) (v : Value) (zs : List Int), So ok w v zs → zs.length ≤ 65536 → ckT zs = 0 →
    Calls Try.prog 16 #[v] w fun e w' => ∃ u, e = .returned (.tuple #[u, .int .i64 0]) ∧ Ro (fun g => w.heap.size ≤ g) w' u (lvT zs) ∧ Below w.heap.size w w'
  pLevelsE : ∀ (ok : Nat → Prop) (w : World) (v : Value) (zs : List Int), So ok w v zs → zs.length ≤ 65536 → (∀ z ∈ zs, i64s z) → ckT zs ≠ 0 →
    Calls Try.prog 16 #[v] w fun e w' => ∃ u, e = .returned (.tuple #[u, .int .i64 ((ckT zs : Nat) : Int)]) ∧ Below w.heap.size w w'
  pUnlike : ∀ (ok : Nat → Prop) (w : World) (v : Value) (zs : List Int), So ok w v zs → zs.length ≤ 65536 → (∀ z ∈ zs, i64s z) →
    Calls Try.prog 19 #[v] w fun e w' => e = .returned (.bool (decide zs.Nodup)) ∧ Below w.heap.size w w'
  pDeepest : ∀ (w : World) (n : Int), i64s n →
    Calls Try.prog 18 #[.int .i64 n] w fun e w' => e = .returned (.int .i64 ((dpT n.toNat : Nat) : Int)) ∧ Below w.heap.size w w'
  pRight : ∀ (ok ok' : Nat → Prop) (w : World) (v v' : Value) (zs ls : List Int), So ok w v zs → So ok' w v' ls → zs.length ≤ 65536 → (∀ z ∈ zs, i64s z) → ls.length ≤ 65536 → (∀ z ∈ ls, i64s z) →
    Calls Try.prog 15 #[v, v'] w fun e w' => e = .returned (.bool (decide (ckT zs = 0 ∧ ls = zsN (srT zs zs.length)))) ∧ Below w.heap.size w w'
end Go.Proofs.Ytmllpednaibeeaa
namespace Go.Inc
open Go.RowKit
theorem known17_ck : ckT [2, 1, 2, 1, 0] = 0 := by decide +kernel
theorem known17_srt : zsN (srT [2, 1, 2, 1, 0] 5) = [4, 3, 1, 2, 0] := by decide +kernel
theorem known17_rd : rdT [2, 1, 2, 1, 0] = [1, 0] := by decide +kernel
theorem known17_rck : ckT [1, 0] = 0 := by decide +kernel
theorem known17_fs : fsT [2, 1, 2, 1, 0] 5 = [1, 4] := by decide +kernel
theorem known17_lv : lvT [2, 1, 2, 1, 0] = [[2, 1, 2, 1, 0], [1, 0]] := by
  rw [lvT_eq (InT.of known17_ck) (by decide), if_neg (fun h => by
    rcases h with h | h
    · revert h; simp
    · have e : (fsT [2, 1, 2, 1, 0] [2, 1, 2, 1, 0].length).length = 2 := congrArg List.length known17_fs
      omega), known17_rd, lvT_eq (InT.of known17_rck) (by decide), if_pos (.inl (by simp))]
end Go.Inc
namespace Go.Proofs.Ytmllpednaibeeaa
open Go.RowKit Go.Inc
theorem so_lit (w y : World) (zs : List Int) (hl : zs.length ≤ 1000) (h : y = w.alloc (.cells (zs.map fun z => Value.int .i64 z).toArray 3)) : So (fun q => q = w.heap.size) y (.slice (some ⟨w.heap.size, 0, none⟩) zs.length zs.length) zs :=
  ⟨_, zs.length, rfl, by rw [h]; exact si_lit w zs 3, Nat.le_refl _, by unfold maxLen; omega, fun h => by cases h⟩
set_option maxRecDepth 20000 in
set_option maxHeartbeats 2000000 in
theorem known17_any (ps : PS17) (x : World) :
    Calls Try.prog 13 #[] x fun e w' => e = .returned (.bool true) ∧ Below x.heap.size x w' := by
  go_enter Try.func13, Try.ntmps13
  obtain ⟨x1, hx1⟩ : ∃ x1, x1 = x.alloc (.cells #[.int .i64 2, .int .i64 1, .int .i64 2, .int .i64 1, .int .i64 0] 3) := ⟨_, rfl⟩
  have hb1 : Below x.heap.size x x1 := by rw [hx1]; exact (Below.refl _ _).alloc (Nat.le_refl _) _
  have HH := hid (ps.pOrder _ x1 _ _ (so_lit x x1 [2, 1, 2, 1, 0] (by decide) hx1) (by decide) known17_ck)
  rw [show [(2 : Int), 1, 2, 1, 0].length = 5 from rfl, known17_srt] at HH
  have HX1 := hid hx1
  have HB1 := hid hb1
  clear hx1 hb1
  go_wp2_with fail
  rw [← HX1.out]
  refine HH.out.mono ?_
  rintro e w2 ⟨u2, rfl, h2, hb⟩
  obtain ⟨y2, hy2⟩ : ∃ y2, y2 = w2.alloc (.cells #[.int .i64 2, .int .i64 1, .int .i64 2, .int .i64 1, .int .i64 0] 3) := ⟨_, rfl⟩
  have hb2 : Below w2.heap.size w2 y2 := by rw [hy2]; exact (Below.refl _ _).alloc (Nat.le_refl _) _
  have HO2 := hid (h2.below hb2)
  have HB2 := hid ((HB1.out.trans (hb.mono HB1.out.size)).trans (hb2.mono (HB1.out.trans (hb.mono HB1.out.size)).size))
  have HL := hid (ps.pLevels _ y2 _ _ (so_lit w2 y2 [2, 1, 2, 1, 0] (by decide) hy2) (by decide) known17_ck)
  rw [known17_lv] at HL
  have HY2 := hid hy2
  clear hb hb2 hy2 h2 HH HX1 HB1
  go_wp2_with fail
  rw [← HY2.out]
  refine HL.out.mono ?_
  rintro e w3 ⟨u3, rfl, h3, hb⟩
  have HR3 := hid h3
  obtain ⟨a3, c3, rfl, -⟩ := h3
  rw [show ([[2, 1, 2, 1, 0], [1, 0]] : List (List Int)).length = 2 from rfl]
  have HO3 := hid (HO2.out.below hb)
  have HB3 := hid (HB2.out.trans (hb.mono HB2.out.size))
  obtain ⟨y3, hy3⟩ : ∃ y3, y3 = w3.alloc (.cells #[.int .i64 4, .int .i64 3, .int .i64 1, .int .i64 2, .int .i64 0] 3) := ⟨_, rfl⟩
  have hb3 : Below w3.heap.size w3 y3 := by rw [hy3]; exact (Below.refl _ _).alloc (Nat.le_refl _) _
  have HSM := hid (same_so _ _ y3 u2 _ _ _ (HO3.out.below hb3) (so_lit w3 y3 [4, 3, 1, 2, 0] (by decide) hy3) (by decide))
  rw [decide_eq_true rfl] at HSM
  have HR4 := hid (HR3.out.below hb3)
  have HB4 := hid (HB3.out.trans (hb3.mono HB3.out.size))
  have HY3 := hid hy3
  clear hb hb3 hy3 HL HB2 HB3 HO2 HO3 HR3 HY2
  go_wp2_with fail
  rw [← HY3.out]
  refine HSM.out.mono ?_
  rintro e w5 ⟨rfl, hb⟩
  obtain ⟨a', c', e', -, -, h5⟩ := HR4.out.below hb
  injection e' with e1 e2 e3
  subst e1
  rcases h5 with h | ⟨b5, o5, rfl, -, hc⟩
  · cases h
  · obtain ⟨r, hr1, hr2⟩ := hc 1 (by decide)
    obtain ⟨y5, hy5⟩ : ∃ y5, y5 = w5.alloc (.cells #[.int .i64 1, .int .i64 0] 3) := ⟨_, rfl⟩
    have hb5 : Below w5.heap.size w5 y5 := by rw [hy5]; exact (Below.refl _ _).alloc (Nat.le_refl _) _
    have HS5 := hid (same_so _ _ y5 r _ [1, 0] [1, 0] (hr2.below hb5) (so_lit w5 y5 [1, 0] (by decide) hy5) (by decide))
    rw [decide_eq_true rfl] at HS5
    have HB5 := hid ((HB4.out.trans (hb.mono HB4.out.size)).trans (hb5.mono (HB4.out.trans (hb.mono HB4.out.size)).size))
    have HY5 := hid hy5
    clear hb hb5 hy5 hr2 hc HSM HB4 HR4 HY3 e2 e3
    go_wp2_with fail
    rw [← HY5.out]
    refine HS5.out.mono ?_
    rintro e w6 ⟨rfl, hb⟩
    have HB6 := hid (HB5.out.trans (hb.mono HB5.out.size))
    clear hb HS5 HB5 HY5
    go_wp2_with fail
    go_ret
    exact ⟨rfl, HB6.out⟩
end Go.Proofs.Ytmllpednaibeeaa
namespace Go.Inc
open Go.RowKit
theorem okT_srA {x : List Int} : okT (zsN (srT x x.length)) := fun n hn => by
  rw [zsN_len, srT_len] at hn
  exact List.mem_map.2 ⟨n, srT_mem.2 hn, rfl⟩
end Go.Inc
namespace Go.Proofs.Ytmllpednaibeeaa
open Go.RowKit Go.Inc
set_option maxRecDepth 20000 in
set_option maxHeartbeats 4000000 in
theorem saisOrders_walk (ps : PS17) (W : World) (a : Option Addr) (c : Nat) (zs0 : List Int) (s0 : Int) (hs : Si (fun _ => True) W a zs0) (hlc : zs0.length ≤ c) (hcm : c ≤ maxLen) (hn : a = none → c = 0) :
    Calls Try.prog 3 #[.slice a zs0.length c, .int .i64 s0] W fun e w' => e = .returned (.bool true) ∧ Below W.heap.size W w' := by
  have HTX := hid (text15_any _ W (.slice a zs0.length c) zs0 s0 ⟨a, c, rfl, hs, hlc, hcm, hn⟩)
  clear hs hlc hcm hn
  go_enter Try.func3, Try.ntmps3
  go_wp2_with fail
  refine HTX.out.mono ?_
  rintro e w1 ⟨vx, X, rfl, hx, hck, hxl, hb⟩
  have HXL : Hid (X.length ≤ 65536) := hid (by omega)
  have HCK := hid hck
  have HI := hid (InT.of hck)
  have HV1 := hid hx
  have HB1 := hid hb
  have HC := hid (ps.pOrder _ w1 vx X hx (by omega) hck)
  obtain ⟨S, hS⟩ : ∃ S, S = srT X X.length := ⟨_, rfl⟩
  have HSE := hid hS
  have HSL : Hid ((zsN S).length ≤ 65536) := hid (by rw [zsN_len, hS, srT_len]; omega)
  have HOK : Hid (okT (zsN S)) := hid (by rw [hS]; exact okT_srA)
  rw [← hS] at HC
  clear hx hck hxl hb HTX hS
  go_wp2_with fail
  refine HC.out.mono ?_
  rintro e w2 ⟨u2, rfl, h2, hb⟩
  have HO2 := hid h2
  have HV2 := hid (HV1.out.below hb)
  have HB2 := hid (HB1.out.trans (hb.mono HB1.out.size))
  have HC := hid (ps.pRanks _ w2 vx X HV2.out HXL.out HCK.out)
  rw [← HSE.out] at HC
  clear hb h2 HV1 HB1
  go_wp2_with fail
  refine HC.out.mono ?_
  rintro e w3 ⟨u3, rfl, h3, hb⟩
  have HR3 := hid h3
  have HO3 := hid (HO2.out.below hb)
  have HV3 := hid (HV2.out.below hb)
  have HB3 := hid (HB2.out.trans (hb.mono HB2.out.size))
  have HC := hid (refSort_so _ w3 vx X HV3.out HXL.out HI.out.right)
  rw [← HSE.out] at HC
  clear hb h3 HV2 HB2 HO2
  go_wp2_with fail
  refine HC.out.mono ?_
  rintro e w4 ⟨u4, rfl, h4, hb⟩
  have HW4 := hid h4
  have HR4 := hid (HR3.out.below hb)
  have HO4 := hid (HO3.out.below hb)
  have HB4 := hid (HB3.out.trans (hb.mono HB3.out.size))
  have HC := hid (refTurned_so _ w4 u4 (zsN S) h4 HSL.out)
  rw [decide_eq_true HOK.out] at HC
  clear hb h4 HV3 HB3 HO3 HR3
  go_wp2_with fail
  refine HC.out.mono ?_
  rintro e w5 ⟨u5, rfl, h5, hb⟩
  have HT5 := hid (h5 HOK.out)
  have HW5 := hid (HW4.out.below hb)
  have HR5 := hid (HR4.out.below hb)
  have HO5 := hid (HO4.out.below hb)
  have HB5 := hid (HB4.out.trans (hb.mono HB4.out.size))
  have HC := hid (known17_any ps w5)
  clear hb h5 HW4 HB4 HO4 HR4
  go_wp2_with fail
  refine HC.out.mono ?_
  rintro e w6 ⟨rfl, hb⟩
  have HT6 := hid (HT5.out.below hb)
  have HR6 := hid (HR5.out.below hb)
  have HB6 := hid (HB5.out.trans (hb.mono HB5.out.size))
  have HC := hid (same_so _ _ w6 u2 u4 _ _ (HO5.out.below hb) (HW5.out.below hb) (by have := HSL.out; omega))
  rw [decide_eq_true rfl] at HC
  clear hb HW5 HB5 HO5 HR5 HT5
  go_wp2_with fail
  refine HC.out.mono ?_
  rintro e w7 ⟨rfl, hb⟩
  have HB7 := hid (HB6.out.trans (hb.mono HB6.out.size))
  have HTL : Hid ((zsN (tnT (zsN S))).length ≤ 65536) := hid (by rw [zsN_len, tnT_len]; exact HSL.out)
  have HC := hid (same_so _ _ w7 u3 u5 _ _ (HR6.out.below hb) (HT6.out.below hb) (by have := HTL.out; omega))
  rw [decide_eq_true rfl] at HC
  clear hb HB6 HR6 HT6
  go_wp2_with fail
  refine HC.out.mono ?_
  rintro e w8 ⟨rfl, hb⟩
  have HB8 := hid (HB7.out.trans (hb.mono HB7.out.size))
  clear hb HC HB7
  go_wp2_with fail
  go_ret
  exact ⟨rfl, HB8.out⟩
end Go.Proofs.Ytmllpednaibeeaa
namespace Go.Inc
open Go.RowKit
theorem un_iff {X : List Int} : X.Nodup ↔ ∀ i j, i < j → j < X.length → X.getD i 0 ≠ X.getD j 0 := by
  unfold List.Nodup
  rw [List.pairwise_iff_getElem]
  constructor
  · intro h i j hij hj
    have := h i j (by omega) hj hij
    rw [List.getD_eq_getElem?_getD, List.getD_eq_getElem?_getD, List.getElem?_eq_getElem hj, List.getElem?_eq_getElem (by omega)]
    exact this
  · intro h i j hi hj hij
    have := h i j hij hj
    rw [List.getD_eq_getElem?_getD, List.getD_eq_getElem?_getD, List.getElem?_eq_getElem hj, List.getElem?_eq_getElem hi] at this
    exact this
theorem dpT_le (n : Nat) : dpT n ≤ n := by
  induction n using Nat.strongRecOn with
  | ind n ih =>
    rcases Nat.eq_zero_or_pos n with h | h
    · subst h; exact Nat.le_refl _
    · rw [dpT_eq h]
      have := ih (n / 2) (by omega)
      omega
end Go.Inc
namespace Go.Proofs.Ytmllpednaibeeaa
open Go.RowKit Go.Inc
theorem refDeepest_nat (n : Nat) : ∀ (x : World), (n : Int) ≤ 9223372036854775807 →
    Calls Try.prog 21 #[.int .i64 (n : Int)] x fun e w' => e = .returned (.int .i64 ((dpT n : Nat) : Int)) ∧ x = w' := by
  induction n using Nat.strongRecOn with
  | ind n ih =>
    intro x hn
    go_enter Try.func21, Try.ntmps21
    rcases Nat.eq_zero_or_pos n with h | h
    · subst h
      go_wp2_with fail
      go_ret
      exact ⟨rfl, rfl⟩
    · obtain ⟨m, hm⟩ : ∃ m, m = n / 2 := ⟨_, rfl⟩
      obtain ⟨k, hk⟩ : ∃ k, k = dpT m := ⟨_, rfl⟩
      obtain ⟨r, hr⟩ : ∃ r, r = dpT n := ⟨_, rfl⟩
      have hkr : 1 + (k : Int) = (r : Int) := by rw [hr, dpT_eq h, ← hm, ← hk]; omega
      have hrb : (r : Int) ≤ 9223372036854775807 := by have := dpT_le n; omega
      have hq : (n : Int).tdiv 2 = (m : Int) := by rw [hm]; exact (Int.ofNat_tdiv n 2).symm
      have hmb : (m : Int) ≤ 9223372036854775807 := by omega
      have hmw : IntKind.i64.wrap (m : Int) = (m : Int) := by rw [IntKind.wrap_i64]; omega
      have hrw : IntKind.i64.wrap (r : Int) = (r : Int) := by rw [IntKind.wrap_i64]; omega
      have hn1 : ((n : Int) < 1) = False := eq_false (by omega)
      have hn2 : decide ((n : Int) < 1) = false := decide_eq_false (by omega)
      have hn3 : (1 : Int) ≤ (n : Int) := by omega
      have HI := hid (ih m (by omega) x hmb)
      rw [← hk] at HI
      rw [← hr]
      clear h hm hk hr ih
      go_wp2_with fail
      refine HI.out.mono ?_
      rintro e w' ⟨rfl, rfl⟩
      clear HI
      go_wp2_with fail
      go_ret
      exact ⟨rfl, rfl⟩
theorem refDeepest_any (x : World) (n : Int) (hn : i64s n) :
    Calls Try.prog 21 #[.int .i64 n] x fun e w' => e = .returned (.int .i64 ((dpT n.toNat : Nat) : Int)) ∧ x = w' := by
  unfold i64s at hn
  by_cases h : 0 ≤ n
  · obtain ⟨m, rfl⟩ := Int.eq_ofNat_of_zero_le h
    exact refDeepest_nat m x (by omega)
  · have e : n.toNat = 0 := by omega
    rw [e, dpT_zero]
    have hn1 : (n < 1) = True := eq_true (by omega)
    have hn2 : decide (n < 1) = true := decide_eq_true (by omega)
    clear h e hn
    go_enter Try.func21, Try.ntmps21
    go_wp2_with fail
    go_ret
    exact ⟨rfl, rfl⟩
set_option maxRecDepth 20000 in
set_option maxHeartbeats 2000000 in
theorem refUnlike_so (ok : Nat → Prop) (x : World) (v : Value) (zs : List Int) (h : So ok x v zs) (hl : zs.length ≤ 65536) :
    Calls Try.prog 20 #[v] x fun e w' => e = .returned (.bool (decide zs.Nodup)) ∧ Below x.heap.size x w' := by
  obtain ⟨a, c, rfl, hs, -⟩ := h
  have HS := hid hs
  obtain ⟨n, hn⟩ : ∃ n, n = zs.length := ⟨_, rfl⟩
  have HN := hid hn
  have hnb : (n : Int) ≤ 65536 := by omega
  rw [← hn]
  clear hs hn hl
  go_enter Try.func20, Try.ntmps20
  go_wp2_with fail
  go_loopw [3, 4] (fun i _ wr => ∃ t : Nat, t ≤ n ∧ i = .int .i64 (t : Int) ∧ (∀ i j, i < j → j < t → zs.getD i 0 ≠ zs.getD j 0) ∧ Below x.heap.size x wr) (fun i _ _ => n - (intOf i).toNat)
  case atStart => exact ⟨0, Nat.zero_le _, rfl, fun i j h1 h2 => by omega, Below.refl _ _⟩
  case round =>
    obtain ⟨t, ht, rfl, hp, hb⟩ := hrel
    have HP := hid hp
    have HBR := hid hb
    clear hp hb
    by_cases hlt : t < n
    · have hti : (t < n) = True := eq_true hlt
      have HLT := hid hlt
      have htb : (t : Int) < (n : Int) := by omega
      clear hlt
      go_wp2_with fail
      go_loopw [4] (fun i wq => ∃ k : Nat, k ≤ t ∧ i = .int .i64 (k : Int) ∧ (∀ i, i < k → zs.getD i 0 ≠ zs.getD t 0) ∧ Below x.heap.size x wq) (fun i _ => t - (intOf i).toNat)
      case atStart => exact ⟨0, Nat.zero_le _, rfl, fun i h => by omega, HBR.out⟩
      case round =>
        clear HBR
        obtain ⟨k, hk, rfl, hq, hb⟩ := hrel
        generalize wr = wq at *
        have HQ := hid hq
        have HBR := hid hb
        clear hq hb
        by_cases hkt : k < t
        · have hki : (k < t) = True := eq_true hkt
          have HKT := hid hkt
          have hkb : (k : Int) < (t : Int) := by omega
          have hkn : (k < n) = True := eq_true (by omega)
          have htn : (t < n) = True := eq_true HLT.out
          have hkb2 : (k : Int) < (n : Int) := by omega
          obtain ⟨b, o, rfl, hc⟩ : ∃ b o, a = some ⟨b, o, none⟩ ∧ ∀ i, i < n → wq.cell? ⟨b, o + i, none⟩ = some (.int .i64 (zs.getD i 0)) := by
            rcases HS.out.below HBR.out with h | ⟨b, o, h, _, hc⟩
            · have h1 := HN.out
              rw [h] at h1; simp at h1; omega
            · exact ⟨b, o, h, fun i hi => hc i (by rw [← HN.out]; exact hi)⟩
          have hc1 := hc t HLT.out
          have hc2 := hc k (by omega)
          obtain ⟨p, hpp⟩ : ∃ p, p = zs.getD t 0 := ⟨_, rfl⟩
          obtain ⟨q, hqq⟩ : ∃ q, q = zs.getD k 0 := ⟨_, rfl⟩
          rw [← hpp] at hc1
          rw [← hqq] at hc2
          by_cases hpq : p = q
          · have hF : decide zs.Nodup = false := decide_eq_false fun h => un_iff.1 h k t hkt (by rw [← HN.out]; exact HLT.out) (by rw [← hqq, ← hpp, hpq])
            have HF := hid hF
            have e1 : (p == q) = true := by rw [hpq]; exact beq_self_eq_true _
            have e2 : decide (p = q) = true := decide_eq_true hpq
            clear hkt hc hpp hqq hpq hF
            go_wp2_with fail
            go_region
            go_wp2_with fail
            go_ret
            exact ⟨by rw [HF.out]; rfl, HBR.out.drew⟩
          · have e1 : (p == q) = false := by rw [beq_eq_false_iff_ne]; exact hpq
            have e2 : decide (p = q) = false := decide_eq_false hpq
            have HNX : Hid (∀ i, i < k + 1 → zs.getD i 0 ≠ zs.getD t 0) := hid fun i hi => by
              rcases Nat.lt_or_ge i k with h | h
              · exact HQ.out i h
              · rw [show i = k by omega, ← hqq, ← hpp]; exact fun e => hpq e.symm
            clear hkt hc hpp hqq hpq
            go_wp2_with fail
            go_region
            go_wp2_with fail
            go_roundw
            case rel => exact ⟨k + 1, HKT.out, by have h1 := HKT.out; have h2 := HLT.out; go_num, HNX.out, HBR.out.drew⟩
            case measure => simp [intOf]; have := HKT.out; omega
        · have hki : (k < t) = False := eq_false hkt
          have HNX : Hid (∀ i j, i < j → j < t + 1 → zs.getD i 0 ≠ zs.getD j 0) := hid fun i j hij hj => by
            rcases Nat.lt_or_ge j t with h | h
            · exact HP.out i j hij h
            · rw [show j = t by omega]; exact HQ.out i (by omega)
          clear hkt
          go_wp2_with fail
          go_roundw
          case rel => exact ⟨t + 1, HLT.out, by have h1 := HLT.out; go_num, HNX.out, HBR.out⟩
          case measure => simp [intOf]; have := HLT.out; omega
    · have hti : (t < n) = False := eq_false hlt
      have hT : decide zs.Nodup = true := decide_eq_true (un_iff.2 fun i j hij hj => HP.out i j hij (by rw [← HN.out] at hj; omega))
      have HT := hid hT
      clear hlt hT
      go_wp2_with fail
      go_ret
      exact ⟨by rw [HT.out]; rfl, HBR.out⟩
end Go.Proofs.Ytmllpednaibeeaa
namespace Go.Inc
open Go.RowKit
/-- The greatest code of the first t. -/
def grT (x : List Int) : Nat → Nat
  | 0 => 0
  | t + 1 => max (grT x t) (cdT x t)
theorem grT_le (x : List Int) : ∀ t i, i < t → cdT x i ≤ grT x t
  | 0, i, h => by omega
  | t + 1, i, h => by
    show _ ≤ max (grT x t) (cdT x t)
    by_cases e : i = t
    · subst e; omega
    · have := grT_le x t i (by omega); omega
theorem grT_bd {x : List Int} {b : Nat} (h : ∀ i, i < x.length → cdT x i ≤ b) : ∀ t, t ≤ x.length → grT x t ≤ b
  | 0, _ => Nat.zero_le _
  | t + 1, ht => by
    have h1 := grT_bd h t (by omega)
    have h2 := h t (by omega)
    show max (grT x t) (cdT x t) ≤ b
    omega
theorem ck_cd {x : List Int} (h : ckT x = 0) {i : Nat} (hi : i < x.length) : cdT x i ≤ 65535 := by
  obtain ⟨-, h2, -⟩ := ckT_zero h
  have := h2 _ (in_cell hi)
  unfold cdT; omega
theorem hdC_step (n : Nat) (c : Nat → Nat) (s : Nat) : hdC (n + 1) c s = hdC n c s + (if c n < s then 1 else 0) := by
  unfold hdC
  rw [List.range_succ, List.filter_append, List.length_append]
  by_cases h : c n < s <;> simp [h]
theorem szC_step (n : Nat) (c : Nat → Nat) (s : Nat) : szC (n + 1) c s = szC n c s + (if c n = s then 1 else 0) := by
  unfold szC
  rw [List.range_succ, List.filter_append, List.length_append]
  by_cases h : c n = s <;> simp [h]
/-- A place, or none. -/
def ov : Option Nat → Int
  | none => -1
  | some i => (i : Int)
/-- A row of places, of which some are empty. -/
def ivl (a : Nat → Option Nat) (n : Nat) : List Value := (List.range n).map fun p => Value.int .i64 (ov (a p))
theorem ivl_len (a : Nat → Option Nat) (n : Nat) : (ivl a n).length = n := by simp [ivl]
theorem ivl_get {a : Nat → Option Nat} {n p : Nat} (h : p < n) : (ivl a n)[p]? = some (.int .i64 (ov (a p))) := by
  unfold ivl
  rw [List.getElem?_map, List.getElem?_range h]; rfl
theorem ivl_set (a : Nat → Option Nat) (n p : Nat) (v : Option Nat) : (ivl a n).set p (.int .i64 (ov v)) = ivl (updF a p v) n := by
  apply List.ext_getElem?
  intro i
  rw [List.getElem?_set, ivl_len]
  by_cases hi : i < n
  · rw [ivl_get hi, ivl_get hi]
    by_cases e : p = i
    · subst e; rw [if_pos rfl, if_pos hi, updF_at]
    · rw [if_neg e, updF_ne _ _ (fun h => e h.symm)]
  · have h1 : (ivl a n)[i]? = none := List.getElem?_eq_none (by rw [ivl_len]; omega)
    have h2 : (ivl (updF a p v) n)[i]? = none := List.getElem?_eq_none (by rw [ivl_len]; omega)
    rw [h1, h2]
    by_cases e : p = i
    · subst e; rw [if_pos rfl, if_neg hi]
    · rw [if_neg e]
theorem ivl_congr {a b : Nat → Option Nat} {n : Nat} (h : ∀ p, p < n → a p = b p) : ivl a n = ivl b n := by
  unfold ivl
  apply List.map_congr_left
  intro p hp
  rw [h p (List.mem_range.1 hp)]
/-- A row of counts. -/
def qvl (q : Nat → Nat) (n : Nat) : List Value := nvals ((List.range n).map q)
theorem qvl_len (q : Nat → Nat) (n : Nat) : (qvl q n).length = n := by simp [qvl, nvals]
theorem qvl_get {q : Nat → Nat} {n p : Nat} (h : p < n) : (qvl q n)[p]? = some (.int .i64 ((q p : Nat) : Int)) := by
  unfold qvl nvals
  rw [List.getElem?_map, List.getElem?_map, List.getElem?_range h]; rfl
theorem qvl_set (q : Nat → Nat) (n p v : Nat) : (qvl q n).set p (.int .i64 ((v : Nat) : Int)) = qvl (updF q p v) n := by
  apply List.ext_getElem?
  intro i
  rw [List.getElem?_set, qvl_len]
  by_cases hi : i < n
  · rw [qvl_get hi, qvl_get hi]
    by_cases e : p = i
    · subst e; rw [if_pos rfl, if_pos hi, updF_at]
    · rw [if_neg e, updF_ne _ _ (fun h => e h.symm)]
  · have h1 : (qvl q n)[i]? = none := List.getElem?_eq_none (by rw [qvl_len]; omega)
    have h2 : (qvl (updF q p v) n)[i]? = none := List.getElem?_eq_none (by rw [qvl_len]; omega)
    rw [h1, h2]
    by_cases e : p = i
    · subst e; rw [if_pos rfl, if_neg hi]
    · rw [if_neg e]
theorem zero_cells (n : Nat) : (madeCells #[Value.int .i64 0] n).toList = qvl (fun _ => 0) n := by
  apply List.ext_getElem?
  intro i
  by_cases h : i < n
  · rw [qvl_get h]; simp [madeCells, h, Nat.mod_one]
  · have h2 : (qvl (fun _ => 0) n)[i]? = none := List.getElem?_eq_none (by rw [qvl_len]; omega)
    rw [h2]; simp [madeCells, h]
end Go.Inc
namespace Go.Proofs.Ytmllpednaibeeaa
open Go.RowKit Go.Inc
set_option maxHeartbeats 1000000 in
theorem refGreatest_any (ok : Nat → Prop) (x : World) (a : Option Addr) (c : Nat) (zs : List Int) (hs : Si ok x a zs) (hi : InT zs) (hl : (zs.length : Int) ≤ 65536) :
    Calls Try.prog 54 #[.slice a zs.length c] x fun e w' => e = .returned (.int .i64 ((grT zs zs.length : Nat) : Int)) ∧ x = w' := by
  have HS := hid hs
  have HI := hid hi
  obtain ⟨n, hn⟩ : ∃ n, n = zs.length := ⟨_, rfl⟩
  have HN := hid hn
  rw [← hn] at hl ⊢
  clear hs hi hn
  go_enter Try.func54, Try.ntmps54
  go_wp2_with fail
  go_loop [3, 4] (fun g i => ∃ t : Nat, t ≤ n ∧ i = .int .i64 (t : Int) ∧ g = .int .i64 ((grT zs t : Nat) : Int)) (fun _ i => n - (intOf i).toNat)
  case atStart => exact ⟨0, Nat.zero_le _, rfl, rfl⟩
  case round =>
    obtain ⟨t, ht, rfl, rfl⟩ := hrel
    by_cases hlt : t < n
    · have hti : (t < n) = True := eq_true hlt
      have HLT := hid hlt
      obtain ⟨b, o, rfl, hc⟩ : ∃ b o, a = some ⟨b, o, none⟩ ∧ x.cell? ⟨b, o + t, none⟩ = some (.int .i64 ((cdT zs t : Nat) : Int)) := by
        rcases HS.out with h | ⟨b, o, h, _, hc⟩
        · have := HN.out; rw [h] at this; simp at this; omega
        · exact ⟨b, o, h, by rw [hc t (by rw [← HN.out]; exact hlt), HI.out.cd (by rw [← HN.out]; exact hlt)]⟩
      obtain ⟨m, hm⟩ : ∃ m, m = grT zs (t + 1) := ⟨_, rfl⟩
      have hmx : max ((grT zs t : Nat) : Int) ((cdT zs t : Nat) : Int) = (m : Int) := by
        rw [hm]; show _ = ((max (grT zs t) (cdT zs t) : Nat) : Int); omega
      have HM := hid hm
      generalize grT zs t = g0 at *
      generalize cdT zs t = y at *
      clear hlt hm
      go_wp2_with fail
      go_round
      case rel => exact ⟨t + 1, HLT.out, by go_num, by rw [HM.out]⟩
      case measure => simp [intOf]; have := HLT.out; omega
    · have hti : (t < n) = False := eq_false hlt
      obtain rfl : t = n := by omega
      clear hlt
      go_wp2_with fail
      go_ret
      exact ⟨rfl, rfl⟩
set_option maxHeartbeats 1000000 in
theorem refBucket_any (ok : Nat → Prop) (x : World) (a : Option Addr) (c : Nat) (zs : List Int) (s : Nat) (hs : Si ok x a zs) (hi : InT zs) (hl : (zs.length : Int) ≤ 65536) :
    Calls Try.prog 55 #[.slice a zs.length c, .int .i64 (s : Int)] x fun e w' => e = .returned (.tuple #[.int .i64 ((hdC zs.length (cdT zs) s : Nat) : Int), .int .i64 ((hdC zs.length (cdT zs) (s + 1) : Nat) : Int)]) ∧ x = w' := by
  have HS := hid hs
  have HI := hid hi
  rw [hdC_succ]
  obtain ⟨n, hn⟩ : ∃ n, n = zs.length := ⟨_, rfl⟩
  have HN := hid hn
  rw [← hn] at hl ⊢
  clear hs hi hn
  go_enter Try.func55, Try.ntmps55
  go_wp2_with fail
  go_loop [6, 7, 8] (fun h m i => ∃ t : Nat, t ≤ n ∧ i = .int .i64 (t : Int) ∧ h = .int .i64 ((hdC t (cdT zs) s : Nat) : Int) ∧ m = .int .i64 ((szC t (cdT zs) s : Nat) : Int)) (fun _ _ i => n - (intOf i).toNat)
  case atStart => exact ⟨0, Nat.zero_le _, rfl, rfl, rfl⟩
  case round =>
    obtain ⟨t, ht, rfl, rfl, rfl⟩ := hrel
    have h8 := hdC_le t (cdT zs) s
    have h9 : hdC t (cdT zs) s + szC t (cdT zs) s ≤ t := by rw [← hdC_succ]; exact hdC_le _ _ _
    by_cases hlt : t < n
    · have hti : (t < n) = True := eq_true hlt
      have HLT := hid hlt
      obtain ⟨b, o, rfl, hc⟩ : ∃ b o, a = some ⟨b, o, none⟩ ∧ x.cell? ⟨b, o + t, none⟩ = some (.int .i64 ((cdT zs t : Nat) : Int)) := by
        rcases HS.out with h | ⟨b, o, h, _, hc⟩
        · have := HN.out; rw [h] at this; simp at this; omega
        · exact ⟨b, o, h, by rw [hc t (by rw [← HN.out]; exact hlt), HI.out.cd (by rw [← HN.out]; exact hlt)]⟩
      have HH := hid (hdC_step t (cdT zs) s)
      have HZ := hid (szC_step t (cdT zs) s)
      generalize hdC t (cdT zs) s = h0 at *
      generalize szC t (cdT zs) s = z0 at *
      generalize cdT zs t = y at *
      have h8b : (h0 : Int) ≤ 65536 := by omega
      have h9b : (z0 : Int) ≤ 65536 := by omega
      rcases Nat.lt_trichotomy y s with h1 | h1 | h1
      · have h1n : (y < s) = True := eq_true h1
        have h1b : ((y : Int) == (s : Int)) = false := by rw [beq_eq_false_iff_ne]; omega
        rw [if_pos h1] at HH
        rw [if_neg (by omega)] at HZ
        clear hlt h1 h8 h9
        go_wp2_with fail
        go_round
        case rel => exact ⟨t + 1, HLT.out, by go_num, by rw [HH.out] <;> go_num, by rw [HZ.out] <;> rfl⟩
        case measure => simp [intOf]; have := HLT.out; omega
      · subst h1
        rw [if_neg (Nat.lt_irrefl _)] at HH
        rw [if_pos rfl] at HZ
        clear hlt h8 h9
        go_wp2_with fail
        go_round
        case rel => exact ⟨t + 1, HLT.out, by go_num, by rw [HH.out] <;> rfl, by rw [HZ.out] <;> go_num⟩
        case measure => simp [intOf]; have := HLT.out; omega
      · have h1n : (y < s) = False := eq_false (by omega)
        have h1b : ((y : Int) == (s : Int)) = false := by rw [beq_eq_false_iff_ne]; omega
        rw [if_neg (by omega)] at HH
        rw [if_neg (by omega)] at HZ
        clear hlt h1 h8 h9
        go_wp2_with fail
        go_round
        case rel => exact ⟨t + 1, HLT.out, by go_num, by rw [HH.out] <;> rfl, by rw [HZ.out] <;> rfl⟩
        case measure => simp [intOf]; have := HLT.out; omega
    · have hti : (t < n) = False := eq_false hlt
      obtain rfl : t = n := by omega
      obtain ⟨h0, hh0⟩ : ∃ h0, h0 = hdC t (cdT zs) s := ⟨_, rfl⟩
      obtain ⟨z0, hz0⟩ : ∃ z0, z0 = szC t (cdT zs) s := ⟨_, rfl⟩
      have HH := hid hh0
      have HZ := hid hz0
      rw [← hh0, ← hz0] at h9 ⊢
      have h9b : (h0 : Int) + (z0 : Int) ≤ 65536 := by omega
      clear hlt h8 h9 hh0 hz0
      go_wp2_with fail
      go_ret2
      exact ⟨by rw [← HH.out, ← HZ.out] <;> go_num, rfl⟩
end Go.Proofs.Ytmllpednaibeeaa
namespace Go.Inc
open Go.RowKit
theorem trR {n : Nat} {c : Nat → Nat} {K : Nat → Bool} : ByR n c K (fun _ _ => True) (fun _ _ => True) :=
  ⟨fun _ _ _ _ _ => trivial, fun _ _ _ _ _ => trivial, fun _ _ _ _ _ _ _ => trivial, fun _ _ _ _ _ _ _ => trivial, fun _ _ _ _ _ _ _ _ => trivial, fun _ _ _ _ _ _ _ _ => trivial, fun _ _ _ _ _ _ _ _ => trivial⟩
/-- A row of which the first t are empty, the others still 0. -/
def fvl (t n : Nat) : List Value := (List.range n).map fun p => Value.int .i64 (if p < t then -1 else 0)
theorem fvl_len (t n : Nat) : (fvl t n).length = n := by simp [fvl]
theorem fvl_get {t n p : Nat} (h : p < n) : (fvl t n)[p]? = some (.int .i64 (if p < t then -1 else 0)) := by
  unfold fvl
  rw [List.getElem?_map, List.getElem?_range h]; rfl
theorem fvl_step {t n : Nat} (ht : t < n) : (fvl t n).set t (.int .i64 (-1)) = fvl (t + 1) n := by
  apply List.ext_getElem?
  intro i
  rw [List.getElem?_set, fvl_len]
  by_cases hi : i < n
  · rw [fvl_get hi, fvl_get hi]
    by_cases e : t = i
    · subst e; rw [if_pos rfl, if_pos hi, if_pos (by omega)]
    · rw [if_neg e]
      by_cases h : i < t
      · rw [if_pos h, if_pos (by omega)]
      · rw [if_neg h, if_neg (by omega)]
  · have h1 : (fvl t n)[i]? = none := List.getElem?_eq_none (by rw [fvl_len]; omega)
    have h2 : (fvl (t + 1) n)[i]? = none := List.getElem?_eq_none (by rw [fvl_len]; omega)
    rw [h1, h2, if_neg (by omega)]
theorem fvl_zero (n : Nat) : qvl (fun _ => 0) n = fvl 0 n := by
  apply List.ext_getElem?
  intro i
  by_cases hi : i < n
  · rw [fvl_get hi, qvl_get hi]; rfl
  · rw [List.getElem?_eq_none (by rw [qvl_len]; omega), List.getElem?_eq_none (by rw [fvl_len]; omega)]
theorem fvl_all (n : Nat) : fvl n n = ivl (fun _ => none) n := by
  apply List.ext_getElem?
  intro i
  by_cases hi : i < n
  · rw [fvl_get hi, ivl_get hi, if_pos hi]; rfl
  · rw [List.getElem?_eq_none (by rw [fvl_len]; omega), List.getElem?_eq_none (by rw [ivl_len]; omega)]
/-- Sowing one more. -/
theorem drop_cons {l : List Nat} {k : Nat} (h : k < l.length) : l.drop k = l.getD k 0 :: l.drop (k + 1) := by
  rw [List.drop_eq_getElem_cons h, List.getD_eq_getElem?_getD, List.getElem?_eq_getElem h]; rfl
theorem isFs_lt {x : List Int} {fs : List Nat} (hf : isFs x fs) {f : Nat} (h : f ∈ fs) : f < x.length ∧ kdT x f = true := by
  have := inF_mem.1 ((hf.2 f).1 h)
  exact ⟨this.2.1, this.2.2.1⟩
/-- What a beginning of sowing leaves, and that there is room for the next one. -/
theorem sow_next {x : List Int} (h : InT x) {fs : List Nat} (hf : isFs x fs) {k : Nat} (hk : k < fs.length) :
    ((sow x.length (cdT x) (fs.drop (k + 1))).2 (cdT x (fs.getD k 0))) < szC x.length (cdT x) (cdT x (fs.getD k 0)) := by
  have hm : fs.getD k 0 ∈ fs := getD_inN hk
  have hl := isFs_lt hf hm
  obtain ⟨h1, h2, -, -⟩ := sow_ok (R := fun _ _ => True) h.txt (fs.drop (k + 1)) (hf.1.sublist (List.drop_sublist _ _)) (fun f hh => isFs_lt hf (List.mem_of_mem_drop hh)) (fun _ _ _ _ _ => trivial) (List.pairwise_of_forall (fun _ _ _ => trivial))
  have hno : ∀ p, (sow x.length (cdT x) (fs.drop (k + 1))).1 p ≠ some (fs.getD k 0) := fun p hp => by
    have h3 := ((h2 p _).1 hp).1
    have h4 := hf.1.sublist (List.drop_sublist k fs)
    rw [drop_cons hk, List.nodup_cons] at h4
    exact h4.1 h3
  have := h1.room hl.1 hno
  simpa using this
/-- What is taken away between the scans. -/
def clrA (n : Nat) (K : Nat → Bool) (a : Nat → Option Nat) (t : Nat) (p : Nat) : Option Nat :=
  if p < t then match a p with | some i => if insS n K i = true then none else some i | none => none else a p
theorem clrA_step {n : Nat} {K : Nat → Bool} {a : Nat → Option Nat} {t : Nat} (v : Option Nat) (hv : v = match a t with | some i => if insS n K i = true then none else some i | none => none) : ∀ p, updF (clrA n K a t) t v p = clrA n K a (t + 1) p := by
  intro p
  unfold clrA
  by_cases e : p = t
  · subst e; rw [updF_at, if_pos (by omega), hv]
  · rw [updF_ne _ _ e]
    by_cases h : p < t
    · rw [if_pos h, if_pos (by omega)]
    · rw [if_neg h, if_neg (by omega)]
theorem clrA_at {n : Nat} {K : Nat → Bool} {a : Nat → Option Nat} {t : Nat} : clrA n K a t t = a t := by unfold clrA; rw [if_neg (Nat.lt_irrefl _)]
theorem clrA_skip {n : Nat} {K : Nat → Bool} {a : Nat → Option Nat} {t : Nat} (h : a t = match a t with | some i => if insS n K i = true then none else some i | none => none) : ∀ p, clrA n K a t p = clrA n K a (t + 1) p := by
  intro p
  rw [← clrA_step (a t) h p]
  by_cases e : p = t
  · subst e; rw [updF_at, clrA_at]
  · rw [updF_ne _ _ e]
/-- Facts of a scan at a place. -/
theorem scan_none {c : Nat → Nat} {ins : Nat → Bool} {st : Nat → Nat} {a0 : Nat → Option Nat} {k : Nat} (h : (scan c ins st a0 k).1 k = none) : scan c ins st a0 (k + 1) = scan c ins st a0 k := by
  show scStep c ins st (scan c ins st a0 k) k = _
  unfold scStep; rw [h]
theorem scan_skip {c : Nat → Nat} {ins : Nat → Bool} {st : Nat → Nat} {a0 : Nat → Option Nat} {k i : Nat} (h : (scan c ins st a0 k).1 k = some i) (hi : ¬ (0 < i ∧ ins (i - 1) = true)) : scan c ins st a0 (k + 1) = scan c ins st a0 k := by
  show scStep c ins st (scan c ins st a0 k) k = _
  unfold scStep; rw [h]; simp only; rw [if_neg hi]
theorem scan_put {c : Nat → Nat} {ins : Nat → Bool} {st : Nat → Nat} {a0 : Nat → Option Nat} {k j : Nat} (h : (scan c ins st a0 k).1 k = some (j + 1)) (hj : ins j = true) :
    scan c ins st a0 (k + 1) = (updF (scan c ins st a0 k).1 (st (c j) + (scan c ins st a0 k).2 (c j)) (some j), updF (scan c ins st a0 k).2 (c j) ((scan c ins st a0 k).2 (c j) + 1)) := by
  show scStep c ins st (scan c ins st a0 k) k = _
  unfold scStep; rw [h]; simp only; rw [Nat.add_sub_cancel, if_pos ⟨by omega, hj⟩]
section
variable {n : Nat} {c : Nat → Nat} {ins : Nat → Bool} {st m : Nat → Nat} {R : Nat → Nat → Prop} {a : Nat → Option Nat} {q : Nat → Nat} {k : Nat}
/-- Where the next one goes: it is empty; all ahead of it in the bucket are filled. -/
theorem ScanI.free (hs : Scan n c ins st) (h : ScanI n c ins st m R a q k) {j : Nat} (hk : a k = some (j + 1)) (hj : ins j = true) :
    j < n ∧ j + 1 < n ∧ q (c j) + m (c j) < szC n c (c j) ∧ st (c j) + q (c j) < n ∧ a (st (c j) + q (c j)) = none ∧ ∀ t, t < q (c j) → ∃ i, a (st (c j) + t) = some i := by
  obtain ⟨hin, -⟩ := h.at_ hk
  have hno : ∀ p, a p ≠ some j := fun p hp => by
    obtain ⟨p', h1, h2, h3⟩ := h.prev p _ hp hj
    have := h.inj p' k _ h3 hk
    omega
  have hr := h.room (show j < n by omega) hno
  have hi := hs.in_ (c j)
  exact ⟨by omega, hin, hr, by omega, h.mid _ _ (Nat.le_refl _) (by omega), fun t ht => by
    obtain ⟨i, h1, -⟩ := h.low _ t ht
    exact ⟨i, h1⟩⟩
end
end Go.Inc
namespace Go.Proofs.Ytmllpednaibeeaa
open Go.RowKit Go.Inc
/-- The order's row and the counts' row. -/
structure OrdS (w : World) (B g1 g2 n G : Nat) (A : List Value) (q : Nat → Nat) : Prop where
  ord : w.ownsRow B 3 1 (.slice (some ⟨g1, 0, none⟩) n n) n A
  put : w.ownsRow B 3 1 (.slice (some ⟨g2, 0, none⟩) G G) G (qvl q G)
theorem OrdS.setO {w : World} {B g1 g2 n G : Nat} {A : List Value} {q : Nat → Nat} (h : OrdS w B g1 g2 n G A q) (hne : g1 ≠ g2) (p : Nat) (v : Int) : OrdS (w.setCell ⟨g1, p, none⟩ (.int .i64 v)) B g1 g2 n G (A.set p (.int .i64 v)) q := by
  have h1 := h.ord.stored p (.int .i64 v)
  exact ⟨h1.1, h.put.kept h1.2 (.inr (by simp [Value.ownBlock]; exact fun e => hne e.symm))⟩
theorem OrdS.setP {w : World} {B g1 g2 n G : Nat} {A : List Value} {q : Nat → Nat} (h : OrdS w B g1 g2 n G A q) (hne : g1 ≠ g2) (s v : Nat) : OrdS (w.setCell ⟨g2, s, none⟩ (.int .i64 (v : Int))) B g1 g2 n G A (updF q s v) := by
  have h1 := h.put.stored s (.int .i64 (v : Int))
  rw [qvl_set] at h1
  exact ⟨h.ord.kept h1.2 (.inr (by simp [Value.ownBlock]; exact hne)), h1.1⟩
theorem OrdS.cellO {w : World} {B g1 g2 n G : Nat} {a : Nat → Option Nat} {q : Nat → Nat} (h : OrdS w B g1 g2 n G (ivl a n) q) {p : Nat} (hp : p < n) : w.cell? ⟨g1, p, none⟩ = some (.int .i64 (ov (a p))) := by
  have h1 := h.ord.cells (g := g1) rfl p _ (ivl_get hp)
  rw [Addr.add_lit] at h1
  simpa using h1
theorem OrdS.cellP {w : World} {B g1 g2 n G : Nat} {A : List Value} {q : Nat → Nat} (h : OrdS w B g1 g2 n G A q) {s : Nat} (hs : s < G) : w.cell? ⟨g2, s, none⟩ = some (.int .i64 ((q s : Nat) : Int)) := by
  have h1 := h.put.cells (g := g2) rfl s _ (qvl_get hs)
  rw [Addr.add_lit] at h1
  simpa using h1
theorem OrdS.drew {w : World} {B g1 g2 n G : Nat} {A : List Value} {q : Nat → Nat} (h : OrdS w B g1 g2 n G A q) : OrdS w.drew B g1 g2 n G A q := ⟨h.ord, h.put⟩
theorem OrdS.le {w : World} {B g1 g2 n G : Nat} {A : List Value} {q : Nat → Nat} (h : OrdS w B g1 g2 n G A q) : B ≤ g1 ∧ B ≤ g2 := by
  constructor
  · rcases h.ord.2 with ⟨h, _⟩ | ⟨g, _, _, h, hb, _⟩
    · cases h
    · cases h; exact hb
  · rcases h.put.2 with ⟨h, _⟩ | ⟨g, _, _, h, hb, _⟩
    · cases h
    · cases h; exact hb
theorem one_row (x : World) (v : Value) : (x.alloc (.cells #[v] 3)).ownsRow x.heap.size 3 1 (.slice (some ⟨x.heap.size, 0, none⟩) 1 1) 1 [v] :=
  ⟨rfl, .inr ⟨x.heap.size, 1, #[v], rfl, Nat.le_refl _, heap_alloc_new x _, Nat.le_refl _, by unfold maxLen; omega, rfl, rfl⟩⟩
set_option maxRecDepth 20000 in
set_option maxHeartbeats 4000000 in
theorem refInduce_any (ok ok' : Nat → Prop) (x : World) (a b : Option Addr) (c d : Nat) (zs : List Int) (fs : List Nat) (hs : Si ok x a zs) (hf : Si ok' x b (zsN fs)) (hck : ckT zs = 0) (hl : (zs.length : Int) ≤ 65536) (hfs : isFs zs fs) :
    Calls Try.prog 35 #[.slice a zs.length c, .slice b fs.length d] x fun e w' => ∃ u, e = .returned u ∧ w'.ownsRow x.heap.size 3 1 u zs.length (nvals (indT zs fs)) ∧ Below x.heap.size x w' := by
  have hI := InT.of hck
  have HI := hid hI
  obtain ⟨n, hn⟩ : ∃ n, n = zs.length := ⟨_, rfl⟩
  have HN := hid hn
  by_cases h1 : n = 1
  · have HE : Hid (indT zs fs = [0]) := hid (by unfold indT; rw [← hn, if_pos h1])
    rw [← hn, h1]
    clear hs hf hck hl hfs hI hn h1
    go_enter Try.func35, Try.ntmps35
    go_wp2_with fail
    go_ret
    exact ⟨_, rfl, by rw [HE.out]; exact one_row x _, (Below.refl _ _).alloc (Nat.le_refl _) _⟩
  · have HFS := hid hfs
    have HCK := hid hck
    have hone : ((n : Int) == 1) = false := by rw [beq_eq_false_iff_ne]; omega
    have H2 : Hid (1 < n) := hid (by have := hI.two (by rw [← hn]; exact h1); omega)
    have HKD := hid (refKinds_any ok x a c zs hs hI.right hl)
    obtain ⟨m, hm⟩ : ∃ m, m = fs.length := ⟨_, rfl⟩
    have HM := hid hm
    have hmn : fs.length ≤ zs.length := by
      have h2 := nodup_le (m := List.range zs.length) hfs.1 (fun f hf => List.mem_range.2 (isFs_lt hfs hf).1)
      rwa [List.length_range] at h2
    obtain ⟨tb, tq, rfl, htx⟩ : ∃ tb tq, a = some ⟨tb, tq, none⟩ ∧ ∀ i, i < n → x.cell? ⟨tb, tq + i, none⟩ = some (.int .i64 ((cdT zs i : Nat) : Int)) := by
      rcases hs with h | ⟨tb, tq, h, _, hc⟩
      · rw [h] at hn; simp at hn; have := H2.out; omega
      · exact ⟨tb, tq, h, fun i hi => by rw [hc i (by rw [← hn]; exact hi), hI.cd (by rw [← hn]; exact hi)]⟩
    obtain ⟨fb, fo, rfl, hfx⟩ : ∃ fb fo, b = some ⟨fb, fo, none⟩ ∧ ∀ k, k < m → x.cell? ⟨fb, fo + k, none⟩ = some (.int .i64 ((fs.getD k 0 : Nat) : Int)) := by
      rcases hf with h | ⟨fb, fo, h, _, hc⟩
      · have h2 := (hfs.2 _).2 (fs_last hI (by rw [← hn]; exact H2.out))
        have h3 : fs = [] := by simpa [zsN] using h
        rw [h3] at h2; cases h2
      · exact ⟨fb, fo, h, fun k hk => by rw [hc k (by rw [zsN_len, ← hm]; exact hk), zsN_get]⟩
    have HTX : Hid (∀ y, Below x.heap.size x y → ∀ i, i < n → y.cell? ⟨tb, tq + i, none⟩ = some (.int .i64 ((cdT zs i : Nat) : Int))) := hid fun y hy i hi => by
      rw [← htx i hi]; exact World.cell?_of_block (hy.block tb (cell_lt (htx i hi)))
    have HFX : Hid (∀ y, Below x.heap.size x y → ∀ k, k < m → y.cell? ⟨fb, fo + k, none⟩ = some (.int .i64 ((fs.getD k 0 : Nat) : Int))) := hid fun y hy k hk => by
      rw [← hfx k hk]; exact World.cell?_of_block (hy.block fb (cell_lt (hfx k hk)))
    have HGR : Hid (∀ y, Below x.heap.size x y → Calls Try.prog 54 #[.slice (some ⟨tb, tq, none⟩) n c] y fun e w' => e = .returned (.int .i64 ((grT zs n : Nat) : Int)) ∧ y = w') := hid fun y hy => by
      have h2 := refGreatest_any _ y _ c zs (hs.below hy) hI hl
      rwa [← hn] at h2
    have HBU : Hid (∀ y, Below x.heap.size x y → ∀ s : Nat, Calls Try.prog 55 #[.slice (some ⟨tb, tq, none⟩) n c, .int .i64 (s : Int)] y fun e w' => e = .returned (.tuple #[.int .i64 ((hdC n (cdT zs) s : Nat) : Int), .int .i64 ((hdC n (cdT zs) (s + 1) : Nat) : Int)]) ∧ y = w') := hid fun y hy s => by
      have h2 := refBucket_any _ y _ c zs s (hs.below hy) hI hl
      rwa [← hn] at h2
    have HG : Hid (∀ i, i < n → cdT zs i < grT zs n + 1) := hid fun i hi => by
      have := grT_le zs n i hi; omega
    have hgb : grT zs n ≤ 65535 := grT_bd (fun i hi => ck_cd hck hi) n (by omega)
    obtain ⟨G, hGe⟩ : ∃ G, G = grT zs n + 1 := ⟨_, rfl⟩
    have hGi : ((grT zs n : Nat) : Int) + 1 = (G : Int) := by omega
    rw [← hGe] at HG
    have hGb : (G : Int) ≤ 65536 := by omega
    have HNZ : Hid (zs.length = n) := hid hn.symm
    rw [← hn] at HKD hl ⊢
    rw [← hm]
    have hmb : (m : Int) ≤ 65536 := by omega
    obtain ⟨i0, hi, hz0, hz1, hz2⟩ := info_parts infoIntS
    have HINF := hid (And.intro hi (And.intro hz0 (And.intro hz1 hz2)))
    clear hs hf hck hfs hI hn h1 hm hmn htx hfx hgb hGe hi hz0 hz1 hz2
    go_enter Try.func35, Try.ntmps35
    go_wp2_with fail
    refine HKD.out.mono ?_
    rintro e w1 ⟨uk, rfl, hk, hb1⟩
    obtain ⟨ka, kc', rfl, -, -, -, -, hkb⟩ := Bl.owned hk
    obtain ⟨kb, ko, rfl, hkx⟩ : ∃ kb ko, ka = some ⟨kb, ko, none⟩ ∧ ∀ i, i < n → w1.cell? ⟨kb, ko + i, none⟩ = some (.bool (kdT zs i)) := by
      rcases hkb with h | ⟨kb, ko, h, _, hc⟩
      · have h2 := kdTo_len zs n
        rw [h] at h2; simp at h2; have := H2.out; omega
      · exact ⟨kb, ko, h, fun i hi => by rw [hc i (by rw [kdTo_len]; exact hi), kdTo_get hi]⟩
    have HKX : Hid (∀ y, Below w1.heap.size w1 y → ∀ i, i < n → y.cell? ⟨kb, ko + i, none⟩ = some (.bool (kdT zs i))) := hid fun y hy i hi => by
      rw [← hkx i hi]; exact World.cell?_of_block (hy.block kb (cell_lt (hkx i hi)))
    have HB1 := hid hb1
    have HX : Hid (∀ y, Below w1.heap.size w1 y → Below x.heap.size x y) := hid fun y hy => hb1.trans (hy.mono hb1.size)
    rw [kdTo_len]
    clear hk hb1 hkb hkx HKD
    go_wp2_with (refine wpList_make_full _ rfl _ _ 22 rfl w1.heap.size 3 i0 (.int .i64 0) 1 Try.underlying22 HINF.out.1 HINF.out.2.1 HINF.out.2.2.1 .i64 .i64 _ _ n rfl rfl rfl rfl (by rw [HINF.out.2.2.2]; omega) (by unfold maxLen; omega) (Nat.le_refl _) ?_)
    intro w2 ho2 hg2
    rw [zero_cells, fvl_zero] at ho2
    obtain ⟨g1, hg1⟩ : ∃ g1, g1 = w1.heap.size := ⟨_, rfl⟩
    have HG1 := hid hg1
    rw [← hg1] at ho2 HKX HX ⊢
    have hbw : Below g1 w1 w2 := ⟨hg2.os, hg2.tape, hg2.output, hg2.size, fun i hi => hg2.block i (by rw [← hg1]; exact hi) (by simp)⟩
    have HO2 := hid ho2
    have HB2 := hid hbw
    clear ho2 hg2 hbw hg1
    go_wp2_with fail
    go_loopw [7] (fun i wr => ∃ t : Nat, t ≤ n ∧ i = .int .i64 (t : Int) ∧ wr.ownsRow g1 3 1 (.slice (some ⟨g1, 0, none⟩) n n) n (fvl t n) ∧ Below g1 w1 wr) (fun i _ => n - (intOf i).toNat)
    case atStart => exact ⟨0, Nat.zero_le _, rfl, HO2.out, HB2.out⟩
    case round =>
      clear HO2 HB2
      obtain ⟨t, ht, rfl, ho, hb⟩ := hrel
      have HO := hid ho
      have HB := hid hb
      clear ho hb
      by_cases hlt : t < n
      · have hti : (t < n) = True := eq_true hlt
        have HLT := hid hlt
        have j1 : wr.cell? ⟨g1, t, none⟩ = some (.int .i64 0) := by
          have h := HO.out.cells (g := g1) rfl t _ (fvl_get hlt)
          rw [Addr.add_lit, if_neg (Nat.lt_irrefl _)] at h
          simpa using h
        have f1 := HO.out.frozenAt t
        have HO2 := hid (HO.out.stored t (.int .i64 (-1)))
        rw [fvl_step hlt] at HO2
        have HB2 := hid (HB.out.setCell (p := ⟨g1, t, none⟩) (Nat.le_refl _) (.int .i64 (-1)))
        clear hlt HO HB
        go_wp2_with fail
        go_roundw
        case rel => exact ⟨t + 1, HLT.out, by go_num, HO2.out.1, HB2.out⟩
        case measure => simp [intOf]; have := HLT.out; omega
      · have hti : (t < n) = False := eq_false hlt
        obtain rfl : n = t := by omega
        have ho3 := HO.out
        rw [fvl_all] at ho3
        have HO3 := hid ho3
        clear hlt HO ho3
        have HGR1 := hid (HGR.out wr (HX.out wr HB.out))
        go_wp2_with fail
        refine HGR1.out.mono ?_
        rintro e w' ⟨rfl, rfl⟩
        have hgw : G ≤ 65536 := by omega
        have HGW := hid hgw
        clear HGR1 hgw
        go_wp2_with (refine wpList_make_full _ rfl _ _ 22 rfl g1 3 i0 (.int .i64 0) 1 Try.underlying22 HINF.out.1 HINF.out.2.1 HINF.out.2.2.1 .i64 .i64 _ _ G rfl rfl rfl rfl (by rw [HINF.out.2.2.2]; have := HGW.out; omega) (by have := HGW.out; unfold maxLen; omega) (by have := HB.out.size; rw [HG1.out]; exact this) ?_)
        intro w3 ho3 hg3
        rw [zero_cells] at ho3
        obtain ⟨g2, hg2⟩ : ∃ g2, g2 = wr.heap.size := ⟨_, rfl⟩
        rw [← hg2] at ho3 ⊢
        have HNE : Hid (g1 ≠ g2) := hid (by
          rcases HO3.out.2 with ⟨h, _⟩ | ⟨g, _, _, h, _, hh, _⟩
          · cases h
          · cases h
            rw [hg2]; exact Nat.ne_of_lt (row_lt hh))
        have HS3 : Hid (OrdS w3 g1 g1 g2 n G (ivl (sow n (cdT zs) (fs.drop m)).1 n) (sow n (cdT zs) (fs.drop m)).2) := hid (by
          rw [HM.out, List.drop_length]
          exact ⟨HO3.out.kept hg3 (.inr (by simp [Value.ownBlock])), ho3⟩)
        have HB3 : Hid (Below g1 w1 w3) := hid (HB.out.trans ⟨hg3.os, hg3.tape, hg3.output, hg3.size, fun i hi => hg3.block i (by have := HB.out.size; rw [← HG1.out] at this; omega) (by simp)⟩)
        clear ho3 hg3 hg2 HB HO3
        go_wp2_with fail
        go_loopw [9, 10, 11, 12] (fun kk _ _ _ wr => ∃ j : Nat, j ≤ m ∧ kk = .int .i64 ((j : Int) - 1) ∧ OrdS wr g1 g1 g2 n G (ivl (sow n (cdT zs) (fs.drop j)).1 n) (sow n (cdT zs) (fs.drop j)).2 ∧ Below g1 w1 wr) (fun kk _ _ _ _ => ((intOf kk) + 1).toNat)
        case atStart => exact ⟨m, Nat.le_refl _, by go_num, HS3.out, HB3.out⟩
        case round =>
          clear HS3 HB3
          obtain ⟨j, hj, rfl, hs3, hb3⟩ := hrel
          have HS3 := hid hs3
          have HB3 := hid hb3
          clear hs3 hb3
          cases j with
          | zero =>
            rw [List.drop_zero] at HS3
            obtain ⟨h0, -, -, -⟩ := sow_ok (R := fun _ _ => True) HI.out.txt fs HFS.out.1 (fun f hh => isFs_lt HFS.out hh) (fun _ _ _ _ _ => trivial) (List.pairwise_of_forall (fun _ _ _ => trivial))
            have HSC := hid (ScanI.scan HI.out.txt.scanL (trR.scanL HI.out.txt) h0)
            rw [← HN.out] at HSC
            have HTS := hid HI.out.txt.scanL
            rw [← HN.out] at HTS
            obtain ⟨a0, ha0⟩ : ∃ a0, a0 = (sow n (cdT zs) fs).1 := ⟨_, rfl⟩
            have HA0 := hid ha0
            rw [← ha0] at HSC
            have HO := hid HS3.out.ord
            rw [← ha0] at HO
            clear h0 ha0 hj HS3
            go_wp2_with fail
            go_loopw [13, 14, 15, 16] (fun kk _ _ _ wr => ∃ t : Nat, t ≤ n ∧ kk = .int .i64 (t : Int) ∧ wr.ownsRow g1 3 1 (.slice (some ⟨g1, 0, none⟩) n n) n (ivl (scan (cdT zs) (insL (kdT zs)) (hdC n (cdT zs)) a0 t).1 n) ∧ Below g1 w1 wr) (fun kk _ _ _ _ => n - (intOf kk).toNat)
            case atStart => exact ⟨0, Nat.zero_le _, rfl, HO.out, HB3.out⟩
            case round =>
              clear HO HB3
              obtain ⟨t, ht, rfl, ho, hb3⟩ := hrel
              have HO := hid ho
              have HB3 := hid hb3
              clear ho hb3
              by_cases hlt : t < n
              · have hti : (t < n) = True := eq_true hlt
                have HLT := hid hlt
                have hsc := HSC.out t
                obtain ⟨A, hA⟩ : ∃ A, A = (scan (cdT zs) (insL (kdT zs)) (hdC n (cdT zs)) a0 t).1 := ⟨_, rfl⟩
                obtain ⟨Q, hQ⟩ : ∃ Q, Q = (scan (cdT zs) (insL (kdT zs)) (hdC n (cdT zs)) a0 t).2 := ⟨_, rfl⟩
                have HA := hid hA
                have HQ := hid hQ
                rw [← hA] at HO
                rw [← hA, ← hQ] at hsc
                have hcell : ∀ p, p < n → wr.cell? ⟨g1, p, none⟩ = some (.int .i64 (ov (A p))) := fun p hp => by
                  have h := HO.out.cells (g := g1) rfl p _ (ivl_get hp)
                  rw [Addr.add_lit] at h
                  simpa using h
                have HCE := hid hcell
                have hct := hcell t hlt
                have HSC9 := hid hsc
                clear hA hQ hcell hlt hsc
                cases hv : A t with
                | none =>
                  rw [hv] at hct
                  have hct' : wr.cell? ⟨g1, t, none⟩ = some (.int .i64 (-1)) := hct
                  have HSK := hid (scan_none (c := cdT zs) (ins := insL (kdT zs)) (st := hdC n (cdT zs)) (a0 := a0) (k := t) (by rw [← HA.out]; exact hv))
                  clear hct hv HCE HSC9
                  go_wp2_with fail
                  go_roundw
                  case rel => exact ⟨t + 1, HLT.out, by go_num, by rw [HSK.out, ← HA.out]; exact HO.out, HB3.out⟩
                  case measure => simp [intOf]; have := HLT.out; omega
                | some i =>
                  rw [hv] at hct
                  cases i with
                  | zero =>
                    have hct' : wr.cell? ⟨g1, t, none⟩ = some (.int .i64 0) := hct
                    have HSK := hid (scan_skip (c := cdT zs) (ins := insL (kdT zs)) (st := hdC n (cdT zs)) (a0 := a0) (k := t) (i := 0) (by rw [← HA.out]; exact hv) (by omega))
                    clear hct hv HCE HSC9
                    go_wp2_with fail
                    go_roundw
                    case rel => exact ⟨t + 1, HLT.out, by go_num, by rw [HSK.out, ← HA.out]; exact HO.out, HB3.out⟩
                    case measure => simp [intOf]; have := HLT.out; omega
                  | succ j =>
                    obtain ⟨h, hh⟩ : ∃ h : Nat, h = j + 1 := ⟨_, rfl⟩
                    have hct' : wr.cell? ⟨g1, t, none⟩ = some (.int .i64 (h : Int)) := by rw [hh]; exact hct
                    have hj1 : (h : Int) - 1 = (j : Int) := by omega
                    have hjn : j < n := by have := (HSC9.out.at_ hv).1; omega
                    have hjN : (j < n) = True := eq_true hjn
                    have hjb : (j : Int) < (n : Int) := by omega
                    have hj0 : decide ((j : Int) < 0) = false := decide_eq_false (by omega)
                    have hkc := HKX.out wr HB3.out j hjn
                    have HV := hid hv
                    cases hK : kdT zs j with
                    | true =>
                      rw [hK] at hkc
                      have HSK := hid (scan_skip (c := cdT zs) (ins := insL (kdT zs)) (st := hdC n (cdT zs)) (a0 := a0) (k := t) (i := j + 1) (by rw [← HA.out]; exact hv) (by rw [Nat.add_sub_cancel, insL_iff, hK]; simp))
                      clear hct hv HCE HSC9 hjn hh hK
                      go_wp2_with fail
                      go_roundw
                      case rel => exact ⟨t + 1, HLT.out, by go_num, by rw [HSK.out, ← HA.out]; exact HO.out, HB3.out⟩
                      case measure => simp [intOf]; have := HLT.out; omega
                    | false =>
                      rw [hK] at hkc
                      have hins : insL (kdT zs) j = true := insL_iff.2 hK
                      have HPU := hid (scan_put (c := cdT zs) (ins := insL (kdT zs)) (st := hdC n (cdT zs)) (a0 := a0) (k := t) (by rw [← HA.out]; exact hv) hins)
                      obtain ⟨-, -, hf1, hf2, hf3, hf4⟩ := HSC9.out.free HTS.out hv hins
                      have htc := HTX.out wr (HX.out wr HB3.out) j hjn
                      have HBK := hid (HBU.out wr (HX.out wr HB3.out) (cdT zs j))
                      obtain ⟨s, hs⟩ : ∃ s, s = cdT zs j := ⟨_, rfl⟩
                      rw [← hs] at htc HBK hf1 hf2 hf3 hf4
                      have HS := hid hs
                      obtain ⟨hd0, hhd⟩ : ∃ hd0, hd0 = hdC n (cdT zs) s := ⟨_, rfl⟩
                      rw [← hhd] at HBK hf2 hf3 hf4
                      have HHD := hid hhd
                      obtain ⟨y, hy⟩ : ∃ y, y = Q s := ⟨_, rfl⟩
                      rw [← hy] at hf1 hf2 hf3 hf4
                      have HY := hid hy
                      have HF2 := hid hf2
                      have HF3 := hid hf3
                      have HF4 := hid hf4
                      generalize hdC n (cdT zs) (s + 1) = tl at *
                      clear hct hv HSC9 hh hK hins hf1 hf2 hf3 hf4 hs hhd hy
                      go_wp2_with fail
                      refine HBK.out.mono ?_
                      rintro e w' ⟨rfl, rfl⟩
                      clear HBK
                      go_wp2_with fail
                      go_loop [15] (fun v => ∃ r : Nat, r ≤ y ∧ v = .int .i64 ((hd0 + r : Nat) : Int)) (fun v => hd0 + y - (intOf v).toNat)
                      case atStart => exact ⟨0, Nat.zero_le _, by go_num⟩
                      case round =>
                        obtain ⟨r, hr, rfl⟩ := hrel
                        obtain ⟨e0, he0⟩ : ∃ e0, e0 = hd0 + r := ⟨_, rfl⟩
                        rw [← he0]
                        have hen : e0 < n := by have := HF2.out; omega
                        have heN : (e0 < n) = True := eq_true hen
                        have heb : (e0 : Int) < (n : Int) := by omega
                        have hce := HCE.out e0 hen
                        by_cases hry : r < y
                        · obtain ⟨i, hi⟩ := HF4.out r hry
                          rw [← he0] at hi
                          rw [hi] at hce
                          have hce' : wr.cell? ⟨g1, e0, none⟩ = some (.int .i64 (i : Int)) := hce
                          have hi0 : decide ((0 : Int) ≤ (i : Int)) = true := decide_eq_true (by omega)
                          have HR9 : Hid (e0 = hd0 + r ∧ r < y) := hid ⟨he0, hry⟩
                          clear hce hi hry he0 hen hr
                          go_wp2_with fail
                          go_round
                          case rel => exact ⟨r + 1, HR9.out.2, by rw [HR9.out.1] <;> go_num⟩
                          case measure => simp [intOf]; have := HR9.out; omega
                        · have hre : e0 = hd0 + y := by omega
                          rw [← hre] at HF3
                          rw [HF3.out] at hce
                          have hce' : wr.cell? ⟨g1, e0, none⟩ = some (.int .i64 (-1)) := hce
                          have f1 := HO.out.frozenAt e0
                          have HO4 := hid (HO.out.stored e0 (.int .i64 (j : Int)))
                          have hset := ivl_set A n e0 (some j)
                          rw [show ov (some j) = (j : Int) from rfl] at hset
                          rw [hset] at HO4
                          have HB4 := hid (HB3.out.setCell (p := ⟨g1, e0, none⟩) (Nat.le_refl _) (.int .i64 (j : Int)))
                          have HRE := hid hre
                          clear hce hre hry he0 hen hr hset HO HB3
                          go_wp2_with fail
                          go_roundw
                          case rel => exact ⟨t + 1, HLT.out, by go_num, by
                            rw [HPU.out]
                            show World.ownsRow _ g1 3 1 _ n (ivl (updF (scan (cdT zs) (insL (kdT zs)) (hdC n (cdT zs)) a0 t).1 (hdC n (cdT zs) (cdT zs j) + (scan (cdT zs) (insL (kdT zs)) (hdC n (cdT zs)) a0 t).2 (cdT zs j)) (some j)) n)
                            rw [← HA.out, ← HQ.out, ← HS.out, ← HHD.out, ← HY.out, ← HRE.out]
                            exact HO4.out.1, HB4.out⟩
                          case measure => simp [intOf]; have := HLT.out; omega
              · have hti : (t < n) = False := eq_false hlt
                obtain rfl : n = t := by omega
                have hpt : ∀ p i, (scan (cdT zs) (insL (kdT zs)) (hdC n (cdT zs)) a0 n).1 p = some i → i < n := fun p i h => ((HSC.out n).at_ h).1
                have HPT := hid hpt
                have HSO : Hid (SowOk n (cdT zs) (kdT zs) (fun _ _ => True) fs) := hid ⟨HFS.out.1, fun j => by rw [HFS.out.2, ← ms_fs, ← HN.out], List.pairwise_of_forall (fun _ _ _ => trivial)⟩
                have hTx := HI.out.txt
                rw [← HN.out] at hTx
                have HTX9 := hid hTx
                have HSC2 := hid (ScanI.scan hTx.scanS (trR.scanS hTx) (left1_ok hTx trR HSO.out H2.out))
                have HTS2 := hid hTx.scanS
                have HIND := hid (indF_ok hTx trR HSO.out H2.out)
                have HINE : Hid (indT zs fs = indF n (cdT zs) (kdT zs) fs) := hid (by unfold indT; rw [← HN.out, if_neg (by have := H2.out; omega)])
                obtain ⟨P1, hP1⟩ : ∃ P1, P1 = (scan (cdT zs) (insL (kdT zs)) (hdC n (cdT zs)) a0 n).1 := ⟨_, rfl⟩
                have HP1 := hid hP1
                rw [← hP1] at HO HPT
                have HLF : Hid (∀ p, p < n → left1 n (cdT zs) (kdT zs) fs (n - 1 - p) = clrA n (kdT zs) P1 n p) := hid fun p hp => by
                  unfold left1 clrA pass1
                  rw [if_pos (by omega), if_pos hp, show n - 1 - (n - 1 - p) = p by omega, ← HA0.out, ← HP1.out]
                  cases P1 p <;> rfl
                obtain ⟨a1, ha1⟩ : ∃ a1, a1 = left1 n (cdT zs) (kdT zs) fs := ⟨_, rfl⟩
                have HA1 := hid ha1
                rw [← ha1] at HSC2 HLF
                have HO9 : Hid (wr.ownsRow g1 3 1 (.slice (some ⟨g1, 0, none⟩) n n) n (ivl (clrA n (kdT zs) P1 0) n)) := hid HO.out
                clear hlt hP1 HSC hpt HTS hTx ha1 HO
                go_wp2_with fail
                go_loopw [17] (fun kk wr => ∃ t : Nat, t ≤ n ∧ kk = .int .i64 (t : Int) ∧ wr.ownsRow g1 3 1 (.slice (some ⟨g1, 0, none⟩) n n) n (ivl (clrA n (kdT zs) P1 t) n) ∧ Below g1 w1 wr) (fun kk _ => n - (intOf kk).toNat)
                case atStart => exact ⟨0, Nat.zero_le _, rfl, HO9.out, HB3.out⟩
                case round =>
                  clear HO9 HB3
                  obtain ⟨t, ht, rfl, ho, hb3⟩ := hrel
                  have HO := hid ho
                  have HB3 := hid hb3
                  clear ho hb3
                  by_cases hlt : t < n
                  · have hti : (t < n) = True := eq_true hlt
                    have HLT := hid hlt
                    have hct := HO.out.cells (g := g1) rfl t _ (ivl_get hlt)
                    rw [Addr.add_lit, clrA_at, Nat.zero_add] at hct
                    have f1 := HO.out.frozenAt t
                    cases hv : P1 t with
                    | none =>
                      rw [hv] at hct
                      have hct' : wr.cell? ⟨g1, t, none⟩ = some (.int .i64 (-1)) := hct
                      have HSK := hid (ivl_congr (n := n) fun p _ => clrA_skip (n := n) (K := kdT zs) (a := P1) (t := t) (by rw [hv]) p)
                      clear hct hv hlt
                      go_wp2_with fail
                      go_roundw
                      case rel => exact ⟨t + 1, HLT.out, by go_num, by rw [← HSK.out]; exact HO.out, HB3.out⟩
                      case measure => simp [intOf]; have := HLT.out; omega
                    | some i =>
                      rw [hv] at hct
                      have hct' : wr.cell? ⟨g1, t, none⟩ = some (.int .i64 (i : Int)) := hct
                      have hin := HPT.out t i hv
                      have hiN : (i < n) = True := eq_true hin
                      have hib : (i : Int) < (n : Int) := by omega
                      have hi0 : decide ((0 : Int) ≤ (i : Int)) = true := decide_eq_true (by omega)
                      have hkc := HKX.out wr HB3.out i hin
                      cases hK : kdT zs i with
                      | false =>
                        rw [hK] at hkc
                        have HSK := hid (ivl_congr (n := n) fun p _ => clrA_skip (n := n) (K := kdT zs) (a := P1) (t := t) (by rw [hv]; simp only; rw [if_neg (by rw [insS_iff, hK]; simp)]) p)
                        clear hct hv hlt hK hin
                        go_wp2_with fail
                        go_roundw
                        case rel => exact ⟨t + 1, HLT.out, by go_num, by rw [← HSK.out]; exact HO.out, HB3.out⟩
                        case measure => simp [intOf]; have := HLT.out; omega
                      | true =>
                        rw [hK] at hkc
                        by_cases hil : i = n - 1
                        · have hie : ((i : Int) == (n : Int) - 1) = true := by rw [beq_iff_eq]; omega
                          have hie2 : ((i : Int) != (n : Int) - 1) = false := by rw [bne, hie]; rfl
                          have HSK := hid (ivl_congr (n := n) fun p _ => clrA_skip (n := n) (K := kdT zs) (a := P1) (t := t) (by rw [hv]; simp only; rw [if_neg (by rw [insS_iff]; exact fun h => h.2 hil)]) p)
                          clear hct hv hlt hK hin hil
                          go_wp2_with fail
                          go_roundw
                          case rel => exact ⟨t + 1, HLT.out, by go_num, by rw [← HSK.out]; exact HO.out, HB3.out⟩
                          case measure => simp [intOf]; have := HLT.out; omega
                        · have hie : ((i : Int) == (n : Int) - 1) = false := by rw [beq_eq_false_iff_ne]; omega
                          have hie2 : ((i : Int) != (n : Int) - 1) = true := by rw [bne, hie]; rfl
                          have HO4 := hid (HO.out.stored t (.int .i64 (-1)))
                          have hset := ivl_set (clrA n (kdT zs) P1 t) n t none
                          rw [show ov none = -1 from rfl] at hset
                          rw [hset, ivl_congr (n := n) fun p _ => clrA_step (n := n) (K := kdT zs) (a := P1) (t := t) none (by rw [hv]; simp only; rw [if_pos (insS_iff.2 ⟨hK, hil⟩)]) p] at HO4
                          have HB4 := hid (HB3.out.setCell (p := ⟨g1, t, none⟩) (Nat.le_refl _) (.int .i64 (-1)))
                          clear hct hv hlt hK hin hil hset HO HB3
                          go_wp2_with fail
                          go_roundw
                          case rel => exact ⟨t + 1, HLT.out, by go_num, HO4.out.1, HB4.out⟩
                          case measure => simp [intOf]; have := HLT.out; omega
                  · have hti : (t < n) = False := eq_false hlt
                    obtain rfl : n = t := by omega
                    have HGR2 := hid (HGR.out wr (HX.out wr HB3.out))
                    clear hlt
                    go_wp2_with fail
                    refine HGR2.out.mono ?_
                    rintro e w' ⟨rfl, rfl⟩
                    clear HGR2
                    go_wp2_with (refine wpList_make_full _ rfl _ _ 22 rfl g1 3 i0 (.int .i64 0) 1 Try.underlying22 HINF.out.1 HINF.out.2.1 HINF.out.2.2.1 .i64 .i64 _ _ G rfl rfl rfl rfl (by rw [HINF.out.2.2.2]; have := HGW.out; omega) (by have := HGW.out; unfold maxLen; omega) (by have := HB3.out.size; rw [HG1.out]; exact this) ?_)
                    intro w5 ho3 hg3
                    rw [zero_cells] at ho3
                    obtain ⟨g3, hg2⟩ : ∃ g3, g3 = wr.heap.size := ⟨_, rfl⟩
                    rw [← hg2] at ho3 ⊢
                    have HNE3 : Hid (g1 ≠ g3) := hid (by
                      rcases HO.out.2 with ⟨h, _⟩ | ⟨g, _, _, h, _, hh, _⟩
                      · cases h
                      · cases h
                        rw [hg2]; exact Nat.ne_of_lt (row_lt hh))
                    have HS5 : Hid (OrdS w5 g1 g1 g3 n G (ivl (fun p => (scan (cdT zs) (insS n (kdT zs)) (stS n (cdT zs)) a1 0).1 (n - 1 - p)) n) (scan (cdT zs) (insS n (kdT zs)) (stS n (cdT zs)) a1 0).2) := hid (by
                      refine ⟨?_, ho3⟩
                      rw [ivl_congr (n := n) (a := fun p => (scan (cdT zs) (insS n (kdT zs)) (stS n (cdT zs)) a1 0).1 (n - 1 - p)) (b := clrA n (kdT zs) P1 n) fun p hp => HLF.out p hp]
                      exact HO.out.kept hg3 (.inr (by simp [Value.ownBlock])))
                    have HB5 : Hid (Below g1 w1 w5) := hid (HB3.out.trans ⟨hg3.os, hg3.tape, hg3.output, hg3.size, fun i hi => hg3.block i (by have := HB3.out.size; rw [← HG1.out] at this; omega) (by simp)⟩)
                    clear ho3 hg3 hg2 HB3 HO
                    go_wp2_with fail
                    go_loopw [18, 19, 20, 21] (fun kk _ _ _ wr => ∃ t : Nat, t ≤ n ∧ kk = .int .i64 ((n : Int) - 1 - (t : Int)) ∧ OrdS wr g1 g1 g3 n G (ivl (fun p => (scan (cdT zs) (insS n (kdT zs)) (stS n (cdT zs)) a1 t).1 (n - 1 - p)) n) (scan (cdT zs) (insS n (kdT zs)) (stS n (cdT zs)) a1 t).2 ∧ Below g1 w1 wr) (fun kk _ _ _ _ => ((intOf kk) + 1).toNat)
                    case atStart => exact ⟨0, Nat.zero_le _, by go_num, HS5.out, HB5.out⟩
                    case round =>
                      clear HS5 HB5
                      obtain ⟨t, ht, rfl, hs5, hb5⟩ := hrel
                      have HS5 := hid hs5
                      have HB5 := hid hb5
                      clear hs5 hb5
                      by_cases hlt : t < n
                      · obtain ⟨p, hp⟩ : ∃ p : Nat, p = n - 1 - t := ⟨_, rfl⟩
                        have hpe : (n : Int) - 1 - (t : Int) = (p : Int) := by omega
                        rw [hpe]
                        have HLT := hid hlt
                        have HPE := hid hp
                        have hpn : p < n := by omega
                        have hpN : (p < n) = True := eq_true hpn
                        have hpb : (p : Int) < (n : Int) := by omega
                        have hp0 : decide ((0 : Int) ≤ (p : Int)) = true := decide_eq_true (by omega)
                        have hsc := HSC2.out t
                        obtain ⟨A, hA⟩ : ∃ A, A = (scan (cdT zs) (insS n (kdT zs)) (stS n (cdT zs)) a1 t).1 := ⟨_, rfl⟩
                        obtain ⟨Q, hQ⟩ : ∃ Q, Q = (scan (cdT zs) (insS n (kdT zs)) (stS n (cdT zs)) a1 t).2 := ⟨_, rfl⟩
                        have HA := hid hA
                        have HQ := hid hQ
                        rw [← hA, ← hQ] at HS5 hsc
                        have hct := HS5.out.cellO hpn
                        rw [show n - 1 - p = t by omega] at hct
                        have HSC9 := hid hsc
                        have HRP : Hid ((p : Int) - 1 = (n : Int) - 1 - ((t + 1 : Nat) : Int)) := hid (by omega)
                        clear hA hQ hlt hsc hpe
                        cases hv : A t with
                        | none =>
                          rw [hv] at hct
                          have hct' : wr.cell? ⟨g1, p, none⟩ = some (.int .i64 (-1)) := hct
                          have HSK := hid (scan_none (c := cdT zs) (ins := insS n (kdT zs)) (st := stS n (cdT zs)) (a0 := a1) (k := t) (by rw [← HA.out]; exact hv))
                          clear hct hv HSC9 hp hpn
                          go_wp2_with fail
                          go_roundw
                          case rel => exact ⟨t + 1, HLT.out, by rw [← HRP.out] <;> go_num, by rw [HSK.out, ← HA.out, ← HQ.out]; exact HS5.out, HB5.out⟩
                          case measure => simp [intOf]
                        | some i =>
                          rw [hv] at hct
                          cases i with
                          | zero =>
                            have hct' : wr.cell? ⟨g1, p, none⟩ = some (.int .i64 0) := hct
                            have HSK := hid (scan_skip (c := cdT zs) (ins := insS n (kdT zs)) (st := stS n (cdT zs)) (a0 := a1) (k := t) (i := 0) (by rw [← HA.out]; exact hv) (by omega))
                            clear hct hv HSC9 hp hpn
                            go_wp2_with fail
                            go_roundw
                            case rel => exact ⟨t + 1, HLT.out, by rw [← HRP.out] <;> go_num, by rw [HSK.out, ← HA.out, ← HQ.out]; exact HS5.out, HB5.out⟩
                            case measure => simp [intOf]
                          | succ j =>
                            obtain ⟨h, hh⟩ : ∃ h : Nat, h = j + 1 := ⟨_, rfl⟩
                            have hct' : wr.cell? ⟨g1, p, none⟩ = some (.int .i64 (h : Int)) := by rw [hh]; exact hct
                            have hj1 : (h : Int) - 1 = (j : Int) := by omega
                            have hjn1 : j + 1 < n := (HSC9.out.at_ hv).1
                            have hjn : j < n := by omega
                            have hjN : (j < n) = True := eq_true hjn
                            have hjb : (j : Int) < (n : Int) := by omega
                            have hj0 : decide ((j : Int) < 0) = false := decide_eq_false (by omega)
                            have hkc := HKX.out wr HB5.out j hjn
                            cases hK : kdT zs j with
                            | false =>
                              rw [hK] at hkc
                              have HSK := hid (scan_skip (c := cdT zs) (ins := insS n (kdT zs)) (st := stS n (cdT zs)) (a0 := a1) (k := t) (i := j + 1) (by rw [← HA.out]; exact hv) (by rw [Nat.add_sub_cancel, insS_iff, hK]; simp))
                              clear hct hv HSC9 hjn hh hK hp hpn hjn1
                              go_wp2_with fail
                              go_roundw
                              case rel => exact ⟨t + 1, HLT.out, by rw [← HRP.out] <;> go_num, by rw [HSK.out, ← HA.out, ← HQ.out]; exact HS5.out, HB5.out⟩
                              case measure => simp [intOf]
                            | true =>
                              rw [hK] at hkc
                              have hins : insS n (kdT zs) j = true := insS_iff.2 ⟨hK, by omega⟩
                              have HPU := hid (scan_put (c := cdT zs) (ins := insS n (kdT zs)) (st := stS n (cdT zs)) (a0 := a1) (k := t) (by rw [← HA.out]; exact hv) hins)
                              obtain ⟨-, -, hf1, hf2, -, -⟩ := HSC9.out.free HTS2.out hv hins
                              have HXR := hid (HX.out wr HB5.out)
                              have htc := HTX.out wr HXR.out j hjn
                              have hsg := HG.out _ hjn
                              have HBK := hid (HBU.out wr HXR.out (cdT zs j))
                              obtain ⟨s, hs⟩ : ∃ s, s = cdT zs j := ⟨_, rfl⟩
                              rw [← hs] at htc HBK hf1 hf2 hsg
                              have HS := hid hs
                              have hhd := hdC_succ n (cdT zs) s
                              have hhl := hdC_le n (cdT zs) (s + 1)
                              have hst : stS n (cdT zs) s = n - hdC n (cdT zs) (s + 1) := rfl
                              obtain ⟨y, hy⟩ : ∃ y, y = Q s := ⟨_, rfl⟩
                              rw [← hy] at hf1 hf2
                              have HY := hid hy
                              have hcp := HS5.out.cellP hsg
                              rw [← hy] at hcp
                              have f2 := HS5.out.put.frozenAt s
                              have HS6 := hid (HS5.out.setP HNE3.out s (y + 1))
                              have HB6 := hid (HB5.out.setCell (p := ⟨g3, s, none⟩) (HS5.out.le.2) (.int .i64 ((y + 1 : Nat) : Int)))
                              have hyb : (y : Int) ≤ 65536 := by omega
                              obtain ⟨tl, htl⟩ : ∃ tl, tl = hdC n (cdT zs) (s + 1) := ⟨_, rfl⟩
                              rw [← htl] at HBK hhd hhl hst
                              obtain ⟨p0, hp0e⟩ : ∃ p0, p0 = tl - 1 - y := ⟨_, rfl⟩
                              obtain ⟨q0, hq0⟩ : ∃ q0, q0 = stS n (cdT zs) s + y := ⟨_, rfl⟩
                              rw [← hq0] at hf2
                              have HQ0 := hid hq0
                              have hp1 : (tl : Int) - ((y : Int) + 1) = (p0 : Int) := by omega
                              have hp2 : (p0 : Int) < (n : Int) := by omega
                              have hp3 : (p0 < n) = True := eq_true (by omega)
                              have HP0N : Hid (p0 < n ∧ ∀ r, r < n → (r = p0 ↔ n - 1 - r = q0)) := hid ⟨by omega, fun r hr => by omega⟩
                              have hsn : (s : Int) < (G : Int) := by omega
                              have hsG : (s < G) = True := eq_true hsg
                              have htlb : (tl : Int) ≤ 65536 := by omega
                              generalize hdC n (cdT zs) s = hd0 at *
                              clear hct hv HSC9 hjn hh hK hp hpn hjn1 hins hf1 hf2 hs hhd hhl hst hy htl hp0e hq0 hsg
                              go_wp2_with fail
                              refine HBK.out.mono ?_
                              rintro e w' ⟨rfl, rfl⟩
                              go_upto_region 39 with fail
                              obtain ⟨z1, hz1⟩ : ∃ z1, z1 = wr.setCell ⟨g3, s, none⟩ (.int .i64 ((y + 1 : Nat) : Int)) := ⟨_, rfl⟩
                              rw [← hz1] at HS6 HB6
                              have hz2 : wr.setCell ⟨g3, s, none⟩ (.int .i64 ((y : Int) + 1)) = z1 := by rw [hz1]; congr 2
                              rw [hz2]
                              have htc1 := HTX.out z1 (HX.out z1 HB6.out) j (by omega)
                              rw [← HS.out] at htc1
                              have hcp1 := HS6.out.put.cells (g := g3) rfl s _ (qvl_get (show s < G by have := hsn; omega))
                              rw [Addr.add_lit, updF_at, Nat.zero_add] at hcp1
                              have hcp2 : z1.cell? ⟨g3, s, none⟩ = some (.int .i64 ((y : Int) + 1)) := by rw [hcp1]; congr 2
                              have hco1 := HS6.out.cellO HP0N.out.1
                              have f1 := HS6.out.ord.frozenAt p0
                              generalize ov (A (n - 1 - p0)) = old at *
                              have HS7 := hid (HS6.out.setO HNE3.out p0 (j : Int))
                              have hset := ivl_set (fun p => A (n - 1 - p)) n p0 (some j)
                              rw [show ov (some j) = (j : Int) from rfl] at hset
                              rw [hset, ivl_congr (n := n) (b := fun p => updF A q0 (some j) (n - 1 - p)) fun r hr => (by
                                show (if r = p0 then some j else A (n - 1 - r)) = (if n - 1 - r = q0 then some j else A (n - 1 - r))
                                by_cases e : r = p0
                                · rw [if_pos e, if_pos ((HP0N.out.2 r hr).1 e)]
                                · rw [if_neg e, if_neg fun h => e ((HP0N.out.2 r hr).2 h)])] at HS7
                              have HB7 := hid (HB6.out.setCell (p := ⟨g1, p0, none⟩) (HS6.out.le.1) (.int .i64 (j : Int)))
                              clear htc hcp f2 HS5 HB5 HBK hz1 hz2 hcp1 hset HS6 HB6 hct' hkc
                              go_wp2_with fail
                              go_roundw
                              case rel =>
                                refine ⟨t + 1, HLT.out, by rw [← HRP.out] <;> go_num, ?_, HB7.out⟩
                                rw [HPU.out]
                                show OrdS _ g1 g1 g3 n G (ivl (fun p => updF (scan (cdT zs) (insS n (kdT zs)) (stS n (cdT zs)) a1 t).1 (stS n (cdT zs) (cdT zs j) + (scan (cdT zs) (insS n (kdT zs)) (stS n (cdT zs)) a1 t).2 (cdT zs j)) (some j) (n - 1 - p)) n) (updF (scan (cdT zs) (insS n (kdT zs)) (stS n (cdT zs)) a1 t).2 (cdT zs j) ((scan (cdT zs) (insS n (kdT zs)) (stS n (cdT zs)) a1 t).2 (cdT zs j) + 1))
                                rw [← HA.out, ← HQ.out, ← HS.out, ← HY.out, ← HQ0.out]
                                exact HS7.out
                              case measure => simp [intOf]
                      · obtain rfl : n = t := by omega
                        have hm1 : (n : Int) - 1 - (n : Int) = -1 := by omega
                        rw [hm1]
                        clear hlt
                        have hfin := HS5.out.ord
                        have heq : ivl (fun p => (scan (cdT zs) (insS n (kdT zs)) (stS n (cdT zs)) a1 n).1 (n - 1 - p)) n = nvals (indF n (cdT zs) (kdT zs) fs) := by
                          obtain ⟨h1, -, -, -, h2⟩ := HIND.out
                          apply List.ext_getElem?
                          intro r
                          by_cases hr : r < n
                          · rw [ivl_get hr, nvals_get (by rw [h1]; exact hr)]
                            have h3 := h2 (n - 1 - r) (by omega)
                            unfold pass2 at h3
                            rw [← HA1.out, show n - 1 - (n - 1 - r) = r by omega] at h3
                            rw [h3]; rfl
                          · rw [List.getElem?_eq_none (by rw [ivl_len]; omega), List.getElem?_eq_none (by rw [nvals_len, h1]; omega)]
                        rw [heq] at hfin
                        have HFIN := hid hfin
                        clear hfin heq HS5
                        go_wp2_with fail
                        go_ret
                        exact ⟨_, rfl, by rw [HINE.out]; exact own_weaken HFIN.out (by rw [HG1.out]; exact HB1.out.size), HX.out _ HB5.out⟩
          | succ k =>
            have hk1 : ((k + 1 : Nat) : Int) - 1 = (k : Int) := by omega
            rw [hk1]
            have HKL : Hid (k < fs.length) := hid (by rw [← HM.out]; omega)
            have HKM : Hid (k < m) := hid (by omega)
            have HXR := hid (HX.out wr HB3.out)
            have hfc := HFX.out wr HXR.out k HKM.out
            have hfm := getD_inN HKL.out
            have hfl := (isFs_lt HFS.out hfm).1
            rw [← HN.out] at hfl
            have HFL := hid hfl
            have htc := HTX.out wr HXR.out (fs.getD k 0) hfl
            have hsg := HG.out _ hfl
            have hroom := sow_next HI.out HFS.out HKL.out
            rw [← HN.out] at hroom
            have hdr := drop_cons HKL.out
            have HDR := hid hdr
            clear hdr
            obtain ⟨f, hf⟩ : ∃ f, f = fs.getD k 0 := ⟨_, rfl⟩
            rw [← hf] at hfc hfl htc hsg hroom HDR HFL
            obtain ⟨s, hse⟩ : ∃ s, s = cdT zs f := ⟨_, rfl⟩
            have HSE := hid hse
            rw [← hse] at htc hsg hroom
            have HBK := hid (HBU.out wr HXR.out s)
            have hhd := hdC_succ n (cdT zs) s
            have hhl := hdC_le n (cdT zs) (s + 1)
            have hcp := HS3.out.cellP hsg
            have f2 := HS3.out.put.frozenAt s
            obtain ⟨A, hA⟩ : ∃ A, A = (sow n (cdT zs) (fs.drop (k + 1))).1 := ⟨_, rfl⟩
            obtain ⟨Q, hQ⟩ : ∃ Q, Q = (sow n (cdT zs) (fs.drop (k + 1))).2 := ⟨_, rfl⟩
            have HA := hid hA
            have HQ := hid hQ
            rw [← hA, ← hQ] at HS3
            rw [← hQ] at hroom hcp
            have HS4 := hid (HS3.out.setP HNE.out s (Q s + 1))
            have HB4 := hid (HB3.out.setCell (p := ⟨g2, s, none⟩) (HS3.out.le.2) (.int .i64 ((Q s + 1 : Nat) : Int)))
            obtain ⟨y, hy⟩ : ∃ y, y = Q s := ⟨_, rfl⟩
            rw [← hy] at hcp hroom HS4 HB4
            have HY := hid hy
            have hyb : (y : Int) ≤ 65536 := by omega
            obtain ⟨tl, htl⟩ : ∃ tl, tl = hdC n (cdT zs) (s + 1) := ⟨_, rfl⟩
            rw [← htl] at HBK hhd hhl
            have HTL := hid htl
            obtain ⟨p0, hp0⟩ : ∃ p0, p0 = tl - 1 - y := ⟨_, rfl⟩
            have hp1 : (tl : Int) - ((y : Int) + 1) = (p0 : Int) := by omega
            have hp2 : (p0 : Int) < (n : Int) := by omega
            have hp3 : (p0 < n) = True := eq_true (by omega)
            have HP0 := hid hp0
            have HPN : Hid (p0 < n) := hid (by omega)
            have hsn : (s : Int) < (G : Int) := by omega
            have hsG : (s < G) = True := eq_true hsg
            have hfn : (f : Int) < (n : Int) := by omega
            have hfN : (f < n) = True := eq_true hfl
            have hkm : (k : Int) < (m : Int) := by have := HKM.out; omega
            have hkM : (k < m) = True := eq_true HKM.out
            have htlb : (tl : Int) ≤ 65536 := by omega
            have hk0 : decide ((0 : Int) ≤ (k : Int)) = true := decide_eq_true (by omega)
            generalize hdC n (cdT zs) s = hd0 at *
            clear hj hfm hf hse hhd hhl hroom hA hQ hy htl hp0 hsg hfl hk1
            go_wp2_with fail
            refine HBK.out.mono ?_
            rintro e w' ⟨rfl, rfl⟩
            go_upto_region 16 with fail
            obtain ⟨z1, hz1⟩ : ∃ z1, z1 = wr.setCell ⟨g2, s, none⟩ (.int .i64 ((y + 1 : Nat) : Int)) := ⟨_, rfl⟩
            rw [← hz1] at HS4 HB4
            have hz2 : wr.setCell ⟨g2, s, none⟩ (.int .i64 ((y : Int) + 1)) = z1 := by rw [hz1]; congr 2
            rw [hz2]
            have hfc1 : z1.cell? ⟨fb, fo + k, none⟩ = some (.int .i64 (f : Int)) := by rw [← hfc]; exact World.cell?_of_block ((HX.out z1 HB4.out).block fb (cell_lt (HFX.out x (Below.refl _ _) k HKM.out)) |>.trans ((HXR.out.block fb (cell_lt (HFX.out x (Below.refl _ _) k HKM.out))).symm))
            have hcp1 := HS4.out.put.cells (g := g2) rfl s _ (qvl_get (show s < G by have := hsn; omega))
            rw [Addr.add_lit, updF_at, Nat.zero_add] at hcp1
            have hcp2 : z1.cell? ⟨g2, s, none⟩ = some (.int .i64 ((y : Int) + 1)) := by rw [hcp1]; congr 2
            have hco1 := HS4.out.cellO HPN.out
            have f1 := HS4.out.ord.frozenAt p0
            generalize ov (A p0) = old at *
            have HS5 := hid (HS4.out.setO HNE.out p0 (f : Int))
            have hset := ivl_set A n p0 (some f)
            rw [show ov (some f) = (f : Int) from rfl] at hset
            rw [hset] at HS5
            have HB5 := hid (HB4.out.setCell (p := ⟨g1, p0, none⟩) (HS4.out.le.1) (.int .i64 (f : Int)))
            clear hfc htc hcp f2 HS3 HB3 HBK hz1 hz2 hcp1 hset HS4 HB4
            go_wp2_with fail
            go_region
            go_wp2_with fail
            go_roundw
            case rel =>
              refine ⟨k, Nat.le_of_lt HKM.out, by go_num, ?_, HB5.out.drew⟩
              rw [HDR.out]
              show OrdS _ g1 g1 g2 n G (ivl (updF (sow n (cdT zs) (fs.drop (k + 1))).1 (hdC n (cdT zs) (cdT zs f + 1) - 1 - (sow n (cdT zs) (fs.drop (k + 1))).2 (cdT zs f)) (some f)) n) (updF (sow n (cdT zs) (fs.drop (k + 1))).2 (cdT zs f) ((sow n (cdT zs) (fs.drop (k + 1))).2 (cdT zs f) + 1))
              rw [← HA.out, ← HQ.out, ← HSE.out, ← HTL.out, ← HY.out, ← HP0.out]
              exact HS5.out.drew
            case measure => simp [intOf]
end Go.Proofs.Ytmllpednaibeeaa
namespace Go.Inc
open Go.RowKit
theorem anyP_snoc {p : Int → Bool} {zs : List Int} {k : Nat} (h : k < zs.length) : (zs.take (k + 1)).any p = ((zs.take k).any p || p (zs.getD k 0)) := by
  rw [List.take_succ_eq_append_getElem h, List.getD_eq_getElem?_getD, List.getElem?_eq_getElem h]
  simp only [List.any_append, List.any_cons, List.any_nil, Bool.or_false, Option.getD_some]
theorem anyP_mono {p : Int → Bool} {zs : List Int} {k : Nat} (h : (zs.take k).any p = true) : zs.any p = true := by
  rw [List.any_eq_true] at *
  obtain ⟨x, hx, h2⟩ := h
  exact ⟨x, List.mem_of_mem_take hx, h2⟩
theorem getD_memA {α : Type} {l : List α} {k : Nat} {d : α} (h : k < l.length) : l.getD k d ∈ l := by
  rw [List.getD_eq_getElem?_getD, List.getElem?_eq_getElem h]
  exact List.getElem_mem h
theorem idxOf_at {x : Int} : ∀ {zs : List Int} {k : Nat}, k < zs.length → zs.getD k 0 = x → x ∉ zs.take k → zs.idxOf x = k
  | [], k, h, _, _ => by simp at h
  | z :: r, 0, _, he, _ => by
    have : z = x := by simpa using he
    subst this
    simp
  | z :: r, k + 1, h, he, hn => by
    have h1 : z ≠ x := fun e => hn (by rw [e]; simp)
    have h2 : x ∉ r.take k := fun hh => hn (by simp [hh])
    have ih := idxOf_at (zs := r) (k := k) (by simpa using h) (by simpa using he) h2
    have h3 : (z == x) = false := by rw [beq_eq_false_iff_ne]; exact h1
    simp [List.idxOf_cons, h3, ih]
/-- Where a number stands; -1 where it doesn't. -/
def ixZ (zs : List Int) (x : Int) : Int := if x ∈ zs then (zs.idxOf x : Int) else -1
theorem notin_take_idx : ∀ (x : List Int) (z : Int), z ∉ x.take (x.idxOf z)
  | [], z => by simp
  | a :: x, z => by
    by_cases h : a = z
    · subst h; simp
    · have h3 : (a == z) = false := by rw [beq_eq_false_iff_ne]; exact h
      have := notin_take_idx x z
      simp only [List.idxOf_cons, h3, cond_false, List.take_succ_cons, List.mem_cons, not_or]
      exact ⟨fun e => h e.symm, this⟩
theorem RtL_ix {x : List Int} (h : 0 < x.length) : RtL x ↔ ixZ x 0 = ((x.length - 1 : Nat) : Int) := by
  constructor
  · intro hr
    have h0 : x.getD (x.length - 1) 0 = 0 := (hr.2 (x.length - 1) (by omega)).2 (by omega)
    have hm : (0 : Int) ∈ x := by
      have := memGetD (zs := x) (d := 0) (k := x.length - 1) (by omega)
      rw [h0] at this; exact this
    unfold ixZ
    rw [if_pos hm, idxOf_at (k := x.length - 1) (by omega) h0]
    intro hh
    obtain ⟨i, hi, he⟩ := List.mem_iff_getElem.1 hh
    rw [List.length_take] at hi
    rw [List.getElem_take] at he
    have h1 := (hr.2 i (by omega)).1 (by rw [List.getD_eq_getElem?_getD, List.getElem?_eq_getElem (by omega)]; exact he)
    omega
  · intro hi
    unfold ixZ at hi
    split at hi
    · rename_i hm
      have h1 : x.idxOf 0 = x.length - 1 := by omega
      have h2 := at_get hm
      rw [h1] at h2
      refine ⟨h, fun i hi => ⟨fun e => ?_, fun e => ?_⟩⟩
      · have h3 : x.idxOf 0 ≤ i := by
          apply Classical.byContradiction
          intro hc
          have h4 : (0 : Int) ∈ x.take (x.idxOf 0) := by
            have := memGetD (zs := x.take (x.idxOf 0)) (d := 0) (k := i) (by rw [List.length_take]; omega)
            rw [List.getD_eq_getElem?_getD, List.getElem?_take, if_pos (by omega), ← List.getD_eq_getElem?_getD, e] at this
            exact this
          exact notin_take_idx x 0 h4
        omega
      · rw [show i = x.length - 1 from by omega]; exact h2.2
    · omega
def codeB (z : Int) : Bool := decide (z < 0) || decide (65535 < z)
theorem any_code {x : List Int} (h : x.length ≤ 65536) : (x.any codeB = true → ckT x = 10) ∧ (x.any codeB = false → ckT x = if RtL x then 0 else 3) := by
  have hc : x.any codeB = true ↔ ¬ ∀ z ∈ x, 0 ≤ z ∧ z ≤ 65535 := by
    rw [List.any_eq_true]
    constructor
    · rintro ⟨z, hz, hb⟩ hall
      have := hall z hz
      unfold codeB at hb
      simp at hb
      omega
    · intro hn
      apply Classical.byContradiction
      intro hno
      refine hn fun z hz => ?_
      apply Classical.byContradiction
      intro hz2
      refine hno ⟨z, hz, ?_⟩
      unfold codeB
      simp
      omega
  constructor
  · intro h1
    unfold ckT
    rw [if_neg (by omega), if_pos (hc.1 h1)]
  · intro h1
    unfold ckT
    rw [if_neg (by omega), if_neg (fun hh => by rw [hc.2 hh] at h1; cases h1)]
end Go.Inc
namespace Go.Proofs.Ytmllpednaibeeaa
open Go.RowKit Go.Inc
/-- A function that has a body. -/
def Goes (F : FuncId) : Prop := ∀ (args : Array Value) (w : World), (callFunc F args).run Try.prog w = .ok (.enter F args) w
/-- What a closure tells of each of these, the memory as it is. -/
def TellsB (x : World) (F : FuncId) (cp : Array Value) (zs : List Int) (p : Int → Bool) : Prop := Goes F ∧
  ∀ y, Below x.heap.size x y → ∀ z ∈ zs, Calls Try.prog F (#[.int .i64 z] ++ cp) y fun e y' => e = .returned (.bool (p z)) ∧ y = y'
def IdxP (p : Int → Bool) (zs : List Int) (w : World) (e : Ending) (w' : World) : Prop := ∃ r : Int, e = .returned (.int .i64 r) ∧ decide (0 ≤ r) = zs.any p ∧ w = w'
set_option maxRecDepth 20000 in
set_option maxHeartbeats 1000000 in
theorem indexF_any (ok : Nat → Prop) (x : World) (a : Option Addr) (c : Nat) (zs : List Int) (F : FuncId) (cp : Array Value) (p : Int → Bool) (hs : Si ok x a zs) (hl : (zs.length : Int) ≤ 65536) (hf : TellsB x F cp zs p) :
    Calls Try.prog 65 #[.slice a zs.length c, .func (Fn.func F) #[] cp] x (IdxP p zs x) := by
  have HS := hid hs
  have HF := hid hf
  obtain ⟨n, hn⟩ : ∃ n, n = zs.length := ⟨_, rfl⟩
  have HN := hid hn
  rw [← hn] at hl ⊢
  clear hs hn hf
  go_enter Try.func65, Try.ntmps65
  go_wp2_with fail
  go_loop [8] (fun i => ∃ k : Nat, k ≤ n ∧ i = .int .i64 (k : Int) ∧ (zs.take k).any p = false) (fun i => n - (intOf i).toNat)
  case atStart => exact ⟨0, Nat.zero_le _, rfl, rfl⟩
  case round =>
    obtain ⟨k, hk, rfl, hn⟩ := hrel
    have HP := hid hn
    clear hn
    by_cases hlt : (k : Int) < n
    · obtain ⟨b, o, rfl, hc⟩ : ∃ b o, a = some ⟨b, o, none⟩ ∧ x.cell? ⟨b, o + k, none⟩ = some (.int .i64 (zs.getD k 0)) := by
        rcases HS.out with h | ⟨b, o, h, _, hc⟩
        · have := HN.out; rw [h] at this; simp at this; omega
        · exact ⟨b, o, h, hc k (by rw [← HN.out]; omega)⟩
      have hs := hid (anyP_snoc (p := p) (zs := zs) (k := k) (by rw [← HN.out]; omega))
      have hm := hid (anyP_mono (p := p) (zs := zs) (k := k + 1))
      have HC := hid (HF.out.2 x (Below.refl _ _) (zs.getD k 0) (getD_memA (by rw [← HN.out]; omega)))
      generalize zs.getD k 0 = z at *
      have hkl : (k < n) = True := eq_true (by omega)
      cases hz : p z
      · go_wp2_with fail
        rw [HF.out.1, Oper.upon_enter]
        refine HC.out.mono ?_
        rintro e w' ⟨rfl, rfl⟩
        rw [hz]
        go_wp2_with fail
        go_round
        case rel => exact ⟨k + 1, by omega, by go_num, by rw [hs.out, HP.out]; simp [hz]⟩
        case measure => simp [intOf]; omega
      · go_wp2_with fail
        rw [HF.out.1, Oper.upon_enter]
        refine HC.out.mono ?_
        rintro e w' ⟨rfl, rfl⟩
        rw [hz]
        go_wp2_with fail
        go_ret
        refine ⟨_, rfl, ?_, rfl⟩
        rw [hm.out (by rw [hs.out]; simp [hz])]
        simp
    · have hkl : (k < n) = False := eq_false (by omega)
      have HE : Hid (zs.take k = zs) := hid (List.take_of_length_le (by rw [← HN.out]; omega))
      clear hlt
      go_wp2_with fail
      go_ret
      refine ⟨-1, rfl, ?_, rfl⟩
      have := HP.out
      rw [HE.out] at this
      rw [this]; decide
theorem containsF_any (ok : Nat → Prop) (x : World) (a : Option Addr) (c : Nat) (zs : List Int) (F : FuncId) (cp : Array Value) (p : Int → Bool) (hs : Si ok x a zs) (hl : (zs.length : Int) ≤ 65536) (hf : TellsB x F cp zs p) :
    Calls Try.prog 44 #[.slice a zs.length c, .func (Fn.func F) #[] cp] x fun e w' => e = .returned (.bool (zs.any p)) ∧ x = w' := by
  have H := hid (indexF_any ok x a c zs F cp p hs hl hf)
  clear hs hl hf
  go_enter Try.func44, Try.ntmps44
  go_wp2_with fail
  refine H.out.mono ?_
  rintro e w' ⟨r, rfl, hr, rfl⟩
  have HR := hid hr
  clear hr
  go_wp2_with fail
  go_ret
  exact ⟨ret_bool HR.out, rfl⟩

set_option maxRecDepth 20000 in
set_option maxHeartbeats 1500000 in
theorem zindex_any (ok : Nat → Prop) (a : Option Addr) (c : Nat) (zs : List Int) (x : Int) (w : World) (hs : Si ok w a zs) (hl : (zs.length : Int) ≤ 65536) (_hx : i64s x) :
    Calls Try.prog 46 #[.slice a zs.length c, .int .i64 x] w fun e w' => e = .returned (.int .i64 (ixZ zs x)) ∧ w = w' := by
  have HS : Hid (Si (fun b => b < w.heap.size) w a zs) := hid (hs.mono fun _ _ h => h)
  obtain ⟨n, hn⟩ : ∃ n, n = zs.length := ⟨_, rfl⟩
  have HN := hid hn
  rw [← hn] at hl ⊢
  clear hs hn
  go_enter Try.func46, Try.ntmps46
  go_wp2_with fail
  go_loop [8] (fun i => ∃ k : Nat, k ≤ n ∧ i = .int .i64 (k : Int) ∧ x ∉ zs.take k) (fun i => n - (intOf i).toNat)
  case atStart => exact ⟨0, Nat.zero_le _, rfl, by simp⟩
  case round =>
    obtain ⟨k, hk, rfl, hni⟩ := hrel
    have HNI := hid hni
    clear hni
    by_cases hlt : (k : Int) < n
    · have hkn : (k < n) = True := eq_true (by omega)
      obtain ⟨b, o, rfl, hck⟩ := siCell HS.out (k := k) (by have := HN.out; omega)
      have HSN := hid (takeSnoc (bs := zs) (d := 0) (k := k) (by have := HN.out; omega))
      have HM := hid (memGetD (zs := zs) (d := 0) (k := k) (by have := HN.out; omega))
      obtain ⟨y, hy⟩ : ∃ y, y = zs.getD k 0 := ⟨_, rfl⟩
      have HY := hid hy
      rw [← hy] at hck HSN HM
      clear hy
      by_cases hxy : x = y
      · have he : (x == y) = true := by rw [beq_iff_eq]; exact hxy
        have HO : Hid (ixZ zs x = (k : Int)) := hid (by
          unfold ixZ
          rw [if_pos (by rw [hxy]; exact HM.out), idxOf_at (by have := HN.out; omega) (by rw [hxy, HY.out]) HNI.out])
        clear hxy
        go_wp2_with fail
        go_ret
        exact ⟨by rw [HO.out]; rfl, rfl⟩
      · have he : (x == y) = false := by rw [beq_eq_false_iff_ne]; exact hxy
        have HXY := hid hxy
        clear hxy
        go_wp2_with fail
        go_round
        case rel => exact ⟨k + 1, by omega, by go_num, by rw [HSN.out]; intro h; rcases snocMem.1 h with h | h; exact HNI.out h; exact HXY.out h⟩
        case measure => simp [intOf]; omega
    · have hkf : (k < n) = False := eq_false (by omega)
      have HO : Hid (ixZ zs x = -1) := hid (if_neg (by have h := HNI.out; rw [show k = n by omega, HN.out, List.take_length] at h; exact h))
      clear hlt
      go_wp2_with fail
      go_ret
      exact ⟨by rw [HO.out]; rfl, rfl⟩
theorem code_any (x : World) (z : Int) (hz : i64s z) : Calls Try.prog 45 #[.int .i64 z] x fun e w' => e = .returned (.bool (codeB z)) ∧ x = w' := by
  obtain ⟨h1, h2⟩ := hz
  by_cases h3 : z < 0
  · have e : Hid (codeB z = true) := hid (by unfold codeB; simp [h3])
    go_enter Try.func45, Try.ntmps45
    go_wp2_with fail
    go_ret
    exact ⟨by rw [e.out] <;> rfl, rfl⟩
  · by_cases h4 : 65535 < z
    · have e : Hid (codeB z = true) := hid (by unfold codeB; simp [h4])
      go_enter Try.func45, Try.ntmps45
      go_wp2_with fail
      go_ret
      exact ⟨by rw [e.out] <;> rfl, rfl⟩
    · have e : Hid (codeB z = false) := hid (by unfold codeB; simp [h3, h4])
      go_enter Try.func45, Try.ntmps45
      go_wp2_with fail
      go_ret
      exact ⟨by rw [e.out] <;> rfl, rfl⟩
set_option maxRecDepth 20000 in
set_option maxHeartbeats 1500000 in
theorem check_any (ok : Nat → Prop) (w : World) (v : Value) (zs : List Int) (hs : So ok w v zs) (hl : zs.length ≤ 65536) (hz : ∀ z ∈ zs, i64s z) :
    Calls Try.prog 30 #[v] w fun e w' => e = .returned (.int .i64 ((ckT zs : Nat) : Int)) ∧ w = w' := by
  obtain ⟨a, c, rfl, hsi, hlc, -, -⟩ := hs
  have HC := hid (containsF_any ok w a c zs 45 #[] codeB hsi (by omega) ⟨fun args w => by kernel_rfl, fun y _ z hzm => code_any y z (hz z hzm)⟩)
  have HI := hid (zindex_any ok a c zs 0 w hsi (by omega) (by unfold i64s; omega))
  have HK := hid (any_code hl)
  have HR := hid (fun h => RtL_ix (x := zs) h)
  have HNR : Hid (zs.length = 0 → ¬ RtL zs) := hid (fun h hr => by have := hr.1; omega)
  obtain ⟨n, hn⟩ : ∃ n, n = zs.length := ⟨_, rfl⟩
  rw [← hn] at hl HC HI HR HNR ⊢
  obtain ⟨q, hq⟩ : ∃ q, q = zs.any codeB := ⟨_, rfl⟩
  rw [← hq] at HC HK
  have hnn : decide ((n : Int) > 65536) = false := decide_eq_false (by omega)
  clear hsi hz hn hq
  go_enter Try.func30, Try.ntmps30
  go_wp2_with fail
  refine HC.out.mono ?_
  rintro e w' ⟨rfl, rfl⟩
  clear HC
  cases q
  · obtain ⟨k, hk⟩ : ∃ k, k = ixZ zs 0 := ⟨_, rfl⟩
    rw [← hk] at HI HR
    by_cases h0 : n = 0
    · have HX : Hid (ckT zs = 3) := hid (by rw [HK.out.2 rfl, if_neg (HNR.out h0)])
      have h0i : ((n : Int) == 0) = true := by rw [beq_iff_eq]; omega
      clear h0 hk
      go_wp2_with fail
      go_ret
      exact ⟨by rw [HX.out]; rfl, rfl⟩
    · have h0i : ((n : Int) == 0) = false := by rw [beq_eq_false_iff_ne]; omega
      obtain ⟨m, hm⟩ : ∃ m : Nat, (n : Int) - 1 = (m : Int) := ⟨n - 1, by omega⟩
      have HM : Hid (n - 1 = m) := hid (by omega)
      have HR2 := hid (HR.out (by omega))
      rw [HM.out] at HR2
      by_cases hkm : k = (m : Int)
      · have HX : Hid (ckT zs = 0) := hid (by rw [HK.out.2 rfl, if_pos (HR2.out.2 hkm)])
        have hne : (k != (m : Int)) = false := by rw [bne_eq_false_iff_eq]; exact hkm
        clear hkm hk HR HR2 h0
        go_wp2_with fail
        refine HI.out.mono ?_
        rintro e w' ⟨rfl, rfl⟩
        go_wp2_with fail
        go_ret
        exact ⟨by rw [HX.out]; rfl, rfl⟩
      · have HX : Hid (ckT zs = 3) := hid (by rw [HK.out.2 rfl, if_neg (fun h => hkm (HR2.out.1 h))])
        have hne : (k != (m : Int)) = true := by rw [bne_iff_ne]; exact hkm
        clear hkm hk HR HR2 h0
        go_wp2_with fail
        refine HI.out.mono ?_
        rintro e w' ⟨rfl, rfl⟩
        go_wp2_with fail
        go_ret
        exact ⟨by rw [HX.out]; rfl, rfl⟩
  · have HX := hid (HK.out.1 rfl)
    go_wp2_with fail
    go_ret
    exact ⟨by rw [HX.out]; rfl, rfl⟩
end Go.Proofs.Ytmllpednaibeeaa
namespace Go.Inc
open Go.RowKit
theorem cmp_zero : ∀ {xs ys : List Int}, xs.length = ys.length → cmpP xs ys = 0 → xs = ys
  | [], [], _, _ => rfl
  | [], _ :: _, h, _ => by simp at h
  | _ :: _, [], h, _ => by simp at h
  | a :: l, b :: m, h, k => by
    rw [cmpP_cons] at k
    by_cases e : a = b
    · rw [if_pos e] at k
      rw [e, cmp_zero (by simpa using h) k]
    · rw [if_neg e] at k; omega
theorem cell_kept16 {w w' : World} {b i : Nat} {u : Value} (h : w.cell? ⟨b, i, none⟩ = some u) (hb : Below w.heap.size w w') : w'.cell? ⟨b, i, none⟩ = some u := by
  rw [← h]; exact World.cell?_of_block (hb.block b (cell_lt h))
theorem pce_at {x : List Int} (h : InT x) {k : Nat} (hk : k < (fsT x x.length).length) :
    ∃ L, (fsT x x.length).getD k 0 + L ≤ x.length ∧ (pceT x ((fsT x x.length).getD k 0)).length = L ∧ 0 < L ∧ (k + 1 < (fsT x x.length).length → (fsT x x.length).getD (k + 1) 0 + 1 = (fsT x x.length).getD k 0 + L) ∧ (¬ k + 1 < (fsT x x.length).length → (fsT x x.length).getD k 0 + L = x.length) ∧ ∀ i, i < L → (pceT x ((fsT x x.length).getD k 0)).getD i 0 = x.getD ((fsT x x.length).getD k 0 + i) 0 := by
  have hm := inF_mem.1 (getD_inN hk)
  by_cases h1 : k + 1 < (fsT x x.length).length
  · have hm2 := inF_mem.1 (getD_inN h1)
    have hlt := rise_getD (inF_rise (x := x) x.length) (show k < k + 1 by omega) h1
    have hp := pce_next h h1
    refine ⟨(fsT x x.length).getD (k + 1) 0 + 1 - (fsT x x.length).getD k 0, by omega, by rw [hp, List.length_take, List.length_drop]; omega, by omega, fun _ => by omega, fun h2 => absurd h1 h2, fun i hi => ?_⟩
    rw [hp, List.getD_eq_getElem?_getD, List.getElem?_take, if_pos hi, List.getElem?_drop, ← List.getD_eq_getElem?_getD]
  · have hp := fs_lastD h (show k + 1 = (fsT x x.length).length by omega)
    have hq := pce_last h
    have hn := h.right.1
    rw [hp, hq]
    refine ⟨1, by omega, by rw [List.length_drop]; omega, by omega, fun h2 => absurd h2 h1, fun _ => by omega, fun i hi => ?_⟩
    rw [drop_get]
end Go.Inc
namespace Go.Proofs.Ytmllpednaibeeaa
open Go.RowKit Go.Inc
set_option maxRecDepth 20000 in
set_option maxHeartbeats 1000000 in
theorem refPiece_any (ok ok' : Nat → Prop) (x : World) (a b : Option Addr) (c d : Nat) (zs : List Int) (k : Nat) (hs : Si ok x a zs) (hc : zs.length ≤ c ∧ c ≤ maxLen) (hf : Si ok' x b (zsN (fsT zs zs.length))) (hi : InT zs) (hl : (zs.length : Int) ≤ 65536) (hk : k < (fsT zs zs.length).length) :
    Calls Try.prog 52 #[.slice a zs.length c, .slice b (fsT zs zs.length).length d, .int .i64 (k : Int)] x fun e w' => ∃ u, e = .returned u ∧ So ok w' u (pceT zs ((fsT zs zs.length).getD k 0)) ∧ Below x.heap.size x w' := by
  obtain ⟨L, h1, h2, h3, h4, h5, h6⟩ := pce_at hi hk
  have hfl := inF_mem.1 (getD_inN hk)
  have hml := fs_half (x := zs)
  obtain ⟨tb, tq, rfl, hok, htx⟩ : ∃ tb tq, a = some ⟨tb, tq, none⟩ ∧ ok tb ∧ ∀ i, i < zs.length → x.cell? ⟨tb, tq + i, none⟩ = some (.int .i64 (zs.getD i 0)) := by
    rcases hs with h | ⟨tb, tq, h, ho, hc⟩
    · have := hi.right.1; rw [h] at this; simp at this
    · exact ⟨tb, tq, h, ho, hc⟩
  obtain ⟨fb, fo, rfl, hfx⟩ : ∃ fb fo, b = some ⟨fb, fo, none⟩ ∧ ∀ i, i < (fsT zs zs.length).length → x.cell? ⟨fb, fo + i, none⟩ = some (.int .i64 (((fsT zs zs.length).getD i 0 : Nat) : Int)) := by
    rcases hf with h | ⟨fb, fo, h, _, hc⟩
    · have h7 := zsN_len (fsT zs zs.length)
      rw [h] at h7; simp at h7; rw [← h7] at hk; simp at hk
    · exact ⟨fb, fo, h, fun i hi => by rw [hc i (by rw [zsN_len]; exact hi), zsN_get]⟩
  have hfk := hfx k hk
  have hfk1 : k + 1 < (fsT zs zs.length).length → x.cell? ⟨fb, fo + (k + 1), none⟩ = some (.int .i64 (((fsT zs zs.length).getD (k + 1) 0 : Nat) : Int)) := fun h => hfx (k + 1) h
  have HSO : Hid (∀ w', Below x.heap.size x w' → ∀ p, p = (fsT zs zs.length).getD k 0 → So ok w' (.slice (some ⟨tb, tq + p, none⟩) L (c - p)) (pceT zs ((fsT zs zs.length).getD k 0))) := hid fun w' hw p hp => by
    refine ⟨some ⟨tb, tq + p, none⟩, c - p, by rw [h2], .inr ⟨tb, tq + p, rfl, hok, fun i hi => ?_⟩, by rw [h2, hp]; have := hc.1; omega, by have := hc.2; omega, fun h => by cases h⟩
    rw [h2] at hi
    rw [h6 i hi, ← hp, Nat.add_assoc]
    exact cell_kept16 (htx (p + i) (by rw [hp]; omega)) hw
  obtain ⟨p, hp⟩ : ∃ p, p = (fsT zs zs.length).getD k 0 := ⟨_, rfl⟩
  have HP := hid hp
  obtain ⟨m, hm⟩ : ∃ m, m = (fsT zs zs.length).length := ⟨_, rfl⟩
  obtain ⟨n, hn⟩ : ∃ n, n = zs.length := ⟨_, rfl⟩
  rw [← hp] at h1 h4 h5 hfl hfk
  rw [← hm] at h4 h5 hk hml hfk1
  rw [← hn] at hml hl hc
  rw [← hn] at h1 h5 hfl
  rw [← hm, ← hn]
  rw [← hn] at HSO HP
  have hpb : (p : Int) ≤ 65536 := by omega
  have hkm : (k < m) = True := eq_true hk
  have hkb : (k : Int) < (m : Int) := by omega
  have hmb : (m : Int) ≤ 65536 := by omega
  have hcp : (c = p) = False := eq_false (by omega)
  have hpc : (p : Int) ≤ (c : Int) := by omega
  have HCM := hid hc.2
  by_cases hk1 : k + 1 < m
  · have hq := hfk1 hk1
    have h7 := h4 hk1
    obtain ⟨q, hqe⟩ : ∃ q, q = (fsT zs zs.length).getD (k + 1) 0 := ⟨_, rfl⟩
    rw [← hqe] at hq h7
    obtain ⟨k1, hk1e⟩ : ∃ k1, k1 = k + 1 := ⟨_, rfl⟩
    rw [← hk1e] at hq
    have hk1i : (k : Int) + 1 = (k1 : Int) := by omega
    have hk1m : (k1 < m) = True := eq_true (by omega)
    have hk1b : (k1 : Int) < (m : Int) := by omega
    obtain ⟨e0, he0⟩ : ∃ e0, e0 = q + 1 := ⟨_, rfl⟩
    have he1 : (q : Int) + 1 = (e0 : Int) := by omega
    have hep : (p : Int) ≤ (e0 : Int) := by omega
    have hec : (e0 : Int) ≤ (c : Int) := by omega
    have heL : (e0 : Int) - (p : Int) = (L : Int) := by omega
    have heL' : e0 - p = L := by omega
    have hqb : (q : Int) ≤ 65536 := by omega
    clear h1 h2 h3 h4 h5 h6 hfx hfk1 hfl hml hc hk hk1 hp hm hn hqe hk1e he0 h7 hs hf htx hi
    go_enter Try.func52, Try.ntmps52
    go_wp2_with fail
    go_region
    go_wp2_with fail
    go_ret
    exact ⟨_, rfl, HSO.out _ (Below.refl _ _).drew p HP.out, (Below.refl _ _).drew⟩
  · have h7 := h5 hk1
    have hk1n : decide ((k : Int) + 1 < (m : Int)) = false := decide_eq_false (by omega)
    have hpn : (p : Int) ≤ (n : Int) := by omega
    have hnL : (n : Int) - (p : Int) = (L : Int) := by omega
    have hnL' : n - p = L := by omega
    have hnc : (n : Int) ≤ (c : Int) := by omega
    have hk2 : (m : Int) ≤ (k : Int) + 1 := by omega
    clear h1 h2 h3 h4 h5 h6 hfx hfk1 hfl hml hc hk hk1 hp hm hn h7 hs hf htx hi
    go_enter Try.func52, Try.ntmps52
    go_wp2_with fail
    go_ret
    exact ⟨_, rfl, HSO.out _ (Below.refl _ _) p HP.out, Below.refl _ _⟩
theorem cmp_bound {xs ys : List Int} (hx : ∀ z ∈ xs, 0 ≤ z ∧ z ≤ 65535) (hy : ∀ z ∈ ys, 0 ≤ z ∧ z ≤ 65535) {i : Nat} (h1 : i < xs.length) (h2 : i < ys.length) : (0 ≤ xs.getD i 0 ∧ xs.getD i 0 ≤ 65535) ∧ 0 ≤ ys.getD i 0 ∧ ys.getD i 0 ≤ 65535 := ⟨hx _ (in_cell h1), hy _ (in_cell h2)⟩
set_option maxRecDepth 20000 in
set_option maxHeartbeats 1000000 in
theorem refCompare_any (ok ok' : Nat → Prop) (x : World) (a b : Option Addr) (c d : Nat) (xs ys : List Int) (hs : Si ok x a xs) (ht : Si ok' x b ys) (hx : ∀ z ∈ xs, 0 ≤ z ∧ z ≤ 65535) (hy : ∀ z ∈ ys, 0 ≤ z ∧ z ≤ 65535) (hl : (xs.length : Int) ≤ 65536) (hl' : (ys.length : Int) ≤ 65536) :
    Calls Try.prog 73 #[.slice a xs.length c, .slice b ys.length d] x fun e w' => e = .returned (.int .i64 (cmpP xs ys)) ∧ Below x.heap.size x w' := by
  have HS := hid hs
  have HT := hid ht
  have HBD := hid (fun (i : Nat) (h1 : i < xs.length) (h2 : i < ys.length) => cmp_bound hx hy h1 h2)
  obtain ⟨n, hn⟩ : ∃ n, n = xs.length := ⟨_, rfl⟩
  obtain ⟨m, hm⟩ : ∃ m, m = ys.length := ⟨_, rfl⟩
  have HN := hid hn
  have HM := hid hm
  rw [← hn] at hl ⊢
  rw [← hm] at hl' ⊢
  clear hs ht hx hy hn hm
  go_enter Try.func73, Try.ntmps73
  go_wp2_with fail
  go_loopw [5] (fun i wr => ∃ t : Nat, t ≤ n ∧ t ≤ m ∧ i = .int .i64 (t : Int) ∧ cmpP xs ys = cmpP (xs.drop t) (ys.drop t) ∧ Below x.heap.size x wr) (fun i _ => n - (intOf i).toNat)
  case atStart => exact ⟨0, Nat.zero_le _, Nat.zero_le _, rfl, rfl, Below.refl _ _⟩
  case round =>
    obtain ⟨t, ht1, ht2, rfl, he, hb⟩ := hrel
    have HE := hid he
    have HB := hid hb
    clear he hb
    by_cases h1 : t < n
    · have h1t : (t < n) = True := eq_true h1
      by_cases h2 : t < m
      · have h2t : (t < m) = True := eq_true h2
        have HLT := hid (And.intro h1 h2)
        have hbd := HBD.out t (by rw [← HN.out]; exact h1) (by rw [← HM.out]; exact h2)
        obtain ⟨b1, o1, rfl, hc1⟩ : ∃ b1 o1, a = some ⟨b1, o1, none⟩ ∧ wr.cell? ⟨b1, o1 + t, none⟩ = some (.int .i64 (xs.getD t 0)) := by
          rcases HS.out.below HB.out with h | ⟨b, o, h, _, hc⟩
          · have := HN.out; rw [h] at this; simp at this; omega
          · exact ⟨b, o, h, hc t (by rw [← HN.out]; exact h1)⟩
        obtain ⟨b2, o2, rfl, hc2⟩ : ∃ b2 o2, b = some ⟨b2, o2, none⟩ ∧ wr.cell? ⟨b2, o2 + t, none⟩ = some (.int .i64 (ys.getD t 0)) := by
          rcases HT.out.below HB.out with h | ⟨b, o, h, _, hc⟩
          · have := HM.out; rw [h] at this; simp at this; omega
          · exact ⟨b, o, h, hc t (by rw [← HM.out]; exact h2)⟩
        have hdx := drop_at (show t < xs.length by rw [← HN.out]; exact h1)
        have hdy := drop_at (show t < ys.length by rw [← HM.out]; exact h2)
        have HEQ : Hid (cmpP xs ys = if xs.getD t 0 = ys.getD t 0 then cmpP (xs.drop (t + 1)) (ys.drop (t + 1)) else xs.getD t 0 - ys.getD t 0) := hid (by rw [HE.out, hdx, hdy, cmpP_cons])
        generalize xs.getD t 0 = u at *
        generalize ys.getD t 0 = v at *
        obtain ⟨⟨hu0, hu1⟩, hv0, hv1⟩ := hbd
        clear h1 h2 hdx hdy HE
        by_cases huv : u = v
        · subst huv
          rw [if_pos rfl] at HEQ
          go_wp2_with fail
          go_region
          go_wp2_with fail
          go_roundw
          case rel => exact ⟨t + 1, HLT.out.1, HLT.out.2, by go_num, HEQ.out, HB.out.drew⟩
          case measure => simp [intOf]; have := HLT.out; omega
        · rw [if_neg huv] at HEQ
          have huvb : (u == v) = false := by rw [beq_eq_false_iff_ne]; exact huv
          clear huv
          go_wp2_with fail
          go_region
          go_wp2_with fail
          go_region
          go_wp2_with fail
          go_ret
          exact ⟨by rw [HEQ.out] <;> go_num, HB.out.drew.drew⟩
      · have h2t : (t < m) = False := eq_false h2
        have HR : Hid (cmpP xs ys = (m : Int) - (n : Int)) := hid (by
          rw [HE.out, List.drop_of_length_le (l := ys) (by rw [← HM.out]; omega), drop_at (show t < xs.length by rw [← HN.out]; exact h1)]
          show -((_ :: xs.drop (t + 1) : List Int).length : Int) = _
          rw [List.length_cons, List.length_drop, ← HN.out]
          omega)
        clear h1 h2
        go_wp2_with fail
        go_ret
        exact ⟨by rw [HR.out] <;> go_num, HB.out⟩
    · have h1t : (t < n) = False := eq_false h1
      have HR : Hid (cmpP xs ys = (m : Int) - (n : Int)) := hid (by
        rw [HE.out, List.drop_of_length_le (l := xs) (by rw [← HN.out]; omega)]
        cases hd : ys.drop t with
        | nil =>
          have := congrArg List.length hd
          rw [List.length_drop, ← HM.out] at this
          simp at this
          show (([] : List Int).length : Int) = _
          simp; omega
        | cons y l =>
          have := congrArg List.length hd
          rw [List.length_drop, ← HM.out] at this
          show ((y :: l : List Int).length : Int) = _
          omega)
      clear h1
      go_wp2_with fail
      go_ret
      exact ⟨by rw [HR.out] <;> go_num, HB.out⟩
theorem refSame16_any (ok ok' : Nat → Prop) (x : World) (a b : Option Addr) (c d : Nat) (xs ys : List Int) (hs : Si ok x a xs) (ht : Si ok' x b ys) (hx : ∀ z ∈ xs, 0 ≤ z ∧ z ≤ 65535) (hy : ∀ z ∈ ys, 0 ≤ z ∧ z ≤ 65535) (hl : (xs.length : Int) ≤ 65536) (hl' : (ys.length : Int) ≤ 65536) :
    Calls Try.prog 51 #[.slice a xs.length c, .slice b ys.length d] x fun e w' => e = .returned (.bool (decide (xs = ys))) ∧ Below x.heap.size x w' := by
  have HC := hid (refCompare_any ok ok' x a b c d xs ys hs ht hx hy hl hl')
  by_cases hln : xs.length = ys.length
  · have HLN := hid hln
    by_cases he : xs = ys
    · have HE : Hid (decide (xs = ys) = true) := hid (decide_eq_true he)
      rw [he, cmpP_self] at HC
      rw [hln]
      generalize ys.length = n at *
      clear hs ht hx hy hl hl' hln he HLN
      go_enter Try.func51, Try.ntmps51
      go_wp2_with fail
      refine HC.out.mono ?_
      rintro e w' ⟨rfl, hb⟩
      have HB := hid hb
      clear hb HC
      go_wp2_with fail
      go_ret
      exact ⟨by rw [HE.out] <;> rfl, HB.out⟩
    · have HE : Hid (decide (xs = ys) = false) := hid (decide_eq_false he)
      have hz : cmpP xs ys ≠ 0 := fun h => he (cmp_zero hln h)
      have hzb : (cmpP xs ys == 0) = false := by rw [beq_eq_false_iff_ne]; exact hz
      generalize cmpP xs ys = r at *
      rw [hln] at HC ⊢
      generalize ys.length = n at *
      clear hs ht hx hy hl hl' hln he HLN hz
      go_enter Try.func51, Try.ntmps51
      go_wp2_with fail
      refine HC.out.mono ?_
      rintro e w' ⟨rfl, hb⟩
      have HB := hid hb
      clear hb HC
      go_wp2_with fail
      go_ret
      exact ⟨by rw [HE.out] <;> rfl, HB.out⟩
  · have HE : Hid (decide (xs = ys) = false) := hid (decide_eq_false fun h => hln (by rw [h]))
    have hlb : ((xs.length : Int) == (ys.length : Int)) = false := by rw [beq_eq_false_iff_ne]; omega
    have hln' : (xs.length = ys.length) = False := eq_false hln
    generalize xs.length = n at *
    generalize ys.length = m at *
    clear hs ht hx hy hl hl' hln HC
    go_enter Try.func51, Try.ntmps51
    go_wp2_with fail
    go_ret
    exact ⟨by rw [HE.out] <;> rfl, Below.refl _ _⟩
end Go.Proofs.Ytmllpednaibeeaa
namespace Go.Proofs.Ytmllpednaibeeaa
open Go.RowKit Go.Inc
set_option maxRecDepth 20000 in
set_option maxHeartbeats 2000000 in
/-- The law's text: a right one, of at most 121 codes. -/
theorem text17_any (ok : Nat → Prop) (x : World) (v : Value) (zs : List Int) (s : Int) (hv : So ok x v zs) :
    Calls Try.prog 8 #[v, .int .i64 s] x fun e w' => ∃ u m, e = .returned u ∧ So (fun g => x.heap.size ≤ g) w' u (zsN (m ++ [0])) ∧ (∀ z ∈ m, 1 ≤ z ∧ z ≤ 100) ∧ m.length ≤ 120 ∧ Below x.heap.size x w' := by
  obtain ⟨p, c, rfl, hs, -, -, -⟩ := hv
  have HS := hid hs
  obtain ⟨n, hnn⟩ : ∃ n, n = zs.length := ⟨_, rfl⟩
  have HN := hid hnn
  rw [← hnn]
  obtain ⟨r, hr, hr9⟩ := u64_rem s (m := 9) (by decide)
  obtain ⟨g, hg⟩ : ∃ g : Nat, g = r + 1 := ⟨_, rfl⟩
  have hg1 : (1 : Int) + (r : Int) = (g : Int) := by omega
  have hgb : (g : Int) ≤ 9 := by omega
  have hg0 : (0 : Int) < (g : Int) := by omega
  have hgw : IntKind.u64.wrap (g : Int) = (g : Int) := by rw [IntKind.wrap_u64]; omega
  have hgz : ((g : Int) = 0) = False := eq_false (by omega)
  have hri : IntKind.i64.wrap (r : Int) = (r : Int) := by rw [IntKind.wrap_i64]; omega
  clear hs hnn hg
  go_enter Try.func8, Try.ntmps8
  go_wp2_with fail
  go_loopw [5, 6] (fun u i wr => ∃ (t : Nat) (m : List Nat), t ≤ n ∧ t ≤ 120 ∧ i = .int .i64 (t : Int) ∧ m.length = t ∧ (∀ z ∈ m, 1 ≤ z ∧ z ≤ 100) ∧ wr.ownsRow x.heap.size 3 1 u t (nvals m) ∧ Below x.heap.size x wr) (fun _ i _ => n - (intOf i).toNat)
  case atStart => exact ⟨0, [], Nat.zero_le _, Nat.zero_le _, rfl, rfl, (fun z h => by cases h), World.ownsRow_nil _ _ _ _, Below.refl _ _⟩
  case round =>
    obtain ⟨t, m, htn, ht, rfl, hml, hmz, hu, hb⟩ := hrel
    have HU := hid hu
    have HB := hid hb
    have HMZ := hid hmz
    have HML := hid hml
    have htb : (t : Int) ≤ 120 := by omega
    clear hu hb hmz hml
    by_cases h1 : t < n ∧ t < 120
    · have h1t : (t < n) = True := eq_true h1.1
      have h2t : ((t : Int) < 120) = True := eq_true (by omega)
      have HLT := hid h1
      obtain ⟨pb, po, rfl, hc⟩ : ∃ pb po, p = some ⟨pb, po, none⟩ ∧ wr.cell? ⟨pb, po + t, none⟩ = some (.int .i64 (zs.getD t 0)) := by
        rcases HS.out.below HB.out with h | ⟨b, o, h, -, hc⟩
        · have := HN.out; rw [h] at this; simp at this; omega
        · exact ⟨b, o, h, hc t (by rw [← HN.out]; exact h1.1)⟩
      obtain ⟨z, hz⟩ : ∃ z, z = zs.getD t 0 := ⟨_, rfl⟩
      rw [← hz] at hc
      obtain ⟨q, hq, hq9⟩ := u64_rem z (m := (g : Int)) hg0
      obtain ⟨y, hy⟩ : ∃ y : Nat, y = q + 1 := ⟨_, rfl⟩
      have hy1 : (1 : Int) + (q : Int) = (y : Int) := by omega
      have hyi : IntKind.i64.wrap (q : Int) = (q : Int) := by rw [IntKind.wrap_i64]; omega
      have hyb : (y : Int) ≤ 100 := by omega
      have HY : Hid (1 ≤ y ∧ y ≤ 100) := hid (by omega)
      clear h1 hz hy
      go_wp2_with (refine wpList_append_any rfl (.tmp 22) (.tmp 33) 22 rfl x.heap.size 3 (.int .i64 0) 8 Try.underlying22 infoIntS rfl _ _ _ rfl (HU.out.alloc _) (some ⟨wr.heap.size, 0, none⟩) 1 1 [.int .i64 (y : Int)] rfl rfl (by intro h; cases h) (one_new wr _ _) (by simp [Value.oneCell']) (by unfold maxLen; omega) (by omega) (by have := HB.out.size; simp; omega) ?_)
      intro v4 w4 hv4 hg4 _
      have HB4 := hid (below_owned (w0 := x) (HB.out.alloc HB.out.size _) (HU.out.alloc _) (Nat.le_refl _) hg4)
      have HV4 : Hid (w4.ownsRow x.heap.size 3 1 v4 (t + 1) (nvals (m ++ [y]))) := hid (by rw [nvals_snoc]; exact hv4)
      clear hv4 hg4 HU HB
      go_wp2_with fail
      go_roundw
      case rel => exact ⟨t + 1, m ++ [y], HLT.out.1, HLT.out.2, by go_num, by rw [List.length_append, HML.out]; rfl, fun z hz => (by
        rcases List.mem_append.1 hz with h | h
        · exact HMZ.out z h
        · rw [List.mem_singleton.1 h]; exact HY.out), HV4.out, HB4.out⟩
      case measure => simp [intOf]; have := HLT.out; omega
    · have fin : ∀ (v4 : Value) (w4 : World), w4.ownsRow x.heap.size 3 1 v4 (t + 1) (nvals m ++ [.int .i64 0]) → Below x.heap.size x w4 → ∃ u m, Ending.returned v4 = .returned u ∧ So (fun g => x.heap.size ≤ g) w4 u (zsN (m ++ [0])) ∧ (∀ z ∈ m, 1 ≤ z ∧ z ≤ 100) ∧ m.length ≤ 120 ∧ Below x.heap.size x w4 := fun v4 w4 hv hb => ⟨v4, m, rfl, So.ownedN (n := t + 1) (e := 3) (by rw [nvals_snoc]; exact hv), HMZ.out, by rw [HML.out]; exact ht, hb⟩
      have FIN := hid fin
      clear fin
      by_cases h2 : t < n
      · have h1t : (t < n) = True := eq_true h2
        have h2t : ((t : Int) < 120) = False := eq_false (by omega)
        clear h1 h2
        go_wp2_with (refine wpList_append_any rfl (.tmp 35) (.tmp 36) 22 rfl x.heap.size 3 (.int .i64 0) 8 Try.underlying22 infoIntS rfl _ _ _ rfl (HU.out.alloc _) (some ⟨wr.heap.size, 0, none⟩) 1 1 [.int .i64 0] rfl rfl (by intro h; cases h) (one_new wr _ _) (by simp [Value.oneCell']) (by unfold maxLen; omega) (by omega) (by have := HB.out.size; simp; omega) ?_)
        intro v4 w4 hv4 hg4 _
        have HB4 := hid (below_owned (w0 := x) (HB.out.alloc HB.out.size _) (HU.out.alloc _) (Nat.le_refl _) hg4)
        have HV4 := hid hv4
        clear hv4 hg4 HU HB
        go_wp2_with fail
        go_ret
        exact FIN.out _ _ HV4.out HB4.out
      · have h1t : (t < n) = False := eq_false h2
        clear h1 h2
        go_wp2_with (refine wpList_append_any rfl (.tmp 35) (.tmp 36) 22 rfl x.heap.size 3 (.int .i64 0) 8 Try.underlying22 infoIntS rfl _ _ _ rfl (HU.out.alloc _) (some ⟨wr.heap.size, 0, none⟩) 1 1 [.int .i64 0] rfl rfl (by intro h; cases h) (one_new wr _ _) (by simp [Value.oneCell']) (by unfold maxLen; omega) (by omega) (by have := HB.out.size; simp; omega) ?_)
        intro v4 w4 hv4 hg4 _
        have HB4 := hid (below_owned (w0 := x) (HB.out.alloc HB.out.size _) (HU.out.alloc _) (Nat.le_refl _) hg4)
        have HV4 := hid hv4
        clear hv4 hg4 HU HB
        go_wp2_with fail
        go_ret
        exact FIN.out _ _ HV4.out HB4.out
end Go.Proofs.Ytmllpednaibeeaa
namespace Go.Proofs.Ytmllpednaibeeaa
open Go.RowKit Go.Inc
set_option maxRecDepth 20000 in
set_option maxHeartbeats 4000000 in
theorem saisChecks_walk (ps : PS17) (W : World) (p : Option Addr) (c : Nat) (zs0 : List Int) (hz : ∀ z ∈ zs0, i64s z) (hs : Si (fun _ => True) W p zs0) (hlc : zs0.length ≤ c) (hcm : c ≤ maxLen) (hn : p = none → c = 0) :
    Calls Try.prog 7 #[.slice p zs0.length c] W fun e w' => e = .returned (.bool true) ∧ Below W.heap.size W w' := by
  have HXL : Hid ((zs0.take 60).length ≤ 65536) := hid (by rw [List.length_take]; omega)
  have HXZ : Hid (∀ z ∈ zs0.take 60, i64s z) := hid (fun z h => hz z (List.mem_of_mem_take h))
  have HLX : Hid ((zs0.take 60).length = min zs0.length 60) := hid (by rw [List.length_take, Nat.min_comm])
  have HS := hid (hs.front 60)
  have HN := hid hn
  obtain ⟨X, hX⟩ : ∃ X, X = zs0.take 60 := ⟨_, rfl⟩
  rw [← hX] at HXL HXZ HS HLX
  obtain ⟨n, hnn⟩ : ∃ n, n = zs0.length := ⟨_, rfl⟩
  rw [← hnn] at HLX hlc ⊢
  obtain ⟨k, hk⟩ : ∃ k, k = min n 60 := ⟨_, rfl⟩
  rw [← hk] at HLX
  have hmin : min (n : Int) 60 = (k : Int) := by omega
  have hcm' : c ≤ 9223372036854775807 := by unfold maxLen at hcm; omega
  have hkc : (k : Int) ≤ (c : Int) := by omega
  have hkn : k ≤ c := by omega
  have hkb : (k : Int) ≤ 60 := by omega
  have HM := hid hcm
  clear hs hn hcm hnn hk hX hz
  go_enter Try.func7, Try.ntmps7
  go_upto_region 1 with fail
  go_cut [0] from 10 to 14 (fun v wc => So (fun _ => True) wc v X ∧ Below W.heap.size W wc)
  case first =>
    have HF : Hid (So (fun _ => True) W (.slice p k c) X) := hid ⟨p, c, by rw [HLX.out], HS.out, by rw [HLX.out]; exact hkn, HM.out, HN.out⟩
    have HB0 := hid (Below.refl W.heap.size W)
    cases p with
    | none =>
      obtain rfl : c = 0 := HN.out rfl
      obtain rfl : k = 0 := by omega
      go_wp2_with fail
      go_meet
      exact ⟨HF.out, HB0.out⟩
    | some a =>
      go_wp2_with fail
      go_meet
      exact ⟨HF.out, HB0.out⟩
  case rest =>
    clear hmin hcm' hkc hkn hlc HM HS HN
    obtain ⟨hv, hb⟩ := hcut
    generalize u0 = v at *
    generalize wc = w1 at *
    have HV1 := hid hv
    have HB1 := hid hb
    have HC := hid (refCheck_so _ w1 v X hv HXL.out)
    clear hv hb
    by_cases hck : ckT X = 0
    · rw [hck] at HC
      have HI := hid (InT.of hck)
      go_wp2_with fail
      refine HC.out.mono ?_
      rintro e w' ⟨rfl, rfl⟩
      have HC := hid (ps.pOrder _ w1 v X HV1.out HXL.out hck)
      obtain ⟨S, hS⟩ : ∃ S, S = srT X X.length := ⟨_, rfl⟩
      have HSE := hid hS
      have HSL : Hid ((zsN S).length ≤ 65536) := hid (by rw [zsN_len, hS, srT_len]; exact HXL.out)
      rw [← hS] at HC
      clear hS
      go_wp2_with fail
      refine HC.out.mono ?_
      rintro e w2 ⟨u2, rfl, h2, hb⟩
      have HO2 := hid h2
      have HV2 := hid (HV1.out.below hb)
      have HB2 := hid (HB1.out.trans (hb.mono HB1.out.size))
      have HC := hid (ps.pLevels _ w2 v X HV2.out HXL.out hck)
      clear hb h2 HV1 HB1
      go_wp2_with fail
      refine HC.out.mono ?_
      rintro e w3 ⟨u3, rfl, -, hb⟩
      have HO3 := hid (HO2.out.below hb)
      have HV3 := hid (HV2.out.below hb)
      have HB3 := hid (HB2.out.trans (hb.mono HB2.out.size))
      have HC := hid (ps.pRanks _ w3 v X HV3.out HXL.out hck)
      clear hb HV2 HB2 HO2
      go_wp2_with fail
      refine HC.out.mono ?_
      rintro e w4 ⟨u4, rfl, -, hb⟩
      have HO4 := hid (HO3.out.below hb)
      have HV4 := hid (HV3.out.below hb)
      have HB4 := hid (HB3.out.trans (hb.mono HB3.out.size))
      have HC := hid (known17_any ps w4)
      clear hb HV3 HB3 HO3
      go_wp2_with fail
      refine HC.out.mono ?_
      rintro e w5 ⟨rfl, hb⟩
      have HO5 := hid (HO4.out.below hb)
      have HV5 := hid (HV4.out.below hb)
      have HB5 := hid (HB4.out.trans (hb.mono HB4.out.size))
      have HC := hid (refSort_so _ w5 v X HV5.out HXL.out HI.out.right)
      rw [← HSE.out] at HC
      clear hb HV4 HB4 HO4
      go_wp2_with fail
      refine HC.out.mono ?_
      rintro e w6 ⟨u6, rfl, h6, hb⟩
      have HB6 := hid (HB5.out.trans (hb.mono HB5.out.size))
      have HC := hid (same_so _ _ w6 u2 u6 _ _ (HO5.out.below hb) h6 (by have := HSL.out; omega))
      rw [decide_eq_true rfl] at HC
      clear hb h6 HV5 HB5 HO5
      go_wp2_with fail
      refine HC.out.mono ?_
      rintro e w7 ⟨rfl, hb⟩
      have HB7 := hid (HB6.out.trans (hb.mono HB6.out.size))
      clear hb HC HB6
      go_wp2_with fail
      go_ret
      exact ⟨rfl, HB7.out⟩
    · obtain ⟨k, hk⟩ : ∃ k, k = ckT X := ⟨_, rfl⟩
      rw [← hk] at HC
      have hk0 : ((k : Int) != 0) = true := by rw [bne_iff_ne]; omega
      have hk1 : ((k : Int) != (k : Int)) = false := bne_self_eq_false _
      have HK := hid hk
      clear hk
      go_wp2_with fail
      refine HC.out.mono ?_
      rintro e w' ⟨rfl, rfl⟩
      have HC := hid (ps.pOrderE _ w1 v X HV1.out HXL.out HXZ.out hck)
      rw [← HK.out] at HC
      go_wp2_with fail
      refine HC.out.mono ?_
      rintro e w2 ⟨u2, rfl, h2, hb⟩
      obtain ⟨a2, c2, rfl, -⟩ := h2
      have HV2 := hid (HV1.out.below hb)
      have HB2 := hid (HB1.out.trans (hb.mono HB1.out.size))
      have HC := hid (ps.pLevelsE _ w2 v X HV2.out HXL.out HXZ.out hck)
      rw [← HK.out] at HC
      rw [show ([] : List Int).length = 0 from rfl]
      clear hb HV1 HB1
      go_wp2_with fail
      refine HC.out.mono ?_
      rintro e w3 ⟨u3, rfl, hb⟩
      have HV3 := hid (HV2.out.below hb)
      have HB3 := hid (HB2.out.trans (hb.mono HB2.out.size))
      have HC := hid (ps.pRanksE _ w3 v X HV3.out HXL.out HXZ.out hck)
      rw [← HK.out] at HC
      clear hb HV2 HB2
      go_wp2_with fail
      refine HC.out.mono ?_
      rintro e w4 ⟨u4, rfl, hb⟩
      have HB4 := hid (HB3.out.trans (hb.mono HB3.out.size))
      have HC := hid (known17_any ps w4)
      clear hb HV3 HB3
      go_wp2_with fail
      refine HC.out.mono ?_
      rintro e w5 ⟨rfl, hb⟩
      have HB5 := hid (HB4.out.trans (hb.mono HB4.out.size))
      clear hb HC HB4
      go_wp2_with fail
      go_ret
      exact ⟨rfl, HB5.out⟩
end Go.Proofs.Ytmllpednaibeeaa
