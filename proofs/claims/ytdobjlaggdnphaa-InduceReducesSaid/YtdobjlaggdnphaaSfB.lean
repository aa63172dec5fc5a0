/- CONTRACTS: the document's Kinds and Firsts. -/
import Derived.Test.YtdobjlaggdnphaaSfA
import Derived.Deep.OwnRows
namespace Go.Inc
open Go.RowKit
def kdTo (x : List Int) (t : Nat) : List Bool := (List.range t).map (kdT x)
theorem kdTo_succ (x : List Int) (t : Nat) : kdTo x (t + 1) = kdTo x t ++ [kdT x t] := by unfold kdTo; rw [List.range_succ, List.map_append]; rfl
theorem kdTo_len (x : List Int) (t : Nat) : (kdTo x t).length = t := by simp [kdTo]
theorem kdTo_get {x : List Int} {t i : Nat} (h : i < t) : inB (kdTo x t) i = kdT x i := by
  unfold inB kdTo
  rw [List.getD_eq_getElem?_getD, List.getElem?_map, List.getElem?_range h]; rfl
theorem bvals_snoc (m : List Bool) (b : Bool) : bvals (m ++ [b]) = bvals m ++ [.bool b] := by simp [bvals]
theorem fsT_succ (x : List Int) (n : Nat) : fsT x (n + 1) = if 0 < n ∧ kdT x n = true ∧ kdT x (n - 1) = false then fsT x n ++ [n] else fsT x n := rfl
theorem fsT_len (x : List Int) : ∀ n, (fsT x n).length ≤ n
  | 0 => Nat.le_refl _
  | n + 1 => by
    have := fsT_len x n
    rw [fsT_succ]
    split
    · simp; omega
    · omega
end Go.Inc
namespace Go.Proofs.Ytdobjlaggdnphaa
open Go.RowKit Go.Inc
theorem infoIntS : (Try.prog.info? 3).map (fun i => (i.zero, i.size, i.bytes)) = some (some (.int .i64 0), 1, 8) := by kernel_rfl
theorem infoBoolS : (Try.prog.info? 4).map (fun i => (i.zero, i.size, i.bytes)) = some (some (.bool false), 1, 1) := by kernel_rfl
set_option maxRecDepth 20000 in
set_option maxHeartbeats 2000000 in
theorem refKinds_any (ok : Nat → Prop) (x : World) (p : Option Addr) (c : Nat) (zs : List Int) (hs : Si ok x p zs) (hr : RtL zs) (hl : (zs.length : Int) ≤ 65536) :
    Calls Try.prog 32 #[.slice p zs.length c] x fun e w' => ∃ u, e = .returned u ∧ w'.ownsRow x.heap.size 4 1 u zs.length (bvals (kdTo zs zs.length)) ∧ Below x.heap.size x w' := by
  have HLS := hid (fun (y : World) (hy : Below x.heap.size x y) (t : Nat) (h : t + 1 < zs.length) => refLess_any _ y p c zs t (t + 1) (hs.below hy) hr hl (by omega) h)
  obtain ⟨n, hn⟩ : ∃ n, n = zs.length := ⟨_, rfl⟩
  have HN := hid hn
  have HKD := hid (fun (t : Nat) => show kdT zs t = (decide (t + 1 = n) || lsT zs t (t + 1)) from by rw [hn]; rfl)
  rw [← hn] at hl HLS ⊢
  clear hs hn hr
  go_enter Try.func32, Try.ntmps32
  go_wp2_with fail
  go_loopw [3, 4] (fun u i wr => ∃ t : Nat, t ≤ n ∧ i = .int .i64 (t : Int) ∧ wr.ownsRow x.heap.size 4 1 u t (bvals (kdTo zs t)) ∧ Below x.heap.size x wr) (fun _ i _ => n - (intOf i).toNat)
  case atStart => exact ⟨0, Nat.zero_le _, rfl, World.ownsRow_nil _ _ _ _, Below.refl _ _⟩
  case round =>
    obtain ⟨t, ht, rfl, hu, hb⟩ := hrel
    have HU := hid hu
    have HB := hid hb
    clear hu hb
    by_cases hlt : t < n
    · have hti : (t < n) = True := eq_true hlt
      have HLT := hid hlt
      have htb : (t : Int) ≤ 65536 := by omega
      have HKT := hid (HKD.out t)
      by_cases he : t + 1 = n
      · have hbe : ((t : Int) == (n : Int) - 1) = true := by rw [beq_iff_eq]; omega
        have HK1 : Hid (kdTo zs (t + 1) = kdTo zs t ++ [true]) := hid (by rw [kdTo_succ, HKT.out, decide_eq_true he, Bool.true_or])
        clear hlt he
        go_wp2_with (refine wpList_append_any rfl (.tmp 11) (.tmp 24) 52 rfl x.heap.size 4 (.bool false) 1 Try.underlying52 infoBoolS rfl _ _ _ rfl (HU.out.alloc _) (some ⟨wr.heap.size, 0, none⟩) 1 1 [.bool true] rfl rfl (by intro h; cases h) (one_new wr _ _) (by simp [Value.oneCell']) (by unfold maxLen; omega) (by omega) (by have := HB.out.size; simp; omega) ?_)
        intro v4 w4 hv4 hg4 _
        have HB4 := hid (below_owned (w0 := x) (HB.out.alloc HB.out.size _) (HU.out.alloc _) (Nat.le_refl _) hg4)
        have HV4 : Hid (w4.ownsRow x.heap.size 4 1 v4 (t + 1) (bvals (kdTo zs (t + 1)))) := hid (by rw [HK1.out, bvals_snoc]; exact hv4)
        clear hv4 hg4 HU HB
        go_wp2_with fail
        go_roundw
        case rel => exact ⟨t + 1, HLT.out, by go_num, HV4.out, HB4.out⟩
        case measure => simp [intOf]; have := HLT.out; omega
      · have hbe : ((t : Int) == (n : Int) - 1) = false := by rw [beq_eq_false_iff_ne]; omega
        have HLC := hid (by have h := HLS.out wr HB.out t (by omega); rw [show ((t + 1 : Nat) : Int) = (t : Int) + 1 from by omega] at h; exact h)
        obtain ⟨q, hq⟩ : ∃ q, q = lsT zs t (t + 1) := ⟨_, rfl⟩
        have HK1 : Hid (kdTo zs (t + 1) = kdTo zs t ++ [q]) := hid (by rw [kdTo_succ, HKT.out, decide_eq_false he, Bool.false_or, hq])
        rw [← hq] at HLC
        clear hlt he hq HKT
        go_wp2_with fail
        refine HLC.out.mono ?_
        rintro e w1 ⟨rfl, hb1⟩
        have HB1 := hid (HB.out.trans (hb1.mono HB.out.size))
        have HU1 : Hid (w1.ownsRow x.heap.size 4 1 _ t (bvals (kdTo zs t))) := hid (owns_mv (F := fun _ => False) HU.out (Mv.of_below hb1) (fun _ _ => id))
        clear HLC hb1 HU HB
        go_wp2_with (refine wpList_append_any rfl (.tmp 11) (.tmp 24) 52 rfl x.heap.size 4 (.bool false) 1 Try.underlying52 infoBoolS rfl _ _ _ rfl (HU1.out.alloc _) (some ⟨w1.heap.size, 0, none⟩) 1 1 [.bool q] rfl rfl (by intro h; cases h) (one_new w1 _ _) (by simp [Value.oneCell']) (by unfold maxLen; omega) (by omega) (by have := HB1.out.size; simp; omega) ?_)
        intro v4 w4 hv4 hg4 _
        have HB4 := hid (below_owned (w0 := x) (HB1.out.alloc HB1.out.size _) (HU1.out.alloc _) (Nat.le_refl _) hg4)
        have HV4 : Hid (w4.ownsRow x.heap.size 4 1 v4 (t + 1) (bvals (kdTo zs (t + 1)))) := hid (by rw [HK1.out, bvals_snoc]; exact hv4)
        clear hv4 hg4 HU1 HB1
        go_wp2_with fail
        go_roundw
        case rel => exact ⟨t + 1, HLT.out, by go_num, HV4.out, HB4.out⟩
        case measure => simp [intOf]; have := HLT.out; omega
    · have hti : (t < n) = False := eq_false hlt
      obtain rfl : t = n := by omega
      clear hlt
      go_wp2_with fail
      go_ret
      exact ⟨_, rfl, HU.out, HB.out⟩
set_option maxRecDepth 20000 in
set_option maxHeartbeats 2000000 in
theorem refFirsts_any (ok : Nat → Prop) (x : World) (p : Option Addr) (c : Nat) (zs : List Int) (hs : Si ok x p zs) (hr : RtL zs) (hl : (zs.length : Int) ≤ 65536) :
    Calls Try.prog 14 #[.slice p zs.length c] x fun e w' => ∃ u, e = .returned u ∧ w'.ownsRow x.heap.size 3 1 u (fsT zs zs.length).length (nvals (fsT zs zs.length)) ∧ Below x.heap.size x w' := by
  have HKC := hid (refKinds_any ok x p c zs hs hr hl)
  obtain ⟨n, hn⟩ : ∃ n, n = zs.length := ⟨_, rfl⟩
  have h0 : 0 < n := by rw [hn]; exact hr.1
  rw [← hn] at hl HKC ⊢
  clear hs hn hr
  go_enter Try.func14, Try.ntmps14
  go_wp2_with fail
  refine HKC.out.mono ?_
  rintro e w1 ⟨k, rfl, hk, hb⟩
  obtain ⟨ka, kc, rfl, hkn, -, -, -, hkb⟩ := Bl.owned hk
  have HKL : Hid ((kdTo zs n).length = n) := hid (kdTo_len _ _)
  rw [HKL.out]
  obtain ⟨pb, po, rfl, hc⟩ : ∃ pb po, ka = some ⟨pb, po, none⟩ ∧ ∀ y, Below w1.heap.size w1 y → ∀ i, i < n → y.cell? ⟨pb, po + i, none⟩ = some (.bool (kdT zs i)) := by
    rcases hkb with h | ⟨b, o, h, -, hc⟩
    · have := HKL.out; rw [h] at this; simp at this; omega
    · refine ⟨b, o, h, fun y hy i hi => ?_⟩
      have h1 := hc i (by rw [HKL.out]; exact hi)
      rw [kdTo_get hi] at h1
      rw [World.cell?_of_block (hy.block b (cell_lt h1))]; exact h1
  have HC := hid hc
  have HBX := hid hb
  clear hk hkn hkb hc HKC HKL hb
  go_wp2_with fail
  go_loopw [4, 5] (fun u i wr => ∃ t : Nat, t + 1 ≤ n ∧ i = .int .i64 ((t : Int) + 1) ∧ wr.ownsRow w1.heap.size 3 1 u (fsT zs (t + 1)).length (nvals (fsT zs (t + 1))) ∧ Below w1.heap.size w1 wr) (fun _ i _ => n - (intOf i).toNat)
  case atStart => exact ⟨0, h0, rfl, World.ownsRow_nil _ _ _ _, Below.refl _ _⟩
  case round =>
    obtain ⟨t, ht, rfl, hu, hb⟩ := hrel
    have HU := hid hu
    have HB := hid hb
    have hcc := HC.out _ hb
    have HFL := hid (fsT_len zs (t + 1))
    have htb : (t : Int) ≤ 65536 := by omega
    clear hu hb
    by_cases hlt : t + 1 < n
    · have hti : ((t : Int) + 1 < (n : Int)) = True := eq_true (by omega)
      have HLT := hid hlt
      have hc1 := hcc (t + 1) hlt
      have hc2 := hcc t (by omega)
      have hm1 : (t : Int) + 1 - 1 = (t : Int) := by omega
      have HF := hid (fsT_succ zs (t + 1))
      cases hk1 : kdT zs (t + 1)
      · rw [hk1] at hc1
        have HF2 : Hid (fsT zs (t + 2) = fsT zs (t + 1)) := hid (by rw [HF.out, hk1, if_neg (by simp)])
        clear hcc hlt hk1 HF
        go_wp2_with fail
        go_roundw
        case rel => exact ⟨t + 1, HLT.out, by go_num, by rw [HF2.out]; exact HU.out, HB.out⟩
        case measure => simp [intOf]; have := HLT.out; omega
      · rw [hk1] at hc1
        cases hk2 : kdT zs t
        · rw [hk2] at hc2
          have HF2 : Hid (fsT zs (t + 2) = fsT zs (t + 1) ++ [t + 1]) := hid (by rw [HF.out, hk1, Nat.add_sub_cancel, hk2, if_pos ⟨by omega, rfl, rfl⟩])
          clear hcc hlt hk1 hk2 HF
          go_wp2_with (refine wpList_append_any rfl (.tmp 26) (.tmp 28) 22 rfl w1.heap.size 3 (.int .i64 0) 8 Try.underlying22 infoIntS rfl _ _ _ rfl (HU.out.alloc _) (some ⟨wr.heap.size, 0, none⟩) 1 1 [.int .i64 ((t : Int) + 1)] rfl rfl (by intro h; cases h) (one_new wr _ _) (by simp [Value.oneCell']) (by have := HFL.out; unfold maxLen; omega) (by have := HFL.out; omega) (by have := HB.out.size; simp; omega) ?_)
          intro v4 w4 hv4 hg4 _
          have HB4 := hid (below_owned (w0 := w1) (HB.out.alloc HB.out.size _) (HU.out.alloc _) (Nat.le_refl _) hg4)
          have HV4 : Hid (w4.ownsRow w1.heap.size 3 1 v4 (fsT zs (t + 2)).length (nvals (fsT zs (t + 2)))) := hid (by rw [HF2.out, nvals_snoc, List.length_append]; exact hv4)
          clear hv4 hg4 HU HB
          go_wp2_with fail
          go_roundw
          case rel => exact ⟨t + 1, HLT.out, by go_num, HV4.out, HB4.out⟩
          case measure => simp [intOf]; have := HLT.out; omega
        · rw [hk2] at hc2
          have HF2 : Hid (fsT zs (t + 2) = fsT zs (t + 1)) := hid (by rw [HF.out, hk1, Nat.add_sub_cancel, hk2, if_neg (by simp)])
          clear hcc hlt hk1 hk2 HF
          go_wp2_with fail
          go_roundw
          case rel => exact ⟨t + 1, HLT.out, by go_num, by rw [HF2.out]; exact HU.out, HB.out⟩
          case measure => simp [intOf]; have := HLT.out; omega
    · have hti : ((t : Int) + 1 < (n : Int)) = False := eq_false (by omega)
      obtain rfl : t + 1 = n := by omega
      clear hlt hcc
      go_wp2_with fail
      go_ret
      exact ⟨_, rfl, own_weaken HU.out HBX.out.size, HBX.out.trans (HB.out.mono HBX.out.size)⟩
end Go.Proofs.Ytdobjlaggdnphaa

