/- CONTRACTS (suffix, as it landed): a text's first Ss; Kinds and Firsts. -/
import Derived.Test.YtdobjlaggdnphaaSuB
namespace Go.Proofs.Ytdobjlaggdnphaa
open Go.RowKit Go.Inc
set_option maxRecDepth 20000 in
set_option maxHeartbeats 2000000 in
theorem firsts_any (ok : Nat → Prop) (x : World) (p : Option Addr) (c : Nat) (zs : List Int) (hs : Si ok x p zs) (hr : RtL zs) (hl : (zs.length : Int) ≤ 65536) :
    Calls Try.prog 46 #[.slice p zs.length c] x fun e w' => ∃ u, e = .returned u ∧ w'.ownsRow x.heap.size 3 1 u (fsT zs zs.length).length (nvals (fsT zs zs.length)) ∧ Below x.heap.size x w' := by
  have HKC := hid (kinds_any ok x p c zs hs hr hl)
  have HLA := hid (fun (i : Nat) h => kdT_last (x := zs) (i := i) h)
  obtain ⟨n, hn⟩ : ∃ n, n = zs.length := ⟨_, rfl⟩
  have h0 : 0 < n := by rw [hn]; exact hr.1
  rw [← hn] at hl HKC HLA ⊢
  clear hs hn hr
  go_enter Try.func46, Try.ntmps46
  go_wp2_with fail
  go_step3
  go_wp2_with fail
  refine HKC.out.mono ?_
  rintro e w1 ⟨k, rfl, hk, hb⟩
  obtain ⟨ka, kc, rfl, hkn, -, -, -, hkb⟩ := Bl.owned hk
  have HKL : Hid ((kdTo zs n).length = n) := hid (kdTo_len _ _)
  rw [HKL.out]
  obtain ⟨pb, po, rfl, hc⟩ : ∃ pb po, ka = some ⟨pb, po, none⟩ ∧ ∀ y, Below w1.heap.size w1 y → ∀ i, i < n → y.cell? ⟨pb, po + i, none⟩ = some (.bool (kdT zs i)) := by
    rcases hkb with h | ⟨b, o, h, -, hc⟩
    · have := HKL.out; rw [h] at this; simp at this; omega
    · refine ⟨b, o, h, fun y hy i hi => ?_⟩
      have h1 := hc i (by rw [HKL.out]; exact hi)
      rw [kdTo_get hi] at h1
      rw [World.cell?_of_block (hy.block b (cell_lt h1))]; exact h1
  have HC := hid hc
  have HBX := hid hb
  clear hk hkn hkb hc HKC HKL hb
  go_wp2_with fail
  go_step3
  go_wp2_with fail
  go_loopw [3, 5] (fun u i wr => ∃ t : Nat, t < n ∧ i = .int .i64 (t : Int) ∧ wr.ownsRow w1.heap.size 3 1 u (fsT zs (t + 1)).length (nvals (fsT zs (t + 1))) ∧ Below w1.heap.size w1 wr) (fun _ i _ => n - (intOf i).toNat)
  case atStart => exact ⟨0, h0, rfl, World.ownsRow_nil _ _ _ _, Below.refl _ _⟩
  case round =>
    obtain ⟨t, ht, rfl, hu, hb⟩ := hrel
    have HU := hid hu
    have HB := hid hb
    have HCC := hid (HC.out _ hb)
    have HT := hid ht
    clear hu hb ht
    have HFL := hid (fsT_len zs (t + 1))
    have HNX := hid (fun (r : Nat) => fsT_succ zs r)
    go_wp2_with fail
    go_loop [5] (fun i => ∃ s : Nat, t ≤ s ∧ s < n ∧ i = .int .i64 (s : Int) ∧ fsT zs (s + 1) = fsT zs (t + 1)) (fun i => n - (intOf i).toNat)
    case atStart => exact ⟨t, Nat.le_refl _, HT.out, rfl, rfl⟩
    case round =>
      obtain ⟨s, hts, hsn, rfl, hfs⟩ := hrel
      have HTS := hid hts
      have HSN := hid hsn
      have HFS := hid hfs
      have hc1 := HCC.out s hsn
      have hsb : (s : Int) ≤ 65536 := by omega
      clear hts hfs
      cases hk : kdT zs s
      · rw [hk] at hc1
        have HK := hid hk
        have HF0 : Hid (fsT zs s = fsT zs (t + 1)) := hid (by rw [← HFS.out, HNX.out, hk, if_neg (by simp)])
        clear hk hsn
        go_wp2_with fail
        go_loop [5] (fun i => ∃ r : Nat, s ≤ r ∧ r < n ∧ i = .int .i64 (r : Int) ∧ fsT zs r = fsT zs (t + 1) ∧ (kdT zs r = true → s < r ∧ kdT zs (r - 1) = false)) (fun i => n - (intOf i).toNat)
        case atStart => exact ⟨s, Nat.le_refl _, HSN.out, rfl, HF0.out, fun h => by rw [HK.out] at h; cases h⟩
        case round =>
          clear hc1 hsb
          obtain ⟨r, hsr, hrn, rfl, hfr, hkr⟩ := hrel
          have HSR := hid hsr
          have HRN := hid hrn
          have HFR := hid hfr
          have HKR := hid hkr
          have hc1 := HCC.out r hrn
          have hrb : (r : Int) ≤ 65536 := by omega
          clear hsr hfr hkr
          cases hk : kdT zs r
          · rw [hk] at hc1
            have HF1 : Hid (fsT zs (r + 1) = fsT zs (t + 1)) := hid (by rw [HNX.out, hk, if_neg (by simp)]; exact HFR.out)
            have HRL : Hid (r + 1 < n) := hid (by
              apply Classical.byContradiction
              intro hc
              have := HLA.out r (by omega)
              rw [hk] at this; cases this)
            have HK2 := hid hk
            clear hk hrn
            go_wp2_with fail
            go_round
            case rel => exact ⟨r + 1, by have := HSR.out; omega, HRL.out, by go_num, HF1.out, fun _ => ⟨by have := HSR.out; omega, HK2.out⟩⟩
            case measure => simp [intOf]; have := HRL.out; omega
          · rw [hk] at hc1
            have HKK := hid (HKR.out hk)
            have HF1 : Hid (fsT zs (r + 1) = fsT zs (t + 1) ++ [r]) := hid (by rw [HNX.out, hk, if_pos ⟨by have := HKK.out.1; omega, rfl, HKK.out.2⟩, HFR.out])
            clear hk hrn
            go_wp2_with (refine wpList_append_any rfl (.tmp 25) (.tmp 27) 22 rfl w1.heap.size 3 (.int .i64 0) 8 Try.underlying22 infoIntS rfl _ _ _ rfl (HU.out.alloc _) (some ⟨wr.heap.size, 0, none⟩) 1 1 [.int .i64 (r : Int)] rfl rfl (by intro h; cases h) (one_new wr _ _) (by simp [Value.oneCell']) (by have := HFL.out; have := HT.out; unfold maxLen; omega) (by have := HFL.out; have := HT.out; omega) (by have := HB.out.size; simp; omega) ?_)
            intro v4 w4 hv4 hg4 _
            have HB4 := hid (below_owned (w0 := w1) (HB.out.alloc HB.out.size _) (HU.out.alloc _) (Nat.le_refl _) hg4)
            have HV4 : Hid (w4.ownsRow w1.heap.size 3 1 v4 (fsT zs (r + 1)).length (nvals (fsT zs (r + 1)))) := hid (by rw [HF1.out, nvals_snoc, List.length_append]; exact hv4)
            clear hv4 hg4 HU HB
            go_wp2_with fail
            go_roundw
            case rel => exact ⟨r, HRN.out, rfl, HV4.out, HB4.out⟩
            case measure => simp [intOf]; have := HRN.out; have := HKK.out.1; have := HTS.out; omega
      · rw [hk] at hc1
        have HK := hid hk
        clear hk
        by_cases hl1 : s + 1 = n
        · have hbe : ((s : Int) + 1 == (n : Int)) = true := by rw [beq_iff_eq]; omega
          have HE : Hid (fsT zs n = fsT zs (t + 1)) := hid (by rw [← hl1]; exact HFS.out)
          clear hl1 hsn
          go_wp2_with fail
          go_ret
          exact ⟨_, rfl, by rw [HE.out]; exact own_weaken HU.out HBX.out.size, HBX.out.trans (HB.out.mono HBX.out.size)⟩
        · have hbe : ((s : Int) + 1 == (n : Int)) = false := by rw [beq_eq_false_iff_ne]; omega
          have HE : Hid (fsT zs (s + 1 + 1) = fsT zs (t + 1)) := hid (by rw [HNX.out, if_neg (by rw [Nat.add_sub_cancel, HK.out]; simp)]; exact HFS.out)
          have HSL : Hid (s + 1 < n) := hid (by omega)
          clear hl1 hsn
          go_wp2_with fail
          go_round
          case rel => exact ⟨s + 1, by have := HTS.out; omega, HSL.out, by go_num, HE.out⟩
          case measure => simp [intOf]; have := HSL.out; omega
end Go.Proofs.Ytdobjlaggdnphaa

