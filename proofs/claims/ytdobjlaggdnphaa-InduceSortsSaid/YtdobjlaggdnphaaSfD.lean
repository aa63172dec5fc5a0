/- CONTRACTS: the document's Turned and Check. -/
import Derived.Test.YtdobjlaggdnphaaSfMt
import Derived.Test.YtdobjlaggdnphaaSfB
namespace Go.Inc
open Go.RowKit
theorem snoc_get {W : List Nat} {t r j : Nat} (h : W.length = t) : (W ++ [r]).getD j 0 = if j = t then r else W.getD j 0 := by
  rw [List.getD_eq_getElem?_getD, List.getD_eq_getElem?_getD]
  split
  · rename_i e; subst e; subst h; simp
  · by_cases hj : j < t
    · rw [List.getElem?_append_left (by omega)]
    · rw [List.getElem?_eq_none (by simp; omega), List.getElem?_eq_none (by omega)]
/-- What is wrong with a text that isn't too long. -/
theorem ckT_range {x : List Int} (h : x.length ≤ 65536) {i : Nat} (hi : i < x.length) (hb : x.getD i 0 < 0 ∨ 65535 < x.getD i 0) : ckT x = 10 := by
  unfold ckT
  rw [if_neg (by omega), if_pos]
  intro hall
  have hm : x.getD i 0 ∈ x := by
    rw [List.getD_eq_getElem?_getD, List.getElem?_eq_getElem hi]; exact List.getElem_mem _
  have := hall _ hm
  omega
theorem all_codes {x : List Int} (h : ∀ i, i < x.length → 0 ≤ x.getD i 0 ∧ x.getD i 0 ≤ 65535) : ∀ z ∈ x, 0 ≤ z ∧ z ≤ 65535 := by
  intro z hz
  obtain ⟨i, hi, rfl⟩ := List.mem_iff_getElem.1 hz
  have := h i hi
  rw [List.getD_eq_getElem?_getD, List.getElem?_eq_getElem hi] at this
  exact this
theorem ckT_form {x : List Int} (h : x.length ≤ 65536) (hc : ∀ i, i < x.length → 0 ≤ x.getD i 0 ∧ x.getD i 0 ≤ 65535) (hr : ¬ RtL x) : ckT x = 3 := by
  unfold ckT
  rw [if_neg (by omega), if_neg (fun hh => hh (all_codes hc)), if_neg hr]
theorem ckT_ok {x : List Int} (h : x.length ≤ 65536) (hc : ∀ i, i < x.length → 0 ≤ x.getD i 0 ∧ x.getD i 0 ≤ 65535) (hr : RtL x) : ckT x = 0 := by
  unfold ckT
  rw [if_neg (by omega), if_neg (fun hh => hh (all_codes hc)), if_pos hr]
end Go.Inc
namespace Go.Proofs.Ytdobjlaggdnphaa
open Go.RowKit Go.Inc
set_option maxRecDepth 20000 in
set_option maxHeartbeats 2000000 in
theorem refTurned_any (ok : Nat → Prop) (x : World) (p : Option Addr) (c : Nat) (zs : List Int) (hs : Si ok x p zs) (hl : (zs.length : Int) ≤ 65536) :
    Calls Try.prog 28 #[.slice p zs.length c] x fun e w' => ∃ u, e = .returned (.tuple #[u, .bool (decide (okT zs))]) ∧ (okT zs → w'.ownsRow x.heap.size 3 1 u zs.length (nvals (tnT zs))) ∧ Below x.heap.size x w' := by
  have HS := hid hs
  have HIS := hid (fun (W : List Nat) h0 h => tnT_is (l := zs) (W := W) h0 h)
  have HNO := hid (fun (n : Nat) (h : n < zs.length) (h2 : ∀ j, j < zs.length → zs.getD j 0 ≠ (n : Int)) => show decide (okT zs) = false from decide_eq_false (fun hok => by
    have := at_get (hok n h)
    exact h2 _ this.1 this.2))
  obtain ⟨n, hn⟩ : ∃ n, n = zs.length := ⟨_, rfl⟩
  have HN := hid hn
  rw [← hn] at hl HIS HNO ⊢
  clear hs hn
  go_enter Try.func28, Try.ntmps28
  go_wp2_with fail
  go_loopw [4, 5] (fun u i wr => ∃ (t : Nat) (W : List Nat), t ≤ n ∧ i = .int .i64 (t : Int) ∧ W.length = t ∧ (∀ j, j < t → W.getD j 0 < n ∧ zs.getD (W.getD j 0) 0 = (j : Int)) ∧ wr.ownsRow x.heap.size 3 1 u t (nvals W) ∧ Below x.heap.size x wr) (fun _ i _ => n - (intOf i).toNat)
  case atStart => exact ⟨0, [], Nat.zero_le _, rfl, rfl, fun j h => by omega, World.ownsRow_nil _ _ _ _, Below.refl _ _⟩
  case round =>
    obtain ⟨t, W, ht, rfl, hwl, hw, hu, hb⟩ := hrel
    have HU := hid hu
    have HB := hid hb
    have HW := hid hw
    have HWL := hid hwl
    clear hu hb hw hwl
    by_cases hlt : t < n
    · have hti : (t < n) = True := eq_true hlt
      have HLT := hid hlt
      have htb : (t : Int) ≤ 65536 := by omega
      obtain ⟨pb, po, rfl, hc⟩ : ∃ pb po, p = some ⟨pb, po, none⟩ ∧ ∀ i, i < n → wr.cell? ⟨pb, po + i, none⟩ = some (.int .i64 (zs.getD i 0)) := by
        rcases HS.out.below HB.out with h | ⟨b, o, h, -, hc⟩
        · have := HN.out; rw [h] at this; simp at this; omega
        · exact ⟨b, o, h, fun i hi => hc i (by rw [← HN.out]; exact hi)⟩
      have HC := hid hc
      clear hlt hc
      go_wp2_with fail
      go_loop [6, 7] (fun a i => ∃ (k : Nat) (av : Int), k ≤ n ∧ i = .int .i64 (k : Int) ∧ a = .int .i64 av ∧ ((av = -1 ∧ ∀ j, j < k → zs.getD j 0 ≠ (t : Int)) ∨ ∃ r, r < n ∧ av = ((r : Nat) : Int) ∧ zs.getD r 0 = (t : Int))) (fun _ i => n - (intOf i).toNat)
      case atStart => exact ⟨0, -1, Nat.zero_le _, rfl, rfl, .inl ⟨rfl, fun j h => by omega⟩⟩
      case round =>
        obtain ⟨k, av, hk, rfl, rfl, hav⟩ := hrel
        have HAV := hid hav
        clear hav
        by_cases hkn : k < n
        · have hki : (k < n) = True := eq_true hkn
          have hkb : (k : Int) ≤ 65536 := by omega
          have hc1 := HC.out k hkn
          have HKN := hid hkn
          obtain ⟨z, hz⟩ : ∃ z, z = zs.getD k 0 := ⟨_, rfl⟩
          have HZ := hid hz
          rw [← hz] at hc1
          clear hkn hz
          by_cases he : z = (t : Int)
          · subst he
            go_wp2_with fail
            go_round
            case rel => exact ⟨k + 1, k, HKN.out, by go_num, rfl, .inr ⟨k, HKN.out, rfl, HZ.out.symm⟩⟩
            case measure => simp [intOf]; have := HKN.out; omega
          · have hbe : (z == (t : Int)) = false := by rw [beq_eq_false_iff_ne]; exact he
            go_wp2_with fail
            go_round
            case rel => exact ⟨k + 1, av, HKN.out, by go_num, rfl, by
              rcases HAV.out with ⟨h1, h2⟩ | h
              · refine .inl ⟨h1, fun j hj => ?_⟩
                by_cases e : j = k
                · rw [e, ← HZ.out]; exact he
                · exact h2 j (by omega)
              · exact .inr h⟩
            case measure => simp [intOf]; have := HKN.out; omega
        · have hki : (k < n) = False := eq_false hkn
          obtain rfl : k = n := by omega
          clear hkn
          rcases HAV.out with ⟨rfl, h2⟩ | ⟨r, hr, rfl, hzr⟩
          · have HF := hid (HNO.out t HLT.out h2)
            clear HAV h2
            go_wp2_with fail
            go_ret2
            exact ⟨_, by rw [HF.out]; rfl, fun hok => absurd hok (of_decide_eq_false HF.out), HB.out⟩
          · have HR := hid (And.intro hr hzr)
            have hr0 : ((r : Int) < 0) = False := eq_false (by omega)
            clear HAV hr hzr
            go_wp2_with (refine wpList_append_any rfl (.tmp 29) (.tmp 31) 22 rfl x.heap.size 3 (.int .i64 0) 8 Try.underlying22 infoIntS rfl _ _ _ rfl (HU.out.alloc _) (some ⟨wr.heap.size, 0, none⟩) 1 1 [.int .i64 (r : Int)] rfl rfl (by intro h; cases h) (one_new wr _ _) (by simp [Value.oneCell']) (by unfold maxLen; omega) (by omega) (by have := HB.out.size; simp; omega) ?_)
            intro v4 w4 hv4 hg4 _
            have HB4 := hid (below_owned (w0 := x) (HB.out.alloc HB.out.size _) (HU.out.alloc _) (Nat.le_refl _) hg4)
            have HV4 : Hid (w4.ownsRow x.heap.size 3 1 v4 (t + 1) (nvals (W ++ [r]))) := hid (by rw [nvals_snoc]; exact hv4)
            clear hv4 hg4 HU HB
            go_wp2_with fail
            go_roundw
            case rel => exact ⟨t + 1, W ++ [r], HLT.out, by go_num, by rw [List.length_append, HWL.out]; rfl, fun j hj => (by
              rw [snoc_get HWL.out]
              split
              · rename_i e; subst e; exact HR.out
              · exact HW.out j (by omega)), HV4.out, HB4.out⟩
            case measure => simp [intOf]; have := HLT.out; omega
    · have hti : (t < n) = False := eq_false hlt
      obtain rfl : t = n := by omega
      obtain ⟨hok, hW⟩ := HIS.out W HWL.out HW.out
      have HOK := hid hok
      have HWW := hid hW
      clear hlt hok hW
      go_wp2_with fail
      go_ret2
      exact ⟨_, by rw [decide_eq_true HOK.out]; rfl, fun _ => by rw [← HWW.out]; exact HU.out, HB.out⟩
set_option maxRecDepth 20000 in
set_option maxHeartbeats 2000000 in
theorem refCheck_any (ok : Nat → Prop) (x : World) (p : Option Addr) (c : Nat) (zs : List Int) (hs : Si ok x p zs) (hl : (zs.length : Int) ≤ 65536) :
    Calls Try.prog 25 #[.slice p zs.length c] x fun e w' => e = .returned (.int .i64 ((ckT zs : Nat) : Int)) ∧ x = w' := by
  have HS := hid hs
  have HRG := hid (fun (i : Nat) h1 h2 => ckT_range (x := zs) (by omega) (i := i) h1 h2)
  have HFM := hid (fun h1 h2 => ckT_form (x := zs) (by omega) h1 h2)
  have HOK := hid (fun h1 h2 => ckT_ok (x := zs) (by omega) h1 h2)
  obtain ⟨n, hn⟩ : ∃ n, n = zs.length := ⟨_, rfl⟩
  have HRT : Hid (RtL zs ↔ 0 < n ∧ ∀ i, i < n → (zs.getD i 0 = 0 ↔ i + 1 = n)) := hid (by rw [hn]; exact Iff.rfl)
  have HCC : Hid (∀ i, i < n → ∃ pb po, p = some ⟨pb, po, none⟩ ∧ x.cell? ⟨pb, po + i, none⟩ = some (.int .i64 (zs.getD i 0))) := hid (fun i hi => by
    rcases HS.out with h | ⟨b, o, h, -, hc⟩
    · rw [h] at hn; simp at hn; omega
    · exact ⟨b, o, h, hc i (by rw [← hn]; exact hi)⟩)
  rw [← hn] at hl HRG HFM HOK ⊢
  have hbig : ((65536 : Int) < (n : Int)) = False := eq_false (by omega)
  clear hs hn HS
  go_enter Try.func25, Try.ntmps25
  go_wp2_with fail
  go_loop [3] (fun i => ∃ k : Nat, k ≤ n ∧ i = .int .i64 (k : Int) ∧ ∀ j, j < k → 0 ≤ zs.getD j 0 ∧ zs.getD j 0 ≤ 65535) (fun i => n - (intOf i).toNat)
  case atStart => exact ⟨0, Nat.zero_le _, rfl, fun j h => by omega⟩
  case round =>
    obtain ⟨k, hk, rfl, hj⟩ := hrel
    have HJ := hid hj
    clear hj
    by_cases hkn : k < n
    · have hki : (k < n) = True := eq_true hkn
      have HKN := hid hkn
      have hkb : (k : Int) ≤ 65536 := by omega
      obtain ⟨pb, po, rfl, hc⟩ := HCC.out k hkn
      obtain ⟨z, hz⟩ : ∃ z, z = zs.getD k 0 := ⟨_, rfl⟩
      have HZ := hid hz
      rw [← hz] at hc
      clear hkn hz
      by_cases h1 : z < 0
      · have h1t : (z < 0) = True := eq_true h1
        have HR := hid (HRG.out k HKN.out (.inl (by rw [← HZ.out]; exact h1)))
        clear h1
        go_wp2_with fail
        go_ret
        exact ⟨by rw [HR.out]; rfl, rfl⟩
      · have h1t : (z < 0) = False := eq_false h1
        by_cases h2 : 65535 < z
        · have h2t : (65535 < z) = True := eq_true h2
          have HR := hid (HRG.out k HKN.out (.inr (by rw [← HZ.out]; exact h2)))
          clear h1 h2
          go_wp2_with fail
          go_ret
          exact ⟨by rw [HR.out]; rfl, rfl⟩
        · have h2t : (65535 < z) = False := eq_false h2
          have HZZ : Hid (0 ≤ z ∧ z ≤ 65535) := hid (by omega)
          clear h1 h2
          go_wp2_with fail
          go_round
          case rel => exact ⟨k + 1, HKN.out, by go_num, fun j hj => (by
            by_cases e : j = k
            · rw [e, ← HZ.out]; exact HZZ.out
            · exact HJ.out j (by omega))⟩
          case measure => simp [intOf]; have := HKN.out; omega
    · have hki : (k < n) = False := eq_false hkn
      obtain rfl : k = n := by omega
      clear hkn
      go_wp2_with fail
      go_loop [4] (fun i => ∃ t : Nat, t ≤ k ∧ i = .int .i64 (t : Int) ∧ ∀ j, j < t → (zs.getD j 0 = 0 ↔ j + 1 = k)) (fun i => k - (intOf i).toNat)
      case atStart => exact ⟨0, Nat.zero_le _, rfl, fun j h => by omega⟩
      case round =>
        obtain ⟨t, ht, rfl, hj⟩ := hrel
        have HI := hid hj
        clear hj
        by_cases htn : t < k
        · have hti : (t < k) = True := eq_true htn
          have HTN := hid htn
          have htb : (t : Int) ≤ 65536 := by omega
          obtain ⟨pb, po, rfl, hc⟩ := HCC.out t htn
          obtain ⟨z, hz⟩ : ∃ z, z = zs.getD t 0 := ⟨_, rfl⟩
          have HZ := hid hz
          rw [← hz] at hc
          have HZT := hid (show zs.getD t 0 = z from hz.symm)
          clear htn hz
          by_cases e1 : z = 0
          · have hz0 : (z == 0) = true := by rw [beq_iff_eq]; exact e1
            by_cases e2 : t + 1 = k
            · have ht1 : ((t : Int) == (k : Int) - 1) = true := by rw [beq_iff_eq]; omega
              have HQ : Hid (z = 0 ↔ t + 1 = k) := hid ⟨fun _ => e2, fun _ => e1⟩
              clear e1 e2
              go_wp2_with fail
              go_round
              case rel => exact ⟨t + 1, HTN.out, by go_num, fun j hj => (by
                by_cases e : j = t
                · rw [e, ← HZ.out]; exact HQ.out
                · exact HI.out j (by omega))⟩
              case measure => simp [intOf]; have := HTN.out; omega
            · have ht1 : ((t : Int) == (k : Int) - 1) = false := by rw [beq_eq_false_iff_ne]; omega
              have HQ := hid (HFM.out HJ.out (fun hr => by have h := (HRT.out.1 hr).2 t HTN.out; rw [HZT.out] at h; exact e2 (h.1 e1)))
              clear e1 e2
              go_wp2_with fail
              go_ret
              exact ⟨by rw [HQ.out]; rfl, rfl⟩
          · have hz0 : (z == 0) = false := by rw [beq_eq_false_iff_ne]; exact e1
            by_cases e2 : t + 1 = k
            · have ht1 : ((t : Int) == (k : Int) - 1) = true := by rw [beq_iff_eq]; omega
              have HQ := hid (HFM.out HJ.out (fun hr => by have h := (HRT.out.1 hr).2 t HTN.out; rw [HZT.out] at h; exact e1 (h.2 e2)))
              clear e1 e2
              go_wp2_with fail
              go_ret
              exact ⟨by rw [HQ.out]; rfl, rfl⟩
            · have ht1 : ((t : Int) == (k : Int) - 1) = false := by rw [beq_eq_false_iff_ne]; omega
              have HQ : Hid (z = 0 ↔ t + 1 = k) := hid ⟨fun h => absurd h e1, fun h => absurd h e2⟩
              clear e1 e2
              go_wp2_with fail
              go_round
              case rel => exact ⟨t + 1, HTN.out, by go_num, fun j hj => (by
                by_cases e : j = t
                · rw [e, ← HZ.out]; exact HQ.out
                · exact HI.out j (by omega))⟩
              case measure => simp [intOf]; have := HTN.out; omega
        · have hti : (t < k) = False := eq_false htn
          obtain rfl : t = k := by omega
          clear htn
          by_cases h0 : t = 0
          · subst h0
            have HQ := hid (HFM.out HJ.out (fun hr => by have := (HRT.out.1 hr).1; omega))
            go_wp2_with fail
            go_ret
            exact ⟨by rw [HQ.out]; rfl, rfl⟩
          · have hb0 : ((t : Int) == 0) = false := by rw [beq_eq_false_iff_ne]; omega
            have HQ := hid (HOK.out HJ.out (HRT.out.2 ⟨by omega, HI.out⟩))
            go_wp2_with fail
            go_ret
            exact ⟨by rw [HQ.out]; rfl, rfl⟩
end Go.Proofs.Ytdobjlaggdnphaa

