/- THE LAW'S OWN TEXTS (layer 15): numbers cut short; a text made of any numbers. -/
import Derived.Test.YtdobjlaggdnphaaSfP
namespace Go.Inc
open Go.RowKit
theorem ckT_made {m : List Nat} (hl : m.length ≤ 120) (h : ∀ z ∈ m, 1 ≤ z ∧ z ≤ 65535) : ckT (zsN (m ++ [0])) = 0 := by
  have hget : ∀ i, i < m.length → 1 ≤ (m ++ [0]).getD i 0 ∧ (m ++ [0]).getD i 0 ≤ 65535 := by
    intro i hi
    rw [List.getD_eq_getElem?_getD, List.getElem?_append_left hi, List.getElem?_eq_getElem hi]
    exact h _ (List.getElem_mem hi)
  have hend : (m ++ [0]).getD m.length 0 = 0 := by
    rw [List.getD_eq_getElem?_getD, List.getElem?_append_right (Nat.le_refl _), Nat.sub_self]; rfl
  have hlen : (zsN (m ++ [0])).length = m.length + 1 := by rw [zsN_len]; simp
  refine ckT_ok (by omega) (fun i hi => ?_) ⟨by omega, fun i hi => ?_⟩
  · rw [zsN_get]
    by_cases e : i = m.length
    · rw [e, hend]; decide
    · have := hget i (by omega); omega
  · rw [zsN_get, hlen]
    by_cases e : i = m.length
    · rw [e, hend]; simp
    · have := hget i (by omega)
      omega
theorem u64_rem (z : Int) {m : Int} (hm : 0 < m) : ∃ r : Nat, (IntKind.u64.wrap z).tmod m = (r : Int) ∧ (r : Int) < m := by
  have h0 : 0 ≤ IntKind.u64.wrap z := by rw [IntKind.wrap_u64]; omega
  have h1 := Int.tmod_nonneg m h0
  have h2 := Int.tmod_lt_of_pos (IntKind.u64.wrap z) hm
  exact ⟨((IntKind.u64.wrap z).tmod m).toNat, by omega, by omega⟩
end Go.Inc
namespace Go.Proofs.Ytdobjlaggdnphaa
open Go.RowKit Go.Inc
set_option maxRecDepth 20000 in
set_option maxHeartbeats 2000000 in
/-- The law's text: a right one, of at most 121 codes. -/
theorem text15_any (ok : Nat → Prop) (x : World) (v : Value) (zs : List Int) (s : Int) (hv : So ok x v zs) :
    Calls Try.prog 8 #[v, .int .i64 s] x fun e w' => ∃ u X, e = .returned u ∧ So (fun g => x.heap.size ≤ g) w' u X ∧ ckT X = 0 ∧ X.length ≤ 121 ∧ Below x.heap.size x w' := by
  obtain ⟨p, c, rfl, hs, -, -, -⟩ := hv
  have HS := hid hs
  obtain ⟨n, hnn⟩ : ∃ n, n = zs.length := ⟨_, rfl⟩
  have HN := hid hnn
  rw [← hnn]
  obtain ⟨r, hr, hr9⟩ := u64_rem s (m := 9) (by decide)
  obtain ⟨g, hg⟩ : ∃ g : Nat, g = r + 1 := ⟨_, rfl⟩
  have hg1 : (1 : Int) + (r : Int) = (g : Int) := by omega
  have hgb : (g : Int) ≤ 9 := by omega
  have hg0 : (0 : Int) < (g : Int) := by omega
  have hgw : IntKind.u64.wrap (g : Int) = (g : Int) := by rw [IntKind.wrap_u64]; omega
  have hgz : ((g : Int) = 0) = False := eq_false (by omega)
  have hri : IntKind.i64.wrap (r : Int) = (r : Int) := by rw [IntKind.wrap_i64]; omega
  clear hs hnn hg
  go_enter Try.func8, Try.ntmps8
  go_wp2_with fail
  go_loopw [5, 6] (fun u i wr => ∃ (t : Nat) (m : List Nat), t ≤ n ∧ t ≤ 120 ∧ i = .int .i64 (t : Int) ∧ m.length = t ∧ (∀ z ∈ m, 1 ≤ z ∧ z ≤ 65535) ∧ wr.ownsRow x.heap.size 3 1 u t (nvals m) ∧ Below x.heap.size x wr) (fun _ i _ => n - (intOf i).toNat)
  case atStart => exact ⟨0, [], Nat.zero_le _, Nat.zero_le _, rfl, rfl, (fun z h => by cases h), World.ownsRow_nil _ _ _ _, Below.refl _ _⟩
  case round =>
    obtain ⟨t, m, htn, ht, rfl, hml, hmz, hu, hb⟩ := hrel
    have HU := hid hu
    have HB := hid hb
    have HMZ := hid hmz
    have HML := hid hml
    have htb : (t : Int) ≤ 120 := by omega
    clear hu hb hmz hml
    by_cases h1 : t < n ∧ t < 120
    · have h1t : (t < n) = True := eq_true h1.1
      have h2t : ((t : Int) < 120) = True := eq_true (by omega)
      have HLT := hid h1
      obtain ⟨pb, po, rfl, hc⟩ : ∃ pb po, p = some ⟨pb, po, none⟩ ∧ wr.cell? ⟨pb, po + t, none⟩ = some (.int .i64 (zs.getD t 0)) := by
        rcases HS.out.below HB.out with h | ⟨b, o, h, -, hc⟩
        · have := HN.out; rw [h] at this; simp at this; omega
        · exact ⟨b, o, h, hc t (by rw [← HN.out]; exact h1.1)⟩
      obtain ⟨z, hz⟩ : ∃ z, z = zs.getD t 0 := ⟨_, rfl⟩
      rw [← hz] at hc
      obtain ⟨q, hq, hq9⟩ := u64_rem z (m := (g : Int)) hg0
      obtain ⟨y, hy⟩ : ∃ y : Nat, y = q + 1 := ⟨_, rfl⟩
      have hy1 : (1 : Int) + (q : Int) = (y : Int) := by omega
      have hyi : IntKind.i64.wrap (q : Int) = (q : Int) := by rw [IntKind.wrap_i64]; omega
      have hyb : (y : Int) ≤ 100 := by omega
      have HY : Hid (1 ≤ y ∧ y ≤ 65535) := hid (by omega)
      clear h1 hz hy
      go_wp2_with (refine wpList_append_any rfl (.tmp 22) (.tmp 33) 22 rfl x.heap.size 3 (.int .i64 0) 8 Try.underlying22 infoIntS rfl _ _ _ rfl (HU.out.alloc _) (some ⟨wr.heap.size, 0, none⟩) 1 1 [.int .i64 (y : Int)] rfl rfl (by intro h; cases h) (one_new wr _ _) (by simp [Value.oneCell']) (by unfold maxLen; omega) (by omega) (by have := HB.out.size; simp; omega) ?_)
      intro v4 w4 hv4 hg4 _
      have HB4 := hid (below_owned (w0 := x) (HB.out.alloc HB.out.size _) (HU.out.alloc _) (Nat.le_refl _) hg4)
      have HV4 : Hid (w4.ownsRow x.heap.size 3 1 v4 (t + 1) (nvals (m ++ [y]))) := hid (by rw [nvals_snoc]; exact hv4)
      clear hv4 hg4 HU HB
      go_wp2_with fail
      go_roundw
      case rel => exact ⟨t + 1, m ++ [y], HLT.out.1, HLT.out.2, by go_num, by rw [List.length_append, HML.out]; rfl, fun z hz => (by
        rcases List.mem_append.1 hz with h | h
        · exact HMZ.out z h
        · rw [List.mem_singleton.1 h]; exact HY.out), HV4.out, HB4.out⟩
      case measure => simp [intOf]; have := HLT.out; omega
    · have HC := hid (ckT_made (m := m) (by rw [HML.out]; exact ht) HMZ.out)
      have fin : ∀ (v4 : Value) (w4 : World), w4.ownsRow x.heap.size 3 1 v4 (t + 1) (nvals m ++ [.int .i64 0]) → Below x.heap.size x w4 → ∃ u X, Ending.returned v4 = .returned u ∧ So (fun g => x.heap.size ≤ g) w4 u X ∧ ckT X = 0 ∧ X.length ≤ 121 ∧ Below x.heap.size x w4 := fun v4 w4 hv hb => ⟨v4, zsN (m ++ [0]), rfl, So.ownedN (n := t + 1) (e := 3) (by rw [nvals_snoc]; exact hv), HC.out, by rw [zsN_len, List.length_append, HML.out]; simp; omega, hb⟩
      have FIN := hid fin
      clear fin HC
      by_cases h2 : t < n
      · have h1t : (t < n) = True := eq_true h2
        have h2t : ((t : Int) < 120) = False := eq_false (by omega)
        clear h1 h2
        go_wp2_with (refine wpList_append_any rfl (.tmp 35) (.tmp 36) 22 rfl x.heap.size 3 (.int .i64 0) 8 Try.underlying22 infoIntS rfl _ _ _ rfl (HU.out.alloc _) (some ⟨wr.heap.size, 0, none⟩) 1 1 [.int .i64 0] rfl rfl (by intro h; cases h) (one_new wr _ _) (by simp [Value.oneCell']) (by unfold maxLen; omega) (by omega) (by have := HB.out.size; simp; omega) ?_)
        intro v4 w4 hv4 hg4 _
        have HB4 := hid (below_owned (w0 := x) (HB.out.alloc HB.out.size _) (HU.out.alloc _) (Nat.le_refl _) hg4)
        have HV4 := hid hv4
        clear hv4 hg4 HU HB
        go_wp2_with fail
        go_ret
        exact FIN.out _ _ HV4.out HB4.out
      · have h1t : (t < n) = False := eq_false h2
        clear h1 h2
        go_wp2_with (refine wpList_append_any rfl (.tmp 35) (.tmp 36) 22 rfl x.heap.size 3 (.int .i64 0) 8 Try.underlying22 infoIntS rfl _ _ _ rfl (HU.out.alloc _) (some ⟨wr.heap.size, 0, none⟩) 1 1 [.int .i64 0] rfl rfl (by intro h; cases h) (one_new wr _ _) (by simp [Value.oneCell']) (by unfold maxLen; omega) (by omega) (by have := HB.out.size; simp; omega) ?_)
        intro v4 w4 hv4 hg4 _
        have HB4 := hid (below_owned (w0 := x) (HB.out.alloc HB.out.size _) (HU.out.alloc _) (Nat.le_refl _) hg4)
        have HV4 := hid hv4
        clear hv4 hg4 HU HB
        go_wp2_with fail
        go_ret
        exact FIN.out _ _ HV4.out HB4.out
end Go.Proofs.Ytdobjlaggdnphaa

