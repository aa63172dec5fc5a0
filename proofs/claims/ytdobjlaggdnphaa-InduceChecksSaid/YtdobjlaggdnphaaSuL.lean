/- CONTRACTS (suffix, as it landed): BinarySearch, Clone, Piece. -/
import Derived.Test.YtdobjlaggdnphaaSuT
namespace Go.Inc
open Go.RowKit
theorem fsT_lt {x : List Int} : ∀ {n a : Nat}, a ∈ fsT x n → a < n
  | 0, _, h => by cases h
  | n + 1, a, h => by
    rw [fsT_succ] at h
    split at h
    · rcases List.mem_append.1 h with h | h
      · have := fsT_lt h; omega
      · rw [List.mem_singleton] at h; omega
    · have := fsT_lt h; omega
theorem fsZ_rise {x : List Int} : ∀ n, (zsN (fsT x n)).Pairwise (· < ·)
  | 0 => List.Pairwise.nil
  | n + 1 => by
    rw [fsT_succ]
    split
    · unfold zsN
      rw [List.map_append, List.pairwise_append]
      refine ⟨fsZ_rise n, List.pairwise_singleton _ _, fun a ha b hb => ?_⟩
      obtain ⟨k, hk, rfl⟩ := List.mem_map.1 ha
      obtain ⟨m, hm, rfl⟩ := List.mem_map.1 hb
      rw [List.mem_singleton] at hm
      have := fsT_lt hk
      omega
    · exact fsZ_rise n
theorem riseZ_at {l : List Int} (h : l.Pairwise (· < ·)) {i j : Nat} (hij : i < j) (hj : j < l.length) : l.getD i 0 < l.getD j 0 := by
  rw [List.pairwise_iff_getElem] at h
  have h1 := h i j (by omega) hj hij
  rw [List.getD_eq_getElem?_getD, List.getD_eq_getElem?_getD, List.getElem?_eq_getElem (by omega), List.getElem?_eq_getElem hj]
  exact h1
theorem mem_zsN {l : List Nat} {a : Nat} : (a : Int) ∈ zsN l ↔ a ∈ l := by
  unfold zsN
  rw [List.mem_map]
  constructor
  · rintro ⟨k, hk, e⟩
    obtain rfl : k = a := Int.ofNat.inj e
    exact hk
  · exact fun h => ⟨a, h, rfl⟩
end Go.Inc
namespace Go.Proofs.Ytdobjlaggdnphaa
open Go.RowKit Go.Inc
theorem cless_any (a b : Int) (w : World) : Calls Try.prog 65 #[.int .i64 a, .int .i64 b] w fun x w' => x = .returned (.bool (decide (a < b))) ∧ w = w' := by
  go_enter Try.func65, Try.ntmps65
  go_wp2_with fail
  refine (isNaN_any a w).mono ?_
  rintro x w2 ⟨rfl, rfl⟩
  go_wp2_with fail
  go_ret
  exact ⟨rfl, rfl⟩
set_option maxRecDepth 20000 in
set_option maxHeartbeats 1500000 in
theorem cloneZ_any (ok : Nat → Prop) (w : World) (ad : Addr) (n c : Nat) (zs : List Int) (hs : Si ok w (some ad) zs) (hn : n = zs.length) (hl : n ≤ 65536) :
    Calls Try.prog 34 #[.slice (some ad) n c] w fun e w' => ∃ u, e = .returned u ∧ So (fun g => w.heap.size ≤ g) w' u zs ∧ Below w.heap.size w w' := by
  have hb1 : Below w.heap.size w (w.alloc (.cells #[] 3)) := allocU w _
  have HC : Hid (∀ a, (some ad : Option Addr) = some a → ∀ j u, (zvals zs)[j]? = some u → (w.alloc (.cells #[] 3)).cell? (a.add j) = some u) := hid fun a ha j u hu => by
    cases ha
    have hj : j < zs.length := by
      have := (List.getElem?_eq_some_iff.1 hu).1
      simpa [zvals] using this
    rw [zvals_get hj] at hu
    cases hu
    rcases hs.below hb1 with h | ⟨b, o, h, -, hc⟩
    · rw [h] at hj; simp at hj
    · cases h
      rw [Addr.add_lit]; exact hc j hj
  have hown : Hid ((w.alloc (.cells #[] 3)).ownsRow w.heap.size 3 1 (.slice (some ⟨w.heap.size, 0, none⟩) 0 0) 0 (zvals [])) := hid (World.ownsRow_lit w #[] 0 (Nat.le_refl _) (Nat.zero_le _) rfl)
  have HB1 := hid hb1
  have HN := hid hn
  have hq := fun w a l c => Go.Lib.run_eql_slice_nil (P := Try.prog) w 22 3 a l c 0 0 Try.underlying22
  clear hs hb1 hn
  go_enter Try.func34, Try.ntmps34
  go_wp2_with (refine wpList_append_any rfl (.tmp 5) (.tmp 6) 22 rfl w.heap.size 3 (.int .i64 0) 8 Try.underlying22 infoIntS rfl _ 0 (zvals []) rfl hown.out (some ad) n c (zvals zs) rfl (by rw [zvals_len]; exact HN.out.symm) (by intro h; cases h) HC.out (zvals_one zs) (by unfold maxLen; omega) (by omega) (by simp) ?_)
  intro v w2 hv hg _
  have hb2 := below_owned HB1.out hown.out (Nat.le_refl _) hg
  have HV : Hid (So (fun g => w.heap.size ≤ g) w2 v zs) := hid (So.ownedI hv)
  clear hv hg
  go_wp2_with fail
  go_ret
  exact ⟨_, rfl, HV.out, hb2⟩
end Go.Proofs.Ytdobjlaggdnphaa

