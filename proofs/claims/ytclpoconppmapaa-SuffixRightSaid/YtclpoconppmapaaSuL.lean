/- CONTRACTS (suffix, as it landed): BinarySearch, Clone, Piece. -/
import Derived.Test.YtclpoconppmapaaSuK
namespace Go.Inc
open Go.RowKit
theorem fsT_lt {x : List Int} : ∀ {n a : Nat}, a ∈ fsT x n → a < n
  | 0, _, h => by cases h
  | n + 1, a, h => by
    rw [fsT_succ] at h
    split at h
    · rcases List.mem_append.1 h with h | h
      · have := fsT_lt h; omega
      · rw [List.mem_singleton] at h; omega
    · have := fsT_lt h; omega
theorem fsZ_rise {x : List Int} : ∀ n, (zsN (fsT x n)).Pairwise (· < ·)
  | 0 => List.Pairwise.nil
  | n + 1 => by
    rw [fsT_succ]
    split
    · unfold zsN
      rw [List.map_append, List.pairwise_append]
      refine ⟨fsZ_rise n, List.pairwise_singleton _ _, fun a ha b hb => ?_⟩
      obtain ⟨k, hk, rfl⟩ := List.mem_map.1 ha
      obtain ⟨m, hm, rfl⟩ := List.mem_map.1 hb
      rw [List.mem_singleton] at hm
      have := fsT_lt hk
      omega
    · exact fsZ_rise n
theorem riseZ_at {l : List Int} (h : l.Pairwise (· < ·)) {i j : Nat} (hij : i < j) (hj : j < l.length) : l.getD i 0 < l.getD j 0 := by
  rw [List.pairwise_iff_getElem] at h
  have h1 := h i j (by omega) hj hij
  rw [List.getD_eq_getElem?_getD, List.getD_eq_getElem?_getD, List.getElem?_eq_getElem (by omega), List.getElem?_eq_getElem hj]
  exact h1
/-- Where a search ends. -/
theorem found_is {l : List Int} {z : Int} {i : Nat} (h : l.Pairwise (· < ·)) (h1 : ∀ k, k < i → l.getD k 0 < z) (h2 : i < l.length → z ≤ l.getD i 0) :
    (i < l.length → l.getD i 0 = z → z ∈ l ∧ l.idxOf z = i) ∧ (i < l.length → l.getD i 0 ≠ z → z ∉ l) ∧ (l.length ≤ i → z ∉ l) := by
  have hin : ∀ {k : Nat}, k < l.length → l.getD k 0 = z → k = i := by
    intro k hk e
    rcases Nat.lt_trichotomy k i with h3 | h3 | h3
    · have := h1 k h3; omega
    · exact h3
    · have := riseZ_at h h3 hk
      have := h2 (by omega)
      omega
  refine ⟨fun h3 h4 => ?_, fun h3 h4 hm => ?_, fun h3 hm => ?_⟩
  · have hm : z ∈ l := by rw [← h4]; exact getD_mem h3
    exact ⟨hm, hin (at_get hm).1 (at_get hm).2⟩
  · have h5 := hin (at_get hm).1 (at_get hm).2
    rw [← h5] at h4
    exact h4 (at_get hm).2
  · have h5 := hin (at_get hm).1 (at_get hm).2
    have := (at_get hm).1
    omega
theorem mem_zsN {l : List Nat} {a : Nat} : (a : Int) ∈ zsN l ↔ a ∈ l := by
  unfold zsN
  rw [List.mem_map]
  constructor
  · rintro ⟨k, hk, e⟩
    obtain rfl : k = a := Int.ofNat.inj e
    exact hk
  · exact fun h => ⟨a, h, rfl⟩
theorem idx_zsN {l : List Nat} {a : Nat} : (zsN l).idxOf (a : Int) = l.idxOf a := by
  induction l with
  | nil => rfl
  | cons b l ih =>
    show ((b : Int) :: zsN l).idxOf (a : Int) = _
    by_cases e : b = a
    · subst e; simp
    · have h1 : (b == a) = false := by rw [beq_eq_false_iff_ne]; exact e
      have h2 : ((b : Int) == (a : Int)) = false := by rw [beq_eq_false_iff_ne]; exact fun h => e (Int.ofNat.inj h)
      simp only [List.idxOf_cons, h1, h2, cond_false, ih]
end Go.Inc
namespace Go.Proofs.Ytclpoconppmapaa
open Go.RowKit Go.Inc
theorem isNaNs_any (a : Int) (w : World) : Calls Try.prog 50 #[.int .i64 a] w fun x w' => x = .returned (.bool false) ∧ w = w' := by
  go_enter Try.func50, Try.ntmps50
  go_wp2_with fail
  go_ret
  exact ⟨by simp, rfl⟩
theorem cless_any (a b : Int) (w : World) : Calls Try.prog 49 #[.int .i64 a, .int .i64 b] w fun x w' => x = .returned (.bool (decide (a < b))) ∧ w = w' := by
  go_enter Try.func49, Try.ntmps49
  go_wp2_with fail
  refine (isNaN_any a w).mono ?_
  rintro x w2 ⟨rfl, rfl⟩
  go_wp2_with fail
  go_ret
  exact ⟨rfl, rfl⟩
set_option maxRecDepth 20000 in
set_option maxHeartbeats 1500000 in
theorem search_any (ok : Nat → Prop) (x : World) (p : Option Addr) (c : Nat) (l : List Int) (z : Int) (hs : Si ok x p l) (hl : (l.length : Int) ≤ 65536) (hr : l.Pairwise (· < ·)) :
    Calls Try.prog 39 #[.slice p l.length c, .int .i64 z] x fun e w' => (∃ i : Nat, e = .returned (.tuple #[.int .i64 (i : Int), .bool (decide (z ∈ l))]) ∧ (z ∈ l → i = l.idxOf z)) ∧ x = w' := by
  have HS := hid hs
  have HF := hid (fun (i : Nat) h1 h2 => found_is (l := l) (z := z) (i := i) hr h1 h2)
  have HRI := hid (fun (i j : Nat) h1 h2 => riseZ_at (l := l) hr (i := i) (j := j) h1 h2)
  obtain ⟨n, hn⟩ : ∃ n, n = l.length := ⟨_, rfl⟩
  have HN := hid hn
  rw [← hn] at hl HF HRI ⊢
  clear hs hn hr
  go_enter Try.func39, Try.ntmps39
  go_wp2_with fail
  go_loop [7, 8] (fun a b => ∃ i j : Nat, i ≤ j ∧ j ≤ n ∧ a = .int .i64 (i : Int) ∧ b = .int .i64 (j : Int) ∧ (∀ k, k < i → l.getD k 0 < z) ∧ (j < n → z ≤ l.getD j 0)) (fun a b => (intOf b - intOf a).toNat)
  case atStart => exact ⟨0, n, Nat.zero_le _, Nat.le_refl _, rfl, rfl, fun k h => by omega, fun h => by omega⟩
  case round =>
    obtain ⟨i, j, hij, hjn, rfl, rfl, h1, h2⟩ := hrel
    have H1 := hid h1
    have H2 := hid h2
    clear h1 h2
    by_cases hlt : i < j
    · have hlt1 : (i < j) = True := eq_true hlt
      have hlti : (i : Int) < (j : Int) := by omega
      obtain ⟨s, hs⟩ : ∃ s : Nat, (i : Int) + (j : Int) = (s : Int) := ⟨i + j, by omega⟩
      obtain ⟨h, hh⟩ : ∃ h : Nat, (s : Int) / 2 = (h : Int) := ⟨s / 2, by omega⟩
      have hw : IntKind.u64.wrap (s : Int) = (s : Int) := by rw [IntKind.wrap_u64]; omega
      have HIJ : Hid (i ≤ h ∧ h < j) := hid (by omega)
      have hhn : (h : Int) < (n : Int) := by omega
      obtain ⟨b, o, rfl, hck⟩ := siCell HS.out (k := h) (by have := HN.out; omega)
      have HC := hid (cless_any (l.getD h 0) z x)
      have HLO : Hid (l.getD h 0 < z → ∀ k, k < h + 1 → l.getD k 0 < z) := hid (fun hz k hk => by
        by_cases e : k = h
        · rw [e]; exact hz
        · have := HRI.out k h (by omega) (by omega)
          omega)
      have HY : Hid (∀ y, y = l.getD h 0 → l.getD h 0 = y) := hid (fun _ h => h.symm)
      obtain ⟨y, hy⟩ : ∃ y, y = l.getD h 0 := ⟨_, rfl⟩
      have HYY := hid hy
      rw [← hy] at hck HC HLO
      have HJN := hid hjn
      clear hy hlt
      by_cases hyz : y < z
      · have HK := hid (HLO.out hyz)
        rw [decide_eq_true hyz] at HC
        clear hyz HLO
        go_wp2_with fail
        refine HC.out.mono ?_
        rintro e w2 ⟨rfl, rfl⟩
        go_wp2_with fail
        go_round
        case rel => exact ⟨h + 1, j, by have := HIJ.out; omega, HJN.out, by go_num, rfl, HK.out, H2.out⟩
        case measure => simp [intOf]; have := HIJ.out; omega
      · have HK : Hid (h < n → z ≤ l.getD h 0) := hid (fun _ => by rw [← HYY.out]; omega)
        rw [decide_eq_false hyz] at HC
        clear hyz HLO
        go_wp2_with fail
        refine HC.out.mono ?_
        rintro e w2 ⟨rfl, rfl⟩
        go_wp2_with fail
        go_round
        case rel => exact ⟨i, h, HIJ.out.1, by have := HIJ.out; have := HJN.out; omega, rfl, rfl, H1.out, HK.out⟩
        case measure => simp [intOf]; have := HIJ.out; omega
    · have hlt1 : (i < j) = False := eq_false hlt
      obtain rfl : i = j := by omega
      have HX := hid (HF.out i H1.out H2.out)
      have HJN := hid hjn
      clear hlt hij
      by_cases hin : i < n
      · have hint : (i < n) = True := eq_true hin
        have hini : (i : Int) < (n : Int) := by omega
        obtain ⟨b, o, rfl, hck⟩ := siCell HS.out (k := i) (by have := HN.out; omega)
        have HX1 := hid (HX.out.1 hin)
        have HX2 := hid (HX.out.2.1 hin)
        generalize l.getD i 0 = y at *
        by_cases hyz : y = z
        · have hb : (y == z) = true := by rw [beq_iff_eq]; exact hyz
          have HK := hid (HX1.out hyz)
          clear hyz hin HX HX1 HX2 hjn H2 H1
          go_wp2_with fail
          go_ret2
          exact ⟨⟨i, by rw [decide_eq_true HK.out.1]; rfl, fun _ => HK.out.2.symm⟩, rfl⟩
        · have hb : (y == z) = false := by rw [beq_eq_false_iff_ne]; exact hyz
          have HK := hid (HX2.out hyz)
          have HNN := hid (isNaNs_any y x)
          clear hyz hin HX HX1 HX2 hjn H2 H1
          go_wp2_with fail
          refine HNN.out.mono ?_
          rintro e w2 ⟨rfl, rfl⟩
          go_wp2_with fail
          go_ret2
          exact ⟨⟨i, by rw [decide_eq_false HK.out]; rfl, fun h => absurd h HK.out⟩, rfl⟩
      · have hint : (i < n) = False := eq_false hin
        have HK := hid (HX.out.2.2 (by omega))
        clear hin HX hjn H2 H1
        go_wp2_with fail
        go_ret2
        exact ⟨⟨i, by rw [decide_eq_false HK.out]; rfl, fun h => absurd h HK.out⟩, rfl⟩
set_option maxRecDepth 20000 in
set_option maxHeartbeats 1500000 in
theorem cloneZ_any (ok : Nat → Prop) (w : World) (ad : Addr) (n c : Nat) (zs : List Int) (hs : Si ok w (some ad) zs) (hn : n = zs.length) (hl : n ≤ 65536) :
    Calls Try.prog 33 #[.slice (some ad) n c] w fun e w' => ∃ u, e = .returned u ∧ So (fun g => w.heap.size ≤ g) w' u zs ∧ Below w.heap.size w w' := by
  have hb1 : Below w.heap.size w (w.alloc (.cells #[] 3)) := allocU w _
  have HC : Hid (∀ a, (some ad : Option Addr) = some a → ∀ j u, (zvals zs)[j]? = some u → (w.alloc (.cells #[] 3)).cell? (a.add j) = some u) := hid fun a ha j u hu => by
    cases ha
    have hj : j < zs.length := by
      have := (List.getElem?_eq_some_iff.1 hu).1
      simpa [zvals] using this
    rw [zvals_get hj] at hu
    cases hu
    rcases hs.below hb1 with h | ⟨b, o, h, -, hc⟩
    · rw [h] at hj; simp at hj
    · cases h
      rw [Addr.add_lit]; exact hc j hj
  have hown : Hid ((w.alloc (.cells #[] 3)).ownsRow w.heap.size 3 1 (.slice (some ⟨w.heap.size, 0, none⟩) 0 0) 0 (zvals [])) := hid (World.ownsRow_lit w #[] 0 (Nat.le_refl _) (Nat.zero_le _) rfl)
  have HB1 := hid hb1
  have HN := hid hn
  have hq := fun w a l c => Go.Lib.run_eql_slice_nil (P := Try.prog) w 22 3 a l c 0 0 Try.underlying22
  clear hs hb1 hn
  go_enter Try.func33, Try.ntmps33
  go_wp2_with (refine wpList_append_any rfl (.tmp 5) (.tmp 6) 22 rfl w.heap.size 3 (.int .i64 0) 8 Try.underlying22 infoIntS rfl _ 0 (zvals []) rfl hown.out (some ad) n c (zvals zs) rfl (by rw [zvals_len]; exact HN.out.symm) (by intro h; cases h) HC.out (zvals_one zs) (by unfold maxLen; omega) (by omega) (by simp) ?_)
  intro v w2 hv hg _
  have hb2 := below_owned HB1.out hown.out (Nat.le_refl _) hg
  have HV : Hid (So (fun g => w.heap.size ≤ g) w2 v zs) := hid (So.ownedI hv)
  clear hv hg
  go_wp2_with fail
  go_ret
  exact ⟨_, rfl, HV.out, hb2⟩
end Go.Proofs.Ytclpoconppmapaa
