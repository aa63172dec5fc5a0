/- CONTRACTS (layer 16): the document's pieces, and comparing them. -/
import Derived.Test.YtdobjlaggdnphaaInH
namespace Go.Inc
open Go.RowKit
theorem cmp_zero : ∀ {xs ys : List Int}, xs.length = ys.length → cmpP xs ys = 0 → xs = ys
  | [], [], _, _ => rfl
  | [], _ :: _, h, _ => by simp at h
  | _ :: _, [], h, _ => by simp at h
  | a :: l, b :: m, h, k => by
    rw [cmpP_cons] at k
    by_cases e : a = b
    · rw [if_pos e] at k
      rw [e, cmp_zero (by simpa using h) k]
    · rw [if_neg e] at k; omega
theorem cell_kept16 {w w' : World} {b i : Nat} {u : Value} (h : w.cell? ⟨b, i, none⟩ = some u) (hb : Below w.heap.size w w') : w'.cell? ⟨b, i, none⟩ = some u := by
  rw [← h]; exact World.cell?_of_block (hb.block b (cell_lt h))
theorem pce_at {x : List Int} (h : InT x) {k : Nat} (hk : k < (fsT x x.length).length) :
    ∃ L, (fsT x x.length).getD k 0 + L ≤ x.length ∧ (pceT x ((fsT x x.length).getD k 0)).length = L ∧ 0 < L ∧ (k + 1 < (fsT x x.length).length → (fsT x x.length).getD (k + 1) 0 + 1 = (fsT x x.length).getD k 0 + L) ∧ (¬ k + 1 < (fsT x x.length).length → (fsT x x.length).getD k 0 + L = x.length) ∧ ∀ i, i < L → (pceT x ((fsT x x.length).getD k 0)).getD i 0 = x.getD ((fsT x x.length).getD k 0 + i) 0 := by
  have hm := inF_mem.1 (getD_inN hk)
  by_cases h1 : k + 1 < (fsT x x.length).length
  · have hm2 := inF_mem.1 (getD_inN h1)
    have hlt := rise_getD (inF_rise (x := x) x.length) (show k < k + 1 by omega) h1
    have hp := pce_next h h1
    refine ⟨(fsT x x.length).getD (k + 1) 0 + 1 - (fsT x x.length).getD k 0, by omega, by rw [hp, List.length_take, List.length_drop]; omega, by omega, fun _ => by omega, fun h2 => absurd h1 h2, fun i hi => ?_⟩
    rw [hp, List.getD_eq_getElem?_getD, List.getElem?_take, if_pos hi, List.getElem?_drop, ← List.getD_eq_getElem?_getD]
  · have hp := fs_lastD h (show k + 1 = (fsT x x.length).length by omega)
    have hq := pce_last h
    have hn := h.right.1
    rw [hp, hq]
    refine ⟨1, by omega, by rw [List.length_drop]; omega, by omega, fun h2 => absurd h2 h1, fun _ => by omega, fun i hi => ?_⟩
    rw [drop_get]
end Go.Inc
namespace Go.Proofs.Ytdobjlaggdnphaa
open Go.RowKit Go.Inc
set_option maxRecDepth 20000 in
set_option maxHeartbeats 1000000 in
theorem refPiece_any (ok ok' : Nat → Prop) (x : World) (a b : Option Addr) (c d : Nat) (zs : List Int) (k : Nat) (hs : Si ok x a zs) (hc : zs.length ≤ c ∧ c ≤ maxLen) (hf : Si ok' x b (zsN (fsT zs zs.length))) (hi : InT zs) (hl : (zs.length : Int) ≤ 65536) (hk : k < (fsT zs zs.length).length) :
    Calls Try.prog 22 #[.slice a zs.length c, .slice b (fsT zs zs.length).length d, .int .i64 (k : Int)] x fun e w' => ∃ u, e = .returned u ∧ So ok w' u (pceT zs ((fsT zs zs.length).getD k 0)) ∧ Below x.heap.size x w' := by
  obtain ⟨L, h1, h2, h3, h4, h5, h6⟩ := pce_at hi hk
  have hfl := inF_mem.1 (getD_inN hk)
  have hml := fs_half (x := zs)
  obtain ⟨tb, tq, rfl, hok, htx⟩ : ∃ tb tq, a = some ⟨tb, tq, none⟩ ∧ ok tb ∧ ∀ i, i < zs.length → x.cell? ⟨tb, tq + i, none⟩ = some (.int .i64 (zs.getD i 0)) := by
    rcases hs with h | ⟨tb, tq, h, ho, hc⟩
    · have := hi.right.1; rw [h] at this; simp at this
    · exact ⟨tb, tq, h, ho, hc⟩
  obtain ⟨fb, fo, rfl, hfx⟩ : ∃ fb fo, b = some ⟨fb, fo, none⟩ ∧ ∀ i, i < (fsT zs zs.length).length → x.cell? ⟨fb, fo + i, none⟩ = some (.int .i64 (((fsT zs zs.length).getD i 0 : Nat) : Int)) := by
    rcases hf with h | ⟨fb, fo, h, _, hc⟩
    · have h7 := zsN_len (fsT zs zs.length)
      rw [h] at h7; simp at h7; rw [← h7] at hk; simp at hk
    · exact ⟨fb, fo, h, fun i hi => by rw [hc i (by rw [zsN_len]; exact hi), zsN_get]⟩
  have hfk := hfx k hk
  have hfk1 : k + 1 < (fsT zs zs.length).length → x.cell? ⟨fb, fo + (k + 1), none⟩ = some (.int .i64 (((fsT zs zs.length).getD (k + 1) 0 : Nat) : Int)) := fun h => hfx (k + 1) h
  have HSO : Hid (∀ w', Below x.heap.size x w' → ∀ p, p = (fsT zs zs.length).getD k 0 → So ok w' (.slice (some ⟨tb, tq + p, none⟩) L (c - p)) (pceT zs ((fsT zs zs.length).getD k 0))) := hid fun w' hw p hp => by
    refine ⟨some ⟨tb, tq + p, none⟩, c - p, by rw [h2], .inr ⟨tb, tq + p, rfl, hok, fun i hi => ?_⟩, by rw [h2, hp]; have := hc.1; omega, by have := hc.2; omega, fun h => by cases h⟩
    rw [h2] at hi
    rw [h6 i hi, ← hp, Nat.add_assoc]
    exact cell_kept16 (htx (p + i) (by rw [hp]; omega)) hw
  obtain ⟨p, hp⟩ : ∃ p, p = (fsT zs zs.length).getD k 0 := ⟨_, rfl⟩
  have HP := hid hp
  obtain ⟨m, hm⟩ : ∃ m, m = (fsT zs zs.length).length := ⟨_, rfl⟩
  obtain ⟨n, hn⟩ : ∃ n, n = zs.length := ⟨_, rfl⟩
  rw [← hp] at h1 h4 h5 hfl hfk
  rw [← hm] at h4 h5 hk hml hfk1
  rw [← hn] at hml hl hc
  rw [← hn] at h1 h5 hfl
  rw [← hm, ← hn]
  rw [← hn] at HSO HP
  have hpb : (p : Int) ≤ 65536 := by omega
  have hkm : (k < m) = True := eq_true hk
  have hkb : (k : Int) < (m : Int) := by omega
  have hmb : (m : Int) ≤ 65536 := by omega
  have hcp : (c = p) = False := eq_false (by omega)
  have hpc : (p : Int) ≤ (c : Int) := by omega
  have HCM := hid hc.2
  by_cases hk1 : k + 1 < m
  · have hq := hfk1 hk1
    have h7 := h4 hk1
    obtain ⟨q, hqe⟩ : ∃ q, q = (fsT zs zs.length).getD (k + 1) 0 := ⟨_, rfl⟩
    rw [← hqe] at hq h7
    obtain ⟨k1, hk1e⟩ : ∃ k1, k1 = k + 1 := ⟨_, rfl⟩
    rw [← hk1e] at hq
    have hk1i : (k : Int) + 1 = (k1 : Int) := by omega
    have hk1m : (k1 < m) = True := eq_true (by omega)
    have hk1b : (k1 : Int) < (m : Int) := by omega
    obtain ⟨e0, he0⟩ : ∃ e0, e0 = q + 1 := ⟨_, rfl⟩
    have he1 : (q : Int) + 1 = (e0 : Int) := by omega
    have hep : (p : Int) ≤ (e0 : Int) := by omega
    have hec : (e0 : Int) ≤ (c : Int) := by omega
    have heL : (e0 : Int) - (p : Int) = (L : Int) := by omega
    have heL' : e0 - p = L := by omega
    have hqb : (q : Int) ≤ 65536 := by omega
    clear h1 h2 h3 h4 h5 h6 hfx hfk1 hfl hml hc hk hk1 hp hm hn hqe hk1e he0 h7 hs hf htx hi
    go_enter Try.func22, Try.ntmps22
    go_wp2_with fail
    go_region
    go_wp2_with fail
    go_ret
    exact ⟨_, rfl, HSO.out _ (Below.refl _ _).drew p HP.out, (Below.refl _ _).drew⟩
  · have h7 := h5 hk1
    have hk1n : decide ((k : Int) + 1 < (m : Int)) = false := decide_eq_false (by omega)
    have hpn : (p : Int) ≤ (n : Int) := by omega
    have hnL : (n : Int) - (p : Int) = (L : Int) := by omega
    have hnL' : n - p = L := by omega
    have hnc : (n : Int) ≤ (c : Int) := by omega
    have hk2 : (m : Int) ≤ (k : Int) + 1 := by omega
    clear h1 h2 h3 h4 h5 h6 hfx hfk1 hfl hml hc hk hk1 hp hm hn h7 hs hf htx hi
    go_enter Try.func22, Try.ntmps22
    go_wp2_with fail
    go_ret
    exact ⟨_, rfl, HSO.out _ (Below.refl _ _) p HP.out, Below.refl _ _⟩
theorem cmp_bound {xs ys : List Int} (hx : ∀ z ∈ xs, 0 ≤ z ∧ z ≤ 65535) (hy : ∀ z ∈ ys, 0 ≤ z ∧ z ≤ 65535) {i : Nat} (h1 : i < xs.length) (h2 : i < ys.length) : (0 ≤ xs.getD i 0 ∧ xs.getD i 0 ≤ 65535) ∧ 0 ≤ ys.getD i 0 ∧ ys.getD i 0 ≤ 65535 := ⟨hx _ (in_cell h1), hy _ (in_cell h2)⟩
set_option maxRecDepth 20000 in
set_option maxHeartbeats 1000000 in
theorem refCompare_any (ok ok' : Nat → Prop) (x : World) (a b : Option Addr) (c d : Nat) (xs ys : List Int) (hs : Si ok x a xs) (ht : Si ok' x b ys) (hx : ∀ z ∈ xs, 0 ≤ z ∧ z ≤ 65535) (hy : ∀ z ∈ ys, 0 ≤ z ∧ z ≤ 65535) (hl : (xs.length : Int) ≤ 65536) (hl' : (ys.length : Int) ≤ 65536) :
    Calls Try.prog 21 #[.slice a xs.length c, .slice b ys.length d] x fun e w' => e = .returned (.int .i64 (cmpP xs ys)) ∧ Below x.heap.size x w' := by
  have HS := hid hs
  have HT := hid ht
  have HBD := hid (fun (i : Nat) (h1 : i < xs.length) (h2 : i < ys.length) => cmp_bound hx hy h1 h2)
  obtain ⟨n, hn⟩ : ∃ n, n = xs.length := ⟨_, rfl⟩
  obtain ⟨m, hm⟩ : ∃ m, m = ys.length := ⟨_, rfl⟩
  have HN := hid hn
  have HM := hid hm
  rw [← hn] at hl ⊢
  rw [← hm] at hl' ⊢
  clear hs ht hx hy hn hm
  go_enter Try.func21, Try.ntmps21
  go_wp2_with fail
  go_loopw [5] (fun i wr => ∃ t : Nat, t ≤ n ∧ t ≤ m ∧ i = .int .i64 (t : Int) ∧ cmpP xs ys = cmpP (xs.drop t) (ys.drop t) ∧ Below x.heap.size x wr) (fun i _ => n - (intOf i).toNat)
  case atStart => exact ⟨0, Nat.zero_le _, Nat.zero_le _, rfl, rfl, Below.refl _ _⟩
  case round =>
    obtain ⟨t, ht1, ht2, rfl, he, hb⟩ := hrel
    have HE := hid he
    have HB := hid hb
    clear he hb
    by_cases h1 : t < n
    · have h1t : (t < n) = True := eq_true h1
      by_cases h2 : t < m
      · have h2t : (t < m) = True := eq_true h2
        have HLT := hid (And.intro h1 h2)
        have hbd := HBD.out t (by rw [← HN.out]; exact h1) (by rw [← HM.out]; exact h2)
        obtain ⟨b1, o1, rfl, hc1⟩ : ∃ b1 o1, a = some ⟨b1, o1, none⟩ ∧ wr.cell? ⟨b1, o1 + t, none⟩ = some (.int .i64 (xs.getD t 0)) := by
          rcases HS.out.below HB.out with h | ⟨b, o, h, _, hc⟩
          · have := HN.out; rw [h] at this; simp at this; omega
          · exact ⟨b, o, h, hc t (by rw [← HN.out]; exact h1)⟩
        obtain ⟨b2, o2, rfl, hc2⟩ : ∃ b2 o2, b = some ⟨b2, o2, none⟩ ∧ wr.cell? ⟨b2, o2 + t, none⟩ = some (.int .i64 (ys.getD t 0)) := by
          rcases HT.out.below HB.out with h | ⟨b, o, h, _, hc⟩
          · have := HM.out; rw [h] at this; simp at this; omega
          · exact ⟨b, o, h, hc t (by rw [← HM.out]; exact h2)⟩
        have hdx := drop_at (show t < xs.length by rw [← HN.out]; exact h1)
        have hdy := drop_at (show t < ys.length by rw [← HM.out]; exact h2)
        have HEQ : Hid (cmpP xs ys = if xs.getD t 0 = ys.getD t 0 then cmpP (xs.drop (t + 1)) (ys.drop (t + 1)) else xs.getD t 0 - ys.getD t 0) := hid (by rw [HE.out, hdx, hdy, cmpP_cons])
        generalize xs.getD t 0 = u at *
        generalize ys.getD t 0 = v at *
        obtain ⟨⟨hu0, hu1⟩, hv0, hv1⟩ := hbd
        clear h1 h2 hdx hdy HE
        by_cases huv : u = v
        · subst huv
          rw [if_pos rfl] at HEQ
          go_wp2_with fail
          go_region
          go_wp2_with fail
          go_roundw
          case rel => exact ⟨t + 1, HLT.out.1, HLT.out.2, by go_num, HEQ.out, HB.out.drew⟩
          case measure => simp [intOf]; have := HLT.out; omega
        · rw [if_neg huv] at HEQ
          have huvb : (u == v) = false := by rw [beq_eq_false_iff_ne]; exact huv
          clear huv
          go_wp2_with fail
          go_region
          go_wp2_with fail
          go_region
          go_wp2_with fail
          go_ret
          exact ⟨by rw [HEQ.out] <;> go_num, HB.out.drew.drew⟩
      · have h2t : (t < m) = False := eq_false h2
        have HR : Hid (cmpP xs ys = (m : Int) - (n : Int)) := hid (by
          rw [HE.out, List.drop_of_length_le (l := ys) (by rw [← HM.out]; omega), drop_at (show t < xs.length by rw [← HN.out]; exact h1)]
          show -((_ :: xs.drop (t + 1) : List Int).length : Int) = _
          rw [List.length_cons, List.length_drop, ← HN.out]
          omega)
        clear h1 h2
        go_wp2_with fail
        go_ret
        exact ⟨by rw [HR.out] <;> go_num, HB.out⟩
    · have h1t : (t < n) = False := eq_false h1
      have HR : Hid (cmpP xs ys = (m : Int) - (n : Int)) := hid (by
        rw [HE.out, List.drop_of_length_le (l := xs) (by rw [← HN.out]; omega)]
        cases hd : ys.drop t with
        | nil =>
          have := congrArg List.length hd
          rw [List.length_drop, ← HM.out] at this
          simp at this
          show (([] : List Int).length : Int) = _
          simp; omega
        | cons y l =>
          have := congrArg List.length hd
          rw [List.length_drop, ← HM.out] at this
          show ((y :: l : List Int).length : Int) = _
          omega)
      clear h1
      go_wp2_with fail
      go_ret
      exact ⟨by rw [HR.out] <;> go_num, HB.out⟩
theorem refSame16_any (ok ok' : Nat → Prop) (x : World) (a b : Option Addr) (c d : Nat) (xs ys : List Int) (hs : Si ok x a xs) (ht : Si ok' x b ys) (hx : ∀ z ∈ xs, 0 ≤ z ∧ z ≤ 65535) (hy : ∀ z ∈ ys, 0 ≤ z ∧ z ≤ 65535) (hl : (xs.length : Int) ≤ 65536) (hl' : (ys.length : Int) ≤ 65536) :
    Calls Try.prog 40 #[.slice a xs.length c, .slice b ys.length d] x fun e w' => e = .returned (.bool (decide (xs = ys))) ∧ Below x.heap.size x w' := by
  have HC := hid (refCompare_any ok ok' x a b c d xs ys hs ht hx hy hl hl')
  by_cases hln : xs.length = ys.length
  · have HLN := hid hln
    by_cases he : xs = ys
    · have HE : Hid (decide (xs = ys) = true) := hid (decide_eq_true he)
      rw [he, cmpP_self] at HC
      rw [hln]
      generalize ys.length = n at *
      clear hs ht hx hy hl hl' hln he HLN
      go_enter Try.func40, Try.ntmps40
      go_wp2_with fail
      refine HC.out.mono ?_
      rintro e w' ⟨rfl, hb⟩
      have HB := hid hb
      clear hb HC
      go_wp2_with fail
      go_ret
      exact ⟨by rw [HE.out] <;> rfl, HB.out⟩
    · have HE : Hid (decide (xs = ys) = false) := hid (decide_eq_false he)
      have hz : cmpP xs ys ≠ 0 := fun h => he (cmp_zero hln h)
      have hzb : (cmpP xs ys == 0) = false := by rw [beq_eq_false_iff_ne]; exact hz
      generalize cmpP xs ys = r at *
      rw [hln] at HC ⊢
      generalize ys.length = n at *
      clear hs ht hx hy hl hl' hln he HLN hz
      go_enter Try.func40, Try.ntmps40
      go_wp2_with fail
      refine HC.out.mono ?_
      rintro e w' ⟨rfl, hb⟩
      have HB := hid hb
      clear hb HC
      go_wp2_with fail
      go_ret
      exact ⟨by rw [HE.out] <;> rfl, HB.out⟩
  · have HE : Hid (decide (xs = ys) = false) := hid (decide_eq_false fun h => hln (by rw [h]))
    have hlb : ((xs.length : Int) == (ys.length : Int)) = false := by rw [beq_eq_false_iff_ne]; omega
    have hln' : (xs.length = ys.length) = False := eq_false hln
    generalize xs.length = n at *
    generalize ys.length = m at *
    clear hs ht hx hy hl hl' hln HC
    go_enter Try.func40, Try.ntmps40
    go_wp2_with fail
    go_ret
    exact ⟨by rw [HE.out] <;> rfl, Below.refl _ _⟩
end Go.Proofs.Ytdobjlaggdnphaa
