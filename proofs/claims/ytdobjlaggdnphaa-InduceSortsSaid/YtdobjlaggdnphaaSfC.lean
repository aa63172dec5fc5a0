/- CONTRACTS: the document's Sort. -/
import Derived.Test.YtdobjlaggdnphaaSfB
namespace Go.Inc
open Go.RowKit
theorem mapZ_get (l : List Nat) (k : Nat) : (l.map fun x : Nat => (x : Int)).getD k 0 = ((l.getD k 0 : Nat) : Int) := by
  rw [List.getD_eq_getElem?_getD, List.getElem?_map, List.getD_eq_getElem?_getD]
  cases l[k]? <;> rfl
/-- Where the places that are less end. -/
theorem span_at {x : List Int} {i : Nat} : ∀ {l : List Nat} {k : Nat}, k ≤ l.length → (∀ j, j < k → lsT x (l.getD j 0) i = true) → (k < l.length → lsT x (l.getD k 0) i = false) →
    l.takeWhile (fun j => lsT x j i) = l.take k ∧ l.dropWhile (fun j => lsT x j i) = l.drop k
  | [], k, hk, _, _ => by
    obtain rfl : k = 0 := by simpa using hk
    exact ⟨rfl, rfl⟩
  | a :: l, 0, _, _, h2 => by
    have ha : ¬ lsT x a i = true := by rw [show lsT x a i = false from h2 (by simp)]; simp
    exact ⟨by rw [List.takeWhile_cons_of_neg (p := fun j => lsT x j i) ha]; rfl, by rw [List.dropWhile_cons_of_neg (p := fun j => lsT x j i) ha]; rfl⟩
  | a :: l, k + 1, hk, h1, h2 => by
    have ha : lsT x a i = true := h1 0 (by omega)
    obtain ⟨e1, e2⟩ := span_at (l := l) (k := k) (by simpa using hk) (fun j hj => h1 (j + 1) (by omega)) (fun h => h2 (by simpa using h))
    exact ⟨by rw [List.takeWhile_cons_of_pos (p := fun j => lsT x j i) ha, e1]; rfl, by rw [List.dropWhile_cons_of_pos (p := fun j => lsT x j i) ha, e2]; rfl⟩
theorem insT_at {x : List Int} {i : Nat} {l : List Nat} {k : Nat} (h0 : k ≤ l.length) (h1 : ∀ j, j < k → lsT x (l.getD j 0) i = true) (h2 : k < l.length → lsT x (l.getD k 0) i = false) : insT x l i = l.take k ++ [i] ++ l.drop k := by
  obtain ⟨e1, e2⟩ := span_at h0 h1 h2
  unfold insT
  rw [e1, e2, List.append_assoc]; rfl
theorem own_lit (w : World) {B : Nat} (E : TypeId) (h : B ≤ w.heap.size) : (w.alloc (.cells #[] E)).ownsRow B E 1 (.slice (some ⟨w.heap.size, 0, none⟩) 0 0) 0 [] :=
  ⟨rfl, .inr ⟨w.heap.size, 0, #[], rfl, h, heap_alloc_new w _, Nat.le_refl _, Nat.zero_le _, rfl, rfl⟩⟩
theorem nvals_app (a b : List Nat) : nvals (a ++ b) = nvals a ++ nvals b := by simp [nvals]
theorem nvals_oneS (l : List Nat) : ∀ u ∈ nvals l, u.oneCell' = true := by
  intro u hu
  obtain ⟨_, _, rfl⟩ := List.mem_map.1 hu
  rfl
/-- The cells of a slice's first ones, and of those behind. -/
theorem Si.cells_at {ok : Nat → Prop} {w : World} {b o : Nat} {l : List Nat} (h : Si ok w (some ⟨b, o, none⟩) (l.map fun x : Nat => (x : Int))) {k : Nat} {m : List Nat} (hm : ∀ j, j < m.length → k + j < l.length ∧ l.getD (k + j) 0 = m.getD j 0) :
    ∀ ad, some (⟨b, o + k, none⟩ : Addr) = some ad → ∀ j u, (nvals m)[j]? = some u → w.cell? (ad.add j) = some u := by
  intro ad had j u hu
  cases had
  have hj : j < m.length := by
    have := (List.getElem?_eq_some_iff.1 hu).1
    simpa [nvals] using this
  obtain ⟨h1, h2⟩ := hm j hj
  have hv : u = .int .i64 ((m.getD j 0 : Nat) : Int) := by
    rw [nvals, List.getElem?_map, List.getElem?_eq_getElem hj] at hu
    rw [List.getD_eq_getElem?_getD, List.getElem?_eq_getElem hj]
    simpa using hu.symm
  rcases h with h | ⟨b', o', hb, -, hc⟩
  · have : l = [] := by simpa using h
    rw [this] at h1; simp at h1
  · cases hb
    have h3 := hc (k + j) (by simpa using h1)
    rw [mapZ_get, h2] at h3
    rw [Addr.add_lit, hv, ← h3, Nat.add_assoc]
end Go.Inc
namespace Go.Proofs.Ytdobjlaggdnphaa
open Go.RowKit Go.Inc
set_option maxRecDepth 20000 in
set_option maxHeartbeats 2000000 in
theorem refSort_any (ok : Nat → Prop) (x : World) (p : Option Addr) (c : Nat) (zs : List Int) (hs : Si ok x p zs) (hr : RtL zs) (hl : (zs.length : Int) ≤ 65536) :
    Calls Try.prog 24 #[.slice p zs.length c] x fun e w' => ∃ u, e = .returned u ∧ w'.ownsRow x.heap.size 3 1 u zs.length (nvals (srT zs zs.length)) ∧ Below x.heap.size x w' := by
  have HLS := hid (fun (y : World) (hy : Below x.heap.size x y) (a b : Nat) (h : a < zs.length) (h' : b < zs.length) => refLess_any _ y p c zs a b (hs.below hy) hr hl h h')
  obtain ⟨n, hn⟩ : ∃ n, n = zs.length := ⟨_, rfl⟩
  rw [← hn] at hl HLS ⊢
  clear hs hn hr
  go_enter Try.func24, Try.ntmps24
  go_wp2_with fail
  go_loopw [3, 4] (fun u i wr => ∃ t : Nat, t ≤ n ∧ i = .int .i64 (t : Int) ∧ wr.ownsRow x.heap.size 3 1 u t (nvals (srT zs t)) ∧ Below x.heap.size x wr) (fun _ i _ => n - (intOf i).toNat)
  case atStart => exact ⟨0, Nat.zero_le _, rfl, World.ownsRow_nil _ _ _ _, Below.refl _ _⟩
  case round =>
    obtain ⟨t, ht, rfl, hu, hb⟩ := hrel
    have HB := hid hb
    have HLW := hid (fun (y : World) (hy : Below wr.heap.size wr y) (a : Nat) (h : a < n) (h' : t < n) => HLS.out y (hb.trans (hy.mono hb.size)) a t h h')
    by_cases hlt : t < n
    · have hti : (t < n) = True := eq_true hlt
      have HLT := hid hlt
      have htb : (t : Int) ≤ 65536 := by omega
      obtain ⟨l, hll⟩ : ∃ l, l = srT zs t := ⟨_, rfl⟩
      have HLM : Hid (∀ j, j < t → l.getD j 0 < n) := hid (fun j hj => by
        have hm : l.getD j 0 ∈ srT zs t := by
          rw [hll, List.getD_eq_getElem?_getD, List.getElem?_eq_getElem (by rw [srT_len]; exact hj)]; exact List.getElem_mem _
        have := srT_mem.1 hm
        omega)
      have HLL : Hid (l.length = t) := hid (by rw [hll, srT_len])
      have HNX : Hid (srT zs (t + 1) = insT zs l t) := hid (by rw [hll]; rfl)
      rw [← hll] at hu
      have hu2 := hu
      obtain ⟨a, cu, rfl, -, hcn, hcl, hcm, hsi⟩ := Si.ownedN hu
      have HSM : Hid (a ≠ none → ∃ pb po, a = some (⟨pb, po, none⟩ : Addr)) := hid (fun h0 => by
        rcases hu2.2 with ⟨h, -⟩ | ⟨g, cap, cur, h, -⟩
        · rw [Value.slice.injEq] at h; exact absurd h.1 h0
        · rw [Value.slice.injEq] at h; exact ⟨_, _, h.1⟩)
      rw [HLL.out] at hu2 hcl
      rw [HLL.out]
      have HSI := hid hsi
      have HCN := hid hcn
      have hct : (t : Int) ≤ (cu : Int) := by omega
      have hcb : (cu : Int) ≤ 9223372036854775807 := by unfold maxLen at hcm; omega
      clear hlt hu hb hll hcn hcl hcm hsi hu2
      obtain ⟨wo, hwo⟩ : ∃ wo, wo = wr := ⟨_, rfl⟩
      rw [← hwo] at HB HLW HSI
      go_wp2_with fail
      go_loopw [5] (fun k w2 => ∃ m : Nat, m ≤ t ∧ k = .int .i64 (m : Int) ∧ (∀ j, j < m → lsT zs (l.getD j 0) t = true) ∧ Below wo.heap.size wo w2) (fun k _ => t - (intOf k).toNat)
      case atStart => exact ⟨0, Nat.zero_le _, rfl, fun j h => by omega, by rw [hwo]; exact Below.refl _ _⟩
      case round =>
        clear hwo
        obtain ⟨m, hm, rfl, hj, hb⟩ := hrel
        have HJ := hid hj
        have HB2 := hid hb
        clear hj hb
        have hmb : (m : Int) ≤ 65536 := by omega
        by_cases hmt : m < t
        · have hmi : (m < t) = True := eq_true hmt
          have HMT := hid hmt
          obtain ⟨pb, po, rfl, hc⟩ : ∃ pb po, a = some ⟨pb, po, none⟩ ∧ wr.cell? ⟨pb, po + m, none⟩ = some (.int .i64 ((l.getD m 0 : Nat) : Int)) := by
            rcases (HSI.out.below HB2.out) with h | ⟨b, o, h, -, hc⟩
            · have := HLL.out; simp at h; rw [h] at this; simp at this; omega
            · refine ⟨b, o, h, ?_⟩
              have h1 := hc m (by rw [List.length_map, HLL.out]; exact hmt)
              rw [mapZ_get] at h1; exact h1
          have HLC := hid (HLW.out wr HB2.out (l.getD m 0) (HLM.out m hmt) HLT.out)
          obtain ⟨g, hg⟩ : ∃ g, g = l.getD m 0 := ⟨_, rfl⟩
          obtain ⟨q, hq⟩ : ∃ q, q = lsT zs g t := ⟨_, rfl⟩
          rw [← hg] at hc HLC
          rw [← hq] at HLC
          have HQ : Hid (lsT zs (l.getD m 0) t = q) := hid (by rw [hq, hg])
          clear hg hq hmt
          go_wp2_with fail
          refine HLC.out.mono ?_
          rintro e w3 ⟨rfl, hb3⟩
          have HB3 := hid (HB2.out.trans (hb3.mono HB2.out.size))
          clear hb3 HLC HB2
          cases q
          · have HB2 := HB3
            have HCX := hid hc
            clear hc
            have HIN : Hid (srT zs (t + 1) = l.take m ++ [t] ++ l.drop m) := hid (by rw [HNX.out, insT_at (k := m) (by rw [HLL.out]; exact hm) HJ.out (fun _ => HQ.out)])
            have hKt : (m : Int) ≤ (t : Int) := by omega
            have hKc : (m : Int) ≤ (cu : Int) := by omega
            have HKT := hid hm
            have HL1 : Hid ((nvals (l.take m)).length = m) := hid (by simp [nvals]; have := HLL.out; omega)
            have HL2 : Hid ((nvals (l.drop m)).length = t - m) := hid (by simp [nvals]; have := HLL.out; omega)
            have hcm : (cu = m) = False := eq_false (by have := HMT.out; omega)
            have HC1 : Hid (∀ y, Below wo.heap.size wo y → ∀ ad, some (⟨pb, po, none⟩ : Addr) = some ad → ∀ j u, (nvals (l.take m))[j]? = some u → y.cell? (ad.add j) = some u) := hid (fun y hy => (HSI.out.below hy).cells_at (k := 0) (fun j hj => by rw [List.length_take] at hj; refine ⟨by omega, ?_⟩; rw [Nat.zero_add, List.getD_eq_getElem?_getD, List.getD_eq_getElem?_getD, List.getElem?_take, if_pos (by omega)]))
            have HC2 : Hid (∀ y, Below wo.heap.size wo y → ∀ ad, some (⟨pb, po + m, none⟩ : Addr) = some ad → ∀ j u, (nvals (l.drop m))[j]? = some u → y.cell? (ad.add j) = some u) := hid (fun y hy => (HSI.out.below hy).cells_at (k := m) (fun j hj => by rw [List.length_drop] at hj; refine ⟨by omega, ?_⟩; rw [List.getD_eq_getElem?_getD, List.getD_eq_getElem?_getD, List.getElem?_drop]))
            clear HNX HLW HLM
            go_wp2_with (refine wpList_append_any rfl (.tmp 28) (.tmp 31) 22 rfl wo.heap.size 3 (.int .i64 0) 8 Try.underlying22 infoIntS rfl _ _ _ rfl (own_lit w3 3 HB2.out.size) _ m _ (nvals (l.take m)) rfl HL1.out (by intro h; cases h) (HC1.out _ (HB2.out.alloc HB2.out.size _)) (nvals_oneS _) (by have := HKT.out; unfold maxLen; omega) (by have := HKT.out; omega) (by have := HB2.out.size; simp; omega) ?_)
            intro v5 w5 hv5 hg5 _
            try rw [Nat.zero_add] at hv5
            try rw [List.nil_append] at hv5
            have HB5 := hid (below_owned (w0 := wo) (HB2.out.alloc HB2.out.size _) (own_lit w3 3 HB2.out.size) (Nat.le_refl _) hg5)
            have HV5 := hid hv5
            clear hv5 hg5 HC1
            go_wp2_with (refine wpList_append_any rfl (.tmp 32) (.tmp 34) 22 rfl wo.heap.size 3 (.int .i64 0) 8 Try.underlying22 infoIntS rfl _ _ _ rfl (HV5.out.alloc _) (some ⟨w5.heap.size, 0, none⟩) 1 1 [.int .i64 (t : Int)] rfl rfl (by intro h; cases h) (one_new w5 _ _) (by simp [Value.oneCell']) (by have := HKT.out; unfold maxLen; omega) (by have := HKT.out; omega) (by have := HB5.out.size; simp; omega) ?_)
            intro v6 w6 hv6 hg6 _
            have HB6 := hid (below_owned (w0 := wo) (HB5.out.alloc HB5.out.size _) (HV5.out.alloc _) (Nat.le_refl _) hg6)
            have HV6 := hid hv6
            clear hv6 hg6 HV5 HB5
            go_wp2_with (refine wpList_append_any rfl (.tmp 36) (.tmp 39) 22 rfl wo.heap.size 3 (.int .i64 0) 8 Try.underlying22 infoIntS rfl _ _ _ rfl HV6.out _ (t - m) _ (nvals (l.drop m)) rfl HL2.out (by intro h; cases h) (HC2.out _ HB6.out) (nvals_oneS _) (by have := HKT.out; unfold maxLen; omega) (by have := HKT.out; omega) (by have := HB6.out.size; simp; omega) ?_)
            intro v7 w7 hv7 hg7 _
            have HB7 := hid (below_owned (w0 := wo) HB6.out HV6.out (Nat.le_refl _) hg7)
            have HV7 : Hid (w7.ownsRow x.heap.size 3 1 v7 (t + 1) (nvals (srT zs (t + 1)))) := hid (own_weaken (b := wo.heap.size) (by rw [HIN.out, nvals_app, nvals_snoc, show t + 1 = m + 1 + (t - m) from by have := HKT.out; omega, List.append_assoc]; exact hv7) HB.out.size)
            clear hv7 hg7 HV6 HB6
            go_wp2_with fail
            go_roundw
            case rel => exact ⟨t + 1, HLT.out, by go_num, HV7.out, HB.out.trans (HB7.out.mono HB.out.size)⟩
            case measure => simp [intOf]; have := HLT.out; omega
          · go_wp2_with fail
            go_roundw
            case rel => exact ⟨m + 1, HMT.out, by go_num, fun j hj => (by
              by_cases e : j = m
              · rw [e]; exact HQ.out
              · exact HJ.out j (by omega)), HB3.out⟩
            case measure => simp [intOf]; have := HMT.out; omega
        · have hmi : (m < t) = False := eq_false hmt
          have hmt2 : m = t := by omega
          subst hmt2
          by_cases h0 : a = none
          · subst h0
            obtain rfl : cu = 0 := HCN.out rfl
            obtain rfl : m = 0 := by omega
            obtain rfl : l = [] := List.eq_nil_of_length_eq_zero HLL.out
            clear hmt
            have HIN : Hid (srT zs (0 + 1) = ([] : List Nat) ++ [0]) := hid (by rw [HNX.out, insT_at (k := 0) (by rw [HLL.out]; exact hm) HJ.out (fun h => absurd h (by simp))]; rfl)
            have hKt : (0 : Int) ≤ (0 : Int) := by omega
            have hKc : (0 : Int) ≤ (0 : Int) := by omega
            have HKT := hid hm
            have HL1 : Hid ((nvals (([] : List Nat))).length = 0) := hid (by simp [nvals])
            clear HNX HLW HLM
            go_wp2_with (refine wpList_append_any rfl (.tmp 28) (.tmp 31) 22 rfl wo.heap.size 3 (.int .i64 0) 8 Try.underlying22 infoIntS rfl _ _ _ rfl (own_lit wr 3 HB2.out.size) _ 0 _ (nvals (([] : List Nat))) rfl HL1.out (by intro h; rfl) (by intro ad h; cases h) (nvals_oneS _) (by have := HKT.out; unfold maxLen; omega) (by have := HKT.out; omega) (by have := HB2.out.size; simp; omega) ?_)
            intro v5 w5 hv5 hg5 _
            try rw [Nat.zero_add] at hv5
            try rw [List.nil_append] at hv5
            have HB5 := hid (below_owned (w0 := wo) (HB2.out.alloc HB2.out.size _) (own_lit wr 3 HB2.out.size) (Nat.le_refl _) hg5)
            have HV5 := hid hv5
            clear hv5 hg5
            go_wp2_with (refine wpList_append_any rfl (.tmp 32) (.tmp 34) 22 rfl wo.heap.size 3 (.int .i64 0) 8 Try.underlying22 infoIntS rfl _ _ _ rfl (HV5.out.alloc _) (some ⟨w5.heap.size, 0, none⟩) 1 1 [.int .i64 (0 : Int)] rfl rfl (by intro h; cases h) (one_new w5 _ _) (by simp [Value.oneCell']) (by have := HKT.out; unfold maxLen; omega) (by have := HKT.out; omega) (by have := HB5.out.size; simp; omega) ?_)
            intro v6 w6 hv6 hg6 _
            have HB6 := hid (below_owned (w0 := wo) (HB5.out.alloc HB5.out.size _) (HV5.out.alloc _) (Nat.le_refl _) hg6)
            have HV6 := hid hv6
            clear hv6 hg6 HV5 HB5
            go_wp2_with (refine wpList_append_any rfl (.tmp 36) (.tmp 39) 22 rfl wo.heap.size 3 (.int .i64 0) 8 Try.underlying22 infoIntS rfl _ _ _ rfl HV6.out _ 0 _ [] rfl rfl (by intro h; rfl) (by intro ad h; cases h) (by intro u hu; cases hu) (by have := HKT.out; unfold maxLen; omega) (by have := HKT.out; omega) (by have := HB6.out.size; simp; omega) ?_)
            intro v7 w7 hv7 hg7 _
            have HB7 := hid (below_owned (w0 := wo) HB6.out HV6.out (Nat.le_refl _) hg7)
            have HV7 : Hid (w7.ownsRow x.heap.size 3 1 v7 (0 + 1) (nvals (srT zs (0 + 1)))) := hid (own_weaken (b := wo.heap.size) (by rw [HIN.out, nvals_snoc]; simpa using hv7) HB.out.size)
            clear hv7 hg7 HV6 HB6
            go_wp2_with fail
            go_roundw
            case rel => exact ⟨0 + 1, HLT.out, by go_num, HV7.out, HB.out.trans (HB7.out.mono HB.out.size)⟩
            case measure => simp [intOf]; have := HLT.out; omega
          · obtain ⟨pb, po, rfl⟩ : ∃ pb po, a = some ⟨pb, po, none⟩ := HSM.out h0
            clear hmt h0
            by_cases hcu : cu = m
            · subst hcu
              have HIN : Hid (srT zs (cu + 1) = l ++ [cu]) := hid (by rw [HNX.out, insT_at (k := cu) (by rw [HLL.out]; exact hm) HJ.out (fun h => by have := HLL.out; omega)]; rw [List.take_of_length_le (by rw [HLL.out]; exact Nat.le_refl _), List.drop_of_length_le (by rw [HLL.out]; exact Nat.le_refl _), List.append_nil])
              have hKt : (cu : Int) ≤ (cu : Int) := by omega
              have hKc : (cu : Int) ≤ (cu : Int) := by omega
              have HKT := hid hm
              have HL1 : Hid ((nvals (l)).length = cu) := hid (by simp [nvals]; have := HLL.out; omega)
              have HC1 : Hid (∀ y, Below wo.heap.size wo y → ∀ ad, some (⟨pb, po, none⟩ : Addr) = some ad → ∀ j u, (nvals (l))[j]? = some u → y.cell? (ad.add j) = some u) := hid (fun y hy => (HSI.out.below hy).cells_at (k := 0) (fun j hj => by refine ⟨by omega, by rw [Nat.zero_add]⟩))
              clear HNX HLW HLM
              go_wp2_with (refine wpList_append_any rfl (.tmp 28) (.tmp 31) 22 rfl wo.heap.size 3 (.int .i64 0) 8 Try.underlying22 infoIntS rfl _ _ _ rfl (own_lit wr 3 HB2.out.size) _ cu _ (nvals (l)) rfl HL1.out (by intro h; cases h) (HC1.out _ (HB2.out.alloc HB2.out.size _)) (nvals_oneS _) (by have := HKT.out; unfold maxLen; omega) (by have := HKT.out; omega) (by have := HB2.out.size; simp; omega) ?_)
              intro v5 w5 hv5 hg5 _
              try rw [Nat.zero_add] at hv5
              try rw [List.nil_append] at hv5
              have HB5 := hid (below_owned (w0 := wo) (HB2.out.alloc HB2.out.size _) (own_lit wr 3 HB2.out.size) (Nat.le_refl _) hg5)
              have HV5 := hid hv5
              clear hv5 hg5 HC1
              go_wp2_with (refine wpList_append_any rfl (.tmp 32) (.tmp 34) 22 rfl wo.heap.size 3 (.int .i64 0) 8 Try.underlying22 infoIntS rfl _ _ _ rfl (HV5.out.alloc _) (some ⟨w5.heap.size, 0, none⟩) 1 1 [.int .i64 (cu : Int)] rfl rfl (by intro h; cases h) (one_new w5 _ _) (by simp [Value.oneCell']) (by have := HKT.out; unfold maxLen; omega) (by have := HKT.out; omega) (by have := HB5.out.size; simp; omega) ?_)
              intro v6 w6 hv6 hg6 _
              have HB6 := hid (below_owned (w0 := wo) (HB5.out.alloc HB5.out.size _) (HV5.out.alloc _) (Nat.le_refl _) hg6)
              have HV6 := hid hv6
              clear hv6 hg6 HV5 HB5
              go_wp2_with (refine wpList_append_any rfl (.tmp 36) (.tmp 39) 22 rfl wo.heap.size 3 (.int .i64 0) 8 Try.underlying22 infoIntS rfl _ _ _ rfl HV6.out _ 0 _ [] rfl rfl (by intro h; cases h) (by intro ad h j u hu; simp at hu) (by intro u hu; cases hu) (by have := HKT.out; unfold maxLen; omega) (by have := HKT.out; omega) (by have := HB6.out.size; simp; omega) ?_)
              intro v7 w7 hv7 hg7 _
              have HB7 := hid (below_owned (w0 := wo) HB6.out HV6.out (Nat.le_refl _) hg7)
              have HV7 : Hid (w7.ownsRow x.heap.size 3 1 v7 (cu + 1) (nvals (srT zs (cu + 1)))) := hid (own_weaken (b := wo.heap.size) (by rw [HIN.out, nvals_snoc]; simpa using hv7) HB.out.size)
              clear hv7 hg7 HV6 HB6
              go_wp2_with fail
              go_roundw
              case rel => exact ⟨cu + 1, HLT.out, by go_num, HV7.out, HB.out.trans (HB7.out.mono HB.out.size)⟩
              case measure => simp [intOf]; have := HLT.out; omega
            · have hcf : (cu = m) = False := eq_false hcu
              have HIN : Hid (srT zs (m + 1) = l ++ [m]) := hid (by rw [HNX.out, insT_at (k := m) (by rw [HLL.out]; exact hm) HJ.out (fun h => by have := HLL.out; omega)]; rw [List.take_of_length_le (by rw [HLL.out]; exact Nat.le_refl _), List.drop_of_length_le (by rw [HLL.out]; exact Nat.le_refl _), List.append_nil])
              have hKt : (m : Int) ≤ (m : Int) := by omega
              have hKc : (m : Int) ≤ (cu : Int) := by omega
              have HKT := hid hm
              have HL1 : Hid ((nvals (l)).length = m) := hid (by simp [nvals]; have := HLL.out; omega)
              have HC1 : Hid (∀ y, Below wo.heap.size wo y → ∀ ad, some (⟨pb, po, none⟩ : Addr) = some ad → ∀ j u, (nvals (l))[j]? = some u → y.cell? (ad.add j) = some u) := hid (fun y hy => (HSI.out.below hy).cells_at (k := 0) (fun j hj => by refine ⟨by omega, by rw [Nat.zero_add]⟩))
              clear HNX HLW HLM
              go_wp2_with (refine wpList_append_any rfl (.tmp 28) (.tmp 31) 22 rfl wo.heap.size 3 (.int .i64 0) 8 Try.underlying22 infoIntS rfl _ _ _ rfl (own_lit wr 3 HB2.out.size) _ m _ (nvals (l)) rfl HL1.out (by intro h; cases h) (HC1.out _ (HB2.out.alloc HB2.out.size _)) (nvals_oneS _) (by have := HKT.out; unfold maxLen; omega) (by have := HKT.out; omega) (by have := HB2.out.size; simp; omega) ?_)
              intro v5 w5 hv5 hg5 _
              try rw [Nat.zero_add] at hv5
              try rw [List.nil_append] at hv5
              have HB5 := hid (below_owned (w0 := wo) (HB2.out.alloc HB2.out.size _) (own_lit wr 3 HB2.out.size) (Nat.le_refl _) hg5)
              have HV5 := hid hv5
              clear hv5 hg5 HC1
              go_wp2_with (refine wpList_append_any rfl (.tmp 32) (.tmp 34) 22 rfl wo.heap.size 3 (.int .i64 0) 8 Try.underlying22 infoIntS rfl _ _ _ rfl (HV5.out.alloc _) (some ⟨w5.heap.size, 0, none⟩) 1 1 [.int .i64 (m : Int)] rfl rfl (by intro h; cases h) (one_new w5 _ _) (by simp [Value.oneCell']) (by have := HKT.out; unfold maxLen; omega) (by have := HKT.out; omega) (by have := HB5.out.size; simp; omega) ?_)
              intro v6 w6 hv6 hg6 _
              have HB6 := hid (below_owned (w0 := wo) (HB5.out.alloc HB5.out.size _) (HV5.out.alloc _) (Nat.le_refl _) hg6)
              have HV6 := hid hv6
              clear hv6 hg6 HV5 HB5
              go_wp2_with (refine wpList_append_any rfl (.tmp 36) (.tmp 39) 22 rfl wo.heap.size 3 (.int .i64 0) 8 Try.underlying22 infoIntS rfl _ _ _ rfl HV6.out _ 0 _ [] rfl rfl (by intro h; cases h) (by intro ad h j u hu; simp at hu) (by intro u hu; cases hu) (by have := HKT.out; unfold maxLen; omega) (by have := HKT.out; omega) (by have := HB6.out.size; simp; omega) ?_)
              intro v7 w7 hv7 hg7 _
              have HB7 := hid (below_owned (w0 := wo) HB6.out HV6.out (Nat.le_refl _) hg7)
              have HV7 : Hid (w7.ownsRow x.heap.size 3 1 v7 (m + 1) (nvals (srT zs (m + 1)))) := hid (own_weaken (b := wo.heap.size) (by rw [HIN.out, nvals_snoc]; simpa using hv7) HB.out.size)
              clear hv7 hg7 HV6 HB6
              go_wp2_with fail
              go_roundw
              case rel => exact ⟨m + 1, HLT.out, by go_num, HV7.out, HB.out.trans (HB7.out.mono HB.out.size)⟩
              case measure => simp [intOf]; have := HLT.out; omega
    · have hti : (t < n) = False := eq_false hlt
      obtain rfl : t = n := by omega
      have HU := hid hu
      clear hlt hu hb
      go_wp2_with fail
      go_ret
      exact ⟨_, rfl, HU.out, HB.out⟩
end Go.Proofs.Ytdobjlaggdnphaa

