/- CONTRACTS (alpha, as it landed): the table of how often each symbol is. -/
import Derived.Test.YtbhpfdpcafdeaaaAnD
import Derived.Test.YtbhpfdpcafdeaaaBmC
namespace Go.Proofs.Ytbhpfdpcafdeaaa
open Go.RowKit Go.Inc
theorem nvals_oneA (l : List Nat) : ∀ u ∈ nvals l, u.oneCell' = true := by
  intro u hu
  obtain ⟨_, _, rfl⟩ := List.mem_map.1 hu
  rfl
theorem own_apartT {w : World} {B e n b T : Nat} {v : Value} {xs : List Value} {cs : Array Value} {fr : Nat × Nat} (h : w.ownsRow B e 1 v n xs) (hb : w.heap[b]? = some (.cells cs T fr)) (hne : e ≠ T) : v.ownBlock = none ∨ some b ≠ v.ownBlock := by
  rcases h.2 with ⟨rfl, _⟩ | ⟨g1, cap, cur, rfl, _, hg1, _⟩
  · exact .inl rfl
  · refine .inr fun e' => ?_
    have e'' : b = g1 := by simpa [Value.ownBlock] using e'
    subst e''
    rw [hg1] at hb
    simp at hb
    exact hne hb.2.1
theorem own_setCellT {w : World} {B e n b T i : Nat} {v u : Value} {xs : List Value} {cs : Array Value} {fr : Nat × Nat} (h : w.ownsRow B e 1 v n xs) (hb : w.heap[b]? = some (.cells cs T fr)) (hne : e ≠ T) : (w.setCell ⟨b, i, none⟩ u).ownsRow B e 1 v n xs :=
  h.kept (grown_setCell (grown_refl w (some b)) (.inl rfl) u) ((own_apartT h hb hne).imp id fun h' e' => h' e'.symm)
theorem row_ownT {w w' : World} {B e n b T : Nat} {v : Value} {xs : List Value} {cs : Array Value} {fr : Nat × Nat} (h : w.ownsRow B e 1 v n xs) (hb : w.heap[b]? = some (.cells cs T fr)) (hne : e ≠ T) (hg : w.grownBy w' v.ownBlock) : w'.heap[b]? = some (.cells cs T fr) := by
  refine row_grown hb hg ?_
  rcases own_apartT h hb hne with h | h
  · rw [h]; exact fun e => by cases e
  · exact fun e => h e.symm
/-- What a round leaves: the first n symbols are in the table. -/
structure TabS (w : World) (B b : Nat) (L : List Nat) (n : Nat) (cs : Array Value) (K Bl : Nat → Nat) (v : Value) : Prop where
  row : w.heap[b]? = some (.cells cs 70 (0, 0))
  tab : RowT cs (fun i => L.getD i 0) K Bl v
  own : w.ownsRow B 3 1 v (syO L n).length (nvals (syO L n))
  code : ∀ s ∈ syO L n, K s = (syO L n).idxOf s
  below : ∀ i, i ≤ (syO L n).length → Bl i = ((ctO L n).take i).sum
theorem code_step {L : List Nat} {n k : Nat} {K : Nat → Nat} (h : ∀ s ∈ syO L n, K s = (syO L n).idxOf s) (hk : k = (syO L n).length) (hin : syO L (n + 1) = syO L n ++ [n]) : ∀ s ∈ syO L (n + 1), (fun i => if i = n then k else K i) s = (syO L (n + 1)).idxOf s := by
  intro s hs
  rw [hin] at hs ⊢
  simp only [List.idxOf_append]
  have hn : n ∉ syO L n := fun h' => by have := ((syO_mem L n n).1 h').1; omega
  rcases List.mem_append.1 hs with h1 | h1
  · have := ((syO_mem L n s).1 h1).1
    rw [if_pos h1, if_neg (by omega)]
    exact h s h1
  · obtain rfl : s = n := by simpa using h1
    rw [if_neg hn, if_pos rfl, hk]
    simp
theorem below_step {L : List Nat} {n k q y r : Nat} {Bl : Nat → Nat} (h : ∀ i, i ≤ (syO L n).length → Bl i = ((ctO L n).take i).sum) (hk : k = (syO L n).length) (hy : y = L.getD n 0) (hq : q = Bl k) (hr : r = q + y) (hin : syO L (n + 1) = syO L n ++ [n]) (hcn : ctO L (n + 1) = ctO L n ++ [L.getD n 0]) :
    ∀ i, i ≤ (syO L (n + 1)).length → (fun i => if i = k + 1 then r else Bl i) i = ((ctO L (n + 1)).take i).sum := by
  intro i hi
  have hl : (ctO L n).length = k := by rw [ctO_len, hk]
  rw [hin, List.length_append, ← hk] at hi
  have hi' : i ≤ k + 1 := by simpa using hi
  rw [hcn]
  show (if i = k + 1 then r else Bl i) = _
  by_cases e : i = k + 1
  · subst e
    rw [if_pos rfl, List.take_of_length_le (by rw [List.length_append, hl]; simp), List.sum_append, hr, hq, h k (by omega), List.take_of_length_le (by omega), ← hy]
    simp
  · rw [if_neg e, List.take_append_of_le_length (by omega)]
    exact h i (by omega)
set_option maxRecDepth 20000 in
set_option maxHeartbeats 2000000 in
theorem of_any (x : World) (L : List Nat) (hL : L.length = 258) (hsum : (ctO L 258).sum ≤ 65536) :
    Calls Try.prog 39 #[.agg (nvals L).toArray] x fun e w' => ∃ b, e = .returned (.pointer (some ⟨b, 0, none⟩)) ∧ Tb w' b (syO L 258) (ctO L 258) ∧ Below x.heap.size x w' := by
  have HL := hid hL
  have HS := hid hsum
  have HIX := hid (fun (k : Nat) (hk : k < 258) (w : World) => index_arr (L := L) hk hL w)
  obtain ⟨c0, hb0, hr0⟩ := builtTab L hL
  have hsz : (nvals L).toArray.size = 258 := by rw [List.size_toArray, nvals_len, hL]
  obtain ⟨A, hA⟩ : ∃ A, A = (nvals L).toArray := ⟨_, rfl⟩
  rw [← hA] at hb0 hsz HIX ⊢
  have HB0 := hid hb0
  have HR0 := hid hr0
  have HSZ := hid hsz
  clear hL hsum hb0 hr0 hsz hA
  go_enter Try.func39, Try.ntmps39
  go_wp2_with (refine wpList_box_own rfl _ _ rfl A rfl ?_)
  intro w1 hw1 hb1
  have HW1 := hid hw1
  have HB1 := hid hb1
  clear hw1 hb1
  go_upto_region 1 with fail
  refine wp_region_lit ?_
  refine wpList_load_row rfl 66 _ rfl x.heap.size rfl 66 A (0, 0) _ HW1.out uArr rfl (by rw [HSZ.out]; exact infoArr) ?_
  refine wpList_build_own rfl 70 (.tmp 7) rfl (.agg A) rfl c0 HB0.out ?_
  refine wpList_box_own rfl _ _ rfl c0 rfl ?_
  intro w2 hw2 hb2
  have HW2 := hid hw2
  have HW12 := hid (row_below HW1.out hb2)
  have HB2 := hid (HB1.out.trans (hb2.mono HB1.out.size))
  have HT := hid (show x.heap.size ≠ w1.heap.size from Nat.ne_of_lt (row_lt HW1.out))
  obtain ⟨b, hbe⟩ : ∃ b, b = w1.heap.size := ⟨_, rfl⟩
  have HBE : Hid (x.heap.size < b) := hid (by rw [hbe]; exact row_lt HW1.out)
  rw [← hbe] at HW2 ⊢
  clear hw2 hb2 hbe HT HW1 HB1
  go_wp2_with (refine wpList_load_row rfl 66 _ rfl x.heap.size rfl 66 A (0, 0) _ HW12.out uArr rfl (by rw [HSZ.out]; exact infoArr) ?_)
  have HT0 : Hid (TabS w2 x.heap.size b L 0 c0 (fun _ => 0) (fun _ => 0) (.slice none 0 0)) := hid ⟨HW2.out, HR0.out, World.ownsRow_nil _ _ _ _, fun s h => (by cases h), fun i h => by
    obtain rfl : i = 0 := Nat.le_zero.1 h
    rfl⟩
  clear HW2 HR0 HW12 HSZ
  go_wp2_with fail
  go_loopw [11] (fun i wr => ∃ (n : Nat) (cs : Array Value) (K Bl : Nat → Nat) (v : Value), n ≤ 258 ∧ i = .int .i64 (n : Int) ∧ TabS wr x.heap.size b L n cs K Bl v ∧ Below x.heap.size x wr) (fun i _ => 258 - (intOf i).toNat)
  case atStart => exact ⟨0, _, _, _, _, Nat.zero_le _, rfl, HT0.out, HB2.out⟩
  case round =>
    clear HT0 HB2
    obtain ⟨n, cs, K, Bl, v, hn, rfl, ht, hb⟩ := hrel
    have HT := hid ht
    have HB := hid hb
    clear ht hb
    by_cases hlt : (n : Int) < 258
    · have hix := HIX.out n (by omega)
      have HNL : Hid (n < 258) := hid (by omega)
      obtain ⟨y, hy⟩ : ∃ y, y = L.getD n 0 := ⟨_, rfl⟩
      have HY := hid hy
      rw [← hy] at hix
      by_cases hy0 : y = 0
      · subst hy0
        have HSO := hid (syO_out (L := L) (n := n) (by rw [← HY.out]; omega))
        have HCO := hid (ctO_out (L := L) (n := n) (by rw [← HY.out]; omega))
        clear hy
        go_wp2_with fail
        go_roundw
        case rel =>
          have h := HT.out
          exact ⟨n + 1, cs, K, Bl, v, HNL.out, by go_num, ⟨h.row, h.tab, by rw [HSO.out]; exact h.own, by rw [HSO.out]; exact h.code, by rw [HSO.out, HCO.out]; exact h.below⟩, HB.out⟩
        case measure => simp [intOf]; have := HNL.out; omega
      · have hyp : 0 < y := by omega
        have HYP := hid hyp
        have hyz : ((y : Int) == 0) = false := by rw [beq_eq_false_iff_ne]; omega
        have HSI := hid (syO_in (L := L) (n := n) (by rw [← HY.out]; exact hyp))
        have HCI := hid (ctO_in (L := L) (n := n) (by rw [← HY.out]; exact hyp))
        have hkl := syO_len L n
        have h0 := HT.out
        obtain ⟨a, c, rfl, -, hnone, hkc, hcm, -⟩ := Si.ownedN h0.own
        have HLE := hid (ctO_sum L (n + 1) 258 (by omega))
        have HCL := hid (ctO_len L n)
        have HQ := hid (h0.below _ (Nat.le_refl _))
        obtain ⟨k, hk⟩ : ∃ k, k = (syO L n).length := ⟨_, rfl⟩
        have HK := hid hk
        rw [← hk] at hkl HQ
        have j0 : wr.cell? ⟨b, 516, none⟩ = some (.slice a k c) := by rw [cell_of_row _ _ _ _ _ _ h0.row, hk]; exact h0.tab.syms
        have j1 : wr.cell? ⟨b, 258 + n, none⟩ = some (.int .i64 ((K n : Nat) : Int)) := by rw [cell_of_row _ _ _ _ _ _ h0.row]; exact h0.tab.codes n HNL.out
        have f1 : wr.frozen? ⟨b, 258 + n, none⟩ = false := frozen_of_row _ _ _ _ _ h0.row
        have HW1 := hid (heap_setCell_same wr b (258 + n) _ _ (.int .i64 (k : Int)) h0.row)
        have HT1 := hid (h0.tab.setK HNL.out k)
        have HO1 := hid (own_setCellT (i := 258 + n) (u := .int .i64 (k : Int)) h0.own h0.row (by decide))
        have HB1 := hid (HB.out.setCell (p := ⟨b, 258 + n, none⟩) (Nat.le_of_lt HBE.out) (.int .i64 (k : Int)))
        obtain ⟨K1, hK1⟩ : ∃ K1 : Nat → Nat, K1 = fun i => if i = n then k else K i := ⟨_, rfl⟩
        have HK1 := hid hK1
        rw [← hK1] at HT1
        have HC0 := hid h0.code
        have HBL := hid h0.below
        have h5 : (k : Int) < 258 := by omega
        generalize K n = kn at *
        clear hyp hy0 h0 hk hK1 HT HB hy hkl
        go_upto_region 8 with fail
        obtain ⟨z1, hz1⟩ : ∃ z1, z1 = wr.setCell ⟨b, 258 + n, none⟩ (.int .i64 (k : Int)) := ⟨_, rfl⟩
        rw [← hz1] at HW1 HO1 HB1 ⊢
        clear hz1 j0 j1 f1
        generalize (cs.setIfInBounds (258 + n) (.int .i64 (k : Int))) = cs1 at *
        obtain ⟨q, hq⟩ : ∃ q, q = Bl k := ⟨_, rfl⟩
        have hqy : (q : Int) + (y : Int) ≤ 65536 := by
          have h1 := HLE.out
          have h2 := HS.out
          rw [HCI.out, List.sum_append] at h1
          have h3 : q = (ctO L n).sum := by rw [hq, HQ.out, List.take_of_length_le (by rw [HCL.out, ← HK.out]; exact Nat.le_refl _)]
          have h4 : [L.getD n 0].sum = L.getD n 0 := by simp
          rw [h4, ← HY.out] at h1
          omega
        have HQE := hid hq
        have j0 : z1.cell? ⟨b, 516, none⟩ = some (.slice a (syO L n).length c) := by rw [cell_of_row _ _ _ _ _ _ HW1.out]; exact HT1.out.syms
        have j2 : z1.cell? ⟨b, 517 + k, none⟩ = some (.int .i64 (q : Int)) := by rw [cell_of_row _ _ _ _ _ _ HW1.out, hq]; exact HT1.out.below k (by omega)
        have j3 : z1.cell? ⟨b, 517 + (k + 1), none⟩ = some (.int .i64 ((Bl (k + 1) : Nat) : Int)) := by rw [cell_of_row _ _ _ _ _ _ HW1.out]; exact HT1.out.below (k + 1) (by omega)
        have f3 : z1.frozen? ⟨b, 517 + (k + 1), none⟩ = false := frozen_of_row _ _ _ _ _ HW1.out
        generalize Bl (k + 1) = bk at *
        obtain ⟨r, hr⟩ : ∃ r, r = q + y := ⟨_, rfl⟩
        have hqr : (q : Int) + (y : Int) = (r : Int) := by omega
        have hrb : (r : Int) ≤ 65536 := by omega
        have HR := hid hr
        clear hr hq hqy
        go_wp2_with fail
        go_region
        rw [← HK.out] at HO1 HT1
        have HLT : Hid (k + 1 < 259) := hid (by omega)
        have HW2 : Hid ((z1.setCell ⟨b, 517 + (k + 1), none⟩ (.int .i64 (r : Int))).drew.heap[b]? = some (.cells (cs1.setIfInBounds (517 + (k + 1)) (.int .i64 (r : Int))) 70 (0, 0))) := hid (heap_setCell_same z1 b (517 + (k + 1)) _ _ (.int .i64 (r : Int)) HW1.out)
        have HT2 := hid (HT1.out.setB HLT.out r)
        have HO2 : Hid ((z1.setCell ⟨b, 517 + (k + 1), none⟩ (.int .i64 (r : Int))).drew.ownsRow x.heap.size 3 1 (.slice a k c) k (nvals (syO L n))) := hid (own_setCellT (i := 517 + (k + 1)) (u := .int .i64 (r : Int)) HO1.out HW1.out (by decide))
        have HB2 := hid ((HB1.out.setCell (p := ⟨b, 517 + (k + 1), none⟩) (Nat.le_of_lt HBE.out) (.int .i64 (r : Int))).drew)
        generalize (cs1.setIfInBounds (517 + (k + 1)) (.int .i64 (r : Int))) = cs2 at *
        generalize (z1.setCell ⟨b, 517 + (k + 1), none⟩ (.int .i64 (r : Int))).drew = z2 at *
        clear HW1 HT1 HO1 HB1 j0 j2 j3 f3
        have j0 : z2.cell? ⟨b, 516, none⟩ = some (.slice a k c) := by rw [cell_of_row _ _ _ _ _ _ HW2.out]; exact HT2.out.syms
        go_wp2_with (refine wpList_append_nx rfl (.tmp 46) (.tmp 48) 23 rfl x.heap.size 3 (.int .i64 0) 8 Try.underlying23 infoIntA rfl _ _ _ rfl (HO2.out.alloc _) (some ⟨z2.heap.size, 0, none⟩) 1 1 [.int .i64 (n : Int)] rfl rfl (by intro h; cases h) (one_new z2 _ _) (by simp [Value.oneCell']) (by have := HLT.out; unfold maxLen; omega) (by have := HLT.out; omega) (by have := HB2.out.size; simp; omega) ?_)
        intro v3 w3 hu3 hg3 hn3
        have HB3 := hid (below_owned (w0 := x) (HB2.out.alloc HB2.out.size _) (HO2.out.alloc _) (Nat.le_refl _) hg3)
        have HW3 := hid (row_ownT (HO2.out.alloc (.cells #[.int .i64 (n : Int)] 3)) (row_below HW2.out ((Below.refl _ _).alloc (Nat.le_refl _) _)) (by decide) hg3)
        have HO3 : Hid (w3.ownsRow x.heap.size 3 1 v3 (syO L (n + 1)).length (nvals (syO L (n + 1)))) := hid (by rw [HSI.out, nvals_snoc, List.length_append, ← HK.out]; exact hu3)
        clear hu3 hg3 hn3 HO2 HW2 HB2 j0
        obtain ⟨a3, c3, rfl, -, -, -, -, -⟩ := Si.ownedN HO3.out
        have j0 : w3.cell? ⟨b, 516, none⟩ = some (.slice a k c) := by rw [cell_of_row _ _ _ _ _ _ HW3.out]; exact HT2.out.syms
        have f0 : w3.frozen? ⟨b, 516, none⟩ = false := frozen_of_row _ _ _ _ _ HW3.out
        have HKK := hid (code_step HC0.out HK.out HSI.out)
        rw [← HK1.out] at HKK
        have HBB := hid (below_step HBL.out HK.out HY.out HQE.out HR.out HSI.out HCI.out)
        have HFIN : Hid (TabS (w3.setCell ⟨b, 516, none⟩ (.slice a3 (syO L (n + 1)).length c3)) x.heap.size b L (n + 1) (cs2.setIfInBounds 516 (.slice a3 (syO L (n + 1)).length c3)) K1 (fun i => if i = k + 1 then r else Bl i) (.slice a3 (syO L (n + 1)).length c3) ∧ Below x.heap.size x (w3.setCell ⟨b, 516, none⟩ (.slice a3 (syO L (n + 1)).length c3))) := hid
          ⟨⟨heap_setCell_same w3 b 516 _ _ _ HW3.out, HT2.out.setV _, own_setCellT HO3.out HW3.out (by decide), HKK.out, HBB.out⟩, HB3.out.setCell (p := ⟨b, 516, none⟩) (Nat.le_of_lt HBE.out) _⟩
        generalize (syO L (n + 1)).length = k3 at *
        clear HO3 HW3 HB3 HT2 HC0 HBL HKK HBB HSI HCI
        go_wp2_with fail
        go_roundw
        case rel => exact ⟨n + 1, _, _, _, _, HNL.out, by go_num, HFIN.out.1, HFIN.out.2⟩
        case measure => simp [intOf]; have := HNL.out; omega
    · obtain rfl : n = 258 := by omega
      clear hlt
      go_wp2_with fail
      go_ret
      have h := HT.out
      obtain ⟨a, c, rfl, -, -, hc1, hc2, hsi⟩ := Si.ownedN h.own
      refine ⟨b, rfl, ⟨_, _, _, a, c, h.tab.tbF h.row, hsi.mono fun _ _ _ => trivial, ⟨hc1, hc2⟩, ⟨ctO_len _ _, syO_len _ _, fun s hs => ((syO_mem L 258 s).1 hs).1, fun s hs => ?_, fun i hi => ?_, h.code, h.below, HS.out⟩⟩, HB.out⟩
      · rw [syO_mem]; exact ⟨fun h => ⟨hs, h⟩, fun h => h.2⟩
      · unfold ctO
        rw [List.getD_eq_getElem?_getD (l := List.map _ _), List.getElem?_map, List.getElem?_eq_getElem hi, List.getD_eq_getElem?_getD (l := syO L 258), List.getElem?_eq_getElem hi]
        rfl
end Go.Proofs.Ytbhpfdpcafdeaaa
