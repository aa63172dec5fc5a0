/- CONTRACTS (layer 16): the law's turn: the same numbers in another order. -/
import Derived.Test.YtdobjlaggdnphaaInL
namespace Go.Inc
open Go.RowKit
def swN (S : List Nat) (a b : Nat) : List Nat := (S.set a (S.getD b 0)).set b (S.getD a 0)
theorem swN_len (S : List Nat) (a b : Nat) : (swN S a b).length = S.length := by simp [swN]
theorem swN_get {S : List Nat} {a b i : Nat} (ha : a < S.length) (hb : b < S.length) : (swN S a b).getD i 0 = if b = i then S.getD a 0 else if a = i then S.getD b 0 else S.getD i 0 := by
  unfold swN
  rw [List.getD_eq_getElem?_getD (l := (S.set a (S.getD b 0)).set b (S.getD a 0)), List.getElem?_set]
  by_cases e1 : b = i
  · rw [if_pos e1, if_pos e1]
    simp [hb]
  · rw [if_neg e1, if_neg e1, List.getElem?_set]
    by_cases e2 : a = i
    · rw [if_pos e2, if_pos e2]
      simp [ha]
    · rw [if_neg e2, if_neg e2]
      exact (List.getD_eq_getElem?_getD ..).symm
theorem swN_perm {S : List Nat} {a b : Nat} (ha : a < S.length) (hb : b < S.length) : (swN S a b).Perm S := by
  have h := (Array.swap_perm (xs := S.toArray) (i := a) (j := b) (by simpa using ha) (by simpa using hb)).toList
  have e : (S.toArray.swap a b (by simpa using ha) (by simpa using hb)).toList = swN S a b := by
    unfold swN
    simp [Array.swap_def, List.getD_eq_getElem?_getD, List.getElem?_eq_getElem ha, List.getElem?_eq_getElem hb]
  rw [e] at h
  exact h
/-- These numbers lie in block g. -/
def RowN (w : World) (T : TypeId) (g n : Nat) (O : List Nat) : Prop := ∃ cur, w.heap[g]? = some (.cells cur T) ∧ ∀ i, i < n → cur[i]? = some (.int .i64 ((O.getD i 0 : Nat) : Int))
end Go.Inc
namespace Go.Proofs.Ytdobjlaggdnphaa
open Go.RowKit Go.Inc
set_option maxRecDepth 20000 in
set_option maxHeartbeats 4000000 in
theorem turn16_any (ok ok' : Nat → Prop) (w : World) (v v' : Value) (fs : List Nat) (bys : List Int) (h : So ok w v (zsN fs)) (h' : So ok' w v' bys) (hl : fs.length ≤ 65536) :
    Calls Try.prog 15 #[v, v'] w fun e w' => ∃ u gs, e = .returned u ∧ gs.Perm fs ∧ So (fun g => w.heap.size ≤ g) w' u (zsN gs) ∧ Below w.heap.size w w' := by
  obtain ⟨a, c, rfl, hs, hlc, hcm, hn⟩ := h
  obtain ⟨b, d, rfl, hs', hlc', hcm', hn'⟩ := h'
  rw [zsN_len] at hlc ⊢
  have HS' := hid hs'
  obtain ⟨n, hnn⟩ : ∃ n, n = fs.length := ⟨_, rfl⟩
  obtain ⟨r, hr⟩ : ∃ r, r = bys.length := ⟨_, rfl⟩
  have HR := hid hr
  have HNL : Hid ((nvals fs).length = n) := hid (by simp [nvals]; exact hnn.symm)
  have HNF := hid hnn
  have HNO : Hid (a = none → n = 0) := hid fun e => by have := hn e; omega
  have HCS : Hid (∀ y, Below w.heap.size w y → ∀ ad, a = some ad → ∀ j u, (nvals fs)[j]? = some u → y.cell? (ad.add j) = some u) := hid (fun y hy ad had j u hu => by
    have hs2 := hs.below hy
    rcases id hs2 with h | ⟨b, o, rfl, _, _⟩
    · have h1 := zsN_len fs
      rw [h] at h1
      rw [nvals, List.eq_nil_of_length_eq_zero (l := fs) h1.symm] at hu
      simp at hu
    · exact Si.cells_at (k := 0) (l := fs) (m := fs) hs2 (fun j hj => ⟨by omega, by rw [Nat.zero_add]⟩) ad had j u hu)
  rw [← hnn, ← hr]
  have hnb : (n : Int) ≤ 65536 := by omega
  have hrb : (r : Int) ≤ 9223372036854775807 := by unfold maxLen at hcm'; omega
  clear hs hs' hlc hlc' hcm hcm' hn hn' hnn hr
  go_enter Try.func15, Try.ntmps15
  go_wp2_with (refine wpList_append_any rfl (.tmp 9) (.tmp 10) 22 rfl w.heap.size 3 (.int .i64 0) 8 Try.underlying22 infoIntS rfl _ _ _ rfl (own_lit w 3 (Nat.le_refl _)) _ n _ (nvals fs) rfl HNL.out HNO.out (HCS.out _ ((Below.refl _ _).alloc (Nat.le_refl _) _)) (nvals_oneS _) (by unfold maxLen; omega) (by omega) (by simp) ?_)
  intro v11 w11 hv11 hg11 hne
  try rw [Nat.zero_add] at hv11
  try rw [List.nil_append] at hv11
  have hb11 := below_owned (w0 := w) ((Below.refl w.heap.size w).alloc (Nat.le_refl _) _) (own_lit w 3 (Nat.le_refl _)) (Nat.le_refl _) hg11
  rcases hv11.2 with ⟨hv0, h0⟩ | ⟨g, cap, cur, rfl, hbg, hg, hnc, hcmx, hcs, htake⟩
  · exact absurd hv0 (by simpa using hne)
  · have hcur : ∀ i, i < n → cur[i]? = some (.int .i64 ((fs.getD i 0 : Nat) : Int)) := fun i hi => by
      have hi2 : i < fs.length := by rw [← HNF.out]; exact hi
      have h1 := hv11.cells (g := g) rfl i (.int .i64 ((fs.getD i 0 : Nat) : Int)) (by
        rw [nvals, List.getElem?_map, List.getElem?_eq_getElem hi2, List.getD_eq_getElem?_getD, List.getElem?_eq_getElem hi2]; rfl)
      rw [Addr.add_lit, cell_of_row _ _ _ _ _ _ hg, Nat.zero_add] at h1
      exact h1
    have HRW : Hid (RowN w11 3 g n fs) := hid ⟨cur, hg, hcur⟩
    have HB := hid hb11
    have HBG := hid hbg
    have HNC := hid hnc
    have HCX := hid hcmx
    clear hv11 hg11 hne hb11 hg hcs htake hcur hbg hnc hcmx HCS HNL HNO
    go_wp2_with fail
    go_loopw [6, 7, 8] (fun i _ _ wr => ∃ (t : Nat) (O : List Nat), t ≤ 60 ∧ i = .int .i64 (t : Int) ∧ O.Perm fs ∧ RowN wr 3 g n O ∧ Below w.heap.size w wr) (fun i _ _ _ => 60 - (intOf i).toNat)
    case atStart => exact ⟨0, fs, by omega, rfl, List.Perm.refl _, HRW.out, HB.out⟩
    case round =>
      clear HRW HB
      obtain ⟨t, O, ht, rfl, hp, hrow, hb⟩ := hrel
      have HP := hid hp
      have HROW := hid hrow
      have HB := hid hb
      have HEND : Hid (∃ gs, gs.Perm fs ∧ So (fun g => w.heap.size ≤ g) wr (.slice (some ⟨g, 0, none⟩) n cap) (zsN gs)) := hid (by
        have hon : (zsN O).length = n := by rw [zsN_len, hp.length_eq, HNF.out]
        obtain ⟨cur, h1, h2⟩ := hrow
        refine ⟨O, hp, ⟨some ⟨g, 0, none⟩, cap, by rw [hon], .inr ⟨g, 0, rfl, HBG.out, fun i hi => ?_⟩, by rw [hon]; exact HNC.out, HCX.out, fun h => by cases h⟩⟩
        rw [hon] at hi
        rw [Nat.zero_add, zsN_get, cell_of_row _ _ _ _ _ _ h1]
        exact h2 i hi)
      clear hp hrow hb
      have htb : (t : Int) ≤ 60 := by omega
      by_cases htr : t < r
      · have hti : (t < r) = True := eq_true htr
        have htr2 : (t : Int) < (r : Int) := by omega
        by_cases ht6 : t < 60
        · have ht7 : (t < 60) = True := eq_true ht6
          have ht8 : (t : Int) < 60 := by omega
          have HT6 := hid ht6
          by_cases hn1 : 1 < n
          · have hn2 : (1 < n) = True := eq_true hn1
            have hn3 : (1 : Int) < (n : Int) := by omega
            obtain ⟨b9, o9, rfl, hc9⟩ : ∃ b9 o9, b = some ⟨b9, o9, none⟩ ∧ wr.cell? ⟨b9, o9 + t, none⟩ = some (.int .i64 (bys.getD t 0)) := by
              have hkL : t < bys.length := by rw [← HR.out]; exact htr
              rcases HS'.out.below HB.out with h | ⟨b, o, h, _, hc⟩
              · rw [h] at hkL; simp at hkL
              · exact ⟨b, o, h, hc t hkL⟩
            obtain ⟨z, hz⟩ : ∃ z, z = bys.getD t 0 := ⟨_, rfl⟩
            rw [← hz] at hc9
            obtain ⟨r1, hr1⟩ : ∃ r1, r1 = t % n := ⟨_, rfl⟩
            have h1n : r1 < n := by rw [hr1]; exact Nat.mod_lt _ (by omega)
            have hrn1 : (r1 : Int) < (n : Int) := by omega
            have hrm1 : (t : Int).tmod (n : Int) = (r1 : Int) := by rw [hr1]; exact (Int.ofNat_tmod t n).symm
            obtain ⟨r2, hr2, hrn2⟩ := u64_rem z (m := (n : Int)) (by omega)
            have h2n : r2 < n := by omega
            have hnw : IntKind.u64.wrap (n : Int) = (n : Int) := by rw [IntKind.wrap_u64]; omega
            have hnz : ((n : Int) = 0) = False := eq_false (by omega)
            have hri1 : IntKind.i64.wrap (r1 : Int) = (r1 : Int) := by rw [IntKind.wrap_i64]; omega
            have hri2 : IntKind.i64.wrap (r2 : Int) = (r2 : Int) := by rw [IntKind.wrap_i64]; omega
            have hR1 := hid h1n
            have hR2 := hid h2n
            clear htr ht6 hn1 hz hr1 h1n h2n HEND
            go_wp2_with fail
            go_region
            go_wp2_with fail
            obtain ⟨wd, hwd⟩ : ∃ wd, wd = wr.drew := ⟨_, rfl⟩
            have HBD : Hid (Below w.heap.size w wd) := hid (by rw [hwd]; exact HB.out.drew)
            have HRD : Hid (RowN wd 3 g n O) := hid (by rw [hwd]; exact HROW.out)
            rw [← hwd]
            clear hwd hc9 HB HROW
            obtain ⟨cur2, hg, hcur⟩ := HRD.out
            have HOL : Hid (O.length = n) := hid (by rw [HP.out.length_eq, HNF.out])
            have hcsz : n ≤ cur2.size := by
              have := hcur (n - 1) (by omega)
              have := (Array.getElem?_eq_some_iff.1 this).1
              omega
            obtain ⟨A, hA⟩ : ∃ A, A = O.getD r1 0 := ⟨_, rfl⟩
            obtain ⟨B, hB⟩ : ∃ B, B = O.getD r2 0 := ⟨_, rfl⟩
            have hca : wd.cell? ⟨g, r1, none⟩ = some (.int .i64 (A : Int)) := by rw [cell_of_row _ _ _ _ _ _ hg, hcur r1 hR1.out, hA]
            have hcb2 : wd.cell? ⟨g, r2, none⟩ = some (.int .i64 (B : Int)) := by rw [cell_of_row _ _ _ _ _ _ hg, hcur r2 hR2.out, hB]
            obtain ⟨w12, hw12⟩ : ∃ w12, w12 = ((wd.setCell ⟨g, r1, none⟩ (.int .i64 (B : Int))).setCell ⟨g, r2, none⟩ (.int .i64 (A : Int))).drew := ⟨_, rfl⟩
            have HT12 : Hid (RowN w12 3 g n (swN O r1 r2)) := hid ⟨_, by rw [hw12]; exact heap_setCell_same (wd.setCell ⟨g, r1, none⟩ (.int .i64 (B : Int))) g r2 _ _ (.int .i64 (A : Int)) (heap_setCell_same wd g r1 _ _ (.int .i64 (B : Int)) hg), fun i hi => by
              rw [swN_get (by rw [HOL.out]; exact hR1.out) (by rw [HOL.out]; exact hR2.out), Array.getElem?_setIfInBounds]
              by_cases e2 : r2 = i
              · rw [if_pos e2, if_pos (by rw [Array.size_setIfInBounds]; omega), if_pos e2, ← hA]
              · rw [if_neg e2, if_neg e2, Array.getElem?_setIfInBounds]
                by_cases e3 : r1 = i
                · rw [if_pos e3, if_pos (by omega), if_pos e3, ← hB]
                · rw [if_neg e3, if_neg e3]; exact hcur i hi⟩
            have hb12 : Below w.heap.size w w12 := by
              rw [hw12]
              exact (below_grown HBD.out (grown_setCell (grown_setCell (grown_refl wd (some g)) (p := ⟨g, r1, none⟩) (.inl rfl) _) (p := ⟨g, r2, none⟩) (.inl rfl) _) HBG.out HBD.out.size).drew
            have hf1 : wd.frozen? ⟨g, r1, none⟩ = false := frozen_of_row wd g r1 _ _ hg
            have hf2 : wd.frozen? ⟨g, r2, none⟩ = false := frozen_of_row wd g r2 _ _ hg
            have hf3 : (wd.setCell ⟨g, r1, none⟩ (.int .i64 (B : Int))).frozen? ⟨g, r2, none⟩ = false := frozen_of_row _ g r2 _ _ (heap_setCell_same wd g r1 _ _ (.int .i64 (B : Int)) hg)
            have hcd : (wd.setCell ⟨g, r1, none⟩ (.int .i64 (B : Int))).cell? ⟨g, r2, none⟩ = some (.int .i64 (B : Int)) := by
              rw [cell_of_row _ _ _ _ _ _ (heap_setCell_same wd g r1 _ _ (.int .i64 (B : Int)) hg), Array.getElem?_setIfInBounds]
              by_cases e : r1 = r2
              · rw [if_pos e, if_pos (by have := hR1.out; omega)]
              · rw [if_neg e, hcur r2 hR2.out, hB]
            have h1t : (r1 < n) = True := eq_true hR1.out
            have h2t : (r2 < n) = True := eq_true hR2.out
            have HW12 := hid hw12
            have HPS : Hid ((swN O r1 r2).Perm fs) := hid ((swN_perm (by rw [HOL.out]; exact hR1.out) (by rw [HOL.out]; exact hR2.out)).trans HP.out)
            have HB12 := hid hb12
            clear hg hcur hcsz hA hB hw12 hb12 HRD HBD HP HOL
            go_region
            all_goals
              try go_wp2_with fail
              try rw [← HW12.out]
              go_roundw
              case rel => exact ⟨t + 1, _, HT6.out, by go_num, HPS.out, HT12.out, HB12.out⟩
              case measure => simp [intOf]; have := HT6.out; omega
          · have hn2 : (1 < n) = False := eq_false hn1
            have hn3 : (n : Int) ≤ 1 := by omega
            clear htr ht6 hn1
            go_wp2_with fail
            go_ret
            obtain ⟨gs, h1, h2⟩ := HEND.out
            first | exact ⟨_, gs, rfl, h1, h2, HB.out⟩ | exact ⟨_, rfl, gs, h1, h2, HB.out⟩ | exact ⟨_, rfl, ⟨gs, h1, h2⟩, HB.out⟩
        · have ht7 : (t < 60) = False := eq_false ht6
          have ht8 : (60 : Int) ≤ (t : Int) := by omega
          clear htr ht6
          go_wp2_with fail
          go_ret
          obtain ⟨gs, h1, h2⟩ := HEND.out
          first | exact ⟨_, gs, rfl, h1, h2, HB.out⟩ | exact ⟨_, rfl, gs, h1, h2, HB.out⟩ | exact ⟨_, rfl, ⟨gs, h1, h2⟩, HB.out⟩
      · have hti : (t < r) = False := eq_false htr
        clear htr
        go_wp2_with fail
        go_ret
        obtain ⟨gs, h1, h2⟩ := HEND.out
        first | exact ⟨_, gs, rfl, h1, h2, HB.out⟩ | exact ⟨_, rfl, gs, h1, h2, HB.out⟩ | exact ⟨_, rfl, ⟨gs, h1, h2⟩, HB.out⟩
end Go.Proofs.Ytdobjlaggdnphaa
