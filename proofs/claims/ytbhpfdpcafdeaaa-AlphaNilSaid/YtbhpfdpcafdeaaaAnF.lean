/- CONTRACTS (alpha, as it landed): the table of a text. -/
import Derived.Test.YtbhpfdpcafdeaaaAnE
namespace Go.Inc
open Go.RowKit
theorem nvals_setIf (m : List Nat) (i k : Nat) : (nvals m).toArray.setIfInBounds i (.int .i64 (k : Int)) = (nvals (m.set i k)).toArray := by
  rw [← nvals_setA, List.setIfInBounds_toArray]
theorem syO_symT {L : List Nat} {zs : List Int} : ∀ n, (∀ s, s < n → L.getD s 0 = zs.count (s : Int)) → syO L n = symT zs n
  | 0, _ => rfl
  | n + 1, h => by
    have ih := syO_symT n fun s hs => h s (by omega)
    have hn := h n (by omega)
    by_cases h0 : 0 < L.getD n 0
    · rw [syO_in h0, symT_in (by rw [← hn]; exact h0), ih]
    · rw [syO_out h0, symT_out (by rw [← hn]; exact h0), ih]
theorem ctO_cntT {L : List Nat} {zs : List Int} {n : Nat} (h : ∀ s, s < n → L.getD s 0 = zs.count (s : Int)) : ctO L n = cntT zs n := by
  unfold ctO cntT
  rw [syO_symT n h]
  apply List.map_congr_left
  intro s hs
  have : s < n := ((syO_mem L n s).1 (by rw [syO_symT n h]; exact hs)).1
  exact h s this
/-- How often each symbol is in the first t. -/
def Oft (zs : List Int) (m : List Nat) (t : Nat) : Prop := m.length = 258 ∧ ∀ s, s < 258 → m.getD s 0 = (zs.take t).count (s : Int)
theorem Oft.zero (zs : List Int) : Oft zs (List.replicate 258 0) 0 := by
  refine ⟨List.length_replicate, fun s hs => ?_⟩
  rw [List.getD_eq_getElem?_getD, List.getElem?_replicate, if_pos hs, List.take_zero]
  rfl
theorem Oft.step {zs : List Int} {m : List Nat} {t s : Nat} (h : Oft zs m t) (ht : t < zs.length) (hs : s < 258) (hz : zs.getD t 0 = (s : Int)) : Oft zs (m.set s (m.getD s 0 + 1)) (t + 1) := by
  refine ⟨by rw [List.length_set]; exact h.1, fun i hi => ?_⟩
  rw [count_take ht, hz, List.getD_eq_getElem?_getD, List.getElem?_set]
  by_cases e : s = i
  · subst e
    rw [if_pos rfl, if_pos (by rw [h.1]; exact hs), if_pos rfl, h.2 s hs]
    rfl
  · rw [if_neg e, if_neg (by omega), ← List.getD_eq_getElem?_getD, h.2 i hi, Nat.add_zero]
end Go.Inc
namespace Go.Proofs.Ytbhpfdpcafdeaaa
open Go.RowKit Go.Inc
theorem new1_any (x : World) (z : Int) (hz : i64a z) : Calls Try.prog 37 #[.int .i64 z] x fun e w' => e = .returned (.bool (!symB z)) ∧ x = w' := by
  have HIS := hid (isSymbol_any x z hz)
  cases hb : symB z
  all_goals
    rw [hb] at HIS
    go_enter Try.func37, Try.ntmps37
    go_wp2_with fail
    refine HIS.out.mono ?_
    rintro e w' ⟨rfl, rfl⟩
    go_wp2_with fail
    go_ret
    exact ⟨rfl, rfl⟩
theorem tells_new1 (x : World) (zs : List Int) (hz : ∀ z ∈ zs, i64a z) : TellsB x 37 #[] zs fun z => !symB z :=
  ⟨fun _ _ => by kernel_rfl, fun y _ z h => new1_any y z (hz z h)⟩
theorem zeroArr : ((Try.prog.info? 66).bind (·.zero)).map (·.cells) = some (nvals (List.replicate 258 0)).toArray := by kernel_rfl
theorem pNewBad_any (ok : Nat → Prop) (w : World) (a : Option Addr) (c : Nat) (zs : List Int) (hs : Si ok w a zs) (hl : zs.length ≤ 65536) (hz : ∀ z ∈ zs, i64a z) (hb : ¬ (∀ z ∈ zs, 0 ≤ z ∧ z < 258)) :
    Calls Try.prog 15 #[.slice a zs.length c] w fun e w' => e = .returned (.tuple #[.pointer none, .int .i64 10]) ∧ Below w.heap.size w w' := by
  have HC := hid (containsF_any ok w a c zs _ _ _ hs (by omega) (tells_new1 w zs hz))
  have hany : (zs.any fun z => !symB z) = true := by
    rw [List.any_eq_true]
    refine Classical.byContradiction fun h => hb fun z hm => symB_iff.1 ?_
    cases he : symB z
    · exact absurd ⟨z, hm, by rw [he]; rfl⟩ h
    · rfl
  rw [hany] at HC
  have hl' : (zs.length : Int) ≤ 65536 := by omega
  generalize zs.length = n at *
  clear hs hl hz hb hany
  go_enter Try.func15, Try.ntmps15
  go_wp2_with fail
  refine HC.out.mono ?_
  rintro e w' ⟨rfl, rfl⟩
  go_wp2_with fail
  go_ret2
  exact ⟨rfl, Below.refl _ _⟩
set_option maxRecDepth 20000 in
set_option maxHeartbeats 2000000 in
theorem pNew_any (ok : Nat → Prop) (x : World) (a : Option Addr) (c : Nat) (zs : List Int) (hs : Si ok x a zs) (hl : zs.length ≤ 65536) (hz : ∀ z ∈ zs, 0 ≤ z ∧ z < 258) :
    Calls Try.prog 15 #[.slice a zs.length c] x fun e w' => ∃ b, e = .returned (.tuple #[.pointer (some ⟨b, 0, none⟩), .int .i64 0]) ∧ Tb w' b (symT zs 258) (cntT zs 258) ∧ Below x.heap.size x w' := by
  have HC := hid (containsF_any ok x a c zs _ _ _ hs (by omega) (tells_new1 x zs fun z h => by have := hz z h; unfold i64a; omega))
  have hany : (zs.any fun z => !symB z) = false := by
    rw [List.any_eq_false]
    intro z hm
    rw [symB_iff.2 (hz z hm)]
    simp
  rw [hany] at HC
  have HSUM := hid (cntT_all hz)
  have HS := hid hs
  have HZ := hid hz
  have hl' : (zs.length : Int) ≤ 65536 := by omega
  have HLL := hid hl
  obtain ⟨n, hn⟩ : ∃ n, n = zs.length := ⟨_, rfl⟩
  have HN := hid hn
  rw [← hn] at HC hl' ⊢
  clear hs hl hz hany hn
  go_enter Try.func15, Try.ntmps15
  go_wp2_with fail
  refine HC.out.mono ?_
  rintro e w' ⟨rfl, rfl⟩
  clear HC
  go_upto_region 5 with fail
  refine wp_region_lit ?_
  refine wpList_alloc_own rfl 66 rfl _ zeroArr ?_
  intro w1 hw1 hb1
  obtain ⟨g, hg⟩ : ∃ g, g = x.heap.size := ⟨_, rfl⟩
  rw [← hg] at hw1 ⊢
  have HG := hid hg
  have HO1 := hid (Oft.zero zs)
  obtain ⟨m0, hm0⟩ : ∃ m0, m0 = List.replicate 258 0 := ⟨_, rfl⟩
  rw [← hm0] at hw1 HO1
  have HW1 := hid hw1
  have HB1 := hid hb1
  clear hw1 hb1 hm0 hg
  go_wp2_with fail
  go_loopw [16] (fun i wr => ∃ (t : Nat) (m : List Nat), t ≤ n ∧ i = .int .i64 (t : Int) ∧ Oft zs m t ∧ wr.heap[g]? = some (.cells (nvals m).toArray 66 (0, 0)) ∧ Below x.heap.size x wr) (fun i _ => n - (intOf i).toNat)
  case atStart => exact ⟨0, m0, Nat.zero_le _, rfl, HO1.out, HW1.out, HB1.out⟩
  case round =>
    clear HO1 HW1 HB1
    obtain ⟨t, m, ht, rfl, ho, hw, hb⟩ := hrel
    have HO := hid ho
    have HW := hid hw
    have HB := hid hb
    clear ho hw hb
    by_cases hlt : (t : Int) < n
    · have HTN : Hid (t < zs.length) := hid (by rw [← HN.out]; omega)
      obtain ⟨b, o, rfl, hc⟩ : ∃ b o, a = some ⟨b, o, none⟩ ∧ wr.cell? ⟨b, o + t, none⟩ = some (.int .i64 (zs.getD t 0)) := by
        rcases HS.out.below HB.out with h | ⟨b, o, h, _, hc⟩
        · have := HTN.out; rw [h] at this; simp at this
        · exact ⟨b, o, h, hc t HTN.out⟩
      have hzr := HZ.out _ (getD_memA (d := 0) HTN.out)
      obtain ⟨s, hs⟩ : ∃ s : Nat, zs.getD t 0 = (s : Int) := ⟨(zs.getD t 0).toNat, by omega⟩
      have HSZ := hid hs
      rw [hs] at hc hzr
      have hsb : (s : Int) < 258 := hzr.2
      have HSL : Hid (s < 258) := hid (by omega)
      have hmb : m.getD s 0 ≤ 65536 := by
        rw [HO.out.2 s HSL.out]
        exact Nat.le_trans List.count_le_length (by rw [List.length_take]; have := HLL.out; omega)
      have j1 : wr.cell? ⟨g, s, none⟩ = some (.int .i64 ((m.getD s 0 : Nat) : Int)) := by
        rw [cell_of_row _ _ _ _ _ _ HW.out, List.getElem?_toArray]
        exact nvals_get (by rw [HO.out.1]; exact HSL.out)
      have f1 : wr.frozen? ⟨g, s, none⟩ = false := frozen_of_row _ _ _ _ _ HW.out
      have HST := hid (HO.out.step HTN.out HSL.out HSZ.out)
      have HW2 := hid (heap_setCell_same wr g s _ _ (.int .i64 ((m.getD s 0 + 1 : Nat) : Int)) HW.out)
      rw [nvals_setIf] at HW2
      have HB2 := hid (HB.out.setCell (p := ⟨g, s, none⟩) (by rw [← HG.out]; exact Nat.le_refl _) (.int .i64 ((m.getD s 0 + 1 : Nat) : Int)))
      generalize m.getD s 0 = y at *
      have hyb : (y : Int) ≤ 65536 := by omega
      have htb : (t : Int) < 65536 := by omega
      have HTL : Hid (t < n) := hid (by omega)
      have hkl : (t < n) = True := eq_true (by omega)
      clear hs hzr hmb hlt HO HW HB
      go_wp2_with fail
      go_roundw
      case rel => exact ⟨t + 1, _, HTL.out, by go_num, HST.out, HW2.out, HB2.out⟩
      case measure => simp [intOf]; have := HTL.out; omega
    · have hkl : (t < n) = False := eq_false (by omega)
      have HOA : Hid (∀ s, s < 258 → m.getD s 0 = zs.count (s : Int)) := hid fun s h => by
        rw [HO.out.2 s h, List.take_of_length_le (by rw [← HN.out]; omega)]
      have HOF := hid (of_any wr m HO.out.1 (by rw [ctO_cntT HOA.out, HSUM.out]; exact HLL.out))
      rw [syO_symT 258 HOA.out, ctO_cntT HOA.out] at HOF
      have hsz : (nvals m).toArray.size = 258 := by rw [List.size_toArray, nvals_len, HO.out.1]
      have HMS := hid hsz
      obtain ⟨A, hA⟩ : ∃ A, A = (nvals m).toArray := ⟨_, rfl⟩
      rw [← hA] at HW HOF HMS
      clear hlt hsz HO HOA hA
      go_wp2_with (refine wpList_load_row rfl 66 _ rfl g rfl 66 A (0, 0) _ HW.out uArr rfl (by rw [HMS.out]; exact infoArr) ?_)
      go_wp2_with fail
      refine HOF.out.mono ?_
      rintro e w2 ⟨b, rfl, htb, hb2⟩
      have HTB := hid htb
      have HB2 := hid (HB.out.trans (hb2.mono HB.out.size))
      clear htb hb2 HB
      go_wp2_with fail
      go_ret2
      exact ⟨b, rfl, HTB.out, HB2.out⟩
end Go.Proofs.Ytbhpfdpcafdeaaa
