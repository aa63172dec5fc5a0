/- CONTRACTS (suffix, as it landed): slices.SortFunc by the shelf's contract, laid at this program. -/
import Derived.Test.YtclpoconppmapaaSuM
import Derived.Shelf.SlSortCmp.Whole1
namespace Go.Proofs.Ytclpoconppmapaa
open Go.RowKit Go.Inc
open Go.Shelf
def sortL_ren : Go.Shelf.Ren := ⟨fun | 6 => 36 | 15 => 48 | 14 => 47 | 28 => 62 | 29 => 63 | 20 => 54 | 21 => 55 | 22 => 56 | 23 => 57 | 24 => 58 | 25 => 59 | 26 => 60 | 27 => 61 | 46 => 66 | 47 => 67 | 48 => 68 | 49 => 69 | 50 => 70 | 57 => 71 | n => n, fun | 22 => 22 | 24 => 3 | 25 => 52 | 3 => 3 | 39 => 64 | 0 => 0 | 53 => 77 | 55 => 43 | 4 => 4 | 46 => 71 | 45 => 70 | 50 => 57 | 5 => 5 | 9 => 9 | 66 => 83 | 70 => 87 | 76 => 89 | 77 => 90 | n => n, fun | n => n⟩
theorem sortL : Go.Proofs.SlLaysF.n6 Try.prog sortL_ren where
  mixed := by kernel_rfl
  f6 := ⟨ "slices.SortFunc[[]int,int]", by decide, Try.func36.trans (congrArg some (by kernel_rfl))⟩
  f14 := ⟨ "slices.pdqsortCmpFunc[int]", by decide, Try.func47.trans (congrArg some (by kernel_rfl))⟩
  f15 := Try.func48.trans (congrArg some (by kernel_rfl))
  f20 := ⟨ "slices.insertionSortCmpFunc[int]", by decide, Try.func54.trans (congrArg some (by kernel_rfl))⟩
  f21 := ⟨ "slices.heapSortCmpFunc[int]", by decide, Try.func55.trans (congrArg some (by kernel_rfl))⟩
  f22 := ⟨ "slices.breakPatternsCmpFunc[int]", by decide, Try.func56.trans (congrArg some (by kernel_rfl))⟩
  f23 := ⟨ "slices.choosePivotCmpFunc[int]", by decide, Try.func57.trans (congrArg some (by kernel_rfl))⟩
  f24 := ⟨ "slices.reverseRangeCmpFunc[int]", by decide, Try.func58.trans (congrArg some (by kernel_rfl))⟩
  f25 := ⟨ "slices.partialInsertionSortCmpFunc[int]", by decide, Try.func59.trans (congrArg some (by kernel_rfl))⟩
  f26 := ⟨ "slices.partitionEqualCmpFunc[int]", by decide, Try.func60.trans (congrArg some (by kernel_rfl))⟩
  f27 := ⟨ "slices.partitionCmpFunc[int]", by decide, Try.func61.trans (congrArg some (by kernel_rfl))⟩
  f28 := Try.func62.trans (congrArg some (by kernel_rfl))
  f29 := Try.func63.trans (congrArg some (by kernel_rfl))
  f46 := ⟨ "slices.siftDownCmpFunc[int]", by decide, Try.func66.trans (congrArg some (by kernel_rfl))⟩
  f47 := Try.func67.trans (congrArg some (by kernel_rfl))
  f48 := Try.func68.trans (congrArg some (by kernel_rfl))
  f49 := ⟨ "slices.medianAdjacentCmpFunc[int]", by decide, Try.func69.trans (congrArg some (by kernel_rfl))⟩
  f50 := ⟨ "slices.medianCmpFunc[int]", by decide, Try.func70.trans (congrArg some (by kernel_rfl))⟩
  f57 := ⟨ "slices.order2CmpFunc[int]", by decide, Try.func71.trans (congrArg some (by kernel_rfl))⟩
  t0 := Try.underlying0
  a0 := Try.isAgg0
  z0 := Try.sizeOf0
  v0 := Try.zeroValue0
  t3 := Try.underlying3
  a3 := Try.isAgg3
  z3 := Try.sizeOf3
  v3 := Try.zeroValue3
  t4 := Try.underlying4
  a4 := Try.isAgg4
  z4 := Try.sizeOf4
  v4 := Try.zeroValue4
  t5 := Try.underlying5
  a5 := Try.isAgg5
  z5 := Try.sizeOf5
  v5 := Try.zeroValue5
  t9 := Try.underlying9
  a9 := Try.isAgg9
  z9 := Try.sizeOf9
  v9 := Try.zeroValue9
  t22 := Try.underlying22
  a22 := Try.isAgg22
  z22 := Try.sizeOf22
  v22 := Try.zeroValue22
  a24 := Try.isAgg3
  z24 := Try.sizeOf3
  t25 := Try.underlying52
  a25 := Try.isAgg52
  z25 := Try.sizeOf52
  v25 := Try.zeroValue52
  t39 := Try.underlying64
  a39 := Try.isAgg64
  z39 := Try.sizeOf64
  v39 := Try.zeroValue64
  t45 := Try.underlying70
  a45 := Try.isAgg70
  z45 := Try.sizeOf70
  v45 := Try.zeroValue70
  t46 := Try.underlying71
  a46 := Try.isAgg71
  z46 := Try.sizeOf71
  v46 := Try.zeroValue71
  t50 := Try.underlying57
  a50 := Try.isAgg57
  z50 := Try.sizeOf57
  v50 := Try.zeroValue57
  t53 := Try.underlying77
  a53 := Try.isAgg77
  z53 := Try.sizeOf77
  v53 := Try.zeroValue77
  t55 := Try.underlying43
  a55 := Try.isAgg43
  z55 := Try.sizeOf43
  v55 := Try.zeroValue43
  t66 := Try.underlying83
  a66 := Try.isAgg83
  z66 := Try.sizeOf83
  v66 := Try.zeroValue83
  t70 := Try.underlying87
  a70 := Try.isAgg87
  z70 := Try.sizeOf87
  v70 := Try.zeroValue87
  t76 := Try.underlying89
  a76 := Try.isAgg89
  z76 := Try.sizeOf89
  v76 := Try.zeroValue89
  t77 := Try.underlying90
  a77 := Try.isAgg90
  z77 := Try.sizeOf90
  v77 := Try.zeroValue90
end Go.Proofs.Ytclpoconppmapaa
namespace Go.Inc
open Go.RowKit
theorem sortWorld_mv {α : Type} [Inhabited α] (enc : α → Value) (w : World) (g off m : Nat) (d : Array α) (os : Array Obj) : Mv (fun b => b = g) w (Go.Proofs.sortWorld enc w g off m d os) := by
  refine ⟨rfl, rfl, rfl, ?_, fun i hi hn => ?_⟩
  · unfold Go.Proofs.sortWorld
    rw [Go.Sort.size_grow, Go.Sort.size_putRow]
    exact Nat.le_add_right _ _
  · unfold Go.Proofs.sortWorld Go.Sort.grow Go.Sort.putRow Go.Sort.mapBlock
    show ((w.heap.modify g _) ++ os)[i]? = _
    rw [Array.getElem?_append_left (by simpa using hi), Array.getElem?_modify, if_neg (fun e => hn e.symm)]
theorem sortWorld_row {α : Type} [Inhabited α] (enc : α → Value) (w : World) (g m : Nat) (d : Array α) (os : Array Obj) {c : Array Value} {T : TypeId} {fz : Nat × Nat} (hg : w.heap[g]? = some (.cells c T fz)) (hc : c.size = d.size) :
    (Go.Proofs.sortWorld enc w g 0 m d os).heap[g]? = some (.cells (d.map enc) T fz) := by
  have hlt : g < w.heap.size := (Array.getElem?_eq_some_iff.1 hg).1
  unfold Go.Proofs.sortWorld Go.Sort.grow Go.Sort.putRow Go.Sort.mapBlock
  show ((w.heap.modify g _) ++ os)[g]? = _
  rw [Array.getElem?_append_left (by simpa using hlt), Array.getElem?_modify, if_pos rfl, hg]
  show some (Obj.cells (Go.Sort.putCells enc 0 d c) T fz) = _
  congr 2
  apply Array.ext (by simp [Go.Sort.putCells, hc])
  intro i h1 h2
  have hi : i < d.size := by simpa using h2
  simp [Go.Sort.putCells, hi]
end Go.Inc
namespace Go.Proofs.Ytclpoconppmapaa
open Go.RowKit Go.Inc
/-- slices.SortFunc of numbers below n, by a comparison that goes by two keys. -/
theorem sortFunc_any (n : Nat) (hn : 0 < n) (hn2 : n ≤ 65536) (w : World) (g : Nat) (l : List Nat) (hl : l.length = n) (hlt : ∀ a ∈ l, a < n) (hg : w.heap[g]? = some (.cells (nvals l).toArray 3 (0, 0)))
    (F : FuncId) (cb : Array Value) (eg : ∀ args w, (callFunc F args).run Try.prog w = .ok (.enter F args) w) (cf : Nat → Nat → Int) (K1 K2 : Nat → Int) (hcf : ∀ a b, a < n → b < n → (cf a b < 0 ↔ K1 a < K1 b ∨ (K1 a = K1 b ∧ K2 a < K2 b)))
    (hcmp : ∀ y, Mv (fun b => b = g) w y → ∀ a b : Nat, a < n → b < n → Calls Try.prog F (#[.int .i64 (a : Int), .int .i64 (b : Int)] ++ cb) y fun e w' => e = .returned (.int .i64 (cf a b)) ∧ ∃ q, w' = y.drewN q) :
    Calls Try.prog 36 #[.slice (some ⟨g, 0, none⟩) n n, .func (Fn.func F) #[] cb] w fun e w' => e = .returned (.tuple #[]) ∧ ∃ l' : List Nat, l'.Perm l ∧ (∀ i j, i < j → j < n → ¬ cf (l'.getD j 0) (l'.getD i 0) < 0) ∧ w'.heap[g]? = some (.cells (nvals l').toArray 3 (0, 0)) ∧ Mv (fun b => b = g) w w' := by
  haveI : Inhabited (Fin n) := ⟨⟨0, hn⟩⟩
  have hlt' : g < w.heap.size := (Array.getElem?_eq_some_iff.1 hg).1
  let f : Nat → Fin n := fun a => if h : a < n then ⟨a, h⟩ else ⟨0, hn⟩
  let d : Array (Fin n) := (l.map f).toArray
  let enc : Fin n → Value := fun x => .int .i64 ((x.val : Nat) : Int)
  have hds : d.size = n := by simp [d, hl]
  have hdl : d.toList.map Fin.val = l := by
    show ((l.map f).toArray.toList).map Fin.val = l
    rw [List.toList_toArray, List.map_map]
    conv => rhs; rw [← List.map_id l]
    apply List.map_congr_left
    intro a ha
    show (f a).val = a
    simp only [f, dif_pos (hlt a ha)]
  have hdg : ∀ (e : Array (Fin n)) (i : Nat), i < e.size → (e.toList.map Fin.val).getD i 0 = (e[i]!).val := fun e i hi => by
    rw [List.getD_eq_getElem?_getD, List.getElem?_map, List.getElem?_eq_getElem (by simpa using hi), getElem!_pos e i hi]
    simp
  have hH : Go.Sort.Holds enc w g 0 d := fun j hj => by
    have h1 := hdg d j hj
    rw [hdl] at h1
    refine ⟨?_, frozen_of_row w g _ _ _ hg⟩
    rw [Nat.zero_add, cell_of_row w g _ _ _ _ hg, List.getElem?_toArray, nvals_get (by omega), h1]
  have hO : Go.Sort.SWO (Go.Proofs.ltOf fun x y : Fin n => cf x.val y.val) := by
    have hk : ∀ x y : Fin n, Go.Proofs.ltOf (fun x y : Fin n => cf x.val y.val) x y = decide (K1 x.val < K1 y.val ∨ (K1 x.val = K1 y.val ∧ K2 x.val < K2 y.val)) := fun x y => by
      unfold Go.Proofs.ltOf
      exact decide_eq_decide.2 (hcf x.val y.val x.2 y.2)
    refine ⟨fun x => ?_, fun x y z h1 h2 => ?_, fun x y z h1 h2 => ?_⟩
    · rw [hk]; exact decide_eq_false (by omega)
    · rw [hk] at *
      have h3 := of_decide_eq_true h1
      have h4 := of_decide_eq_true h2
      exact decide_eq_true (by omega)
    · rw [hk] at *
      have h3 := of_decide_eq_false h1
      have h4 := of_decide_eq_false h2
      exact decide_eq_false (by omega)
  have hR : Go.Proofs.CmpReads Try.prog F cb enc (fun x y : Fin n => cf x.val y.val) g 0 d.size w := fun m os dk _ x y => hcmp _ (sortWorld_mv enc w g 0 m dk os) x.val y.val x.2 y.2
  have hcon := Go.Proofs.Any.slices_SortFunc sortL enc (fun _ => rfl) (fun x y : Fin n => cf x.val y.val) hO F cb g 0 n d w eg hR.lays hH hlt' (by omega)
  rw [hds] at hcon
  change Calls Try.prog 36 _ _ _ at hcon
  refine hcon.mono ?_
  rintro e w' ⟨rfl, d', q, os, hp, hs, rfl⟩
  have hds' : d'.size = n := by rw [hp.1]; exact hds
  refine ⟨rfl, d'.toList.map Fin.val, ?_, fun i j hij hj => ?_, ?_, sortWorld_mv enc w g 0 q d' os⟩
  · have h1 := hp.2.2
    have ex : ∀ e : Array (Fin n), e.size = n → e.extract 0 n = e := fun e he => by
      have h := Array.extract_size (xs := e)
      rw [he] at h; exact h
    rw [ex d' hds', ex d hds] at h1
    have h2 := h1.map Fin.val
    rw [hdl] at h2
    exact h2
  · have h1 := hs i j (Nat.zero_le _) hij hj
    rw [hdg d' j (by omega), hdg d' i (by omega)]
    exact of_decide_eq_false h1
  · rw [sortWorld_row enc w g q d' os hg (by simp [nvals_len, hl, hds'])]
    congr 2
    apply Array.ext (by simp [nvals])
    intro i h1 h2
    simp [enc, nvals]
end Go.Proofs.Ytclpoconppmapaa
