/- CONTRACTS: Free: how many pages are free. -/
import Derived.RangeFuncFrom
import Derived.RangeFuncBox
import Derived.Maps.AppendAt
import Derived.Test.YtjgnnofpilmgoaaDoorAlJ
namespace Go.Proofs.YtjgnnofpilmgoaaDoor
open Go.RowKit Go.Inc Go.Shelf

attribute [local go_sem] Oper.semAt_some

theorem mv_putObj {F : Nat → Prop} {l : Nat} (W : World) (o : Obj) (h : F l) : Mv F W (W.putObj l o) := Mv.of_grown (grownBy_putObj' W l o) fun g e _ => by cases e; exact h
theorem allocFree_nil (w : World) : Calls Tryd.prog 24 #[.pointer none] w fun e w' => e = .returned (.int .i64 0) ∧ w = w' := by
  go_enter Tryd.func24, Tryd.ntmps24
  go_wp2_with fail
  go_ret
  exact ⟨rfl, rfl⟩
set_option maxRecDepth 100000 in
set_option maxHeartbeats 2000000 in
theorem allocFree_any {C : Nat → Nat} {p : Nat} {v1 v2 v3 : Value} {ks : List Nat} {w : World} (h : Al C w p v1 v2 v3 ks) (hk : Ks ks) (ht : Tab w) :
    Calls Tryd.prog 24 #[.pointer (some ⟨p, 0, none⟩)] w fun e w' => e = .returned (.int .i64 ((pagesK isF ks).length : Int)) ∧ Below w.heap.size w w' := by
  have HK := hid hk
  have HW : Hid (0 < w.heap.size) := hid (cell_lt (ht 0 (by decide)))
  obtain ⟨w0, hw0⟩ : ∃ w0, w0 = w.alloc (.cells #[.int .i64 0] 3) := ⟨_, rfl⟩
  have HB0 : Hid (Below w.heap.size w w0) := hid (by rw [hw0]; exact alloc_below w _)
  have HS0 : Hid (w.heap.size < w0.heap.size) := hid (by rw [hw0]; simp)
  have HC0 : Hid (Boxed w0 w.heap.size 3 (.int .i64 0)) := hid (by rw [hw0]; exact Boxed.new w 3 (.int .i64 0))
  have HM := hid (freeMk_any (h.below HB0.out) hk (ht.below HB0.out))
  have HW0 := hid hw0
  clear h hk ht hw0
  refine (callsIn_wide (n := 6)).1 ?_
  refine callsIn_of_wp_marks Tryd.func24 rfl trivial ?_ rfl
  simp only [Tryd.ntmps24, List.size_toArray, List.length_cons, List.length_nil, Nat.reduceAdd, Nat.reduceSub, Array.replicate_succ, Array.replicate_zero, List.push_toArray, List.append_toArray, List.nil_append, List.cons_append]
  refine wpIn_wide.2 ?_
  go_wp2_with fail
  rw [← HW0.out]
  refine HM.out.mono ?_
  clear HM
  rintro e w1 ⟨⟨bx, vu, rfl, hU⟩, hb⟩
  have HU := hid hU
  have HB1 := hid hb
  clear hU hb
  go_wp2_with fail
  refine (wpIn_wide (n := 6)).1 ?_
  have hnu : ¬ (w.heap.size = 0 ∨ (w0.heap.size ≤ w.heap.size ∧ w.heap.size < w1.heap.size)) := by have := HW.out; have := HS0.out; omega
  refine wpIn_rangeFunc_ownF (n := 6) rfl (by omega) (gf := 48) (lb := #[.pointer (some ⟨bx, 0, none⟩)]) rfl trivial (enters_of Tryd.func48 (by kernel_rfl) rfl)
    (free_stops 5 (by omega) bx _ vu ks HK.out w1 HU.out) Mv.trans (fun W l o o' hl _ _ _ => mv_putObj W o' (fun hh => by have := HW.out; have := HS0.out; have := HB1.out.size; omega)) (Below.refl _ _) (fun _ => rfl)
    (fun pre W => Boxed W w.heap.size 3 (.int .i64 (pre.length : Int)) ∧ Below w.heap.size w W)
    (fun _ _ _ => False)
    (OwnFrom.and (Own.from (boxed_own w.heap.size 3 fun pre : List Nat => .int .i64 (pre.length : Int)) _) (ownFrom_below (Nat.le_refl _) (by have := HS0.out; have := HB1.out.size; omega)))
    (fun _ _ _ _ _ hs _ _ => hs)
    ⟨(HB1.out.block _ HS0.out).trans HC0.out, HB0.out.trans (HB1.out.mono HB0.out.size)⟩
    (fun x => { tmps := #[.pointer (some ⟨p, 0, none⟩), undef, .int .i64 0, .pointer (some ⟨w.heap.size, 0, none⟩), .pointer (some ⟨p, 0, none⟩), .bool false, .pointer (some ⟨p, 0, none⟩), .pointer (some ⟨p, 0, none⟩), .pointer (some ⟨p, 0, none⟩), .func (.func 48) #[] #[.pointer (some ⟨bx, 0, none⟩)], .int .i64 (x : Int), undef, undef, undef], defers := [] }) ?assign ?body ?done ?stop
  case assign =>
    intro l x W K hK
    gi_wp2
    simpa using hK
  case body =>
    rintro l pre x W ⟨hv, hB⟩ hlt
    have hc := hv.cell
    have hf := hv.frozen
    have hpl := pagesK_len isF ks
    have hks := HK.out.n2048
    have hb2 : (pre.length : Int) < 2048 := by omega
    clear hlt hpl hks
    gi_wp2
    refine ⟨KeepsOthers.setCell _ _ _, mv_setCell (F := fun b => ¬ (b = 0 ∨ (w0.heap.size ≤ b ∧ b < w1.heap.size))) (Mv.refl _ _) hnu _, ?_, hB.setCell (p := ⟨w.heap.size, 0, none⟩) (Nat.le_refl _) _⟩
    rw [List.length_append, show ((pre.length + [x].length : Nat) : Int) = (pre.length : Int) + 1 from by simp]
    exact hv.set _
  case done =>
    rintro D ys W hD rfl ⟨hv, hB⟩ hK
    have hc := hv.cell
    go_wp2_with fail
    refine ⟨by simp, .inl ⟨_, _, rfl, run_takeDeferred hK, ?_⟩⟩
    exact ⟨_, results_tmp rfl _ _ _, rfl, hB.trans (belowK_b (w := w) (Nat.le_refl _) W D _ _ (by have := HS0.out; have := HB1.out.size; omega) hK rfl rfl)⟩
  case stop =>
    rintro D c pre W _ _ h _
    exact h.elim
end Go.Proofs.YtjgnnofpilmgoaaDoor
