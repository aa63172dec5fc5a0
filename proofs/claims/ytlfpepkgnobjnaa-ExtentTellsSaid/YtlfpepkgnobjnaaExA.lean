/- SLICES OF EXTENTS; the document's Twice, All. -/
import Derived.Test.YtlfpepkgnobjnaaRows
import Derived.Test.YtlfpepkgnobjnaaExMath
import Derived.Test.YtlfpepkgnobjnaaOpenInts
import Derived.Lib.MinMax
import Derived.Deep.QuietTactic
import Derived.BigQuiet
import Derived.BigRegion
namespace Go.Inc
open Go.RowKit

/-- Extents as cells. -/
def xcells : List Xt → List Value
  | [] => []
  | x :: r => .int .i64 x.1 :: .int .i64 x.2 :: xcells r
theorem xcells_app : ∀ a b, xcells (a ++ b) = xcells a ++ xcells b
  | [], _ => rfl
  | x :: r, b => by simp only [List.cons_append, xcells, xcells_app r b]
theorem xcells_len : ∀ l, (xcells l).length = l.length * 2
  | [] => rfl
  | x :: r => by simp only [xcells, List.length_cons, xcells_len r]; omega
theorem xcells_one : ∀ l, ∀ u ∈ xcells l, u.oneCell' = true
  | [], u, h => by cases h
  | x :: r, u, h => by
    simp only [xcells, List.mem_cons] at h
    rcases h with rfl | rfl | h
    · rfl
    · rfl
    · exact xcells_one r u h
theorem xcells_get : ∀ (l : List Xt) (i : Nat), i < l.length → (xcells l)[i * 2]? = some (.int .i64 (l.getD i (0, 0)).1) ∧ (xcells l)[i * 2 + 1]? = some (.int .i64 (l.getD i (0, 0)).2)
  | [], i, h => by simp at h
  | x :: r, 0, _ => ⟨rfl, rfl⟩
  | x :: r, i + 1, h => by
    have := xcells_get r i (by simpa using h)
    rw [show (i + 1) * 2 = i * 2 + 1 + 1 from by omega]
    simp only [xcells, List.getElem?_cons_succ]
    exact this
theorem xcells_bump (l : List Xt) (x : Xt) : (xcells (l ++ [x])).set (l.length * 2 + 1) (.int .i64 (x.2 + 1)) = xcells (l ++ [(x.1, x.2 + 1)]) := by
  rw [xcells_app, xcells_app, List.set_append, if_neg (by rw [xcells_len]; omega), xcells_len, show l.length * 2 + 1 - l.length * 2 = 1 from by omega]
  rfl
/-- A slice's address leads to these extents, in a block that is 'ok'. -/
def XtS (ok : Nat → Prop) (w : World) (a : Option Addr) (xs : List Xt) : Prop :=
  xs = [] ∨ ∃ b o, a = some ⟨b, o, none⟩ ∧ ok b ∧ ∀ i, i < xs.length → w.cell? ⟨b, o + i * 2, none⟩ = some (.int .i64 (xs.getD i (0, 0)).1) ∧ w.cell? ⟨b, o + i * 2 + 1, none⟩ = some (.int .i64 (xs.getD i (0, 0)).2)
section
variable {ok ok' : Nat → Prop} {w w' : World} {a : Option Addr} {xs : List Xt}
theorem XtS.nil (ok : Nat → Prop) (w : World) (a : Option Addr) : XtS ok w a [] := .inl rfl
theorem XtS.mono (h : XtS ok w a xs) (hk : ∀ b, ok b → b < w.heap.size → ok' b) : XtS ok' w a xs := by
  rcases h with h | ⟨b, o, ha, hb, hc⟩
  · exact .inl h
  · by_cases h0 : xs = []
    · exact .inl h0
    · exact .inr ⟨b, o, ha, hk b hb (cell_lt (hc 0 (List.length_pos_iff.2 h0)).1), hc⟩
theorem XtS.kept (h : XtS ok w a xs) (hb : ∀ b, ok b → b < w.heap.size → w'.heap[b]? = w.heap[b]?) : XtS ok w' a xs := by
  rcases h with h | ⟨b, o, rfl, hk, hc⟩
  · exact .inl h
  · by_cases h0 : xs = []
    · exact .inl h0
    · have hbb := hb b hk (cell_lt (hc 0 (List.length_pos_iff.2 h0)).1)
      exact .inr ⟨b, o, rfl, hk, fun i hi => ⟨(World.cell?_of_block hbb).trans (hc i hi).1, (World.cell?_of_block hbb).trans (hc i hi).2⟩⟩
theorem XtS.below (h : XtS ok w a xs) (hb : Below w.heap.size w w') : XtS ok w' a xs := h.kept fun b _ hlt => hb.block b hlt
theorem XtS.mv {F : Nat → Prop} (h : XtS ok w a xs) (hm : Mv F w w') (hk : ∀ i, ok i → ¬ F i) : XtS ok w' a xs := h.kept fun b hb hlt => hm.block b hlt (hk b hb)
theorem XtS.cell (h : XtS ok w a xs) {i : Nat} (hi : i < xs.length) : ∃ b o, a = some ⟨b, o, none⟩ ∧ w.cell? ⟨b, o + i * 2, none⟩ = some (.int .i64 (xs.getD i (0, 0)).1) ∧ w.cell? ⟨b, o + i * 2 + 1, none⟩ = some (.int .i64 (xs.getD i (0, 0)).2) := by
  rcases h with h | ⟨b, o, h, _, hc⟩
  · rw [h] at hi; simp at hi
  · exact ⟨b, o, h, hc i hi⟩
theorem XtS.front (h : XtS ok w a xs) (k : Nat) : XtS ok w a (xs.take k) := by
  rcases h with rfl | ⟨b, o, rfl, hk, hc⟩
  · left; simp
  · refine .inr ⟨b, o, rfl, hk, fun i hi => ?_⟩
    simp only [List.length_take] at hi
    have hg : (xs.take k).getD i (0, 0) = xs.getD i (0, 0) := by
      rw [List.getD_eq_getElem?_getD, List.getD_eq_getElem?_getD, List.getElem?_take, if_pos (by omega)]
    rw [hg]
    exact hc i (by omega)
/-- What a row of the call's own looks like. -/
theorem ownedX {B n : Nat} {v : Value} {e : TypeId} (h : w.ownsRow B e 2 v n (xcells xs)) : ∃ a c, v = .slice a xs.length c ∧ n = xs.length ∧ XtS (fun b => B ≤ b) w a xs ∧ xs.length ≤ c ∧ c ≤ maxLen ∧ (a = none → c = 0) := by
  have hn : n = xs.length := by have := h.1; rw [xcells_len] at this; omega
  subst hn
  rcases h.2 with ⟨rfl, h0⟩ | ⟨g, cap, cur, rfl, hb, hg, hnc, hm, hcs, ht⟩
  · exact ⟨none, 0, by rw [h0], rfl, .inl (List.eq_nil_of_length_eq_zero h0), by omega, Nat.zero_le _, fun _ => rfl⟩
  · refine ⟨_, cap, rfl, rfl, .inr ⟨g, 0, rfl, hb, fun i hi => ?_⟩, hnc, hm, fun h => by cases h⟩
    have h1 := h.cells (g := g) rfl (i * 2) _ (xcells_get xs i hi).1
    have h2 := h.cells (g := g) rfl (i * 2 + 1) _ (xcells_get xs i hi).2
    rw [Addr.add_lit] at h1 h2
    exact ⟨h1, h2⟩
end
end Go.Inc
namespace Go.Proofs.Ytlfpepkgnobjnaa
open Go.RowKit Go.Inc

theorem infoB8 : (Try.prog.info? 4).map (fun i => (i.zero, i.size, i.bytes)) = some (some (.bool false), 1, 1) := by kernel_rfl
theorem infoI8 : (Try.prog.info? 3).map (fun i => (i.zero, i.size, i.bytes)) = some (some (.int .i64 0), 1, 8) := by kernel_rfl
/-- Which pages are told: of each number below 2048 whether it was among the first k. -/
def seenB (ps : List Int) (k : Nat) : List Bool := (List.range 2048).map fun i : Nat => decide ((i : Int) ∈ ps.take k)
theorem seenB_len (ps : List Int) (k : Nat) : (seenB ps k).length = 2048 := by simp [seenB]
theorem seenB_at {ps : List Int} {k i : Nat} (h : i < 2048) : inB (seenB ps k) i = decide ((i : Int) ∈ ps.take k) := by
  unfold inB seenB
  rw [List.getD_eq_getElem?_getD, List.getElem?_map, List.getElem?_range h]; rfl
theorem seenB_zero (ps : List Int) : seenB ps 0 = List.replicate 2048 false := ext_inB (by rw [seenB_len, List.length_replicate]) fun i hi => by
  rw [seenB_len] at hi
  rw [seenB_at hi, inB_zeros]; simp
theorem seenB_step {ps : List Int} {k q : Nat} (hq : q < 2048) (hs : ps.take (k + 1) = ps.take k ++ [(q : Int)]) : seenB ps (k + 1) = (seenB ps k).set q true := ext_inB (by rw [List.length_set, seenB_len, seenB_len]) fun i hi => by
  rw [seenB_len] at hi
  rw [seenB_at hi, hs, inB_set (by rw [seenB_len]; exact hq), seenB_at hi]
  by_cases e : i = q
  · subst e; simp
  · have e2 : ¬ (i : Int) = (q : Int) := by omega
    simp [e, e2]
set_option maxRecDepth 20000 in
set_option maxHeartbeats 4000000 in
theorem rTwice_any (ok : Nat → Prop) (a : Option Addr) (cz : Nat) (ps : List Int) (w : World) (hz : Si ok w a ps) (hin : ∀ z ∈ ps, 2 ≤ z ∧ z ≤ 2047) (hl : (ps.length : Int) ≤ 9223372036854775807) :
    Calls Try.prog 27 #[.slice a ps.length cz] w fun e w' => e = .returned (.bool (!decide ps.Nodup)) ∧ Below w.heap.size w w' := by
  obtain ⟨i0, hi, hz0, hz1, hz2⟩ := info_parts infoB8
  have HI := hid (And.intro hi (And.intro hz0 (And.intro hz1 hz2)))
  have HZ : Hid (Si (fun b => b < w.heap.size) w a ps) := hid (hz.mono fun _ _ h => h)
  have HIN := hid hin
  obtain ⟨n, hn⟩ : ∃ n, n = ps.length := ⟨_, rfl⟩
  have HN := hid hn
  rw [← hn] at hl ⊢
  clear hz hi hz0 hz1 hz2 hin hn
  go_enter Try.func27, Try.ntmps27
  go_wp2_with (refine wpList_make_full _ rfl _ _ 77 rfl w.heap.size 4 i0 (.bool false) 1 Try.underlying77 HI.out.1 HI.out.2.1 HI.out.2.2.1 .i64 .i64 _ _ 2048 rfl rfl rfl rfl (by rw [HI.out.2.2.2]; decide) (by unfold maxLen; decide) (Nat.le_refl _) ?_)
  intro w1 hown hg
  have HR : Hid (w1.ownsRow w.heap.size 4 1 (.slice (some ⟨w.heap.size, 0, none⟩) 2048 2048) 2048 (bvals (seenB ps 0))) := hid (by rw [seenB_zero, ← bvals_zeros 2048]; exact hown)
  have HB1 : Hid (Below w.heap.size w w1) := hid ⟨hg.os, hg.tape, hg.output, hg.size, fun i hi => hg.block i hi (by simp)⟩
  clear hown hg HI
  go_wp2_with fail
  go_loopw [4] (fun i wr => ∃ k : Nat, k ≤ n ∧ i = .int .i64 (k : Int) ∧ wr.ownsRow w.heap.size 4 1 (.slice (some ⟨w.heap.size, 0, none⟩) 2048 2048) 2048 (bvals (seenB ps k)) ∧ (ps.take k).Nodup ∧ Below w.heap.size w wr) (fun i _ => n - (intOf i).toNat)
  case atStart => exact ⟨0, Nat.zero_le _, rfl, HR.out, by simp, HB1.out⟩
  case round =>
    clear HR HB1
    obtain ⟨k, hk, rfl, hr, hnd, hb⟩ := hrel
    have HR := hid hr
    have HND := hid hnd
    have HB := hid hb
    clear hr hnd hb
    by_cases hlt : (k : Int) < n
    · obtain ⟨b, o, rfl, hck⟩ := siCell (HZ.out.below HB.out) (k := k) (by have := HN.out; omega)
      have HSN := hid (takeSnoc (bs := ps) (d := 0) (k := k) (by have := HN.out; omega))
      have HM := hid (memGetD (zs := ps) (d := 0) (k := k) (by have := HN.out; omega))
      obtain ⟨x, hx⟩ : ∃ x, x = ps.getD k 0 := ⟨_, rfl⟩
      rw [← hx] at hck HSN HM
      have hkn : (k < n) = True := eq_true (by omega)
      obtain ⟨q, rfl⟩ := Int.eq_ofNat_of_zero_le (show (0 : Int) ≤ x by have := HIN.out x HM.out; omega)
      have hq : q < 2048 := by have := HIN.out _ HM.out; omega
      have hcq := HR.out.cells (g := w.heap.size) rfl q (.bool (inB (seenB ps k) q)) (bvals_get (by rw [seenB_len]; exact hq))
      rw [Addr.add_lit, Nat.zero_add, seenB_at hq] at hcq
      have hfz : wr.frozen? ⟨w.heap.size, q, none⟩ = false := HR.out.frozenAt q
      have hqM : (q < 2048) = True := eq_true hq
      have hqM2 : (q : Int) < 2048 := by omega
      have HQ := hid hq
      clear hx hq
      by_cases hmem : (q : Int) ∈ ps.take k
      · rw [decide_eq_true hmem] at hcq
        have HO : Hid (decide ps.Nodup = false) := hid (decide_eq_false (nodupTake (k := k + 1) (by rw [HSN.out, snocNodup]; exact fun h => h.2 hmem)))
        clear hmem
        go_wp2_with fail
        go_ret
        exact ⟨by rw [HO.out]; rfl, HB.out⟩
      · rw [decide_eq_false hmem] at hcq
        have HMEM := hid hmem
        have HST := hid (HR.out.stored q (.bool true))
        have HB2 := hid (HB.out.setCell (p := ⟨w.heap.size, q, none⟩) (Nat.le_refl _) (.bool true))
        clear hmem HR HB
        go_wp2_with fail
        go_roundw
        case rel => exact ⟨k + 1, by omega, by go_num, by rw [seenB_step HQ.out HSN.out, ← bvals_set]; exact HST.out.1, by rw [HSN.out, snocNodup]; exact ⟨HND.out, HMEM.out⟩, HB2.out⟩
        case measure => simp [intOf]; omega
    · have hkf : (k < n) = False := eq_false (by omega)
      have HO : Hid (decide ps.Nodup = true) := hid (decide_eq_true (by have h := HND.out; rw [show k = n by omega, HN.out, List.take_length] at h; exact h))
      clear hlt
      go_wp2_with fail
      go_ret
      exact ⟨by rw [HO.out]; rfl, HB.out⟩
end Go.Proofs.Ytlfpepkgnobjnaa
