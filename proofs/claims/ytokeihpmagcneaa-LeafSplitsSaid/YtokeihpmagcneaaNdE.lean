/- CONTRACT: the document's Decode of a node. -/
import Derived.Test.YtokeihpmagcneaaNdR
import Derived.Test.YtokeihpmagcneaaVarR
namespace Go.Inc
open Go.RowKit
/-- The place behind j numbers. -/
def nxJ (bs : List Nat) (p : Nat) : Nat → Nat
  | 0 => p
  | j + 1 => nxN bs (nxJ bs p j)
theorem nxJ_le {bs : List Nat} {p : Nat} (h : p ≤ bs.length) : ∀ j, nxJ bs p j ≤ bs.length
  | 0 => h
  | j + 1 => nxN_le (nxJ_le h j)
/-- A node told, beside a number. -/
def NdAns (E B : Nat) (w : World) (lf : Bool) (es : List Et) (n : Int) (e : Ending) (w' : World) : Prop :=
  (∃ v, e = .returned (.tuple #[v, .int .i64 n]) ∧ NodeN E B w' v lf es) ∧ Below w.heap.size w w'
theorem NdAns.bad {E B : Nat} {w w' : World} (hb : Below w.heap.size w w') : NdAns E B w false [] 3 (.returned (.tuple #[.agg #[.bool false, .slice none 0 0], .int .i64 3])) w' :=
  ⟨⟨_, rfl, _, rfl, World.ownsRow_nil _ _ _ _⟩, hb⟩
theorem res_cell_tmp2 {P : Program} {fn : Func} {p u : Tmp} {ty : TypeId} (h : fn.results = #[.cell p ty, .tmp u]) (tmps : Array Value) (w : World) (g : Nat) (t : TypeId) (cs : Array Value) (fr : Nat × Nat) (d : TypeDesc)
    (hp : tmps.getD p undef = .pointer (some ⟨g, 0, none⟩)) (hg : w.heap[g]? = some (.cells cs t fr))
    (hu : P.underlying ty = some d) (hd : (match d with | .struct _ | .array _ _ => true | _ => false) = true) (hi : (P.info? ty).map (·.size) = some cs.size) :
    (results fn tmps).run P w = .ok (.tuple #[.agg cs, tmps.getD u undef]) w := by
  rw [results_cell_tmp h, hp]
  simp only [asAddr, Sem.run_pure, Result.andThen_ok]
  rw [run_loadVar_row w g t ty cs fr d hg hu hd hi]
  rfl
end Go.Inc
namespace Go.Proofs.Ytokeihpmagcneaa
open Go.RowKit Go.Inc

theorem resND (w : World) (g : Nat) (cs : Array Value) (tmps : Array Value) (h2 : tmps.getD 2 undef = .pointer (some ⟨g, 0, none⟩)) (hg : w.heap[g]? = some (.cells cs 24 (0, 0))) (hs : cs.size = 2) :
    (results Try.f18 tmps).run Try.prog w = .ok (.tuple #[.agg cs, tmps.getD 3 undef]) w :=
  res_cell_tmp2 rfl tmps w g 24 cs (0, 0) _ h2 hg Try.underlying24 rfl (by rw [hs]; kernel_rfl)

set_option maxRecDepth 20000 in
set_option maxHeartbeats 1000000 in
theorem rDec_short (a : Option Addr) (c : Nat) (bs : List Nat) (w : World) (hl : bs.length < 2) :
    Calls Try.prog 18 #[.slice a bs.length c] w (NdAns 54 w.heap.size w (ndL bs) (ndS bs) (ndE bs)) := by
  have HN : ¬ decG bs := fun h => by have := h.1; omega
  rw [ndL_bad HN, ndS_bad HN, ndE_bad HN]
  clear HN
  obtain ⟨n, hn⟩ : ∃ n, n = bs.length := ⟨_, rfl⟩
  rw [← hn] at hl ⊢
  have hq : decide ((n : Int) < 2) = true := decide_eq_true (by omega)
  have hq2 : (n < 2) = True := eq_true hl
  clear hl hn
  go_enter Try.func18, Try.ntmps18
  go_wp2_with fail
  refine bodyPost_ret (v := .tuple #[.agg #[.bool false, .slice none 0 0], .int .i64 3]) (resND _ _ #[.bool false, .slice none 0 0] _ rfl (heap_alloc_new w _) rfl) rfl (NdAns.bad ?_)
  exact allocBelow w _
set_option maxRecDepth 20000 in
set_option maxHeartbeats 1000000 in
theorem rDec_first (ok : Nat → Prop) (a : Option Addr) (c : Nat) (bs : List Nat) (w : World) (hs : Sl ok w a bs) (hl : 2 ≤ bs.length) (h1 : 1 < bs.getD 0 0) :
    Calls Try.prog 18 #[.slice a bs.length c] w (NdAns 54 w.heap.size w (ndL bs) (ndS bs) (ndE bs)) := by
  have HN : ¬ decG bs := fun h => by have := h.2.1; omega
  rw [ndL_bad HN, ndS_bad HN, ndE_bad HN]
  clear HN
  rcases hs with rfl | ⟨b, off, rfl, _, hc⟩
  · simp at hl
  have hx0 := hc 0 (by omega)
  obtain ⟨x, hx⟩ : ∃ x, x = bs.getD 0 0 := ⟨_, rfl⟩
  rw [← hx] at hx0 h1
  obtain ⟨n, hn⟩ : ∃ n, n = bs.length := ⟨_, rfl⟩
  rw [← hn] at hl ⊢
  have hq : decide ((n : Int) < 2) = false := decide_eq_false (by omega)
  have hq2 : (n < 2) = False := eq_false (by omega)
  have hq0 : (0 : Int) < n := by omega
  have hq3 : decide ((1 : Int) < x) = true := decide_eq_true (by omega)
  have hq4 : (1 < x) = True := eq_true h1
  have hx1 : (w.alloc (.cells #[.bool false, .slice none 0 0] 24)).cell? ⟨b, off, none⟩ = some (.int .u8 (x : Int)) := (Below.cell (allocBelow w _) (cell_lt hx0)).trans hx0
  have HB := hid (allocBelow w (.cells #[.bool false, .slice none 0 0] 24))
  have HX := hid (heap_alloc_new w (.cells #[.bool false, .slice none 0 0] 24))
  obtain ⟨w0, hw0⟩ : ∃ w0, w0 = w.alloc (.cells #[.bool false, .slice none 0 0] 24) := ⟨_, rfl⟩
  have HW0 := hid hw0
  rw [← hw0] at HB HX
  clear hl hn h1 hx hc hx0 hw0
  go_enter Try.func18, Try.ntmps18
  go_wp2_with fail
  rw [← HW0.out]
  refine bodyPost_ret (v := .tuple #[.agg #[.bool false, .slice none 0 0], .int .i64 3]) (resND _ _ #[.bool false, .slice none 0 0] _ rfl HX.out rfl) rfl (NdAns.bad HB.out)
/-- What the document's Decode keeps: two boxes. -/
def DcJ (w : World) (g : Nat) (lf : Bool) (u : Value) (x : World) : Prop :=
  Below w.heap.size w x ∧ x.heap[g]? = some (.cells #[.bool false, .slice none 0 0] 24 (0, 0)) ∧ x.heap[g + 1]? = some (.cells #[.bool lf, u] 24 (0, 0))
theorem DcJ.grew {w : World} {g : Nat} {lf : Bool} {u : Value} {a b : World} (hg : Grew a b) (h : DcJ w g lf u a) : DcJ w g lf u b :=
  ⟨h.1.trans (Below.mono hg h.1.size), row_below h.2.1 hg, row_below h.2.2 hg⟩
theorem DcJ.row {w : World} {g : Nat} {lf : Bool} {u : Value} {a b : World} {E B s n : Nat} {v : Value} {xs : List Value} (h : DcJ w g lf u a) (hr : a.ownsRow B E s v n xs) (hg : a.grownBy b v.ownBlock) (hB : w.heap.size ≤ B) (h1 : E ≠ 24) : DcJ w g lf u b :=
  ⟨below_owned (w0 := w) h.1 hr hB hg, rowApart h1 hr hg h.2.1, rowApart h1 hr hg h.2.2⟩
theorem DcJ.at (w : World) (g : Nat) (lf : Bool) (u : Value) (x : World) (h : Nat) (q : Nat) (v : Value) (hj : DcJ w g lf u x) (hgh : g + 1 < h) (hg : g = w.heap.size) : DcJ w g lf u (x.setCell ⟨h, q, none⟩ v) := by
  refine ⟨hj.1.setCell (p := ⟨h, q, none⟩) (show w.heap.size ≤ h by omega) _, ?_, ?_⟩
  · rw [heap_setCell_other _ _ _ _ (show g ≠ h by omega)]; exact hj.2.1
  · rw [heap_setCell_other _ _ _ _ (show g + 1 ≠ h by omega)]; exact hj.2.2
theorem DcJ.put (w : World) (g : Nat) (lf : Bool) (u : Value) (x : World) (v : Value) (hj : DcJ w g lf u x) (hg : g = w.heap.size) : DcJ w g lf v (x.setCell ⟨g + 1, 1, none⟩ v) := by
  refine ⟨hj.1.setCell (p := ⟨g + 1, 1, none⟩) (show w.heap.size ≤ g + 1 by omega) _, ?_, heap_setCell_same x (g + 1) 1 _ _ _ hj.2.2⟩
  rw [heap_setCell_other _ _ _ _ (show g ≠ g + 1 by omega)]; exact hj.2.1
set_option maxRecDepth 20000 in
set_option maxHeartbeats 4000000 in
theorem rDec_main (ok : Nat → Prop) (a : Option Addr) (c : Nat) (bs : List Nat) (w : World) (hs : Sl ok w a bs) (hby : Bytes bs) (hm : (bs.length : Int) ≤ 1000) (hl : 2 ≤ bs.length) (h1 : bs.getD 0 0 ≤ 1) :
    Calls Try.prog 18 #[.slice a bs.length c] w (NdAns 54 w.heap.size w (ndL bs) (ndS bs) (ndE bs)) := by
  obtain ⟨i0, hi, hz0, hz1, hz2⟩ := info_parts infoRE
  have HI := hid (And.intro hi (And.intro hz0 (And.intro hz1 hz2)))
  rcases hs with rfl | ⟨b, off, rfl, _, hc⟩
  · simp at hl
  have HC := hid hc
  have hb0 := hc 0 (by omega)
  have hb1 := hc 1 (by omega)
  obtain ⟨lf, hlf⟩ : ∃ lf, lf = lfN bs := ⟨_, rfl⟩
  have HLF := hid hlf
  obtain ⟨N, hN⟩ : ∃ N, N = ctN bs := ⟨_, rfl⟩
  have HCT := hid hN
  have hN1 : bs.getD 1 0 = N := hN.symm
  have hNb : (N : Int) ≤ 255 := by have := hby (bs.getD 1 0) (memGetD (by omega)); omega
  obtain ⟨x, hx⟩ : ∃ x, x = bs.getD 0 0 := ⟨_, rfl⟩
  have hxl : ((x : Int) == 1) = lf := by
    rw [hlf]; unfold lfN; rw [← hx]
    by_cases hh : x = 1
    · rw [hh]; rfl
    · rw [decide_eq_false hh, beq_eq_false_iff_ne]; omega
  rw [← hx] at hb0 h1
  rw [hN1] at hb1
  obtain ⟨n, hn⟩ : ∃ n, n = bs.length := ⟨_, rfl⟩
  have HN := hid hn
  have HLEN : Hid (2 ≤ bs.length ∧ bs.getD 0 0 ≤ 1) := hid ⟨hl, by omega⟩
  rw [← hn] at hl hm ⊢
  have hq : decide ((n : Int) < 2) = false := decide_eq_false (by omega)
  have hq2 : (n < 2) = False := eq_false (by omega)
  have hq0 : (0 : Int) < n := by omega
  have hq1 : (1 : Int) < n := by omega
  have hq3 : decide ((1 : Int) < x) = false := decide_eq_false (by omega)
  have hq4 : (1 < x) = False := eq_false (by omega)
  obtain ⟨g, hg⟩ : ∃ g, g = w.heap.size := ⟨_, rfl⟩
  have HG := hid hg
  have hx1 : (w.alloc (.cells #[.bool false, .slice none 0 0] 24)).cell? ⟨b, off, none⟩ = some (.int .u8 (x : Int)) := (Below.cell (allocBelow w _) (cell_lt hb0)).trans hb0
  obtain ⟨w0, hw0⟩ : ∃ w0, w0 = (w.alloc (.cells #[.bool false, .slice none 0 0] 24)).alloc (.cells #[.bool lf, .slice none 0 0] 24) := ⟨_, rfl⟩
  have HW0 := hid hw0
  have HJ0 : Hid (DcJ w g lf (.slice none 0 0) w0) := hid (by
    rw [hw0, hg]
    exact ⟨((Below.refl _ _).alloc (Nat.le_refl _) _).alloc (by simp) _, heap_alloc2_old w _ _, heap_alloc2_new w _ _⟩)
  have HCO : Hid (∀ i, i < n → ∀ y, Below w.heap.size w y → y.cell? ⟨b, off + i, none⟩ = some (.int .u8 ((bs.getD i 0 : Nat) : Int))) := hid fun i hi y hy => (hy.cell (cell_lt (hc i (by omega)))).trans (hc i (by omega))
  have HGET : Hid (∀ r, r ≤ n → ∀ y, Below w.heap.size w y → Calls Try.prog 39 #[.slice (some ⟨b, off, none⟩) n c, .int .i64 (r : Int), .int .u64 65535] y fun e w' => e = .returned (.tuple #[.int .u64 (vlN bs r : Nat), .int .i64 (nxN bs r : Nat), .int .i64 (erN bs r : Nat)]) ∧ y = w') := hid fun r hr y hy => by
    have h := refGet_any (fun _ => True) (some ⟨b, off, none⟩) c r 65535 r bs y (.inr ⟨b, off, rfl, trivial, fun i hi => HCO.out i (by omega) y hy⟩) hby (by omega) (by omega) (by omega) rfl
    rw [hn]
    exact h
  clear hb0 hb1 hN hN1 hx hn hg hw0 hlf hc hby h1 hi hz0 hz1 hz2
  go_enter Try.func18, Try.ntmps18
  go_wp2_with fail
  rw [← HW0.out, ← HG.out]
  go_loopw [5, 6] (fun p i wr => ∃ (k : Nat) (u : Value), k ≤ N ∧ p = .int .i64 (plN bs k : Nat) ∧ i = .int .i64 (k : Int) ∧ gdN bs k ∧ DcJ w g lf u wr ∧ wr.ownsRow w.heap.size 54 3 u k (ecells (esN bs k))) (fun _ i _ => N - (intOf i).toNat)
  case atStart => exact ⟨0, _, Nat.zero_le _, rfl, rfl, fun i hi => absurd hi (by omega), HJ0.out, World.ownsRow_nil _ _ _ _⟩
  case round =>
    clear HJ0 hx1 HW0
    obtain ⟨k, u, hk, rfl, rfl, hgd, hj, hv⟩ := hrel
    have HGD := hid hgd
    have HJ := hid (And.intro hj hv)
    obtain ⟨q, hqq⟩ : ∃ q, q = plN bs k := ⟨_, rfl⟩
    have HQ : Hid (q = plN bs k ∧ q ≤ bs.length) := hid ⟨hqq, by rw [hqq]; exact plN_le HLEN.out.1 k⟩
    rw [← hqq]
    have hcN := HCO.out 1 (by omega) wr hj.1
    rw [show bs.getD 1 0 = N from HCT.out.symm] at hcN
    have hqn : (q : Int) ≤ n := by have := HQ.out.2; have := HN.out; omega
    clear hgd hj hv hqq
    by_cases hlt : (k : Int) < N
    · have hkn : (k < N) = True := eq_true (by omega)
      have HKN : Hid (k < N) := hid (by omega)
      obtain ⟨h, hh⟩ : ∃ h, h = wr.heap.size := ⟨_, rfl⟩
      have HH : Hid (g + 1 < h) := hid (by rw [hh]; exact (Array.getElem?_eq_some_iff.1 HJ.out.1.2.2).1)
      have HHH := hid hh
      obtain ⟨w1, hw1⟩ : ∃ w1, w1 = wr.alloc (.cells #[.int .i64 0, .int .i64 0, .int .i64 0] 80) := ⟨_, rfl⟩
      have HW1 := hid hw1
      have HI1 : Hid (DcJ w g lf u w1 ∧ w1.ownsRow w.heap.size 54 3 u k (ecells (esN bs k)) ∧ w1.heap[h]? = some (.cells #[.int .i64 0, .int .i64 0, .int .i64 0] 80 (0, 0))) := hid (by
        rw [hw1, hh]
        exact ⟨DcJ.grew (allocBelow wr _) HJ.out.1, HJ.out.2.alloc _, heap_alloc_new wr _⟩)
      clear hh hw1 HJ
      go_wp2_with fail
      rw [← HW1.out]
      rw [← HHH.out]
      clear hcN
      go_loopw [5, 8] (fun p j wi => ∃ (m : Nat) (x0 x1 x2 : Int), m ≤ 3 ∧ p = .int .i64 (nxJ bs q m : Nat) ∧ j = .int .i64 (m : Int) ∧ ((0 < m → erN bs (nxJ bs q 0) = 0 ∧ x0 = (vlN bs (nxJ bs q 0) : Nat)) ∧ (1 < m → erN bs (nxJ bs q 1) = 0 ∧ x1 = (vlN bs (nxJ bs q 1) : Nat)) ∧ (2 < m → erN bs (nxJ bs q 2) = 0 ∧ x2 = (vlN bs (nxJ bs q 2) : Nat))) ∧ DcJ w g lf u wi ∧ wi.ownsRow w.heap.size 54 3 u k (ecells (esN bs k)) ∧ wi.heap[h]? = some (.cells #[.int .i64 x0, .int .i64 x1, .int .i64 x2] 80 (0, 0))) (fun _ j _ => 3 - (intOf j).toNat)
      case atStart => exact ⟨0, 0, 0, 0, by omega, rfl, rfl, ⟨fun h => absurd h (by decide), fun h => absurd h (by decide), fun h => absurd h (by decide)⟩, HI1.out.1, HI1.out.2.1, HI1.out.2.2⟩
      case round =>
        clear HI1 HW1 HHH
        obtain ⟨m, x0, x1, x2, hm3, rfl, rfl, hxs, hj1, hj2, hj3⟩ := hrel
        have HXS := hid hxs
        have HI3 := hid (And.intro hj1 (And.intro hj2 hj3))
        clear hxs hj1 hj2 hj3
        rcases (show m = 0 ∨ m = 1 ∨ m = 2 ∨ m = 3 by omega) with rfl | rfl | rfl | rfl
        · clear hm3
          obtain ⟨r, hr⟩ : ∃ r, r = nxJ bs q 0 := ⟨_, rfl⟩
          have HR := hid hr
          have HRN : Hid (r ≤ n) := hid (by rw [hr]; exact Nat.le_trans (nxJ_le HQ.out.2 0) (Nat.le_of_eq HN.out.symm))
          obtain ⟨z, hz⟩ : ∃ z, z = nxN bs r := ⟨_, rfl⟩
          obtain ⟨v, hv⟩ : ∃ v, v = vlN bs r := ⟨_, rfl⟩
          obtain ⟨E, hE⟩ : ∃ E, E = erN bs r := ⟨_, rfl⟩
          have HZ := hid (And.intro hz (And.intro hv hE))
          have hvb : (v : Int) ≤ 65535 := by have := vlN_le bs r; omega
          have hzb : (z : Int) ≤ 1000 := by have := nxN_le (bs := bs) (p := r) (by have := HRN.out; have := HN.out; omega); have := HN.out; omega
          have HCALL := hid (HGET.out r HRN.out wr HI3.out.1.1)
          rw [← hz, ← hv, ← hE] at HCALL
          rw [← hr]
          clear hr hz hv hE
          by_cases hE0 : E = 0
          · have HE0 := hid hE0
            have hEn : ((E : Int) != 0) = false := by simp [hE0]
            clear hE0
            have hcell : wr.cell? ⟨h, 0, none⟩ = some (.int .i64 x0) := by rw [cell_of_row _ _ _ _ _ _ HI3.out.2.2]; rfl
            have hfro : wr.frozen? ⟨h, 0, none⟩ = false := frozen_of_row _ _ _ _ _ HI3.out.2.2
            go_wp2_with fail
            refine HCALL.out.mono ?_
            rintro e y ⟨rfl, rfl⟩
            have HJ9 : Hid (DcJ w g lf u (wr.setCell ⟨h, 0, none⟩ (.int .i64 (v : Int)))) := hid (DcJ.at w g lf u wr h 0 _ HI3.out.1 HH.out HG.out)
            have HV9 : Hid ((wr.setCell ⟨h, 0, none⟩ (.int .i64 (v : Int))).ownsRow w.heap.size 54 3 u k (ecells (esN bs k))) := hid (ownsRow_setCell_other HI3.out.2.1 (rowNot (by decide) HI3.out.2.1 HI3.out.2.2) _)
            have HX9 : Hid ((wr.setCell ⟨h, 0, none⟩ (.int .i64 (v : Int))).heap[h]? = some (.cells #[.int .i64 (v : Int), .int .i64 x1, .int .i64 x2] 80 (0, 0))) := hid (heap_setCell_same wr h 0 _ _ _ HI3.out.2.2)
            go_wp2_with fail
            go_roundw
            case rel => exact ⟨0 + 1, (v : Int), x1, x2, by omega, by rw [HZ.out.1, HR.out]; rfl, rfl, ⟨fun _ => by first | exact ⟨HZ.out.2.2.symm.trans HE0.out, by rw [← HZ.out.2.1]⟩ | (rw [← HR.out]; exact ⟨HZ.out.2.2.symm.trans HE0.out, by rw [← HZ.out.2.1]⟩), fun h => absurd h (by decide), fun h => absurd h (by decide)⟩, HJ9.out, HV9.out, HX9.out⟩
            case measure => simp [intOf]
          · have hEn : ((E : Int) != 0) = true := by rw [bne_iff_ne]; omega
            have HE0 := hid hE0
            clear hE0
            go_wp2_with fail
            refine HCALL.out.mono ?_
            rintro e y ⟨rfl, rfl⟩
            have HBAD : Hid (¬ decG bs) := hid (fun h => by have h2 := h.2.2.1 k (by have := HKN.out; rw [← HCT.out]; exact this); rw [← HQ.out.1] at h2; exact HE0.out (HZ.out.2.2.trans (by rw [HR.out]; exact h2.1)))
            have hf0 : wr.frozen? ⟨g, 0, none⟩ = false := frozen_of_row _ _ _ _ _ HI3.out.1.2.1
            have hc0 : wr.cell? ⟨g, 0, none⟩ = some (.bool false) := by rw [cell_of_row _ _ _ _ _ _ HI3.out.1.2.1]; rfl
            have hr8 : (wr.setCell ⟨g, 0, none⟩ (.bool false)).heap[g]? = some (.cells #[.bool false, .slice none 0 0] 24 (0, 0)) := heap_setCell_same wr g 0 _ _ _ HI3.out.1.2.1
            have hf8 : (wr.setCell ⟨g, 0, none⟩ (.bool false)).frozen? ⟨g, 1, none⟩ = false := frozen_of_row _ _ _ _ _ hr8
            have hc8 : (wr.setCell ⟨g, 0, none⟩ (.bool false)).cell? ⟨g, 1, none⟩ = some (.slice none 0 0) := by rw [cell_of_row _ _ _ _ _ _ hr8]; rfl
            have HR9 : Hid (((wr.setCell ⟨g, 0, none⟩ (.bool false)).setCell ⟨g, 1, none⟩ (.slice none 0 0)).heap[g]? = some (.cells #[.bool false, .slice none 0 0] 24 (0, 0))) := hid (heap_setCell_same (wr.setCell ⟨g, 0, none⟩ (.bool false)) g 1 _ _ _ hr8)
            have HB9 := hid ((HI3.out.1.1.setCell (p := ⟨g, 0, none⟩) (show w.heap.size ≤ g by have := HG.out; omega) (.bool false)).setCell (p := ⟨g, 1, none⟩) (show w.heap.size ≤ g by have := HG.out; omega) (.slice none 0 0))
            clear hr8
            go_wp2_with fail
            rw [ndL_bad HBAD.out, ndS_bad HBAD.out, ndE_bad HBAD.out]
            exact bodyPost_ret (v := .tuple #[.agg #[.bool false, .slice none 0 0], .int .i64 3]) (resND _ _ #[.bool false, .slice none 0 0] _ rfl HR9.out rfl) rfl (NdAns.bad HB9.out)
        · clear hm3
          obtain ⟨r, hr⟩ : ∃ r, r = nxJ bs q 1 := ⟨_, rfl⟩
          have HR := hid hr
          have HRN : Hid (r ≤ n) := hid (by rw [hr]; exact Nat.le_trans (nxJ_le HQ.out.2 1) (Nat.le_of_eq HN.out.symm))
          obtain ⟨z, hz⟩ : ∃ z, z = nxN bs r := ⟨_, rfl⟩
          obtain ⟨v, hv⟩ : ∃ v, v = vlN bs r := ⟨_, rfl⟩
          obtain ⟨E, hE⟩ : ∃ E, E = erN bs r := ⟨_, rfl⟩
          have HZ := hid (And.intro hz (And.intro hv hE))
          have hvb : (v : Int) ≤ 65535 := by have := vlN_le bs r; omega
          have hzb : (z : Int) ≤ 1000 := by have := nxN_le (bs := bs) (p := r) (by have := HRN.out; have := HN.out; omega); have := HN.out; omega
          have HCALL := hid (HGET.out r HRN.out wr HI3.out.1.1)
          rw [← hz, ← hv, ← hE] at HCALL
          rw [← hr]
          clear hr hz hv hE
          by_cases hE0 : E = 0
          · have HE0 := hid hE0
            have hEn : ((E : Int) != 0) = false := by simp [hE0]
            clear hE0
            have hcell : wr.cell? ⟨h, 1, none⟩ = some (.int .i64 x1) := by rw [cell_of_row _ _ _ _ _ _ HI3.out.2.2]; rfl
            have hfro : wr.frozen? ⟨h, 1, none⟩ = false := frozen_of_row _ _ _ _ _ HI3.out.2.2
            go_wp2_with fail
            refine HCALL.out.mono ?_
            rintro e y ⟨rfl, rfl⟩
            have HJ9 : Hid (DcJ w g lf u (wr.setCell ⟨h, 1, none⟩ (.int .i64 (v : Int)))) := hid (DcJ.at w g lf u wr h 1 _ HI3.out.1 HH.out HG.out)
            have HV9 : Hid ((wr.setCell ⟨h, 1, none⟩ (.int .i64 (v : Int))).ownsRow w.heap.size 54 3 u k (ecells (esN bs k))) := hid (ownsRow_setCell_other HI3.out.2.1 (rowNot (by decide) HI3.out.2.1 HI3.out.2.2) _)
            have HX9 : Hid ((wr.setCell ⟨h, 1, none⟩ (.int .i64 (v : Int))).heap[h]? = some (.cells #[.int .i64 x0, .int .i64 (v : Int), .int .i64 x2] 80 (0, 0))) := hid (heap_setCell_same wr h 1 _ _ _ HI3.out.2.2)
            go_wp2_with fail
            go_roundw
            case rel => exact ⟨1 + 1, x0, (v : Int), x2, by omega, by rw [HZ.out.1, HR.out]; rfl, rfl, ⟨fun _ => HXS.out.1 (by decide), fun _ => by first | exact ⟨HZ.out.2.2.symm.trans HE0.out, by rw [← HZ.out.2.1]⟩ | (rw [← HR.out]; exact ⟨HZ.out.2.2.symm.trans HE0.out, by rw [← HZ.out.2.1]⟩), fun h => absurd h (by decide)⟩, HJ9.out, HV9.out, HX9.out⟩
            case measure => simp [intOf]
          · have hEn : ((E : Int) != 0) = true := by rw [bne_iff_ne]; omega
            have HE0 := hid hE0
            clear hE0
            go_wp2_with fail
            refine HCALL.out.mono ?_
            rintro e y ⟨rfl, rfl⟩
            have HBAD : Hid (¬ decG bs) := hid (fun h => by have h2 := h.2.2.1 k (by have := HKN.out; rw [← HCT.out]; exact this); rw [← HQ.out.1] at h2; exact HE0.out (HZ.out.2.2.trans (by rw [HR.out]; exact h2.2.1)))
            have hf0 : wr.frozen? ⟨g, 0, none⟩ = false := frozen_of_row _ _ _ _ _ HI3.out.1.2.1
            have hc0 : wr.cell? ⟨g, 0, none⟩ = some (.bool false) := by rw [cell_of_row _ _ _ _ _ _ HI3.out.1.2.1]; rfl
            have hr8 : (wr.setCell ⟨g, 0, none⟩ (.bool false)).heap[g]? = some (.cells #[.bool false, .slice none 0 0] 24 (0, 0)) := heap_setCell_same wr g 0 _ _ _ HI3.out.1.2.1
            have hf8 : (wr.setCell ⟨g, 0, none⟩ (.bool false)).frozen? ⟨g, 1, none⟩ = false := frozen_of_row _ _ _ _ _ hr8
            have hc8 : (wr.setCell ⟨g, 0, none⟩ (.bool false)).cell? ⟨g, 1, none⟩ = some (.slice none 0 0) := by rw [cell_of_row _ _ _ _ _ _ hr8]; rfl
            have HR9 : Hid (((wr.setCell ⟨g, 0, none⟩ (.bool false)).setCell ⟨g, 1, none⟩ (.slice none 0 0)).heap[g]? = some (.cells #[.bool false, .slice none 0 0] 24 (0, 0))) := hid (heap_setCell_same (wr.setCell ⟨g, 0, none⟩ (.bool false)) g 1 _ _ _ hr8)
            have HB9 := hid ((HI3.out.1.1.setCell (p := ⟨g, 0, none⟩) (show w.heap.size ≤ g by have := HG.out; omega) (.bool false)).setCell (p := ⟨g, 1, none⟩) (show w.heap.size ≤ g by have := HG.out; omega) (.slice none 0 0))
            clear hr8
            go_wp2_with fail
            rw [ndL_bad HBAD.out, ndS_bad HBAD.out, ndE_bad HBAD.out]
            exact bodyPost_ret (v := .tuple #[.agg #[.bool false, .slice none 0 0], .int .i64 3]) (resND _ _ #[.bool false, .slice none 0 0] _ rfl HR9.out rfl) rfl (NdAns.bad HB9.out)
        · clear hm3
          obtain ⟨r, hr⟩ : ∃ r, r = nxJ bs q 2 := ⟨_, rfl⟩
          have HR := hid hr
          have HRN : Hid (r ≤ n) := hid (by rw [hr]; exact Nat.le_trans (nxJ_le HQ.out.2 2) (Nat.le_of_eq HN.out.symm))
          obtain ⟨z, hz⟩ : ∃ z, z = nxN bs r := ⟨_, rfl⟩
          obtain ⟨v, hv⟩ : ∃ v, v = vlN bs r := ⟨_, rfl⟩
          obtain ⟨E, hE⟩ : ∃ E, E = erN bs r := ⟨_, rfl⟩
          have HZ := hid (And.intro hz (And.intro hv hE))
          have hvb : (v : Int) ≤ 65535 := by have := vlN_le bs r; omega
          have hzb : (z : Int) ≤ 1000 := by have := nxN_le (bs := bs) (p := r) (by have := HRN.out; have := HN.out; omega); have := HN.out; omega
          have HCALL := hid (HGET.out r HRN.out wr HI3.out.1.1)
          rw [← hz, ← hv, ← hE] at HCALL
          rw [← hr]
          clear hr hz hv hE
          by_cases hE0 : E = 0
          · have HE0 := hid hE0
            have hEn : ((E : Int) != 0) = false := by simp [hE0]
            clear hE0
            have hcell : wr.cell? ⟨h, 2, none⟩ = some (.int .i64 x2) := by rw [cell_of_row _ _ _ _ _ _ HI3.out.2.2]; rfl
            have hfro : wr.frozen? ⟨h, 2, none⟩ = false := frozen_of_row _ _ _ _ _ HI3.out.2.2
            go_wp2_with fail
            refine HCALL.out.mono ?_
            rintro e y ⟨rfl, rfl⟩
            have HJ9 : Hid (DcJ w g lf u (wr.setCell ⟨h, 2, none⟩ (.int .i64 (v : Int)))) := hid (DcJ.at w g lf u wr h 2 _ HI3.out.1 HH.out HG.out)
            have HV9 : Hid ((wr.setCell ⟨h, 2, none⟩ (.int .i64 (v : Int))).ownsRow w.heap.size 54 3 u k (ecells (esN bs k))) := hid (ownsRow_setCell_other HI3.out.2.1 (rowNot (by decide) HI3.out.2.1 HI3.out.2.2) _)
            have HX9 : Hid ((wr.setCell ⟨h, 2, none⟩ (.int .i64 (v : Int))).heap[h]? = some (.cells #[.int .i64 x0, .int .i64 x1, .int .i64 (v : Int)] 80 (0, 0))) := hid (heap_setCell_same wr h 2 _ _ _ HI3.out.2.2)
            go_wp2_with fail
            go_roundw
            case rel => exact ⟨2 + 1, x0, x1, (v : Int), by omega, by rw [HZ.out.1, HR.out]; rfl, rfl, ⟨fun _ => HXS.out.1 (by decide), fun _ => HXS.out.2.1 (by decide), fun _ => by first | exact ⟨HZ.out.2.2.symm.trans HE0.out, by rw [← HZ.out.2.1]⟩ | (rw [← HR.out]; exact ⟨HZ.out.2.2.symm.trans HE0.out, by rw [← HZ.out.2.1]⟩)⟩, HJ9.out, HV9.out, HX9.out⟩
            case measure => simp [intOf]
          · have hEn : ((E : Int) != 0) = true := by rw [bne_iff_ne]; omega
            have HE0 := hid hE0
            clear hE0
            go_wp2_with fail
            refine HCALL.out.mono ?_
            rintro e y ⟨rfl, rfl⟩
            have HBAD : Hid (¬ decG bs) := hid (fun h => by have h2 := h.2.2.1 k (by have := HKN.out; rw [← HCT.out]; exact this); rw [← HQ.out.1] at h2; exact HE0.out (HZ.out.2.2.trans (by rw [HR.out]; exact h2.2.2)))
            have hf0 : wr.frozen? ⟨g, 0, none⟩ = false := frozen_of_row _ _ _ _ _ HI3.out.1.2.1
            have hc0 : wr.cell? ⟨g, 0, none⟩ = some (.bool false) := by rw [cell_of_row _ _ _ _ _ _ HI3.out.1.2.1]; rfl
            have hr8 : (wr.setCell ⟨g, 0, none⟩ (.bool false)).heap[g]? = some (.cells #[.bool false, .slice none 0 0] 24 (0, 0)) := heap_setCell_same wr g 0 _ _ _ HI3.out.1.2.1
            have hf8 : (wr.setCell ⟨g, 0, none⟩ (.bool false)).frozen? ⟨g, 1, none⟩ = false := frozen_of_row _ _ _ _ _ hr8
            have hc8 : (wr.setCell ⟨g, 0, none⟩ (.bool false)).cell? ⟨g, 1, none⟩ = some (.slice none 0 0) := by rw [cell_of_row _ _ _ _ _ _ hr8]; rfl
            have HR9 : Hid (((wr.setCell ⟨g, 0, none⟩ (.bool false)).setCell ⟨g, 1, none⟩ (.slice none 0 0)).heap[g]? = some (.cells #[.bool false, .slice none 0 0] 24 (0, 0))) := hid (heap_setCell_same (wr.setCell ⟨g, 0, none⟩ (.bool false)) g 1 _ _ _ hr8)
            have HB9 := hid ((HI3.out.1.1.setCell (p := ⟨g, 0, none⟩) (show w.heap.size ≤ g by have := HG.out; omega) (.bool false)).setCell (p := ⟨g, 1, none⟩) (show w.heap.size ≤ g by have := HG.out; omega) (.slice none 0 0))
            clear hr8
            go_wp2_with fail
            rw [ndL_bad HBAD.out, ndS_bad HBAD.out, ndE_bad HBAD.out]
            exact bodyPost_ret (v := .tuple #[.agg #[.bool false, .slice none 0 0], .int .i64 3]) (resND _ _ #[.bool false, .slice none 0 0] _ rfl HR9.out rfl) rfl (NdAns.bad HB9.out)
        · clear hm3
          have hz3 := HXS.out
          have hY0 := hz3.1 (by omega)
          have hY1 := hz3.2.1 (by omega)
          have hY2 := hz3.2.2 (by omega)
          have HOKT : Hid (okT bs q) := hid ⟨hY0.1, hY1.1, hY2.1⟩
          have HET : Hid (((x0, x1), x2) = etN bs q) := hid (by rw [hY0.2, hY1.2, hY2.2]; rfl)
          clear hz3 hY0 hY1 hY2
          have hc0 : wr.cell? ⟨h, 0, none⟩ = some (.int .i64 x0) := by rw [cell_of_row _ _ _ _ _ _ HI3.out.2.2]; rfl
          have hc1 : wr.cell? ⟨h, 1, none⟩ = some (.int .i64 x1) := by rw [cell_of_row _ _ _ _ _ _ HI3.out.2.2]; rfl
          have hc2 : wr.cell? ⟨h, 2, none⟩ = some (.int .i64 x2) := by rw [cell_of_row _ _ _ _ _ _ HI3.out.2.2]; rfl
          have hcu : wr.cell? ⟨g + 1, 1, none⟩ = some u := by rw [cell_of_row _ _ _ _ _ _ HI3.out.1.2.2]; rfl
          go_wp2_with (refine wpList_append_own _ rfl (.tmp 55) (.tmp 64) 22 rfl w.heap.size 54 i0 (.agg #[.int .i64 0, .int .i64 0, .int .i64 0]) 3 24 Try.underlying22 HI.out.1 HI.out.2.1 HI.out.2.2.1 HI.out.2.2.2 rfl (by decide) _ k (ecells (esN bs k)) rfl (HI3.out.2.1.alloc _) ⟨wr.heap.size, 0, none⟩ 1 1 [.int .i64 x0, .int .i64 x1, .int .i64 x2] rfl rfl (newCells wr [.int .i64 x0, .int .i64 x1, .int .i64 x2] _) (by simp [Value.oneCell']) (by unfold maxLen; omega) (by omega) (by have := HI3.out.1.1.size; simp; omega) ?_)
          intro v4 w4 hv4 hg4 _
          have HJ4 : Hid (DcJ w g lf u w4) := hid (DcJ.row (DcJ.grew (allocBelow wr _) HI3.out.1) (HI3.out.2.1.alloc _) hg4 (Nat.le_refl _) (by decide))
          have HV4 : Hid (w4.ownsRow w.heap.size 54 3 v4 (k + 1) (ecells (esN bs (k + 1)))) := hid (by
            show w4.ownsRow w.heap.size 54 3 v4 (k + 1) (ecells (esN bs k ++ [etN bs (plN bs k)]))
            rw [← HQ.out.1, ← HET.out, ecells_app]; exact hv4)
          obtain ⟨a9, c9, hs9, -, -, -, -, -⟩ := ownedE HV4.out
          rw [esN_len] at hs9
          have hgq := HG.out
          clear hv4 hg4
          subst hs9
          clear hgq
          have hco : w4.cell? ⟨g + 1, 1, none⟩ = some u := by rw [cell_of_row _ _ _ _ _ _ HJ4.out.2.2]; rfl
          have hfo : w4.frozen? ⟨g + 1, 1, none⟩ = false := frozen_of_row _ _ _ _ _ HJ4.out.2.2
          have HJ9 : Hid (DcJ w g lf (.slice a9 (k + 1) c9) (w4.setCell ⟨g + 1, 1, none⟩ (.slice a9 (k + 1) c9))) := hid (DcJ.put w g lf u w4 (.slice a9 (k + 1) c9) HJ4.out HG.out)
          have HV9 : Hid ((w4.setCell ⟨g + 1, 1, none⟩ (.slice a9 (k + 1) c9)).ownsRow w.heap.size 54 3 (.slice a9 (k + 1) c9) (k + 1) (ecells (esN bs (k + 1)))) := hid (ownsRow_setCell_other HV4.out (rowNot (by decide) HV4.out HJ4.out.2.2) _)
          clear hc0 hc1 hc2 hcu
          go_wp2_with fail
          go_roundw
          case rel => exact ⟨k + 1, _, by have := HKN.out; omega, by rw [HQ.out.1]; rfl, by go_num, fun i hi => by
              by_cases hik : i = k
              · rw [hik, ← HQ.out.1]; exact HOKT.out
              · exact HGD.out i (by omega), HJ9.out, HV9.out⟩
          case measure => have := HKN.out; simp [intOf]; omega
    · have hkf : (k < N) = False := eq_false (by omega)
      have HKE : Hid (k = N) := hid (by omega)
      clear hlt
      obtain ⟨a9, c9, hu9, hk9, hE9, -, -, -⟩ := ownedE HJ.out.2
      obtain rfl : u = .slice a9 k c9 := by rw [hu9, esN_len]
      clear hu9 hk9
      have hcl : wr.cell? ⟨g + 1, 0, none⟩ = some (.bool lf) := by rw [cell_of_row _ _ _ _ _ _ HJ.out.1.2.2]; rfl
      have hcu : wr.cell? ⟨g + 1, 1, none⟩ = some (.slice a9 k c9) := by rw [cell_of_row _ _ _ _ _ _ HJ.out.1.2.2]; rfl
      obtain ⟨C, hC⟩ : ∃ C, C = chkN lf (esN bs k) := ⟨_, rfl⟩
      have HCC := hid hC
      have HCHK : Hid (Calls Try.prog 11 #[.agg #[.bool lf, .slice a9 k c9]] wr fun e w' => e = .returned (.int .i64 C) ∧ Below wr.heap.size wr w') := hid (by
        have h := rCheck_any _ a9 c9 lf (esN bs k) wr hE9 (by rw [esN_len]; omega)
        rw [esN_len, ← hC] at h
        exact h)
      clear hC hE9
      by_cases hqe : q = n
      · have hqb : ((q : Int) != n) = false := by simp [hqe]
        have HQE := hid hqe
        clear hqe
        by_cases hC0 : C = 0
        · have HC0 := hid hC0
          have hCb : ((C : Int) != 0) = false := by simp [hC0]
          clear hC0
          go_wp2_with fail
          refine HCHK.out.mono ?_
          rintro e y ⟨rfl, hby⟩
          have HJY := hid (DcJ.grew hby HJ.out.1)
          have HVY : Hid (y.ownsRow w.heap.size 54 3 (.slice a9 k c9) k (ecells (esN bs k))) := hid (owns_mv (F := fun _ => False) HJ.out.2 (Mv.of_below hby) fun _ _ => id)
          clear hby hcl hcu HJ HCHK
          have hcl : y.cell? ⟨g + 1, 0, none⟩ = some (.bool lf) := by rw [cell_of_row _ _ _ _ _ _ HJY.out.2.2]; rfl
          have hcu : y.cell? ⟨g + 1, 1, none⟩ = some (.slice a9 k c9) := by rw [cell_of_row _ _ _ _ _ _ HJY.out.2.2]; rfl
          have HGO : Hid (decG bs) := hid ⟨HLEN.out.1, HLEN.out.2, by rw [← HCT.out, ← HKE.out]; exact HGD.out, by rw [← HCT.out, ← HKE.out, ← HQ.out.1, HQE.out]; exact HN.out, by rw [← HCT.out, ← HKE.out, ← HLF.out, ← HCC.out]; exact HC0.out⟩
          have hf0 : y.frozen? ⟨g, 0, none⟩ = false := frozen_of_row _ _ _ _ _ HJY.out.2.1
          have hc0 : y.cell? ⟨g, 0, none⟩ = some (.bool false) := by rw [cell_of_row _ _ _ _ _ _ HJY.out.2.1]; rfl
          have hr8 : (y.setCell ⟨g, 0, none⟩ (.bool lf)).heap[g]? = some (.cells #[.bool lf, .slice none 0 0] 24 (0, 0)) := heap_setCell_same y g 0 _ _ _ HJY.out.2.1
          have hf8 : (y.setCell ⟨g, 0, none⟩ (.bool lf)).frozen? ⟨g, 1, none⟩ = false := frozen_of_row _ _ _ _ _ hr8
          have hc8 : (y.setCell ⟨g, 0, none⟩ (.bool lf)).cell? ⟨g, 1, none⟩ = some (.slice none 0 0) := by rw [cell_of_row _ _ _ _ _ _ hr8]; rfl
          have HR9 : Hid (((y.setCell ⟨g, 0, none⟩ (.bool lf)).setCell ⟨g, 1, none⟩ (.slice a9 k c9)).heap[g]? = some (.cells #[.bool lf, .slice a9 k c9] 24 (0, 0))) := hid (heap_setCell_same (y.setCell ⟨g, 0, none⟩ (.bool lf)) g 1 _ _ _ hr8)
          have HB9 := hid ((HJY.out.1.setCell (p := ⟨g, 0, none⟩) (show w.heap.size ≤ g by have := HG.out; omega) (.bool lf)).setCell (p := ⟨g, 1, none⟩) (show w.heap.size ≤ g by have := HG.out; omega) (.slice a9 k c9))
          have HV9 : Hid (((y.setCell ⟨g, 0, none⟩ (.bool lf)).setCell ⟨g, 1, none⟩ (.slice a9 k c9)).ownsRow w.heap.size 54 3 (.slice a9 k c9) k (ecells (esN bs k))) := hid (ownsRow_setCell_other (ownsRow_setCell_other HVY.out (rowNot (by decide) HVY.out HJY.out.2.1) _) (rowNot (by decide) HVY.out HJY.out.2.1) _)
          clear hr8
          go_wp2_with fail
          rw [ndL_good HGO.out, ndS_good HGO.out, ndE_good HGO.out]
          refine bodyPost_ret (v := .tuple #[.agg #[.bool lf, .slice a9 k c9], .int .i64 0]) (resND _ _ #[.bool lf, .slice a9 k c9] _ rfl HR9.out rfl) rfl ⟨⟨_, rfl, _, by rw [← HLF.out], ?_⟩, HB9.out⟩
          rw [esN_len, ← HCT.out, ← HKE.out]
          exact HV9.out
        · have hCb : ((C : Int) != 0) = true := by rw [bne_iff_ne]; exact hC0
          have HC0 := hid hC0
          clear hC0
          go_wp2_with fail
          refine HCHK.out.mono ?_
          rintro e y ⟨rfl, hby⟩
          have HJY := hid (DcJ.grew hby HJ.out.1)
          clear hby hcl hcu HJ HCHK
          have HBAD : Hid (¬ decG bs) := hid (fun h => by have h5 := h.2.2.2.2; rw [← HCT.out, ← HKE.out, ← HLF.out, ← HCC.out] at h5; exact HC0.out h5)
          have hf0 : y.frozen? ⟨g, 0, none⟩ = false := frozen_of_row _ _ _ _ _ HJY.out.2.1
          have hc0 : y.cell? ⟨g, 0, none⟩ = some (.bool false) := by rw [cell_of_row _ _ _ _ _ _ HJY.out.2.1]; rfl
          have hr8 : (y.setCell ⟨g, 0, none⟩ (.bool false)).heap[g]? = some (.cells #[.bool false, .slice none 0 0] 24 (0, 0)) := heap_setCell_same y g 0 _ _ _ HJY.out.2.1
          have hf8 : (y.setCell ⟨g, 0, none⟩ (.bool false)).frozen? ⟨g, 1, none⟩ = false := frozen_of_row _ _ _ _ _ hr8
          have hc8 : (y.setCell ⟨g, 0, none⟩ (.bool false)).cell? ⟨g, 1, none⟩ = some (.slice none 0 0) := by rw [cell_of_row _ _ _ _ _ _ hr8]; rfl
          have HR9 : Hid (((y.setCell ⟨g, 0, none⟩ (.bool false)).setCell ⟨g, 1, none⟩ (.slice none 0 0)).heap[g]? = some (.cells #[.bool false, .slice none 0 0] 24 (0, 0))) := hid (heap_setCell_same (y.setCell ⟨g, 0, none⟩ (.bool false)) g 1 _ _ _ hr8)
          have HB9 := hid ((HJY.out.1.setCell (p := ⟨g, 0, none⟩) (show w.heap.size ≤ g by have := HG.out; omega) (.bool false)).setCell (p := ⟨g, 1, none⟩) (show w.heap.size ≤ g by have := HG.out; omega) (.slice none 0 0))
          clear hr8
          go_wp2_with fail
          rw [ndL_bad HBAD.out, ndS_bad HBAD.out, ndE_bad HBAD.out]
          exact bodyPost_ret (v := .tuple #[.agg #[.bool false, .slice none 0 0], .int .i64 3]) (resND _ _ #[.bool false, .slice none 0 0] _ rfl HR9.out rfl) rfl (NdAns.bad HB9.out)
      · have hqb : ((q : Int) != n) = true := by rw [bne_iff_ne]; omega
        have HQE := hid hqe
        clear hqe
        have HBAD : Hid (¬ decG bs) := hid (fun h => by have h5 := h.2.2.2.1; rw [← HCT.out, ← HKE.out, ← HQ.out.1, ← HN.out] at h5; exact HQE.out h5)
        have hf0 : wr.frozen? ⟨g, 0, none⟩ = false := frozen_of_row _ _ _ _ _ HJ.out.1.2.1
        have hc0 : wr.cell? ⟨g, 0, none⟩ = some (.bool false) := by rw [cell_of_row _ _ _ _ _ _ HJ.out.1.2.1]; rfl
        have hr8 : (wr.setCell ⟨g, 0, none⟩ (.bool false)).heap[g]? = some (.cells #[.bool false, .slice none 0 0] 24 (0, 0)) := heap_setCell_same wr g 0 _ _ _ HJ.out.1.2.1
        have hf8 : (wr.setCell ⟨g, 0, none⟩ (.bool false)).frozen? ⟨g, 1, none⟩ = false := frozen_of_row _ _ _ _ _ hr8
        have hc8 : (wr.setCell ⟨g, 0, none⟩ (.bool false)).cell? ⟨g, 1, none⟩ = some (.slice none 0 0) := by rw [cell_of_row _ _ _ _ _ _ hr8]; rfl
        have HR9 : Hid (((wr.setCell ⟨g, 0, none⟩ (.bool false)).setCell ⟨g, 1, none⟩ (.slice none 0 0)).heap[g]? = some (.cells #[.bool false, .slice none 0 0] 24 (0, 0))) := hid (heap_setCell_same (wr.setCell ⟨g, 0, none⟩ (.bool false)) g 1 _ _ _ hr8)
        have HB9 := hid ((HJ.out.1.1.setCell (p := ⟨g, 0, none⟩) (show w.heap.size ≤ g by have := HG.out; omega) (.bool false)).setCell (p := ⟨g, 1, none⟩) (show w.heap.size ≤ g by have := HG.out; omega) (.slice none 0 0))
        clear hr8
        go_wp2_with fail
        rw [ndL_bad HBAD.out, ndS_bad HBAD.out, ndE_bad HBAD.out]
        exact bodyPost_ret (v := .tuple #[.agg #[.bool false, .slice none 0 0], .int .i64 3]) (resND _ _ #[.bool false, .slice none 0 0] _ rfl HR9.out rfl) rfl (NdAns.bad HB9.out)
theorem rDecode_any (ok : Nat → Prop) (a : Option Addr) (c : Nat) (bs : List Nat) (w : World) (hs : Sl ok w a bs) (hby : Bytes bs) (hm : (bs.length : Int) ≤ 1000) :
    Calls Try.prog 18 #[.slice a bs.length c] w (NdAns 54 w.heap.size w (ndL bs) (ndS bs) (ndE bs)) := by
  by_cases hl : bs.length < 2
  · exact rDec_short a c bs w hl
  · by_cases h1 : 1 < bs.getD 0 0
    · exact rDec_first ok a c bs w hs (by omega) h1
    · exact rDec_main ok a c bs w hs hby hm (by omega) (by omega)
end Go.Proofs.Ytokeihpmagcneaa
