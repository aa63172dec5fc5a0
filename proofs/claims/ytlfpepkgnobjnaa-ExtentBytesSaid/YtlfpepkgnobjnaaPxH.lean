/- CONTRACTS: Decode. -/
import Derived.RangeFuncFrom
import Derived.RangeFuncBox
import Derived.Maps.AppendAt
import Derived.Test.YtlfpepkgnobjnaaPxG
import Derived.Test.YtlfpepkgnobjnaaGrowIn
namespace Go.Proofs.Ytlfpepkgnobjnaa
open Go.RowKit Go.Inc Go.Shelf

attribute [local go_sem] Oper.semAt_some

theorem mvPutObj {F : Nat → Prop} {l : Nat} (W : World) (o : Obj) (h : F l) : Mv F W (W.putObj l o) := Mv.of_grown (grownBy_putObj' W l o) fun g e _ => by cases e; exact h
/-- What Decode answers. -/
def DecAns (bs : List Nat) (B : Nat) (e : Ending) (w' : World) : Prop :=
  ∃ v u, e = .returned (.tuple #[v, u, .int .i64 (decE bs)]) ∧ w'.ownsRow B 57 2 v (decX bs).length (xcells (decX bs)) ∧ Row 5 B w' u (decR bs)
theorem decAns_bad {bs : List Nat} {B : Nat} {w' : World} {E : Int} (h : decE bs = E) (h0 : E ≠ 0) : DecAns bs B (.returned (.tuple #[.slice none 0 0, .slice none 0 0, .int .i64 E])) w' := by
  have h1 : decE bs ≠ 0 := by rw [h]; exact h0
  refine ⟨_, _, by rw [h], ?_, ?_⟩
  · rw [decX_bad h1]; exact World.ownsRow_nil _ _ _ _
  · rw [show decR bs = [] from if_neg h1]; exact Row.nil _ _ _
set_option maxRecDepth 20000 in
set_option maxHeartbeats 1500000 in
theorem dec_list (ok : Nat → Prop) (a : Option Addr) (c : Nat) (bs : List Nat) (w : World) (hs : Sl ok w a bs) (hc : bs.length ≤ c ∧ c ≤ maxLen) (hn : a = none → c = 0) (hby : Bytes bs) (hl : bs.length ≤ 65536) (hE : listErr bs ≠ 0) :
    Calls Try.prog 22 #[.slice a bs.length c] w fun e w' => DecAns bs w.heap.size e w' ∧ Below w.heap.size w w' := by
  have HG := hid (getList_any ok a c bs w hs hc hn hby (by omega))
  have HD : Hid (decE bs = (listErr bs : Int)) := hid (decE_list hE)
  obtain ⟨E, hEE⟩ : ∃ E, E = listErr bs := ⟨_, rfl⟩
  rw [← hEE] at HG HD hE
  have hE0 : (((E : Nat) : Int) != 0) = true := by rw [bne_iff_ne]; omega
  have hE1 : (E = 0) = False := eq_false hE
  have HEN : Hid ((E : Int) ≠ 0) := hid (by omega)
  clear hs hc hn hby hEE hE
  go_enter Try.func22, Try.ntmps22
  go_wp2_with fail
  refine HG.out.mono ?_
  clear HG
  rintro e w1 ⟨⟨u, v, rfl, hu, hv⟩, hb⟩
  have HB := hid hb
  clear hu hv hb
  go_wp2_with fail
  go_ret3
  exact ⟨decAns_bad HD.out HEN.out, HB.out⟩
set_option maxRecDepth 20000 in
set_option maxHeartbeats 1500000 in
theorem dec_odd (ok : Nat → Prop) (a : Option Addr) (c : Nat) (bs : List Nat) (w : World) (hs : Sl ok w a bs) (hc : bs.length ≤ c ∧ c ≤ maxLen) (hn : a = none → c = 0) (hby : Bytes bs) (hl : bs.length ≤ 65536) (hE : listErr bs = 0) (h1 : (listVals bs).length % 2 = 1) :
    Calls Try.prog 22 #[.slice a bs.length c] w fun e w' => DecAns bs w.heap.size e w' ∧ Below w.heap.size w w' := by
  have HG := hid (getList_any ok a c bs w hs hc hn hby (by omega))
  have HD : Hid (decE bs = 3) := hid (decE_odd hE h1)
  rw [hE] at HG
  have hvl : (listVals bs).length ≤ bs.length := listVals_len
  obtain ⟨n, hnn⟩ : ∃ n, n = (listVals bs).length := ⟨_, rfl⟩
  have HN := hid hnn
  rw [← hnn] at h1 hvl
  have hm1 : (n : Int) % 2 = 1 := by omega
  have hm2 : (((n : Int) % 2) != 0) = true := by rw [hm1]; rfl
  have HL := hid hl
  clear hs hc hn hby hnn hE
  go_enter Try.func22, Try.ntmps22
  go_wp2_with fail
  refine HG.out.mono ?_
  clear HG
  rintro e w1 ⟨⟨u, v, rfl, hu, hv⟩, hb⟩
  have HB := hid hb
  obtain ⟨a2, c2, rfl⟩ := irow_sl hu
  rw [← HN.out]
  clear hu hv hb
  go_wp2_with fail
  go_ret3
  exact ⟨decAns_bad HD.out (by decide), HB.out⟩

/-- The numbers at a pair's place. -/
def pairAt (vs : List Nat) (i : Nat) : Xt := (((vs.getD (2 * i) 0 : Nat) : Int), ((vs.getD (2 * i + 1) 0 : Nat) : Int))
theorem pairs_take (vs : List Nat) (m : Nat) (h : vs.length = 2 * m) : ∀ k, k ≤ m → ((List.finRange m).take k).map (fun x : Fin m => pairAt vs x.1) = pairsX (vs.take (k * 2))
  | 0, _ => by simp [pairsX]
  | k + 1, hk => by
    have ih := pairs_take vs m h k (by omega)
    rw [pairsX_snoc vs k (by omega), ← ih, List.take_succ_eq_append_getElem (by simp; omega), List.map_append]
    congr 1
    simp [pairAt, Nat.mul_comm]
theorem pairs_all (vs : List Nat) (m : Nat) (h : vs.length = 2 * m) : (List.finRange m).map (fun x : Fin m => pairAt vs x.1) = pairsX vs := by
  have := pairs_take vs m h m (Nat.le_refl _)
  rw [List.take_of_length_le (by simp), List.take_of_length_le (by omega)] at this
  exact this
set_option maxRecDepth 100000 in
set_option maxHeartbeats 4000000 in
theorem dec_even (ok : Nat → Prop) (a : Option Addr) (c : Nat) (bs : List Nat) (w : World) (hs : Sl ok w a bs) (hc : bs.length ≤ c ∧ c ≤ maxLen) (hn : a = none → c = 0) (hby : Bytes bs) (hl : bs.length ≤ 65536) (hE : listErr bs = 0) (m : Nat) (h1 : (listVals bs).length = 2 * m) :
    Calls Try.prog 22 #[.slice a bs.length c] w fun e w' => DecAns bs w.heap.size e w' ∧ Below w.heap.size w w' := by
  obtain ⟨i0, hi, hz0, hz1, hz2⟩ := info_parts infoPX
  have HG := hid (getList_any ok a c bs w hs hc hn hby (by omega))
  have HD : Hid (decE bs = chkX (pairsX (listVals bs))) := hid (decE_chk hE (by omega))
  rw [hE] at HG
  have hvl : (listVals bs).length ≤ bs.length := listVals_len
  obtain ⟨n, hnn⟩ : ∃ n, n = (listVals bs).length := ⟨_, rfl⟩
  have HN := hid hnn
  rw [← hnn] at h1 hvl
  have hm1 : (n : Int) % 2 = 0 := by omega
  have hm2 : (((n : Int) % 2) != 0) = false := by rw [hm1]; rfl
  have HL := hid hl
  have H1 := hid h1
  clear hs hc hn hby hnn hE h1
  refine (callsIn_wide (n := 6)).1 ?_
  refine callsIn_of_wp_marks Try.func22 rfl trivial ?_ rfl
  simp only [Try.ntmps22, List.size_toArray, List.length_cons, List.length_nil, Nat.reduceAdd, Nat.reduceSub, Array.replicate_succ, Array.replicate_zero, List.push_toArray, List.append_toArray, List.nil_append, List.cons_append]
  refine wpIn_wide.2 ?_
  go_wp2_with fail
  refine HG.out.mono ?_
  clear HG
  rintro e w1 ⟨⟨u, v, rfl, hu, hv⟩, hb⟩
  have HB := hid hb
  have HU := hid hu
  have HV := hid hv
  obtain ⟨a2, c2, rfl⟩ := irow_sl hu
  rw [← HN.out]
  clear hu hv hb
  obtain ⟨g8, hg8⟩ : ∃ g8, g8 = w1.heap.size := ⟨_, rfl⟩
  have HG8 := hid hg8
  obtain ⟨w2, hw2⟩ : ∃ w2, w2 = w1.alloc (.cells #[.slice none 0 0] 23) := ⟨_, rfl⟩
  have HW2 := hid hw2
  obtain ⟨w3, hw3⟩ : ∃ w3, w3 = (w2.alloc (.cells #[.slice a2 n c2] 22)).alloc (.cells #[.int .i64 2] 3) := ⟨_, rfl⟩
  have HW3 := hid hw3
  have hs2 : w2.heap.size = g8 + 1 := by rw [hw2, hg8]; simp
  have HCH : Hid (Calls Try.prog 31 #[.slice a2 n c2, .int .i64 2] w2 fun e w' => e = .returned (.func (.func 44) #[] #[.pointer (some ⟨g8 + 1, 0, none⟩), .pointer (some ⟨g8 + 2, 0, none⟩)]) ∧ w' = w3) := hid (by
    have h := chunk_any a2 n c2 w2
    rw [hs2, ← hw3] at h
    exact h)
  have HS3 : Hid (w3.heap.size = g8 + 3) := hid (by rw [hw3]; simp [hs2])
  have HB12 : Hid (Below w1.heap.size w1 w3) := hid (by
    rw [hw3, hw2]
    exact (((Below.refl _ w1).alloc (Nat.le_refl _) _).alloc (by simp) _).alloc (by simp; omega) _)
  have HB8 : Hid (Boxed w3 g8 23 (.slice none 0 0)) := hid (by
    have h2 : Boxed w2 g8 23 (.slice none 0 0) := by rw [hw2, hg8]; exact Boxed.new w1 23 (.slice none 0 0)
    rw [hw3]; exact (h2.alloc _).alloc _)
  have HBS : Hid (w3.cell? ⟨g8 + 1, 0, none⟩ = some (.slice a2 n c2)) := hid (by
    have h2 : (w2.alloc (.cells #[.slice a2 n c2] 22)).cell? ⟨g8 + 1, 0, none⟩ = some (.slice a2 n c2) := by
      rw [← hs2, cell_of_row _ _ _ _ _ _ (heap_alloc_new w2 _)]; rfl
    rw [hw3]; exact ((allocBelow _ _).cell (cell_lt h2)).trans h2)
  have HBN : Hid (w3.cell? ⟨g8 + 2, 0, none⟩ = some (.int .i64 2)) := hid (by
    have e : g8 + 2 = (w2.alloc (.cells #[.slice a2 n c2] 22)).heap.size := by simp [hs2]
    rw [hw3, e, cell_of_row _ _ _ _ _ _ (heap_alloc_new _ _)]; rfl)
  clear hg8 hw2 hw3 hs2
  go_wp2_with fail
  rw [← HW2.out, ← HG8.out]
  refine HCH.out.mono ?_
  clear HCH
  rintro e w3 ⟨rfl, rfl⟩
  obtain ⟨b0, o0, hn2, hc2, hcl⟩ : ∃ b0 o0 : Nat, (0 < n → a2 = some ⟨b0, o0, none⟩ ∧ b0 < g8) ∧ (n ≤ c2 ∧ c2 ≤ maxLen) ∧ ∀ i, i < n → w1.cell? ⟨b0, o0 + i, none⟩ = some (.int .i64 ((((listVals bs).getD i 0 : Nat)) : Int)) := by
    have h := HU.out
    have hnn := HN.out
    rcases h.2 with ⟨h0, h00⟩ | ⟨g, cap, cur, h0, hb, hg, hnc, hm, hcs, ht⟩
    · have e2 : a2 = none ∧ (listVals bs).length = 0 ∧ c2 = 0 := by simpa using h0
      exact ⟨0, 0, fun h => by omega, ⟨by omega, by unfold maxLen; omega⟩, fun i hi => by omega⟩
    · cases h0
      refine ⟨g, 0, fun _ => ⟨rfl, by rw [HG8.out]; exact row_lt hg⟩, ⟨by omega, hm⟩, fun i hi => ?_⟩
      have h3 := h.cells (g := g) rfl i (.int .i64 ((((listVals bs).getD i 0 : Nat)) : Int)) (by
        have hil : i < (listVals bs).length := by omega
        unfold i64s
        rw [List.getD_eq_getElem?_getD, List.getElem?_map, List.getElem?_eq_getElem hil]
        rfl)
      rw [Addr.add_lit] at h3
      exact h3
  have HCU : Hid (ChU (fun b => b ≠ g8 ∧ b < w3.heap.size) w3 (g8 + 1) (g8 + 2) a2 b0 o0 c2 (listVals bs)) := hid (by
    have hnn := HN.out
    have h8 := HG8.out
    have h3 := HS3.out
    refine ⟨by rw [← hnn]; exact HBS.out, HBN.out, fun h => ⟨(hn2 (by omega)).1, ?_, ?_⟩, by rw [← hnn]; exact hc2, fun i hi => ?_, ⟨by omega, by omega⟩, ⟨by omega, by omega⟩⟩
    · have := (hn2 (by omega)).2; omega
    · have := (hn2 (by omega)).2; omega
    · have h4 := hcl i (by omega)
      exact (HB12.out.cell (cell_lt h4)).trans h4)
  have HCL : Hid (∀ i, i < n → w3.cell? ⟨b0, o0 + i, none⟩ = some (.int .i64 ((((listVals bs).getD i 0 : Nat)) : Int)) ∧ b0 < g8) := hid fun i hi => by
    have h4 := hcl i hi
    exact ⟨(HB12.out.cell (cell_lt h4)).trans h4, (hn2 (by omega)).2⟩
  clear hn2 hc2 hcl
  go_wp2_with fail
  refine (wpIn_wide (n := 6)).1 ?_
  have hnu : ¬ (g8 ≠ g8 ∧ g8 < w3.heap.size) := fun h => h.1 rfl
  have h83 : g8 ≤ w3.heap.size := by have := HS3.out; omega
  refine wpIn_rangeFunc_ownG (n := 6) rfl (by omega) (gf := 44) (lb := #[.pointer (some ⟨g8 + 1, 0, none⟩), .pointer (some ⟨g8 + 2, 0, none⟩)]) rfl trivial (enters_of Try.func44 (by kernel_rfl) rfl)
    (chunk_stops 5 (by omega) (g8 + 1) (g8 + 2) b0 o0 c2 a2 _ (listVals bs) m (by rw [← HN.out, H1.out]) w3 HCU.out) Mv.trans (fun W l o o' hl _ _ _ => mvPutObj W o' (fun hh => by have := hh.2; omega)) (Below.refl _ _) (fun _ => rfl)
    (fun pre W => (∃ v, Boxed W g8 23 v ∧ W.ownsRow w3.heap.size 57 2 v pre.length (xcells (pre.map fun x : Fin m => pairAt (listVals bs) x.1)) ∧ True) ∧ Below g8 w3 W)
    (fun _ _ _ => False)
    (OwnFrom.and (Own.from (holdsRow_own w3.heap.size g8 23 57 2 (fun pre : List (Fin m) => pre.length) (fun pre => xcells (pre.map fun x : Fin m => pairAt (listVals bs) x.1)) (fun _ _ => True)) _) (ownFrom_below h83 h83))
    (fun _ _ _ _ _ hs _ _ => hs)
    ⟨⟨_, HB8.out, World.ownsRow_nil _ _ _ _, trivial⟩, Below.refl _ _⟩
    (fun x => { tmps := #[.slice a bs.length c, undef, .slice none 0 0, .slice none 0 0, .int .i64 0, .slice a2 n c2, v, .int .i64 0, .pointer (some ⟨g8, 0, none⟩), .slice (some ⟨b0, o0 + 2 * x.1, none⟩) 2 2, undef, .tuple #[.slice a2 n c2, v, .int .i64 0], .slice a bs.length c, .tuple #[.slice a2 n c2, v, .int .i64 0], .slice a2 n c2, v, .int .i64 0, .int .i64 0, .bool false, undef, .slice a2 n c2, .int .i64 n, .int .i64 0, .bool false, .slice a2 n c2, .func (.func 44) #[] #[.pointer (some ⟨g8 + 1, 0, none⟩), .pointer (some ⟨g8 + 2, 0, none⟩)], .slice (some ⟨b0, o0 + 2 * x.1, none⟩) 2 2, undef, undef, undef, undef, undef, undef, undef, undef, undef, undef, undef, undef, undef, undef, undef, undef, undef], defers := [] }) ?assign ?body ?done ?stop
  case assign =>
    intro l x W K hK
    gi_wp2
    simpa using hK
  case body =>
    rintro l pre x W ⟨⟨v8, hv, hrow, -⟩, hB⟩ hlt
    have hx1 := HCL.out (2 * x.1) (by have := H1.out; have := x.2; omega)
    have hx2 := HCL.out (2 * x.1 + 1) (by have := H1.out; have := x.2; omega)
    have hcF := (hB.cell (p := ⟨b0, o0 + 2 * x.1, none⟩) hx1.2).trans hx1.1
    have hcG : W.cell? ⟨b0, o0 + 2 * x.1 + 1, none⟩ = _ := (hB.cell (p := ⟨b0, o0 + (2 * x.1 + 1), none⟩) hx2.2).trans hx2.1
    obtain ⟨ys, hys⟩ : ∃ ys : List Xt, ys = pre.map fun x : Fin m => pairAt (listVals bs) x.1 := ⟨_, rfl⟩
    have HYS : Hid (ys ++ [pairAt (listVals bs) x.1] = (pre ++ [x]).map fun x : Fin m => pairAt (listVals bs) x.1) := hid (by rw [hys, List.map_append]; rfl)
    have hyl : ys.length = pre.length := by rw [hys, List.length_map]
    rw [← hys] at hrow
    have hpa : pairAt (listVals bs) x.1 = ((((listVals bs).getD (2 * x.1) 0 : Nat) : Int), (((listVals bs).getD (2 * x.1 + 1) 0 : Nat) : Int)) := rfl
    rw [hpa] at HYS
    obtain ⟨q, hq⟩ : ∃ q, q = o0 + 2 * x.1 := ⟨_, rfl⟩
    rw [← hq] at hcF hcG ⊢
    obtain ⟨F, hF⟩ : ∃ F : Int, F = (((listVals bs).getD (2 * x.1) 0 : Nat) : Int) := ⟨_, rfl⟩
    obtain ⟨G, hG⟩ : ∃ G : Int, G = (((listVals bs).getD (2 * x.1 + 1) 0 : Nat) : Int) := ⟨_, rfl⟩
    rw [← hF] at hcF HYS
    rw [← hG] at hcG HYS
    obtain ⟨k, hk⟩ : ∃ k, k = pre.length := ⟨_, rfl⟩
    have HK := hid hk
    have hkb : (k : Int) ≤ 100000 := by have := HL.out; have := H1.out; omega
    rw [← hk] at hrow hyl
    obtain ⟨a8, c8, hv8, -, -, -, -, -⟩ := ownedX hrow
    rw [hyl] at hv8
    subst hv8
    have hc := hv.cell
    have HC : Hid (∀ x', Grew W.drew x' → x'.cell? ⟨g8, 0, none⟩ = some (.slice a8 k c8) ∧ x'.cell? ⟨b0, q, none⟩ = some (.int .i64 F) ∧ x'.cell? ⟨b0, q + 1, none⟩ = some (.int .i64 G)) := hid fun x' hx' => by
      have hb : Below W.heap.size W x' := ⟨hx'.os, hx'.tape, hx'.output, hx'.size, hx'.block⟩
      exact ⟨(hb.cell (cell_lt hc)).trans hc, (hb.cell (cell_lt hcF)).trans hcF, (hb.cell (cell_lt hcG)).trans hcG⟩
    have HROW := hid hrow
    have HBX := hid hv
    have HBW := hid hB
    have HKX := hid (And.intro hi (And.intro hz0 (And.intro hz1 hz2)))
    clear hx1 hx2 hcF hcG hys hpa hq hF hG hk hlt hc hrow hv hB hyl hi hz0 hz1 hz2
    gi_wp2
    refine wpIn_region_grows 9 [EqX (.slice a8 k c8), EqX (.slice (some ⟨b0, q, none⟩) 2 2), EqX (.pointer (some ⟨b0, q, none⟩)), EqX (.int .i64 F), EqX (.slice (some ⟨b0, q, none⟩) 2 2), EqX (.pointer (some ⟨b0, q + 1, none⟩)), EqX (.int .i64 G), EqX (.agg #[.int .i64 F, .int .i64 G]), RowX F G 57] (by kernel_rfl) (by decide) (by kernel_rfl) (fun _ => trivial) (by kernel_rfl) ?_ ?_ ?_
    · repeat' (first | exact List.forall_mem_nil _ | refine List.forall_mem_cons.2 ⟨?_, ?_⟩)
      all_goals
        intro w w' v hw h
        first | exact h | exact RowX.kept h hw
    · simp only [AllLt]
      refine ⟨⟨⟨⟨⟨⟨⟨⟨⟨trivial, ?_⟩, ?_⟩, ?_⟩, ?_⟩, ?_⟩, ?_⟩, ?_⟩, ?_⟩, ?_⟩
      all_goals
        intro o' ho
        simp at ho
        subst ho
        intro ρ w5 hR hL hS hG
        obtain ⟨hl1, hl2, -⟩ := hL
      · refine plainG rfl ?_
        intro bA K Q' hK
        have e8 := hS 8 (by kernel_rfl)
        change ρ (.tmp 8) = _ at e8
        obtain ⟨y0, y1, y2⟩ := HC.out w5 hR
        simp only [execOp]
        go_simp
        exact hK _ _ rfl (Grew.refl _)
      · refine plainG rfl ?_
        intro bA K Q' hK
        have e9 := hS 9 (by kernel_rfl)
        change ρ (.tmp 9) = _ at e9
        simp only [execOp]
        go_simp
        exact hK _ _ rfl (Grew.refl _)
      · refine plainG rfl ?_
        intro bA K Q' hK
        have e28 := hG 1 28 (by decide) (by kernel_rfl) (by kernel_rfl)
        change ρ (.tmp 28) = _ at e28
        simp only [execOp]
        go_simp
        exact hK _ _ rfl (Grew.refl _)
      · refine plainG rfl ?_
        intro bA K Q' hK
        have e29 := hG 2 29 (by decide) (by kernel_rfl) (by kernel_rfl)
        change ρ (.tmp 29) = _ at e29
        obtain ⟨y0, y1, y2⟩ := HC.out w5 hR
        simp only [execOp]
        go_simp
        exact hK _ _ rfl (Grew.refl _)
      · refine plainG rfl ?_
        intro bA K Q' hK
        have e9 := hS 9 (by kernel_rfl)
        change ρ (.tmp 9) = _ at e9
        simp only [execOp]
        go_simp
        exact hK _ _ rfl (Grew.refl _)
      · refine plainG rfl ?_
        intro bA K Q' hK
        have e31 := hG 4 31 (by decide) (by kernel_rfl) (by kernel_rfl)
        change ρ (.tmp 31) = _ at e31
        simp only [execOp]
        go_simp
        exact hK _ _ rfl (Grew.refl _)
      · refine plainG rfl ?_
        intro bA K Q' hK
        have e32 := hG 5 32 (by decide) (by kernel_rfl) (by kernel_rfl)
        change ρ (.tmp 32) = _ at e32
        obtain ⟨y0, y1, y2⟩ := HC.out w5 hR
        simp only [execOp]
        go_simp
        exact hK _ _ rfl (Grew.refl _)
      · refine plainG rfl ?_
        intro bA K Q' hK
        have e30 := hG 3 30 (by decide) (by kernel_rfl) (by kernel_rfl)
        have e33 := hG 6 33 (by decide) (by kernel_rfl) (by kernel_rfl)
        change ρ (.tmp 30) = _ at e30
        change ρ (.tmp 33) = _ at e33
        simp only [execOp]
        go_simp
        exact hK _ _ rfl (Grew.refl _)
      · refine plainG rfl ?_
        intro bA K Q' hK
        have e34 := hG 7 34 (by decide) (by kernel_rfl) (by kernel_rfl)
        change ρ (.tmp 34) = _ at e34
        simp only [execOp]
        go_simp
        exact hK _ _ ⟨_, rfl, heap_alloc_new w5 _⟩ ((Grew.refl _).alloc _)
    · intro vv w5 hR hG
      have h0 : vv 0 = .slice a8 k c8 := hG.1.1.1.1.1.1.1.1.2
      obtain ⟨bx, h8, hrowx⟩ : RowX F G 57 w5 (vv 8) := hG.2
      have hb : Below W.heap.size W w5 := ⟨hR.os, hR.tape, hR.output, hR.size, hR.block⟩
      have HB5 := hid hb
      have HV5 : Hid (w5.ownsRow w3.heap.size 57 2 (.slice a8 k c8) k (xcells ys)) := hid (owns_mv (F := fun _ => False) HROW.out (Mv.of_below hb) fun _ _ => id)
      have HX5 : Hid (Boxed w5 g8 23 (.slice a8 k c8)) := hid (row_below HBX.out hb)
      have HRX := hid hrowx
      have HSZ : Hid (w3.heap.size ≤ w5.heap.size) := hid (Nat.le_trans HBW.out.size hb.size)
      clear hG hR hb hrowx HC
      simp [stG, stU, dstAt, Act.put, h0, h8]
      clear h0 h8
      gi_wp2_with (gi_at_builtin; refine wpListIn_append_own _ rfl (.tmp 27) (.tmp 35) 23 rfl w3.heap.size 57 i0 (.agg #[.int .i64 0, .int .i64 0]) 2 16 Try.underlying23 HKX.out.1 HKX.out.2.1 HKX.out.2.2.1 HKX.out.2.2.2 rfl (by decide) _ k (xcells ys) rfl HV5.out ⟨bx, 0, none⟩ 1 1 [.int .i64 F, .int .i64 G] rfl rfl (rowX_cells HRX.out) (by simp [Value.oneCell']) (by unfold maxLen; omega) (by omega) HSZ.out ?_; intro v' w6 hown' hgrow _; obtain ⟨g', cap', rfl⟩ := ownsRow_succ hown'; have hx6 := rowApart (by decide) HV5.out hgrow HX5.out; have hc6 := Boxed.cell hx6; have hf6 := Boxed.frozen hx6)
      have hgrow' : w5.grownBy w6 (Value.slice a8 k c8).ownBlock := hgrow
      have hbase : ∀ r, (Value.slice a8 k c8).ownBlock = some r → w3.heap.size ≤ r := fun r e => ownBase HV5.out e
      have hcells : ∀ (j : Nat) (ob : Obj), (Value.slice a8 k c8).ownBlock = some j → w5.heap[j]? = some ob → ob.isCells = true := fun j ob ej hj => by
        rcases HV5.out.2 with ⟨e, _⟩ | ⟨g, cap, cur, e, _, hg, _⟩
        · cases e; simp [Value.ownBlock] at ej
        · rw [e] at ej
          obtain rfl : g = j := by simpa [Value.ownBlock] using ej
          rw [hg] at hj
          cases hj
          rfl
      have hK1 : KeepsOthers W w5 := ⟨HB5.out.size, fun k' ob hk' _ => row_below hk' HB5.out⟩
      have hK : KeepsOthers W (w6.setCell ⟨g8, 0, none⟩ (.slice (some ⟨g', 0, none⟩) (k + 1) cap')) := (hK1.trans (KeepsOthers.of_grownBy hgrow' hcells)).trans (KeepsOthers.setCell _ _ _)
      have hM : Mv (fun b => b = g8 ∨ w3.heap.size ≤ b) W (w6.setCell ⟨g8, 0, none⟩ (.slice (some ⟨g', 0, none⟩) (k + 1) cap')) :=
        mvSet ((Mv.of_below HB5.out).trans (Mv.of_grown hgrow' fun g e _ => .inr (hbase g e))) (.inl rfl) _
      have hS3 := HS3.out
      have hWs := HBW.out.size
      have hg' : w3.heap.size ≤ g' := ownBase hown' rfl
      refine ⟨hK.from _, hM.sub fun b _ hb hu => ?_, ⟨_, (show Boxed w6 g8 23 (.slice a8 k c8) from hx6).set _, ?_, trivial⟩, HBW.out.trans (hM.below (by omega) fun b hb => by omega)⟩
      · rcases hb with rfl | hb
        · exact hu.1 rfl
        · omega
      · have hr := owns_mv (F := fun b => b = g8) hown' (mvSet (F := fun b => b = g8) (g := g8) (q := 0) (Mv.refl _ _) rfl (.slice (some ⟨g', 0, none⟩) (k + 1) cap')) (fun i hi e => by
          have e2 : g' = i := by simpa [Value.ownBlock] using hi
          omega)
        rw [List.length_append, ← HK.out, ← HYS.out, xcells_app]
        exact hr
  case done =>
    rintro D ys W hD rfl ⟨⟨v9, hv, hrow, -⟩, hB⟩ hK
    rw [pairs_all (listVals bs) m (by rw [← HN.out, H1.out]), List.length_finRange] at hrow
    have hlen : (pairsX (listVals bs)).length = m := by
      have := pairsX_len (listVals bs) (by rw [← HN.out, H1.out]; omega)
      have := HN.out
      have := H1.out
      omega
    obtain ⟨a9, c9, rfl, -, hxs, -, -, -⟩ := ownedX hrow
    rw [hlen] at hrow hv
    have HCK := hid (pxCheck _ a9 c9 (pairsX (listVals bs)) W hxs (by have := H1.out; have := HL.out; omega) pairs_fits)
    rw [hlen, ← HD.out] at HCK
    have hcb : 0 ≤ decE bs ∧ decE bs ≤ 10 := by rw [HD.out]; exact chkX_bnd _
    have hc := hv.cell
    have HBX := hid hv
    have HROW := hid hrow
    have HBW := hid hB
    have HDK := hid hK
    have HDL := hid hD
    have HLEN := hid hlen
    obtain ⟨E, hE⟩ : ∃ E, E = decE bs := ⟨_, rfl⟩
    have HE := hid hE
    rw [← hE] at HCK hcb
    clear hv hrow hB hK hD hlen hxs hE hi hz0 hz1 hz2 hnu
    go_wp2_with fail
    refine HCK.out.mono ?_
    clear HCK
    rintro e w5 ⟨rfl, hb5⟩
    have HB5 := hid hb5
    have HRW : Hid (w5.heap[D]? = some (.deferred (some []))) := hid (row_below HDK.out hb5)
    have HX5 : Hid (Boxed w5 g8 23 (.slice a9 m c9)) := hid (row_below HBX.out hb5)
    have HR5 : Hid (w5.ownsRow w3.heap.size 57 2 (.slice a9 m c9) m (xcells (pairsX (listVals bs)))) := hid (owns_mv (F := fun _ => False) HROW.out (Mv.of_below hb5) fun _ _ => id)
    have HB85 : Hid (Below g8 w3 w5) := hid (HBW.out.trans (hb5.mono (by have := HBW.out.size; have := HS3.out; omega)))
    have HPUT : Hid (∀ B, B ≤ w3.heap.size → Below B w5 (w5.putObj D (.deferred none))) := hid fun B hB' => belowK_b (w := w3) hB' w5 D _ _ HDL.out HRW.out rfl rfl
    have HB15 : Hid (Below w1.heap.size w1 w5) := hid (by
      have h8 := HG8.out
      rw [← h8]
      rw [← h8] at HB12
      exact HB12.out.trans HB85.out)
    clear hb5 hc
    by_cases h0 : E = 0
    · have hE0 : (E != 0) = false := by rw [h0]; rfl
      have HD0 : Hid (decE bs = 0) := hid (by rw [← HE.out, h0])
      have hc5 := HX5.out.cell
      subst h0
      go_wp2_with fail
      refine ⟨by simp, .inl ⟨_, _, rfl, run_takeDeferred HRW.out, ?_⟩⟩
      refine ⟨_, results_tmp3 rfl _ _ _, ⟨_, _, by rw [HD0.out]; rfl, ?_, ?_⟩, ?_⟩
      · rw [decX_good HD0.out, HLEN.out]
        exact ownsWeaken (ownsRow_putObj HR5.out (.deferred none) HRW.out rfl) (Nat.le_trans HB.out.size HB12.out.size)
      · rw [decR_good HD0.out]
        exact ownsRow_putObj (HV.out.kept HB15.out) (.deferred none) HRW.out rfl
      · exact (HB.out.trans (HB15.out.mono HB.out.size)).trans (HPUT.out _ (Nat.le_trans HB.out.size HB12.out.size))
    · have hE0 : (E != 0) = true := by rw [bne_iff_ne]; exact h0
      have HD0 : Hid (decE bs = E) := hid HE.out.symm
      have H0 := hid h0
      clear h0
      go_wp2_with fail
      refine ⟨by simp, .inl ⟨_, _, rfl, run_takeDeferred HRW.out, ?_⟩⟩
      exact ⟨_, results_tmp3 rfl _ _ _, decAns_bad HD0.out H0.out, (HB.out.trans (HB15.out.mono HB.out.size)).trans (HPUT.out _ (Nat.le_trans HB.out.size HB12.out.size))⟩
  case stop =>
    rintro D c pre W _ _ h _
    exact h.elim
theorem pxDecode (ok : Nat → Prop) (a : Option Addr) (c : Nat) (bs : List Nat) (w : World) (hs : Sl ok w a bs) (hc : bs.length ≤ c ∧ c ≤ maxLen) (hn : a = none → c = 0) (hby : Bytes bs) (hl : bs.length ≤ 65536) :
    Calls Try.prog 22 #[.slice a bs.length c] w fun e w' => (∃ v u, e = .returned (.tuple #[v, u, .int .i64 (decE bs)]) ∧ w'.ownsRow w.heap.size 57 2 v (decX bs).length (xcells (decX bs)) ∧ Row 5 w.heap.size w' u (decR bs)) ∧ Below w.heap.size w w' := by
  by_cases hE : listErr bs = 0
  · by_cases h1 : (listVals bs).length % 2 = 1
    · exact dec_odd ok a c bs w hs hc hn hby hl hE h1
    · exact dec_even ok a c bs w hs hc hn hby hl hE ((listVals bs).length / 2) (by omega)
  · exact dec_list ok a c bs w hs hc hn hby hl hE
end Go.Proofs.Ytlfpepkgnobjnaa
