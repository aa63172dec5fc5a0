/- CONTRACTS: the document's Same (of lists that are the same), Encode. -/
import Derived.Test.YtlfpepkgnobjnaaExD
import Derived.Test.YtlfpepkgnobjnaaVarF
namespace Go.Proofs.Ytlfpepkgnobjnaa
open Go.RowKit Go.Inc

set_option maxRecDepth 20000 in
set_option maxHeartbeats 2000000 in
theorem rSame_eq {ok ok' : Nat → Prop} {a b : Option Addr} (n c d : Nat) (xs : List Xt) {w : World} (ha : XtS ok w a xs) (hb : XtS ok' w b xs) (hn : n = xs.length) (hm : (n : Int) ≤ 9223372036854775807) :
    Calls Try.prog 8 #[.slice a n c, .slice b n d] w fun e w' => e = .returned (.bool true) ∧ Below w.heap.size w w' := by
  have HA := hid ha
  have HB := hid hb
  have HN := hid hn
  have hnn : ((n : Int) != n) = false := by simp
  clear ha hb hn
  go_enter Try.func8, Try.ntmps8
  go_wp2_with fail
  go_loopw [5] (fun i wr => ∃ k : Nat, k ≤ n ∧ i = .int .i64 (k : Int) ∧ Below w.heap.size w wr) (fun i _ => n - (intOf i).toNat)
  case atStart => exact ⟨0, Nat.zero_le _, rfl, Below.refl _ _⟩
  case round =>
    obtain ⟨k, hk, rfl, hb⟩ := hrel
    have HBL := hid hb
    clear hb
    by_cases hlt : (k : Int) < n
    · have hkn : (k < n) = True := eq_true (by omega)
      obtain ⟨b1, o1, rfl, hc1, hc2⟩ := (HA.out.below HBL.out).cell (i := k) (by have := HN.out; omega)
      obtain ⟨b2, o2, rfl, hd1, hd2⟩ := (HB.out.below HBL.out).cell (i := k) (by have := HN.out; omega)
      obtain ⟨⟨F, G⟩, hx⟩ : ∃ x, x = xs.getD k (0, 0) := ⟨_, rfl⟩
      rw [← hx] at hc1 hc2 hd1 hd2
      simp only at hc1 hc2 hd1 hd2
      have hFF : ((F : Int) != F) = false := by simp
      have hGG : ((G : Int) != G) = false := by simp
      have hFF2 : ((F : Int) == F) = true := by simp
      have hGG2 : ((G : Int) == G) = true := by simp
      clear hx
      go_wp2_with fail
      go_quiet (fail)
      go_wp2_with fail
      go_roundw
      case rel => exact ⟨k + 1, by omega, by go_num, HBL.out.trans ((belowDrew _ _).mono HBL.out.size)⟩
      case measure => simp [intOf]; omega
    · have hkf : (k < n) = False := eq_false (by omega)
      clear hlt
      go_wp2_with fail
      go_ret
      exact ⟨rfl, HBL.out⟩
def flatX (xs : List Xt) : List Int := xs.flatMap fun x => [x.1, x.2]
theorem flatX_snoc (xs : List Xt) (x : Xt) : flatX (xs ++ [x]) = flatX xs ++ [x.1, x.2] := by simp [flatX]
theorem flatX_len : ∀ xs : List Xt, (flatX xs).length = xs.length * 2
  | [] => rfl
  | x :: r => by
    rw [show flatX (x :: r) = [x.1, x.2] ++ flatX r from rfl, List.length_append, flatX_len r, List.length_cons]
    simp; omega
theorem flatX_mem {xs : List Xt} {z : Int} (h : z ∈ flatX xs) : ∃ x ∈ xs, z = x.1 ∨ z = x.2 := by
  unfold flatX at h
  rw [List.mem_flatMap] at h
  obtain ⟨x, hx, hz⟩ := h
  exact ⟨x, hx, by simpa using hz⟩
def RowI2 (F G : Int) (x : World) (v : Value) : Prop := ∃ b, v = .slice (some ⟨b, 0, none⟩) 2 2 ∧ x.heap[b]? = some (.cells #[.int .i64 F, .int .i64 G] 3 (0, 0))
theorem RowI2.kept {F G : Int} {x y : World} {v : Value} (h : RowI2 F G x v) (hg : Grew x y) : RowI2 F G y v := by
  obtain ⟨b, h1, h3⟩ := h
  exact ⟨b, h1, row_below h3 hg⟩
theorem rowI2_cells {F G : Int} {x : World} {b : Nat} (h : x.heap[b]? = some (.cells #[.int .i64 F, .int .i64 G] 3 (0, 0))) : ∀ ad, some (⟨b, 0, none⟩ : Addr) = some ad → ∀ j u, (zvals [F, G])[j]? = some u → x.cell? (ad.add j) = some u := by
  intro ad had j u hu
  cases had
  rw [Addr.add_lit, cell_of_row _ _ _ _ _ _ h]
  match j, hu with
  | 0, hu => simpa [zvals] using hu
  | 1, hu => simpa [zvals] using hu
  | j + 2, hu => simp [zvals] at hu
set_option maxRecDepth 20000 in
set_option maxHeartbeats 4000000 in
theorem rEncode_any (ok : Nat → Prop) (a : Option Addr) (c : Nat) (xs : List Xt) (w : World) (hs : XtS ok w a xs) (hok : ∀ x ∈ xs, okX x = true) (hl : (xs.length : Int) ≤ 65536) :
    Calls Try.prog 24 #[.slice a xs.length c] w fun e w' => ∃ v, e = .returned v ∧ Row 5 w.heap.size w' v (Var.put (flatX xs).length ++ puts (flatX xs)) ∧ Below w.heap.size w w' := by
  have HS := hid hs.old
  have HOK := hid hok
  obtain ⟨n, hn⟩ : ∃ n, n = xs.length := ⟨_, rfl⟩
  have HN := hid hn
  rw [← hn] at hl ⊢
  clear hs hok hn
  go_enter Try.func24, Try.ntmps24
  go_wp2_with fail
  go_loopw [3, 4] (fun v i wr => ∃ k : Nat, k ≤ n ∧ i = .int .i64 (k : Int) ∧ wr.ownsRow w.heap.size 3 1 v (k * 2) (zvals (flatX (xs.take k))) ∧ Below w.heap.size w wr) (fun _ i _ => n - (intOf i).toNat)
  case atStart => exact ⟨0, Nat.zero_le _, rfl, World.ownsRow_nil _ _ _ _, Below.refl _ _⟩
  case round =>
    obtain ⟨k, hk, rfl, hv, hb⟩ := hrel
    have HV := hid hv
    have HB := hid hb
    clear hv hb
    by_cases hlt : (k : Int) < n
    · have hkn : (k < n) = True := eq_true (by omega)
      obtain ⟨b, o, rfl, hc1, hc2⟩ := (HS.out.below HB.out).cell (i := k) (by have := HN.out; omega)
      have HSN := hid (takeSnoc (bs := xs) (d := ((0 : Int), (0 : Int))) (k := k) (by have := HN.out; omega))
      obtain ⟨⟨F, G⟩, hx⟩ : ∃ x, x = xs.getD k (0, 0) := ⟨_, rfl⟩
      rw [← hx] at hc1 hc2 HSN
      simp only at hc1 hc2
      have HC : Hid (∀ x, Grew wr.drew x → x.cell? ⟨b, o + k * 2, none⟩ = some (.int .i64 F) ∧ x.cell? ⟨b, o + k * 2 + 1, none⟩ = some (.int .i64 G)) := hid fun x hx => by
        have hb : Below wr.heap.size wr x := ⟨hx.os, hx.tape, hx.output, hx.size, hx.block⟩
        exact ⟨(hb.cell (cell_lt hc1)).trans hc1, (hb.cell (cell_lt hc2)).trans hc2⟩
      clear hx hc1 hc2
      go_wp2_with fail
      refine wp_region_grows 12 [EqX (u3), EqX (.slice (some ⟨b, o, none⟩) n c), EqX (.int .i64 (k : Int)), EqX (.pointer (some ⟨b, o + k * 2, none⟩)), EqX (.pointer (some ⟨b, o + k * 2, none⟩)), EqX (.int .i64 F), EqX (.slice (some ⟨b, o, none⟩) n c), EqX (.int .i64 (k : Int)), EqX (.pointer (some ⟨b, o + k * 2, none⟩)), EqX (.pointer (some ⟨b, o + k * 2 + 1, none⟩)), EqX (.int .i64 G), RowI2 F G] (by kernel_rfl) (by decide) (by kernel_rfl) ?_ ?_ ?_
      · repeat' (first | exact List.forall_mem_nil _ | refine List.forall_mem_cons.2 ⟨?_, ?_⟩)
        all_goals
          intro w w' v hw h
          first | exact h | exact RowI2.kept h hw
      · simp only [AllLt]
        refine ⟨⟨⟨⟨⟨⟨⟨⟨⟨⟨⟨⟨trivial, ?_⟩, ?_⟩, ?_⟩, ?_⟩, ?_⟩, ?_⟩, ?_⟩, ?_⟩, ?_⟩, ?_⟩, ?_⟩, ?_⟩
        all_goals
          intro o' ho
          simp at ho
          subst ho
          intro ρ w5 hR hL hS hG
          obtain ⟨hl1, hl2, -⟩ := hL
        · refine plainG rfl ?_
          intro bA K Q' hK
          have e3 := hS 3 (by kernel_rfl)
          change ρ (.tmp 3) = _ at e3
          simp only [execOp]
          go_simp
          exact hK _ _ rfl (Grew.refl _)
        · refine plainG rfl ?_
          intro bA K Q' hK
          have e0 := hS 0 (by kernel_rfl)
          change ρ (.tmp 0) = _ at e0
          simp only [execOp]
          go_simp
          exact hK _ _ rfl (Grew.refl _)
        · refine plainG rfl ?_
          intro bA K Q' hK
          have e4 := hS 4 (by kernel_rfl)
          change ρ (.tmp 4) = _ at e4
          simp only [execOp]
          go_simp
          exact hK _ _ rfl (Grew.refl _)
        · refine plainG rfl ?_
          intro bA K Q' hK
          have e12 := hG 1 12 (by decide) (by kernel_rfl) (by kernel_rfl)
          have e13 := hG 2 13 (by decide) (by kernel_rfl) (by kernel_rfl)
          change ρ (.tmp 12) = _ at e12
          change ρ (.tmp 13) = _ at e13
          simp only [execOp]
          go_simp
          exact hK _ _ rfl (Grew.refl _)
        · refine plainG rfl ?_
          intro bA K Q' hK
          have e14 := hG 3 14 (by decide) (by kernel_rfl) (by kernel_rfl)
          change ρ (.tmp 14) = _ at e14
          simp only [execOp]
          go_simp
          exact hK _ _ rfl (Grew.refl _)
        · refine plainG rfl ?_
          intro bA K Q' hK
          have e15 := hG 4 15 (by decide) (by kernel_rfl) (by kernel_rfl)
          change ρ (.tmp 15) = _ at e15
          obtain ⟨y0, y1⟩ := HC.out w5 hR
          simp only [execOp]
          go_simp
          exact hK _ _ rfl (Grew.refl _)
        · refine plainG rfl ?_
          intro bA K Q' hK
          have e0 := hS 0 (by kernel_rfl)
          change ρ (.tmp 0) = _ at e0
          simp only [execOp]
          go_simp
          exact hK _ _ rfl (Grew.refl _)
        · refine plainG rfl ?_
          intro bA K Q' hK
          have e4 := hS 4 (by kernel_rfl)
          change ρ (.tmp 4) = _ at e4
          simp only [execOp]
          go_simp
          exact hK _ _ rfl (Grew.refl _)
        · refine plainG rfl ?_
          intro bA K Q' hK
          have e17 := hG 6 17 (by decide) (by kernel_rfl) (by kernel_rfl)
          have e18 := hG 7 18 (by decide) (by kernel_rfl) (by kernel_rfl)
          change ρ (.tmp 17) = _ at e17
          change ρ (.tmp 18) = _ at e18
          simp only [execOp]
          go_simp
          exact hK _ _ rfl (Grew.refl _)
        · refine plainG rfl ?_
          intro bA K Q' hK
          have e19 := hG 8 19 (by decide) (by kernel_rfl) (by kernel_rfl)
          change ρ (.tmp 19) = _ at e19
          simp only [execOp]
          go_simp
          exact hK _ _ rfl (Grew.refl _)
        · refine plainG rfl ?_
          intro bA K Q' hK
          have e20 := hG 9 20 (by decide) (by kernel_rfl) (by kernel_rfl)
          change ρ (.tmp 20) = _ at e20
          obtain ⟨y0, y1⟩ := HC.out w5 hR
          simp only [execOp]
          go_simp
          exact hK _ _ rfl (Grew.refl _)
        · refine plainG rfl ?_
          intro bA K Q' hK
          have e16 := hG 5 16 (by decide) (by kernel_rfl) (by kernel_rfl)
          have e21 := hG 10 21 (by decide) (by kernel_rfl) (by kernel_rfl)
          change ρ (.tmp 16) = _ at e16
          change ρ (.tmp 21) = _ at e21
          simp only [execOp]
          go_simp
          exact hK _ _ ⟨_, rfl, heap_alloc_new w5 _⟩ ((Grew.refl _).alloc _)
      · intro v w3 hR hG
        have h0 : v 0 = u3 := hG.1.1.1.1.1.1.1.1.1.1.1.2
        obtain ⟨bx, h11, hrow⟩ : RowI2 F G w3 (v 11) := hG.2
        have hb : Below wr.heap.size wr w3 := ⟨hR.os, hR.tape, hR.output, hR.size, hR.block⟩
        have HV3 : Hid (w3.ownsRow w.heap.size 3 1 u3 (k * 2) (zvals (flatX (xs.take k)))) := hid (owns_mv (F := fun _ => False) HV.out (Mv.of_below hb) fun _ _ => id)
        have HB3 : Hid (Below w.heap.size w w3) := hid (HB.out.trans (hb.mono HB.out.size))
        have HROW := hid hrow
        clear hG hR hb hrow HC HV HB
        simp [stG, stU, dstAt, Act.put, h0, h11]
        clear h0 h11
        go_wp2_with (refine wpList_append_any rfl (.tmp 11) (.tmp 22) 22 rfl w.heap.size 3 (.int .i64 0) 8 Try.underlying22 infoI8 rfl _ (k * 2) _ rfl HV3.out (some ⟨bx, 0, none⟩) 2 2 (zvals [F, G]) rfl rfl (by intro h; cases h) (rowI2_cells HROW.out) (zvals_one _) (by unfold maxLen; omega) (by omega) (by have := HB3.out.size; omega) ?_)
        intro v4 w4 hv4 hg4 _
        have HV4 : Hid (w4.ownsRow w.heap.size 3 1 v4 ((k + 1) * 2) (zvals (flatX (xs.take (k + 1))))) := hid (by rw [HSN.out, flatX_snoc, zvals_app, show (k + 1) * 2 = k * 2 + 2 by omega]; exact hv4)
        have HB4 : Hid (Below w.heap.size w w4) := hid (below_owned (w0 := w) HB3.out HV3.out (Nat.le_refl _) hg4)
        clear hv4 hg4 HV3 HB3
        go_wp2_with fail
        go_roundw
        case rel => exact ⟨k + 1, by omega, by go_num, HV4.out, HB4.out⟩
        case measure => simp [intOf]; omega
    · have hkf : (k < n) = False := eq_false (by omega)
      have HKN : Hid (k = n) := hid (by omega)
      obtain ⟨av, cv, rfl, hkl, hsi, -, -, -⟩ := ownedZ HV.out
      have hfull : flatX (xs.take k) = flatX xs := by rw [HKN.out, HN.out, List.take_length]
      rw [hfull] at hsi hkl ⊢
      have hpos : ∀ z ∈ flatX xs, 1 ≤ z ∧ z ≤ 2048 := fun z hz => by
        obtain ⟨x, hx, hzx⟩ := flatX_mem hz
        have := okX_iff.1 (HOK.out x hx)
        rcases hzx with h | h <;> omega
      have HL := hid (refList_any _ av cv (flatX xs) wr hsi (by rw [flatX_len, ← HN.out]; omega) (fun z hz => by have := hpos z hz; omega) (by
        cases hh : anyNeg (flatX xs)
        · rfl
        · unfold anyNeg at hh
          obtain ⟨z, hz, hzn⟩ := List.any_eq_true.1 hh
          have := hpos z hz
          have := of_decide_eq_true hzn
          omega))
      obtain ⟨m, hm⟩ : ∃ m, m = (flatX xs).length := ⟨_, rfl⟩
      have HMM := hid hm
      rw [← hm] at HL ⊢
      clear hlt hkl hsi hfull hpos hm
      go_wp2_with fail
      refine HL.out.mono ?_
      clear HL
      rintro e w2 ⟨v2, rfl, hr2, hb2⟩
      have HR2 := hid hr2
      have HB2 : Hid (Below w.heap.size w w2) := hid (HB.out.trans (hb2.mono HB.out.size))
      clear hr2 hb2
      go_wp2_with fail
      go_ret
      exact ⟨_, rfl, by rw [← HMM.out]; exact HR2.out.weaken HB.out.size, HB2.out⟩
end Go.Proofs.Ytlfpepkgnobjnaa
