/- CONTRACTS: lists of extents, copied; the document's All, Check. -/
import Derived.Test.YtlfpepkgnobjnaaExA
import Derived.Test.YtlfpepkgnobjnaaGrow
namespace Go.Proofs.Ytlfpepkgnobjnaa
open Go.RowKit Go.Inc

abbrev EqX (x : Value) : World → Value → Prop := fun _ v => v = x
theorem infoRX : (Try.prog.info? 55).map (fun i => (i.zero, i.size, i.bytes)) = some (some (.agg #[.int .i64 0, .int .i64 0]), 2, 16) := by kernel_rfl
theorem infoPX : (Try.prog.info? 57).map (fun i => (i.zero, i.size, i.bytes)) = some (some (.agg #[.int .i64 0, .int .i64 0]), 2, 16) := by kernel_rfl
def RowX (F G : Int) (T : TypeId) (x : World) (v : Value) : Prop := ∃ b, v = .slice (some ⟨b, 0, none⟩) 1 1 ∧ x.heap[b]? = some (.cells #[.int .i64 F, .int .i64 G] T (0, 0))
theorem RowX.kept {F G : Int} {T : TypeId} {x y : World} {v : Value} (h : RowX F G T x v) (hg : Grew x y) : RowX F G T y v := by
  obtain ⟨b, h1, h3⟩ := h
  exact ⟨b, h1, row_below h3 hg⟩
theorem rowX_cells {F G : Int} {T : TypeId} {x : World} {b : Nat} (h : x.heap[b]? = some (.cells #[.int .i64 F, .int .i64 G] T (0, 0))) : ∀ j u, ([.int .i64 F, .int .i64 G] : List Value)[j]? = some u → x.cell? ((⟨b, 0, none⟩ : Addr).add j) = some u := by
  intro j u hu
  rw [Addr.add_lit, cell_of_row _ _ _ _ _ _ h]
  match j, hu with
  | 0, hu => simpa using hu
  | 1, hu => simpa using hu
  | j + 2, hu => simp at hu
theorem _root_.Go.Inc.XtS.old {ok : Nat → Prop} {w : World} {a : Option Addr} {xs : List Xt} (h : XtS ok w a xs) : XtS (fun b => b < w.heap.size) w a xs := h.mono fun _ _ h => h
set_option maxRecDepth 20000 in
set_option maxHeartbeats 4000000 in
theorem xOf_any (ok : Nat → Prop) (a : Option Addr) (c : Nat) (xs : List Xt) (w : World) (hs : XtS ok w a xs) (hl : (xs.length : Int) ≤ 1099511627776) :
    Calls Try.prog 9 #[.slice a xs.length c] w fun e w' => (∃ v, e = .returned v ∧ w'.ownsRow w.heap.size 55 2 v xs.length (xcells xs)) ∧ Below w.heap.size w w' := by
  obtain ⟨i0, hi, hz0, hz1, hz2⟩ := info_parts infoRX
  have HI := hid (And.intro hi (And.intro hz0 (And.intro hz1 hz2)))
  have HS := hid hs.old
  obtain ⟨n, hn⟩ : ∃ n, n = xs.length := ⟨_, rfl⟩
  have HN := hid hn
  rw [← hn] at hl ⊢
  clear hs hi hz0 hz1 hz2 hn
  go_enter Try.func9, Try.ntmps9
  go_wp2_with fail
  go_loopw [3, 4] (fun v i wr => ∃ k : Nat, k ≤ n ∧ i = .int .i64 (k : Int) ∧ wr.ownsRow w.heap.size 55 2 v k (xcells (xs.take k)) ∧ Below w.heap.size w wr) (fun _ i _ => n - (intOf i).toNat)
  case atStart => exact ⟨0, Nat.zero_le _, rfl, World.ownsRow_nil _ _ _ _, Below.refl _ _⟩
  case round =>
    obtain ⟨k, hk, rfl, hv, hb⟩ := hrel
    have HV := hid hv
    have HB := hid hb
    clear hv hb
    by_cases hlt : (k : Int) < n
    · have hkn : (k < n) = True := eq_true (by omega)
      obtain ⟨b, o, rfl, hc1, hc2⟩ := (HS.out.below HB.out).cell (i := k) (by have := HN.out; omega)
      have HSN := hid (takeSnoc (bs := xs) (d := ((0 : Int), (0 : Int))) (k := k) (by have := HN.out; omega))
      obtain ⟨⟨F, G⟩, hx⟩ : ∃ x, x = xs.getD k (0, 0) := ⟨_, rfl⟩
      rw [← hx] at hc1 hc2 HSN
      simp only at hc1 hc2
      have HC : Hid (∀ x, Grew wr.drew x → x.cell? ⟨b, o + k * 2, none⟩ = some (.int .i64 F) ∧ x.cell? ⟨b, o + k * 2 + 1, none⟩ = some (.int .i64 G)) := hid fun x hx => by
        have hb : Below wr.heap.size wr x := ⟨hx.os, hx.tape, hx.output, hx.size, hx.block⟩
        exact ⟨(hb.cell (cell_lt hc1)).trans hc1, (hb.cell (cell_lt hc2)).trans hc2⟩
      clear hx hc1 hc2
      go_wp2_with fail
      refine wp_region_grows 13 [EqX (u3), EqX (.slice (some ⟨b, o, none⟩) n c), EqX (.int .i64 (k : Int)), EqX (.pointer (some ⟨b, o + k * 2, none⟩)), EqX (.pointer (some ⟨b, o + k * 2, none⟩)), EqX (.int .i64 F), EqX (.slice (some ⟨b, o, none⟩) n c), EqX (.int .i64 (k : Int)), EqX (.pointer (some ⟨b, o + k * 2, none⟩)), EqX (.pointer (some ⟨b, o + k * 2 + 1, none⟩)), EqX (.int .i64 G), EqX (.agg #[.int .i64 F, .int .i64 G]), RowX F G 55] (by kernel_rfl) (by decide) (by kernel_rfl) ?_ ?_ ?_
      · repeat' (first | exact List.forall_mem_nil _ | refine List.forall_mem_cons.2 ⟨?_, ?_⟩)
        all_goals
          intro w w' v hw h
          first | exact h | exact RowX.kept h hw
      · simp only [AllLt]
        refine ⟨⟨⟨⟨⟨⟨⟨⟨⟨⟨⟨⟨⟨trivial, ?_⟩, ?_⟩, ?_⟩, ?_⟩, ?_⟩, ?_⟩, ?_⟩, ?_⟩, ?_⟩, ?_⟩, ?_⟩, ?_⟩, ?_⟩
        all_goals
          intro o' ho
          simp at ho
          subst ho
          intro ρ w5 hR hL hS hG
          obtain ⟨hl1, hl2, -⟩ := hL
        · refine plainG rfl ?_
          intro bA K Q' hK
          have e3 := hS 3 (by kernel_rfl)
          change ρ (.tmp 3) = _ at e3
          simp only [execOp]
          go_simp
          exact hK _ _ rfl (Grew.refl _)
        · refine plainG rfl ?_
          intro bA K Q' hK
          have e0 := hS 0 (by kernel_rfl)
          change ρ (.tmp 0) = _ at e0
          simp only [execOp]
          go_simp
          exact hK _ _ rfl (Grew.refl _)
        · refine plainG rfl ?_
          intro bA K Q' hK
          have e4 := hS 4 (by kernel_rfl)
          change ρ (.tmp 4) = _ at e4
          simp only [execOp]
          go_simp
          exact hK _ _ rfl (Grew.refl _)
        · refine plainG rfl ?_
          intro bA K Q' hK
          have e12 := hG 1 12 (by decide) (by kernel_rfl) (by kernel_rfl)
          have e13 := hG 2 13 (by decide) (by kernel_rfl) (by kernel_rfl)
          change ρ (.tmp 12) = _ at e12
          change ρ (.tmp 13) = _ at e13
          simp only [execOp]
          go_simp
          exact hK _ _ rfl (Grew.refl _)
        · refine plainG rfl ?_
          intro bA K Q' hK
          have e14 := hG 3 14 (by decide) (by kernel_rfl) (by kernel_rfl)
          change ρ (.tmp 14) = _ at e14
          simp only [execOp]
          go_simp
          exact hK _ _ rfl (Grew.refl _)
        · refine plainG rfl ?_
          intro bA K Q' hK
          have e15 := hG 4 15 (by decide) (by kernel_rfl) (by kernel_rfl)
          change ρ (.tmp 15) = _ at e15
          obtain ⟨y0, y1⟩ := HC.out w5 hR
          simp only [execOp]
          go_simp
          exact hK _ _ rfl (Grew.refl _)
        · refine plainG rfl ?_
          intro bA K Q' hK
          have e0 := hS 0 (by kernel_rfl)
          change ρ (.tmp 0) = _ at e0
          simp only [execOp]
          go_simp
          exact hK _ _ rfl (Grew.refl _)
        · refine plainG rfl ?_
          intro bA K Q' hK
          have e4 := hS 4 (by kernel_rfl)
          change ρ (.tmp 4) = _ at e4
          simp only [execOp]
          go_simp
          exact hK _ _ rfl (Grew.refl _)
        · refine plainG rfl ?_
          intro bA K Q' hK
          have e17 := hG 6 17 (by decide) (by kernel_rfl) (by kernel_rfl)
          have e18 := hG 7 18 (by decide) (by kernel_rfl) (by kernel_rfl)
          change ρ (.tmp 17) = _ at e17
          change ρ (.tmp 18) = _ at e18
          simp only [execOp]
          go_simp
          exact hK _ _ rfl (Grew.refl _)
        · refine plainG rfl ?_
          intro bA K Q' hK
          have e19 := hG 8 19 (by decide) (by kernel_rfl) (by kernel_rfl)
          change ρ (.tmp 19) = _ at e19
          simp only [execOp]
          go_simp
          exact hK _ _ rfl (Grew.refl _)
        · refine plainG rfl ?_
          intro bA K Q' hK
          have e20 := hG 9 20 (by decide) (by kernel_rfl) (by kernel_rfl)
          change ρ (.tmp 20) = _ at e20
          obtain ⟨y0, y1⟩ := HC.out w5 hR
          simp only [execOp]
          go_simp
          exact hK _ _ rfl (Grew.refl _)
        · refine plainG rfl ?_
          intro bA K Q' hK
          have e16 := hG 5 16 (by decide) (by kernel_rfl) (by kernel_rfl)
          have e21 := hG 10 21 (by decide) (by kernel_rfl) (by kernel_rfl)
          change ρ (.tmp 16) = _ at e16
          change ρ (.tmp 21) = _ at e21
          simp only [execOp]
          go_simp
          exact hK _ _ rfl (Grew.refl _)
        · refine plainG rfl ?_
          intro bA K Q' hK
          have e22 := hG 11 22 (by decide) (by kernel_rfl) (by kernel_rfl)
          change ρ (.tmp 22) = _ at e22
          simp only [execOp]
          go_simp
          exact hK _ _ ⟨_, rfl, heap_alloc_new w5 _⟩ ((Grew.refl _).alloc _)
      · intro v w3 hR hG
        have h0 : v 0 = u3 := hG.1.1.1.1.1.1.1.1.1.1.1.1.2
        obtain ⟨bx, h12, hrow⟩ : RowX F G 55 w3 (v 12) := hG.2
        have hb : Below wr.heap.size wr w3 := ⟨hR.os, hR.tape, hR.output, hR.size, hR.block⟩
        have HV3 : Hid (w3.ownsRow w.heap.size 55 2 u3 k (xcells (xs.take k))) := hid (owns_mv (F := fun _ => False) HV.out (Mv.of_below hb) fun _ _ => id)
        have HB3 : Hid (Below w.heap.size w w3) := hid (HB.out.trans (hb.mono HB.out.size))
        have HROW := hid hrow
        clear hG hR hb hrow HC HV HB
        simp [stG, stU, dstAt, Act.put, h0, h12]
        clear h0 h12
        go_wp2_with (refine wpList_append_own _ rfl (.tmp 11) (.tmp 23) 27 rfl w.heap.size 55 i0 (.agg #[.int .i64 0, .int .i64 0]) 2 16 Try.underlying27 HI.out.1 HI.out.2.1 HI.out.2.2.1 HI.out.2.2.2 rfl (by decide) _ k (xcells (xs.take k)) rfl HV3.out ⟨bx, 0, none⟩ 1 1 [.int .i64 F, .int .i64 G] rfl rfl (rowX_cells HROW.out) (by simp [Value.oneCell']) (by unfold maxLen; omega) (by omega) (by have := HB3.out.size; omega) ?_)
        intro v4 w4 hv4 hg4 _
        have HV4 : Hid (w4.ownsRow w.heap.size 55 2 v4 (k + 1) (xcells (xs.take (k + 1)))) := hid (by rw [HSN.out, xcells_app]; exact hv4)
        have HB4 : Hid (Below w.heap.size w w4) := hid (below_owned (w0 := w) HB3.out HV3.out (Nat.le_refl _) hg4)
        clear hv4 hg4 HV3 HB3
        go_wp2_with fail
        go_roundw
        case rel => exact ⟨k + 1, by omega, by go_num, HV4.out, HB4.out⟩
        case measure => simp [intOf]; omega
    · have hkf : (k < n) = False := eq_false (by omega)
      have HKE : Hid (k = n) := hid (by omega)
      clear hlt
      go_wp2_with fail
      go_ret
      exact ⟨⟨_, rfl, by have h := HV.out; rw [HKE.out] at h; rw [HN.out, List.take_length] at h; rw [HN.out]; exact h⟩, HB.out⟩
set_option maxRecDepth 20000 in
set_option maxHeartbeats 4000000 in
theorem xTo_any (ok : Nat → Prop) (a : Option Addr) (c : Nat) (xs : List Xt) (w : World) (hs : XtS ok w a xs) (hl : (xs.length : Int) ≤ 9223372036854775807) :
    Calls Try.prog 15 #[.slice a xs.length c] w fun e w' => (∃ v, e = .returned v ∧ w'.ownsRow w.heap.size 57 2 v (xs.take 30).length (xcells (xs.take 30))) ∧ Below w.heap.size w w' := by
  obtain ⟨i0, hi, hz0, hz1, hz2⟩ := info_parts infoPX
  have HI := hid (And.intro hi (And.intro hz0 (And.intro hz1 hz2)))
  have HS := hid hs.old
  obtain ⟨n, hn⟩ : ∃ n, n = xs.length := ⟨_, rfl⟩
  have HN := hid hn
  rw [← hn] at hl ⊢
  clear hs hi hz0 hz1 hz2 hn
  go_enter Try.func15, Try.ntmps15
  go_wp2_with fail
  go_loopw [3, 4] (fun v i wr => ∃ k : Nat, k ≤ n ∧ k ≤ 30 ∧ i = .int .i64 (k : Int) ∧ wr.ownsRow w.heap.size 57 2 v k (xcells (xs.take k)) ∧ Below w.heap.size w wr) (fun _ i _ => n - (intOf i).toNat)
  case atStart => exact ⟨0, Nat.zero_le _, Nat.zero_le _, rfl, World.ownsRow_nil _ _ _ _, Below.refl _ _⟩
  case round =>
    obtain ⟨k, hk, hk30, rfl, hv, hb⟩ := hrel
    have HV := hid hv
    have HB := hid hb
    clear hv hb
    by_cases hlt : (k : Int) < n
    · have hkn : (k < n) = True := eq_true (by omega)
      by_cases h30 : (k : Int) < 30
      · have hk302 : (k < 30) = True := eq_true (by omega)
        obtain ⟨b, o, rfl, hc1, hc2⟩ := (HS.out.below HB.out).cell (i := k) (by have := HN.out; omega)
        have HSN := hid (takeSnoc (bs := xs) (d := ((0 : Int), (0 : Int))) (k := k) (by have := HN.out; omega))
        obtain ⟨⟨F, G⟩, hx⟩ : ∃ x, x = xs.getD k (0, 0) := ⟨_, rfl⟩
        rw [← hx] at hc1 hc2 HSN
        simp only at hc1 hc2
        have HC : Hid (∀ x, Grew wr.drew x → x.cell? ⟨b, o + k * 2, none⟩ = some (.int .i64 F) ∧ x.cell? ⟨b, o + k * 2 + 1, none⟩ = some (.int .i64 G)) := hid fun x hx => by
          have hb : Below wr.heap.size wr x := ⟨hx.os, hx.tape, hx.output, hx.size, hx.block⟩
          exact ⟨(hb.cell (cell_lt hc1)).trans hc1, (hb.cell (cell_lt hc2)).trans hc2⟩
        clear hx hc1 hc2
        go_wp2_with fail
        refine wp_region_grows 13 [EqX (u3), EqX (.slice (some ⟨b, o, none⟩) n c), EqX (.int .i64 (k : Int)), EqX (.pointer (some ⟨b, o + k * 2, none⟩)), EqX (.pointer (some ⟨b, o + k * 2, none⟩)), EqX (.int .i64 F), EqX (.slice (some ⟨b, o, none⟩) n c), EqX (.int .i64 (k : Int)), EqX (.pointer (some ⟨b, o + k * 2, none⟩)), EqX (.pointer (some ⟨b, o + k * 2 + 1, none⟩)), EqX (.int .i64 G), EqX (.agg #[.int .i64 F, .int .i64 G]), RowX F G 57] (by kernel_rfl) (by decide) (by kernel_rfl) ?_ ?_ ?_
        · repeat' (first | exact List.forall_mem_nil _ | refine List.forall_mem_cons.2 ⟨?_, ?_⟩)
          all_goals
            intro w w' v hw h
            first | exact h | exact RowX.kept h hw
        · simp only [AllLt]
          refine ⟨⟨⟨⟨⟨⟨⟨⟨⟨⟨⟨⟨⟨trivial, ?_⟩, ?_⟩, ?_⟩, ?_⟩, ?_⟩, ?_⟩, ?_⟩, ?_⟩, ?_⟩, ?_⟩, ?_⟩, ?_⟩, ?_⟩
          all_goals
            intro o' ho
            simp at ho
            subst ho
            intro ρ w5 hR hL hS hG
            obtain ⟨hl1, hl2, -⟩ := hL
          · refine plainG rfl ?_
            intro bA K Q' hK
            have e3 := hS 3 (by kernel_rfl)
            change ρ (.tmp 3) = _ at e3
            simp only [execOp]
            go_simp
            exact hK _ _ rfl (Grew.refl _)
          · refine plainG rfl ?_
            intro bA K Q' hK
            have e0 := hS 0 (by kernel_rfl)
            change ρ (.tmp 0) = _ at e0
            simp only [execOp]
            go_simp
            exact hK _ _ rfl (Grew.refl _)
          · refine plainG rfl ?_
            intro bA K Q' hK
            have e4 := hS 4 (by kernel_rfl)
            change ρ (.tmp 4) = _ at e4
            simp only [execOp]
            go_simp
            exact hK _ _ rfl (Grew.refl _)
          · refine plainG rfl ?_
            intro bA K Q' hK
            have e16 := hG 1 16 (by decide) (by kernel_rfl) (by kernel_rfl)
            have e17 := hG 2 17 (by decide) (by kernel_rfl) (by kernel_rfl)
            change ρ (.tmp 16) = _ at e16
            change ρ (.tmp 17) = _ at e17
            simp only [execOp]
            go_simp
            exact hK _ _ rfl (Grew.refl _)
          · refine plainG rfl ?_
            intro bA K Q' hK
            have e18 := hG 3 18 (by decide) (by kernel_rfl) (by kernel_rfl)
            change ρ (.tmp 18) = _ at e18
            simp only [execOp]
            go_simp
            exact hK _ _ rfl (Grew.refl _)
          · refine plainG rfl ?_
            intro bA K Q' hK
            have e19 := hG 4 19 (by decide) (by kernel_rfl) (by kernel_rfl)
            change ρ (.tmp 19) = _ at e19
            obtain ⟨y0, y1⟩ := HC.out w5 hR
            simp only [execOp]
            go_simp
            exact hK _ _ rfl (Grew.refl _)
          · refine plainG rfl ?_
            intro bA K Q' hK
            have e0 := hS 0 (by kernel_rfl)
            change ρ (.tmp 0) = _ at e0
            simp only [execOp]
            go_simp
            exact hK _ _ rfl (Grew.refl _)
          · refine plainG rfl ?_
            intro bA K Q' hK
            have e4 := hS 4 (by kernel_rfl)
            change ρ (.tmp 4) = _ at e4
            simp only [execOp]
            go_simp
            exact hK _ _ rfl (Grew.refl _)
          · refine plainG rfl ?_
            intro bA K Q' hK
            have e21 := hG 6 21 (by decide) (by kernel_rfl) (by kernel_rfl)
            have e22 := hG 7 22 (by decide) (by kernel_rfl) (by kernel_rfl)
            change ρ (.tmp 21) = _ at e21
            change ρ (.tmp 22) = _ at e22
            simp only [execOp]
            go_simp
            exact hK _ _ rfl (Grew.refl _)
          · refine plainG rfl ?_
            intro bA K Q' hK
            have e23 := hG 8 23 (by decide) (by kernel_rfl) (by kernel_rfl)
            change ρ (.tmp 23) = _ at e23
            simp only [execOp]
            go_simp
            exact hK _ _ rfl (Grew.refl _)
          · refine plainG rfl ?_
            intro bA K Q' hK
            have e24 := hG 9 24 (by decide) (by kernel_rfl) (by kernel_rfl)
            change ρ (.tmp 24) = _ at e24
            obtain ⟨y0, y1⟩ := HC.out w5 hR
            simp only [execOp]
            go_simp
            exact hK _ _ rfl (Grew.refl _)
          · refine plainG rfl ?_
            intro bA K Q' hK
            have e20 := hG 5 20 (by decide) (by kernel_rfl) (by kernel_rfl)
            have e25 := hG 10 25 (by decide) (by kernel_rfl) (by kernel_rfl)
            change ρ (.tmp 20) = _ at e20
            change ρ (.tmp 25) = _ at e25
            simp only [execOp]
            go_simp
            exact hK _ _ rfl (Grew.refl _)
          · refine plainG rfl ?_
            intro bA K Q' hK
            have e26 := hG 11 26 (by decide) (by kernel_rfl) (by kernel_rfl)
            change ρ (.tmp 26) = _ at e26
            simp only [execOp]
            go_simp
            exact hK _ _ ⟨_, rfl, heap_alloc_new w5 _⟩ ((Grew.refl _).alloc _)
        · intro v w3 hR hG
          have h0 : v 0 = u3 := hG.1.1.1.1.1.1.1.1.1.1.1.1.2
          obtain ⟨bx, h12, hrow⟩ : RowX F G 57 w3 (v 12) := hG.2
          have hb : Below wr.heap.size wr w3 := ⟨hR.os, hR.tape, hR.output, hR.size, hR.block⟩
          have HV3 : Hid (w3.ownsRow w.heap.size 57 2 u3 k (xcells (xs.take k))) := hid (owns_mv (F := fun _ => False) HV.out (Mv.of_below hb) fun _ _ => id)
          have HB3 : Hid (Below w.heap.size w w3) := hid (HB.out.trans (hb.mono HB.out.size))
          have HROW := hid hrow
          clear hG hR hb hrow HC HV HB
          simp [stG, stU, dstAt, Act.put, h0, h12]
          clear h0 h12
          go_wp2_with (refine wpList_append_own _ rfl (.tmp 15) (.tmp 27) 23 rfl w.heap.size 57 i0 (.agg #[.int .i64 0, .int .i64 0]) 2 16 Try.underlying23 HI.out.1 HI.out.2.1 HI.out.2.2.1 HI.out.2.2.2 rfl (by decide) _ k (xcells (xs.take k)) rfl HV3.out ⟨bx, 0, none⟩ 1 1 [.int .i64 F, .int .i64 G] rfl rfl (rowX_cells HROW.out) (by simp [Value.oneCell']) (by unfold maxLen; omega) (by omega) (by have := HB3.out.size; omega) ?_)
          intro v4 w4 hv4 hg4 _
          have HV4 : Hid (w4.ownsRow w.heap.size 57 2 v4 (k + 1) (xcells (xs.take (k + 1)))) := hid (by rw [HSN.out, xcells_app]; exact hv4)
          have HB4 : Hid (Below w.heap.size w w4) := hid (below_owned (w0 := w) HB3.out HV3.out (Nat.le_refl _) hg4)
          clear hv4 hg4 HV3 HB3
          go_wp2_with fail
          go_roundw
          case rel => exact ⟨k + 1, by omega, by omega, by go_num, HV4.out, HB4.out⟩
          case measure => simp [intOf]; omega
      · have hk302 : (k < 30) = False := eq_false (by omega)
        have hk303 : decide ((k : Int) < 30) = false := decide_eq_false h30
        have HKE : Hid (k = 30) := hid (by omega)
        clear h30
        go_wp2_with fail
        go_ret
        have h30l : (xs.take 30).length = 30 := by rw [List.length_take]; have := HN.out; have := HKE.out; omega
        exact ⟨⟨_, rfl, by have h := HV.out; rw [HKE.out] at h; rw [h30l]; exact h⟩, HB.out⟩
    · have hkf : (k < n) = False := eq_false (by omega)
      have HKE : Hid (k = n) := hid (by omega)
      clear hlt
      go_wp2_with fail
      go_ret
      have hle : xs.take 30 = xs := List.take_of_length_le (by have := HN.out; have := HKE.out; omega)
      exact ⟨⟨_, rfl, by have h := HV.out; rw [HKE.out, HN.out, List.take_length] at h; rw [hle]; exact h⟩, HB.out⟩
end Go.Proofs.Ytlfpepkgnobjnaa
