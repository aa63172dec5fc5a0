/- CONTRACTS: what the iterator over the free pages looks at; its maker. -/
import Derived.Test.YtjgnnofpilmgoaaDoorAlG
namespace Go.Proofs.YtjgnnofpilmgoaaDoor
open Go.RowKit Go.Inc

theorem Sm.isPtr {ok : Nat → Prop} {w : World} {v : Value} {m : List Bool} (h : Sm ok w v m) : ∃ b, v = .pointer (some ⟨b, 0, none⟩) := by
  obtain ⟨b, _, _, _, h1, _⟩ := h
  exact ⟨b, h1⟩
/-- A set's blocks are none of a pointer's. -/
theorem Sm.ne {ok : Nat → Prop} {w : World} {v : Value} {m : List Bool} {bx : Nat} {q : Option Addr} (h : Sm ok w v m) (hx : w.cell? ⟨bx, 0, none⟩ = some (.pointer q)) : Sm (fun b => ok b ∧ b ≠ bx) w v m := by
  obtain ⟨b, g, c, W, h1, h2, h3, h4, h5⟩ := h
  refine ⟨b, g, c, W, h1, ⟨h2, fun e => ?_⟩, ⟨h3, fun e => ?_⟩, h4, h5⟩
  · have := h4.hsz
    rw [e, hx] at this
    cases this
  · have := h4.cell h4.wlen.1
    rw [e, hx] at this
    cases this
theorem bms_row {ok : Nat → Prop} {x : World} {b : Nat} {v : Value} {m : List Bool} {T : TypeId} (hr : x.heap[b]? = some (.cells #[v] T (0, 0))) (h : Sm ok x v m) : BmS (fun _ => True) x (some ⟨b, 0, none⟩) 1 (fun _ => m) := fun i hi => by
  have h0 : i = 0 := by omega
  subst h0
  exact ⟨_, 0, v, rfl, trivial, by rw [cell_of_row _ b _ _ _ _ hr]; rfl, h.bm.mono fun _ _ _ => trivial⟩
/-- What the iterator over the free pages looks at: the table, a box, a set of all that is used. -/
structure Used (okU : Nat → Prop) (w : World) (bx : Nat) (vu : Value) (ks : List Nat) : Prop where
  tab : Tab w
  box : w.cell? ⟨bx, 0, none⟩ = some vu
  set : ∃ m, Sm okU w vu m ∧ m.length = ks.length ∧ ∀ i, i < ks.length → inB m i = (isC (kd ks i) || isS (kd ks i))
  k0 : okU 0
  kb : okU bx
theorem Used.mv {okU : Nat → Prop} {w w' : World} {bx : Nat} {vu : Value} {ks : List Nat} (h : Used okU w bx vu ks) (hm : Mv (fun b => ¬ okU b) w w') : Used okU w' bx vu ks := by
  obtain ⟨m, h1, h2⟩ := h.set
  exact ⟨h.tab.mv hm fun hh => hh h.k0, hm.cell h.box fun hh => hh h.kb, ⟨m, h1.mv hm fun i hi hh => hh hi, h2⟩, h.k0, h.kb⟩
def fK (ks : List Nat) (i : Nat) : Bool := isF (kd ks i)
theorem pages_f (ks : List Nat) : pagesK isF ks = numsTo (fK ks) ks.length := rfl
/-- The next free page. -/
def NextP (ks : List Nat) (no : Nat) (pg e : Value) : Prop :=
  (pg = .int .i64 0 ∧ e = .int .i64 7 ∧ numsTo (fK ks) no = pagesK isF ks) ∨ ∃ k : Nat, no ≤ k ∧ k < ks.length ∧ pg = .int .i64 (k : Int) ∧ e = .int .i64 0 ∧ fK ks k = true ∧ numsTo (fK ks) k = numsTo (fK ks) no
theorem used_seek {okU : Nat → Prop} {w : World} {bx : Nat} {vu : Value} {ks : List Nat} (h : Used okU w bx vu ks) (hk : Ks ks) (no : Nat) (h2 : 2 ≤ no) (hn : no ≤ ks.length) :
    Calls Tryd.prog 49 #[vu, .int .i64 (no : Int)] w fun e w' => (∃ pg er, e = .returned (.tuple #[pg, er]) ∧ NextP ks no pg er) ∧ w = w' := by
  obtain ⟨m, h3, h4, h5⟩ := h.set
  have hl := hk.n2048
  refine (free_any okU vu m (no : Int) w h3.bm h.tab (by omega) (by omega)).mono ?_
  rintro e w' ⟨rfl, rfl⟩
  refine ⟨?_, rfl⟩
  have key : ∀ i, no ≤ i → i < ks.length → ((inB m i = false) ↔ fK ks i = true) := fun i h6 h7 => by
    have := hk.rest i (by omega) h7
    rw [h5 i h7]
    unfold fK isF isC isS
    generalize kd ks i = k at *
    obtain rfl | rfl | rfl | rfl : k = 1 ∨ k = 2 ∨ k = 3 ∨ k = 4 := by omega
    all_goals decide
  rw [h4]
  rcases lowB_cases (inB m) (no : Int) false ks.length with ⟨e1, e2⟩ | ⟨k, e1, e2, e3, e4⟩
  · rw [seekV_none e1]
    refine ⟨_, _, rfl, .inl ⟨rfl, rfl, ?_⟩⟩
    rw [pages_f]
    obtain ⟨t, ht⟩ : ∃ t, ks.length = no + t := ⟨ks.length - no, by omega⟩
    rw [ht]
    refine (numsTo_gap t fun i h6 h7 => ?_).symm
    cases hf : fK ks i
    · rfl
    · exact absurd ⟨by omega, (key i h6 (by omega)).2 hf⟩ (e2 i (by omega))
  · rw [seekV_at e2]
    refine ⟨_, _, rfl, .inr ⟨k, by omega, e1, rfl, rfl, (key k (by omega) e1).1 e3.2, ?_⟩⟩
    obtain ⟨t, ht⟩ : ∃ t, k = no + t := ⟨k - no, by omega⟩
    rw [ht]
    refine numsTo_gap t fun i h6 h7 => ?_
    cases hf : fK ks i
    · rfl
    · exact absurd ⟨by omega, (key i h6 (by omega)).2 hf⟩ (e4 i (by omega))
def BoxG (W0 : Nat) (x : World) (v : Value) : Prop := ∃ b, v = .pointer (some ⟨b, 0, none⟩) ∧ W0 ≤ b ∧ x.heap[b]? = some (.cells #[.pointer none] 45 (0, 0))
def RowG (u : Value) (x : World) (v : Value) : Prop := ∃ b, v = .slice (some ⟨b, 0, none⟩) 1 1 ∧ x.heap[b]? = some (.cells #[u] 45 (0, 0))
theorem BoxG.kept {W0 : Nat} {x y : World} {v : Value} (h : BoxG W0 x v) (hg : Grew x y) : BoxG W0 y v := by
  obtain ⟨b, h1, h2, h3⟩ := h
  exact ⟨b, h1, h2, row_below h3 hg⟩
theorem RowG.kept {u : Value} {x y : World} {v : Value} (h : RowG u x v) (hg : Grew x y) : RowG u y v := by
  obtain ⟨b, h1, h3⟩ := h
  exact ⟨b, h1, row_below h3 hg⟩
set_option maxRecDepth 20000 in
set_option maxHeartbeats 4000000 in
theorem freeMk_any {C : Nat → Nat} {p : Nat} {v1 v2 v3 : Value} {ks : List Nat} {w : World} (h : Al C w p v1 v2 v3 ks) (hk : Ks ks) (ht : Tab w) :
    Calls Tryd.prog 31 #[.pointer (some ⟨p, 0, none⟩)] w fun e w' => (∃ bx vu, e = .returned (.func (.func 48) #[] #[.pointer (some ⟨bx, 0, none⟩)]) ∧ Used (fun i => i = 0 ∨ (w.heap.size ≤ i ∧ i < w'.heap.size)) w' bx vu ks) ∧ Below w.heap.size w w' := by
  obtain ⟨b2, rfl⟩ := h.s2.isPtr
  have HAL := hid h
  have HT := hid ht
  have hn := hk.n2
  obtain ⟨U, hU⟩ : ∃ U, U = unionTo (setK isC ks) (fun _ => setK isS ks) 1 := ⟨_, rfl⟩
  have HLEN : Hid (U.length = ks.length) := hid (by rw [hU, unionTo_len, setK_len])
  have HBITS : Hid (∀ i, i < ks.length → inB U i = (isC (kd ks i) || isS (kd ks i))) := hid fun i hi => by
    rw [hU]
    show inB (mix (fun x y => x || y) (setK isC ks) (setK isS ks)) i = _
    rw [mix_get, setK_len, decide_eq_true hi, inB_setK hi, inB_setK hi]; rfl
  have HC : Hid (∀ x, Grew w.drew x → x.cell? ⟨p, 0, none⟩ = some v1 ∧ x.cell? ⟨p, 1, none⟩ = some (.pointer (some ⟨b2, 0, none⟩))) := hid fun x hx => by
    have hb : Below w.heap.size w x := ⟨hx.os, hx.tape, hx.output, hx.size, hx.block⟩
    exact ⟨(HAL.out.below hb).c0, (HAL.out.below hb).c1⟩
  have HU : Hid (∀ x, Grew w.drew x → ∀ b, x.heap[b]? = some (.cells #[(.pointer (some ⟨b2, 0, none⟩))] 45 (0, 0)) → Calls Tryd.prog 47 #[v1, .slice (some ⟨b, 0, none⟩) 1 1] x fun e w' => (∃ y, e = .returned y ∧ NewSet w.heap.size w' y U) ∧ Below x.heap.size x w') := hid fun x hx b hr => by
    have hb : Below w.heap.size w x := ⟨hx.os, hx.tape, hx.output, hx.size, hx.block⟩
    refine (union_any (fun _ => True) v1 _ (some ⟨b, 0, none⟩) 1 1 (fun _ => setK isS ks) x ((HAL.out.below hb).s1.bm.mono fun _ _ _ => trivial) (bms_row hr (HAL.out.below hb).s2) (by decide)).mono ?_
    rintro e w' ⟨⟨y, h1, h2⟩, h3⟩
    rw [← hU] at h2
    obtain ⟨b, g, c, W, e1, e2, e3, e4, e5⟩ := copy_post_some (by rw [HLEN.out]; omega) h2
    exact ⟨⟨y, h1, b, g, c, W, e1, Nat.le_trans hx.size e2, Nat.le_trans hx.size e3, e4, e5⟩, h3⟩
  have HSZ : Hid (∀ x : World, Grew w.drew x → w.heap.size ≤ x.heap.size) := hid fun x hx => hx.size
  clear h hk ht hn hU
  go_enter Tryd.func31, Tryd.ntmps31
  go_wp2_with fail
  refine wp_region_grows 11 [Eqv' (.pointer (some ⟨p, 0, none⟩)), Eqv' (.pointer (some ⟨p, 0, none⟩)), Eqv' (.pointer (some ⟨p, 0, none⟩)), Eqv' (v1), Eqv' (.pointer (some ⟨p, 0, none⟩)), Eqv' (.pointer (some ⟨p, 0, none⟩)), Eqv' (.pointer (some ⟨p, 1, none⟩)), Eqv' (.pointer (some ⟨b2, 0, none⟩)), RowG (.pointer (some ⟨b2, 0, none⟩)), (fun x v => NewSet w.heap.size x v U), BoxG w.heap.size] (by kernel_rfl) (by decide) (by kernel_rfl) ?_ ?_ ?_
  · repeat' (first | exact List.forall_mem_nil _ | refine List.forall_mem_cons.2 ⟨?_, ?_⟩)
    all_goals
      intro w w' v hw h
      first | exact h | exact NewSet.below h hw | exact BoxG.kept h hw | exact RowG.kept h hw
  · simp only [AllLt]
    refine ⟨⟨⟨⟨⟨⟨⟨⟨⟨⟨⟨trivial, ?_⟩, ?_⟩, ?_⟩, ?_⟩, ?_⟩, ?_⟩, ?_⟩, ?_⟩, ?_⟩, ?_⟩, ?_⟩
    all_goals
      intro o' ho
      simp at ho
      subst ho
      intro ρ w5 hR hL hS hG
      obtain ⟨hl1, hl2, -⟩ := hL
    · refine plainG rfl ?_
      intro bA K Q' hK
      have e0 := hS 0 (by kernel_rfl)
      change ρ (.tmp 0) = _ at e0
      simp only [execOp]
      go_simp
      exact hK _ _ rfl (Grew.refl _)
    · refine plainG rfl ?_
      intro bA K Q' hK
      have e4 := hG 0 4 (by decide) (by kernel_rfl) (by kernel_rfl)
      change ρ (.tmp 4) = _ at e4
      simp only [execOp]
      go_simp
      exact hK _ _ rfl (Grew.refl _)
    · refine plainG rfl ?_
      intro bA K Q' hK
      have e5 := hG 1 5 (by decide) (by kernel_rfl) (by kernel_rfl)
      change ρ (.tmp 5) = _ at e5
      simp only [execOp]
      go_simp
      exact hK _ _ rfl (Grew.refl _)
    · refine plainG rfl ?_
      intro bA K Q' hK
      have e6 := hG 2 6 (by decide) (by kernel_rfl) (by kernel_rfl)
      change ρ (.tmp 6) = _ at e6
      obtain ⟨y0, y1⟩ := HC.out w5 hR
      simp only [execOp]
      go_simp
      exact hK _ _ rfl (Grew.refl _)
    · refine plainG rfl ?_
      intro bA K Q' hK
      have e0 := hS 0 (by kernel_rfl)
      change ρ (.tmp 0) = _ at e0
      simp only [execOp]
      go_simp
      exact hK _ _ rfl (Grew.refl _)
    · refine plainG rfl ?_
      intro bA K Q' hK
      have e8 := hG 4 8 (by decide) (by kernel_rfl) (by kernel_rfl)
      change ρ (.tmp 8) = _ at e8
      simp only [execOp]
      go_simp
      exact hK _ _ rfl (Grew.refl _)
    · refine plainG rfl ?_
      intro bA K Q' hK
      have e9 := hG 5 9 (by decide) (by kernel_rfl) (by kernel_rfl)
      change ρ (.tmp 9) = _ at e9
      simp only [execOp]
      go_simp
      exact hK _ _ rfl (Grew.refl _)
    · refine plainG rfl ?_
      intro bA K Q' hK
      have e10 := hG 6 10 (by decide) (by kernel_rfl) (by kernel_rfl)
      change ρ (.tmp 10) = _ at e10
      obtain ⟨y0, y1⟩ := HC.out w5 hR
      simp only [execOp]
      go_simp
      exact hK _ _ rfl (Grew.refl _)
    · refine plainG rfl ?_
      intro bA K Q' hK
      have e11 := hG 7 11 (by decide) (by kernel_rfl) (by kernel_rfl)
      change ρ (.tmp 11) = _ at e11
      simp only [execOp]
      go_simp
      exact hK _ _ ⟨_, rfl, heap_alloc_new w5 _⟩ ((Grew.refl _).alloc _)
    · refine plainG rfl ?_
      intro bA K Q' hK
      have e7 := hG 3 7 (by decide) (by kernel_rfl) (by kernel_rfl)
      have e12 := hG 8 12 (by decide) (by kernel_rfl) (by kernel_rfl)
      change ρ (.tmp 7) = _ at e7
      obtain ⟨b9, q1, q2⟩ := e12
      change ρ (.tmp 12) = _ at q1
      simp only [execOp]
      go_simp
      refine (HU.out w5 hR b9 q2).mono ?_
      rintro r9 w9 ⟨⟨y, rfl, hy⟩, hb9⟩
      exact hK _ _ hy hb9
    · refine plainG rfl ?_
      intro bA K Q' hK
      have hsz2 := HSZ.out w5 hR
      simp only [execOp]
      go_simp
      exact hK _ _ ⟨_, rfl, hsz2, heap_alloc_new w5 _⟩ ((Grew.refl _).alloc _)
  · intro v w3 hR hG
    obtain ⟨bx, h10, hbx, hrow⟩ : BoxG w.heap.size w3 (v 10) := hG.2
    have hu : NewSet w.heap.size w3 (v 9) U := hG.1.2
    obtain ⟨bu, h9, hsu⟩ := hu.ptr
    have hb : Below w.heap.size w w3 := ⟨hR.os, hR.tape, hR.output, hR.size, hR.block⟩
    have hcb := cell_of_row w3 bx 0 _ _ _ hrow
    have hfz := frozen_of_row w3 bx 0 _ _ hrow
    have HSU : Hid (Sm (fun b => (w.heap.size ≤ b ∧ b < w3.heap.size) ∧ b ≠ bx) w3 (.pointer (some ⟨bu, 0, none⟩)) U) := hid (hsu.ne hcb)
    have HBX : Hid (w.heap.size ≤ bx ∧ bx < w3.heap.size) := hid ⟨hbx, row_lt hrow⟩
    have HB3 := hid hb
    have hcb2 : w3.cell? ⟨bx, 0, none⟩ = some (.pointer none) := hcb
    clear hG hR hb hrow hsu hu hbx HC HU hcb
    simp [stG, stU, dstAt, Act.put, h10, h9]
    clear h10 h9
    go_wp2_with fail
    go_ret
    have hm : Mv (fun i => i = bx) w3 (w3.setCell ⟨bx, 0, none⟩ (.pointer (some ⟨bu, 0, none⟩))) := mv_setCell (F := fun i => i = bx) (Mv.refl _ _) rfl _
    have hcn : (w3.setCell ⟨bx, 0, none⟩ (.pointer (some ⟨bu, 0, none⟩))).cell? ⟨bx, 0, none⟩ = some (.pointer (some ⟨bu, 0, none⟩)) := World.cell?_setCell_same' _ _ _ (by rw [hcb2]; rfl)
    have hbb : Below w.heap.size w (w3.setCell ⟨bx, 0, none⟩ (.pointer (some ⟨bu, 0, none⟩))) := HB3.out.trans (hm.below HB3.out.size fun i hi => by rw [show i = bx from hi]; exact HBX.out.1)
    refine ⟨⟨bx, _, rfl, HT.out.below hbb, hcn, ⟨U, ?_, HLEN.out, HBITS.out⟩, .inl rfl, .inr ⟨HBX.out.1, Nat.lt_of_lt_of_le HBX.out.2 hm.size⟩⟩, hbb⟩
    exact (HSU.out.mv hm fun i hi => hi.2).mono fun b h _ => .inr ⟨h.1.1, Nat.lt_of_lt_of_le h.1.2 hm.size⟩
end Go.Proofs.YtjgnnofpilmgoaaDoor
