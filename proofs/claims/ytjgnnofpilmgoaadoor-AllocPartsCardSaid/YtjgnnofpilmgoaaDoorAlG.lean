/- CONTRACTS: Sets, Same. -/
import Derived.Test.YtjgnnofpilmgoaaDoorAlF
namespace Go.Proofs.YtjgnnofpilmgoaaDoor
open Go.RowKit Go.Inc

theorem sets_nil (w : World) : Calls Tryd.prog 22 #[.pointer none] w fun e w' => e = .returned (.tuple #[.pointer none, .pointer none, .pointer none]) ∧ w = w' := by
  go_enter Tryd.func22, Tryd.ntmps22
  go_wp2_with fail
  go_ret3
  exact ⟨rfl, rfl⟩
theorem copyK_any {w : World} (ok : Nat → Prop) (v : Value) (m : List Bool) (x : World) (h : Sm ok x v m) (hm : 0 < m.length) (hw : w.heap.size ≤ x.heap.size) :
    Calls Tryd.prog 40 #[v] x fun e w' => (∃ y, e = .returned y ∧ NewSet w.heap.size w' y m) ∧ Below x.heap.size x w' := by
  refine (copy_any ok v m x h.bm).mono ?_
  rintro e w' ⟨⟨y, h1, h2⟩, h3⟩
  obtain ⟨b, g, c, W, e1, e2, e3, e4, e5⟩ := copy_post_some hm h2
  exact ⟨⟨y, h1, b, g, c, W, e1, Nat.le_trans hw e2, Nat.le_trans hw e3, e4, e5⟩, h3⟩
set_option maxRecDepth 20000 in
set_option maxHeartbeats 4000000 in
theorem sets_any {C : Nat → Nat} {p : Nat} {v1 v2 v3 : Value} {ks : List Nat} {w : World} (h : Al C w p v1 v2 v3 ks) (hk : Ks ks) :
    Calls Tryd.prog 22 #[.pointer (some ⟨p, 0, none⟩)] w fun e w' => (∃ x1 x2 x3, e = .returned (.tuple #[x1, x2, x3]) ∧ NewSet w.heap.size w' x1 (setK isC ks) ∧ NewSet w.heap.size w' x2 (setK isS ks) ∧ NewSet w.heap.size w' x3 (setK isP ks)) ∧ Below w.heap.size w w' := by
  have HAL := hid h
  have hn := hk.n2
  have HC : Hid (∀ x, Grew w.drew x → x.cell? ⟨p, 0, none⟩ = some v1 ∧ x.cell? ⟨p, 1, none⟩ = some v2 ∧ x.cell? ⟨p, 2, none⟩ = some v3) := hid fun x hx => by
    have hb : Below w.heap.size w x := ⟨hx.os, hx.tape, hx.output, hx.size, hx.block⟩
    exact ⟨(HAL.out.below hb).c0, (HAL.out.below hb).c1, (HAL.out.below hb).c2⟩
  have HCP1 : Hid (∀ x, Grew w.drew x → Calls Tryd.prog 40 #[v1] x fun e w' => (∃ y, e = .returned y ∧ NewSet w.heap.size w' y (setK isC ks)) ∧ Below x.heap.size x w') := hid fun x hx => by
    have hb : Below w.heap.size w x := ⟨hx.os, hx.tape, hx.output, hx.size, hx.block⟩
    exact copyK_any (w := w) _ v1 _ x (HAL.out.below hb).s1 (by rw [setK_len]; omega) hx.size
  have HCP2 : Hid (∀ x, Grew w.drew x → Calls Tryd.prog 40 #[v2] x fun e w' => (∃ y, e = .returned y ∧ NewSet w.heap.size w' y (setK isS ks)) ∧ Below x.heap.size x w') := hid fun x hx => by
    have hb : Below w.heap.size w x := ⟨hx.os, hx.tape, hx.output, hx.size, hx.block⟩
    exact copyK_any (w := w) _ v2 _ x (HAL.out.below hb).s2 (by rw [setK_len]; omega) hx.size
  have HCP3 : Hid (∀ x, Grew w.drew x → Calls Tryd.prog 40 #[v3] x fun e w' => (∃ y, e = .returned y ∧ NewSet w.heap.size w' y (setK isP ks)) ∧ Below x.heap.size x w') := hid fun x hx => by
    have hb : Below w.heap.size w x := ⟨hx.os, hx.tape, hx.output, hx.size, hx.block⟩
    exact copyK_any (w := w) _ v3 _ x (HAL.out.below hb).s3 (by rw [setK_len]; omega) hx.size
  clear h hn hk
  go_enter Tryd.func22, Tryd.ntmps22
  go_wp2_with fail
  refine wp_region_grows 21 [Eqv' (.pointer (some ⟨p, 0, none⟩)), Eqv' (.pointer (some ⟨p, 0, none⟩)), Eqv' (.pointer (some ⟨p, 0, none⟩)), Eqv' (.pointer (some ⟨p, 0, none⟩)), Eqv' (v1), (fun x v => NewSet w.heap.size x v (setK isC ks)), Eqv' (.pointer (some ⟨p, 0, none⟩)), Eqv' (.pointer (some ⟨p, 0, none⟩)), Eqv' (.pointer (some ⟨p, 0, none⟩)), Eqv' (.pointer (some ⟨p, 1, none⟩)), Eqv' (v2), (fun x v => NewSet w.heap.size x v (setK isS ks)), Eqv' (.pointer (some ⟨p, 0, none⟩)), Eqv' (.pointer (some ⟨p, 0, none⟩)), Eqv' (.pointer (some ⟨p, 0, none⟩)), Eqv' (.pointer (some ⟨p, 2, none⟩)), Eqv' (v3), (fun x v => NewSet w.heap.size x v (setK isP ks)), (fun x v => NewSet w.heap.size x v (setK isC ks)), (fun x v => NewSet w.heap.size x v (setK isS ks)), (fun x v => NewSet w.heap.size x v (setK isP ks))] (by kernel_rfl) (by decide) (by kernel_rfl) ?_ ?_ ?_
  · repeat' (first | exact List.forall_mem_nil _ | refine List.forall_mem_cons.2 ⟨?_, ?_⟩)
    all_goals
      intro w w' v hw h
      first | exact h | exact NewSet.below h hw
  · simp only [AllLt]
    refine ⟨⟨⟨⟨⟨⟨⟨⟨⟨⟨⟨⟨⟨⟨⟨⟨⟨⟨⟨⟨⟨trivial, ?_⟩, ?_⟩, ?_⟩, ?_⟩, ?_⟩, ?_⟩, ?_⟩, ?_⟩, ?_⟩, ?_⟩, ?_⟩, ?_⟩, ?_⟩, ?_⟩, ?_⟩, ?_⟩, ?_⟩, ?_⟩, ?_⟩, ?_⟩, ?_⟩
    all_goals
      intro o' ho
      simp at ho
      subst ho
      intro ρ w5 hR hL hS hG
      obtain ⟨hl1, hl2, -⟩ := hL
    · refine plainG rfl ?_
      intro bA K Q' hK
      have e0 := hS 0 (by kernel_rfl)
      change ρ (.tmp 0) = _ at e0
      simp only [execOp]
      go_simp
      exact hK _ _ rfl (Grew.refl _)
    · refine plainG rfl ?_
      intro bA K Q' hK
      have e7 := hG 0 7 (by decide) (by kernel_rfl) (by kernel_rfl)
      change ρ (.tmp 7) = _ at e7
      simp only [execOp]
      go_simp
      exact hK _ _ rfl (Grew.refl _)
    · refine plainG rfl ?_
      intro bA K Q' hK
      have e8 := hG 1 8 (by decide) (by kernel_rfl) (by kernel_rfl)
      change ρ (.tmp 8) = _ at e8
      simp only [execOp]
      go_simp
      exact hK _ _ rfl (Grew.refl _)
    · refine plainG rfl ?_
      intro bA K Q' hK
      have e9 := hG 2 9 (by decide) (by kernel_rfl) (by kernel_rfl)
      change ρ (.tmp 9) = _ at e9
      simp only [execOp]
      go_simp
      exact hK _ _ rfl (Grew.refl _)
    · refine plainG rfl ?_
      intro bA K Q' hK
      have e10 := hG 3 10 (by decide) (by kernel_rfl) (by kernel_rfl)
      change ρ (.tmp 10) = _ at e10
      obtain ⟨y0, y1, y2⟩ := HC.out w5 hR
      simp only [execOp]
      go_simp
      exact hK _ _ rfl (Grew.refl _)
    · refine plainG rfl ?_
      intro bA K Q' hK
      have e11 := hG 4 11 (by decide) (by kernel_rfl) (by kernel_rfl)
      change ρ (.tmp 11) = _ at e11
      simp only [execOp]
      go_simp
      refine (HCP1.out w5 hR).mono ?_
      rintro r9 w9 ⟨⟨y, rfl, hy⟩, hb9⟩
      exact hK _ _ hy hb9
    · refine plainG rfl ?_
      intro bA K Q' hK
      have e0 := hS 0 (by kernel_rfl)
      change ρ (.tmp 0) = _ at e0
      simp only [execOp]
      go_simp
      exact hK _ _ rfl (Grew.refl _)
    · refine plainG rfl ?_
      intro bA K Q' hK
      have e13 := hG 6 13 (by decide) (by kernel_rfl) (by kernel_rfl)
      change ρ (.tmp 13) = _ at e13
      simp only [execOp]
      go_simp
      exact hK _ _ rfl (Grew.refl _)
    · refine plainG rfl ?_
      intro bA K Q' hK
      have e14 := hG 7 14 (by decide) (by kernel_rfl) (by kernel_rfl)
      change ρ (.tmp 14) = _ at e14
      simp only [execOp]
      go_simp
      exact hK _ _ rfl (Grew.refl _)
    · refine plainG rfl ?_
      intro bA K Q' hK
      have e15 := hG 8 15 (by decide) (by kernel_rfl) (by kernel_rfl)
      change ρ (.tmp 15) = _ at e15
      simp only [execOp]
      go_simp
      exact hK _ _ rfl (Grew.refl _)
    · refine plainG rfl ?_
      intro bA K Q' hK
      have e16 := hG 9 16 (by decide) (by kernel_rfl) (by kernel_rfl)
      change ρ (.tmp 16) = _ at e16
      obtain ⟨y0, y1, y2⟩ := HC.out w5 hR
      simp only [execOp]
      go_simp
      exact hK _ _ rfl (Grew.refl _)
    · refine plainG rfl ?_
      intro bA K Q' hK
      have e17 := hG 10 17 (by decide) (by kernel_rfl) (by kernel_rfl)
      change ρ (.tmp 17) = _ at e17
      simp only [execOp]
      go_simp
      refine (HCP2.out w5 hR).mono ?_
      rintro r9 w9 ⟨⟨y, rfl, hy⟩, hb9⟩
      exact hK _ _ hy hb9
    · refine plainG rfl ?_
      intro bA K Q' hK
      have e0 := hS 0 (by kernel_rfl)
      change ρ (.tmp 0) = _ at e0
      simp only [execOp]
      go_simp
      exact hK _ _ rfl (Grew.refl _)
    · refine plainG rfl ?_
      intro bA K Q' hK
      have e19 := hG 12 19 (by decide) (by kernel_rfl) (by kernel_rfl)
      change ρ (.tmp 19) = _ at e19
      simp only [execOp]
      go_simp
      exact hK _ _ rfl (Grew.refl _)
    · refine plainG rfl ?_
      intro bA K Q' hK
      have e20 := hG 13 20 (by decide) (by kernel_rfl) (by kernel_rfl)
      change ρ (.tmp 20) = _ at e20
      simp only [execOp]
      go_simp
      exact hK _ _ rfl (Grew.refl _)
    · refine plainG rfl ?_
      intro bA K Q' hK
      have e21 := hG 14 21 (by decide) (by kernel_rfl) (by kernel_rfl)
      change ρ (.tmp 21) = _ at e21
      simp only [execOp]
      go_simp
      exact hK _ _ rfl (Grew.refl _)
    · refine plainG rfl ?_
      intro bA K Q' hK
      have e22 := hG 15 22 (by decide) (by kernel_rfl) (by kernel_rfl)
      change ρ (.tmp 22) = _ at e22
      obtain ⟨y0, y1, y2⟩ := HC.out w5 hR
      simp only [execOp]
      go_simp
      exact hK _ _ rfl (Grew.refl _)
    · refine plainG rfl ?_
      intro bA K Q' hK
      have e23 := hG 16 23 (by decide) (by kernel_rfl) (by kernel_rfl)
      change ρ (.tmp 23) = _ at e23
      simp only [execOp]
      go_simp
      refine (HCP3.out w5 hR).mono ?_
      rintro r9 w9 ⟨⟨y, rfl, hy⟩, hb9⟩
      exact hK _ _ hy hb9
    · refine plainG rfl ?_
      intro bA K Q' hK
      have e12 := hG 5 12 (by decide) (by kernel_rfl) (by kernel_rfl)
      simp only [execOp]
      go_simp
      exact hK _ _ e12 (Grew.refl _)
    · refine plainG rfl ?_
      intro bA K Q' hK
      have e18 := hG 11 18 (by decide) (by kernel_rfl) (by kernel_rfl)
      simp only [execOp]
      go_simp
      exact hK _ _ e18 (Grew.refl _)
    · refine plainG rfl ?_
      intro bA K Q' hK
      have e24 := hG 17 24 (by decide) (by kernel_rfl) (by kernel_rfl)
      simp only [execOp]
      go_simp
      exact hK _ _ e24 (Grew.refl _)
  · intro v w3 hR hG
    have h1 : NewSet w.heap.size w3 (v 18) (setK isC ks) := hG.1.1.2
    have h2 : NewSet w.heap.size w3 (v 19) (setK isS ks) := hG.1.2
    have h3 : NewSet w.heap.size w3 (v 20) (setK isP ks) := hG.2
    have H1 := hid h1
    have H2 := hid h2
    have H3 := hid h3
    have hb : Below w.heap.size w w3 := ⟨hR.os, hR.tape, hR.output, hR.size, hR.block⟩
    have HB3 := hid hb
    clear hG hR hb h1 h2 h3 HC HCP1 HCP2 HCP3
    simp [stG, stU, dstAt, Act.put]
    go_wp2_with fail
    go_ret3
    exact ⟨⟨_, _, _, rfl, H1.out, H2.out, H3.out⟩, HB3.out⟩
theorem allocSame_nil (w : World) : Calls Tryd.prog 25 #[.pointer none, .pointer none] w fun e w' => e = .returned (.bool true) ∧ w = w' := by
  go_enter Tryd.func25, Tryd.ntmps25
  go_wp2_with fail
  go_ret
  exact ⟨rfl, rfl⟩
theorem allocSame_some_nil (p : Nat) (w : World) : Calls Tryd.prog 25 #[.pointer (some ⟨p, 0, none⟩), .pointer none] w fun e w' => e = .returned (.bool false) ∧ w = w' := by
  go_enter Tryd.func25, Tryd.ntmps25
  go_wp2_with fail
  go_ret
  exact ⟨rfl, rfl⟩
set_option maxRecDepth 20000 in
set_option maxHeartbeats 4000000 in
theorem allocSame_eq {C C' : Nat → Nat} {p p' : Nat} {v1 v2 v3 u1 u2 u3 : Value} {m1 m2 m3 : List Bool} {w : World} (h : Al3 C w p v1 v2 v3 m1 m2 m3) (h' : Al3 C' w p' u1 u2 u3 m1 m2 m3) :
    Calls Tryd.prog 25 #[.pointer (some ⟨p, 0, none⟩), .pointer (some ⟨p', 0, none⟩)] w fun e w' => e = .returned (.bool true) ∧ Below w.heap.size w w' := by
  have HAL := hid h
  have HAL' := hid h'
  have HC : Hid (∀ x, Grew w.drew x → (x.cell? ⟨p, 0, none⟩ = some v1 ∧ x.cell? ⟨p, 1, none⟩ = some v2 ∧ x.cell? ⟨p, 2, none⟩ = some v3) ∧ x.cell? ⟨p', 0, none⟩ = some u1 ∧ x.cell? ⟨p', 1, none⟩ = some u2 ∧ x.cell? ⟨p', 2, none⟩ = some u3) := hid fun x hx => by
    have hb : Below w.heap.size w x := ⟨hx.os, hx.tape, hx.output, hx.size, hx.block⟩
    exact ⟨⟨(HAL.out.below hb).c0, (HAL.out.below hb).c1, (HAL.out.below hb).c2⟩, (HAL'.out.below hb).c0, (HAL'.out.below hb).c1, (HAL'.out.below hb).c2⟩
  have HS1 : Hid (∀ x, Grew w.drew x → Calls Tryd.prog 43 #[v1, u1] x fun e w' => e = .returned (.bool true) ∧ Below x.heap.size x w') := hid fun x hx => by
    have hb : Below w.heap.size w x := ⟨hx.os, hx.tape, hx.output, hx.size, hx.block⟩
    refine (sameSet_any (fun _ => True) v1 u1 m1 m1 x ((HAL.out.below hb).s1.bm.mono fun _ _ _ => trivial) ((HAL'.out.below hb).s1.bm.mono fun _ _ _ => trivial)).mono ?_
    rintro e w' ⟨rfl, h2⟩
    exact ⟨by rw [decide_eq_true rfl], h2⟩
  have HS2 : Hid (∀ x, Grew w.drew x → Calls Tryd.prog 43 #[v2, u2] x fun e w' => e = .returned (.bool true) ∧ Below x.heap.size x w') := hid fun x hx => by
    have hb : Below w.heap.size w x := ⟨hx.os, hx.tape, hx.output, hx.size, hx.block⟩
    refine (sameSet_any (fun _ => True) v2 u2 m2 m2 x ((HAL.out.below hb).s2.bm.mono fun _ _ _ => trivial) ((HAL'.out.below hb).s2.bm.mono fun _ _ _ => trivial)).mono ?_
    rintro e w' ⟨rfl, h2⟩
    exact ⟨by rw [decide_eq_true rfl], h2⟩
  have HS3 : Hid (∀ x, Grew w.drew x → Calls Tryd.prog 43 #[v3, u3] x fun e w' => e = .returned (.bool true) ∧ Below x.heap.size x w') := hid fun x hx => by
    have hb : Below w.heap.size w x := ⟨hx.os, hx.tape, hx.output, hx.size, hx.block⟩
    refine (sameSet_any (fun _ => True) v3 u3 m3 m3 x ((HAL.out.below hb).s3.bm.mono fun _ _ _ => trivial) ((HAL'.out.below hb).s3.bm.mono fun _ _ _ => trivial)).mono ?_
    rintro e w' ⟨rfl, h2⟩
    exact ⟨by rw [decide_eq_true rfl], h2⟩
  clear h h'
  go_enter Tryd.func25, Tryd.ntmps25
  go_wp2_with fail
  refine wp_region_grows 38 [Eqv' (.pointer (some ⟨p, 0, none⟩)), Eqv' (.pointer (some ⟨p, 0, none⟩)), Eqv' (.pointer (some ⟨p, 0, none⟩)), Eqv' (.pointer (some ⟨p, 0, none⟩)), Eqv' (v1), Eqv' (.pointer (some ⟨p', 0, none⟩)), Eqv' (.pointer (some ⟨p', 0, none⟩)), Eqv' (.pointer (some ⟨p', 0, none⟩)), Eqv' (.pointer (some ⟨p', 0, none⟩)), Eqv' (u1), Eqv' (.bool true), Eqv' (.bool true), Eqv' (.pointer (some ⟨p, 0, none⟩)), Eqv' (.pointer (some ⟨p, 0, none⟩)), Eqv' (.pointer (some ⟨p, 0, none⟩)), Eqv' (.pointer (some ⟨p, 1, none⟩)), Eqv' (v2), Eqv' (.pointer (some ⟨p', 0, none⟩)), Eqv' (.pointer (some ⟨p', 0, none⟩)), Eqv' (.pointer (some ⟨p', 0, none⟩)), Eqv' (.pointer (some ⟨p', 1, none⟩)), Eqv' (u2), Eqv' (.bool true), Eqv' (.bool true), Eqv' (.bool true), Eqv' (.pointer (some ⟨p, 0, none⟩)), Eqv' (.pointer (some ⟨p, 0, none⟩)), Eqv' (.pointer (some ⟨p, 0, none⟩)), Eqv' (.pointer (some ⟨p, 2, none⟩)), Eqv' (v3), Eqv' (.pointer (some ⟨p', 0, none⟩)), Eqv' (.pointer (some ⟨p', 0, none⟩)), Eqv' (.pointer (some ⟨p', 0, none⟩)), Eqv' (.pointer (some ⟨p', 2, none⟩)), Eqv' (u3), Eqv' (.bool true), Eqv' (.bool true), Eqv' (.bool true)] (by kernel_rfl) (by decide) (by kernel_rfl) ?_ ?_ ?_
  · repeat' (first | exact List.forall_mem_nil _ | refine List.forall_mem_cons.2 ⟨?_, ?_⟩)
    all_goals
      intro w w' v hw h
      first | exact h | exact h
  · simp only [AllLt]
    refine ⟨⟨⟨⟨⟨⟨⟨⟨⟨⟨⟨⟨⟨⟨⟨⟨⟨⟨⟨⟨⟨⟨⟨⟨⟨⟨⟨⟨⟨⟨⟨⟨⟨⟨⟨⟨⟨⟨trivial, ?_⟩, ?_⟩, ?_⟩, ?_⟩, ?_⟩, ?_⟩, ?_⟩, ?_⟩, ?_⟩, ?_⟩, ?_⟩, ?_⟩, ?_⟩, ?_⟩, ?_⟩, ?_⟩, ?_⟩, ?_⟩, ?_⟩, ?_⟩, ?_⟩, ?_⟩, ?_⟩, ?_⟩, ?_⟩, ?_⟩, ?_⟩, ?_⟩, ?_⟩, ?_⟩, ?_⟩, ?_⟩, ?_⟩, ?_⟩, ?_⟩, ?_⟩, ?_⟩, ?_⟩
    all_goals
      intro o' ho
      simp at ho
      subst ho
      intro ρ w5 hR hL hS hG
      obtain ⟨hl1, hl2, -⟩ := hL
    · refine plainG rfl ?_
      intro bA K Q' hK
      have e0 := hS 0 (by kernel_rfl)
      change ρ (.tmp 0) = _ at e0
      simp only [execOp]
      go_simp
      exact hK _ _ rfl (Grew.refl _)
    · refine plainG rfl ?_
      intro bA K Q' hK
      have e14 := hG 0 14 (by decide) (by kernel_rfl) (by kernel_rfl)
      change ρ (.tmp 14) = _ at e14
      simp only [execOp]
      go_simp
      exact hK _ _ rfl (Grew.refl _)
    · refine plainG rfl ?_
      intro bA K Q' hK
      have e15 := hG 1 15 (by decide) (by kernel_rfl) (by kernel_rfl)
      change ρ (.tmp 15) = _ at e15
      simp only [execOp]
      go_simp
      exact hK _ _ rfl (Grew.refl _)
    · refine plainG rfl ?_
      intro bA K Q' hK
      have e16 := hG 2 16 (by decide) (by kernel_rfl) (by kernel_rfl)
      change ρ (.tmp 16) = _ at e16
      simp only [execOp]
      go_simp
      exact hK _ _ rfl (Grew.refl _)
    · refine plainG rfl ?_
      intro bA K Q' hK
      have e17 := hG 3 17 (by decide) (by kernel_rfl) (by kernel_rfl)
      change ρ (.tmp 17) = _ at e17
      obtain ⟨⟨y0, y1, y2⟩, z0, z1, z2⟩ := HC.out w5 hR
      simp only [execOp]
      go_simp
      exact hK _ _ rfl (Grew.refl _)
    · refine plainG rfl ?_
      intro bA K Q' hK
      have e1 := hS 1 (by kernel_rfl)
      change ρ (.tmp 1) = _ at e1
      simp only [execOp]
      go_simp
      exact hK _ _ rfl (Grew.refl _)
    · refine plainG rfl ?_
      intro bA K Q' hK
      have e19 := hG 5 19 (by decide) (by kernel_rfl) (by kernel_rfl)
      change ρ (.tmp 19) = _ at e19
      simp only [execOp]
      go_simp
      exact hK _ _ rfl (Grew.refl _)
    · refine plainG rfl ?_
      intro bA K Q' hK
      have e20 := hG 6 20 (by decide) (by kernel_rfl) (by kernel_rfl)
      change ρ (.tmp 20) = _ at e20
      simp only [execOp]
      go_simp
      exact hK _ _ rfl (Grew.refl _)
    · refine plainG rfl ?_
      intro bA K Q' hK
      have e21 := hG 7 21 (by decide) (by kernel_rfl) (by kernel_rfl)
      change ρ (.tmp 21) = _ at e21
      simp only [execOp]
      go_simp
      exact hK _ _ rfl (Grew.refl _)
    · refine plainG rfl ?_
      intro bA K Q' hK
      have e22 := hG 8 22 (by decide) (by kernel_rfl) (by kernel_rfl)
      change ρ (.tmp 22) = _ at e22
      obtain ⟨⟨y0, y1, y2⟩, z0, z1, z2⟩ := HC.out w5 hR
      simp only [execOp]
      go_simp
      exact hK _ _ rfl (Grew.refl _)
    · refine plainG rfl ?_
      intro bA K Q' hK
      have e18 := hG 4 18 (by decide) (by kernel_rfl) (by kernel_rfl)
      have e23 := hG 9 23 (by decide) (by kernel_rfl) (by kernel_rfl)
      change ρ (.tmp 18) = _ at e18
      change ρ (.tmp 23) = _ at e23
      simp only [execOp]
      go_simp
      refine (HS1.out w5 hR).mono ?_
      rintro r9 w9 ⟨rfl, hb9⟩
      exact hK _ _ rfl hb9
    · refine plainG rfl ?_
      intro bA K Q' hK
      have e24 := hG 10 24 (by decide) (by kernel_rfl) (by kernel_rfl)
      change ρ (.tmp 24) = _ at e24
      simp only [execOp]
      go_simp
      exact hK _ _ rfl (Grew.refl _)
    · have eG : ρ (.tmp 25) = _ := hG 11 25 (by decide) (by kernel_rfl) (by kernel_rfl)
      refine onG rfl (by kernel_rfl) eG ?_
      intro bA K Q' hK
      have e0 := hS 0 (by kernel_rfl)
      change ρ (.tmp 0) = _ at e0
      simp only [execOp]
      go_simp
      exact hK _ _ rfl (Grew.refl _)
    · have eG : ρ (.tmp 25) = _ := hG 11 25 (by decide) (by kernel_rfl) (by kernel_rfl)
      refine onG rfl (by kernel_rfl) eG ?_
      intro bA K Q' hK
      have e26 := hG 12 26 (by decide) (by kernel_rfl) (by kernel_rfl)
      change ρ (.tmp 26) = _ at e26
      simp only [execOp]
      go_simp
      exact hK _ _ rfl (Grew.refl _)
    · have eG : ρ (.tmp 25) = _ := hG 11 25 (by decide) (by kernel_rfl) (by kernel_rfl)
      refine onG rfl (by kernel_rfl) eG ?_
      intro bA K Q' hK
      have e27 := hG 13 27 (by decide) (by kernel_rfl) (by kernel_rfl)
      change ρ (.tmp 27) = _ at e27
      simp only [execOp]
      go_simp
      exact hK _ _ rfl (Grew.refl _)
    · have eG : ρ (.tmp 25) = _ := hG 11 25 (by decide) (by kernel_rfl) (by kernel_rfl)
      refine onG rfl (by kernel_rfl) eG ?_
      intro bA K Q' hK
      have e28 := hG 14 28 (by decide) (by kernel_rfl) (by kernel_rfl)
      change ρ (.tmp 28) = _ at e28
      simp only [execOp]
      go_simp
      exact hK _ _ rfl (Grew.refl _)
    · have eG : ρ (.tmp 25) = _ := hG 11 25 (by decide) (by kernel_rfl) (by kernel_rfl)
      refine onG rfl (by kernel_rfl) eG ?_
      intro bA K Q' hK
      have e29 := hG 15 29 (by decide) (by kernel_rfl) (by kernel_rfl)
      change ρ (.tmp 29) = _ at e29
      obtain ⟨⟨y0, y1, y2⟩, z0, z1, z2⟩ := HC.out w5 hR
      simp only [execOp]
      go_simp
      exact hK _ _ rfl (Grew.refl _)
    · have eG : ρ (.tmp 25) = _ := hG 11 25 (by decide) (by kernel_rfl) (by kernel_rfl)
      refine onG rfl (by kernel_rfl) eG ?_
      intro bA K Q' hK
      have e1 := hS 1 (by kernel_rfl)
      change ρ (.tmp 1) = _ at e1
      simp only [execOp]
      go_simp
      exact hK _ _ rfl (Grew.refl _)
    · have eG : ρ (.tmp 25) = _ := hG 11 25 (by decide) (by kernel_rfl) (by kernel_rfl)
      refine onG rfl (by kernel_rfl) eG ?_
      intro bA K Q' hK
      have e31 := hG 17 31 (by decide) (by kernel_rfl) (by kernel_rfl)
      change ρ (.tmp 31) = _ at e31
      simp only [execOp]
      go_simp
      exact hK _ _ rfl (Grew.refl _)
    · have eG : ρ (.tmp 25) = _ := hG 11 25 (by decide) (by kernel_rfl) (by kernel_rfl)
      refine onG rfl (by kernel_rfl) eG ?_
      intro bA K Q' hK
      have e32 := hG 18 32 (by decide) (by kernel_rfl) (by kernel_rfl)
      change ρ (.tmp 32) = _ at e32
      simp only [execOp]
      go_simp
      exact hK _ _ rfl (Grew.refl _)
    · have eG : ρ (.tmp 25) = _ := hG 11 25 (by decide) (by kernel_rfl) (by kernel_rfl)
      refine onG rfl (by kernel_rfl) eG ?_
      intro bA K Q' hK
      have e33 := hG 19 33 (by decide) (by kernel_rfl) (by kernel_rfl)
      change ρ (.tmp 33) = _ at e33
      simp only [execOp]
      go_simp
      exact hK _ _ rfl (Grew.refl _)
    · have eG : ρ (.tmp 25) = _ := hG 11 25 (by decide) (by kernel_rfl) (by kernel_rfl)
      refine onG rfl (by kernel_rfl) eG ?_
      intro bA K Q' hK
      have e34 := hG 20 34 (by decide) (by kernel_rfl) (by kernel_rfl)
      change ρ (.tmp 34) = _ at e34
      obtain ⟨⟨y0, y1, y2⟩, z0, z1, z2⟩ := HC.out w5 hR
      simp only [execOp]
      go_simp
      exact hK _ _ rfl (Grew.refl _)
    · have eG : ρ (.tmp 25) = _ := hG 11 25 (by decide) (by kernel_rfl) (by kernel_rfl)
      refine onG rfl (by kernel_rfl) eG ?_
      intro bA K Q' hK
      have e30 := hG 16 30 (by decide) (by kernel_rfl) (by kernel_rfl)
      have e35 := hG 21 35 (by decide) (by kernel_rfl) (by kernel_rfl)
      change ρ (.tmp 30) = _ at e30
      change ρ (.tmp 35) = _ at e35
      simp only [execOp]
      go_simp
      refine (HS2.out w5 hR).mono ?_
      rintro r9 w9 ⟨rfl, hb9⟩
      exact hK _ _ rfl hb9
    · refine plainG rfl ?_
      intro bA K Q' hK
      have e25 := hG 11 25 (by decide) (by kernel_rfl) (by kernel_rfl)
      have e36 := hG 22 36 (by decide) (by kernel_rfl) (by kernel_rfl)
      change ρ (.tmp 25) = _ at e25
      change ρ (.tmp 36) = _ at e36
      simp only [execOp]
      go_simp
      exact hK _ _ rfl (Grew.refl _)
    · refine plainG rfl ?_
      intro bA K Q' hK
      have e37 := hG 23 37 (by decide) (by kernel_rfl) (by kernel_rfl)
      change ρ (.tmp 37) = _ at e37
      simp only [execOp]
      go_simp
      exact hK _ _ rfl (Grew.refl _)
    · have eG : ρ (.tmp 38) = _ := hG 24 38 (by decide) (by kernel_rfl) (by kernel_rfl)
      refine onG rfl (by kernel_rfl) eG ?_
      intro bA K Q' hK
      have e0 := hS 0 (by kernel_rfl)
      change ρ (.tmp 0) = _ at e0
      simp only [execOp]
      go_simp
      exact hK _ _ rfl (Grew.refl _)
    · have eG : ρ (.tmp 38) = _ := hG 24 38 (by decide) (by kernel_rfl) (by kernel_rfl)
      refine onG rfl (by kernel_rfl) eG ?_
      intro bA K Q' hK
      have e39 := hG 25 39 (by decide) (by kernel_rfl) (by kernel_rfl)
      change ρ (.tmp 39) = _ at e39
      simp only [execOp]
      go_simp
      exact hK _ _ rfl (Grew.refl _)
    · have eG : ρ (.tmp 38) = _ := hG 24 38 (by decide) (by kernel_rfl) (by kernel_rfl)
      refine onG rfl (by kernel_rfl) eG ?_
      intro bA K Q' hK
      have e40 := hG 26 40 (by decide) (by kernel_rfl) (by kernel_rfl)
      change ρ (.tmp 40) = _ at e40
      simp only [execOp]
      go_simp
      exact hK _ _ rfl (Grew.refl _)
    · have eG : ρ (.tmp 38) = _ := hG 24 38 (by decide) (by kernel_rfl) (by kernel_rfl)
      refine onG rfl (by kernel_rfl) eG ?_
      intro bA K Q' hK
      have e41 := hG 27 41 (by decide) (by kernel_rfl) (by kernel_rfl)
      change ρ (.tmp 41) = _ at e41
      simp only [execOp]
      go_simp
      exact hK _ _ rfl (Grew.refl _)
    · have eG : ρ (.tmp 38) = _ := hG 24 38 (by decide) (by kernel_rfl) (by kernel_rfl)
      refine onG rfl (by kernel_rfl) eG ?_
      intro bA K Q' hK
      have e42 := hG 28 42 (by decide) (by kernel_rfl) (by kernel_rfl)
      change ρ (.tmp 42) = _ at e42
      obtain ⟨⟨y0, y1, y2⟩, z0, z1, z2⟩ := HC.out w5 hR
      simp only [execOp]
      go_simp
      exact hK _ _ rfl (Grew.refl _)
    · have eG : ρ (.tmp 38) = _ := hG 24 38 (by decide) (by kernel_rfl) (by kernel_rfl)
      refine onG rfl (by kernel_rfl) eG ?_
      intro bA K Q' hK
      have e1 := hS 1 (by kernel_rfl)
      change ρ (.tmp 1) = _ at e1
      simp only [execOp]
      go_simp
      exact hK _ _ rfl (Grew.refl _)
    · have eG : ρ (.tmp 38) = _ := hG 24 38 (by decide) (by kernel_rfl) (by kernel_rfl)
      refine onG rfl (by kernel_rfl) eG ?_
      intro bA K Q' hK
      have e44 := hG 30 44 (by decide) (by kernel_rfl) (by kernel_rfl)
      change ρ (.tmp 44) = _ at e44
      simp only [execOp]
      go_simp
      exact hK _ _ rfl (Grew.refl _)
    · have eG : ρ (.tmp 38) = _ := hG 24 38 (by decide) (by kernel_rfl) (by kernel_rfl)
      refine onG rfl (by kernel_rfl) eG ?_
      intro bA K Q' hK
      have e45 := hG 31 45 (by decide) (by kernel_rfl) (by kernel_rfl)
      change ρ (.tmp 45) = _ at e45
      simp only [execOp]
      go_simp
      exact hK _ _ rfl (Grew.refl _)
    · have eG : ρ (.tmp 38) = _ := hG 24 38 (by decide) (by kernel_rfl) (by kernel_rfl)
      refine onG rfl (by kernel_rfl) eG ?_
      intro bA K Q' hK
      have e46 := hG 32 46 (by decide) (by kernel_rfl) (by kernel_rfl)
      change ρ (.tmp 46) = _ at e46
      simp only [execOp]
      go_simp
      exact hK _ _ rfl (Grew.refl _)
    · have eG : ρ (.tmp 38) = _ := hG 24 38 (by decide) (by kernel_rfl) (by kernel_rfl)
      refine onG rfl (by kernel_rfl) eG ?_
      intro bA K Q' hK
      have e47 := hG 33 47 (by decide) (by kernel_rfl) (by kernel_rfl)
      change ρ (.tmp 47) = _ at e47
      obtain ⟨⟨y0, y1, y2⟩, z0, z1, z2⟩ := HC.out w5 hR
      simp only [execOp]
      go_simp
      exact hK _ _ rfl (Grew.refl _)
    · have eG : ρ (.tmp 38) = _ := hG 24 38 (by decide) (by kernel_rfl) (by kernel_rfl)
      refine onG rfl (by kernel_rfl) eG ?_
      intro bA K Q' hK
      have e43 := hG 29 43 (by decide) (by kernel_rfl) (by kernel_rfl)
      have e48 := hG 34 48 (by decide) (by kernel_rfl) (by kernel_rfl)
      change ρ (.tmp 43) = _ at e43
      change ρ (.tmp 48) = _ at e48
      simp only [execOp]
      go_simp
      refine (HS3.out w5 hR).mono ?_
      rintro r9 w9 ⟨rfl, hb9⟩
      exact hK _ _ rfl hb9
    · refine plainG rfl ?_
      intro bA K Q' hK
      have e38 := hG 24 38 (by decide) (by kernel_rfl) (by kernel_rfl)
      have e49 := hG 35 49 (by decide) (by kernel_rfl) (by kernel_rfl)
      change ρ (.tmp 38) = _ at e38
      change ρ (.tmp 49) = _ at e49
      simp only [execOp]
      go_simp
      exact hK _ _ rfl (Grew.refl _)
    · refine plainG rfl ?_
      intro bA K Q' hK
      have e50 := hG 36 50 (by decide) (by kernel_rfl) (by kernel_rfl)
      change ρ (.tmp 50) = _ at e50
      simp only [execOp]
      go_simp
      exact hK _ _ rfl (Grew.refl _)
  · intro v w3 hR hG
    have h1 : v 37 = .bool true := hG.2
    have hb : Below w.heap.size w w3 := ⟨hR.os, hR.tape, hR.output, hR.size, hR.block⟩
    have HB3 := hid hb
    clear hG hR hb HC HS1 HS2 HS3
    simp [stG, stU, dstAt, Act.put, h1]
    clear h1
    go_wp2_with fail
    go_ret
    exact ⟨rfl, HB3.out⟩
end Go.Proofs.YtjgnnofpilmgoaaDoor
