/- CONTRACTS: a frame of one kind as one of the other. -/
import Derived.Test.YtmdimhijbmeioaaFrC
import Derived.Test.YtmdimhijbmeioaaFrLib
import Derived.Lib.MinMax
namespace Go.Proofs.Ytmdimhijbmeioaa
open Go.RowKit Go.Inc

set_option maxHeartbeats 1000000 in
theorem of_any (k e p : Int) (a : Option Addr) (n c : Nat) (w : World) :
    Calls Try.prog 9 #[.agg #[.int .i64 k, .int .i64 e, .int .i64 p, .slice a n c]] w fun r w' => r = .returned (.agg #[.int .i64 k, .int .i64 e, .int .i64 p, .slice a n c]) ∧ Below w.heap.size w w' := by
  go_enter Try.func9, Try.ntmps9
  go_wp2_with fail
  refine bodyPost_ret (v := .agg #[.int .i64 k, .int .i64 e, .int .i64 p, .slice a n c]) (results_cell_row rfl _ _ (w.heap.size + 1) 24 _ (0, 0) _ rfl (heap_alloc2_new w _ _) Try.underlying24 rfl (by kernel_rfl)) rfl ⟨rfl, ?_⟩
  exact ((Below.refl _ _).alloc (Nat.le_refl _) _).alloc (by simp) _

set_option maxRecDepth 20000 in
set_option maxHeartbeats 2000000 in
theorem to_any (ok : Nat → Prop) (k e p : Int) (a : Option Addr) (c : Nat) (bs : List Nat) (w : World) (hs : Sl ok w a bs) (hc : bs.length ≤ c ∧ c ≤ maxLen) (hn : a = none → c = 0) :
    Calls Try.prog 8 #[.agg #[.int .i64 k, .int .i64 e, .int .i64 p, .slice a bs.length c]] w fun r w' => ∃ v, r = .returned (.agg #[.int .i64 k, .int .i64 e, .int .i64 p, v]) ∧ Bb (fun b => w.heap.size ≤ b) w' v (bs.take 250) ∧ Below w.heap.size w w' := by
  obtain ⟨bh, hbh⟩ : ∃ bh, bh = bs.take 250 := ⟨_, rfl⟩
  have hmin : min (bs.length : Int) 250 = (bh.length : Int) := by rw [hbh, List.length_take]; omega
  have hl1 : (bh.length : Int) ≤ bs.length := by omega
  have hl2 : (bh.length : Int) ≤ c := by omega
  have hl3 : bh.length ≤ 250 := by rw [hbh, List.length_take]; omega
  obtain ⟨wb, hwb⟩ : ∃ wb, wb = (w.alloc (.cells #[.int .i64 k, .int .i64 e, .int .i64 p, .slice a bs.length c] 24)).alloc (.cells #[.int .i64 0, .int .i64 0, .int .i64 0, .slice none 0 0] 25) := ⟨_, rfl⟩
  have hb : Below w.heap.size w wb := by rw [hwb]; exact ((Below.refl _ _).alloc (Nat.le_refl _) _).alloc (by simp) _
  have hr1 : wb.heap[w.heap.size]? = some (.cells #[.int .i64 k, .int .i64 e, .int .i64 p, .slice a bs.length c] 24 (0, 0)) := by rw [hwb]; exact heap_alloc2_old w _ _
  have hr2 : wb.heap[w.heap.size + 1]? = some (.cells #[.int .i64 0, .int .i64 0, .int .i64 0, .slice none 0 0] 25 (0, 0)) := by rw [hwb]; exact heap_alloc2_new w _ _
  have HB := hid hb
  have HR1 := hid hr1
  have HR2 := hid hr2
  have HSL : Hid (Sl ok wb a bh) := hid (by rw [hbh]; exact (hs.below hb).front 250)
  have HBH := hid hbh
  have HWB := hid hwb
  have HN := hid hn
  have HC : Hid (∀ x, Grew wb.drew x → x.cell? ⟨w.heap.size, 0, none⟩ = some (.int .i64 k) ∧ x.cell? ⟨w.heap.size, 1, none⟩ = some (.int .i64 e) ∧ x.cell? ⟨w.heap.size, 2, none⟩ = some (.int .i64 p) ∧ x.cell? ⟨w.heap.size, 3, none⟩ = some (.slice a bs.length c)) := hid fun x hx => by
    have hr : x.heap[w.heap.size]? = _ := row_below (w := wb.drew) HR1.out hx
    exact ⟨cell_of_row x _ 0 _ _ _ hr, cell_of_row x _ 1 _ _ _ hr, cell_of_row x _ 2 _ _ _ hr, cell_of_row x _ 3 _ _ _ hr⟩
  have HSZ : Hid (w.heap.size + 2 ≤ wb.drew.heap.size) := hid (by show w.heap.size + 2 ≤ wb.heap.size; rw [hwb]; simp)
  have HAP : Hid (∀ x, Grew wb.drew x → ∀ g, ∃ v' w', (Builtin.append_ #[22, 22] 22 #[.slice (some ⟨g, 0, none⟩) 0 0, .slice a bh.length c]).run Try.prog x = .ok v' w' ∧ Bb (fun b => x.heap.size ≤ b) w' v' bh ∧ Below x.heap.size x w') := hid fun x hx g =>
    run_append_lit x 22 22 5 (.int .u8 0) 1 Try.underlying22 infoU8 g ok a c bh (Sl.below (w := wb.drew) HSL.out hx) HN.out (by unfold maxLen; omega) (by omega)
  clear hs hb hr1 hr2 hbh hwb hn
  go_enter Try.func8, Try.ntmps8
  go_wp2_with fail
  rw [← HWB.out]
  refine wp_region_grows 16 [Eqv' (.pointer (some ⟨w.heap.size, 0, none⟩)), Eqv' (.int .i64 k), Eqv' (.pointer (some ⟨w.heap.size, 1, none⟩)), Eqv' (.int .i64 e), Eqv' (.pointer (some ⟨w.heap.size, 2, none⟩)), Eqv' (.int .i64 p),
    (fun _ v => ∃ g, v = .slice (some ⟨g, 0, none⟩) 0 0), Eqv' (.pointer (some ⟨w.heap.size, 3, none⟩)), Eqv' (.slice a bs.length c), Eqv' (.pointer (some ⟨w.heap.size, 3, none⟩)), Eqv' (.slice a bs.length c), Eqv' (.int .i64 bs.length), Eqv' (.int .i64 bh.length),
    Eqv' (.slice a bh.length c), (fun x v => Bb (fun b => w.heap.size + 2 ≤ b) x v bh), (fun x v => ∃ a' c', v = .agg #[.int .i64 k, .int .i64 e, .int .i64 p, .slice a' bh.length c'] ∧ Sl (fun b => w.heap.size + 2 ≤ b) x a' bh ∧ bh.length ≤ c' ∧ c' ≤ maxLen ∧ (a' = none → c' = 0))] (by kernel_rfl) (by decide) (by kernel_rfl) ?_ ?_ ?_
  · repeat' (first | exact List.forall_mem_nil _ | refine List.forall_mem_cons.2 ⟨?_, ?_⟩)
    all_goals
      intro w w' v hw h
      first | exact h | exact Bb.below h hw | (obtain ⟨a', c', rfl, h1, h2⟩ := h; exact ⟨a', c', rfl, h1.below hw, h2⟩)
  · simp only [AllLt]
    refine ⟨⟨⟨⟨⟨⟨⟨⟨⟨⟨⟨⟨⟨⟨⟨⟨trivial, ?_⟩, ?_⟩, ?_⟩, ?_⟩, ?_⟩, ?_⟩, ?_⟩, ?_⟩, ?_⟩, ?_⟩, ?_⟩, ?_⟩, ?_⟩, ?_⟩, ?_⟩, ?_⟩
    all_goals
      intro o ho
      simp at ho
      subst ho
      intro ρ w2 hR hL hS hG
      obtain ⟨hl1, hl2, -⟩ := hL
    · refine plainG rfl ?_
      intro bA K Q' hK
      have e1 := hS 1 (by kernel_rfl)
      change ρ (.tmp 1) = _ at e1
      simp only [execOp]
      go_simp
      exact hK _ _ rfl (Grew.refl _)
    · refine plainG rfl ?_
      intro bA K Q' hK
      have e3 := hG 0 3 (by decide) (by kernel_rfl) (by kernel_rfl)
      change ρ (.tmp 3) = _ at e3
      obtain ⟨c0, c1, c2, c3⟩ := HC.out w2 hR
      simp only [execOp]
      go_simp
      exact hK _ _ rfl (Grew.refl _)
    · refine plainG rfl ?_
      intro bA K Q' hK
      have e1 := hS 1 (by kernel_rfl)
      change ρ (.tmp 1) = _ at e1
      simp only [execOp]
      go_simp
      exact hK _ _ rfl (Grew.refl _)
    · refine plainG rfl ?_
      intro bA K Q' hK
      have e5 := hG 2 5 (by decide) (by kernel_rfl) (by kernel_rfl)
      change ρ (.tmp 5) = _ at e5
      obtain ⟨c0, c1, c2, c3⟩ := HC.out w2 hR
      simp only [execOp]
      go_simp
      exact hK _ _ rfl (Grew.refl _)
    · refine plainG rfl ?_
      intro bA K Q' hK
      have e1 := hS 1 (by kernel_rfl)
      change ρ (.tmp 1) = _ at e1
      simp only [execOp]
      go_simp
      exact hK _ _ rfl (Grew.refl _)
    · refine plainG rfl ?_
      intro bA K Q' hK
      have e7 := hG 4 7 (by decide) (by kernel_rfl) (by kernel_rfl)
      change ρ (.tmp 7) = _ at e7
      obtain ⟨c0, c1, c2, c3⟩ := HC.out w2 hR
      simp only [execOp]
      go_simp
      exact hK _ _ rfl (Grew.refl _)
    · refine plainG rfl ?_
      intro bA K Q' hK
      simp only [execOp]
      go_simp
      exact hK _ _ ⟨_, rfl⟩ ((Grew.refl _).alloc _)
    · refine plainG rfl ?_
      intro bA K Q' hK
      have e1 := hS 1 (by kernel_rfl)
      change ρ (.tmp 1) = _ at e1
      simp only [execOp]
      go_simp
      exact hK _ _ rfl (Grew.refl _)
    · refine plainG rfl ?_
      intro bA K Q' hK
      have e10 := hG 7 10 (by decide) (by kernel_rfl) (by kernel_rfl)
      change ρ (.tmp 10) = _ at e10
      obtain ⟨c0, c1, c2, c3⟩ := HC.out w2 hR
      simp only [execOp]
      go_simp
      exact hK _ _ rfl (Grew.refl _)
    · refine plainG rfl ?_
      intro bA K Q' hK
      have e1 := hS 1 (by kernel_rfl)
      change ρ (.tmp 1) = _ at e1
      simp only [execOp]
      go_simp
      exact hK _ _ rfl (Grew.refl _)
    · refine plainG rfl ?_
      intro bA K Q' hK
      have e12 := hG 9 12 (by decide) (by kernel_rfl) (by kernel_rfl)
      change ρ (.tmp 12) = _ at e12
      obtain ⟨c0, c1, c2, c3⟩ := HC.out w2 hR
      simp only [execOp]
      go_simp
      exact hK _ _ rfl (Grew.refl _)
    · refine plainG rfl ?_
      intro bA K Q' hK
      have e13 := hG 10 13 (by decide) (by kernel_rfl) (by kernel_rfl)
      change ρ (.tmp 13) = _ at e13
      simp only [execOp]
      go_simp
      exact hK _ _ rfl (Grew.refl _)
    · refine plainG rfl ?_
      intro bA K Q' hK
      have e14 := hG 11 14 (by decide) (by kernel_rfl) (by kernel_rfl)
      change ρ (.tmp 14) = _ at e14
      simp only [execOp]
      go_simp
      exact hK _ _ rfl (Grew.refl _)
    · refine plainG rfl ?_
      intro bA K Q' hK
      have e11 := hG 8 11 (by decide) (by kernel_rfl) (by kernel_rfl)
      have e15 := hG 12 15 (by decide) (by kernel_rfl) (by kernel_rfl)
      change ρ (.tmp 11) = _ at e11
      change ρ (.tmp 15) = _ at e15
      simp only [execOp]
      go_simp
      exact hK _ _ rfl (Grew.refl _)
    · refine plainG rfl ?_
      intro bA K Q' hK
      have e9 := hG 6 9 (by decide) (by kernel_rfl) (by kernel_rfl)
      have e16 := hG 13 16 (by decide) (by kernel_rfl) (by kernel_rfl)
      obtain ⟨g9, e9⟩ := e9
      change ρ (.tmp 16) = _ at e16
      obtain ⟨v', w3, hr, hv, hb⟩ := HAP.out w2 hR g9
      refine upon_append (.tmp 9) (.tmp 16) 22 rfl e9 e16 hr ?_
      exact hK _ _ (hv.mono fun b h _ => Nat.le_trans (Nat.le_trans HSZ.out hR.size) h) hb
    · refine plainG rfl ?_
      intro bA K Q' hK
      have e4 := hG 1 4 (by decide) (by kernel_rfl) (by kernel_rfl)
      have e6 := hG 3 6 (by decide) (by kernel_rfl) (by kernel_rfl)
      have e8 := hG 5 8 (by decide) (by kernel_rfl) (by kernel_rfl)
      have e17 := hG 14 17 (by decide) (by kernel_rfl) (by kernel_rfl)
      change ρ (.tmp 4) = _ at e4
      change ρ (.tmp 6) = _ at e6
      change ρ (.tmp 8) = _ at e8
      obtain ⟨a1, c1, e17, hs1⟩ := e17
      simp only [execOp]
      go_simp
      exact hK _ _ ⟨a1, c1, rfl, hs1⟩ (Grew.refl _)
  · intro v w2 hR hG
    obtain ⟨a', c', h15, hs', hc'⟩ := hG.2
    have HV : Hid (Bb (fun b => w.heap.size + 2 ≤ b) w2 (.slice a' bh.length c') bh) := hid ⟨a', c', rfl, hs', hc'⟩
    have HB2 : Hid (Below w.heap.size w w2) := hid (Grew.on HB.out hR)
    have hrow : w2.heap[w.heap.size + 1]? = _ := row_below (w := wb.drew) HR2.out hR
    have HROW := hid hrow
    clear hG hR HC HAP hs' hc' hrow
    simp [stG, stU, dstAt, Act.put, h15]
    refine wpList_store_own rfl 25 _ _ rfl (w.heap.size + 1) #[.int .i64 k, .int .i64 e, .int .i64 p, .slice a' bh.length c'] rfl rfl 25 _ HROW.out (by kernel_rfl) rfl (by simp [Value.oneCell']) ?_
    intro w3 hr3 hg3
    have HR3 := hid hr3
    have HB3 : Hid (Below w.heap.size w w3) := hid (below_grown HB2.out hg3 (by omega) HB2.out.size)
    have HV3 : Hid (Bb (fun b => w.heap.size ≤ b) w3 (.slice a' bh.length c') bh) := hid (by
      obtain ⟨a1, c1, he, hs1, hr1⟩ := HV.out
      exact ⟨a1, c1, he, (hs1.grown hg3 (fun b hb => by omega)).mono fun b hb _ => by omega, hr1⟩)
    clear hr3 hg3
    go_wp2_with fail
    rw [← HBH.out]
    refine bodyPost_ret (v := .agg #[.int .i64 k, .int .i64 e, .int .i64 p, .slice a' bh.length c']) (results_cell_row rfl _ _ (w.heap.size + 1) 25 _ (0, 0) _ rfl HR3.out Try.underlying25 rfl (by kernel_rfl)) rfl ⟨_, rfl, HV3.out, HB3.out⟩
end Go.Proofs.Ytmdimhijbmeioaa
