/- CONTRACTS: settle. -/
import Derived.Test.YtjgnnofpilmgoaaDoorAlB
import Derived.Test.YtjgnnofpilmgoaaDoorGrow
import Derived.Deep.CutRange
namespace Go.Proofs.YtjgnnofpilmgoaaDoor
open Go.RowKit Go.Inc

/-- Numbers in memory, so many. -/
def IntsN (B : Nat) (w : World) (v : Value) (n : Nat) (zs : List Int) : Prop := ∃ a c, v = .slice a n c ∧ Si (fun b => B ≤ b) w a zs
theorem Ints.n {B : Nat} {w : World} {v : Value} {zs : List Int} (h : Ints B w v zs) : IntsN B w v zs.length zs := by
  obtain ⟨a, c, h1, _, _, h4⟩ := h
  exact ⟨a, c, h1, h4⟩
theorem IntsN.mono {B B' n : Nat} {w : World} {v : Value} {zs : List Int} (h : IntsN B w v n zs) (hB : B' ≤ B) : IntsN B' w v n zs := by
  obtain ⟨a, c, h1, h4⟩ := h
  exact ⟨a, c, h1, h4.mono fun _ h _ => Nat.le_trans hB h⟩
theorem IntsN.below {B n : Nat} {w w' : World} {v : Value} {zs : List Int} (h : IntsN B w v n zs) (hb : Below w.heap.size w w') : IntsN B w' v n zs := by
  obtain ⟨a, c, h1, h4⟩ := h
  exact ⟨a, c, h1, h4.below hb⟩
theorem IntsN.mv {B n : Nat} {w w' : World} {v : Value} {zs : List Int} {F : Nat → Prop} (h : IntsN B w v n zs) (hm : Mv F w w') (hF : ∀ i, B ≤ i → ¬ F i) : IntsN B w' v n zs := by
  obtain ⟨a, c, h1, h4⟩ := h
  exact ⟨a, c, h1, si_mv h4 hm hF⟩
theorem numsI_len (m : List Bool) : (numsI m).length ≤ m.length := by unfold numsI; rw [List.length_map]; exact numsTo_len _ _
theorem drop_all (m : List Bool) : (putTo false m (numsI m) (numsI m).length).1 = List.replicate m.length false := ext_inB (by rw [putTo_len, List.length_replicate]) fun i hi => by
  rw [putTo_len] at hi
  rw [inB_putAll _ _ _ hi, inB_zeros]
  split
  · rfl
  · rename_i h
    cases hb : inB m i
    · rfl
    · exact absurd (List.mem_map.2 ⟨i, numsTo_mem.2 ⟨hi, hb⟩, rfl⟩) h

set_option maxRecDepth 20000 in
set_option maxHeartbeats 4000000 in
theorem settle_any {C : Nat → Nat} {p : Nat} {v1 v2 v3 : Value} {m1 m2 m3 : List Bool} {w : World} (h : Al3 C w p v1 v2 v3 m1 m2 m3) (ht : Tab w) :
    Calls Tryd.prog 37 #[.pointer (some ⟨p, 0, none⟩)] w fun e w' => e = .returned (.tuple #[]) ∧ Al3 C w' p v1 v2 v3 m1 (List.replicate m2.length false) (List.replicate m3.length false) ∧ Mv (fun i => C i ≠ 0) w w' := by
  have HAL := hid h
  have HT := hid ht
  obtain ⟨n2, hn2⟩ : ∃ n, n = (numsI m2).length := ⟨_, rfl⟩
  have HN2 := hid hn2
  obtain ⟨n3, hn3⟩ : ∃ n, n = (numsI m3).length := ⟨_, rfl⟩
  have HN3 := hid hn3
  clear h ht hn2 hn3
  have HC0 : Hid (∀ x, Grew w.drew x → x.cell? ⟨p, 1, none⟩ = some v2 ∧ x.cell? ⟨p, 2, none⟩ = some v3) := hid fun x hx => by
    have hb : Below w.heap.size w x := ⟨hx.os, hx.tape, hx.output, hx.size, hx.block⟩
    exact ⟨(HAL.out.below hb).c1, (HAL.out.below hb).c2⟩
  have HL0 : Hid (∀ x, Grew w.drew x → Calls Tryd.prog 36 #[v2] x fun e w' => (∃ y, e = .returned y ∧ IntsN w.heap.size w' y n2 (numsI m2)) ∧ Below x.heap.size x w') := hid fun x hx => by
    have hb : Below w.heap.size w x := ⟨hx.os, hx.tape, hx.output, hx.size, hx.block⟩
    refine (allI_any _ v2 m2 x (HAL.out.below hb).s2.bm (HT.out.below hb)).mono ?_
    rintro e w' ⟨⟨y, h1, h2⟩, h3⟩
    exact ⟨⟨y, h1, by rw [HN2.out]; exact h2.n.mono hx.size⟩, h3⟩
  go_enter Tryd.func37, Tryd.ntmps37
  go_wp2_with fail
  refine wp_region_grows 9 [Eqv' (.pointer (some ⟨p, 0, none⟩)), Eqv' (.pointer (some ⟨p, 0, none⟩)), Eqv' (.pointer (some ⟨p, 1, none⟩)), Eqv' (v2), Eqv' (.pointer (some ⟨p, 0, none⟩)), Eqv' (.pointer (some ⟨p, 0, none⟩)), Eqv' (.pointer (some ⟨p, 1, none⟩)), Eqv' (v2), (fun x v => IntsN w.heap.size x v n2 (numsI m2))] (by kernel_rfl) (by decide) (by kernel_rfl) ?_ ?_ ?_
  · repeat' (first | exact List.forall_mem_nil _ | refine List.forall_mem_cons.2 ⟨?_, ?_⟩)
    all_goals
      intro w w' v hw h
      first | exact h | exact IntsN.below h hw
  · simp only [AllLt]
    refine ⟨⟨⟨⟨⟨⟨⟨⟨⟨trivial, ?_⟩, ?_⟩, ?_⟩, ?_⟩, ?_⟩, ?_⟩, ?_⟩, ?_⟩, ?_⟩
    all_goals
      intro o' ho
      simp at ho
      subst ho
      intro ρ w5 hR hL hS hG
      obtain ⟨hl1, hl2, -⟩ := hL
    · refine plainG rfl ?_
      intro bA K Q' hK
      have e0 := hS 0 (by kernel_rfl)
      change ρ (.tmp 0) = _ at e0
      simp only [execOp]
      go_simp
      exact hK _ _ rfl (Grew.refl _)
    · refine plainG rfl ?_
      intro bA K Q' hK
      have e2 := hG 0 2 (by decide) (by kernel_rfl) (by kernel_rfl)
      change ρ (.tmp 2) = _ at e2
      simp only [execOp]
      go_simp
      exact hK _ _ rfl (Grew.refl _)
    · refine plainG rfl ?_
      intro bA K Q' hK
      have e3 := hG 1 3 (by decide) (by kernel_rfl) (by kernel_rfl)
      change ρ (.tmp 3) = _ at e3
      simp only [execOp]
      go_simp
      exact hK _ _ rfl (Grew.refl _)
    · refine plainG rfl ?_
      intro bA K Q' hK
      have e4 := hG 2 4 (by decide) (by kernel_rfl) (by kernel_rfl)
      change ρ (.tmp 4) = _ at e4
      obtain ⟨x1, x2⟩ := HC0.out w5 hR
      simp only [execOp]
      go_simp
      exact hK _ _ rfl (Grew.refl _)
    · refine plainG rfl ?_
      intro bA K Q' hK
      have e0 := hS 0 (by kernel_rfl)
      change ρ (.tmp 0) = _ at e0
      simp only [execOp]
      go_simp
      exact hK _ _ rfl (Grew.refl _)
    · refine plainG rfl ?_
      intro bA K Q' hK
      have e6 := hG 4 6 (by decide) (by kernel_rfl) (by kernel_rfl)
      change ρ (.tmp 6) = _ at e6
      simp only [execOp]
      go_simp
      exact hK _ _ rfl (Grew.refl _)
    · refine plainG rfl ?_
      intro bA K Q' hK
      have e7 := hG 5 7 (by decide) (by kernel_rfl) (by kernel_rfl)
      change ρ (.tmp 7) = _ at e7
      simp only [execOp]
      go_simp
      exact hK _ _ rfl (Grew.refl _)
    · refine plainG rfl ?_
      intro bA K Q' hK
      have e8 := hG 6 8 (by decide) (by kernel_rfl) (by kernel_rfl)
      change ρ (.tmp 8) = _ at e8
      obtain ⟨x1, x2⟩ := HC0.out w5 hR
      simp only [execOp]
      go_simp
      exact hK _ _ rfl (Grew.refl _)
    · refine plainG rfl ?_
      intro bA K Q' hK
      have e9 := hG 7 9 (by decide) (by kernel_rfl) (by kernel_rfl)
      change ρ (.tmp 9) = _ at e9
      simp only [execOp]
      go_simp
      refine (HL0.out w5 hR).mono ?_
      rintro r9 w9 ⟨⟨y, rfl, hy⟩, hb9⟩
      exact hK _ _ hy hb9
  · intro v w3 hR hG
    have h3 : v 3 = v2 := hG.1.1.1.1.1.2
    obtain ⟨ay, cy, h8, hsi⟩ : IntsN w.heap.size w3 (v 8) n2 (numsI m2) := hG.2
    have hb : Below w.heap.size w w3 := ⟨hR.os, hR.tape, hR.output, hR.size, hR.block⟩
    have HB0 := hid hb
    have HD0 : Hid (Calls Tryd.prog 33 #[v2, .slice ay n2 cy] w3 fun e w' => Sm (fun b => C b = 3) w' v2 (List.replicate m2.length false) ∧ Mv (fun b => C b = 3) w3 w' ∧ ∃ z : Int, e = .returned (.int .i64 z)) := hid (by
      have hd := dropS_any (fun b => C b = 3) (fun b => w.heap.size ≤ b) v2 m2 ay cy (numsI m2) w3 (HAL.out.below hb).s2 hsi (fun i hi hc => by have := HAL.out.old i (by rw [hc]; decide); omega) (by have := numsI_len m2; have := HAL.out.s2.bm.len; omega)
      rw [drop_all, ← HN2.out] at hd
      exact hd.mono fun e w' h => ⟨h.2.1, h.2.2, _, h.1⟩)
    clear hG hR hsi hb HC0 HL0
    simp [stG, stU, dstAt, Act.put, h3, h8]
    clear h3 h8
    go_wp2_with fail
    refine HD0.out.mono ?_
    rintro e w4 ⟨hs, hm, z, rfl⟩
    have HAL4 : Hid (Al3 C w4 p v1 v2 v3 m1 (List.replicate m2.length false) m3) := hid ((HAL.out.below HB0.out).turn2 hm hs)
    have HM4 : Hid (Mv (fun i => C i ≠ 0) w w4) := hid ((Mv.of_below HB0.out).trans' hm fun i _ hi => by rw [show C i = 3 from hi]; decide)
    have HT4 : Hid (Tab w4) := hid (HT.out.mv HM4.out (fun h => h HAL.out.z0))
    clear hs hm HD0
    have HC1 : Hid (∀ x, Grew w4.drew x → x.cell? ⟨p, 1, none⟩ = some v2 ∧ x.cell? ⟨p, 2, none⟩ = some v3) := hid fun x hx => by
      have hb : Below w4.heap.size w4 x := ⟨hx.os, hx.tape, hx.output, hx.size, hx.block⟩
      exact ⟨(HAL4.out.below hb).c1, (HAL4.out.below hb).c2⟩
    have HL1 : Hid (∀ x, Grew w4.drew x → Calls Tryd.prog 36 #[v3] x fun e w' => (∃ y, e = .returned y ∧ IntsN w4.heap.size w' y n3 (numsI m3)) ∧ Below x.heap.size x w') := hid fun x hx => by
      have hb : Below w4.heap.size w4 x := ⟨hx.os, hx.tape, hx.output, hx.size, hx.block⟩
      refine (allI_any _ v3 m3 x (HAL4.out.below hb).s3.bm (HT4.out.below hb)).mono ?_
      rintro e w' ⟨⟨y, h1, h2⟩, h3⟩
      exact ⟨⟨y, h1, by rw [HN3.out]; exact h2.n.mono hx.size⟩, h3⟩
    go_wp2_with fail
    refine wp_region_grows 9 [Eqv' (.pointer (some ⟨p, 0, none⟩)), Eqv' (.pointer (some ⟨p, 0, none⟩)), Eqv' (.pointer (some ⟨p, 2, none⟩)), Eqv' (v3), Eqv' (.pointer (some ⟨p, 0, none⟩)), Eqv' (.pointer (some ⟨p, 0, none⟩)), Eqv' (.pointer (some ⟨p, 2, none⟩)), Eqv' (v3), (fun x v => IntsN w4.heap.size x v n3 (numsI m3))] (by kernel_rfl) (by decide) (by kernel_rfl) ?_ ?_ ?_
    · repeat' (first | exact List.forall_mem_nil _ | refine List.forall_mem_cons.2 ⟨?_, ?_⟩)
      all_goals
        intro w w' v hw h
        first | exact h | exact IntsN.below h hw
    · simp only [AllLt]
      refine ⟨⟨⟨⟨⟨⟨⟨⟨⟨trivial, ?_⟩, ?_⟩, ?_⟩, ?_⟩, ?_⟩, ?_⟩, ?_⟩, ?_⟩, ?_⟩
      all_goals
        intro o' ho
        simp at ho
        subst ho
        intro ρ w5 hR hL hS hG
        obtain ⟨hl1, hl2, -⟩ := hL
      · refine plainG rfl ?_
        intro bA K Q' hK
        have e0 := hS 0 (by kernel_rfl)
        change ρ (.tmp 0) = _ at e0
        simp only [execOp]
        go_simp
        exact hK _ _ rfl (Grew.refl _)
      · refine plainG rfl ?_
        intro bA K Q' hK
        have e12 := hG 0 12 (by decide) (by kernel_rfl) (by kernel_rfl)
        change ρ (.tmp 12) = _ at e12
        simp only [execOp]
        go_simp
        exact hK _ _ rfl (Grew.refl _)
      · refine plainG rfl ?_
        intro bA K Q' hK
        have e13 := hG 1 13 (by decide) (by kernel_rfl) (by kernel_rfl)
        change ρ (.tmp 13) = _ at e13
        simp only [execOp]
        go_simp
        exact hK _ _ rfl (Grew.refl _)
      · refine plainG rfl ?_
        intro bA K Q' hK
        have e14 := hG 2 14 (by decide) (by kernel_rfl) (by kernel_rfl)
        change ρ (.tmp 14) = _ at e14
        obtain ⟨x1, x2⟩ := HC1.out w5 hR
        simp only [execOp]
        go_simp
        exact hK _ _ rfl (Grew.refl _)
      · refine plainG rfl ?_
        intro bA K Q' hK
        have e0 := hS 0 (by kernel_rfl)
        change ρ (.tmp 0) = _ at e0
        simp only [execOp]
        go_simp
        exact hK _ _ rfl (Grew.refl _)
      · refine plainG rfl ?_
        intro bA K Q' hK
        have e16 := hG 4 16 (by decide) (by kernel_rfl) (by kernel_rfl)
        change ρ (.tmp 16) = _ at e16
        simp only [execOp]
        go_simp
        exact hK _ _ rfl (Grew.refl _)
      · refine plainG rfl ?_
        intro bA K Q' hK
        have e17 := hG 5 17 (by decide) (by kernel_rfl) (by kernel_rfl)
        change ρ (.tmp 17) = _ at e17
        simp only [execOp]
        go_simp
        exact hK _ _ rfl (Grew.refl _)
      · refine plainG rfl ?_
        intro bA K Q' hK
        have e18 := hG 6 18 (by decide) (by kernel_rfl) (by kernel_rfl)
        change ρ (.tmp 18) = _ at e18
        obtain ⟨x1, x2⟩ := HC1.out w5 hR
        simp only [execOp]
        go_simp
        exact hK _ _ rfl (Grew.refl _)
      · refine plainG rfl ?_
        intro bA K Q' hK
        have e19 := hG 7 19 (by decide) (by kernel_rfl) (by kernel_rfl)
        change ρ (.tmp 19) = _ at e19
        simp only [execOp]
        go_simp
        refine (HL1.out w5 hR).mono ?_
        rintro r9 w9 ⟨⟨y, rfl, hy⟩, hb9⟩
        exact hK _ _ hy hb9
    · intro v w6 hR hG
      have h3 : v 3 = v3 := hG.1.1.1.1.1.2
      obtain ⟨ay, cy, h8, hsi⟩ : IntsN w4.heap.size w6 (v 8) n3 (numsI m3) := hG.2
      have hb : Below w4.heap.size w4 w6 := ⟨hR.os, hR.tape, hR.output, hR.size, hR.block⟩
      have HB1 := hid hb
      have HD1 : Hid (Calls Tryd.prog 33 #[v3, .slice ay n3 cy] w6 fun e w' => Sm (fun b => C b = 4) w' v3 (List.replicate m3.length false) ∧ Mv (fun b => C b = 4) w6 w' ∧ ∃ z : Int, e = .returned (.int .i64 z)) := hid (by
        have hd := dropS_any (fun b => C b = 4) (fun b => w4.heap.size ≤ b) v3 m3 ay cy (numsI m3) w6 (HAL4.out.below hb).s3 hsi (fun i hi hc => by have := HAL4.out.old i (by rw [hc]; decide); omega) (by have := numsI_len m3; have := HAL4.out.s3.bm.len; omega)
        rw [drop_all, ← HN3.out] at hd
        exact hd.mono fun e w' h => ⟨h.2.1, h.2.2, _, h.1⟩)
      clear hG hR hsi hb HC1 HL1
      simp [stG, stU, dstAt, Act.put, h3, h8]
      clear h3 h8
      go_wp2_with fail
      refine HD1.out.mono ?_
      rintro e w7 ⟨hs, hm, z, rfl⟩
      have HAL7 : Hid (Al3 C w7 p v1 v2 v3 m1 (List.replicate m2.length false) (List.replicate m3.length false)) := hid ((HAL4.out.below HB1.out).turn3 hm hs)
      have HM7 : Hid (Mv (fun i => C i ≠ 0) w w7) := hid (HM4.out.trans ((Mv.of_below HB1.out).trans' hm fun i _ hi => by rw [show C i = 4 from hi]; decide))
      clear hs hm HD1
      go_wp2_with fail
      go_end0
      exact ⟨rfl, HAL7.out, HM7.out⟩
end Go.Proofs.YtjgnnofpilmgoaaDoor
