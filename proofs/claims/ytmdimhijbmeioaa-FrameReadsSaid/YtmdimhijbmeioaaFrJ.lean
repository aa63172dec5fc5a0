/- CONTRACT: the document's frame of bytes, or what is wrong. -/
import Derived.Test.YtmdimhijbmeioaaFrJm
import Derived.Test.YtmdimhijbmeioaaFrG
import Derived.BigQuiet
namespace Go.Proofs.Ytmdimhijbmeioaa
open Go.RowKit Go.Inc

theorem res24 (w : World) (g : Nat) (cs : Array Value) (tmps : Array Value) (h2 : tmps.getD 2 undef = .pointer (some ⟨g, 0, none⟩)) (hg : w.heap[g]? = some (.cells cs 24 (0, 0))) (hs : cs.size = 4) :
    (results Try.f20 tmps).run Try.prog w = .ok (.tuple #[.agg cs, tmps.getD 3 undef]) w :=
  res_cell_tmp rfl tmps w g 24 cs (0, 0) _ h2 hg Try.underlying24 rfl (by rw [hs]; kernel_rfl)

set_option maxHeartbeats 1000000 in
theorem refDec_len (ok : Nat → Prop) (a : Option Addr) (c : Nat) (bs : List Nat) (w : World) (hl : (bs.length : Int) ≠ 256) :
    Calls Try.prog 20 #[.slice a bs.length c] w fun r w' => DecOk ok bs r w' ∧ Below w.heap.size w w' := by
  have hq : ((bs.length : Int) != 256) = true := by rw [bne_iff_ne]; exact hl
  have HD : Hid (decE bs = 2) := hid (by unfold decE; rw [if_pos (by omega)])
  clear hl
  go_enter Try.func20, Try.ntmps20
  go_wp2_with fail
  refine bodyPost_ret (v := .tuple #[.agg zc, .int .i64 2]) (res24 _ _ _ _ rfl (heap_alloc_new w _) rfl) rfl ⟨?_, (Below.refl _ _).alloc (Nat.le_refl _) _⟩
  exact DecOk.bad HD.out (by decide)

set_option maxRecDepth 20000 in
set_option maxHeartbeats 4000000 in
theorem refDec_256 (ok : Nat → Prop) (b o c : Nat) (bs : List Nat) (w : World) (hs : Sl ok w (some ⟨b, o, none⟩) bs) (hby : Bytes bs) (hl : bs.length = 256) (hc : 256 ≤ c ∧ c ≤ maxLen) :
    Calls Try.prog 20 #[.slice (some ⟨b, o, none⟩) 256 c] w fun r w' => DecOk ok bs r w' ∧ Below w.heap.size w w' := by
  obtain ⟨wb, hwb⟩ : ∃ wb, wb = w.alloc (.cells #[.int .i64 0, .int .i64 0, .int .i64 0, .slice none 0 0] 24) := ⟨_, rfl⟩
  have hb : Below w.heap.size w wb := by rw [hwb]; exact (Below.refl _ _).alloc (Nat.le_refl _) _
  have hr : wb.heap[w.heap.size]? = some (.cells #[.int .i64 0, .int .i64 0, .int .i64 0, .slice none 0 0] 24 (0, 0)) := by rw [hwb]; exact heap_alloc_new w _
  have hnums := picked_nums hl
  have hcell : ∀ x, Below w.heap.size w x → ∀ i, i < 256 → x.cell? ⟨b, o + i, none⟩ = some (.int .u8 ((bs.getD i 0 : Nat) : Int)) := by
    intro x hx i hi
    rcases hs.below hx with h | ⟨b', o', h, _, hc⟩
    · rw [h] at hl; cases hl
    · cases h
      exact hc i (by omega)
  obtain ⟨x0, hx0⟩ : ∃ x, x = bs.getD 0 0 := ⟨_, rfl⟩
  have hy0 : (x0 : Int) < 256 := by have := hby.getD 0; omega
  obtain ⟨x1, hx1⟩ : ∃ x, x = bs.getD 1 0 := ⟨_, rfl⟩
  have hy1 : (x1 : Int) < 256 := by have := hby.getD 1; omega
  obtain ⟨x2, hx2⟩ : ∃ x, x = bs.getD 2 0 := ⟨_, rfl⟩
  have hy2 : (x2 : Int) < 256 := by have := hby.getD 2; omega
  obtain ⟨x3, hx3⟩ : ∃ x, x = bs.getD 3 0 := ⟨_, rfl⟩
  have hy3 : (x3 : Int) < 256 := by have := hby.getD 3; omega
  obtain ⟨x4, hx4⟩ : ∃ x, x = bs.getD 4 0 := ⟨_, rfl⟩
  have hy4 : (x4 : Int) < 256 := by have := hby.getD 4; omega
  obtain ⟨x5, hx5⟩ : ∃ x, x = bs.getD 5 0 := ⟨_, rfl⟩
  have hy5 : (x5 : Int) < 256 := by have := hby.getD 5; omega
  obtain ⟨x6, hx6⟩ : ∃ x, x = bs.getD 6 0 := ⟨_, rfl⟩
  have hy6 : (x6 : Int) < 256 := by have := hby.getD 6; omega
  obtain ⟨x7, hx7⟩ : ∃ x, x = bs.getD 7 0 := ⟨_, rfl⟩
  have hy7 : (x7 : Int) < 256 := by have := hby.getD 7; omega
  obtain ⟨x8, hx8⟩ : ∃ x, x = bs.getD 8 0 := ⟨_, rfl⟩
  have hy8 : (x8 : Int) < 256 := by have := hby.getD 8; omega
  obtain ⟨x9, hx9⟩ : ∃ x, x = bs.getD 9 0 := ⟨_, rfl⟩
  have hy9 : (x9 : Int) < 256 := by have := hby.getD 9; omega
  have HCL : Hid (∀ x, Below w.heap.size w x → x.cell? ⟨b, o, none⟩ = some (.int .u8 (x0 : Int)) ∧ x.cell? ⟨b, o + 1, none⟩ = some (.int .u8 (x1 : Int)) ∧ x.cell? ⟨b, o + 2, none⟩ = some (.int .u8 (x2 : Int)) ∧ x.cell? ⟨b, o + 3, none⟩ = some (.int .u8 (x3 : Int)) ∧ x.cell? ⟨b, o + 4, none⟩ = some (.int .u8 (x4 : Int)) ∧ x.cell? ⟨b, o + 5, none⟩ = some (.int .u8 (x5 : Int)) ∧ x.cell? ⟨b, o + 6, none⟩ = some (.int .u8 (x6 : Int)) ∧ x.cell? ⟨b, o + 7, none⟩ = some (.int .u8 (x7 : Int)) ∧ x.cell? ⟨b, o + 8, none⟩ = some (.int .u8 (x8 : Int)) ∧ x.cell? ⟨b, o + 9, none⟩ = some (.int .u8 (x9 : Int))) := hid fun x hx => ⟨by rw [hx0]; exact hcell x hx 0 (by omega), by rw [hx1]; exact hcell x hx 1 (by omega), by rw [hx2]; exact hcell x hx 2 (by omega), by rw [hx3]; exact hcell x hx 3 (by omega), by rw [hx4]; exact hcell x hx 4 (by omega), by rw [hx5]; exact hcell x hx 5 (by omega), by rw [hx6]; exact hcell x hx 6 (by omega), by rw [hx7]; exact hcell x hx 7 (by omega), by rw [hx8]; exact hcell x hx 8 (by omega), by rw [hx9]; exact hcell x hx 9 (by omega)⟩
  rw [← hx1, ← hx2, ← hx3, ← hx4, ← hx5, ← hx6, ← hx7, ← hx8, ← hx9] at hnums
  have HCELL := hid hcell
  have HNUM := hid hnums
  have h252 : (bs.take 252).length = 252 := by rw [List.length_take, hl]; rfl
  have hd252 : (bs.drop 252).length = 4 := by rw [List.length_drop, hl]
  have HSLT : Hid (Crc.sum (bs.take 252) < 4294967296) := hid (Crc.sum_lt _ (hby.take 252))
  have HSM : Hid (∀ x, Below w.heap.size w x → Calls Try.prog 33 #[.slice (some ⟨b, o, none⟩) 252 c] x fun r w' => r = .returned (.int .u32 (Crc.sum (bs.take 252) : Nat)) ∧ x = w') := hid fun x hx => by
    have h := refSum_any _ (some ⟨b, o, none⟩) c (bs.take 252) x ((hs.below hx).front 252) (hby.take 252) (by rw [h252]; decide)
    rwa [h252] at h
  have HSA : Hid (∀ x, Below w.heap.size w x → ∀ g, Sl (fun _ => True) x (some ⟨g, 0, none⟩) (low (Crc.sum (bs.take 252))) → Calls Try.prog 16 #[.slice (some ⟨b, o + 252, none⟩) 4 (c - 252), .slice (some ⟨g, 0, none⟩) 4 4] x fun r w' => r = .returned (.bool (holds bs)) ∧ Below x.heap.size x w') := hid fun x hx g hg => by
    have h := same_any _ _ (some ⟨b, o + 252, none⟩) (some ⟨g, 0, none⟩) (c - 252) 4 (bs.drop 252) (low (Crc.sum (bs.take 252))) x ((hs.below hx).behind 252 _ (fun _ => by simp [Addr.add])) hg (by rw [hd252]; decide)
    rw [hd252, show (low (Crc.sum (bs.take 252))).length = 4 from rfl] at h
    rw [holds_256 hl]
    exact h
  have HSE : Hid (∀ x, Below w.heap.size w x → Calls Try.prog 16 #[.slice (some ⟨b, o + 248, none⟩) 4 (c - 248), .slice (some ⟨b, o + 2, none⟩) 4 (c - 2)] x fun r w' => r = .returned (.bool (decide (frAt bs 248 4 = frAt bs 2 4))) ∧ Below x.heap.size x w') := hid fun x hx => by
    have h := same_any _ _ (some ⟨b, o + 248, none⟩) (some ⟨b, o + 2, none⟩) (c - 248) (c - 2) (frAt bs 248 4) (frAt bs 2 4) x (Sl.at (hs.below hx) 248 4) (Sl.at (hs.below hx) 2 4) (by rw [frAt_len (by omega)]; decide)
    rwa [frAt_len (by omega), frAt_len (by omega)] at h
  have HBODY : Hid (∀ x, Below w.heap.size w x → ∀ n, n ≤ 238 → Sl ok x (some ⟨b, o + 10, none⟩) (frAt bs 10 n)) := hid fun x hx n _ => Sl.at (hs.below hx) 10 n
  have HDE5 : Hid (holds bs = false → decE bs = 5) := hid fun h => by unfold decE; rw [if_neg (by omega), if_pos h]
  have HOK : Hid (holds bs = true → refOk bs → decE bs = 0) := hid (decE_ok hl hby)
  have HNO : Hid (holds bs = true → ¬ refOk bs → decE bs = 3) := hid (decE_no hl hby)
  have HX0 := hid hx0
  have HL := hid hl
  have HBY := hid hby
  have HWB := hid hwb
  have HB := hid hb
  have HR := hid hr
  have hm : (c : Int) ≤ 9223372036854775807 := by have := hc.2; unfold maxLen at this; omega
  have hc1 : (256 : Int) ≤ c := by omega
  have hcc1 : 256 ≤ c := hc.1
  clear hs hby hl hc hb hr hwb h252 hd252 hnums hcell hx0 hx1 hx2 hx3 hx4 hx5 hx6 hx7 hx8 hx9
  generalize Crc.sum (bs.take 252) = sm at *
  go_enter Try.func20, Try.ntmps20
  go_upto_region 3 with fail
  rw [← HWB.out]
  have HBX := HB
  refine wp_region_grows 8 [Eqv' (.slice (some ⟨b, o, none⟩) 256 c), Eqv' (.slice (some ⟨b, o + 252, none⟩) 4 (c - 252)), Eqv' (.slice (some ⟨b, o, none⟩) 256 c), Eqv' (.slice (some ⟨b, o, none⟩) 252 c), Eqv' (.int .u32 (sm : Nat)), (fun x v => ∃ g, v = .slice (some ⟨g, 0, none⟩) 4 4 ∧ Sl (fun _ => True) x (some ⟨g, 0, none⟩) (low sm)), Eqv' (.bool (holds bs)), Eqv' (.bool (!holds bs))] (by kernel_rfl) (by decide) (by kernel_rfl) ?_ ?_ ?_
  · repeat' (first | exact List.forall_mem_nil _ | refine List.forall_mem_cons.2 ⟨?_, ?_⟩)
    all_goals
      intro w w' v hw h
      first | exact h | (obtain ⟨g, rfl, h1⟩ := h; exact ⟨g, rfl, h1.below hw⟩)
  · simp only [AllLt]
    refine ⟨⟨⟨⟨⟨⟨⟨⟨trivial, ?_⟩, ?_⟩, ?_⟩, ?_⟩, ?_⟩, ?_⟩, ?_⟩, ?_⟩
    all_goals
      intro o' ho
      simp at ho
      subst ho
      intro ρ w4 hR hL hS hG
      obtain ⟨hl1, hl2, -⟩ := hL
    · refine plainG rfl ?_
      intro bA K Q' hK
      have e0 := hS 0 (by kernel_rfl)
      change ρ (.tmp 0) = _ at e0
      simp only [execOp]
      go_simp
      exact hK _ _ rfl (Grew.refl _)
    · refine plainG rfl ?_
      intro bA K Q' hK
      have e11 := hG 0 11 (by decide) (by kernel_rfl) (by kernel_rfl)
      change ρ (.tmp 11) = _ at e11
      simp only [execOp]
      go_simp
      rw [if_neg (by omega)]
      exact hK _ _ rfl (Grew.refl _)
    · refine plainG rfl ?_
      intro bA K Q' hK
      have e0 := hS 0 (by kernel_rfl)
      change ρ (.tmp 0) = _ at e0
      simp only [execOp]
      go_simp
      exact hK _ _ rfl (Grew.refl _)
    · refine plainG rfl ?_
      intro bA K Q' hK
      have e13 := hG 2 13 (by decide) (by kernel_rfl) (by kernel_rfl)
      change ρ (.tmp 13) = _ at e13
      simp only [execOp]
      go_simp
      rw [if_pos (by omega)]
      exact hK _ _ rfl (Grew.refl _)
    · refine plainG rfl ?_
      intro bA K Q' hK
      have e14 := hG 3 14 (by decide) (by kernel_rfl) (by kernel_rfl)
      change ρ (.tmp 14) = _ at e14
      simp only [execOp]
      go_simp
      refine (HSM.out w4 (Grew.on HBX.out hR)).mono ?_
      rintro r w5 ⟨rfl, rfl⟩
      exact hK _ _ rfl (Grew.refl _)
    · refine plainG rfl ?_
      intro bA K Q' hK
      have e15 := hG 4 15 (by decide) (by kernel_rfl) (by kernel_rfl)
      change ρ (.tmp 15) = _ at e15
      simp only [execOp]
      go_simp
      refine (low_any _ w4 HSLT.out).mono ?_
      rintro r w5 ⟨rfl, hs, hb⟩
      exact hK _ _ ⟨_, rfl, hs.mono fun _ _ _ => trivial⟩ hb
    · refine plainG rfl ?_
      intro bA K Q' hK
      have e12 := hG 1 12 (by decide) (by kernel_rfl) (by kernel_rfl)
      have e16 := hG 5 16 (by decide) (by kernel_rfl) (by kernel_rfl)
      change ρ (.tmp 12) = _ at e12
      obtain ⟨g16, e16, hs16⟩ := e16
      simp only [execOp]
      go_simp
      refine (HSA.out w4 (Grew.on HBX.out hR) _ hs16).mono ?_
      rintro r w5 ⟨rfl, hb⟩
      exact hK _ _ rfl hb
    · refine plainG rfl ?_
      intro bA K Q' hK
      have e17 := hG 6 17 (by decide) (by kernel_rfl) (by kernel_rfl)
      change ρ (.tmp 17) = _ at e17
      simp only [execOp]
      go_simp
      exact hK _ _ rfl (Grew.refl _)
  · intro v w1 hR hG
    have h7 := hG.2
    change v 7 = _ at h7
    have HB1 : Hid (Below w.heap.size w w1) := hid (Grew.on HB.out hR)
    have HR1 : Hid (w1.heap[w.heap.size]? = _) := hid (row_below (w := wb.drew) HR.out hR)
    clear hG hR HB HBX HR HWB HSM HSA HSLT
    have HBX := HB1
    cases hh : holds bs
    · rw [hh] at h7
      have HD5 := hid (HDE5.out hh)
      clear HDE5 HOK HNO HSE HBODY HCL HCELL
      simp [stG, stU, dstAt, Act.put, h7]
      go_upto_region 4 with fail
      refine wp_region_lit ?_
      refine wpList_plain rfl fun K hK => ?_
      go_simp
      refine hK _ _ ?_
      refine wpList_store_own rfl 24 _ _ rfl w.heap.size zc rfl rfl 24 _ HR1.out (by kernel_rfl) rfl (by simp [Value.oneCell', zc]) ?_
      intro w2 hr2 hg2
      have HR2 := hid hr2
      have HB2 : Hid (Below w.heap.size w w2) := hid (below_grown HB1.out hg2 (Nat.le_refl _) HB1.out.size)
      clear hr2 hg2
      go_wp2_with fail
      refine bodyPost_ret (v := .tuple #[.agg zc, .int .i64 5]) (res24 _ _ _ _ rfl HR2.out rfl) rfl ⟨?_, HB2.out⟩
      exact DecOk.bad HD5.out (by decide)
    · rw [hh] at h7
      have HOK := hid (HOK.out hh)
      have HNO := hid (HNO.out hh)
      clear HDE5 hh
      simp [stG, stU, dstAt, Act.put, h7]
      go_upto_region 5 with fail
      refine wp_region_grows 10 [Eqv' (.slice (some ⟨b, o, none⟩) 256 c), Eqv' (.pointer (some ⟨b, o + 8, none⟩)), Eqv' (.int .u8 (x8 : Int)), Eqv' (.int .i64 ((x8 : Int))), Eqv' (.slice (some ⟨b, o, none⟩) 256 c), Eqv' (.pointer (some ⟨b, o + 9, none⟩)), Eqv' (.int .u8 (x9 : Int)), Eqv' (.int .i64 ((x9 : Int))), Eqv' (.int .i64 (256 * (x9 : Int))), Eqv' (.int .i64 ((x8 : Int) + 256 * (x9 : Int)))] (by kernel_rfl) (by decide) (by kernel_rfl) ?_ ?_ ?_
      · repeat' (first | exact List.forall_mem_nil _ | refine List.forall_mem_cons.2 ⟨?_, ?_⟩)
        all_goals
          intro w w' v hw h
          first | exact h | exact h
      · simp only [AllLt]
        refine ⟨⟨⟨⟨⟨⟨⟨⟨⟨⟨trivial, ?_⟩, ?_⟩, ?_⟩, ?_⟩, ?_⟩, ?_⟩, ?_⟩, ?_⟩, ?_⟩, ?_⟩
        all_goals
          intro o' ho
          simp at ho
          subst ho
          intro ρ w4 hR hL hS hG
          obtain ⟨hl1, hl2, -⟩ := hL
        · refine plainG rfl ?_
          intro bA K Q' hK
          have e0 := hS 0 (by kernel_rfl)
          change ρ (.tmp 0) = _ at e0
          simp only [execOp]
          go_simp
          exact hK _ _ rfl (Grew.refl _)
        · refine plainG rfl ?_
          intro bA K Q' hK
          have e20 := hG 0 20 (by decide) (by kernel_rfl) (by kernel_rfl)
          change ρ (.tmp 20) = _ at e20
          simp only [execOp]
          go_simp
          exact hK _ _ rfl (Grew.refl _)
        · refine plainG rfl ?_
          intro bA K Q' hK
          have e21 := hG 1 21 (by decide) (by kernel_rfl) (by kernel_rfl)
          change ρ (.tmp 21) = _ at e21
          obtain ⟨k0, k1, k2, k3, k4, k5, k6, k7, k8, k9⟩ := HCL.out w4 (Grew.on HBX.out hR)
          simp only [execOp]
          go_simp
          exact hK _ _ rfl (Grew.refl _)
        · refine plainG rfl ?_
          intro bA K Q' hK
          have e22 := hG 2 22 (by decide) (by kernel_rfl) (by kernel_rfl)
          change ρ (.tmp 22) = _ at e22
          simp only [execOp]
          go_simp
          exact hK _ _ (val_int (by rw [IntKind.wrap_i64]; omega)) (Grew.refl _)
        · refine plainG rfl ?_
          intro bA K Q' hK
          have e0 := hS 0 (by kernel_rfl)
          change ρ (.tmp 0) = _ at e0
          simp only [execOp]
          go_simp
          exact hK _ _ rfl (Grew.refl _)
        · refine plainG rfl ?_
          intro bA K Q' hK
          have e24 := hG 4 24 (by decide) (by kernel_rfl) (by kernel_rfl)
          change ρ (.tmp 24) = _ at e24
          simp only [execOp]
          go_simp
          exact hK _ _ rfl (Grew.refl _)
        · refine plainG rfl ?_
          intro bA K Q' hK
          have e25 := hG 5 25 (by decide) (by kernel_rfl) (by kernel_rfl)
          change ρ (.tmp 25) = _ at e25
          obtain ⟨k0, k1, k2, k3, k4, k5, k6, k7, k8, k9⟩ := HCL.out w4 (Grew.on HBX.out hR)
          simp only [execOp]
          go_simp
          exact hK _ _ rfl (Grew.refl _)
        · refine plainG rfl ?_
          intro bA K Q' hK
          have e26 := hG 6 26 (by decide) (by kernel_rfl) (by kernel_rfl)
          change ρ (.tmp 26) = _ at e26
          simp only [execOp]
          go_simp
          exact hK _ _ (val_int (by rw [IntKind.wrap_i64]; omega)) (Grew.refl _)
        · refine plainG rfl ?_
          intro bA K Q' hK
          have e27 := hG 7 27 (by decide) (by kernel_rfl) (by kernel_rfl)
          change ρ (.tmp 27) = _ at e27
          simp only [execOp]
          go_simp
          exact hK _ _ (val_int (by rw [IntKind.wrap_i64]; omega)) (Grew.refl _)
        · refine plainG rfl ?_
          intro bA K Q' hK
          have e23 := hG 3 23 (by decide) (by kernel_rfl) (by kernel_rfl)
          have e28 := hG 8 28 (by decide) (by kernel_rfl) (by kernel_rfl)
          change ρ (.tmp 23) = _ at e23
          change ρ (.tmp 28) = _ at e28
          simp only [execOp]
          go_simp
          exact hK _ _ (val_int (by rw [IntKind.wrap_i64]; omega)) (Grew.refl _)
      · intro v w2 hR hG
        have h9 := hG.2
        change v 9 = _ at h9
        have HB2 : Hid (Below w.heap.size w w2) := hid (Grew.on HB1.out hR)
        have HR2 : Hid (w2.heap[w.heap.size]? = _) := hid (row_below (w := w1.drew) HR1.out hR)
        clear hG hR HB1 HBX HR1
        have HBX := HB2
        simp [stG, stU, dstAt, Act.put, h9]
        go_upto_region 6 with fail
        refine wp_region_grows 38 [Eqv' (.slice (some ⟨b, o, none⟩) 256 c), Eqv' (.pointer (some ⟨b, o + 1, none⟩)), Eqv' (.int .u8 (x1 : Int)), Eqv' (.int .i64 ((x1 : Int))), Eqv' (.slice (some ⟨b, o, none⟩) 256 c), Eqv' (.pointer (some ⟨b, o + 2, none⟩)), Eqv' (.int .u8 (x2 : Int)), Eqv' (.int .i64 ((x2 : Int))), Eqv' (.slice (some ⟨b, o, none⟩) 256 c), Eqv' (.pointer (some ⟨b, o + 3, none⟩)), Eqv' (.int .u8 (x3 : Int)), Eqv' (.int .i64 ((x3 : Int))), Eqv' (.int .i64 (256 * (x3 : Int))), Eqv' (.int .i64 ((x2 : Int) + 256 * (x3 : Int))), Eqv' (.slice (some ⟨b, o, none⟩) 256 c), Eqv' (.pointer (some ⟨b, o + 4, none⟩)), Eqv' (.int .u8 (x4 : Int)), Eqv' (.int .i64 ((x4 : Int))), Eqv' (.int .i64 (65536 * (x4 : Int))), Eqv' (.int .i64 ((x2 : Int) + 256 * (x3 : Int) + 65536 * (x4 : Int))), Eqv' (.slice (some ⟨b, o, none⟩) 256 c), Eqv' (.pointer (some ⟨b, o + 5, none⟩)), Eqv' (.int .u8 (x5 : Int)), Eqv' (.int .i64 ((x5 : Int))), Eqv' (.int .i64 (16777216 * (x5 : Int))), Eqv' (.int .i64 ((x2 : Int) + 256 * (x3 : Int) + 65536 * (x4 : Int) + 16777216 * (x5 : Int))), Eqv' (.slice (some ⟨b, o, none⟩) 256 c), Eqv' (.pointer (some ⟨b, o + 6, none⟩)), Eqv' (.int .u8 (x6 : Int)), Eqv' (.int .i64 ((x6 : Int))), Eqv' (.slice (some ⟨b, o, none⟩) 256 c), Eqv' (.pointer (some ⟨b, o + 7, none⟩)), Eqv' (.int .u8 (x7 : Int)), Eqv' (.int .i64 ((x7 : Int))), Eqv' (.int .i64 (256 * (x7 : Int))), Eqv' (.int .i64 ((x6 : Int) + 256 * (x7 : Int))), Eqv' (.agg #[.int .i64 (x1 : Int), .int .i64 ((x2 : Int) + 256 * (x3 : Int) + 65536 * (x4 : Int) + 16777216 * (x5 : Int)), .int .i64 ((x6 : Int) + 256 * (x7 : Int)), .slice none 0 0]), (fun x v => ∃ g, v = .pointer (some ⟨g, 0, none⟩) ∧ w2.heap.size ≤ g ∧ x.heap[g]? = some (.cells zc 24 (0, 0)))] (by kernel_rfl) (by decide) (by kernel_rfl) ?_ ?_ ?_
        · repeat' (first | exact List.forall_mem_nil _ | refine List.forall_mem_cons.2 ⟨?_, ?_⟩)
          all_goals
            intro w w' v hw h
            first | exact h | (obtain ⟨g, rfl, h1, h2⟩ := h; exact ⟨g, rfl, h1, row_below h2 hw⟩)
        · simp only [AllLt]
          refine ⟨⟨⟨⟨⟨⟨⟨⟨⟨⟨⟨⟨⟨⟨⟨⟨⟨⟨⟨⟨⟨⟨⟨⟨⟨⟨⟨⟨⟨⟨⟨⟨⟨⟨⟨⟨⟨⟨trivial, ?_⟩, ?_⟩, ?_⟩, ?_⟩, ?_⟩, ?_⟩, ?_⟩, ?_⟩, ?_⟩, ?_⟩, ?_⟩, ?_⟩, ?_⟩, ?_⟩, ?_⟩, ?_⟩, ?_⟩, ?_⟩, ?_⟩, ?_⟩, ?_⟩, ?_⟩, ?_⟩, ?_⟩, ?_⟩, ?_⟩, ?_⟩, ?_⟩, ?_⟩, ?_⟩, ?_⟩, ?_⟩, ?_⟩, ?_⟩, ?_⟩, ?_⟩, ?_⟩, ?_⟩
          all_goals
            intro o' ho
            simp at ho
            subst ho
            intro ρ w4 hR hL hS hG
            obtain ⟨hl1, hl2, -⟩ := hL
          · refine plainG rfl ?_
            intro bA K Q' hK
            have e0 := hS 0 (by kernel_rfl)
            change ρ (.tmp 0) = _ at e0
            simp only [execOp]
            go_simp
            exact hK _ _ rfl (Grew.refl _)
          · refine plainG rfl ?_
            intro bA K Q' hK
            have e30 := hG 0 30 (by decide) (by kernel_rfl) (by kernel_rfl)
            change ρ (.tmp 30) = _ at e30
            simp only [execOp]
            go_simp
            exact hK _ _ rfl (Grew.refl _)
          · refine plainG rfl ?_
            intro bA K Q' hK
            have e31 := hG 1 31 (by decide) (by kernel_rfl) (by kernel_rfl)
            change ρ (.tmp 31) = _ at e31
            obtain ⟨k0, k1, k2, k3, k4, k5, k6, k7, k8, k9⟩ := HCL.out w4 (Grew.on HBX.out hR)
            simp only [execOp]
            go_simp
            exact hK _ _ rfl (Grew.refl _)
          · refine plainG rfl ?_
            intro bA K Q' hK
            have e32 := hG 2 32 (by decide) (by kernel_rfl) (by kernel_rfl)
            change ρ (.tmp 32) = _ at e32
            simp only [execOp]
            go_simp
            exact hK _ _ (val_int (by rw [IntKind.wrap_i64]; omega)) (Grew.refl _)
          · refine plainG rfl ?_
            intro bA K Q' hK
            have e0 := hS 0 (by kernel_rfl)
            change ρ (.tmp 0) = _ at e0
            simp only [execOp]
            go_simp
            exact hK _ _ rfl (Grew.refl _)
          · refine plainG rfl ?_
            intro bA K Q' hK
            have e34 := hG 4 34 (by decide) (by kernel_rfl) (by kernel_rfl)
            change ρ (.tmp 34) = _ at e34
            simp only [execOp]
            go_simp
            exact hK _ _ rfl (Grew.refl _)
          · refine plainG rfl ?_
            intro bA K Q' hK
            have e35 := hG 5 35 (by decide) (by kernel_rfl) (by kernel_rfl)
            change ρ (.tmp 35) = _ at e35
            obtain ⟨k0, k1, k2, k3, k4, k5, k6, k7, k8, k9⟩ := HCL.out w4 (Grew.on HBX.out hR)
            simp only [execOp]
            go_simp
            exact hK _ _ rfl (Grew.refl _)
          · refine plainG rfl ?_
            intro bA K Q' hK
            have e36 := hG 6 36 (by decide) (by kernel_rfl) (by kernel_rfl)
            change ρ (.tmp 36) = _ at e36
            simp only [execOp]
            go_simp
            exact hK _ _ (val_int (by rw [IntKind.wrap_i64]; omega)) (Grew.refl _)
          · refine plainG rfl ?_
            intro bA K Q' hK
            have e0 := hS 0 (by kernel_rfl)
            change ρ (.tmp 0) = _ at e0
            simp only [execOp]
            go_simp
            exact hK _ _ rfl (Grew.refl _)
          · refine plainG rfl ?_
            intro bA K Q' hK
            have e38 := hG 8 38 (by decide) (by kernel_rfl) (by kernel_rfl)
            change ρ (.tmp 38) = _ at e38
            simp only [execOp]
            go_simp
            exact hK _ _ rfl (Grew.refl _)
          · refine plainG rfl ?_
            intro bA K Q' hK
            have e39 := hG 9 39 (by decide) (by kernel_rfl) (by kernel_rfl)
            change ρ (.tmp 39) = _ at e39
            obtain ⟨k0, k1, k2, k3, k4, k5, k6, k7, k8, k9⟩ := HCL.out w4 (Grew.on HBX.out hR)
            simp only [execOp]
            go_simp
            exact hK _ _ rfl (Grew.refl _)
          · refine plainG rfl ?_
            intro bA K Q' hK
            have e40 := hG 10 40 (by decide) (by kernel_rfl) (by kernel_rfl)
            change ρ (.tmp 40) = _ at e40
            simp only [execOp]
            go_simp
            exact hK _ _ (val_int (by rw [IntKind.wrap_i64]; omega)) (Grew.refl _)
          · refine plainG rfl ?_
            intro bA K Q' hK
            have e41 := hG 11 41 (by decide) (by kernel_rfl) (by kernel_rfl)
            change ρ (.tmp 41) = _ at e41
            simp only [execOp]
            go_simp
            exact hK _ _ (val_int (by rw [IntKind.wrap_i64]; omega)) (Grew.refl _)
          · refine plainG rfl ?_
            intro bA K Q' hK
            have e37 := hG 7 37 (by decide) (by kernel_rfl) (by kernel_rfl)
            have e42 := hG 12 42 (by decide) (by kernel_rfl) (by kernel_rfl)
            change ρ (.tmp 37) = _ at e37
            change ρ (.tmp 42) = _ at e42
            simp only [execOp]
            go_simp
            exact hK _ _ (val_int (by rw [IntKind.wrap_i64]; omega)) (Grew.refl _)
          · refine plainG rfl ?_
            intro bA K Q' hK
            have e0 := hS 0 (by kernel_rfl)
            change ρ (.tmp 0) = _ at e0
            simp only [execOp]
            go_simp
            exact hK _ _ rfl (Grew.refl _)
          · refine plainG rfl ?_
            intro bA K Q' hK
            have e44 := hG 14 44 (by decide) (by kernel_rfl) (by kernel_rfl)
            change ρ (.tmp 44) = _ at e44
            simp only [execOp]
            go_simp
            exact hK _ _ rfl (Grew.refl _)
          · refine plainG rfl ?_
            intro bA K Q' hK
            have e45 := hG 15 45 (by decide) (by kernel_rfl) (by kernel_rfl)
            change ρ (.tmp 45) = _ at e45
            obtain ⟨k0, k1, k2, k3, k4, k5, k6, k7, k8, k9⟩ := HCL.out w4 (Grew.on HBX.out hR)
            simp only [execOp]
            go_simp
            exact hK _ _ rfl (Grew.refl _)
          · refine plainG rfl ?_
            intro bA K Q' hK
            have e46 := hG 16 46 (by decide) (by kernel_rfl) (by kernel_rfl)
            change ρ (.tmp 46) = _ at e46
            simp only [execOp]
            go_simp
            exact hK _ _ (val_int (by rw [IntKind.wrap_i64]; omega)) (Grew.refl _)
          · refine plainG rfl ?_
            intro bA K Q' hK
            have e47 := hG 17 47 (by decide) (by kernel_rfl) (by kernel_rfl)
            change ρ (.tmp 47) = _ at e47
            simp only [execOp]
            go_simp
            exact hK _ _ (val_int (by rw [IntKind.wrap_i64]; omega)) (Grew.refl _)
          · refine plainG rfl ?_
            intro bA K Q' hK
            have e43 := hG 13 43 (by decide) (by kernel_rfl) (by kernel_rfl)
            have e48 := hG 18 48 (by decide) (by kernel_rfl) (by kernel_rfl)
            change ρ (.tmp 43) = _ at e43
            change ρ (.tmp 48) = _ at e48
            simp only [execOp]
            go_simp
            exact hK _ _ (val_int (by rw [IntKind.wrap_i64]; omega)) (Grew.refl _)
          · refine plainG rfl ?_
            intro bA K Q' hK
            have e0 := hS 0 (by kernel_rfl)
            change ρ (.tmp 0) = _ at e0
            simp only [execOp]
            go_simp
            exact hK _ _ rfl (Grew.refl _)
          · refine plainG rfl ?_
            intro bA K Q' hK
            have e50 := hG 20 50 (by decide) (by kernel_rfl) (by kernel_rfl)
            change ρ (.tmp 50) = _ at e50
            simp only [execOp]
            go_simp
            exact hK _ _ rfl (Grew.refl _)
          · refine plainG rfl ?_
            intro bA K Q' hK
            have e51 := hG 21 51 (by decide) (by kernel_rfl) (by kernel_rfl)
            change ρ (.tmp 51) = _ at e51
            obtain ⟨k0, k1, k2, k3, k4, k5, k6, k7, k8, k9⟩ := HCL.out w4 (Grew.on HBX.out hR)
            simp only [execOp]
            go_simp
            exact hK _ _ rfl (Grew.refl _)
          · refine plainG rfl ?_
            intro bA K Q' hK
            have e52 := hG 22 52 (by decide) (by kernel_rfl) (by kernel_rfl)
            change ρ (.tmp 52) = _ at e52
            simp only [execOp]
            go_simp
            exact hK _ _ (val_int (by rw [IntKind.wrap_i64]; omega)) (Grew.refl _)
          · refine plainG rfl ?_
            intro bA K Q' hK
            have e53 := hG 23 53 (by decide) (by kernel_rfl) (by kernel_rfl)
            change ρ (.tmp 53) = _ at e53
            simp only [execOp]
            go_simp
            exact hK _ _ (val_int (by rw [IntKind.wrap_i64]; omega)) (Grew.refl _)
          · refine plainG rfl ?_
            intro bA K Q' hK
            have e49 := hG 19 49 (by decide) (by kernel_rfl) (by kernel_rfl)
            have e54 := hG 24 54 (by decide) (by kernel_rfl) (by kernel_rfl)
            change ρ (.tmp 49) = _ at e49
            change ρ (.tmp 54) = _ at e54
            simp only [execOp]
            go_simp
            exact hK _ _ (val_int (by rw [IntKind.wrap_i64]; omega)) (Grew.refl _)
          · refine plainG rfl ?_
            intro bA K Q' hK
            have e0 := hS 0 (by kernel_rfl)
            change ρ (.tmp 0) = _ at e0
            simp only [execOp]
            go_simp
            exact hK _ _ rfl (Grew.refl _)
          · refine plainG rfl ?_
            intro bA K Q' hK
            have e56 := hG 26 56 (by decide) (by kernel_rfl) (by kernel_rfl)
            change ρ (.tmp 56) = _ at e56
            simp only [execOp]
            go_simp
            exact hK _ _ rfl (Grew.refl _)
          · refine plainG rfl ?_
            intro bA K Q' hK
            have e57 := hG 27 57 (by decide) (by kernel_rfl) (by kernel_rfl)
            change ρ (.tmp 57) = _ at e57
            obtain ⟨k0, k1, k2, k3, k4, k5, k6, k7, k8, k9⟩ := HCL.out w4 (Grew.on HBX.out hR)
            simp only [execOp]
            go_simp
            exact hK _ _ rfl (Grew.refl _)
          · refine plainG rfl ?_
            intro bA K Q' hK
            have e58 := hG 28 58 (by decide) (by kernel_rfl) (by kernel_rfl)
            change ρ (.tmp 58) = _ at e58
            simp only [execOp]
            go_simp
            exact hK _ _ (val_int (by rw [IntKind.wrap_i64]; omega)) (Grew.refl _)
          · refine plainG rfl ?_
            intro bA K Q' hK
            have e0 := hS 0 (by kernel_rfl)
            change ρ (.tmp 0) = _ at e0
            simp only [execOp]
            go_simp
            exact hK _ _ rfl (Grew.refl _)
          · refine plainG rfl ?_
            intro bA K Q' hK
            have e60 := hG 30 60 (by decide) (by kernel_rfl) (by kernel_rfl)
            change ρ (.tmp 60) = _ at e60
            simp only [execOp]
            go_simp
            exact hK _ _ rfl (Grew.refl _)
          · refine plainG rfl ?_
            intro bA K Q' hK
            have e61 := hG 31 61 (by decide) (by kernel_rfl) (by kernel_rfl)
            change ρ (.tmp 61) = _ at e61
            obtain ⟨k0, k1, k2, k3, k4, k5, k6, k7, k8, k9⟩ := HCL.out w4 (Grew.on HBX.out hR)
            simp only [execOp]
            go_simp
            exact hK _ _ rfl (Grew.refl _)
          · refine plainG rfl ?_
            intro bA K Q' hK
            have e62 := hG 32 62 (by decide) (by kernel_rfl) (by kernel_rfl)
            change ρ (.tmp 62) = _ at e62
            simp only [execOp]
            go_simp
            exact hK _ _ (val_int (by rw [IntKind.wrap_i64]; omega)) (Grew.refl _)
          · refine plainG rfl ?_
            intro bA K Q' hK
            have e63 := hG 33 63 (by decide) (by kernel_rfl) (by kernel_rfl)
            change ρ (.tmp 63) = _ at e63
            simp only [execOp]
            go_simp
            exact hK _ _ (val_int (by rw [IntKind.wrap_i64]; omega)) (Grew.refl _)
          · refine plainG rfl ?_
            intro bA K Q' hK
            have e59 := hG 29 59 (by decide) (by kernel_rfl) (by kernel_rfl)
            have e64 := hG 34 64 (by decide) (by kernel_rfl) (by kernel_rfl)
            change ρ (.tmp 59) = _ at e59
            change ρ (.tmp 64) = _ at e64
            simp only [execOp]
            go_simp
            exact hK _ _ (val_int (by rw [IntKind.wrap_i64]; omega)) (Grew.refl _)
          · refine plainG rfl ?_
            intro bA K Q' hK
            have e33 := hG 3 33 (by decide) (by kernel_rfl) (by kernel_rfl)
            have e55 := hG 25 55 (by decide) (by kernel_rfl) (by kernel_rfl)
            have e65 := hG 35 65 (by decide) (by kernel_rfl) (by kernel_rfl)
            change ρ (.tmp 33) = _ at e33
            change ρ (.tmp 55) = _ at e55
            change ρ (.tmp 65) = _ at e65
            simp only [execOp]
            go_simp
            exact hK _ _ rfl (Grew.refl _)
          · refine plainG rfl ?_
            intro bA K Q' hK
            simp only [execOp]
            go_simp
            exact hK _ _ ⟨_, rfl, hR.size, heap_alloc_new w4 _⟩ ((Grew.refl _).alloc _)
        · intro v w3 hR hG
          obtain ⟨g5, h37, hg5, hrow5⟩ := hG.2
          have h36 := hG.1.2
          change v 36 = _ at h36
          have HB3 : Hid (Below w.heap.size w w3) := hid (Grew.on HB2.out hR)
          have HR3 : Hid (w3.heap[w.heap.size]? = _) := hid (row_below (w := w2.drew) HR2.out hR)
          have hgne : w.heap.size < g5 := Nat.lt_of_lt_of_le (row_lt HR2.out) hg5
          have HG5 := hid hgne
          clear hG hR HB2 HBX hg5 hgne
          simp [stG, stU, dstAt, Act.put, h37, h36]
          have hN : (x8 : Int) + 256 * (x9 : Int) = ((x8 + 256 * x9 : Nat) : Int) := by omega
          rw [hN]
          obtain ⟨N, hNd⟩ : ∃ N, N = x8 + 256 * x9 := ⟨_, rfl⟩
          have HNd := hid hNd
          rw [← hNd]
          have hNb : (N : Int) < 65536 := by omega
          clear hN hNd h36 h37 h9 h7
          refine wpList_store_own rfl 24 _ _ rfl g5 #[.int .i64 (x1 : Int), .int .i64 ((x2 : Int) + 256 * (x3 : Int) + 65536 * (x4 : Int) + 16777216 * (x5 : Int)), .int .i64 (((x6 : Int) + 256 * (x7 : Int))), .slice none 0 0] rfl rfl 24 _ hrow5 (by kernel_rfl) rfl (by simp [Value.oneCell']) ?_
          intro w4 hr4 hg4
          have HB4 : Hid (Below w.heap.size w w4) := hid (below_grown HB3.out hg4 (Nat.le_of_lt HG5.out) HB3.out.size)
          have HR4 : Hid (w4.heap[w.heap.size]? = _) := hid (row_grown HR3.out hg4 (by intro h; cases h; exact absurd HG5.out (Nat.lt_irrefl _)))
          have HRG := hid hr4
          have q0 := cell_of_row w4 _ 0 _ _ _ hr4
          have q2 := cell_of_row w4 _ 2 _ _ _ hr4
          have q3 := cell_of_row w4 _ 3 _ _ _ hr4
          have qf := frozen_of_row w4 g5 3 _ _ hr4
          have k0 := (HCL.out w4 HB4.out).1
          clear hr4 hg4 hrow5 HB3 HR3
          have hsp : (((x0 : Int) != 241) = true ∧ x0 ≠ 241) ∨ (((x0 : Int) != 241) = false ∧ x0 = 241 ∧ (238 : Int) < N) ∨ (((x0 : Int) != 241) = false ∧ x0 = 241 ∧ (N : Int) ≤ 238 ∧ (x1 : Int) < 1) ∨ (((x0 : Int) != 241) = false ∧ x0 = 241 ∧ (N : Int) ≤ 238 ∧ (1 : Int) ≤ x1 ∧ (9 : Int) < x1) ∨ (((x0 : Int) != 241) = false ∧ x0 = 241 ∧ (N : Int) ≤ 238 ∧ (1 : Int) ≤ x1 ∧ (x1 : Int) ≤ 9 ∧ (2047 : Int) < ((x6 : Int) + 256 * (x7 : Int))) ∨
              (((x0 : Int) != 241) = false ∧ x0 = 241 ∧ (N : Int) ≤ 238 ∧ (1 : Int) ≤ x1 ∧ (x1 : Int) ≤ 9 ∧ ((x6 : Int) + 256 * (x7 : Int)) ≤ (2047 : Int)) := by
            by_cases h : x0 = 241
            · right
              have h' : ((x0 : Int) != 241) = false := by rw [bne_eq_false_iff_eq]; omega
              by_cases h1 : (N : Int) ≤ 238
              · right
                by_cases h2 : (1 : Int) ≤ x1
                · right
                  by_cases h3 : (x1 : Int) ≤ 9
                  · right
                    by_cases h4 : ((x6 : Int) + 256 * (x7 : Int)) ≤ (2047 : Int)
                    · exact .inr ⟨h', h, h1, h2, h3, h4⟩
                    · exact .inl ⟨h', h, h1, h2, h3, by omega⟩
                  · exact .inl ⟨h', h, h1, h2, by omega⟩
                · exact .inl ⟨h', h, h1, by omega⟩
              · exact .inl ⟨h', h, by omega⟩
            · exact .inl ⟨by rw [bne_iff_ne]; omega, h⟩
          have HBAD : Hid (x0 ≠ 241 ∨ 238 < N ∨ x1 < 1 ∨ 9 < x1 ∨ 2047 < x6 + 256 * x7 → decE bs = 3) := hid fun h => HNO.out fun hr => by
            obtain ⟨r1, r2, r3, r4, r5, _⟩ := hr
            obtain ⟨n1, n2, n3, n4⟩ := HNUM.out
            rw [← HX0.out] at r1
            rw [n4] at r2
            rw [n1] at r3 r4
            rw [n3] at r5
            have := HNd.out
            omega
          rcases hsp with ⟨t0, hb⟩ | ⟨t0, hb, t1⟩ | ⟨t0, hb, t1, t2⟩ | ⟨t0, hb, t1, t2, t3⟩ | ⟨t0, hb, t1, t2, t3, t4⟩ | ⟨t0, hb, t1, t2, t3, t4⟩
          rotate_right 1
          · have HX1 := hid hb
            have t5 : ((2047 : Int) < ((x6 : Int) + 256 * (x7 : Int))) = False := eq_false (by omega)
            have t6 : ((238 : Int) < N) = False := eq_false (by omega)
            have t7 : ((x1 : Int) < 1) = False := eq_false (by omega)
            have t8 : ((9 : Int) < x1) = False := eq_false (by omega)
            have hN10 : (10 : Int) + N ≤ c := by omega
            have hNc : (c = 10) = False := eq_false (by omega)
            have HT := hid (And.intro t1 (And.intro t2 (And.intro t3 t4)))
            clear hb t2 t3 t4
            go_wp2_with fail
            obtain ⟨w5, hw5⟩ : ∃ w5, w5 = w4.setCell ⟨g5, 3, none⟩ (.slice (some ⟨b, o + 10, none⟩) N (c - 10)) := ⟨_, rfl⟩
            rw [← hw5]
            have hg5 : w4.grownBy w5 (some g5) := by rw [hw5]; exact grown_setCell (grown_refl _ _) (.inl rfl) _
            have HB5 : Hid (Below w.heap.size w w5) := hid (below_grown HB4.out hg5 (Nat.le_of_lt HG5.out) HB4.out.size)
            have HR5 : Hid (w5.heap[w.heap.size]? = _) := hid (row_grown HR4.out hg5 (by intro h; cases h; exact absurd HG5.out (Nat.lt_irrefl _)))
            have HRG5 : Hid (w5.heap[g5]? = some (.cells #[.int .i64 (x1 : Int), .int .i64 ((x2 : Int) + 256 * (x3 : Int) + 65536 * (x4 : Int) + 16777216 * (x5 : Int)), .int .i64 (((x6 : Int) + 256 * (x7 : Int))), .slice (some ⟨b, o + 10, none⟩) N (c - 10)] 24 (0, 0))) := hid (by
              have h := heap_setCell_same w4 g5 3 _ _ (.slice (some ⟨b, o + 10, none⟩) N (c - 10)) HRG.out
              rw [hw5]
              exact h)
            have HFRN : Hid (frN bs = N) := hid (HNUM.out.2.2.2.trans HNd.out.symm)
            have HGOOD : Hid (decE bs = 0 → ∀ y, Below w.heap.size w y → DecOk ok bs (.returned (.tuple #[.agg #[.int .i64 (x1 : Int), .int .i64 ((x2 : Int) + 256 * (x3 : Int) + 65536 * (x4 : Int) + 16777216 * (x5 : Int)), .int .i64 (((x6 : Int) + 256 * (x7 : Int))), .slice (some ⟨b, o + 10, none⟩) N (c - 10)], .int .i64 0])) y) := hid fun h y hy => by
              obtain ⟨n1, n2, n3, n4⟩ := HNUM.out
              have hlen : (picked bs).b.length = N := by rw [picked_len HL.out, HFRN.out]; omega
              have hbb : (picked bs).b = frAt bs 10 N := by show frAt bs 10 (min (frN bs) 238) = _; rw [HFRN.out, Nat.min_eq_left (by omega)]
              unfold DecOk
              have e5 : ((x2 + 256 * x3 + 65536 * x4 + 16777216 * x5 : Nat) : Int) = (x2 : Int) + 256 * (x3 : Int) + 65536 * (x4 : Int) + 16777216 * (x5 : Int) := by omega
              have e7 : ((x6 + 256 * x7 : Nat) : Int) = ((x6 : Int) + 256 * (x7 : Int)) := by omega
              rw [decF_ok h, h, n1, n2, n3, e5, e7]
              refine ⟨.slice (some ⟨b, o + 10, none⟩) N (c - 10), rfl, some ⟨b, o + 10, none⟩, c - 10, by rw [hlen], ?_, by rw [hlen]; omega, by have := hm; unfold maxLen; omega, fun h => by cases h⟩
              rw [hbb]
              exact HBODY.out y hy N (by omega)
            have HREF : Hid ((∀ j, 10 + N ≤ j → j < 248 → bs.getD j 0 = 0) → decide (frAt bs 248 4 = frAt bs 2 4) = true → decE bs = 0) := hid fun h1 h2 => HOK.out (by
              obtain ⟨n1, n2, n3, n4⟩ := HNUM.out
              have := HT.out
              unfold refOk
              rw [HFRN.out, n1, n3, ← HX0.out]
              exact ⟨HX1.out, by omega, by omega, by omega, by omega, h1, of_decide_eq_true h2⟩)
            have HNOZ : Hid (∀ j, 10 + N ≤ j → j < 248 → bs.getD j 0 ≠ 0 → decE bs = 3) := hid fun j h1 h2 h3 => HNO.out fun hr => by
              have := hr.2.2.2.2.2.1 j (by rw [HFRN.out]; exact h1) h2
              exact h3 this
            have HNOE : Hid (decide (frAt bs 248 4 = frAt bs 2 4) = false → decE bs = 3) := hid fun h => HNO.out fun hr => (of_decide_eq_false h) hr.2.2.2.2.2.2
            have hn10 : 10 + N ≤ 248 := by omega
            clear hw5 hg5 q0 q2 q3 qf k0 t5 t6 t7 t8 hN10 hNc HRG HB4 HR4 HOK HNO HBAD HNUM HCL t0
            go_loop [6] (fun i => ∃ k : Nat, 10 + N ≤ k ∧ k ≤ 248 ∧ i = .int .i64 (k : Int) ∧ ∀ j, 10 + N ≤ j → j < k → bs.getD j 0 = 0) (fun i => 248 - (intOf i).toNat)
            case atStart => exact ⟨10 + N, Nat.le_refl _, hn10, by congr 1, fun j h1 h2 => by omega⟩
            case round =>
              obtain ⟨k, hk1, hk2, rfl, hz⟩ := hrel
              have HZ := hid hz
              clear hz
              by_cases hlt : (k : Int) < 248
              · have hcell := HCELL.out w5 HB5.out k (by omega)
                obtain ⟨y, hy⟩ : ∃ y, y = bs.getD k 0 := ⟨_, rfl⟩
                rw [← hy] at hcell
                have HY := hid hy
                clear hy
                have hk256 : (k : Int) < 256 := by omega
                by_cases hy0 : y = 0
                · have ht : ((y : Int) != 0) = false := by rw [bne_eq_false_iff_eq]; omega
                  have HY0 := hid hy0
                  clear hy0
                  go_wp2_with fail
                  go_round
                  case rel => exact ⟨k + 1, by omega, by omega, by go_num, fun j h1 h2 => by
                    by_cases hj : j = k
                    · rw [hj, ← HY.out, HY0.out]
                    · exact HZ.out j h1 (by omega)⟩
                  case measure => simp [intOf]; omega
                · have ht : ((y : Int) != 0) = true := by rw [bne_iff_ne]; omega
                  have HD3 : Hid (decE bs = 3) := hid (HNOZ.out k hk1 (by omega) (by rw [← HY.out]; exact hy0))
                  clear hy0
                  go_upto_region 14 with fail
                  refine wp_region_lit ?_
                  refine wpList_plain rfl fun K hK => ?_
                  go_simp
                  refine hK _ _ ?_
                  refine wpList_store_own rfl 24 _ _ rfl w.heap.size zc rfl rfl 24 _ HR5.out (by kernel_rfl) rfl (by simp [Value.oneCell', zc]) ?_
                  intro w9 hr9 hg9
                  have HR9 := hid hr9
                  have HB9 : Hid (Below w.heap.size w w9) := hid (below_grown HB5.out hg9 (Nat.le_refl _) HB5.out.size)
                  clear hr9 hg9
                  go_wp2_with fail
                  refine bodyPost_ret (v := .tuple #[.agg zc, .int .i64 3]) (res24 _ _ _ _ rfl HR9.out rfl) rfl ⟨?_, HB9.out⟩
                  exact DecOk.bad HD3.out (by decide)
              · have hk8 : k = 248 := by omega
                subst hk8
                have HREF := hid (HREF.out HZ.out)
                clear hlt HZ HNOZ
                go_upto_region 15 with fail
                have HBX := HB5
                refine wp_region_grows 6 [Eqv' (.slice (some ⟨b, o, none⟩) 256 c), Eqv' (.slice (some ⟨b, o + 248, none⟩) 4 (c - 248)), Eqv' (.slice (some ⟨b, o, none⟩) 256 c), Eqv' (.slice (some ⟨b, o + 2, none⟩) 4 (c - 2)), Eqv' (.bool (decide (frAt bs 248 4 = frAt bs 2 4))), Eqv' (.bool (!decide (frAt bs 248 4 = frAt bs 2 4)))] (by kernel_rfl) (by decide) (by kernel_rfl) ?_ ?_ ?_
                · repeat' (first | exact List.forall_mem_nil _ | refine List.forall_mem_cons.2 ⟨?_, ?_⟩)
                  all_goals
                    intro w w' v hw h
                    first | exact h | exact h
                · simp only [AllLt]
                  refine ⟨⟨⟨⟨⟨⟨trivial, ?_⟩, ?_⟩, ?_⟩, ?_⟩, ?_⟩, ?_⟩
                  all_goals
                    intro o' ho
                    simp at ho
                    subst ho
                    intro ρ w4 hR hL hS hG
                    obtain ⟨hl1, hl2, -⟩ := hL
                  · refine plainG rfl ?_
                    intro bA K Q' hK
                    have e0 := hS 0 (by kernel_rfl)
                    change ρ (.tmp 0) = _ at e0
                    simp only [execOp]
                    go_simp
                    exact hK _ _ rfl (Grew.refl _)
                  · refine plainG rfl ?_
                    intro bA K Q' hK
                    have e108 := hG 0 108 (by decide) (by kernel_rfl) (by kernel_rfl)
                    change ρ (.tmp 108) = _ at e108
                    simp only [execOp]
                    go_simp
                    rw [if_pos (by omega), if_neg (by omega)]
                    exact hK _ _ rfl (Grew.refl _)
                  · refine plainG rfl ?_
                    intro bA K Q' hK
                    have e0 := hS 0 (by kernel_rfl)
                    change ρ (.tmp 0) = _ at e0
                    simp only [execOp]
                    go_simp
                    exact hK _ _ rfl (Grew.refl _)
                  · refine plainG rfl ?_
                    intro bA K Q' hK
                    have e110 := hG 2 110 (by decide) (by kernel_rfl) (by kernel_rfl)
                    change ρ (.tmp 110) = _ at e110
                    simp only [execOp]
                    go_simp
                    rw [if_pos (by omega), if_neg (by omega)]
                    exact hK _ _ rfl (Grew.refl _)
                  · refine plainG rfl ?_
                    intro bA K Q' hK
                    have e109 := hG 1 109 (by decide) (by kernel_rfl) (by kernel_rfl)
                    have e111 := hG 3 111 (by decide) (by kernel_rfl) (by kernel_rfl)
                    change ρ (.tmp 109) = _ at e109
                    change ρ (.tmp 111) = _ at e111
                    simp only [execOp]
                    go_simp
                    refine (HSE.out w4 (Grew.on HBX.out hR)).mono ?_
                    rintro r w5 ⟨rfl, hb⟩
                    exact hK _ _ rfl hb
                  · refine plainG rfl ?_
                    intro bA K Q' hK
                    have e112 := hG 4 112 (by decide) (by kernel_rfl) (by kernel_rfl)
                    change ρ (.tmp 112) = _ at e112
                    simp only [execOp]
                    go_simp
                    exact hK _ _ rfl (Grew.refl _)
                · intro v w6 hR hG
                  have h5 := hG.2
                  change v 5 = _ at h5
                  have HB6 : Hid (Below w.heap.size w w6) := hid (Grew.on HB5.out hR)
                  have HR6 : Hid (w6.heap[w.heap.size]? = _) := hid (row_below (w := w5.drew) HR5.out hR)
                  have hrg6 : w6.heap[g5]? = _ := row_below (w := w5.drew) HRG5.out hR
                  have q0 := cell_of_row w6 _ 0 _ _ _ hrg6
                  have q1 := cell_of_row w6 _ 1 _ _ _ hrg6
                  have q2 := cell_of_row w6 _ 2 _ _ _ hrg6
                  have q3 := cell_of_row w6 _ 3 _ _ _ hrg6
                  clear hG hR HB5 HBX HR5 HRG5 hrg6
                  cases hE : decide (frAt bs 248 4 = frAt bs 2 4)
                  · have HD3 : Hid (decE bs = 3) := hid (HNOE.out hE)
                    rw [hE] at h5
                    simp [stG, stU, dstAt, Act.put, h5]
                    go_upto_region 16 with fail
                    refine wp_region_lit ?_
                    refine wpList_plain rfl fun K hK => ?_
                    go_simp
                    refine hK _ _ ?_
                    refine wpList_store_own rfl 24 _ _ rfl w.heap.size zc rfl rfl 24 _ HR6.out (by kernel_rfl) rfl (by simp [Value.oneCell', zc]) ?_
                    intro w9 hr9 hg9
                    have HR9 := hid hr9
                    have HB9 : Hid (Below w.heap.size w w9) := hid (below_grown HB6.out hg9 (Nat.le_refl _) HB6.out.size)
                    clear hr9 hg9
                    go_wp2_with fail
                    refine bodyPost_ret (v := .tuple #[.agg zc, .int .i64 3]) (res24 _ _ _ _ rfl HR9.out rfl) rfl ⟨?_, HB9.out⟩
                    exact DecOk.bad HD3.out (by decide)
                  · have HD0 := hid (HREF.out hE)
                    have HGOOD := hid (HGOOD.out HD0.out)
                    rw [hE] at h5
                    simp [stG, stU, dstAt, Act.put, h5]
                    go_upto_region 17 with fail
                    refine wp_region_lit ?_
                    refine wpList_plain rfl fun K hK => ?_
                    go_simp
                    refine hK _ _ ?_
                    refine wpList_store_own rfl 24 _ _ rfl w.heap.size #[.int .i64 (x1 : Int), .int .i64 ((x2 : Int) + 256 * (x3 : Int) + 65536 * (x4 : Int) + 16777216 * (x5 : Int)), .int .i64 (((x6 : Int) + 256 * (x7 : Int))), .slice (some ⟨b, o + 10, none⟩) N (c - 10)] rfl rfl 24 _ HR6.out (by kernel_rfl) rfl (by simp [Value.oneCell']) ?_
                    intro w9 hr9 hg9
                    have HR9 := hid hr9
                    have HB9 : Hid (Below w.heap.size w w9) := hid (below_grown HB6.out hg9 (Nat.le_refl _) HB6.out.size)
                    clear hr9 hg9 q0 q1 q2 q3
                    go_wp2_with fail
                    refine bodyPost_ret (v := .tuple #[.agg #[.int .i64 (x1 : Int), .int .i64 ((x2 : Int) + 256 * (x3 : Int) + 65536 * (x4 : Int) + 16777216 * (x5 : Int)), .int .i64 (((x6 : Int) + 256 * (x7 : Int))), .slice (some ⟨b, o + 10, none⟩) N (c - 10)], .int .i64 0]) (res24 _ _ _ _ rfl HR9.out rfl) rfl ⟨HGOOD.out w9 HB9.out, HB9.out⟩
          all_goals
            have HD3 : Hid (decE bs = 3) := hid (HBAD.out (by omega))
            clear hb HBAD HOK HNO HNUM
            go_upto_region 8 with fail
            refine wp_region_lit ?_
            refine wpList_plain rfl fun K hK => ?_
            go_simp
            refine hK _ _ ?_
            refine wpList_store_own rfl 24 _ _ rfl w.heap.size zc rfl rfl 24 _ HR4.out (by kernel_rfl) rfl (by simp [Value.oneCell', zc]) ?_
            intro w9 hr9 hg9
            have HR9 := hid hr9
            have HB9 : Hid (Below w.heap.size w w9) := hid (below_grown HB4.out hg9 (Nat.le_refl _) HB4.out.size)
            clear hr9 hg9
            go_wp2_with fail
            refine bodyPost_ret (v := .tuple #[.agg zc, .int .i64 3]) (res24 _ _ _ _ rfl HR9.out rfl) rfl ⟨?_, HB9.out⟩
            exact DecOk.bad HD3.out (by decide)
end Go.Proofs.Ytmdimhijbmeioaa
