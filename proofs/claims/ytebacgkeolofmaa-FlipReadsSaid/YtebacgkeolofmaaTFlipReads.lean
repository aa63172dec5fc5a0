/- FLIP, THE SECOND STATEMENT: the superblock of any page's bytes, or what is wrong with them, is the document's (all bytes, marked or not; every page's number). -/
import Derived.Test.YtebacgkeolofmaaQ30
import Derived.Test.YtebacgkeolofmaaQ22
import Derived.Test.YtebacgkeolofmaaQ7
namespace Go.Proofs.Ytebacgkeolofmaa
open Go.RowKit Go.Inc

set_option maxRecDepth 20000 in
set_option maxHeartbeats 8000000 in
theorem flipReads_walk (ok : Nat → Prop) (a : Option Addr) (c : Nat) (bs : List Nat) (fix : Bool) (page : Int) (w : World) (hs : Sl ok w a bs) (hby : Bytes bs) (hc : bs.length ≤ c ∧ c ≤ maxLen) :
    Calls Try.prog 4 #[.slice a bs.length c, .bool fix, .int .i64 page] w fun r w' => r = .returned (.bool true) ∧ Below w.heap.size w w' := by
  have HFULL := hid (full_sl ok a c bs w hs (by have := hc.1; have := hc.2; unfold maxLen at *; omega))
  have hXl := fill_len bs
  have hXb := flFill_bytes hby
  clear hs hby hc
  generalize fill bs = X at *
  have HXL := hid hXl
  have HXB := hid hXb
  clear hXl hXb
  go_enter Try.func4, Try.ntmps4
  go_wp2_with fail
  refine HFULL.out.mono ?_
  clear HFULL
  rintro x w1 ⟨g, rfl, hs1, hb1⟩
  have HS1 := hid hs1
  have HB1 := hid hb1
  clear hs1 hb1
  cases fix
  · obtain ⟨Y, hY⟩ : ∃ Y, Y = X := ⟨_, rfl⟩
    obtain ⟨aY, haY⟩ : ∃ aY : Option Addr, aY = some ⟨g, 0, none⟩ := ⟨_, rfl⟩
    obtain ⟨cY, hcY⟩ : ∃ cY, cY = 256 := ⟨_, rfl⟩
    obtain ⟨wX, hwX⟩ : ∃ wX, wX = w1 := ⟨_, rfl⟩
    have HSY : Hid (Sl (fun b => w.heap.size ≤ b) wX aY Y) := hid (by rw [hwX, haY, hY]; exact HS1.out)
    have HBY : Hid (Bytes Y) := hid (by rw [hY]; exact HXB.out)
    have HLY : Hid (Y.length = 256) := hid (by rw [hY]; exact HXL.out)
    have HCY : Hid (Y.length ≤ cY ∧ cY ≤ maxLen) := hid (by rw [HLY.out, hcY]; unfold maxLen; omega)
    have HBX : Hid (Below w.heap.size w wX) := hid (by rw [hwX]; exact HB1.out)
    rw [← hwX, ← haY]
    have hsl : Value.slice aY 256 256 = .slice aY 256 cY := by rw [hcY]
    rw [hsl]
    clear hY haY hcY hwX hsl HS1 HXB HXL HB1
    have HD := hid (fdec_any _ aY cY Y page wX HSY.out HBY.out HCY.out)
    rw [HLY.out] at HD
    go_wp2_with fail
    refine HD.out.mono ?_
    clear HD
    rintro x w5 ⟨hx, hb5⟩
    unfold FlAns at hx
    subst hx
    have HSY5 := hid (HSY.out.below hb5)
    have HB5 : Hid (Below w.heap.size w w5) := hid (HBX.out.trans (hb5.mono HBX.out.size))
    have HREF : Hid (∀ z, Sl (fun _ => True) z aY Y → Calls Try.prog 20 _ z _) := hid fun z hz => refFDec_any _ aY cY Y page z hz HBY.out HCY.out
    rw [HLY.out] at HREF
    clear hb5 HSY HBX
    unfold FlAns at HREF
    generalize flS Y page = y at *
    generalize flE Y page = q at *
    obtain ⟨w6, hw6⟩ : ∃ u, u = w5.alloc (.cells #[.int .i64 (y).e, .int .i64 (y).r, .int .i64 (y).s, .int .i64 (y).t] 24) := ⟨_, rfl⟩
    have hb6 : Below w5.heap.size w5 w6 := by rw [hw6]; exact (Below.refl _ _).alloc (Nat.le_refl _) _
    have HX6 : Hid (w6.heap[w5.heap.size]? = some (.cells #[.int .i64 (y).e, .int .i64 (y).r, .int .i64 (y).s, .int .i64 (y).t] 24 (0, 0))) := hid (by rw [hw6]; exact heap_alloc_new w5 _)
    have HB6 : Hid (Below w.heap.size w w6) := hid (HB5.out.trans (hb6.mono HB5.out.size))
    have HSY6 := hid (HSY5.out.below hb6)
    have HW6 := hid hw6
    clear hb6 hw6 HB5 HSY5
    go_upto_region 5 with fail
    rw [← HW6.out]
    clear HW6
    have HR6 := hid (HREF.out w6 (HSY6.out.mono fun _ _ _ => trivial))
    go_wp2_with fail
    refine HR6.out.mono ?_
    clear HR6
    rintro x w7 ⟨rfl, hb7⟩
    obtain ⟨w8, hw8⟩ : ∃ u, u = w7.alloc (.cells #[.int .i64 (y).e, .int .i64 (y).r, .int .i64 (y).s, .int .i64 (y).t] 23) := ⟨_, rfl⟩
    have hb8 : Below w7.heap.size w7 w8 := by rw [hw8]; exact (Below.refl _ _).alloc (Nat.le_refl _) _
    have HZ8 : Hid (w8.heap[w7.heap.size]? = some (.cells #[.int .i64 (y).e, .int .i64 (y).r, .int .i64 (y).s, .int .i64 (y).t] 23 (0, 0))) := hid (by rw [hw8]; exact heap_alloc_new w7 _)
    have HB7 : Hid (Below w.heap.size w w7) := hid (HB6.out.trans (hb7.mono HB6.out.size))
    have HB8 : Hid (Below w.heap.size w w8) := hid (HB7.out.trans (hb8.mono HB7.out.size))
    have HX8 := hid (row_below (row_below HX6.out hb7) hb8)
    have HW8 := hid hw8
    clear hb7 hb8 hw8 HB6 HB7 HX6 HSY6 HREF HLY HBY HCY
    go_upto_region 6 with fail
    rw [← HW8.out]
    clear HW8
    have HC : Hid (∀ z, Grew w8.drew z → z.cell? ⟨w5.heap.size, 0, none⟩ = some (.int .i64 y.e) ∧ z.cell? ⟨w5.heap.size, 1, none⟩ = some (.int .i64 y.r) ∧ z.cell? ⟨w5.heap.size, 2, none⟩ = some (.int .i64 y.s) ∧ z.cell? ⟨w5.heap.size, 3, none⟩ = some (.int .i64 y.t) ∧
        z.cell? ⟨w7.heap.size, 0, none⟩ = some (.int .i64 y.e) ∧ z.cell? ⟨w7.heap.size, 1, none⟩ = some (.int .i64 y.r) ∧ z.cell? ⟨w7.heap.size, 2, none⟩ = some (.int .i64 y.s) ∧ z.cell? ⟨w7.heap.size, 3, none⟩ = some (.int .i64 y.t)) := hid fun z hz => by
      have h1 : z.heap[w5.heap.size]? = _ := row_below (w := w8.drew) HX8.out hz
      have h2 : z.heap[w7.heap.size]? = _ := row_below (w := w8.drew) HZ8.out hz
      exact ⟨cell_of_row z _ 0 _ _ _ h1, cell_of_row z _ 1 _ _ _ h1, cell_of_row z _ 2 _ _ _ h1, cell_of_row z _ 3 _ _ _ h1, cell_of_row z _ 0 _ _ _ h2, cell_of_row z _ 1 _ _ _ h2, cell_of_row z _ 2 _ _ _ h2, cell_of_row z _ 3 _ _ _ h2⟩
    refine wp_region_grows 13 [Eqv' (.bool true), Eqv' (.bool true), Eqv' (.int .i64 (q : Nat)), Eqv' (.int .i64 (q : Nat)), Eqv' (.bool true), Eqv' (.bool true), Eqv' (.bool true), Eqv' (.agg #[.int .i64 (y).e, .int .i64 (y).r, .int .i64 (y).s, .int .i64 (y).t]), Eqv' (.agg #[.int .i64 (y).e, .int .i64 (y).r, .int .i64 (y).s, .int .i64 (y).t]), Eqv' (.agg #[.int .i64 (y).e, .int .i64 (y).r, .int .i64 (y).s, .int .i64 (y).t]), Eqv' (.bool true), Eqv' (.bool true), Eqv' (.bool true)] (by kernel_rfl) (by decide) (by kernel_rfl) ?_ ?_ ?_
    · repeat' (first | exact List.forall_mem_nil _ | refine List.forall_mem_cons.2 ⟨?_, ?_⟩)
      all_goals
        intro w w' v hw h
        exact h
    · simp only [AllLt]
      refine ⟨⟨⟨⟨⟨⟨⟨⟨⟨⟨⟨⟨⟨trivial, ?_⟩, ?_⟩, ?_⟩, ?_⟩, ?_⟩, ?_⟩, ?_⟩, ?_⟩, ?_⟩, ?_⟩, ?_⟩, ?_⟩, ?_⟩
      all_goals
        intro o' ho
        simp at ho
        subst ho
        intro ρ w2 hR hL hS hG
        obtain ⟨hl1, hl2, -⟩ := hL
      · refine plainG rfl ?_
        intro bA K Q' hK
        simp only [execOp]
        go_simp
        refine (flKnown_any w2).mono ?_
        rintro r9 w9 ⟨rfl, hb9⟩
        exact hK _ _ rfl hb9
      · refine plainG rfl ?_
        intro bA K Q' hK
        have e29 := hG 0 29 (by decide) (by kernel_rfl) (by kernel_rfl)
        change ρ (.tmp 29) = _ at e29
        simp only [execOp]
        go_simp
        exact hK _ _ rfl (Grew.refl _)
      · have eG : ρ (.tmp 30) = _ := hG 1 30 (by decide) (by kernel_rfl) (by kernel_rfl)
        refine onG rfl (by kernel_rfl) eG ?_
        intro bA K Q' hK
        have e8 := hS 8 (by kernel_rfl)
        change ρ (.tmp 8) = _ at e8
        simp only [execOp]
        go_simp
        exact hK _ _ rfl (Grew.refl _)
      · have eG : ρ (.tmp 30) = _ := hG 1 30 (by decide) (by kernel_rfl) (by kernel_rfl)
        refine onG rfl (by kernel_rfl) eG ?_
        intro bA K Q' hK
        have e10 := hS 10 (by kernel_rfl)
        change ρ (.tmp 10) = _ at e10
        simp only [execOp]
        go_simp
        exact hK _ _ rfl (Grew.refl _)
      · have eG : ρ (.tmp 30) = _ := hG 1 30 (by decide) (by kernel_rfl) (by kernel_rfl)
        refine onG rfl (by kernel_rfl) eG ?_
        intro bA K Q' hK
        have e31 := hG 2 31 (by decide) (by kernel_rfl) (by kernel_rfl)
        have e32 := hG 3 32 (by decide) (by kernel_rfl) (by kernel_rfl)
        change ρ (.tmp 31) = _ at e31
        change ρ (.tmp 32) = _ at e32
        simp only [execOp]
        go_simp
        exact hK _ _ rfl (Grew.refl _)
      · refine plainG rfl ?_
        intro bA K Q' hK
        have e30 := hG 1 30 (by decide) (by kernel_rfl) (by kernel_rfl)
        have e33 := hG 4 33 (by decide) (by kernel_rfl) (by kernel_rfl)
        change ρ (.tmp 30) = _ at e30
        change ρ (.tmp 33) = _ at e33
        simp only [execOp]
        go_simp
        exact hK _ _ rfl (Grew.refl _)
      · refine plainG rfl ?_
        intro bA K Q' hK
        have e34 := hG 5 34 (by decide) (by kernel_rfl) (by kernel_rfl)
        change ρ (.tmp 34) = _ at e34
        simp only [execOp]
        go_simp
        exact hK _ _ rfl (Grew.refl _)
      · have eG : ρ (.tmp 35) = _ := hG 6 35 (by decide) (by kernel_rfl) (by kernel_rfl)
        refine onG rfl (by kernel_rfl) eG ?_
        intro bA K Q' hK
        have e7 := hS 7 (by kernel_rfl)
        change ρ (.tmp 7) = _ at e7
        obtain ⟨x0, x1, x2, x3, z0, z1, z2, z3⟩ := HC.out w2 hR
        simp only [execOp]
        go_simp
        exact hK _ _ rfl (Grew.refl _)
      · have eG : ρ (.tmp 35) = _ := hG 6 35 (by decide) (by kernel_rfl) (by kernel_rfl)
        refine onG rfl (by kernel_rfl) eG ?_
        intro bA K Q' hK
        have e36 := hG 7 36 (by decide) (by kernel_rfl) (by kernel_rfl)
        change ρ (.tmp 36) = _ at e36
        simp only [execOp]
        go_simp
        refine (of_any y.e y.r y.s y.t w2).mono ?_
        rintro r9 w9 ⟨rfl, hb9⟩
        exact hK _ _ rfl hb9
      · have eG : ρ (.tmp 35) = _ := hG 6 35 (by decide) (by kernel_rfl) (by kernel_rfl)
        refine onG rfl (by kernel_rfl) eG ?_
        intro bA K Q' hK
        have e9 := hS 9 (by kernel_rfl)
        change ρ (.tmp 9) = _ at e9
        obtain ⟨x0, x1, x2, x3, z0, z1, z2, z3⟩ := HC.out w2 hR
        simp only [execOp]
        go_simp
        exact hK _ _ rfl (Grew.refl _)
      · have eG : ρ (.tmp 35) = _ := hG 6 35 (by decide) (by kernel_rfl) (by kernel_rfl)
        refine onG rfl (by kernel_rfl) eG ?_
        intro bA K Q' hK
        have e37 := hG 8 37 (by decide) (by kernel_rfl) (by kernel_rfl)
        have e38 := hG 9 38 (by decide) (by kernel_rfl) (by kernel_rfl)
        change ρ (.tmp 37) = _ at e37
        change ρ (.tmp 38) = _ at e38
        simp only [execOp]
        go_simp
        exact hK _ _ rfl (Grew.refl _)
      · refine plainG rfl ?_
        intro bA K Q' hK
        have e35 := hG 6 35 (by decide) (by kernel_rfl) (by kernel_rfl)
        have e39 := hG 10 39 (by decide) (by kernel_rfl) (by kernel_rfl)
        change ρ (.tmp 35) = _ at e35
        change ρ (.tmp 39) = _ at e39
        simp only [execOp]
        go_simp
        exact hK _ _ rfl (Grew.refl _)
      · refine plainG rfl ?_
        intro bA K Q' hK
        have e40 := hG 11 40 (by decide) (by kernel_rfl) (by kernel_rfl)
        change ρ (.tmp 40) = _ at e40
        simp only [execOp]
        go_simp
        exact hK _ _ rfl (Grew.refl _)
    · intro v' w9 hR hG
      have hlast : v' 12 = .bool true := hG.2
      have HB9 : Hid (Below w.heap.size w w9) := hid (Grew.on HB8.out hR)
      clear hG hR HC HB8 HX8 HZ8
      simp [stG, stU, dstAt, Act.put, hlast]
      go_wp2_with fail
      go_ret
      exact ⟨rfl, HB9.out⟩
  · have h252 : (X.take 252).length = 252 := by rw [List.length_take, HXL.out]; rfl
    have HMK := hid (mark_any _ (some ⟨g, 0, none⟩) 256 (X.take 252) w1 (HS1.out.front 252) (HXB.out.take 252) (by rw [h252]; unfold maxLen; omega) (by rw [h252]; decide))
    have HML : Hid ((mark (X.take 252)).length = 256) := hid (by rw [mark_len, h252])
    have HMB : Hid (Bytes (mark (X.take 252))) := hid (mark_bytes (HXB.out.take 252))
    rw [h252] at HMK
    clear h252 HXL HXB HS1
    generalize mark (X.take 252) = Y at *
    go_wp2_with fail
    refine HMK.out.mono ?_
    clear HMK
    rintro x wX ⟨v, rfl, hv, hbX⟩
    have hv' : Row 5 w1.heap.size wX v Y := hv
    obtain ⟨aY, cY, rfl, hnY, hcY, hmY, hsY⟩ := hv'.sl
    have HSY := hid hsY
    have HBY := HMB
    have HLY := HML
    have HCY : Hid (Y.length ≤ cY ∧ cY ≤ maxLen) := hid ⟨hcY, hmY⟩
    have HBX : Hid (Below w.heap.size w wX) := hid (HB1.out.trans (hbX.mono HB1.out.size))
    rw [HLY.out]
    clear hv hv' hnY hcY hmY hsY hbX HB1 HML HMB
    have HD := hid (fdec_any _ aY cY Y page wX HSY.out HBY.out HCY.out)
    rw [HLY.out] at HD
    go_wp2_with fail
    refine HD.out.mono ?_
    clear HD
    rintro x w5 ⟨hx, hb5⟩
    unfold FlAns at hx
    subst hx
    have HSY5 := hid (HSY.out.below hb5)
    have HB5 : Hid (Below w.heap.size w w5) := hid (HBX.out.trans (hb5.mono HBX.out.size))
    have HREF : Hid (∀ z, Sl (fun _ => True) z aY Y → Calls Try.prog 20 _ z _) := hid fun z hz => refFDec_any _ aY cY Y page z hz HBY.out HCY.out
    rw [HLY.out] at HREF
    clear hb5 HSY HBX
    unfold FlAns at HREF
    generalize flS Y page = y at *
    generalize flE Y page = q at *
    obtain ⟨w6, hw6⟩ : ∃ u, u = w5.alloc (.cells #[.int .i64 (y).e, .int .i64 (y).r, .int .i64 (y).s, .int .i64 (y).t] 24) := ⟨_, rfl⟩
    have hb6 : Below w5.heap.size w5 w6 := by rw [hw6]; exact (Below.refl _ _).alloc (Nat.le_refl _) _
    have HX6 : Hid (w6.heap[w5.heap.size]? = some (.cells #[.int .i64 (y).e, .int .i64 (y).r, .int .i64 (y).s, .int .i64 (y).t] 24 (0, 0))) := hid (by rw [hw6]; exact heap_alloc_new w5 _)
    have HB6 : Hid (Below w.heap.size w w6) := hid (HB5.out.trans (hb6.mono HB5.out.size))
    have HSY6 := hid (HSY5.out.below hb6)
    have HW6 := hid hw6
    clear hb6 hw6 HB5 HSY5
    go_upto_region 5 with fail
    rw [← HW6.out]
    clear HW6
    have HR6 := hid (HREF.out w6 (HSY6.out.mono fun _ _ _ => trivial))
    go_wp2_with fail
    refine HR6.out.mono ?_
    clear HR6
    rintro x w7 ⟨rfl, hb7⟩
    obtain ⟨w8, hw8⟩ : ∃ u, u = w7.alloc (.cells #[.int .i64 (y).e, .int .i64 (y).r, .int .i64 (y).s, .int .i64 (y).t] 23) := ⟨_, rfl⟩
    have hb8 : Below w7.heap.size w7 w8 := by rw [hw8]; exact (Below.refl _ _).alloc (Nat.le_refl _) _
    have HZ8 : Hid (w8.heap[w7.heap.size]? = some (.cells #[.int .i64 (y).e, .int .i64 (y).r, .int .i64 (y).s, .int .i64 (y).t] 23 (0, 0))) := hid (by rw [hw8]; exact heap_alloc_new w7 _)
    have HB7 : Hid (Below w.heap.size w w7) := hid (HB6.out.trans (hb7.mono HB6.out.size))
    have HB8 : Hid (Below w.heap.size w w8) := hid (HB7.out.trans (hb8.mono HB7.out.size))
    have HX8 := hid (row_below (row_below HX6.out hb7) hb8)
    have HW8 := hid hw8
    clear hb7 hb8 hw8 HB6 HB7 HX6 HSY6 HREF HLY HBY HCY
    go_upto_region 6 with fail
    rw [← HW8.out]
    clear HW8
    have HC : Hid (∀ z, Grew w8.drew z → z.cell? ⟨w5.heap.size, 0, none⟩ = some (.int .i64 y.e) ∧ z.cell? ⟨w5.heap.size, 1, none⟩ = some (.int .i64 y.r) ∧ z.cell? ⟨w5.heap.size, 2, none⟩ = some (.int .i64 y.s) ∧ z.cell? ⟨w5.heap.size, 3, none⟩ = some (.int .i64 y.t) ∧
        z.cell? ⟨w7.heap.size, 0, none⟩ = some (.int .i64 y.e) ∧ z.cell? ⟨w7.heap.size, 1, none⟩ = some (.int .i64 y.r) ∧ z.cell? ⟨w7.heap.size, 2, none⟩ = some (.int .i64 y.s) ∧ z.cell? ⟨w7.heap.size, 3, none⟩ = some (.int .i64 y.t)) := hid fun z hz => by
      have h1 : z.heap[w5.heap.size]? = _ := row_below (w := w8.drew) HX8.out hz
      have h2 : z.heap[w7.heap.size]? = _ := row_below (w := w8.drew) HZ8.out hz
      exact ⟨cell_of_row z _ 0 _ _ _ h1, cell_of_row z _ 1 _ _ _ h1, cell_of_row z _ 2 _ _ _ h1, cell_of_row z _ 3 _ _ _ h1, cell_of_row z _ 0 _ _ _ h2, cell_of_row z _ 1 _ _ _ h2, cell_of_row z _ 2 _ _ _ h2, cell_of_row z _ 3 _ _ _ h2⟩
    refine wp_region_grows 13 [Eqv' (.bool true), Eqv' (.bool true), Eqv' (.int .i64 (q : Nat)), Eqv' (.int .i64 (q : Nat)), Eqv' (.bool true), Eqv' (.bool true), Eqv' (.bool true), Eqv' (.agg #[.int .i64 (y).e, .int .i64 (y).r, .int .i64 (y).s, .int .i64 (y).t]), Eqv' (.agg #[.int .i64 (y).e, .int .i64 (y).r, .int .i64 (y).s, .int .i64 (y).t]), Eqv' (.agg #[.int .i64 (y).e, .int .i64 (y).r, .int .i64 (y).s, .int .i64 (y).t]), Eqv' (.bool true), Eqv' (.bool true), Eqv' (.bool true)] (by kernel_rfl) (by decide) (by kernel_rfl) ?_ ?_ ?_
    · repeat' (first | exact List.forall_mem_nil _ | refine List.forall_mem_cons.2 ⟨?_, ?_⟩)
      all_goals
        intro w w' v hw h
        exact h
    · simp only [AllLt]
      refine ⟨⟨⟨⟨⟨⟨⟨⟨⟨⟨⟨⟨⟨trivial, ?_⟩, ?_⟩, ?_⟩, ?_⟩, ?_⟩, ?_⟩, ?_⟩, ?_⟩, ?_⟩, ?_⟩, ?_⟩, ?_⟩, ?_⟩
      all_goals
        intro o' ho
        simp at ho
        subst ho
        intro ρ w2 hR hL hS hG
        obtain ⟨hl1, hl2, -⟩ := hL
      · refine plainG rfl ?_
        intro bA K Q' hK
        simp only [execOp]
        go_simp
        refine (flKnown_any w2).mono ?_
        rintro r9 w9 ⟨rfl, hb9⟩
        exact hK _ _ rfl hb9
      · refine plainG rfl ?_
        intro bA K Q' hK
        have e29 := hG 0 29 (by decide) (by kernel_rfl) (by kernel_rfl)
        change ρ (.tmp 29) = _ at e29
        simp only [execOp]
        go_simp
        exact hK _ _ rfl (Grew.refl _)
      · have eG : ρ (.tmp 30) = _ := hG 1 30 (by decide) (by kernel_rfl) (by kernel_rfl)
        refine onG rfl (by kernel_rfl) eG ?_
        intro bA K Q' hK
        have e8 := hS 8 (by kernel_rfl)
        change ρ (.tmp 8) = _ at e8
        simp only [execOp]
        go_simp
        exact hK _ _ rfl (Grew.refl _)
      · have eG : ρ (.tmp 30) = _ := hG 1 30 (by decide) (by kernel_rfl) (by kernel_rfl)
        refine onG rfl (by kernel_rfl) eG ?_
        intro bA K Q' hK
        have e10 := hS 10 (by kernel_rfl)
        change ρ (.tmp 10) = _ at e10
        simp only [execOp]
        go_simp
        exact hK _ _ rfl (Grew.refl _)
      · have eG : ρ (.tmp 30) = _ := hG 1 30 (by decide) (by kernel_rfl) (by kernel_rfl)
        refine onG rfl (by kernel_rfl) eG ?_
        intro bA K Q' hK
        have e31 := hG 2 31 (by decide) (by kernel_rfl) (by kernel_rfl)
        have e32 := hG 3 32 (by decide) (by kernel_rfl) (by kernel_rfl)
        change ρ (.tmp 31) = _ at e31
        change ρ (.tmp 32) = _ at e32
        simp only [execOp]
        go_simp
        exact hK _ _ rfl (Grew.refl _)
      · refine plainG rfl ?_
        intro bA K Q' hK
        have e30 := hG 1 30 (by decide) (by kernel_rfl) (by kernel_rfl)
        have e33 := hG 4 33 (by decide) (by kernel_rfl) (by kernel_rfl)
        change ρ (.tmp 30) = _ at e30
        change ρ (.tmp 33) = _ at e33
        simp only [execOp]
        go_simp
        exact hK _ _ rfl (Grew.refl _)
      · refine plainG rfl ?_
        intro bA K Q' hK
        have e34 := hG 5 34 (by decide) (by kernel_rfl) (by kernel_rfl)
        change ρ (.tmp 34) = _ at e34
        simp only [execOp]
        go_simp
        exact hK _ _ rfl (Grew.refl _)
      · have eG : ρ (.tmp 35) = _ := hG 6 35 (by decide) (by kernel_rfl) (by kernel_rfl)
        refine onG rfl (by kernel_rfl) eG ?_
        intro bA K Q' hK
        have e7 := hS 7 (by kernel_rfl)
        change ρ (.tmp 7) = _ at e7
        obtain ⟨x0, x1, x2, x3, z0, z1, z2, z3⟩ := HC.out w2 hR
        simp only [execOp]
        go_simp
        exact hK _ _ rfl (Grew.refl _)
      · have eG : ρ (.tmp 35) = _ := hG 6 35 (by decide) (by kernel_rfl) (by kernel_rfl)
        refine onG rfl (by kernel_rfl) eG ?_
        intro bA K Q' hK
        have e36 := hG 7 36 (by decide) (by kernel_rfl) (by kernel_rfl)
        change ρ (.tmp 36) = _ at e36
        simp only [execOp]
        go_simp
        refine (of_any y.e y.r y.s y.t w2).mono ?_
        rintro r9 w9 ⟨rfl, hb9⟩
        exact hK _ _ rfl hb9
      · have eG : ρ (.tmp 35) = _ := hG 6 35 (by decide) (by kernel_rfl) (by kernel_rfl)
        refine onG rfl (by kernel_rfl) eG ?_
        intro bA K Q' hK
        have e9 := hS 9 (by kernel_rfl)
        change ρ (.tmp 9) = _ at e9
        obtain ⟨x0, x1, x2, x3, z0, z1, z2, z3⟩ := HC.out w2 hR
        simp only [execOp]
        go_simp
        exact hK _ _ rfl (Grew.refl _)
      · have eG : ρ (.tmp 35) = _ := hG 6 35 (by decide) (by kernel_rfl) (by kernel_rfl)
        refine onG rfl (by kernel_rfl) eG ?_
        intro bA K Q' hK
        have e37 := hG 8 37 (by decide) (by kernel_rfl) (by kernel_rfl)
        have e38 := hG 9 38 (by decide) (by kernel_rfl) (by kernel_rfl)
        change ρ (.tmp 37) = _ at e37
        change ρ (.tmp 38) = _ at e38
        simp only [execOp]
        go_simp
        exact hK _ _ rfl (Grew.refl _)
      · refine plainG rfl ?_
        intro bA K Q' hK
        have e35 := hG 6 35 (by decide) (by kernel_rfl) (by kernel_rfl)
        have e39 := hG 10 39 (by decide) (by kernel_rfl) (by kernel_rfl)
        change ρ (.tmp 35) = _ at e35
        change ρ (.tmp 39) = _ at e39
        simp only [execOp]
        go_simp
        exact hK _ _ rfl (Grew.refl _)
      · refine plainG rfl ?_
        intro bA K Q' hK
        have e40 := hG 11 40 (by decide) (by kernel_rfl) (by kernel_rfl)
        change ρ (.tmp 40) = _ at e40
        simp only [execOp]
        go_simp
        exact hK _ _ rfl (Grew.refl _)
    · intro v' w9 hR hG
      have hlast : v' 12 = .bool true := hG.2
      have HB9 : Hid (Below w.heap.size w w9) := hid (Grew.on HB8.out hR)
      clear hG hR HC HB8 HX8 HZ8
      simp [stG, stU, dstAt, Act.put, hlast]
      go_wp2_with fail
      go_ret
      exact ⟨rfl, HB9.out⟩
namespace flipReads
open Go.ChangeShapes Go.WideShapes Go.ChangeAt

theorem own : ownKnob Try.prog.godebug = none := by kernel_rfl
theorem laidOut : laidOutB Try.prog = true := by kernel_rfl

set_option maxRecDepth 100000 in
theorem lifted (os : Os) (started : os.Started) (H : Type) (enc : TypeId × Value → H) :
    ReturnsInHanded {} Try.checked os 4 .any (Rows.flipReadsSpec.pre6 enc Try.prog Try.f4 Rows.flipReadsRow.domain false) (Rows.flipReadsSpec.post enc Try.prog Try.f4 false true false false) := by
  refine returnsInHanded_of_change (C := Try.checked) own started (by kernel_rfl) Try.func4
    (ChangeSpec.witness6 (enc := enc) (C := Try.checked) false ⟨#[], #[.slice none 0 0, .bool false, .int .i64 0], []⟩ 8 (by kernel_rfl) (by kernel_rfl) (by kernel_rfl) (by kernel_rfl)) ?_
  intro W base args ds gs before hval0 hW hcnd _
  have hval : ∀ (j : Nat) t v, Try.f4.params[j]? = some t → args[j]? = some v → Value.okWide Try.prog W .any base t v := hval0
  have hW' := hW
  obtain ⟨p, q, hA0, hV, rfl, hfz, hnd⟩ := hW
  have hA : DataW.TrodAll enc Try.prog W 0 (fun _ => true) true Try.f4.params.toList args.toList ds p := hA0
  rw [Try.params4] at hA hval
  obtain ⟨v0, vs0, d0, ds0, p0, q0, hargs, rfl, rfl, h0, r0⟩ := trodAll_cons hA
  obtain ⟨v1, vs1, d1, ds1, p1, q1, rfl, rfl, rfl, h1, r1⟩ := trodAll_cons r0
  obtain ⟨v2, vs2, d2, ds2, p2, q2, rfl, rfl, rfl, h2, r2⟩ := trodAll_cons r1
  obtain ⟨rfl, rfl, rfl⟩ := trodAll_nil r2
  obtain rfl : args = #[v0, v1, v2] := by cases args; simp_all
  obtain ⟨rfl, rfl⟩ := trodVars_none hV
  obtain ⟨a0, len0, cap0, rfl⟩ := okWide_slice Try.underlying26 (hval 0 26 v0 rfl rfl)
  have k0 := h0
  have lt0 : ∀ x ∈ p0, x.block < W.heap.size := by obtain ⟨m, hm⟩ := k0; exact DataW.trod_lt m _ _ _ hm
  obtain ⟨a, c, bs0, hv, hby0, hsl0, hlc0, hcm0, hn0⟩ : ∃ a c bs, Value.slice a0 len0 cap0 = .slice a (List.length bs) c ∧ Bytes bs ∧ Sl (fun _ => True) W a bs ∧ bs.length ≤ c ∧ c ≤ maxLen ∧ (a = none → c = 0) := by
    obtain ⟨fuel, hf⟩ := h0
    exact open_sl Try.underlying26 Try.underlying5 (by kernel_rfl) hf
  simp only [Value.slice.injEq] at hv
  obtain ⟨rfl, rfl, rfl⟩ := hv
  obtain ⟨b1, rfl, rfl, rfl⟩ := open_bool Try.underlying4 (hval 1 4 v1 rfl rfl) h1
  obtain ⟨x2, rfl, rfl, rfl, wf2⟩ := open_int Try.underlying3 (hval 2 3 v2 rfl rfl) h2
  have hx2 := bounds_i64 wf2
  clear hA0 hval0
  refine (flipReads_walk _ a0 cap0 bs0 b1 x2 W hsl0 hby0 ⟨hlc0, hcm0⟩).mono fun e W' ⟨he, bel⟩ => ?_
  subst he
  exact ⟨_, rfl, _, _, _, [], _, [], hW', trodAll_mk1 (shut_bool Try.underlying4 _), (trodAll_cons_mk (Below.trod laidOut (by kernel_rfl) (of_decide_eq_true (by kernel_rfl)) k0 bel lt0) (trodAll_cons_mk (shut_bool Try.underlying4 b1) (trodAll_cons_mk (shut_int Try.underlying3 wf2) trodAll_mk0))), rfl, bel.frame _, fun h => by cases h⟩

/-- THE STATEMENT. -/
theorem proved : Rows.FlipReadsSaid :=
  OpenClaim.holds_of_wide 4 Try.f4 rfl rfl rfl rfl rfl rfl rfl ⟨rfl, rfl, rfl, rfl, rfl⟩ rfl rfl rfl rfl rfl (by kernel_rfl) Try.func4 (by kernel_rfl)
    (of_decide_eq_true (by kernel_rfl)) (by unfold Func.isWrapper; first | (rw [if_pos (by decide +kernel)]; kernel_rfl) | (rw [if_neg (by decide +kernel)]; exact ⟨rfl, rfl⟩))
    (fun os started H enc _ => lifted os started H enc)
end flipReads
end Go.Proofs.Ytebacgkeolofmaa
