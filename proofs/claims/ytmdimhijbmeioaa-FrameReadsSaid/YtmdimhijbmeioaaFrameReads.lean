/- STATEMENT: the frame of any bytes. For all bytes (300 of them looked at), pages and kinds (9 of them looked at). -/
import Derived.Test.YtmdimhijbmeioaaFrP
import Derived.Test.YtmdimhijbmeioaaFrL
import Derived.Test.YtmdimhijbmeioaaFrLib2
import Derived.Test.YtmdimhijbmeioaaDevR
import Derived.Deep.CutBlock
import Derived.Lib.MinMax
namespace Go.Proofs.Ytmdimhijbmeioaa
open Go.RowKit Go.Inc

theorem fill_bytes {bs : List Nat} (h : Bytes bs) : Bytes (fill bs) := by
  unfold fill fillTo
  refine (h.take _).append ?_
  intro x hx; rw [List.mem_replicate] at hx; omega
set_option maxRecDepth 20000 in
set_option maxHeartbeats 8000000 in
theorem frameReads_walk (ok ok2 : Nat → Prop) (a : Option Addr) (c : Nat) (bs : List Nat) (fix : Bool) (page : Int) (a2 : Option Addr) (c2 : Nat) (zs : List Int) (w : World) (hs : Sl ok w a bs) (hby : Bytes bs) (hc : bs.length ≤ c ∧ c ≤ maxLen) (hn : a = none → c = 0)
    (hz : Si ok2 w a2 zs) (hzc : zs.length ≤ c2 ∧ c2 ≤ maxLen) :
    Calls Try.prog 4 #[.slice a bs.length c, .bool fix, .int .i64 page, .slice a2 zs.length c2] w fun r w' => r = .returned (.bool true) ∧ Below w.heap.size w w' := by
  obtain ⟨bh, hbhd⟩ : ∃ bh, bh = bs.take 300 := ⟨_, rfl⟩
  have hmin : min (bs.length : Int) 300 = (bh.length : Int) := by rw [hbhd, List.length_take]; omega
  have hl1 : (bh.length : Int) ≤ bs.length := by omega
  have hl2 : (bh.length : Int) ≤ c := by omega
  have hl3 : bh.length ≤ 300 := by rw [hbhd, List.length_take]; omega
  have hbb : Bytes bh := by rw [hbhd]; exact hby.take 300
  obtain ⟨zh, hzh⟩ : ∃ zh, zh = zs.take 9 := ⟨_, rfl⟩
  have hzmin : min (zs.length : Int) 9 = (zh.length : Int) := by rw [hzh, List.length_take]; omega
  have hz1 : (zh.length : Int) ≤ zs.length := by omega
  have hz2 : (zh.length : Int) ≤ c2 := by omega
  have hzcm : (c2 : Int) ≤ 9223372036854775807 := by have := hzc.2; unfold maxLen at this; omega
  have HZ := hid (Si.front (hz.mono (ok' := fun _ => True) fun _ _ _ => trivial) 9)
  rw [← hzh] at HZ
  have hb0 := (Below.refl w.heap.size w).alloc (Nat.le_refl _) (.cells #[] 5)
  have HS : Hid (Sl ok (w.alloc (.cells #[] 5)) a bh) := hid (by rw [hbhd]; exact (hs.front 300).below hb0)
  have HB0 := hid hb0
  have HBB := hid hbb
  have HN := hid hn
  have HL3 := hid hl3
  clear hs hby hc hn hz hzc hzh hbhd hbb hb0
  go_enter Try.func4, Try.ntmps4
  go_wp2_with (refine wpList_append_lit rfl (.tmp 19) (.tmp 24) 22 rfl 5 (.int .u8 0) 1 Try.underlying22 infoU8 w.heap.size rfl ok a c bh rfl HS.out HN.out (by have := HL3.out; unfold maxLen; omega) (by have := HL3.out; omega) ?_)
  intro v0 w1 hv0 hb1
  obtain ⟨a0, c0, rfl, hs0, hlc0, hm0, hn0⟩ := hv0
  have HB1 : Hid (Below w.heap.size w w1) := hid (HB0.out.trans (hb1.mono (Nat.le_succ _)))
  have HS1 : Hid (Sl (fun _ => True) w1 a0 bh) := hid (hs0.mono fun _ _ _ => trivial)
  have HC1 := hid (And.intro hlc0 hm0)
  have HN1 := hid hn0
  clear hs0 hlc0 hm0 hn0 hb1 HB0 HS hmin hl1 hl2 hl3
  cases fix
  · have HD := hid (decode_any _ a0 c0 bh w1 HS1.out HBB.out HC1.out)
    go_wp2_with fail
    refine HD.out.mono ?_
    rintro r w5 ⟨⟨v5, rfl, hv5⟩, hb5⟩
    obtain ⟨aX, cX, rfl, hsX, hlcX, hmX, hnX⟩ := hv5
    obtain ⟨w6, hw6⟩ : ∃ w6, w6 = w5.alloc (.cells (#[.int .i64 (decF bh).k, .int .i64 (decF bh).e, .int .i64 (decF bh).p, .slice aX (decF bh).b.length cX]) 25) := ⟨_, rfl⟩
    have hb6 : Below w5.heap.size w5 w6 := by rw [hw6]; exact (Below.refl _ _).alloc (Nat.le_refl _) _
    have hb36 : Below w1.heap.size w1 w6 := hb5.trans (hb6.mono hb5.size)
    have HB6 : Hid (Below w.heap.size w w6) := hid (HB1.out.trans (hb36.mono HB1.out.size))
    have RX6 : Hid (w6.heap[w5.heap.size]? = some (.cells (#[.int .i64 (decF bh).k, .int .i64 (decF bh).e, .int .i64 (decF bh).p, .slice aX (decF bh).b.length cX]) 25 (0, 0))) := hid (by rw [hw6]; exact heap_alloc_new w5 _)
    have HSX6 := hid ((hsX.mono (ok' := fun _ => True) fun _ _ _ => trivial).below hb6)
    have HCX1 := hid (And.intro (And.intro hlcX hmX) hnX)
    have HS6 := hid (HS1.out.below hb36)
    have HW6 := hid hw6
    have HRD := hid (refDec_any (fun _ => True) a0 c0 bh w6 HS6.out HBB.out HC1.out)
    clear hb5 hb6 hb36 hw6 hsX hlcX hmX hnX HD HB1 HS1
    go_wp2_with fail
    rw [← HW6.out]
    refine HRD.out.mono ?_
    rintro r w7 ⟨⟨v7, rfl, hv7⟩, hb7⟩
    obtain ⟨aY, cY, rfl, hsY, _, _, _⟩ := hv7
    obtain ⟨w8, hw8⟩ : ∃ w8, w8 = w7.alloc (.cells (#[.int .i64 (decF bh).k, .int .i64 (decF bh).e, .int .i64 (decF bh).p, .slice aY (decF bh).b.length cY]) 24) := ⟨_, rfl⟩
    have hb8 : Below w7.heap.size w7 w8 := by rw [hw8]; exact (Below.refl _ _).alloc (Nat.le_refl _) _
    have hb68 : Below w6.heap.size w6 w8 := hb7.trans (hb8.mono hb7.size)
    have HB8 : Hid (Below w.heap.size w w8) := hid (HB6.out.trans (hb68.mono HB6.out.size))
    have RX8 : Hid (w8.heap[w5.heap.size]? = _) := hid (row_below RX6.out hb68)
    have RY8 : Hid (w8.heap[w7.heap.size]? = some (.cells (#[.int .i64 (decF bh).k, .int .i64 (decF bh).e, .int .i64 (decF bh).p, .slice aY (decF bh).b.length cY]) 24 (0, 0))) := hid (by rw [hw8]; exact heap_alloc_new w7 _)
    have HSX8 := hid (HSX6.out.below hb68)
    have HSY8 := hid (hsY.below hb8)
    have HS8 := hid (HS6.out.below hb68)
    have HW8 := hid hw8
    have HOP := hid (open_any _ (fun _ => True) a0 c0 bh page a2 c2 zh w8 HS8.out HBB.out HC1.out (HZ.out.below (HB8.out)) (by omega))
    clear hb7 hb8 hb68 hw8 hsY HRD HB6 HS6 RX6 HSX6 HW6
    go_wp2_with fail
    rw [← HW8.out]
    refine HOP.out.mono ?_
    rintro r w9 ⟨⟨v9, rfl, hv9⟩, hb9⟩
    obtain ⟨aZ, cZ, rfl, hsZ, hlcZ, hmZ, _⟩ := hv9
    obtain ⟨wA, hwA⟩ : ∃ wA, wA = w9.alloc (.cells (#[.int .i64 (opnF bh page zh).k, .int .i64 (opnF bh page zh).e, .int .i64 (opnF bh page zh).p, .slice aZ (opnF bh page zh).b.length cZ]) 25) := ⟨_, rfl⟩
    have hbA : Below w9.heap.size w9 wA := by rw [hwA]; exact (Below.refl _ _).alloc (Nat.le_refl _) _
    have hb8A : Below w8.heap.size w8 wA := hb9.trans (hbA.mono hb9.size)
    have HBA : Hid (Below w.heap.size w wA) := hid (HB8.out.trans (hb8A.mono HB8.out.size))
    have RXA : Hid (wA.heap[w5.heap.size]? = _) := hid (row_below RX8.out hb8A)
    have RYA : Hid (wA.heap[w7.heap.size]? = _) := hid (row_below RY8.out hb8A)
    have RZA : Hid (wA.heap[w9.heap.size]? = some (.cells (#[.int .i64 (opnF bh page zh).k, .int .i64 (opnF bh page zh).e, .int .i64 (opnF bh page zh).p, .slice aZ (opnF bh page zh).b.length cZ]) 25 (0, 0))) := hid (by rw [hwA]; exact heap_alloc_new w9 _)
    have HSXA := hid (HSX8.out.below hb8A)
    have HSYA := hid (HSY8.out.below hb8A)
    have HSZA := hid ((hsZ.mono (ok' := fun _ => True) fun _ _ _ => trivial).below hbA)
    have HLZ : Hid ((opnF bh page zh).b.length ≤ 9223372036854775807) := hid (by unfold maxLen at hmZ; omega)
    have HSA := hid (HS8.out.below hb8A)
    have HWA := hid hwA
    have HRO := hid (refOpen_any (fun _ => True) (fun _ => True) a0 c0 bh page a2 c2 zh wA HSA.out HBB.out HC1.out (HZ.out.below (HBA.out)) (by omega))
    clear hb9 hbA hb8A hwA hsZ hlcZ hmZ HOP HB8 HS8 RX8 RY8 HSX8 HSY8 HW8
    go_wp2_with fail
    rw [← HWA.out]
    refine HRO.out.mono ?_
    rintro r wC ⟨⟨vC, rfl, hvC⟩, hbC⟩
    obtain ⟨aU, cU, rfl, hsU, _, _, _⟩ := hvC
    obtain ⟨wD, hwD⟩ : ∃ wD, wD = wC.alloc (.cells (#[.int .i64 (opnF bh page zh).k, .int .i64 (opnF bh page zh).e, .int .i64 (opnF bh page zh).p, .slice aU (opnF bh page zh).b.length cU]) 24) := ⟨_, rfl⟩
    have hbD : Below wC.heap.size wC wD := by rw [hwD]; exact (Below.refl _ _).alloc (Nat.le_refl _) _
    have hbAD : Below wA.heap.size wA wD := hbC.trans (hbD.mono hbC.size)
    have HBD : Hid (Below w.heap.size w wD) := hid (HBA.out.trans (hbAD.mono HBA.out.size))
    have RXD : Hid (wD.heap[w5.heap.size]? = _) := hid (row_below RXA.out hbAD)
    have RYD : Hid (wD.heap[w7.heap.size]? = _) := hid (row_below RYA.out hbAD)
    have RZD : Hid (wD.heap[w9.heap.size]? = _) := hid (row_below RZA.out hbAD)
    have RUD : Hid (wD.heap[wC.heap.size]? = some (.cells (#[.int .i64 (opnF bh page zh).k, .int .i64 (opnF bh page zh).e, .int .i64 (opnF bh page zh).p, .slice aU (opnF bh page zh).b.length cU]) 24 (0, 0))) := hid (by rw [hwD]; exact heap_alloc_new wC _)
    have HSXD := hid (HSXA.out.below hbAD)
    have HSYD := hid (HSYA.out.below hbAD)
    have HSZD := hid (HSZA.out.below hbAD)
    have HSUD := hid (hsU.below hbD)
    have HSD := hid (HSA.out.below hbAD)
    have HWD := hid hwD
    have HLX : Hid ((decF bh).b.length ≤ 9223372036854775807) := hid (by have := HCX1.out.1; unfold maxLen at this; omega)
    have HCX : Hid (∀ x, Grew wD.drew x → x.cell? ⟨w5.heap.size, 0, none⟩ = some (.int .i64 (decF bh).k) ∧ x.cell? ⟨w5.heap.size, 1, none⟩ = some (.int .i64 (decF bh).e) ∧ x.cell? ⟨w5.heap.size, 2, none⟩ = some (.int .i64 (decF bh).p) ∧ x.cell? ⟨w5.heap.size, 3, none⟩ = some (.slice aX (decF bh).b.length cX)) := hid fun x hx => by
      have hr : x.heap[w5.heap.size]? = _ := row_below (w := wD.drew) RXD.out hx
      exact ⟨cell_of_row x _ 0 _ _ _ hr, cell_of_row x _ 1 _ _ _ hr, cell_of_row x _ 2 _ _ _ hr, cell_of_row x _ 3 _ _ _ hr⟩
    have HCY : Hid (∀ x, Grew wD.drew x → x.cell? ⟨w7.heap.size, 0, none⟩ = some (.int .i64 (decF bh).k) ∧ x.cell? ⟨w7.heap.size, 1, none⟩ = some (.int .i64 (decF bh).e) ∧ x.cell? ⟨w7.heap.size, 2, none⟩ = some (.int .i64 (decF bh).p) ∧ x.cell? ⟨w7.heap.size, 3, none⟩ = some (.slice aY (decF bh).b.length cY)) := hid fun x hx => by
      have hr : x.heap[w7.heap.size]? = _ := row_below (w := wD.drew) RYD.out hx
      exact ⟨cell_of_row x _ 0 _ _ _ hr, cell_of_row x _ 1 _ _ _ hr, cell_of_row x _ 2 _ _ _ hr, cell_of_row x _ 3 _ _ _ hr⟩
    have HCZ : Hid (∀ x, Grew wD.drew x → x.cell? ⟨w9.heap.size, 0, none⟩ = some (.int .i64 (opnF bh page zh).k) ∧ x.cell? ⟨w9.heap.size, 1, none⟩ = some (.int .i64 (opnF bh page zh).e) ∧ x.cell? ⟨w9.heap.size, 2, none⟩ = some (.int .i64 (opnF bh page zh).p) ∧ x.cell? ⟨w9.heap.size, 3, none⟩ = some (.slice aZ (opnF bh page zh).b.length cZ)) := hid fun x hx => by
      have hr : x.heap[w9.heap.size]? = _ := row_below (w := wD.drew) RZD.out hx
      exact ⟨cell_of_row x _ 0 _ _ _ hr, cell_of_row x _ 1 _ _ _ hr, cell_of_row x _ 2 _ _ _ hr, cell_of_row x _ 3 _ _ _ hr⟩
    have HCU : Hid (∀ x, Grew wD.drew x → x.cell? ⟨wC.heap.size, 0, none⟩ = some (.int .i64 (opnF bh page zh).k) ∧ x.cell? ⟨wC.heap.size, 1, none⟩ = some (.int .i64 (opnF bh page zh).e) ∧ x.cell? ⟨wC.heap.size, 2, none⟩ = some (.int .i64 (opnF bh page zh).p) ∧ x.cell? ⟨wC.heap.size, 3, none⟩ = some (.slice aU (opnF bh page zh).b.length cU)) := hid fun x hx => by
      have hr : x.heap[wC.heap.size]? = _ := row_below (w := wD.drew) RUD.out hx
      exact ⟨cell_of_row x _ 0 _ _ _ hr, cell_of_row x _ 1 _ _ _ hr, cell_of_row x _ 2 _ _ _ hr, cell_of_row x _ 3 _ _ _ hr⟩
    have HSXY : Hid (∀ x, Grew wD.drew x → Calls Try.prog 23 #[.agg #[.int .i64 (decF bh).k, .int .i64 (decF bh).e, .int .i64 (decF bh).p, .slice aX (decF bh).b.length cX], .agg #[.int .i64 (decF bh).k, .int .i64 (decF bh).e, .int .i64 (decF bh).p, .slice aY (decF bh).b.length cY]] x fun r w' => r = .returned (.bool true) ∧ Below x.heap.size x w') := hid fun x hx =>
      rsame_is _ _ (decF bh) (decF bh) aX aY cX cY x (Sl.below (w := wD.drew) HSXD.out hx) (Sl.below (w := wD.drew) HSYD.out hx) HLX.out rfl
    have HSZU : Hid (∀ x, Grew wD.drew x → Calls Try.prog 23 #[.agg #[.int .i64 (opnF bh page zh).k, .int .i64 (opnF bh page zh).e, .int .i64 (opnF bh page zh).p, .slice aZ (opnF bh page zh).b.length cZ], .agg #[.int .i64 (opnF bh page zh).k, .int .i64 (opnF bh page zh).e, .int .i64 (opnF bh page zh).p, .slice aU (opnF bh page zh).b.length cU]] x fun r w' => r = .returned (.bool true) ∧ Below x.heap.size x w') := hid fun x hx =>
      rsame_is _ _ (opnF bh page zh) (opnF bh page zh) aZ aU cZ cU x (Sl.below (w := wD.drew) HSZD.out hx) (Sl.below (w := wD.drew) HSUD.out hx) HLZ.out rfl
    clear hbC hbD hbAD hwD hsU HRO HBA HSA RXA RYA RZA HSXA HSYA HSZA HWA
    go_upto_region 9 with fail
    rw [← HWD.out]
    refine wp_region_grows 22 [Eqv' (.int .i64 (decE bh : Nat)), Eqv' (.int .i64 (decE bh : Nat)), Eqv' (.bool false), Eqv' (.bool false), Eqv' (.int .i64 (opnE bh page zh : Nat)), Eqv' (.int .i64 (opnE bh page zh : Nat)), Eqv' (.bool false), Eqv' (.bool false), Eqv' (.bool false), Eqv' (.agg #[.int .i64 (decF bh).k, .int .i64 (decF bh).e, .int .i64 (decF bh).p, .slice aX (decF bh).b.length cX]), Eqv' (.agg #[.int .i64 (decF bh).k, .int .i64 (decF bh).e, .int .i64 (decF bh).p, .slice aX (decF bh).b.length cX]), Eqv' (.agg #[.int .i64 (decF bh).k, .int .i64 (decF bh).e, .int .i64 (decF bh).p, .slice aY (decF bh).b.length cY]), Eqv' (.bool true), Eqv' (.bool false), Eqv' (.bool false), Eqv' (.bool false), Eqv' (.agg #[.int .i64 (opnF bh page zh).k, .int .i64 (opnF bh page zh).e, .int .i64 (opnF bh page zh).p, .slice aZ (opnF bh page zh).b.length cZ]), Eqv' (.agg #[.int .i64 (opnF bh page zh).k, .int .i64 (opnF bh page zh).e, .int .i64 (opnF bh page zh).p, .slice aZ (opnF bh page zh).b.length cZ]), Eqv' (.agg #[.int .i64 (opnF bh page zh).k, .int .i64 (opnF bh page zh).e, .int .i64 (opnF bh page zh).p, .slice aU (opnF bh page zh).b.length cU]), Eqv' (.bool true), Eqv' (.bool false), Eqv' (.bool false)] (by kernel_rfl) (by decide) (by kernel_rfl) ?_ ?_ ?_
    · repeat' (first | exact List.forall_mem_nil _ | refine List.forall_mem_cons.2 ⟨?_, ?_⟩)
      all_goals
        intro w w' v hw h
        exact h
    · simp only [AllLt]
      refine ⟨⟨⟨⟨⟨⟨⟨⟨⟨⟨⟨⟨⟨⟨⟨⟨⟨⟨⟨⟨⟨⟨trivial, ?_⟩, ?_⟩, ?_⟩, ?_⟩, ?_⟩, ?_⟩, ?_⟩, ?_⟩, ?_⟩, ?_⟩, ?_⟩, ?_⟩, ?_⟩, ?_⟩, ?_⟩, ?_⟩, ?_⟩, ?_⟩, ?_⟩, ?_⟩, ?_⟩, ?_⟩
      all_goals
        intro o' ho
        simp at ho
        subst ho
        intro ρ wq hR hL hS hG
        obtain ⟨hl1, hl2, -⟩ := hL
      · refine plainG rfl ?_
        intro bA K Q' hK
        have e10 := hS 10 (by kernel_rfl)
        change ρ (.tmp 10) = _ at e10
        simp only [execOp]
        go_simp
        exact hK _ _ rfl (Grew.refl _)
      · refine plainG rfl ?_
        intro bA K Q' hK
        have e12 := hS 12 (by kernel_rfl)
        change ρ (.tmp 12) = _ at e12
        simp only [execOp]
        go_simp
        exact hK _ _ rfl (Grew.refl _)
      · refine plainG rfl ?_
        intro bA K Q' hK
        have e60 := hG 0 60 (by decide) (by kernel_rfl) (by kernel_rfl)
        have e61 := hG 1 61 (by decide) (by kernel_rfl) (by kernel_rfl)
        change ρ (.tmp 60) = _ at e60
        change ρ (.tmp 61) = _ at e61
        simp only [execOp]
        go_simp
        exact hK _ _ (val_bool (by simp)) (Grew.refl _)
      · refine plainG rfl ?_
        intro bA K Q' hK
        have e62 := hG 2 62 (by decide) (by kernel_rfl) (by kernel_rfl)
        change ρ (.tmp 62) = _ at e62
        simp only [execOp]
        go_simp
        exact hK _ _ rfl (Grew.refl _)
      · have eG : ρ (.tmp 63) = _ := hG 3 63 (by decide) (by kernel_rfl) (by kernel_rfl)
        refine onG rfl (by kernel_rfl) eG ?_
        intro bA K Q' hK
        have e14 := hS 14 (by kernel_rfl)
        change ρ (.tmp 14) = _ at e14
        simp only [execOp]
        go_simp
        exact hK _ _ rfl (Grew.refl _)
      · have eG : ρ (.tmp 63) = _ := hG 3 63 (by decide) (by kernel_rfl) (by kernel_rfl)
        refine onG rfl (by kernel_rfl) eG ?_
        intro bA K Q' hK
        have e16 := hS 16 (by kernel_rfl)
        change ρ (.tmp 16) = _ at e16
        simp only [execOp]
        go_simp
        exact hK _ _ rfl (Grew.refl _)
      · have eG : ρ (.tmp 63) = _ := hG 3 63 (by decide) (by kernel_rfl) (by kernel_rfl)
        refine onG rfl (by kernel_rfl) eG ?_
        intro bA K Q' hK
        have e64 := hG 4 64 (by decide) (by kernel_rfl) (by kernel_rfl)
        have e65 := hG 5 65 (by decide) (by kernel_rfl) (by kernel_rfl)
        change ρ (.tmp 64) = _ at e64
        change ρ (.tmp 65) = _ at e65
        simp only [execOp]
        go_simp
        exact hK _ _ (val_bool (by simp)) (Grew.refl _)
      · refine plainG rfl ?_
        intro bA K Q' hK
        have e63 := hG 3 63 (by decide) (by kernel_rfl) (by kernel_rfl)
        have e66 := hG 6 66 (by decide) (by kernel_rfl) (by kernel_rfl)
        change ρ (.tmp 63) = _ at e63
        change ρ (.tmp 66) = _ at e66
        simp only [execOp]
        go_simp
        exact hK _ _ rfl (Grew.refl _)
      · refine plainG rfl ?_
        intro bA K Q' hK
        have e67 := hG 7 67 (by decide) (by kernel_rfl) (by kernel_rfl)
        change ρ (.tmp 67) = _ at e67
        simp only [execOp]
        go_simp
        exact hK _ _ rfl (Grew.refl _)
      · have eG : ρ (.tmp 68) = _ := hG 8 68 (by decide) (by kernel_rfl) (by kernel_rfl)
        refine onG rfl (by kernel_rfl) eG ?_
        intro bA K Q' hK
        have e9 := hS 9 (by kernel_rfl)
        change ρ (.tmp 9) = _ at e9
        obtain ⟨k0, k1, k2, k3⟩ := HCX.out wq hR
        simp only [execOp]
        go_simp
        exact hK _ _ rfl (Grew.refl _)
      · have eG : ρ (.tmp 68) = _ := hG 8 68 (by decide) (by kernel_rfl) (by kernel_rfl)
        refine onG rfl (by kernel_rfl) eG ?_
        intro bA K Q' hK
        have e69 := hG 9 69 (by decide) (by kernel_rfl) (by kernel_rfl)
        change ρ (.tmp 69) = _ at e69
        simp only [execOp]
        go_simp
        refine (of_any _ _ _ aX _ cX wq).mono ?_
        rintro r wr ⟨rfl, hb⟩
        exact hK _ _ rfl hb
      · have eG : ρ (.tmp 68) = _ := hG 8 68 (by decide) (by kernel_rfl) (by kernel_rfl)
        refine onG rfl (by kernel_rfl) eG ?_
        intro bA K Q' hK
        have e11 := hS 11 (by kernel_rfl)
        change ρ (.tmp 11) = _ at e11
        obtain ⟨k0, k1, k2, k3⟩ := HCY.out wq hR
        simp only [execOp]
        go_simp
        exact hK _ _ rfl (Grew.refl _)
      · have eG : ρ (.tmp 68) = _ := hG 8 68 (by decide) (by kernel_rfl) (by kernel_rfl)
        refine onG rfl (by kernel_rfl) eG ?_
        intro bA K Q' hK
        have e70 := hG 10 70 (by decide) (by kernel_rfl) (by kernel_rfl)
        have e71 := hG 11 71 (by decide) (by kernel_rfl) (by kernel_rfl)
        change ρ (.tmp 70) = _ at e70
        change ρ (.tmp 71) = _ at e71
        simp only [execOp]
        go_simp
        refine (HSXY.out wq hR).mono ?_
        rintro r wr ⟨rfl, hb⟩
        exact hK _ _ rfl hb
      · have eG : ρ (.tmp 68) = _ := hG 8 68 (by decide) (by kernel_rfl) (by kernel_rfl)
        refine onG rfl (by kernel_rfl) eG ?_
        intro bA K Q' hK
        have e72 := hG 12 72 (by decide) (by kernel_rfl) (by kernel_rfl)
        change ρ (.tmp 72) = _ at e72
        simp only [execOp]
        go_simp
        exact hK _ _ rfl (Grew.refl _)
      · refine plainG rfl ?_
        intro bA K Q' hK
        have e68 := hG 8 68 (by decide) (by kernel_rfl) (by kernel_rfl)
        have e73 := hG 13 73 (by decide) (by kernel_rfl) (by kernel_rfl)
        change ρ (.tmp 68) = _ at e68
        change ρ (.tmp 73) = _ at e73
        simp only [execOp]
        go_simp
        exact hK _ _ rfl (Grew.refl _)
      · refine plainG rfl ?_
        intro bA K Q' hK
        have e74 := hG 14 74 (by decide) (by kernel_rfl) (by kernel_rfl)
        change ρ (.tmp 74) = _ at e74
        simp only [execOp]
        go_simp
        exact hK _ _ rfl (Grew.refl _)
      · have eG : ρ (.tmp 75) = _ := hG 15 75 (by decide) (by kernel_rfl) (by kernel_rfl)
        refine onG rfl (by kernel_rfl) eG ?_
        intro bA K Q' hK
        have e13 := hS 13 (by kernel_rfl)
        change ρ (.tmp 13) = _ at e13
        obtain ⟨k0, k1, k2, k3⟩ := HCZ.out wq hR
        simp only [execOp]
        go_simp
        exact hK _ _ rfl (Grew.refl _)
      · have eG : ρ (.tmp 75) = _ := hG 15 75 (by decide) (by kernel_rfl) (by kernel_rfl)
        refine onG rfl (by kernel_rfl) eG ?_
        intro bA K Q' hK
        have e76 := hG 16 76 (by decide) (by kernel_rfl) (by kernel_rfl)
        change ρ (.tmp 76) = _ at e76
        simp only [execOp]
        go_simp
        refine (of_any _ _ _ aZ _ cZ wq).mono ?_
        rintro r wr ⟨rfl, hb⟩
        exact hK _ _ rfl hb
      · have eG : ρ (.tmp 75) = _ := hG 15 75 (by decide) (by kernel_rfl) (by kernel_rfl)
        refine onG rfl (by kernel_rfl) eG ?_
        intro bA K Q' hK
        have e15 := hS 15 (by kernel_rfl)
        change ρ (.tmp 15) = _ at e15
        obtain ⟨k0, k1, k2, k3⟩ := HCU.out wq hR
        simp only [execOp]
        go_simp
        exact hK _ _ rfl (Grew.refl _)
      · have eG : ρ (.tmp 75) = _ := hG 15 75 (by decide) (by kernel_rfl) (by kernel_rfl)
        refine onG rfl (by kernel_rfl) eG ?_
        intro bA K Q' hK
        have e77 := hG 17 77 (by decide) (by kernel_rfl) (by kernel_rfl)
        have e78 := hG 18 78 (by decide) (by kernel_rfl) (by kernel_rfl)
        change ρ (.tmp 77) = _ at e77
        change ρ (.tmp 78) = _ at e78
        simp only [execOp]
        go_simp
        refine (HSZU.out wq hR).mono ?_
        rintro r wr ⟨rfl, hb⟩
        exact hK _ _ rfl hb
      · have eG : ρ (.tmp 75) = _ := hG 15 75 (by decide) (by kernel_rfl) (by kernel_rfl)
        refine onG rfl (by kernel_rfl) eG ?_
        intro bA K Q' hK
        have e79 := hG 19 79 (by decide) (by kernel_rfl) (by kernel_rfl)
        change ρ (.tmp 79) = _ at e79
        simp only [execOp]
        go_simp
        exact hK _ _ rfl (Grew.refl _)
      · refine plainG rfl ?_
        intro bA K Q' hK
        have e75 := hG 15 75 (by decide) (by kernel_rfl) (by kernel_rfl)
        have e80 := hG 20 80 (by decide) (by kernel_rfl) (by kernel_rfl)
        change ρ (.tmp 75) = _ at e75
        change ρ (.tmp 80) = _ at e80
        simp only [execOp]
        go_simp
        exact hK _ _ rfl (Grew.refl _)
    · intro v wq hR hG
      have h21 := hG.2
      change v 21 = _ at h21
      have HBQ : Hid (Below w.heap.size w wq) := hid (Grew.on HBD.out hR)
      have RXQ : Hid (wq.heap[w5.heap.size]? = _) := hid (row_below (w := wD.drew) RXD.out hR)
      have HSXQ := hid (Sl.below (w := wD.drew) HSXD.out hR)
      have HSQ := hid (Sl.below (w := wD.drew) HSD.out hR)
      clear hG hR HCX HCY HCZ HCU HSXY HSZU RXD RYD RZD RUD HSXD HSYD HSZD HSUD HSD HWD HBD
      simp [stG, stU, dstAt, Act.put, h21]
      by_cases hE : decE bh = 0
      · have hF : decF bh = picked bh := decF_ok hE
        have hok := (decE_zero hE).2.2.1
        have hchk : chk (decF bh) = 0 := by rw [hF]; exact chk_ok hok
        have henc : enc (decF bh) = bh := by rw [hF]; exact enc_dec hE
        have hbF : Bytes (decF bh).b := by rw [hF]; exact picked_bytes HBB.out
        have HEN := hid (encode_any _ (decF bh).k (decF bh).e (decF bh).p aX cX (decF bh).b wq HSXQ.out hbF HCX1.out.1 HCX1.out.2)
        have q0 := cell_of_row wq _ 0 _ _ _ RXQ.out
        have q1 := cell_of_row wq _ 1 _ _ _ RXQ.out
        have q2 := cell_of_row wq _ 2 _ _ _ RXQ.out
        have q3 := cell_of_row wq _ 3 _ _ _ RXQ.out
        have HCHK := hid hchk
        have HENC := hid henc
        rw [hE]
        clear hE hF hok hchk henc hbF
        go_wp2_with fail
        refine HEN.out.mono ?_
        rintro r wr ⟨⟨vr, rfl, hvr⟩, hbr⟩
        have hc0 : chk ⟨(decF bh).k, (decF bh).e, (decF bh).p, (decF bh).b⟩ = 0 := HCHK.out
        rw [hc0, if_pos rfl] at hvr
        rw [hc0]
        have he0 : enc ⟨(decF bh).k, (decF bh).e, (decF bh).p, (decF bh).b⟩ = bh := HENC.out
        rw [he0] at hvr
        obtain ⟨ar, cr, rfl, hsr, _, _, _⟩ := hvr
        have HBR : Hid (Below w.heap.size w wr) := hid (HBQ.out.trans (hbr.mono HBQ.out.size))
        have HKN := hid (known_any wr)
        have HSR := hid (And.intro (HSQ.out.below hbr) hsr)
        clear hbr hsr hc0 he0 HEN q0 q1 q2 q3 HBQ RXQ HSXQ HSQ
        go_wp2_with fail
        refine HKN.out.mono ?_
        rintro r ws ⟨rfl, hbs⟩
        have HBS : Hid (Below w.heap.size w ws) := hid (HBR.out.trans (hbs.mono HBR.out.size))
        have HSS := hid (same_self _ _ ar a0 cr c0 bh ws (HSR.out.2.below hbs) (HSR.out.1.below hbs) (by have := HC1.out; unfold maxLen at this; omega))
        clear hbs HKN HBR HSR
        go_wp2_with fail
        refine HSS.out.mono ?_
        rintro r wt ⟨rfl, hbt⟩
        have HBT : Hid (Below w.heap.size w wt) := hid (HBS.out.trans (hbt.mono HBS.out.size))
        clear hbt HSS HBS
        go_wp2_with fail
        go_ret
        exact ⟨rfl, HBT.out⟩
      · have hE1 : (((decE bh : Nat) : Int) != 0) = true := by rw [bne_iff_ne]; omega
        have HKN := hid (known_any wq)
        clear hE RXQ HSXQ HSQ
        generalize decE bh = q at *
        go_wp2_with fail
        refine HKN.out.mono ?_
        rintro r wr ⟨rfl, hbr⟩
        have HBR : Hid (Below w.heap.size w wr) := hid (HBQ.out.trans (hbr.mono HBQ.out.size))
        clear hbr HKN HBQ
        go_wp2_with fail
        go_ret
        exact ⟨rfl, HBR.out⟩
  · have HF := hid (full_sl (fun _ => True) a0 c0 bh w1 HS1.out (by have := HL3.out; omega))
    go_wp2_with fail
    refine HF.out.mono ?_
    rintro r w2 ⟨G, rfl, hs2, hb2⟩
    have HB2 : Hid (Below w.heap.size w w2) := hid (HB1.out.trans (hb2.mono HB1.out.size))
    obtain ⟨ls, hls⟩ : ∃ ls, ls = (fill bh).take 252 := ⟨_, rfl⟩
    have hfl : ls.length = 252 := by rw [hls, List.length_take, fill_len]; rfl
    have hfb : Bytes ls := by rw [hls]; exact (fill_bytes HBB.out).take 252
    have HM := hid (mark_any _ (some ⟨G, 0, none⟩) 256 ls w2 (by rw [hls]; exact hs2.front 252) hfb (by rw [hfl]; unfold maxLen; omega) (by rw [hfl]; decide))
    have HLS := hid hfl
    have HLB : Hid (Bytes (mark ls)) := hid (mark_bytes hfb)
    rw [hfl] at HM
    clear hs2 hb2 HF HB1 HS1 hls hfl hfb HC1 HN1
    go_wp2_with fail
    refine HM.out.mono ?_
    rintro r w3 ⟨v3, rfl, hv3, hb3⟩
    obtain ⟨a3, c3, rfl, hn3, hlc3, hm3, hs3⟩ := Row.sl (E := 5) (B := w2.heap.size) (w := w3) (v := v3) (bs := mark ls) hv3
    have HB3 : Hid (Below w.heap.size w w3) := hid (HB2.out.trans (hb3.mono HB2.out.size))
    have HS3 : Hid (Sl (fun _ => True) w3 a3 (mark ls)) := hid (hs3.mono fun _ _ _ => trivial)
    have HC3 := hid (And.intro hlc3 hm3)
    clear hv3 hn3 hlc3 hm3 hs3 hb3 HM HB2 HL3 HBB
    have HD := hid (decode_any _ a3 c3 (mark ls) w3 HS3.out HLB.out HC3.out)
    go_wp2_with fail
    refine HD.out.mono ?_
    rintro r w5 ⟨⟨v5, rfl, hv5⟩, hb5⟩
    obtain ⟨aX, cX, rfl, hsX, hlcX, hmX, hnX⟩ := hv5
    obtain ⟨w6, hw6⟩ : ∃ w6, w6 = w5.alloc (.cells (#[.int .i64 (decF (mark ls)).k, .int .i64 (decF (mark ls)).e, .int .i64 (decF (mark ls)).p, .slice aX (decF (mark ls)).b.length cX]) 25) := ⟨_, rfl⟩
    have hb6 : Below w5.heap.size w5 w6 := by rw [hw6]; exact (Below.refl _ _).alloc (Nat.le_refl _) _
    have hb36 : Below w3.heap.size w3 w6 := hb5.trans (hb6.mono hb5.size)
    have HB6 : Hid (Below w.heap.size w w6) := hid (HB3.out.trans (hb36.mono HB3.out.size))
    have RX6 : Hid (w6.heap[w5.heap.size]? = some (.cells (#[.int .i64 (decF (mark ls)).k, .int .i64 (decF (mark ls)).e, .int .i64 (decF (mark ls)).p, .slice aX (decF (mark ls)).b.length cX]) 25 (0, 0))) := hid (by rw [hw6]; exact heap_alloc_new w5 _)
    have HSX6 := hid ((hsX.mono (ok' := fun _ => True) fun _ _ _ => trivial).below hb6)
    have HCX1 := hid (And.intro (And.intro hlcX hmX) hnX)
    have HS6 := hid (HS3.out.below hb36)
    have HW6 := hid hw6
    have HRD := hid (refDec_any (fun _ => True) a3 c3 (mark ls) w6 HS6.out HLB.out HC3.out)
    clear hb5 hb6 hb36 hw6 hsX hlcX hmX hnX HD HB3 HS3
    go_wp2_with fail
    rw [← HW6.out]
    refine HRD.out.mono ?_
    rintro r w7 ⟨⟨v7, rfl, hv7⟩, hb7⟩
    obtain ⟨aY, cY, rfl, hsY, _, _, _⟩ := hv7
    obtain ⟨w8, hw8⟩ : ∃ w8, w8 = w7.alloc (.cells (#[.int .i64 (decF (mark ls)).k, .int .i64 (decF (mark ls)).e, .int .i64 (decF (mark ls)).p, .slice aY (decF (mark ls)).b.length cY]) 24) := ⟨_, rfl⟩
    have hb8 : Below w7.heap.size w7 w8 := by rw [hw8]; exact (Below.refl _ _).alloc (Nat.le_refl _) _
    have hb68 : Below w6.heap.size w6 w8 := hb7.trans (hb8.mono hb7.size)
    have HB8 : Hid (Below w.heap.size w w8) := hid (HB6.out.trans (hb68.mono HB6.out.size))
    have RX8 : Hid (w8.heap[w5.heap.size]? = _) := hid (row_below RX6.out hb68)
    have RY8 : Hid (w8.heap[w7.heap.size]? = some (.cells (#[.int .i64 (decF (mark ls)).k, .int .i64 (decF (mark ls)).e, .int .i64 (decF (mark ls)).p, .slice aY (decF (mark ls)).b.length cY]) 24 (0, 0))) := hid (by rw [hw8]; exact heap_alloc_new w7 _)
    have HSX8 := hid (HSX6.out.below hb68)
    have HSY8 := hid (hsY.below hb8)
    have HS8 := hid (HS6.out.below hb68)
    have HW8 := hid hw8
    have HOP := hid (open_any _ (fun _ => True) a3 c3 (mark ls) page a2 c2 zh w8 HS8.out HLB.out HC3.out (HZ.out.below (HB8.out)) (by omega))
    clear hb7 hb8 hb68 hw8 hsY HRD HB6 HS6 RX6 HSX6 HW6
    go_wp2_with fail
    rw [← HW8.out]
    refine HOP.out.mono ?_
    rintro r w9 ⟨⟨v9, rfl, hv9⟩, hb9⟩
    obtain ⟨aZ, cZ, rfl, hsZ, hlcZ, hmZ, _⟩ := hv9
    obtain ⟨wA, hwA⟩ : ∃ wA, wA = w9.alloc (.cells (#[.int .i64 (opnF (mark ls) page zh).k, .int .i64 (opnF (mark ls) page zh).e, .int .i64 (opnF (mark ls) page zh).p, .slice aZ (opnF (mark ls) page zh).b.length cZ]) 25) := ⟨_, rfl⟩
    have hbA : Below w9.heap.size w9 wA := by rw [hwA]; exact (Below.refl _ _).alloc (Nat.le_refl _) _
    have hb8A : Below w8.heap.size w8 wA := hb9.trans (hbA.mono hb9.size)
    have HBA : Hid (Below w.heap.size w wA) := hid (HB8.out.trans (hb8A.mono HB8.out.size))
    have RXA : Hid (wA.heap[w5.heap.size]? = _) := hid (row_below RX8.out hb8A)
    have RYA : Hid (wA.heap[w7.heap.size]? = _) := hid (row_below RY8.out hb8A)
    have RZA : Hid (wA.heap[w9.heap.size]? = some (.cells (#[.int .i64 (opnF (mark ls) page zh).k, .int .i64 (opnF (mark ls) page zh).e, .int .i64 (opnF (mark ls) page zh).p, .slice aZ (opnF (mark ls) page zh).b.length cZ]) 25 (0, 0))) := hid (by rw [hwA]; exact heap_alloc_new w9 _)
    have HSXA := hid (HSX8.out.below hb8A)
    have HSYA := hid (HSY8.out.below hb8A)
    have HSZA := hid ((hsZ.mono (ok' := fun _ => True) fun _ _ _ => trivial).below hbA)
    have HLZ : Hid ((opnF (mark ls) page zh).b.length ≤ 9223372036854775807) := hid (by unfold maxLen at hmZ; omega)
    have HSA := hid (HS8.out.below hb8A)
    have HWA := hid hwA
    have HRO := hid (refOpen_any (fun _ => True) (fun _ => True) a3 c3 (mark ls) page a2 c2 zh wA HSA.out HLB.out HC3.out (HZ.out.below (HBA.out)) (by omega))
    clear hb9 hbA hb8A hwA hsZ hlcZ hmZ HOP HB8 HS8 RX8 RY8 HSX8 HSY8 HW8
    go_wp2_with fail
    rw [← HWA.out]
    refine HRO.out.mono ?_
    rintro r wC ⟨⟨vC, rfl, hvC⟩, hbC⟩
    obtain ⟨aU, cU, rfl, hsU, _, _, _⟩ := hvC
    obtain ⟨wD, hwD⟩ : ∃ wD, wD = wC.alloc (.cells (#[.int .i64 (opnF (mark ls) page zh).k, .int .i64 (opnF (mark ls) page zh).e, .int .i64 (opnF (mark ls) page zh).p, .slice aU (opnF (mark ls) page zh).b.length cU]) 24) := ⟨_, rfl⟩
    have hbD : Below wC.heap.size wC wD := by rw [hwD]; exact (Below.refl _ _).alloc (Nat.le_refl _) _
    have hbAD : Below wA.heap.size wA wD := hbC.trans (hbD.mono hbC.size)
    have HBD : Hid (Below w.heap.size w wD) := hid (HBA.out.trans (hbAD.mono HBA.out.size))
    have RXD : Hid (wD.heap[w5.heap.size]? = _) := hid (row_below RXA.out hbAD)
    have RYD : Hid (wD.heap[w7.heap.size]? = _) := hid (row_below RYA.out hbAD)
    have RZD : Hid (wD.heap[w9.heap.size]? = _) := hid (row_below RZA.out hbAD)
    have RUD : Hid (wD.heap[wC.heap.size]? = some (.cells (#[.int .i64 (opnF (mark ls) page zh).k, .int .i64 (opnF (mark ls) page zh).e, .int .i64 (opnF (mark ls) page zh).p, .slice aU (opnF (mark ls) page zh).b.length cU]) 24 (0, 0))) := hid (by rw [hwD]; exact heap_alloc_new wC _)
    have HSXD := hid (HSXA.out.below hbAD)
    have HSYD := hid (HSYA.out.below hbAD)
    have HSZD := hid (HSZA.out.below hbAD)
    have HSUD := hid (hsU.below hbD)
    have HSD := hid (HSA.out.below hbAD)
    have HWD := hid hwD
    have HLX : Hid ((decF (mark ls)).b.length ≤ 9223372036854775807) := hid (by have := HCX1.out.1; unfold maxLen at this; omega)
    have HCX : Hid (∀ x, Grew wD.drew x → x.cell? ⟨w5.heap.size, 0, none⟩ = some (.int .i64 (decF (mark ls)).k) ∧ x.cell? ⟨w5.heap.size, 1, none⟩ = some (.int .i64 (decF (mark ls)).e) ∧ x.cell? ⟨w5.heap.size, 2, none⟩ = some (.int .i64 (decF (mark ls)).p) ∧ x.cell? ⟨w5.heap.size, 3, none⟩ = some (.slice aX (decF (mark ls)).b.length cX)) := hid fun x hx => by
      have hr : x.heap[w5.heap.size]? = _ := row_below (w := wD.drew) RXD.out hx
      exact ⟨cell_of_row x _ 0 _ _ _ hr, cell_of_row x _ 1 _ _ _ hr, cell_of_row x _ 2 _ _ _ hr, cell_of_row x _ 3 _ _ _ hr⟩
    have HCY : Hid (∀ x, Grew wD.drew x → x.cell? ⟨w7.heap.size, 0, none⟩ = some (.int .i64 (decF (mark ls)).k) ∧ x.cell? ⟨w7.heap.size, 1, none⟩ = some (.int .i64 (decF (mark ls)).e) ∧ x.cell? ⟨w7.heap.size, 2, none⟩ = some (.int .i64 (decF (mark ls)).p) ∧ x.cell? ⟨w7.heap.size, 3, none⟩ = some (.slice aY (decF (mark ls)).b.length cY)) := hid fun x hx => by
      have hr : x.heap[w7.heap.size]? = _ := row_below (w := wD.drew) RYD.out hx
      exact ⟨cell_of_row x _ 0 _ _ _ hr, cell_of_row x _ 1 _ _ _ hr, cell_of_row x _ 2 _ _ _ hr, cell_of_row x _ 3 _ _ _ hr⟩
    have HCZ : Hid (∀ x, Grew wD.drew x → x.cell? ⟨w9.heap.size, 0, none⟩ = some (.int .i64 (opnF (mark ls) page zh).k) ∧ x.cell? ⟨w9.heap.size, 1, none⟩ = some (.int .i64 (opnF (mark ls) page zh).e) ∧ x.cell? ⟨w9.heap.size, 2, none⟩ = some (.int .i64 (opnF (mark ls) page zh).p) ∧ x.cell? ⟨w9.heap.size, 3, none⟩ = some (.slice aZ (opnF (mark ls) page zh).b.length cZ)) := hid fun x hx => by
      have hr : x.heap[w9.heap.size]? = _ := row_below (w := wD.drew) RZD.out hx
      exact ⟨cell_of_row x _ 0 _ _ _ hr, cell_of_row x _ 1 _ _ _ hr, cell_of_row x _ 2 _ _ _ hr, cell_of_row x _ 3 _ _ _ hr⟩
    have HCU : Hid (∀ x, Grew wD.drew x → x.cell? ⟨wC.heap.size, 0, none⟩ = some (.int .i64 (opnF (mark ls) page zh).k) ∧ x.cell? ⟨wC.heap.size, 1, none⟩ = some (.int .i64 (opnF (mark ls) page zh).e) ∧ x.cell? ⟨wC.heap.size, 2, none⟩ = some (.int .i64 (opnF (mark ls) page zh).p) ∧ x.cell? ⟨wC.heap.size, 3, none⟩ = some (.slice aU (opnF (mark ls) page zh).b.length cU)) := hid fun x hx => by
      have hr : x.heap[wC.heap.size]? = _ := row_below (w := wD.drew) RUD.out hx
      exact ⟨cell_of_row x _ 0 _ _ _ hr, cell_of_row x _ 1 _ _ _ hr, cell_of_row x _ 2 _ _ _ hr, cell_of_row x _ 3 _ _ _ hr⟩
    have HSXY : Hid (∀ x, Grew wD.drew x → Calls Try.prog 23 #[.agg #[.int .i64 (decF (mark ls)).k, .int .i64 (decF (mark ls)).e, .int .i64 (decF (mark ls)).p, .slice aX (decF (mark ls)).b.length cX], .agg #[.int .i64 (decF (mark ls)).k, .int .i64 (decF (mark ls)).e, .int .i64 (decF (mark ls)).p, .slice aY (decF (mark ls)).b.length cY]] x fun r w' => r = .returned (.bool true) ∧ Below x.heap.size x w') := hid fun x hx =>
      rsame_is _ _ (decF (mark ls)) (decF (mark ls)) aX aY cX cY x (Sl.below (w := wD.drew) HSXD.out hx) (Sl.below (w := wD.drew) HSYD.out hx) HLX.out rfl
    have HSZU : Hid (∀ x, Grew wD.drew x → Calls Try.prog 23 #[.agg #[.int .i64 (opnF (mark ls) page zh).k, .int .i64 (opnF (mark ls) page zh).e, .int .i64 (opnF (mark ls) page zh).p, .slice aZ (opnF (mark ls) page zh).b.length cZ], .agg #[.int .i64 (opnF (mark ls) page zh).k, .int .i64 (opnF (mark ls) page zh).e, .int .i64 (opnF (mark ls) page zh).p, .slice aU (opnF (mark ls) page zh).b.length cU]] x fun r w' => r = .returned (.bool true) ∧ Below x.heap.size x w') := hid fun x hx =>
      rsame_is _ _ (opnF (mark ls) page zh) (opnF (mark ls) page zh) aZ aU cZ cU x (Sl.below (w := wD.drew) HSZD.out hx) (Sl.below (w := wD.drew) HSUD.out hx) HLZ.out rfl
    clear hbC hbD hbAD hwD hsU HRO HBA HSA RXA RYA RZA HSXA HSYA HSZA HWA
    go_upto_region 9 with fail
    rw [← HWD.out]
    refine wp_region_grows 22 [Eqv' (.int .i64 (decE (mark ls) : Nat)), Eqv' (.int .i64 (decE (mark ls) : Nat)), Eqv' (.bool false), Eqv' (.bool false), Eqv' (.int .i64 (opnE (mark ls) page zh : Nat)), Eqv' (.int .i64 (opnE (mark ls) page zh : Nat)), Eqv' (.bool false), Eqv' (.bool false), Eqv' (.bool false), Eqv' (.agg #[.int .i64 (decF (mark ls)).k, .int .i64 (decF (mark ls)).e, .int .i64 (decF (mark ls)).p, .slice aX (decF (mark ls)).b.length cX]), Eqv' (.agg #[.int .i64 (decF (mark ls)).k, .int .i64 (decF (mark ls)).e, .int .i64 (decF (mark ls)).p, .slice aX (decF (mark ls)).b.length cX]), Eqv' (.agg #[.int .i64 (decF (mark ls)).k, .int .i64 (decF (mark ls)).e, .int .i64 (decF (mark ls)).p, .slice aY (decF (mark ls)).b.length cY]), Eqv' (.bool true), Eqv' (.bool false), Eqv' (.bool false), Eqv' (.bool false), Eqv' (.agg #[.int .i64 (opnF (mark ls) page zh).k, .int .i64 (opnF (mark ls) page zh).e, .int .i64 (opnF (mark ls) page zh).p, .slice aZ (opnF (mark ls) page zh).b.length cZ]), Eqv' (.agg #[.int .i64 (opnF (mark ls) page zh).k, .int .i64 (opnF (mark ls) page zh).e, .int .i64 (opnF (mark ls) page zh).p, .slice aZ (opnF (mark ls) page zh).b.length cZ]), Eqv' (.agg #[.int .i64 (opnF (mark ls) page zh).k, .int .i64 (opnF (mark ls) page zh).e, .int .i64 (opnF (mark ls) page zh).p, .slice aU (opnF (mark ls) page zh).b.length cU]), Eqv' (.bool true), Eqv' (.bool false), Eqv' (.bool false)] (by kernel_rfl) (by decide) (by kernel_rfl) ?_ ?_ ?_
    · repeat' (first | exact List.forall_mem_nil _ | refine List.forall_mem_cons.2 ⟨?_, ?_⟩)
      all_goals
        intro w w' v hw h
        exact h
    · simp only [AllLt]
      refine ⟨⟨⟨⟨⟨⟨⟨⟨⟨⟨⟨⟨⟨⟨⟨⟨⟨⟨⟨⟨⟨⟨trivial, ?_⟩, ?_⟩, ?_⟩, ?_⟩, ?_⟩, ?_⟩, ?_⟩, ?_⟩, ?_⟩, ?_⟩, ?_⟩, ?_⟩, ?_⟩, ?_⟩, ?_⟩, ?_⟩, ?_⟩, ?_⟩, ?_⟩, ?_⟩, ?_⟩, ?_⟩
      all_goals
        intro o' ho
        simp at ho
        subst ho
        intro ρ wq hR hL hS hG
        obtain ⟨hl1, hl2, -⟩ := hL
      · refine plainG rfl ?_
        intro bA K Q' hK
        have e10 := hS 10 (by kernel_rfl)
        change ρ (.tmp 10) = _ at e10
        simp only [execOp]
        go_simp
        exact hK _ _ rfl (Grew.refl _)
      · refine plainG rfl ?_
        intro bA K Q' hK
        have e12 := hS 12 (by kernel_rfl)
        change ρ (.tmp 12) = _ at e12
        simp only [execOp]
        go_simp
        exact hK _ _ rfl (Grew.refl _)
      · refine plainG rfl ?_
        intro bA K Q' hK
        have e60 := hG 0 60 (by decide) (by kernel_rfl) (by kernel_rfl)
        have e61 := hG 1 61 (by decide) (by kernel_rfl) (by kernel_rfl)
        change ρ (.tmp 60) = _ at e60
        change ρ (.tmp 61) = _ at e61
        simp only [execOp]
        go_simp
        exact hK _ _ (val_bool (by simp)) (Grew.refl _)
      · refine plainG rfl ?_
        intro bA K Q' hK
        have e62 := hG 2 62 (by decide) (by kernel_rfl) (by kernel_rfl)
        change ρ (.tmp 62) = _ at e62
        simp only [execOp]
        go_simp
        exact hK _ _ rfl (Grew.refl _)
      · have eG : ρ (.tmp 63) = _ := hG 3 63 (by decide) (by kernel_rfl) (by kernel_rfl)
        refine onG rfl (by kernel_rfl) eG ?_
        intro bA K Q' hK
        have e14 := hS 14 (by kernel_rfl)
        change ρ (.tmp 14) = _ at e14
        simp only [execOp]
        go_simp
        exact hK _ _ rfl (Grew.refl _)
      · have eG : ρ (.tmp 63) = _ := hG 3 63 (by decide) (by kernel_rfl) (by kernel_rfl)
        refine onG rfl (by kernel_rfl) eG ?_
        intro bA K Q' hK
        have e16 := hS 16 (by kernel_rfl)
        change ρ (.tmp 16) = _ at e16
        simp only [execOp]
        go_simp
        exact hK _ _ rfl (Grew.refl _)
      · have eG : ρ (.tmp 63) = _ := hG 3 63 (by decide) (by kernel_rfl) (by kernel_rfl)
        refine onG rfl (by kernel_rfl) eG ?_
        intro bA K Q' hK
        have e64 := hG 4 64 (by decide) (by kernel_rfl) (by kernel_rfl)
        have e65 := hG 5 65 (by decide) (by kernel_rfl) (by kernel_rfl)
        change ρ (.tmp 64) = _ at e64
        change ρ (.tmp 65) = _ at e65
        simp only [execOp]
        go_simp
        exact hK _ _ (val_bool (by simp)) (Grew.refl _)
      · refine plainG rfl ?_
        intro bA K Q' hK
        have e63 := hG 3 63 (by decide) (by kernel_rfl) (by kernel_rfl)
        have e66 := hG 6 66 (by decide) (by kernel_rfl) (by kernel_rfl)
        change ρ (.tmp 63) = _ at e63
        change ρ (.tmp 66) = _ at e66
        simp only [execOp]
        go_simp
        exact hK _ _ rfl (Grew.refl _)
      · refine plainG rfl ?_
        intro bA K Q' hK
        have e67 := hG 7 67 (by decide) (by kernel_rfl) (by kernel_rfl)
        change ρ (.tmp 67) = _ at e67
        simp only [execOp]
        go_simp
        exact hK _ _ rfl (Grew.refl _)
      · have eG : ρ (.tmp 68) = _ := hG 8 68 (by decide) (by kernel_rfl) (by kernel_rfl)
        refine onG rfl (by kernel_rfl) eG ?_
        intro bA K Q' hK
        have e9 := hS 9 (by kernel_rfl)
        change ρ (.tmp 9) = _ at e9
        obtain ⟨k0, k1, k2, k3⟩ := HCX.out wq hR
        simp only [execOp]
        go_simp
        exact hK _ _ rfl (Grew.refl _)
      · have eG : ρ (.tmp 68) = _ := hG 8 68 (by decide) (by kernel_rfl) (by kernel_rfl)
        refine onG rfl (by kernel_rfl) eG ?_
        intro bA K Q' hK
        have e69 := hG 9 69 (by decide) (by kernel_rfl) (by kernel_rfl)
        change ρ (.tmp 69) = _ at e69
        simp only [execOp]
        go_simp
        refine (of_any _ _ _ aX _ cX wq).mono ?_
        rintro r wr ⟨rfl, hb⟩
        exact hK _ _ rfl hb
      · have eG : ρ (.tmp 68) = _ := hG 8 68 (by decide) (by kernel_rfl) (by kernel_rfl)
        refine onG rfl (by kernel_rfl) eG ?_
        intro bA K Q' hK
        have e11 := hS 11 (by kernel_rfl)
        change ρ (.tmp 11) = _ at e11
        obtain ⟨k0, k1, k2, k3⟩ := HCY.out wq hR
        simp only [execOp]
        go_simp
        exact hK _ _ rfl (Grew.refl _)
      · have eG : ρ (.tmp 68) = _ := hG 8 68 (by decide) (by kernel_rfl) (by kernel_rfl)
        refine onG rfl (by kernel_rfl) eG ?_
        intro bA K Q' hK
        have e70 := hG 10 70 (by decide) (by kernel_rfl) (by kernel_rfl)
        have e71 := hG 11 71 (by decide) (by kernel_rfl) (by kernel_rfl)
        change ρ (.tmp 70) = _ at e70
        change ρ (.tmp 71) = _ at e71
        simp only [execOp]
        go_simp
        refine (HSXY.out wq hR).mono ?_
        rintro r wr ⟨rfl, hb⟩
        exact hK _ _ rfl hb
      · have eG : ρ (.tmp 68) = _ := hG 8 68 (by decide) (by kernel_rfl) (by kernel_rfl)
        refine onG rfl (by kernel_rfl) eG ?_
        intro bA K Q' hK
        have e72 := hG 12 72 (by decide) (by kernel_rfl) (by kernel_rfl)
        change ρ (.tmp 72) = _ at e72
        simp only [execOp]
        go_simp
        exact hK _ _ rfl (Grew.refl _)
      · refine plainG rfl ?_
        intro bA K Q' hK
        have e68 := hG 8 68 (by decide) (by kernel_rfl) (by kernel_rfl)
        have e73 := hG 13 73 (by decide) (by kernel_rfl) (by kernel_rfl)
        change ρ (.tmp 68) = _ at e68
        change ρ (.tmp 73) = _ at e73
        simp only [execOp]
        go_simp
        exact hK _ _ rfl (Grew.refl _)
      · refine plainG rfl ?_
        intro bA K Q' hK
        have e74 := hG 14 74 (by decide) (by kernel_rfl) (by kernel_rfl)
        change ρ (.tmp 74) = _ at e74
        simp only [execOp]
        go_simp
        exact hK _ _ rfl (Grew.refl _)
      · have eG : ρ (.tmp 75) = _ := hG 15 75 (by decide) (by kernel_rfl) (by kernel_rfl)
        refine onG rfl (by kernel_rfl) eG ?_
        intro bA K Q' hK
        have e13 := hS 13 (by kernel_rfl)
        change ρ (.tmp 13) = _ at e13
        obtain ⟨k0, k1, k2, k3⟩ := HCZ.out wq hR
        simp only [execOp]
        go_simp
        exact hK _ _ rfl (Grew.refl _)
      · have eG : ρ (.tmp 75) = _ := hG 15 75 (by decide) (by kernel_rfl) (by kernel_rfl)
        refine onG rfl (by kernel_rfl) eG ?_
        intro bA K Q' hK
        have e76 := hG 16 76 (by decide) (by kernel_rfl) (by kernel_rfl)
        change ρ (.tmp 76) = _ at e76
        simp only [execOp]
        go_simp
        refine (of_any _ _ _ aZ _ cZ wq).mono ?_
        rintro r wr ⟨rfl, hb⟩
        exact hK _ _ rfl hb
      · have eG : ρ (.tmp 75) = _ := hG 15 75 (by decide) (by kernel_rfl) (by kernel_rfl)
        refine onG rfl (by kernel_rfl) eG ?_
        intro bA K Q' hK
        have e15 := hS 15 (by kernel_rfl)
        change ρ (.tmp 15) = _ at e15
        obtain ⟨k0, k1, k2, k3⟩ := HCU.out wq hR
        simp only [execOp]
        go_simp
        exact hK _ _ rfl (Grew.refl _)
      · have eG : ρ (.tmp 75) = _ := hG 15 75 (by decide) (by kernel_rfl) (by kernel_rfl)
        refine onG rfl (by kernel_rfl) eG ?_
        intro bA K Q' hK
        have e77 := hG 17 77 (by decide) (by kernel_rfl) (by kernel_rfl)
        have e78 := hG 18 78 (by decide) (by kernel_rfl) (by kernel_rfl)
        change ρ (.tmp 77) = _ at e77
        change ρ (.tmp 78) = _ at e78
        simp only [execOp]
        go_simp
        refine (HSZU.out wq hR).mono ?_
        rintro r wr ⟨rfl, hb⟩
        exact hK _ _ rfl hb
      · have eG : ρ (.tmp 75) = _ := hG 15 75 (by decide) (by kernel_rfl) (by kernel_rfl)
        refine onG rfl (by kernel_rfl) eG ?_
        intro bA K Q' hK
        have e79 := hG 19 79 (by decide) (by kernel_rfl) (by kernel_rfl)
        change ρ (.tmp 79) = _ at e79
        simp only [execOp]
        go_simp
        exact hK _ _ rfl (Grew.refl _)
      · refine plainG rfl ?_
        intro bA K Q' hK
        have e75 := hG 15 75 (by decide) (by kernel_rfl) (by kernel_rfl)
        have e80 := hG 20 80 (by decide) (by kernel_rfl) (by kernel_rfl)
        change ρ (.tmp 75) = _ at e75
        change ρ (.tmp 80) = _ at e80
        simp only [execOp]
        go_simp
        exact hK _ _ rfl (Grew.refl _)
    · intro v wq hR hG
      have h21 := hG.2
      change v 21 = _ at h21
      have HBQ : Hid (Below w.heap.size w wq) := hid (Grew.on HBD.out hR)
      have RXQ : Hid (wq.heap[w5.heap.size]? = _) := hid (row_below (w := wD.drew) RXD.out hR)
      have HSXQ := hid (Sl.below (w := wD.drew) HSXD.out hR)
      have HSQ := hid (Sl.below (w := wD.drew) HSD.out hR)
      clear hG hR HCX HCY HCZ HCU HSXY HSZU RXD RYD RZD RUD HSXD HSYD HSZD HSUD HSD HWD HBD
      simp [stG, stU, dstAt, Act.put, h21]
      by_cases hE : decE (mark ls) = 0
      · have hF : decF (mark ls) = picked (mark ls) := decF_ok hE
        have hok := (decE_zero hE).2.2.1
        have hchk : chk (decF (mark ls)) = 0 := by rw [hF]; exact chk_ok hok
        have henc : enc (decF (mark ls)) = (mark ls) := by rw [hF]; exact enc_dec hE
        have hbF : Bytes (decF (mark ls)).b := by rw [hF]; exact picked_bytes HLB.out
        have HEN := hid (encode_any _ (decF (mark ls)).k (decF (mark ls)).e (decF (mark ls)).p aX cX (decF (mark ls)).b wq HSXQ.out hbF HCX1.out.1 HCX1.out.2)
        have q0 := cell_of_row wq _ 0 _ _ _ RXQ.out
        have q1 := cell_of_row wq _ 1 _ _ _ RXQ.out
        have q2 := cell_of_row wq _ 2 _ _ _ RXQ.out
        have q3 := cell_of_row wq _ 3 _ _ _ RXQ.out
        have HCHK := hid hchk
        have HENC := hid henc
        rw [hE]
        clear hE hF hok hchk henc hbF
        go_wp2_with fail
        refine HEN.out.mono ?_
        rintro r wr ⟨⟨vr, rfl, hvr⟩, hbr⟩
        have hc0 : chk ⟨(decF (mark ls)).k, (decF (mark ls)).e, (decF (mark ls)).p, (decF (mark ls)).b⟩ = 0 := HCHK.out
        rw [hc0, if_pos rfl] at hvr
        rw [hc0]
        have he0 : enc ⟨(decF (mark ls)).k, (decF (mark ls)).e, (decF (mark ls)).p, (decF (mark ls)).b⟩ = (mark ls) := HENC.out
        rw [he0] at hvr
        obtain ⟨ar, cr, rfl, hsr, _, _, _⟩ := hvr
        have HBR : Hid (Below w.heap.size w wr) := hid (HBQ.out.trans (hbr.mono HBQ.out.size))
        have HKN := hid (known_any wr)
        have HSR := hid (And.intro (HSQ.out.below hbr) hsr)
        clear hbr hsr hc0 he0 HEN q0 q1 q2 q3 HBQ RXQ HSXQ HSQ
        go_wp2_with fail
        refine HKN.out.mono ?_
        rintro r ws ⟨rfl, hbs⟩
        have HBS : Hid (Below w.heap.size w ws) := hid (HBR.out.trans (hbs.mono HBR.out.size))
        have HSS := hid (same_self _ _ ar a3 cr c3 (mark ls) ws (HSR.out.2.below hbs) (HSR.out.1.below hbs) (by have := HC3.out; unfold maxLen at this; omega))
        clear hbs HKN HBR HSR
        go_wp2_with fail
        refine HSS.out.mono ?_
        rintro r wt ⟨rfl, hbt⟩
        have HBT : Hid (Below w.heap.size w wt) := hid (HBS.out.trans (hbt.mono HBS.out.size))
        clear hbt HSS HBS
        go_wp2_with fail
        go_ret
        exact ⟨rfl, HBT.out⟩
      · have hE1 : (((decE (mark ls) : Nat) : Int) != 0) = true := by rw [bne_iff_ne]; omega
        have HKN := hid (known_any wq)
        clear hE RXQ HSXQ HSQ
        generalize decE (mark ls) = q at *
        go_wp2_with fail
        refine HKN.out.mono ?_
        rintro r wr ⟨rfl, hbr⟩
        have HBR : Hid (Below w.heap.size w wr) := hid (HBQ.out.trans (hbr.mono HBQ.out.size))
        clear hbr HKN HBQ
        go_wp2_with fail
        go_ret
        exact ⟨rfl, HBR.out⟩
namespace frameReads
open Go.ChangeShapes Go.WideShapes Go.ChangeAt

theorem own : ownKnob Try.prog.godebug = none := by kernel_rfl
theorem laidOut : laidOutB Try.prog = true := by kernel_rfl

set_option maxRecDepth 100000 in
theorem lifted (os : Os) (started : os.Started) (H : Type) (enc : TypeId × Value → H) :
    ReturnsInHanded {} Try.checked os 4 .any (Rows.frameReadsSpec.pre6 enc Try.prog Try.f4 Rows.frameReadsRow.domain false) (Rows.frameReadsSpec.post enc Try.prog Try.f4 false true false false) := by
  refine returnsInHanded_of_change (C := Try.checked) own started (by kernel_rfl) Try.func4
    (ChangeSpec.witness6 (enc := enc) (C := Try.checked) false ⟨#[], #[.slice none 0 0, .bool false, .int .i64 0, .slice none 0 0], []⟩ 8 (by kernel_rfl) (by kernel_rfl) (by kernel_rfl) (by kernel_rfl)) ?_
  intro W base args ds gs before hval0 hW hcnd _
  have hval : ∀ (j : Nat) t v, Try.f4.params[j]? = some t → args[j]? = some v → Value.okWide Try.prog W .any base t v := hval0
  have hW' := hW
  obtain ⟨p, q, hA0, hV, rfl, hfz, hnd⟩ := hW
  have hA : DataW.TrodAll enc Try.prog W 0 (fun _ => true) true Try.f4.params.toList args.toList ds p := hA0
  rw [Try.params4] at hA hval
  obtain ⟨v0, vs0, d0, ds0, p0, q0, hargs, rfl, rfl, h0, r0⟩ := trodAll_cons hA
  obtain ⟨v1, vs1, d1, ds1, p1, q1, rfl, rfl, rfl, h1, r1⟩ := trodAll_cons r0
  obtain ⟨v2, vs2, d2, ds2, p2, q2, rfl, rfl, rfl, h2, r2⟩ := trodAll_cons r1
  obtain ⟨v3, vs3, d3, ds3, p3, q3, rfl, rfl, rfl, h3, r3⟩ := trodAll_cons r2
  obtain ⟨rfl, rfl, rfl⟩ := trodAll_nil r3
  obtain rfl : args = #[v0, v1, v2, v3] := by cases args; simp_all
  obtain ⟨rfl, rfl⟩ := trodVars_none hV
  obtain ⟨a0, len0, cap0, rfl⟩ := okWide_slice Try.underlying22 (hval 0 22 v0 rfl rfl)
  have k0 := h0
  have lt0 : ∀ x ∈ p0, x.block < W.heap.size := by obtain ⟨m, hm⟩ := k0; exact DataW.trod_lt m _ _ _ hm
  obtain ⟨a, c, bs0, hv, hby0, hsl0, hlc0, hcm0, hn0⟩ : ∃ a c bs, Value.slice a0 len0 cap0 = .slice a (List.length bs) c ∧ Bytes bs ∧ Sl (fun _ => True) W a bs ∧ bs.length ≤ c ∧ c ≤ maxLen ∧ (a = none → c = 0) := by
    obtain ⟨fuel, hf⟩ := h0
    exact open_sl Try.underlying22 Try.underlying5 (by kernel_rfl) hf
  simp only [Value.slice.injEq] at hv
  obtain ⟨rfl, rfl, rfl⟩ := hv
  obtain ⟨b1, rfl, rfl, rfl⟩ := open_bool Try.underlying4 (hval 1 4 v1 rfl rfl) h1
  obtain ⟨x2, rfl, rfl, rfl, wf2⟩ := open_int Try.underlying3 (hval 2 3 v2 rfl rfl) h2
  have hx2 := bounds_i64 wf2
  obtain ⟨a3, len3, cap3, rfl⟩ := okWide_slice Try.underlying40 (hval 3 40 v3 rfl rfl)
  have k3 := h3
  have lt3 : ∀ x ∈ p3, x.block < W.heap.size := by obtain ⟨m, hm⟩ := k3; exact DataW.trod_lt m _ _ _ hm
  obtain ⟨a, c, zs3, hv, hz3, hsi3, hlc3, hcm3, hn3⟩ : ∃ a c zs, Value.slice a3 len3 cap3 = .slice a (List.length zs) c ∧ (∀ z ∈ zs, -9223372036854775808 ≤ z ∧ z ≤ 9223372036854775807) ∧ Si (fun _ => True) W a zs ∧ zs.length ≤ c ∧ c ≤ maxLen ∧ (a = none → c = 0) := by
    obtain ⟨fuel, hf⟩ := h3
    exact open_si Try.underlying40 Try.underlying3 (by kernel_rfl) hf
  simp only [Value.slice.injEq] at hv
  obtain ⟨rfl, rfl, rfl⟩ := hv
  clear hA0 hval0
  refine (frameReads_walk _ _ a0 cap0 bs0 b1 x2 a3 cap3 zs3 W hsl0 hby0 ⟨hlc0, hcm0⟩ hn0 hsi3 ⟨hlc3, hcm3⟩).mono fun e W' ⟨he, bel⟩ => ?_
  subst he
  exact ⟨_, rfl, _, _, _, [], _, [], hW', trodAll_mk1 (shut_bool Try.underlying4 _), (trodAll_cons_mk (Below.trod laidOut (by kernel_rfl) (of_decide_eq_true (by kernel_rfl)) k0 bel lt0) (trodAll_cons_mk (shut_bool Try.underlying4 b1) (trodAll_cons_mk (shut_int Try.underlying3 wf2) (trodAll_cons_mk (Below.trod laidOut (by kernel_rfl) (of_decide_eq_true (by kernel_rfl)) k3 bel lt3) trodAll_mk0)))), rfl, bel.frame _, fun h => by cases h⟩

/-- THE STATEMENT. -/
theorem proved : Rows.FrameReadsSaid :=
  OpenClaim.holds_of_wide 4 Try.f4 rfl rfl rfl rfl rfl rfl rfl ⟨rfl, rfl, rfl, rfl, rfl⟩ rfl rfl rfl rfl rfl (by kernel_rfl) Try.func4 (by kernel_rfl)
    (of_decide_eq_true (by kernel_rfl)) (by unfold Func.isWrapper; first | (rw [if_pos (by decide +kernel)]; kernel_rfl) | (rw [if_neg (by decide +kernel)]; exact ⟨rfl, rfl⟩))
    (fun os started H enc _ => lifted os started H enc)
end frameReads
end Go.Proofs.Ytmdimhijbmeioaa
