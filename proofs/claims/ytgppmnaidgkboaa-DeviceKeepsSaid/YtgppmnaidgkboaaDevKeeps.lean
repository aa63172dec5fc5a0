/- 'DeviceKeeps' RETURNS TRUE FOR EVERY TWO LISTS OF ACTS AND EVERY LIST OF KEEPS (nil ones too). No condition. -/
import Derived.Test.YtgppmnaidgkboaaDevS
import Derived.Test.YtgppmnaidgkboaaDevT
import Derived.Test.YtgppmnaidgkboaaSame
namespace Go.Proofs.Ytgppmnaidgkboaa
open Go.RowKit Go.Inc

/-- A page's number. -/
def pnOf (x : Int) : Nat := (IntKind.u64.wrap x % 8).toNat
theorem pnOf_lt (x : Int) : pnOf x < 8 := by unfold pnOf; omega
theorem pn_walk (x : Int) : IntKind.i64.wrap ((IntKind.u64.wrap x).tmod 8) = (pnOf x : Int) := by
  have h0 : 0 ≤ IntKind.u64.wrap x := by rw [IntKind.wrap_u64]; omega
  unfold pnOf
  rw [Int.tmod_eq_emod_of_nonneg h0]
  generalize IntKind.u64.wrap x = y at *
  rw [IntKind.wrap_i64]
  omega

/-- Eight bools. -/
def bools (ov : Nat → Bool) : Array Value := ((List.range 8).map fun i => Value.bool (ov i)).toArray
theorem bools_get (ov : Nat → Bool) {i : Nat} (h : i < 8) : (bools ov)[i]? = some (.bool (ov i)) := by
  unfold bools
  simp [h]
theorem bools_set (ov : Nat → Bool) {k : Nat} (h : k < 8) : (bools ov).setIfInBounds k (.bool true) = bools fun i => if i = k then true else ov i := by
  apply Array.ext_getElem?
  intro i
  by_cases hi : i < 8
  · rw [bools_get _ hi]
    by_cases hik : i = k
    · subst hik
      rw [Array.getElem?_setIfInBounds_self_of_lt (by unfold bools; simp; omega)]
      simp
    · rw [Array.getElem?_setIfInBounds_ne (fun e => hik e.symm), bools_get _ hi]
      simp [hik]
  · have h1 : ∀ o : Nat → Bool, (bools o)[i]? = none := fun o => by unfold bools; simp; omega
    rw [h1, Array.getElem?_setIfInBounds_ne (by omega), h1]

set_option maxRecDepth 20000 in
set_option maxHeartbeats 16000000 in
theorem deviceKeeps_walk (al am ak : Option Addr) (cl cm ck : Nat) (ls ms : List Ac) (ks : List Kp) (w : World) (hl : AcS (fun b => b < w.heap.size) w al ls) (hm : AcS (fun b => b < w.heap.size) w am ms) (hk : KpS (fun b => b < w.heap.size) w ak ks)
    (hkl : ks.length ≤ ck ∧ ck ≤ maxLen) :
    Calls Try.prog 5 #[.slice al ls.length cl, .slice am ms.length cm, .slice ak ks.length ck] w fun e w' => e = .returned (.bool true) ∧ Below w.heap.size w w' := by
  have HL := hid hl
  have HM := hid hm
  have HK := hid hk
  have H1 := hid (dv_new w 8 (by decide))
  unfold maxLen at hkl
  obtain ⟨nl, hnl⟩ : ∃ nl, nl = ls.length := ⟨_, rfl⟩
  obtain ⟨nm, hnm⟩ : ∃ nm, nm = ms.length := ⟨_, rfl⟩
  obtain ⟨nk, hnk⟩ : ∃ nk, nk = ks.length := ⟨_, rfl⟩
  rw [← hnl]
  rw [← hnm]
  rw [← hnk] at hkl ⊢
  have HNL := hid hnl
  have HNM := hid hnm
  have HNK := hid hnk
  clear hl hm hk hnl hnm hnk
  go_enter Try.func5, Try.ntmps5
  go_wp2_with fail
  refine H1.out.mono ?_
  rintro e w1 ⟨C, g, rfl, hd1, hb1, hC⟩
  have HD1 := hid hd1
  have HB1 := hid hb1
  have HC := hid hC
  clear hd1 hb1 hC H1
  go_wp2_with fail
  go_loopw [9] (fun i wr => ∃ (k : Nat) (C' : Nat → Nat) (S : St), k ≤ nl ∧ k ≤ 30 ∧ i = .int .i64 (k : Int) ∧ Dv C' wr g 8 k S ∧ S.on = true ∧ S.armed = false ∧ S.r = 0 ∧ S.s = (k : Int) ∧ S.t = 0 ∧ (∀ b, C' b ≠ 0 → w.heap.size ≤ b) ∧ Below w.heap.size w wr) (fun i _ => nl - (intOf i).toNat)
  case atStart => exact ⟨0, C, _, Nat.zero_le _, Nat.zero_le _, rfl, HD1.out, rfl, rfl, rfl, rfl, rfl, HC.out, HB1.out⟩
  case round =>
    obtain ⟨k, C1, S, hk1, hk2, rfl, hd, hon, harm, hSr, hSs, hSt, hC1, hb⟩ := hrel
    have HD := hid hd
    have HS := hid (And.intro hon (And.intro harm (And.intro hSr (And.intro hSs hSt))))
    have HC1 := hid hC1
    have HB := hid hb
    clear hd hon harm hSr hSs hSt hC1 hb HD1 HB1 HC
    by_cases hlt : (k : Int) < nl
    · by_cases hlt2 : (k : Int) < 30
      · rcases HL.out with h0 | ⟨b, o, rfl, hob, hac⟩
        · have := HNL.out; rw [h0] at this; simp at this; omega
        obtain ⟨t, ht⟩ : ∃ t, ls[k]? = some t := ⟨_, List.getElem?_eq_getElem (by rw [← HNL.out]; omega)⟩
        obtain ⟨aB, cB, aK, cK, q0, q1, q2, q3, hs, hp, hcb1, hcb2, hck1, hck2, hkb, hnb⟩ := hac k t ht
        have r1 := (HB.out.cell (cell_lt q1)).trans q1
        have r2 := (HB.out.cell (cell_lt q2)).trans q2
        have hs' : Sl (fun b => b < w.heap.size) w aB t.B := hs
        have HSB := hid (hs'.below HB.out)
        obtain ⟨kd, x, bs, kp⟩ := t
        simp only at r1 r2 HSB hcb1 hcb2 hnb
        clear q0 q1 q2 q3 hs hs' hp hac ht hkb hck1 hck2
        have HF := hid (full_sl _ aB cB bs wr.drew HSB.out (by unfold maxLen at hcb2; omega))
        have hpn := pn_walk x
        have hp8 := pnOf_lt x
        generalize pnOf x = pn at *
        have HP8 := hid hp8
        clear hp8
        go_wp2_with fail
        go_region_held3 (fun w' => w'.cell? ⟨b, o + k * 4 + 1, none⟩ = some (.int .i64 x) ∧ w'.cell? ⟨b, o + k * 4 + 2, none⟩ = some (.slice aB bs.length cB))
          (first | exact ⟨r1, r2⟩ | assumption)
          (first | (go_at_call 12; refine HF.out.mono ?_; rintro e wf ⟨G, rfl, hsf, hbf⟩; have hcc : wf.cell? ⟨b, o + k * 4 + 1, none⟩ = some (.int .i64 x) ∧ wf.cell? ⟨b, o + k * 4 + 2, none⟩ = some (.slice aB bs.length cB) := ⟨(hbf.cell (cell_lt r1)).trans r1, (hbf.cell (cell_lt r2)).trans r2⟩) | (go_at_call 14; refine (dv_write (HD.out.below ⟨hbf.os, hbf.tape, hbf.output, hbf.size, hbf.block⟩) pn HP8.out _ _ 256 _ hsf (fun b hb => HD.out.new hb) (fill_len _) HS.out.1 (by rw [HS.out.2.1]; rfl) (by omega) (by rw [HS.out.2.2.2.1]; omega)).mono ?_; rintro e w2 ⟨rfl, ⟨C2, hd2, hx2⟩, hm2⟩; have hcc2 : w2.cell? ⟨b, o + k * 4 + 1, none⟩ = some (.int .i64 x) ∧ w2.cell? ⟨b, o + k * 4 + 2, none⟩ = some (.slice aB bs.length cB) := ⟨hm2.cell hcc.1 (fun h => by have := HC1.out b h; omega), hm2.cell hcc.2 (fun h => by have := HC1.out b h; omega)⟩))
        have HD2 := hid hd2
        have HBF : Hid (Below w.heap.size w wf) := hid (HB.out.trans (Below.mono (B := wr.heap.size) ⟨hbf.os, hbf.tape, hbf.output, hbf.size, hbf.block⟩ HB.out.size))
        have HB2 := hid (HBF.out.trans (hm2.below HBF.out.size fun b hb => HC1.out b hb))
        have HC2 : Hid (∀ b, C2 b ≠ 0 → w.heap.size ≤ b) := hid fun b hb => by
          by_cases hlt : b < wf.heap.size
          · rw [hx2 b hlt] at hb; exact HC1.out b hb
          · have := HBF.out.size; omega
        clear hd2 hx2 hm2 hcc2 hcc hsf hbf r1 r2 HF
        go_wp2_with fail
        go_roundw
        case rel =>
          have hS := HS.out
          exact ⟨k + 1, C2, _, by omega, by omega, by go_num, HD2.out, hS.1, hS.2.1, hS.2.2.1, by show S.s + 1 = _; rw [hS.2.2.2.1]; omega, hS.2.2.2.2, HC2.out, HB2.out⟩
        case measure => simp [intOf]; omega
      · have hge30 : (30 : Int) ≤ k := by omega
        clear hlt2
        have hS := HS.out
        have HSY := hid (dv_sync HD.out hS.1 (by rw [hS.2.1]; rfl) (by omega) (by rw [hS.2.2.2.2]; decide))
        clear hS
        go_wp2_with fail
        refine HSY.out.mono ?_
        rintro e w2 ⟨rfl, ⟨B1, hd2, hB2⟩, hm2⟩
        have HB2 := hid (HB.out.trans (hm2.below HB.out.size fun b hb => HC1.out b hb))
        obtain ⟨S1, hS1⟩ : ∃ S1, S1 = synced S B1 := ⟨_, rfl⟩
        rw [← hS1] at hd2
        have HS1 : Hid (S1.on = true ∧ S1.armed = false ∧ S1.r = 0 ∧ S1.s ≤ 30 ∧ S1.t = 1 ∧ S1.W = fun _ => []) := hid (by
          have hS := HS.out
          rw [hS1]
          refine ⟨hS.1, hS.2.1, hS.2.2.1, by show S.s ≤ 30; rw [hS.2.2.2.1]; omega, by show S.t + 1 = 1; rw [hS.2.2.2.2]; rfl, rfl⟩)
        have HD2 := hid hd2
        obtain ⟨w3, hw3⟩ : ∃ w3, w3 = w2.alloc (.cells #[.slice none 0 0, .slice none 0 0, .slice none 0 0, .slice none 0 0, .slice none 0 0, .slice none 0 0, .slice none 0 0, .slice none 0 0] 61) := ⟨_, rfl⟩
        have hb3 : Below w2.heap.size w2 w3 := by rw [hw3]; exact (Below.refl _ _).alloc (Nat.le_refl _) _
        have hrow3 : w3.heap[w2.heap.size]? = some (.cells #[.slice none 0 0, .slice none 0 0, .slice none 0 0, .slice none 0 0, .slice none 0 0, .slice none 0 0, .slice none 0 0, .slice none 0 0] 61 (0, 0)) := by rw [hw3]; exact heap_alloc_new w2 _
        have HD3 := hid (hd2.below hb3)
        have HCA : Hid (C1 w2.heap.size = 0) := hid (hd2.new (Nat.le_refl _))
        have HWA : Hid (w.heap.size ≤ w2.heap.size) := hid HB2.out.size
        have HB3 : Hid (Below w.heap.size w w3) := hid (HB2.out.trans (hb3.mono HB2.out.size))
        have HW3 := hid hw3
        have HR3 := hid hrow3
        clear hS1 hd2 hB2 hm2 hw3 hb3 hrow3 HSY HD HB HS HD2 HB2
        obtain ⟨A, hA⟩ : ∃ A, A = w2.heap.size := ⟨_, rfl⟩
        go_wp2_with fail
        rw [← hA] at HR3 HCA HWA ⊢
        rw [← HW3.out]
        clear hA
        go_loopw [11] (fun i wr => ∃ (k : Nat) (vals : Array Value), k ≤ 8 ∧ i = .int .i64 (k : Int) ∧ Dv C1 wr g 8 0 { S1 with r := (k : Int) } ∧ wr.heap[A]? = some (.cells vals 61 (0, 0)) ∧ vals.size = 8 ∧
          (∀ i, i < k → ∃ a c, vals[i]? = some (.slice a 256 c) ∧ Sl (fun b => A < b ∧ C1 b = 0) wr a (rd S1 i)) ∧ Below w.heap.size w wr) (fun i _ => 8 - (intOf i).toNat)
        case atStart =>
          refine ⟨0, _, Nat.zero_le _, rfl, ?_, HR3.out, rfl, fun i hi => absurd hi (Nat.not_lt_zero _), HB3.out⟩
          have h := HD3.out
          have h2 := HS1.out.2.2.1
          obtain ⟨on, armed, left, B, W, r, s, t⟩ := S1
          simp only at h2
          subst h2
          exact h
        case round =>
          obtain ⟨j, vals, hj, rfl, hdj, hrow, hvs, hwas, hbj⟩ := hrel
          have HDJ := hid hdj
          have HROW := hid hrow
          have HWAS := hid hwas
          have HBJ := hid hbj
          have HVS := hid hvs
          by_cases hj8 : (j : Int) < 8
          · have HR := hid (dv_read hdj j (by omega) HS1.out.1 (by decide) (by show (j : Int) ≤ 1000000; omega))
            have HRL := hid (rd_len hdj (k := j) (by omega))
            clear hdj hrow hwas hbj hvs
            go_wp2_with fail
            refine HR.out.mono ?_
            rintro e w4 ⟨v, rfl, hv, hd4, hm4⟩
            have hrow4 := hm4.row HROW.out (fun h => h HCA.out)
            have hA4 : A < wr.heap.size := row_lt HROW.out
            obtain ⟨old, hold⟩ : ∃ old, vals[j]? = some old := ⟨vals[j]'(by rw [HVS.out]; omega), Array.getElem?_eq_getElem _⟩
            have hcell4 : w4.cell? ⟨A, j, none⟩ = some old := by rw [cell_of_row w4 A j _ _ _ hrow4]; exact hold
            have hfz4 : w4.frozen? ⟨A, j, none⟩ = false := frozen_of_row w4 A j _ _ hrow4
            have hlen : (rd { S1 with r := (j : Int) } j).length = 256 := HRL.out
            obtain ⟨a4, c4, rfl, _, _, _, hsl4⟩ := hv.sl
            have HSL4 : Hid (Sl (fun b => wr.heap.size ≤ b) w4 a4 (rd S1 j)) := hid hsl4
            rw [hlen]
            have HD4 := hid hd4
            have HM4 := hid hm4
            have HROW4 := hid hrow4
            clear hv hd4 hm4 hrow4 hold hsl4 hlen HR
            go_wp2_with fail
            have hg5 : w4.grownBy (w4.setCell ⟨A, j, none⟩ (.slice a4 256 c4)) (some A) := grown_setCell (grown_refl _ _) (.inl rfl) _
            have hm5 : Mv (fun b => b = A) w4 (w4.setCell ⟨A, j, none⟩ (.slice a4 256 c4)) := Mv.of_grown hg5 fun g h _ => by cases h; rfl
            have HD5 := hid (HD4.out.keep hm5 (fun b hb => by rw [hb]; exact HCA.out))
            have HROW5 : Hid ((w4.setCell ⟨A, j, none⟩ (.slice a4 256 c4)).heap[A]? = some (.cells (vals.setIfInBounds j (.slice a4 256 c4)) 61 (0, 0))) := hid (row_set HROW4.out j _ rfl)
            have HB5 : Hid (Below w.heap.size w (w4.setCell ⟨A, j, none⟩ (.slice a4 256 c4))) := hid ((HBJ.out.trans (HM4.out.below HBJ.out.size fun b hb => HC1.out b hb)).trans (grown_is_below hg5 HWA.out (Nat.le_trans HBJ.out.size HM4.out.size)))
            have HWAS5 : Hid (∀ i, i < j + 1 → ∃ a c, (vals.setIfInBounds j (.slice a4 256 c4))[i]? = some (.slice a 256 c) ∧ Sl (fun b => A < b ∧ C1 b = 0) (w4.setCell ⟨A, j, none⟩ (.slice a4 256 c4)) a (rd S1 i)) := hid (fun i hi => by
              by_cases hij : i = j
              · subst hij
                refine ⟨a4, c4, by rw [Array.getElem?_setIfInBounds_self_of_lt (by rw [HVS.out]; omega)], ?_⟩
                refine (HSL4.out.mono fun b hb _ => (⟨by omega, ?_⟩ : A < b ∧ C1 b = 0)).mv hm5 fun b hb h => by omega
                exact HDJ.out.new hb
              · obtain ⟨a, c, h1, h2⟩ := HWAS.out i (by omega)
                refine ⟨a, c, by rw [Array.getElem?_setIfInBounds_ne (fun e => hij e.symm)]; exact h1, ?_⟩
                exact (h2.mv HM4.out fun b hb h => h hb.2).mv hm5 fun b hb h => by omega)
            obtain ⟨w5, hw5⟩ : ∃ w5, w5 = w4.setCell ⟨A, j, none⟩ (.slice a4 256 c4) := ⟨_, rfl⟩
            rw [← hw5] at HD5 HROW5 HB5 HWAS5 ⊢
            clear hw5 hg5 hm5 hcell4 hfz4
            go_roundw
            case rel => exact ⟨j + 1, _, by omega, by go_num, HD5.out, HROW5.out, by rw [Array.size_setIfInBounds]; exact HVS.out, HWAS5.out, HB5.out⟩
            case measure => simp [intOf]; omega
          · have hge8 : (8 : Int) ≤ j := by omega
            have HWAS8 : Hid (∀ i, i < 8 → ∃ a c, vals[i]? = some (.slice a 256 c) ∧ Sl (fun b => (A < b ∧ C1 b = 0) ∧ b < wr.heap.size) wr a (rd S1 i)) := hid (fun i hi => by
              obtain ⟨a, c, h1, h2⟩ := hwas i (by omega)
              exact ⟨a, c, h1, h2.mono fun b h1 h2 => ⟨h1, h2⟩⟩)
            obtain ⟨w6, hw6⟩ : ∃ w6, w6 = wr := ⟨_, rfl⟩
            rw [← hw6] at HWAS8 HDJ HROW HBJ hdj hbj ⊢
            have hA6 : A < w6.heap.size := row_lt HROW.out
            have HA6 := hid hA6
            obtain ⟨w7, hw7⟩ : ∃ w7, w7 = w6.alloc (.cells #[.bool false, .bool false, .bool false, .bool false, .bool false, .bool false, .bool false, .bool false] 62) := ⟨_, rfl⟩
            have hb7 : Below w6.heap.size w6 w7 := by rw [hw7]; exact (Below.refl _ _).alloc (Nat.le_refl _) _
            have hrow7 : w7.heap[w6.heap.size]? = some (.cells (bools fun _ => false) 62 (0, 0)) := by rw [hw7]; exact heap_alloc_new w6 _
            have HD7 := hid (hdj.below hb7)
            have HCO : Hid (C1 w6.heap.size = 0) := hid (hdj.new (Nat.le_refl _))
            have HWO : Hid (w.heap.size ≤ w6.heap.size) := hid hbj.size
            have HB7 : Hid (Below w.heap.size w w7) := hid (hbj.trans (hb7.mono hbj.size))
            have HRA7 : Hid (w7.heap[A]? = some (.cells vals 61 (0, 0))) := hid (row_below HROW.out hb7)
            have HW7 := hid hw7
            have HR7 := hid hrow7
            have HWAS7 : Hid (∀ i, i < 8 → ∃ a c, vals[i]? = some (.slice a 256 c) ∧ Sl (fun b => (A < b ∧ C1 b = 0) ∧ b < w6.heap.size) w7 a (rd S1 i)) := hid (fun i hi => by
              obtain ⟨a, c, h1, h2⟩ := HWAS8.out i hi
              exact ⟨a, c, h1, h2.below hb7⟩)
            clear hw6 hw7 hb7 hrow7 hdj hbj hrow hwas hvs HWAS8 HWAS HDJ HBJ HROW hA6 HD3 HB3 HW3 HR3 hj8
            obtain ⟨O, hO⟩ : ∃ O, O = w6.heap.size := ⟨_, rfl⟩
            go_wp2_with fail
            rw [← hO] at HR7 HCO HWO HA6 HWAS7 ⊢
            rw [← HW7.out]
            have HOs : Hid (O < w7.heap.size) := hid (row_lt HR7.out)
            clear hO
            go_loopw [13] (fun i wr => ∃ (k : Nat) (C' : Nat → Nat) (S2 : St) (ov : Nat → Bool), k ≤ nm ∧ k ≤ 10 ∧ i = .int .i64 (k : Int) ∧ Dv C' wr g 8 k S2 ∧ S2.on = true ∧ S2.armed = false ∧ S2.r ≤ 8 ∧ S2.s ≤ 30 + (k : Int) ∧ S2.B = S1.B ∧ (∀ i, ov i = false → S2.W (i : Int) = []) ∧
              wr.heap[A]? = some (.cells vals 61 (0, 0)) ∧ wr.heap[O]? = some (.cells (bools ov) 62 (0, 0)) ∧ (∀ i, i < 8 → ∃ a c, vals[i]? = some (.slice a 256 c) ∧ Sl (fun b => (A < b ∧ C1 b = 0) ∧ b < O) wr a (rd S1 i)) ∧
              (∀ b, b < w7.heap.size → C' b = C1 b) ∧ (∀ b, C' b ≠ 0 → w.heap.size ≤ b) ∧ w7.heap.size ≤ wr.heap.size ∧ Below w.heap.size w wr) (fun i _ => nm - (intOf i).toNat)
            case atStart => exact ⟨0, C1, _, fun _ => false, Nat.zero_le _, Nat.zero_le _, rfl, HD7.out, HS1.out.1, HS1.out.2.1, by show (j : Int) ≤ 8; omega, by show S1.s ≤ 30 + 0; have := HS1.out.2.2.2.1; omega, rfl, fun i _ => by show S1.W (i : Int) = []; rw [HS1.out.2.2.2.2.2], HRA7.out, HR7.out, HWAS7.out, fun _ _ => rfl, HC1.out, Nat.le_refl _, HB7.out⟩
            case round =>
              obtain ⟨q, C3, S2, ov, hq1, hq2, rfl, hd, hon, harm, hSr, hSs, hSB, hSW, hrA, hrO, hwas, hext, hC3, hsz, hb⟩ := hrel
              have HD := hid hd
              have HS := hid (And.intro hon (And.intro harm (And.intro hSr (And.intro hSs (And.intro hSB hSW)))))
              have HRA := hid hrA
              have HRO := hid hrO
              have HWS := hid hwas
              have HX := hid hext
              have HC3 := hid hC3
              have HB := hid hb
              have HSZ := hid hsz
              clear hsz hd hon harm hSr hSs hSB hSW hrA hrO hwas hext hC3 hb HD7 HRA7 HR7 HWAS7 HB7 HW7
              by_cases hlt : (q : Int) < nm
              · by_cases hlt2 : (q : Int) < 10
                · rcases HM.out with h0 | ⟨b, o, rfl, hob, hac⟩
                  · have := HNM.out; rw [h0] at this; simp at this; omega
                  obtain ⟨t, ht⟩ : ∃ t, ms[q]? = some t := ⟨_, List.getElem?_eq_getElem (by rw [← HNM.out]; omega)⟩
                  obtain ⟨aB, cB, aK, cK, q0, q1, q2, q3, hs, hp, hcb1, hcb2, hck1, hck2, hkb, hnb⟩ := hac q t ht
                  have r1 := (HB.out.cell (cell_lt q1)).trans q1
                  have r2 := (HB.out.cell (cell_lt q2)).trans q2
                  have hs' : Sl (fun b => b < w.heap.size) w aB t.B := hs
                  have HSB := hid (hs'.below HB.out)
                  obtain ⟨kd, x, bs, kp⟩ := t
                  simp only at r1 r2 HSB hcb1 hcb2 hnb
                  clear q0 q1 q2 q3 hs hs' hp hac ht hkb hck1 hck2
                  have HF := hid (full_sl _ aB cB bs wr HSB.out (by unfold maxLen at hcb2; omega))
                  have hpn := pn_walk x
                  have hp8 := pnOf_lt x
                  generalize pnOf x = pn at *
                  have HP8 := hid hp8
                  clear hp8
                  go_wp2_with fail
                  refine HF.out.mono ?_
                  rintro e wf ⟨G, rfl, hsf, hbf⟩
                  have hdf := HD.out.below hbf
                  have HWr := hid (dv_write hdf pn HP8.out _ _ 256 _ hsf (fun b hb => HD.out.new hb) (fill_len _) HS.out.1 (by rw [HS.out.2.1]; rfl) (by omega) (by have := HS.out.2.2.2.1; omega))
                  have HBF : Hid (Below w.heap.size w wf) := hid (HB.out.trans (hbf.mono HB.out.size))
                  have HBS : Hid (wr.heap.size ≤ wf.heap.size) := hid hbf.size
                  have HRAF := hid (row_below HRA.out hbf)
                  have HROF := hid (row_below HRO.out hbf)
                  have HWSF : Hid (∀ i, i < 8 → ∃ a c, vals[i]? = some (.slice a 256 c) ∧ Sl (fun b => (A < b ∧ C1 b = 0) ∧ b < O) wf a (rd S1 i)) := hid (fun i hi => by
                    obtain ⟨a, c, h1, h2⟩ := HWS.out i hi
                    exact ⟨a, c, h1, h2.below hbf⟩)
                  clear hdf hsf hbf HF HRA HRO HWS r1 r2
                  go_wp2_with fail
                  refine HWr.out.mono ?_
                  rintro e w8 ⟨rfl, ⟨C4, hd8, hx8⟩, hm8⟩
                  have hCA : C3 A = 0 := by rw [HX.out A (by have := HA6.out; have := HOs.out; omega)]; exact HCA.out
                  have hCO : C3 O = 0 := by rw [HX.out O HOs.out]; exact HCO.out
                  have HRA8 := hid (hm8.row HRAF.out (fun h => h hCA))
                  have hrO8 := hm8.row HROF.out (fun h => h hCO)
                  have hcO : w8.cell? ⟨O, pn, none⟩ = some (.bool (ov pn)) := by rw [cell_of_row w8 O pn _ _ _ hrO8]; exact bools_get ov HP8.out
                  have hfO : w8.frozen? ⟨O, pn, none⟩ = false := frozen_of_row w8 O pn _ _ hrO8
                  have HRO8 := hid hrO8
                  have HD8 := hid hd8
                  have HX8 := hid hx8
                  have HM8 := hid hm8
                  have HCA3 := hid hCA
                  have HCO3 := hid hCO
                  have hpi : (pn : Int) < 8 ∧ (0 : Int) ≤ pn := by have := HP8.out; omega
                  clear hd8 hx8 hm8 hrO8 HWr HRAF HROF hCA hCO
                  go_wp2_with fail
                  have hg9 : w8.grownBy (w8.setCell ⟨O, pn, none⟩ (.bool true)) (some O) := grown_setCell (grown_refl _ _) (.inl rfl) _
                  have hm9 : Mv (fun b => b = O) w8 (w8.setCell ⟨O, pn, none⟩ (.bool true)) := Mv.of_grown hg9 fun g h _ => by cases h; rfl
                  have HSZF : Hid (w7.heap.size ≤ wf.heap.size) := hid (Nat.le_trans HSZ.out HBS.out)
                  have hCO4 : C4 O = 0 := by rw [HX8.out O (Nat.lt_of_lt_of_le HOs.out HSZF.out)]; exact HCO3.out
                  have HD9 := hid (HD8.out.keep hm9 (fun b hb => by rw [hb]; exact hCO4))
                  have HRO9 : Hid ((w8.setCell ⟨O, pn, none⟩ (.bool true)).heap[O]? = some (.cells (bools fun i => if i = pn then true else ov i) 62 (0, 0))) := hid (row_set HRO8.out pn _ (bools_set ov HP8.out))
                  have HRA9 : Hid ((w8.setCell ⟨O, pn, none⟩ (.bool true)).heap[A]? = some (.cells vals 61 (0, 0))) := hid (hm9.row HRA8.out (by have := HA6.out; omega))
                  have HWS9 : Hid (∀ i, i < 8 → ∃ a c, vals[i]? = some (.slice a 256 c) ∧ Sl (fun b => (A < b ∧ C1 b = 0) ∧ b < O) (w8.setCell ⟨O, pn, none⟩ (.bool true)) a (rd S1 i)) := hid (fun i hi => by
                    obtain ⟨a, c, h1, h2⟩ := HWSF.out i hi
                    refine ⟨a, c, h1, (h2.mv HM8.out fun b hb h => h ?_).mv hm9 fun b hb h => by omega⟩
                    rw [HX.out b (by have := HOs.out; omega)]; exact hb.1.2)
                  have HB9 : Hid (Below w.heap.size w (w8.setCell ⟨O, pn, none⟩ (.bool true))) := hid ((HBF.out.trans (HM8.out.below HBF.out.size fun b hb => HC3.out b hb)).trans (grown_is_below hg9 HWO.out (Nat.le_trans HBF.out.size HM8.out.size)))
                  have HX9 : Hid (∀ b, b < w7.heap.size → C4 b = C1 b) := hid (fun b hb => by rw [HX8.out b (Nat.lt_of_lt_of_le hb HSZF.out)]; exact HX.out b hb)
                  have HC9 : Hid (∀ b, C4 b ≠ 0 → w.heap.size ≤ b) := hid (fun b hb => by
                    by_cases hlt : b < wf.heap.size
                    · rw [HX8.out b hlt] at hb; exact HC3.out b hb
                    · have := HBF.out.size; omega)
                  have HSZ9 : Hid (w7.heap.size ≤ (w8.setCell ⟨O, pn, none⟩ (.bool true)).heap.size) := hid (Nat.le_trans HSZF.out (Nat.le_trans HM8.out.size hm9.size))
                  obtain ⟨w9, hw9⟩ : ∃ w9, w9 = w8.setCell ⟨O, pn, none⟩ (.bool true) := ⟨_, rfl⟩
                  rw [← hw9] at HD9 HRO9 HRA9 HWS9 HB9 HSZ9 ⊢
                  clear hw9 hg9 hm9 hcO hfO hCO4
                  go_roundw
                  case rel =>
                    have hS := HS.out
                    refine ⟨q + 1, C4, _, fun i => if i = pn then true else ov i, by omega, by omega, by go_num, HD9.out, hS.1, hS.2.1, hS.2.2.1, by show S2.s + 1 ≤ _; have := hS.2.2.2.1; omega, hS.2.2.2.2.1, fun i hi => ?_, HRA9.out, HRO9.out, HWS9.out, HX9.out, HC9.out, HSZ9.out, HB9.out⟩
                    have hi' : (if i = pn then true else ov i) = false := hi
                    have hip : i ≠ pn := by intro e; rw [if_pos e] at hi'; cases hi'
                    rw [if_neg hip] at hi'
                    show addW S2.W pn (fill bs) (i : Int) = []
                    unfold addW
                    rw [if_neg (by omega)]
                    exact hS.2.2.2.2.2 i hi'
                  case measure => simp [intOf]; omega
                · have hge10 : (10 : Int) ≤ q := by omega
                  clear hlt2
                  obtain ⟨kh, hkh⟩ : ∃ kh, kh = ks.take 30 := ⟨_, rfl⟩
                  have hkl30 : kh.length = min ks.length 30 := by rw [hkh, List.length_take]; omega
                  have hmin : min (nk : Int) 30 = (kh.length : Int) := by rw [HNK.out]; omega
                  have hkw : KpS (fun b => b < w.heap.size) wr ak kh := by
                    rw [hkh]
                    exact (HK.out.mv (F := fun b => w.heap.size ≤ b) ⟨HB.out.os, HB.out.tape, HB.out.output, HB.out.size, fun i hi hn => HB.out.block i (by omega)⟩ (fun b hb => by omega)).front 30
                  have HKC := hid (keeps_any _ ak nk ck kh wr hkw hmin hkl.1 (by unfold maxLen; omega))
                  have hk1000 : Hid (kh.length ≤ 1000) := hid (by omega)
                  clear hkh hkl30 hmin hkw
                  go_wp2_with fail
                  refine HKC.out.mono ?_
                  rintro e w10 ⟨ax, cx, rfl, hkx, hb10⟩
                  have hd10 := HD.out.below hb10
                  have HCR := hid (dv_crash hd10 _ ax cx kh hkx (fun b hb => HD.out.new hb) (by omega) hk1000.out)
                  have HDRY : Hid (∀ i, i < 8 → ov i = false → pg (crashAll S2 kh).2.1 i = rd S1 i) := hid (fun i hi ho => by
                    rw [crash_dry hd10 kh hi (HS.out.2.2.2.2.2 i ho), HS.out.2.2.2.2.1]
                    unfold rd
                    rw [HS1.out.2.2.2.2.2]
                    rfl)
                  have HB10 := hid (HB.out.trans (hb10.mono HB.out.size))
                  have HRA10 := hid (row_below HRA.out hb10)
                  have HRO10 := hid (row_below HRO.out hb10)
                  have HWS10 : Hid (∀ i, i < 8 → ∃ a c, vals[i]? = some (.slice a 256 c) ∧ Sl (fun b => (A < b ∧ C1 b = 0) ∧ b < O) w10 a (rd S1 i)) := hid (fun i hi => by
                    obtain ⟨a, c, h1, h2⟩ := HWS.out i hi
                    exact ⟨a, c, h1, h2.below hb10⟩)
                  have HCA3 : Hid (C3 A = 0) := hid (by rw [HX.out A (by have := HA6.out; have := HOs.out; omega)]; exact HCA.out)
                  have HCO3 : Hid (C3 O = 0) := hid (by rw [HX.out O HOs.out]; exact HCO.out)
                  have HCW3 : Hid (∀ b, (A < b ∧ C1 b = 0) ∧ b < O → C3 b = 0) := hid (fun b hb => by rw [HX.out b (by have := HOs.out; omega)]; exact hb.1.2)
                  clear hkx hb10 hd10 HKC HD HB HRA HRO HWS
                  go_wp2_with fail
                  refine HCR.out.mono ?_
                  rintro e w11 ⟨rfl, hd11, hm11⟩
                  have HPW := hid (dv_power hd11)
                  have HB11 := hid (HB10.out.trans (hm11.below HB10.out.size fun b hb => HC3.out b hb))
                  have HRA11 := hid (hm11.row HRA10.out (fun h => h HCA3.out))
                  have HRO11 := hid (hm11.row HRO10.out (fun h => h HCO3.out))
                  have HWS11 : Hid (∀ i, i < 8 → ∃ a c, vals[i]? = some (.slice a 256 c) ∧ Sl (fun b => (A < b ∧ C1 b = 0) ∧ b < O) w11 a (rd S1 i)) := hid (fun i hi => by
                    obtain ⟨a, c, h1, h2⟩ := HWS10.out i hi
                    exact ⟨a, c, h1, h2.mv hm11 fun b hb h => h (HCW3.out b hb)⟩)
                  clear hd11 hm11 HCR HB10 HRA10 HRO10 HWS10
                  go_wp2_with fail
                  refine HPW.out.mono ?_
                  rintro e w12 ⟨rfl, hd12, hm12⟩
                  have HB12 := hid (HB11.out.trans (hm12.below HB11.out.size fun b hb => HC3.out b hb))
                  have HRA12 := hid (hm12.row HRA11.out (fun h => h HCA3.out))
                  have HRO12 := hid (hm12.row HRO11.out (fun h => h HCO3.out))
                  have HWS12 : Hid (∀ i, i < 8 → ∃ a c, vals[i]? = some (.slice a 256 c) ∧ Sl (fun b => (A < b ∧ C1 b = 0) ∧ b < O) w12 a (rd S1 i)) := hid (fun i hi => by
                    obtain ⟨a, c, h1, h2⟩ := HWS11.out i hi
                    exact ⟨a, c, h1, h2.mv hm12 fun b hb h => h (HCW3.out b hb)⟩)
                  obtain ⟨S4, hS4⟩ : ∃ S4 : St, S4 = { on := true, armed := false, left := 0, B := (crashAll S2 kh).2.1, W := fun _ => [], r := S2.r, s := S2.s, t := S2.t } := ⟨_, rfl⟩
                  have hd12' : Dv C3 w12 g 8 0 S4 := by rw [hS4]; exact hd12
                  have HD12 := hid hd12'
                  have HS4 : Hid (S4.on = true ∧ S4.r ≤ 8 ∧ ∀ i, i < 8 → ov i = false → rd S4 i = rd S1 i) := hid (by
                    rw [hS4]
                    exact ⟨rfl, HS.out.2.2.1, fun i hi ho => HDRY.out i hi ho⟩)
                  clear hd12 hd12' hm12 hS4 HPW HB11 HRA11 HRO11 HWS11 HDRY hk1000
                  go_wp2_with fail
                  go_loopw [17] (fun i wr => ∃ (k : Nat) (r : Int), k ≤ 8 ∧ i = .int .i64 (k : Int) ∧ r ≤ 8 + (k : Int) ∧ Dv C3 wr g 8 0 { S4 with r := r } ∧ wr.heap[A]? = some (.cells vals 61 (0, 0)) ∧ wr.heap[O]? = some (.cells (bools ov) 62 (0, 0)) ∧
                    (∀ i, i < 8 → ∃ a c, vals[i]? = some (.slice a 256 c) ∧ Sl (fun b => (A < b ∧ C1 b = 0) ∧ b < O) wr a (rd S1 i)) ∧ Below w.heap.size w wr) (fun i _ => 8 - (intOf i).toNat)
                  case atStart => exact ⟨0, S4.r, Nat.zero_le _, rfl, HS4.out.2.1, HD12.out, HRA12.out, HRO12.out, HWS12.out, HB12.out⟩
                  case round =>
                    obtain ⟨z, r, hz, rfl, hr, hd, hrA, hrO, hws, hb⟩ := hrel
                    have HD := hid hd
                    have HB := hid hb
                    have HRA := hid hrA
                    have HRO := hid hrO
                    have HWS := hid hws
                    clear HD12 HRA12 HRO12 HWS12 HB12
                    by_cases hz8 : (z : Int) < 8
                    · have HR := hid (dv_read hd z (by omega) HS4.out.1 (by decide) (by show r ≤ 1000000; omega))
                      have HRL := hid (rd_len hd (k := z) (by omega))
                      clear hd hrA hrO hws hb
                      go_wp2_with fail
                      refine HR.out.mono ?_
                      rintro e w13 ⟨v, rfl, hv, hd13, hm13⟩
                      have hrA13 := hm13.row HRA.out (fun h => h HCA3.out)
                      have hrO13 := hm13.row HRO.out (fun h => h HCO3.out)
                      obtain ⟨aw, cw, hvw, hslw⟩ := HWS.out z (by omega)
                      have hslw13 := hslw.mv hm13 fun b hb h => h (HCW3.out b hb)
                      have hcA : w13.cell? ⟨A, z, none⟩ = some (.slice aw 256 cw) := by rw [cell_of_row w13 A z _ _ _ hrA13]; exact hvw
                      have hcO : w13.cell? ⟨O, z, none⟩ = some (.bool (ov z)) := by rw [cell_of_row w13 O z _ _ _ hrO13]; exact bools_get ov (by omega)
                      have hlen : (rd { S4 with r := r } z).length = 256 := HRL.out
                      obtain ⟨a13, c13, rfl, _, _, _, hsl13⟩ := hv.sl
                      rw [hlen]
                      have HB13 := hid (HB.out.trans (hm13.below HB.out.size fun b hb => HC3.out b hb))
                      have HRA13 := hid hrA13
                      have HRO13 := hid hrO13
                      have HWS13 : Hid (∀ i, i < 8 → ∃ a c, vals[i]? = some (.slice a 256 c) ∧ Sl (fun b => (A < b ∧ C1 b = 0) ∧ b < O) w13 a (rd S1 i)) := hid (fun i hi => by
                        obtain ⟨a, c, h1, h2⟩ := HWS.out i hi
                        exact ⟨a, c, h1, h2.mv hm13 fun b hb h => h (HCW3.out b hb)⟩)
                      have HD13 : Hid (Dv C3 w13 g 8 0 { S4 with r := r + 1 }) := hid hd13
                      have HSL13 : Hid (Sl (fun b => wr.heap.size ≤ b) w13 a13 (rd S4 z)) := hid hsl13
                      have HSLW13 := hid hslw13
                      have hlen4 : Hid ((rd S4 z).length = 256) := hid hlen
                      clear hv hd13 hm13 hrA13 hrO13 hvw hslw hslw13 hlen hsl13 HR HRL
                      cases hov : ov z with
                      | true =>
                        rw [hov] at hcO
                        clear hov
                        go_wp2_with fail
                        go_roundw
                        case rel => exact ⟨z + 1, r + 1, by omega, by go_num, by omega, HD13.out, HRA13.out, HRO13.out, HWS13.out, HB13.out⟩
                        case measure => simp [intOf]; omega
                      | false =>
                        have hre := HS4.out.2.2 z (by omega) hov
                        have hlen1 : (rd S1 z).length = 256 := by rw [← hre]; exact hlen4.out
                        have HSM := hid (same_any _ _ a13 aw c13 cw (rd S4 z) (rd S1 z) w13 HSL13.out HSLW13.out (by rw [hlen4.out]; omega))
                        rw [decide_eq_true hre, hlen4.out, hlen1] at HSM
                        rw [hov] at hcO
                        clear hov hre hlen1
                        go_wp2_with fail
                        refine HSM.out.mono ?_
                        rintro e w14 ⟨rfl, hb14⟩
                        have HD14 := hid (HD13.out.below hb14)
                        have HRA14 := hid (row_below HRA13.out hb14)
                        have HRO14 := hid (row_below HRO13.out hb14)
                        have HWS14 : Hid (∀ i, i < 8 → ∃ a c, vals[i]? = some (.slice a 256 c) ∧ Sl (fun b => (A < b ∧ C1 b = 0) ∧ b < O) w14 a (rd S1 i)) := hid (fun i hi => by
                          obtain ⟨a, c, h1, h2⟩ := HWS13.out i hi
                          exact ⟨a, c, h1, h2.below hb14⟩)
                        have HB14 := hid (HB13.out.trans (hb14.mono HB13.out.size))
                        clear hb14 HSM hcA hcO
                        go_wp2_with fail
                        go_roundw
                        case rel => exact ⟨z + 1, r + 1, by omega, by go_num, by omega, HD14.out, HRA14.out, HRO14.out, HWS14.out, HB14.out⟩
                        case measure => simp [intOf]; omega
                    · have hgez : (8 : Int) ≤ z := by omega
                      have HKN := hid (known_any wr)
                      clear hz8 hd hrA hrO hws hb
                      go_wp2_with fail
                      refine HKN.out.mono ?_
                      rintro e w15 ⟨rfl, hb15⟩
                      have HB15 := hid (HB.out.trans (hb15.mono HB.out.size))
                      clear hb15
                      go_wp2_with fail
                      go_ret
                      exact ⟨rfl, HB15.out⟩
              · have hgem : (nm : Int) ≤ q := by omega
                clear hlt
                obtain ⟨kh, hkh⟩ : ∃ kh, kh = ks.take 30 := ⟨_, rfl⟩
                have hkl30 : kh.length = min ks.length 30 := by rw [hkh, List.length_take]; omega
                have hmin : min (nk : Int) 30 = (kh.length : Int) := by rw [HNK.out]; omega
                have hkw : KpS (fun b => b < w.heap.size) wr ak kh := by
                  rw [hkh]
                  exact (HK.out.mv (F := fun b => w.heap.size ≤ b) ⟨HB.out.os, HB.out.tape, HB.out.output, HB.out.size, fun i hi hn => HB.out.block i (by omega)⟩ (fun b hb => by omega)).front 30
                have HKC := hid (keeps_any _ ak nk ck kh wr hkw hmin hkl.1 (by unfold maxLen; omega))
                have hk1000 : Hid (kh.length ≤ 1000) := hid (by omega)
                clear hkh hkl30 hmin hkw
                go_wp2_with fail
                refine HKC.out.mono ?_
                rintro e w10 ⟨ax, cx, rfl, hkx, hb10⟩
                have hd10 := HD.out.below hb10
                have HCR := hid (dv_crash hd10 _ ax cx kh hkx (fun b hb => HD.out.new hb) (by omega) hk1000.out)
                have HDRY : Hid (∀ i, i < 8 → ov i = false → pg (crashAll S2 kh).2.1 i = rd S1 i) := hid (fun i hi ho => by
                  rw [crash_dry hd10 kh hi (HS.out.2.2.2.2.2 i ho), HS.out.2.2.2.2.1]
                  unfold rd
                  rw [HS1.out.2.2.2.2.2]
                  rfl)
                have HB10 := hid (HB.out.trans (hb10.mono HB.out.size))
                have HRA10 := hid (row_below HRA.out hb10)
                have HRO10 := hid (row_below HRO.out hb10)
                have HWS10 : Hid (∀ i, i < 8 → ∃ a c, vals[i]? = some (.slice a 256 c) ∧ Sl (fun b => (A < b ∧ C1 b = 0) ∧ b < O) w10 a (rd S1 i)) := hid (fun i hi => by
                  obtain ⟨a, c, h1, h2⟩ := HWS.out i hi
                  exact ⟨a, c, h1, h2.below hb10⟩)
                have HCA3 : Hid (C3 A = 0) := hid (by rw [HX.out A (by have := HA6.out; have := HOs.out; omega)]; exact HCA.out)
                have HCO3 : Hid (C3 O = 0) := hid (by rw [HX.out O HOs.out]; exact HCO.out)
                have HCW3 : Hid (∀ b, (A < b ∧ C1 b = 0) ∧ b < O → C3 b = 0) := hid (fun b hb => by rw [HX.out b (by have := HOs.out; omega)]; exact hb.1.2)
                clear hkx hb10 hd10 HKC HD HB HRA HRO HWS
                go_wp2_with fail
                refine HCR.out.mono ?_
                rintro e w11 ⟨rfl, hd11, hm11⟩
                have HPW := hid (dv_power hd11)
                have HB11 := hid (HB10.out.trans (hm11.below HB10.out.size fun b hb => HC3.out b hb))
                have HRA11 := hid (hm11.row HRA10.out (fun h => h HCA3.out))
                have HRO11 := hid (hm11.row HRO10.out (fun h => h HCO3.out))
                have HWS11 : Hid (∀ i, i < 8 → ∃ a c, vals[i]? = some (.slice a 256 c) ∧ Sl (fun b => (A < b ∧ C1 b = 0) ∧ b < O) w11 a (rd S1 i)) := hid (fun i hi => by
                  obtain ⟨a, c, h1, h2⟩ := HWS10.out i hi
                  exact ⟨a, c, h1, h2.mv hm11 fun b hb h => h (HCW3.out b hb)⟩)
                clear hd11 hm11 HCR HB10 HRA10 HRO10 HWS10
                go_wp2_with fail
                refine HPW.out.mono ?_
                rintro e w12 ⟨rfl, hd12, hm12⟩
                have HB12 := hid (HB11.out.trans (hm12.below HB11.out.size fun b hb => HC3.out b hb))
                have HRA12 := hid (hm12.row HRA11.out (fun h => h HCA3.out))
                have HRO12 := hid (hm12.row HRO11.out (fun h => h HCO3.out))
                have HWS12 : Hid (∀ i, i < 8 → ∃ a c, vals[i]? = some (.slice a 256 c) ∧ Sl (fun b => (A < b ∧ C1 b = 0) ∧ b < O) w12 a (rd S1 i)) := hid (fun i hi => by
                  obtain ⟨a, c, h1, h2⟩ := HWS11.out i hi
                  exact ⟨a, c, h1, h2.mv hm12 fun b hb h => h (HCW3.out b hb)⟩)
                obtain ⟨S4, hS4⟩ : ∃ S4 : St, S4 = { on := true, armed := false, left := 0, B := (crashAll S2 kh).2.1, W := fun _ => [], r := S2.r, s := S2.s, t := S2.t } := ⟨_, rfl⟩
                have hd12' : Dv C3 w12 g 8 0 S4 := by rw [hS4]; exact hd12
                have HD12 := hid hd12'
                have HS4 : Hid (S4.on = true ∧ S4.r ≤ 8 ∧ ∀ i, i < 8 → ov i = false → rd S4 i = rd S1 i) := hid (by
                  rw [hS4]
                  exact ⟨rfl, HS.out.2.2.1, fun i hi ho => HDRY.out i hi ho⟩)
                clear hd12 hd12' hm12 hS4 HPW HB11 HRA11 HRO11 HWS11 HDRY hk1000
                go_wp2_with fail
                go_loopw [17] (fun i wr => ∃ (k : Nat) (r : Int), k ≤ 8 ∧ i = .int .i64 (k : Int) ∧ r ≤ 8 + (k : Int) ∧ Dv C3 wr g 8 0 { S4 with r := r } ∧ wr.heap[A]? = some (.cells vals 61 (0, 0)) ∧ wr.heap[O]? = some (.cells (bools ov) 62 (0, 0)) ∧
                  (∀ i, i < 8 → ∃ a c, vals[i]? = some (.slice a 256 c) ∧ Sl (fun b => (A < b ∧ C1 b = 0) ∧ b < O) wr a (rd S1 i)) ∧ Below w.heap.size w wr) (fun i _ => 8 - (intOf i).toNat)
                case atStart => exact ⟨0, S4.r, Nat.zero_le _, rfl, HS4.out.2.1, HD12.out, HRA12.out, HRO12.out, HWS12.out, HB12.out⟩
                case round =>
                  obtain ⟨z, r, hz, rfl, hr, hd, hrA, hrO, hws, hb⟩ := hrel
                  have HD := hid hd
                  have HB := hid hb
                  have HRA := hid hrA
                  have HRO := hid hrO
                  have HWS := hid hws
                  clear HD12 HRA12 HRO12 HWS12 HB12
                  by_cases hz8 : (z : Int) < 8
                  · have HR := hid (dv_read hd z (by omega) HS4.out.1 (by decide) (by show r ≤ 1000000; omega))
                    have HRL := hid (rd_len hd (k := z) (by omega))
                    clear hd hrA hrO hws hb
                    go_wp2_with fail
                    refine HR.out.mono ?_
                    rintro e w13 ⟨v, rfl, hv, hd13, hm13⟩
                    have hrA13 := hm13.row HRA.out (fun h => h HCA3.out)
                    have hrO13 := hm13.row HRO.out (fun h => h HCO3.out)
                    obtain ⟨aw, cw, hvw, hslw⟩ := HWS.out z (by omega)
                    have hslw13 := hslw.mv hm13 fun b hb h => h (HCW3.out b hb)
                    have hcA : w13.cell? ⟨A, z, none⟩ = some (.slice aw 256 cw) := by rw [cell_of_row w13 A z _ _ _ hrA13]; exact hvw
                    have hcO : w13.cell? ⟨O, z, none⟩ = some (.bool (ov z)) := by rw [cell_of_row w13 O z _ _ _ hrO13]; exact bools_get ov (by omega)
                    have hlen : (rd { S4 with r := r } z).length = 256 := HRL.out
                    obtain ⟨a13, c13, rfl, _, _, _, hsl13⟩ := hv.sl
                    rw [hlen]
                    have HB13 := hid (HB.out.trans (hm13.below HB.out.size fun b hb => HC3.out b hb))
                    have HRA13 := hid hrA13
                    have HRO13 := hid hrO13
                    have HWS13 : Hid (∀ i, i < 8 → ∃ a c, vals[i]? = some (.slice a 256 c) ∧ Sl (fun b => (A < b ∧ C1 b = 0) ∧ b < O) w13 a (rd S1 i)) := hid (fun i hi => by
                      obtain ⟨a, c, h1, h2⟩ := HWS.out i hi
                      exact ⟨a, c, h1, h2.mv hm13 fun b hb h => h (HCW3.out b hb)⟩)
                    have HD13 : Hid (Dv C3 w13 g 8 0 { S4 with r := r + 1 }) := hid hd13
                    have HSL13 : Hid (Sl (fun b => wr.heap.size ≤ b) w13 a13 (rd S4 z)) := hid hsl13
                    have HSLW13 := hid hslw13
                    have hlen4 : Hid ((rd S4 z).length = 256) := hid hlen
                    clear hv hd13 hm13 hrA13 hrO13 hvw hslw hslw13 hlen hsl13 HR HRL
                    cases hov : ov z with
                    | true =>
                      rw [hov] at hcO
                      clear hov
                      go_wp2_with fail
                      go_roundw
                      case rel => exact ⟨z + 1, r + 1, by omega, by go_num, by omega, HD13.out, HRA13.out, HRO13.out, HWS13.out, HB13.out⟩
                      case measure => simp [intOf]; omega
                    | false =>
                      have hre := HS4.out.2.2 z (by omega) hov
                      have hlen1 : (rd S1 z).length = 256 := by rw [← hre]; exact hlen4.out
                      have HSM := hid (same_any _ _ a13 aw c13 cw (rd S4 z) (rd S1 z) w13 HSL13.out HSLW13.out (by rw [hlen4.out]; omega))
                      rw [decide_eq_true hre, hlen4.out, hlen1] at HSM
                      rw [hov] at hcO
                      clear hov hre hlen1
                      go_wp2_with fail
                      refine HSM.out.mono ?_
                      rintro e w14 ⟨rfl, hb14⟩
                      have HD14 := hid (HD13.out.below hb14)
                      have HRA14 := hid (row_below HRA13.out hb14)
                      have HRO14 := hid (row_below HRO13.out hb14)
                      have HWS14 : Hid (∀ i, i < 8 → ∃ a c, vals[i]? = some (.slice a 256 c) ∧ Sl (fun b => (A < b ∧ C1 b = 0) ∧ b < O) w14 a (rd S1 i)) := hid (fun i hi => by
                        obtain ⟨a, c, h1, h2⟩ := HWS13.out i hi
                        exact ⟨a, c, h1, h2.below hb14⟩)
                      have HB14 := hid (HB13.out.trans (hb14.mono HB13.out.size))
                      clear hb14 HSM hcA hcO
                      go_wp2_with fail
                      go_roundw
                      case rel => exact ⟨z + 1, r + 1, by omega, by go_num, by omega, HD14.out, HRA14.out, HRO14.out, HWS14.out, HB14.out⟩
                      case measure => simp [intOf]; omega
                  · have hgez : (8 : Int) ≤ z := by omega
                    have HKN := hid (known_any wr)
                    clear hz8 hd hrA hrO hws hb
                    go_wp2_with fail
                    refine HKN.out.mono ?_
                    rintro e w15 ⟨rfl, hb15⟩
                    have HB15 := hid (HB.out.trans (hb15.mono HB.out.size))
                    clear hb15
                    go_wp2_with fail
                    go_ret
                    exact ⟨rfl, HB15.out⟩
    · have hge : (nl : Int) ≤ k := by omega
      clear hlt
      have hS := HS.out
      have HSY := hid (dv_sync HD.out hS.1 (by rw [hS.2.1]; rfl) (by omega) (by rw [hS.2.2.2.2]; decide))
      clear hS
      go_wp2_with fail
      refine HSY.out.mono ?_
      rintro e w2 ⟨rfl, ⟨B1, hd2, hB2⟩, hm2⟩
      have HB2 := hid (HB.out.trans (hm2.below HB.out.size fun b hb => HC1.out b hb))
      obtain ⟨S1, hS1⟩ : ∃ S1, S1 = synced S B1 := ⟨_, rfl⟩
      rw [← hS1] at hd2
      have HS1 : Hid (S1.on = true ∧ S1.armed = false ∧ S1.r = 0 ∧ S1.s ≤ 30 ∧ S1.t = 1 ∧ S1.W = fun _ => []) := hid (by
        have hS := HS.out
        rw [hS1]
        refine ⟨hS.1, hS.2.1, hS.2.2.1, by show S.s ≤ 30; rw [hS.2.2.2.1]; omega, by show S.t + 1 = 1; rw [hS.2.2.2.2]; rfl, rfl⟩)
      have HD2 := hid hd2
      obtain ⟨w3, hw3⟩ : ∃ w3, w3 = w2.alloc (.cells #[.slice none 0 0, .slice none 0 0, .slice none 0 0, .slice none 0 0, .slice none 0 0, .slice none 0 0, .slice none 0 0, .slice none 0 0] 61) := ⟨_, rfl⟩
      have hb3 : Below w2.heap.size w2 w3 := by rw [hw3]; exact (Below.refl _ _).alloc (Nat.le_refl _) _
      have hrow3 : w3.heap[w2.heap.size]? = some (.cells #[.slice none 0 0, .slice none 0 0, .slice none 0 0, .slice none 0 0, .slice none 0 0, .slice none 0 0, .slice none 0 0, .slice none 0 0] 61 (0, 0)) := by rw [hw3]; exact heap_alloc_new w2 _
      have HD3 := hid (hd2.below hb3)
      have HCA : Hid (C1 w2.heap.size = 0) := hid (hd2.new (Nat.le_refl _))
      have HWA : Hid (w.heap.size ≤ w2.heap.size) := hid HB2.out.size
      have HB3 : Hid (Below w.heap.size w w3) := hid (HB2.out.trans (hb3.mono HB2.out.size))
      have HW3 := hid hw3
      have HR3 := hid hrow3
      clear hS1 hd2 hB2 hm2 hw3 hb3 hrow3 HSY HD HB HS HD2 HB2
      obtain ⟨A, hA⟩ : ∃ A, A = w2.heap.size := ⟨_, rfl⟩
      go_wp2_with fail
      rw [← hA] at HR3 HCA HWA ⊢
      rw [← HW3.out]
      clear hA
      go_loopw [11] (fun i wr => ∃ (k : Nat) (vals : Array Value), k ≤ 8 ∧ i = .int .i64 (k : Int) ∧ Dv C1 wr g 8 0 { S1 with r := (k : Int) } ∧ wr.heap[A]? = some (.cells vals 61 (0, 0)) ∧ vals.size = 8 ∧
        (∀ i, i < k → ∃ a c, vals[i]? = some (.slice a 256 c) ∧ Sl (fun b => A < b ∧ C1 b = 0) wr a (rd S1 i)) ∧ Below w.heap.size w wr) (fun i _ => 8 - (intOf i).toNat)
      case atStart =>
        refine ⟨0, _, Nat.zero_le _, rfl, ?_, HR3.out, rfl, fun i hi => absurd hi (Nat.not_lt_zero _), HB3.out⟩
        have h := HD3.out
        have h2 := HS1.out.2.2.1
        obtain ⟨on, armed, left, B, W, r, s, t⟩ := S1
        simp only at h2
        subst h2
        exact h
      case round =>
        obtain ⟨j, vals, hj, rfl, hdj, hrow, hvs, hwas, hbj⟩ := hrel
        have HDJ := hid hdj
        have HROW := hid hrow
        have HWAS := hid hwas
        have HBJ := hid hbj
        have HVS := hid hvs
        by_cases hj8 : (j : Int) < 8
        · have HR := hid (dv_read hdj j (by omega) HS1.out.1 (by decide) (by show (j : Int) ≤ 1000000; omega))
          have HRL := hid (rd_len hdj (k := j) (by omega))
          clear hdj hrow hwas hbj hvs
          go_wp2_with fail
          refine HR.out.mono ?_
          rintro e w4 ⟨v, rfl, hv, hd4, hm4⟩
          have hrow4 := hm4.row HROW.out (fun h => h HCA.out)
          have hA4 : A < wr.heap.size := row_lt HROW.out
          obtain ⟨old, hold⟩ : ∃ old, vals[j]? = some old := ⟨vals[j]'(by rw [HVS.out]; omega), Array.getElem?_eq_getElem _⟩
          have hcell4 : w4.cell? ⟨A, j, none⟩ = some old := by rw [cell_of_row w4 A j _ _ _ hrow4]; exact hold
          have hfz4 : w4.frozen? ⟨A, j, none⟩ = false := frozen_of_row w4 A j _ _ hrow4
          have hlen : (rd { S1 with r := (j : Int) } j).length = 256 := HRL.out
          obtain ⟨a4, c4, rfl, _, _, _, hsl4⟩ := hv.sl
          have HSL4 : Hid (Sl (fun b => wr.heap.size ≤ b) w4 a4 (rd S1 j)) := hid hsl4
          rw [hlen]
          have HD4 := hid hd4
          have HM4 := hid hm4
          have HROW4 := hid hrow4
          clear hv hd4 hm4 hrow4 hold hsl4 hlen HR
          go_wp2_with fail
          have hg5 : w4.grownBy (w4.setCell ⟨A, j, none⟩ (.slice a4 256 c4)) (some A) := grown_setCell (grown_refl _ _) (.inl rfl) _
          have hm5 : Mv (fun b => b = A) w4 (w4.setCell ⟨A, j, none⟩ (.slice a4 256 c4)) := Mv.of_grown hg5 fun g h _ => by cases h; rfl
          have HD5 := hid (HD4.out.keep hm5 (fun b hb => by rw [hb]; exact HCA.out))
          have HROW5 : Hid ((w4.setCell ⟨A, j, none⟩ (.slice a4 256 c4)).heap[A]? = some (.cells (vals.setIfInBounds j (.slice a4 256 c4)) 61 (0, 0))) := hid (row_set HROW4.out j _ rfl)
          have HB5 : Hid (Below w.heap.size w (w4.setCell ⟨A, j, none⟩ (.slice a4 256 c4))) := hid ((HBJ.out.trans (HM4.out.below HBJ.out.size fun b hb => HC1.out b hb)).trans (grown_is_below hg5 HWA.out (Nat.le_trans HBJ.out.size HM4.out.size)))
          have HWAS5 : Hid (∀ i, i < j + 1 → ∃ a c, (vals.setIfInBounds j (.slice a4 256 c4))[i]? = some (.slice a 256 c) ∧ Sl (fun b => A < b ∧ C1 b = 0) (w4.setCell ⟨A, j, none⟩ (.slice a4 256 c4)) a (rd S1 i)) := hid (fun i hi => by
            by_cases hij : i = j
            · subst hij
              refine ⟨a4, c4, by rw [Array.getElem?_setIfInBounds_self_of_lt (by rw [HVS.out]; omega)], ?_⟩
              refine (HSL4.out.mono fun b hb _ => (⟨by omega, ?_⟩ : A < b ∧ C1 b = 0)).mv hm5 fun b hb h => by omega
              exact HDJ.out.new hb
            · obtain ⟨a, c, h1, h2⟩ := HWAS.out i (by omega)
              refine ⟨a, c, by rw [Array.getElem?_setIfInBounds_ne (fun e => hij e.symm)]; exact h1, ?_⟩
              exact (h2.mv HM4.out fun b hb h => h hb.2).mv hm5 fun b hb h => by omega)
          obtain ⟨w5, hw5⟩ : ∃ w5, w5 = w4.setCell ⟨A, j, none⟩ (.slice a4 256 c4) := ⟨_, rfl⟩
          rw [← hw5] at HD5 HROW5 HB5 HWAS5 ⊢
          clear hw5 hg5 hm5 hcell4 hfz4
          go_roundw
          case rel => exact ⟨j + 1, _, by omega, by go_num, HD5.out, HROW5.out, by rw [Array.size_setIfInBounds]; exact HVS.out, HWAS5.out, HB5.out⟩
          case measure => simp [intOf]; omega
        · have hge8 : (8 : Int) ≤ j := by omega
          have HWAS8 : Hid (∀ i, i < 8 → ∃ a c, vals[i]? = some (.slice a 256 c) ∧ Sl (fun b => (A < b ∧ C1 b = 0) ∧ b < wr.heap.size) wr a (rd S1 i)) := hid (fun i hi => by
            obtain ⟨a, c, h1, h2⟩ := hwas i (by omega)
            exact ⟨a, c, h1, h2.mono fun b h1 h2 => ⟨h1, h2⟩⟩)
          obtain ⟨w6, hw6⟩ : ∃ w6, w6 = wr := ⟨_, rfl⟩
          rw [← hw6] at HWAS8 HDJ HROW HBJ hdj hbj ⊢
          have hA6 : A < w6.heap.size := row_lt HROW.out
          have HA6 := hid hA6
          obtain ⟨w7, hw7⟩ : ∃ w7, w7 = w6.alloc (.cells #[.bool false, .bool false, .bool false, .bool false, .bool false, .bool false, .bool false, .bool false] 62) := ⟨_, rfl⟩
          have hb7 : Below w6.heap.size w6 w7 := by rw [hw7]; exact (Below.refl _ _).alloc (Nat.le_refl _) _
          have hrow7 : w7.heap[w6.heap.size]? = some (.cells (bools fun _ => false) 62 (0, 0)) := by rw [hw7]; exact heap_alloc_new w6 _
          have HD7 := hid (hdj.below hb7)
          have HCO : Hid (C1 w6.heap.size = 0) := hid (hdj.new (Nat.le_refl _))
          have HWO : Hid (w.heap.size ≤ w6.heap.size) := hid hbj.size
          have HB7 : Hid (Below w.heap.size w w7) := hid (hbj.trans (hb7.mono hbj.size))
          have HRA7 : Hid (w7.heap[A]? = some (.cells vals 61 (0, 0))) := hid (row_below HROW.out hb7)
          have HW7 := hid hw7
          have HR7 := hid hrow7
          have HWAS7 : Hid (∀ i, i < 8 → ∃ a c, vals[i]? = some (.slice a 256 c) ∧ Sl (fun b => (A < b ∧ C1 b = 0) ∧ b < w6.heap.size) w7 a (rd S1 i)) := hid (fun i hi => by
            obtain ⟨a, c, h1, h2⟩ := HWAS8.out i hi
            exact ⟨a, c, h1, h2.below hb7⟩)
          clear hw6 hw7 hb7 hrow7 hdj hbj hrow hwas hvs HWAS8 HWAS HDJ HBJ HROW hA6 HD3 HB3 HW3 HR3 hj8
          obtain ⟨O, hO⟩ : ∃ O, O = w6.heap.size := ⟨_, rfl⟩
          go_wp2_with fail
          rw [← hO] at HR7 HCO HWO HA6 HWAS7 ⊢
          rw [← HW7.out]
          have HOs : Hid (O < w7.heap.size) := hid (row_lt HR7.out)
          clear hO
          go_loopw [13] (fun i wr => ∃ (k : Nat) (C' : Nat → Nat) (S2 : St) (ov : Nat → Bool), k ≤ nm ∧ k ≤ 10 ∧ i = .int .i64 (k : Int) ∧ Dv C' wr g 8 k S2 ∧ S2.on = true ∧ S2.armed = false ∧ S2.r ≤ 8 ∧ S2.s ≤ 30 + (k : Int) ∧ S2.B = S1.B ∧ (∀ i, ov i = false → S2.W (i : Int) = []) ∧
            wr.heap[A]? = some (.cells vals 61 (0, 0)) ∧ wr.heap[O]? = some (.cells (bools ov) 62 (0, 0)) ∧ (∀ i, i < 8 → ∃ a c, vals[i]? = some (.slice a 256 c) ∧ Sl (fun b => (A < b ∧ C1 b = 0) ∧ b < O) wr a (rd S1 i)) ∧
            (∀ b, b < w7.heap.size → C' b = C1 b) ∧ (∀ b, C' b ≠ 0 → w.heap.size ≤ b) ∧ w7.heap.size ≤ wr.heap.size ∧ Below w.heap.size w wr) (fun i _ => nm - (intOf i).toNat)
          case atStart => exact ⟨0, C1, _, fun _ => false, Nat.zero_le _, Nat.zero_le _, rfl, HD7.out, HS1.out.1, HS1.out.2.1, by show (j : Int) ≤ 8; omega, by show S1.s ≤ 30 + 0; have := HS1.out.2.2.2.1; omega, rfl, fun i _ => by show S1.W (i : Int) = []; rw [HS1.out.2.2.2.2.2], HRA7.out, HR7.out, HWAS7.out, fun _ _ => rfl, HC1.out, Nat.le_refl _, HB7.out⟩
          case round =>
            obtain ⟨q, C3, S2, ov, hq1, hq2, rfl, hd, hon, harm, hSr, hSs, hSB, hSW, hrA, hrO, hwas, hext, hC3, hsz, hb⟩ := hrel
            have HD := hid hd
            have HS := hid (And.intro hon (And.intro harm (And.intro hSr (And.intro hSs (And.intro hSB hSW)))))
            have HRA := hid hrA
            have HRO := hid hrO
            have HWS := hid hwas
            have HX := hid hext
            have HC3 := hid hC3
            have HB := hid hb
            have HSZ := hid hsz
            clear hsz hd hon harm hSr hSs hSB hSW hrA hrO hwas hext hC3 hb HD7 HRA7 HR7 HWAS7 HB7 HW7
            by_cases hlt : (q : Int) < nm
            · by_cases hlt2 : (q : Int) < 10
              · rcases HM.out with h0 | ⟨b, o, rfl, hob, hac⟩
                · have := HNM.out; rw [h0] at this; simp at this; omega
                obtain ⟨t, ht⟩ : ∃ t, ms[q]? = some t := ⟨_, List.getElem?_eq_getElem (by rw [← HNM.out]; omega)⟩
                obtain ⟨aB, cB, aK, cK, q0, q1, q2, q3, hs, hp, hcb1, hcb2, hck1, hck2, hkb, hnb⟩ := hac q t ht
                have r1 := (HB.out.cell (cell_lt q1)).trans q1
                have r2 := (HB.out.cell (cell_lt q2)).trans q2
                have hs' : Sl (fun b => b < w.heap.size) w aB t.B := hs
                have HSB := hid (hs'.below HB.out)
                obtain ⟨kd, x, bs, kp⟩ := t
                simp only at r1 r2 HSB hcb1 hcb2 hnb
                clear q0 q1 q2 q3 hs hs' hp hac ht hkb hck1 hck2
                have HF := hid (full_sl _ aB cB bs wr HSB.out (by unfold maxLen at hcb2; omega))
                have hpn := pn_walk x
                have hp8 := pnOf_lt x
                generalize pnOf x = pn at *
                have HP8 := hid hp8
                clear hp8
                go_wp2_with fail
                refine HF.out.mono ?_
                rintro e wf ⟨G, rfl, hsf, hbf⟩
                have hdf := HD.out.below hbf
                have HWr := hid (dv_write hdf pn HP8.out _ _ 256 _ hsf (fun b hb => HD.out.new hb) (fill_len _) HS.out.1 (by rw [HS.out.2.1]; rfl) (by omega) (by have := HS.out.2.2.2.1; omega))
                have HBF : Hid (Below w.heap.size w wf) := hid (HB.out.trans (hbf.mono HB.out.size))
                have HBS : Hid (wr.heap.size ≤ wf.heap.size) := hid hbf.size
                have HRAF := hid (row_below HRA.out hbf)
                have HROF := hid (row_below HRO.out hbf)
                have HWSF : Hid (∀ i, i < 8 → ∃ a c, vals[i]? = some (.slice a 256 c) ∧ Sl (fun b => (A < b ∧ C1 b = 0) ∧ b < O) wf a (rd S1 i)) := hid (fun i hi => by
                  obtain ⟨a, c, h1, h2⟩ := HWS.out i hi
                  exact ⟨a, c, h1, h2.below hbf⟩)
                clear hdf hsf hbf HF HRA HRO HWS r1 r2
                go_wp2_with fail
                refine HWr.out.mono ?_
                rintro e w8 ⟨rfl, ⟨C4, hd8, hx8⟩, hm8⟩
                have hCA : C3 A = 0 := by rw [HX.out A (by have := HA6.out; have := HOs.out; omega)]; exact HCA.out
                have hCO : C3 O = 0 := by rw [HX.out O HOs.out]; exact HCO.out
                have HRA8 := hid (hm8.row HRAF.out (fun h => h hCA))
                have hrO8 := hm8.row HROF.out (fun h => h hCO)
                have hcO : w8.cell? ⟨O, pn, none⟩ = some (.bool (ov pn)) := by rw [cell_of_row w8 O pn _ _ _ hrO8]; exact bools_get ov HP8.out
                have hfO : w8.frozen? ⟨O, pn, none⟩ = false := frozen_of_row w8 O pn _ _ hrO8
                have HRO8 := hid hrO8
                have HD8 := hid hd8
                have HX8 := hid hx8
                have HM8 := hid hm8
                have HCA3 := hid hCA
                have HCO3 := hid hCO
                have hpi : (pn : Int) < 8 ∧ (0 : Int) ≤ pn := by have := HP8.out; omega
                clear hd8 hx8 hm8 hrO8 HWr HRAF HROF hCA hCO
                go_wp2_with fail
                have hg9 : w8.grownBy (w8.setCell ⟨O, pn, none⟩ (.bool true)) (some O) := grown_setCell (grown_refl _ _) (.inl rfl) _
                have hm9 : Mv (fun b => b = O) w8 (w8.setCell ⟨O, pn, none⟩ (.bool true)) := Mv.of_grown hg9 fun g h _ => by cases h; rfl
                have HSZF : Hid (w7.heap.size ≤ wf.heap.size) := hid (Nat.le_trans HSZ.out HBS.out)
                have hCO4 : C4 O = 0 := by rw [HX8.out O (Nat.lt_of_lt_of_le HOs.out HSZF.out)]; exact HCO3.out
                have HD9 := hid (HD8.out.keep hm9 (fun b hb => by rw [hb]; exact hCO4))
                have HRO9 : Hid ((w8.setCell ⟨O, pn, none⟩ (.bool true)).heap[O]? = some (.cells (bools fun i => if i = pn then true else ov i) 62 (0, 0))) := hid (row_set HRO8.out pn _ (bools_set ov HP8.out))
                have HRA9 : Hid ((w8.setCell ⟨O, pn, none⟩ (.bool true)).heap[A]? = some (.cells vals 61 (0, 0))) := hid (hm9.row HRA8.out (by have := HA6.out; omega))
                have HWS9 : Hid (∀ i, i < 8 → ∃ a c, vals[i]? = some (.slice a 256 c) ∧ Sl (fun b => (A < b ∧ C1 b = 0) ∧ b < O) (w8.setCell ⟨O, pn, none⟩ (.bool true)) a (rd S1 i)) := hid (fun i hi => by
                  obtain ⟨a, c, h1, h2⟩ := HWSF.out i hi
                  refine ⟨a, c, h1, (h2.mv HM8.out fun b hb h => h ?_).mv hm9 fun b hb h => by omega⟩
                  rw [HX.out b (by have := HOs.out; omega)]; exact hb.1.2)
                have HB9 : Hid (Below w.heap.size w (w8.setCell ⟨O, pn, none⟩ (.bool true))) := hid ((HBF.out.trans (HM8.out.below HBF.out.size fun b hb => HC3.out b hb)).trans (grown_is_below hg9 HWO.out (Nat.le_trans HBF.out.size HM8.out.size)))
                have HX9 : Hid (∀ b, b < w7.heap.size → C4 b = C1 b) := hid (fun b hb => by rw [HX8.out b (Nat.lt_of_lt_of_le hb HSZF.out)]; exact HX.out b hb)
                have HC9 : Hid (∀ b, C4 b ≠ 0 → w.heap.size ≤ b) := hid (fun b hb => by
                  by_cases hlt : b < wf.heap.size
                  · rw [HX8.out b hlt] at hb; exact HC3.out b hb
                  · have := HBF.out.size; omega)
                have HSZ9 : Hid (w7.heap.size ≤ (w8.setCell ⟨O, pn, none⟩ (.bool true)).heap.size) := hid (Nat.le_trans HSZF.out (Nat.le_trans HM8.out.size hm9.size))
                obtain ⟨w9, hw9⟩ : ∃ w9, w9 = w8.setCell ⟨O, pn, none⟩ (.bool true) := ⟨_, rfl⟩
                rw [← hw9] at HD9 HRO9 HRA9 HWS9 HB9 HSZ9 ⊢
                clear hw9 hg9 hm9 hcO hfO hCO4
                go_roundw
                case rel =>
                  have hS := HS.out
                  refine ⟨q + 1, C4, _, fun i => if i = pn then true else ov i, by omega, by omega, by go_num, HD9.out, hS.1, hS.2.1, hS.2.2.1, by show S2.s + 1 ≤ _; have := hS.2.2.2.1; omega, hS.2.2.2.2.1, fun i hi => ?_, HRA9.out, HRO9.out, HWS9.out, HX9.out, HC9.out, HSZ9.out, HB9.out⟩
                  have hi' : (if i = pn then true else ov i) = false := hi
                  have hip : i ≠ pn := by intro e; rw [if_pos e] at hi'; cases hi'
                  rw [if_neg hip] at hi'
                  show addW S2.W pn (fill bs) (i : Int) = []
                  unfold addW
                  rw [if_neg (by omega)]
                  exact hS.2.2.2.2.2 i hi'
                case measure => simp [intOf]; omega
              · have hge10 : (10 : Int) ≤ q := by omega
                clear hlt2
                obtain ⟨kh, hkh⟩ : ∃ kh, kh = ks.take 30 := ⟨_, rfl⟩
                have hkl30 : kh.length = min ks.length 30 := by rw [hkh, List.length_take]; omega
                have hmin : min (nk : Int) 30 = (kh.length : Int) := by rw [HNK.out]; omega
                have hkw : KpS (fun b => b < w.heap.size) wr ak kh := by
                  rw [hkh]
                  exact (HK.out.mv (F := fun b => w.heap.size ≤ b) ⟨HB.out.os, HB.out.tape, HB.out.output, HB.out.size, fun i hi hn => HB.out.block i (by omega)⟩ (fun b hb => by omega)).front 30
                have HKC := hid (keeps_any _ ak nk ck kh wr hkw hmin hkl.1 (by unfold maxLen; omega))
                have hk1000 : Hid (kh.length ≤ 1000) := hid (by omega)
                clear hkh hkl30 hmin hkw
                go_wp2_with fail
                refine HKC.out.mono ?_
                rintro e w10 ⟨ax, cx, rfl, hkx, hb10⟩
                have hd10 := HD.out.below hb10
                have HCR := hid (dv_crash hd10 _ ax cx kh hkx (fun b hb => HD.out.new hb) (by omega) hk1000.out)
                have HDRY : Hid (∀ i, i < 8 → ov i = false → pg (crashAll S2 kh).2.1 i = rd S1 i) := hid (fun i hi ho => by
                  rw [crash_dry hd10 kh hi (HS.out.2.2.2.2.2 i ho), HS.out.2.2.2.2.1]
                  unfold rd
                  rw [HS1.out.2.2.2.2.2]
                  rfl)
                have HB10 := hid (HB.out.trans (hb10.mono HB.out.size))
                have HRA10 := hid (row_below HRA.out hb10)
                have HRO10 := hid (row_below HRO.out hb10)
                have HWS10 : Hid (∀ i, i < 8 → ∃ a c, vals[i]? = some (.slice a 256 c) ∧ Sl (fun b => (A < b ∧ C1 b = 0) ∧ b < O) w10 a (rd S1 i)) := hid (fun i hi => by
                  obtain ⟨a, c, h1, h2⟩ := HWS.out i hi
                  exact ⟨a, c, h1, h2.below hb10⟩)
                have HCA3 : Hid (C3 A = 0) := hid (by rw [HX.out A (by have := HA6.out; have := HOs.out; omega)]; exact HCA.out)
                have HCO3 : Hid (C3 O = 0) := hid (by rw [HX.out O HOs.out]; exact HCO.out)
                have HCW3 : Hid (∀ b, (A < b ∧ C1 b = 0) ∧ b < O → C3 b = 0) := hid (fun b hb => by rw [HX.out b (by have := HOs.out; omega)]; exact hb.1.2)
                clear hkx hb10 hd10 HKC HD HB HRA HRO HWS
                go_wp2_with fail
                refine HCR.out.mono ?_
                rintro e w11 ⟨rfl, hd11, hm11⟩
                have HPW := hid (dv_power hd11)
                have HB11 := hid (HB10.out.trans (hm11.below HB10.out.size fun b hb => HC3.out b hb))
                have HRA11 := hid (hm11.row HRA10.out (fun h => h HCA3.out))
                have HRO11 := hid (hm11.row HRO10.out (fun h => h HCO3.out))
                have HWS11 : Hid (∀ i, i < 8 → ∃ a c, vals[i]? = some (.slice a 256 c) ∧ Sl (fun b => (A < b ∧ C1 b = 0) ∧ b < O) w11 a (rd S1 i)) := hid (fun i hi => by
                  obtain ⟨a, c, h1, h2⟩ := HWS10.out i hi
                  exact ⟨a, c, h1, h2.mv hm11 fun b hb h => h (HCW3.out b hb)⟩)
                clear hd11 hm11 HCR HB10 HRA10 HRO10 HWS10
                go_wp2_with fail
                refine HPW.out.mono ?_
                rintro e w12 ⟨rfl, hd12, hm12⟩
                have HB12 := hid (HB11.out.trans (hm12.below HB11.out.size fun b hb => HC3.out b hb))
                have HRA12 := hid (hm12.row HRA11.out (fun h => h HCA3.out))
                have HRO12 := hid (hm12.row HRO11.out (fun h => h HCO3.out))
                have HWS12 : Hid (∀ i, i < 8 → ∃ a c, vals[i]? = some (.slice a 256 c) ∧ Sl (fun b => (A < b ∧ C1 b = 0) ∧ b < O) w12 a (rd S1 i)) := hid (fun i hi => by
                  obtain ⟨a, c, h1, h2⟩ := HWS11.out i hi
                  exact ⟨a, c, h1, h2.mv hm12 fun b hb h => h (HCW3.out b hb)⟩)
                obtain ⟨S4, hS4⟩ : ∃ S4 : St, S4 = { on := true, armed := false, left := 0, B := (crashAll S2 kh).2.1, W := fun _ => [], r := S2.r, s := S2.s, t := S2.t } := ⟨_, rfl⟩
                have hd12' : Dv C3 w12 g 8 0 S4 := by rw [hS4]; exact hd12
                have HD12 := hid hd12'
                have HS4 : Hid (S4.on = true ∧ S4.r ≤ 8 ∧ ∀ i, i < 8 → ov i = false → rd S4 i = rd S1 i) := hid (by
                  rw [hS4]
                  exact ⟨rfl, HS.out.2.2.1, fun i hi ho => HDRY.out i hi ho⟩)
                clear hd12 hd12' hm12 hS4 HPW HB11 HRA11 HRO11 HWS11 HDRY hk1000
                go_wp2_with fail
                go_loopw [17] (fun i wr => ∃ (k : Nat) (r : Int), k ≤ 8 ∧ i = .int .i64 (k : Int) ∧ r ≤ 8 + (k : Int) ∧ Dv C3 wr g 8 0 { S4 with r := r } ∧ wr.heap[A]? = some (.cells vals 61 (0, 0)) ∧ wr.heap[O]? = some (.cells (bools ov) 62 (0, 0)) ∧
                  (∀ i, i < 8 → ∃ a c, vals[i]? = some (.slice a 256 c) ∧ Sl (fun b => (A < b ∧ C1 b = 0) ∧ b < O) wr a (rd S1 i)) ∧ Below w.heap.size w wr) (fun i _ => 8 - (intOf i).toNat)
                case atStart => exact ⟨0, S4.r, Nat.zero_le _, rfl, HS4.out.2.1, HD12.out, HRA12.out, HRO12.out, HWS12.out, HB12.out⟩
                case round =>
                  obtain ⟨z, r, hz, rfl, hr, hd, hrA, hrO, hws, hb⟩ := hrel
                  have HD := hid hd
                  have HB := hid hb
                  have HRA := hid hrA
                  have HRO := hid hrO
                  have HWS := hid hws
                  clear HD12 HRA12 HRO12 HWS12 HB12
                  by_cases hz8 : (z : Int) < 8
                  · have HR := hid (dv_read hd z (by omega) HS4.out.1 (by decide) (by show r ≤ 1000000; omega))
                    have HRL := hid (rd_len hd (k := z) (by omega))
                    clear hd hrA hrO hws hb
                    go_wp2_with fail
                    refine HR.out.mono ?_
                    rintro e w13 ⟨v, rfl, hv, hd13, hm13⟩
                    have hrA13 := hm13.row HRA.out (fun h => h HCA3.out)
                    have hrO13 := hm13.row HRO.out (fun h => h HCO3.out)
                    obtain ⟨aw, cw, hvw, hslw⟩ := HWS.out z (by omega)
                    have hslw13 := hslw.mv hm13 fun b hb h => h (HCW3.out b hb)
                    have hcA : w13.cell? ⟨A, z, none⟩ = some (.slice aw 256 cw) := by rw [cell_of_row w13 A z _ _ _ hrA13]; exact hvw
                    have hcO : w13.cell? ⟨O, z, none⟩ = some (.bool (ov z)) := by rw [cell_of_row w13 O z _ _ _ hrO13]; exact bools_get ov (by omega)
                    have hlen : (rd { S4 with r := r } z).length = 256 := HRL.out
                    obtain ⟨a13, c13, rfl, _, _, _, hsl13⟩ := hv.sl
                    rw [hlen]
                    have HB13 := hid (HB.out.trans (hm13.below HB.out.size fun b hb => HC3.out b hb))
                    have HRA13 := hid hrA13
                    have HRO13 := hid hrO13
                    have HWS13 : Hid (∀ i, i < 8 → ∃ a c, vals[i]? = some (.slice a 256 c) ∧ Sl (fun b => (A < b ∧ C1 b = 0) ∧ b < O) w13 a (rd S1 i)) := hid (fun i hi => by
                      obtain ⟨a, c, h1, h2⟩ := HWS.out i hi
                      exact ⟨a, c, h1, h2.mv hm13 fun b hb h => h (HCW3.out b hb)⟩)
                    have HD13 : Hid (Dv C3 w13 g 8 0 { S4 with r := r + 1 }) := hid hd13
                    have HSL13 : Hid (Sl (fun b => wr.heap.size ≤ b) w13 a13 (rd S4 z)) := hid hsl13
                    have HSLW13 := hid hslw13
                    have hlen4 : Hid ((rd S4 z).length = 256) := hid hlen
                    clear hv hd13 hm13 hrA13 hrO13 hvw hslw hslw13 hlen hsl13 HR HRL
                    cases hov : ov z with
                    | true =>
                      rw [hov] at hcO
                      clear hov
                      go_wp2_with fail
                      go_roundw
                      case rel => exact ⟨z + 1, r + 1, by omega, by go_num, by omega, HD13.out, HRA13.out, HRO13.out, HWS13.out, HB13.out⟩
                      case measure => simp [intOf]; omega
                    | false =>
                      have hre := HS4.out.2.2 z (by omega) hov
                      have hlen1 : (rd S1 z).length = 256 := by rw [← hre]; exact hlen4.out
                      have HSM := hid (same_any _ _ a13 aw c13 cw (rd S4 z) (rd S1 z) w13 HSL13.out HSLW13.out (by rw [hlen4.out]; omega))
                      rw [decide_eq_true hre, hlen4.out, hlen1] at HSM
                      rw [hov] at hcO
                      clear hov hre hlen1
                      go_wp2_with fail
                      refine HSM.out.mono ?_
                      rintro e w14 ⟨rfl, hb14⟩
                      have HD14 := hid (HD13.out.below hb14)
                      have HRA14 := hid (row_below HRA13.out hb14)
                      have HRO14 := hid (row_below HRO13.out hb14)
                      have HWS14 : Hid (∀ i, i < 8 → ∃ a c, vals[i]? = some (.slice a 256 c) ∧ Sl (fun b => (A < b ∧ C1 b = 0) ∧ b < O) w14 a (rd S1 i)) := hid (fun i hi => by
                        obtain ⟨a, c, h1, h2⟩ := HWS13.out i hi
                        exact ⟨a, c, h1, h2.below hb14⟩)
                      have HB14 := hid (HB13.out.trans (hb14.mono HB13.out.size))
                      clear hb14 HSM hcA hcO
                      go_wp2_with fail
                      go_roundw
                      case rel => exact ⟨z + 1, r + 1, by omega, by go_num, by omega, HD14.out, HRA14.out, HRO14.out, HWS14.out, HB14.out⟩
                      case measure => simp [intOf]; omega
                  · have hgez : (8 : Int) ≤ z := by omega
                    have HKN := hid (known_any wr)
                    clear hz8 hd hrA hrO hws hb
                    go_wp2_with fail
                    refine HKN.out.mono ?_
                    rintro e w15 ⟨rfl, hb15⟩
                    have HB15 := hid (HB.out.trans (hb15.mono HB.out.size))
                    clear hb15
                    go_wp2_with fail
                    go_ret
                    exact ⟨rfl, HB15.out⟩
            · have hgem : (nm : Int) ≤ q := by omega
              clear hlt
              obtain ⟨kh, hkh⟩ : ∃ kh, kh = ks.take 30 := ⟨_, rfl⟩
              have hkl30 : kh.length = min ks.length 30 := by rw [hkh, List.length_take]; omega
              have hmin : min (nk : Int) 30 = (kh.length : Int) := by rw [HNK.out]; omega
              have hkw : KpS (fun b => b < w.heap.size) wr ak kh := by
                rw [hkh]
                exact (HK.out.mv (F := fun b => w.heap.size ≤ b) ⟨HB.out.os, HB.out.tape, HB.out.output, HB.out.size, fun i hi hn => HB.out.block i (by omega)⟩ (fun b hb => by omega)).front 30
              have HKC := hid (keeps_any _ ak nk ck kh wr hkw hmin hkl.1 (by unfold maxLen; omega))
              have hk1000 : Hid (kh.length ≤ 1000) := hid (by omega)
              clear hkh hkl30 hmin hkw
              go_wp2_with fail
              refine HKC.out.mono ?_
              rintro e w10 ⟨ax, cx, rfl, hkx, hb10⟩
              have hd10 := HD.out.below hb10
              have HCR := hid (dv_crash hd10 _ ax cx kh hkx (fun b hb => HD.out.new hb) (by omega) hk1000.out)
              have HDRY : Hid (∀ i, i < 8 → ov i = false → pg (crashAll S2 kh).2.1 i = rd S1 i) := hid (fun i hi ho => by
                rw [crash_dry hd10 kh hi (HS.out.2.2.2.2.2 i ho), HS.out.2.2.2.2.1]
                unfold rd
                rw [HS1.out.2.2.2.2.2]
                rfl)
              have HB10 := hid (HB.out.trans (hb10.mono HB.out.size))
              have HRA10 := hid (row_below HRA.out hb10)
              have HRO10 := hid (row_below HRO.out hb10)
              have HWS10 : Hid (∀ i, i < 8 → ∃ a c, vals[i]? = some (.slice a 256 c) ∧ Sl (fun b => (A < b ∧ C1 b = 0) ∧ b < O) w10 a (rd S1 i)) := hid (fun i hi => by
                obtain ⟨a, c, h1, h2⟩ := HWS.out i hi
                exact ⟨a, c, h1, h2.below hb10⟩)
              have HCA3 : Hid (C3 A = 0) := hid (by rw [HX.out A (by have := HA6.out; have := HOs.out; omega)]; exact HCA.out)
              have HCO3 : Hid (C3 O = 0) := hid (by rw [HX.out O HOs.out]; exact HCO.out)
              have HCW3 : Hid (∀ b, (A < b ∧ C1 b = 0) ∧ b < O → C3 b = 0) := hid (fun b hb => by rw [HX.out b (by have := HOs.out; omega)]; exact hb.1.2)
              clear hkx hb10 hd10 HKC HD HB HRA HRO HWS
              go_wp2_with fail
              refine HCR.out.mono ?_
              rintro e w11 ⟨rfl, hd11, hm11⟩
              have HPW := hid (dv_power hd11)
              have HB11 := hid (HB10.out.trans (hm11.below HB10.out.size fun b hb => HC3.out b hb))
              have HRA11 := hid (hm11.row HRA10.out (fun h => h HCA3.out))
              have HRO11 := hid (hm11.row HRO10.out (fun h => h HCO3.out))
              have HWS11 : Hid (∀ i, i < 8 → ∃ a c, vals[i]? = some (.slice a 256 c) ∧ Sl (fun b => (A < b ∧ C1 b = 0) ∧ b < O) w11 a (rd S1 i)) := hid (fun i hi => by
                obtain ⟨a, c, h1, h2⟩ := HWS10.out i hi
                exact ⟨a, c, h1, h2.mv hm11 fun b hb h => h (HCW3.out b hb)⟩)
              clear hd11 hm11 HCR HB10 HRA10 HRO10 HWS10
              go_wp2_with fail
              refine HPW.out.mono ?_
              rintro e w12 ⟨rfl, hd12, hm12⟩
              have HB12 := hid (HB11.out.trans (hm12.below HB11.out.size fun b hb => HC3.out b hb))
              have HRA12 := hid (hm12.row HRA11.out (fun h => h HCA3.out))
              have HRO12 := hid (hm12.row HRO11.out (fun h => h HCO3.out))
              have HWS12 : Hid (∀ i, i < 8 → ∃ a c, vals[i]? = some (.slice a 256 c) ∧ Sl (fun b => (A < b ∧ C1 b = 0) ∧ b < O) w12 a (rd S1 i)) := hid (fun i hi => by
                obtain ⟨a, c, h1, h2⟩ := HWS11.out i hi
                exact ⟨a, c, h1, h2.mv hm12 fun b hb h => h (HCW3.out b hb)⟩)
              obtain ⟨S4, hS4⟩ : ∃ S4 : St, S4 = { on := true, armed := false, left := 0, B := (crashAll S2 kh).2.1, W := fun _ => [], r := S2.r, s := S2.s, t := S2.t } := ⟨_, rfl⟩
              have hd12' : Dv C3 w12 g 8 0 S4 := by rw [hS4]; exact hd12
              have HD12 := hid hd12'
              have HS4 : Hid (S4.on = true ∧ S4.r ≤ 8 ∧ ∀ i, i < 8 → ov i = false → rd S4 i = rd S1 i) := hid (by
                rw [hS4]
                exact ⟨rfl, HS.out.2.2.1, fun i hi ho => HDRY.out i hi ho⟩)
              clear hd12 hd12' hm12 hS4 HPW HB11 HRA11 HRO11 HWS11 HDRY hk1000
              go_wp2_with fail
              go_loopw [17] (fun i wr => ∃ (k : Nat) (r : Int), k ≤ 8 ∧ i = .int .i64 (k : Int) ∧ r ≤ 8 + (k : Int) ∧ Dv C3 wr g 8 0 { S4 with r := r } ∧ wr.heap[A]? = some (.cells vals 61 (0, 0)) ∧ wr.heap[O]? = some (.cells (bools ov) 62 (0, 0)) ∧
                (∀ i, i < 8 → ∃ a c, vals[i]? = some (.slice a 256 c) ∧ Sl (fun b => (A < b ∧ C1 b = 0) ∧ b < O) wr a (rd S1 i)) ∧ Below w.heap.size w wr) (fun i _ => 8 - (intOf i).toNat)
              case atStart => exact ⟨0, S4.r, Nat.zero_le _, rfl, HS4.out.2.1, HD12.out, HRA12.out, HRO12.out, HWS12.out, HB12.out⟩
              case round =>
                obtain ⟨z, r, hz, rfl, hr, hd, hrA, hrO, hws, hb⟩ := hrel
                have HD := hid hd
                have HB := hid hb
                have HRA := hid hrA
                have HRO := hid hrO
                have HWS := hid hws
                clear HD12 HRA12 HRO12 HWS12 HB12
                by_cases hz8 : (z : Int) < 8
                · have HR := hid (dv_read hd z (by omega) HS4.out.1 (by decide) (by show r ≤ 1000000; omega))
                  have HRL := hid (rd_len hd (k := z) (by omega))
                  clear hd hrA hrO hws hb
                  go_wp2_with fail
                  refine HR.out.mono ?_
                  rintro e w13 ⟨v, rfl, hv, hd13, hm13⟩
                  have hrA13 := hm13.row HRA.out (fun h => h HCA3.out)
                  have hrO13 := hm13.row HRO.out (fun h => h HCO3.out)
                  obtain ⟨aw, cw, hvw, hslw⟩ := HWS.out z (by omega)
                  have hslw13 := hslw.mv hm13 fun b hb h => h (HCW3.out b hb)
                  have hcA : w13.cell? ⟨A, z, none⟩ = some (.slice aw 256 cw) := by rw [cell_of_row w13 A z _ _ _ hrA13]; exact hvw
                  have hcO : w13.cell? ⟨O, z, none⟩ = some (.bool (ov z)) := by rw [cell_of_row w13 O z _ _ _ hrO13]; exact bools_get ov (by omega)
                  have hlen : (rd { S4 with r := r } z).length = 256 := HRL.out
                  obtain ⟨a13, c13, rfl, _, _, _, hsl13⟩ := hv.sl
                  rw [hlen]
                  have HB13 := hid (HB.out.trans (hm13.below HB.out.size fun b hb => HC3.out b hb))
                  have HRA13 := hid hrA13
                  have HRO13 := hid hrO13
                  have HWS13 : Hid (∀ i, i < 8 → ∃ a c, vals[i]? = some (.slice a 256 c) ∧ Sl (fun b => (A < b ∧ C1 b = 0) ∧ b < O) w13 a (rd S1 i)) := hid (fun i hi => by
                    obtain ⟨a, c, h1, h2⟩ := HWS.out i hi
                    exact ⟨a, c, h1, h2.mv hm13 fun b hb h => h (HCW3.out b hb)⟩)
                  have HD13 : Hid (Dv C3 w13 g 8 0 { S4 with r := r + 1 }) := hid hd13
                  have HSL13 : Hid (Sl (fun b => wr.heap.size ≤ b) w13 a13 (rd S4 z)) := hid hsl13
                  have HSLW13 := hid hslw13
                  have hlen4 : Hid ((rd S4 z).length = 256) := hid hlen
                  clear hv hd13 hm13 hrA13 hrO13 hvw hslw hslw13 hlen hsl13 HR HRL
                  cases hov : ov z with
                  | true =>
                    rw [hov] at hcO
                    clear hov
                    go_wp2_with fail
                    go_roundw
                    case rel => exact ⟨z + 1, r + 1, by omega, by go_num, by omega, HD13.out, HRA13.out, HRO13.out, HWS13.out, HB13.out⟩
                    case measure => simp [intOf]; omega
                  | false =>
                    have hre := HS4.out.2.2 z (by omega) hov
                    have hlen1 : (rd S1 z).length = 256 := by rw [← hre]; exact hlen4.out
                    have HSM := hid (same_any _ _ a13 aw c13 cw (rd S4 z) (rd S1 z) w13 HSL13.out HSLW13.out (by rw [hlen4.out]; omega))
                    rw [decide_eq_true hre, hlen4.out, hlen1] at HSM
                    rw [hov] at hcO
                    clear hov hre hlen1
                    go_wp2_with fail
                    refine HSM.out.mono ?_
                    rintro e w14 ⟨rfl, hb14⟩
                    have HD14 := hid (HD13.out.below hb14)
                    have HRA14 := hid (row_below HRA13.out hb14)
                    have HRO14 := hid (row_below HRO13.out hb14)
                    have HWS14 : Hid (∀ i, i < 8 → ∃ a c, vals[i]? = some (.slice a 256 c) ∧ Sl (fun b => (A < b ∧ C1 b = 0) ∧ b < O) w14 a (rd S1 i)) := hid (fun i hi => by
                      obtain ⟨a, c, h1, h2⟩ := HWS13.out i hi
                      exact ⟨a, c, h1, h2.below hb14⟩)
                    have HB14 := hid (HB13.out.trans (hb14.mono HB13.out.size))
                    clear hb14 HSM hcA hcO
                    go_wp2_with fail
                    go_roundw
                    case rel => exact ⟨z + 1, r + 1, by omega, by go_num, by omega, HD14.out, HRA14.out, HRO14.out, HWS14.out, HB14.out⟩
                    case measure => simp [intOf]; omega
                · have hgez : (8 : Int) ≤ z := by omega
                  have HKN := hid (known_any wr)
                  clear hz8 hd hrA hrO hws hb
                  go_wp2_with fail
                  refine HKN.out.mono ?_
                  rintro e w15 ⟨rfl, hb15⟩
                  have HB15 := hid (HB.out.trans (hb15.mono HB.out.size))
                  clear hb15
                  go_wp2_with fail
                  go_ret
                  exact ⟨rfl, HB15.out⟩
namespace deviceKeeps
open Go.ChangeShapes Go.WideShapes Go.ChangeAt

theorem own : ownKnob Try.prog.godebug = none := by kernel_rfl
theorem laidOut : laidOutB Try.prog = true := by kernel_rfl

set_option maxRecDepth 100000 in
theorem lifted (os : Os) (started : os.Started) (H : Type) (enc : TypeId × Value → H) :
    ReturnsInHanded {} Try.checked os 5 .any (Rows.deviceKeepsSpec.pre6 enc Try.prog Try.f5 Rows.deviceKeepsRow.domain false) (Rows.deviceKeepsSpec.post enc Try.prog Try.f5 false true false false) := by
  refine returnsInHanded_of_change (C := Try.checked) own started (by kernel_rfl) Try.func5
    (ChangeSpec.witness6 (enc := enc) (C := Try.checked) false ⟨#[], #[.slice none 0 0, .slice none 0 0, .slice none 0 0], []⟩ 8 (by kernel_rfl) (by kernel_rfl) (by kernel_rfl) (by kernel_rfl)) ?_
  intro W base args ds gs before hval0 hW hcnd _
  have hval : ∀ (j : Nat) t v, Try.f5.params[j]? = some t → args[j]? = some v → Value.okWide Try.prog W .any base t v := hval0
  have hW' := hW
  obtain ⟨p, q, hA0, hV, rfl, hfz, hnd⟩ := hW
  have hA : DataW.TrodAll enc Try.prog W 0 (fun _ => true) true Try.f5.params.toList args.toList ds p := hA0
  rw [Try.params5] at hA hval
  obtain ⟨v0, vs0, d0, ds0, p0, q0, hargs, rfl, rfl, h0, r0⟩ := trodAll_cons hA
  obtain ⟨v1, vs1, d1, ds1, p1, q1, rfl, rfl, rfl, h1, r1⟩ := trodAll_cons r0
  obtain ⟨v2, vs2, d2, ds2, p2, q2, rfl, rfl, rfl, h2, r2⟩ := trodAll_cons r1
  obtain ⟨rfl, rfl, rfl⟩ := trodAll_nil r2
  obtain rfl : args = #[v0, v1, v2] := by cases args; simp_all
  obtain ⟨rfl, rfl⟩ := trodVars_none hV
  obtain ⟨a0, len0, cap0, rfl⟩ := okWide_slice Try.underlying22 (hval 0 22 v0 rfl rfl)
  have k0 := h0
  have lt0 : ∀ x ∈ p0, x.block < W.heap.size := by obtain ⟨m, hm⟩ := k0; exact DataW.trod_lt m _ _ _ hm
  obtain ⟨a, c, ts0, hv, hts0, hlc0, hcm0⟩ : ∃ a c ts, Value.slice a0 len0 cap0 = .slice a (List.length ts) c ∧ AcS (fun _ => True) W a ts ∧ ts.length ≤ c ∧ c ≤ maxLen := by
    obtain ⟨fuel, hf⟩ := h0
    exact open_acts hf
  simp only [Value.slice.injEq] at hv
  obtain ⟨rfl, rfl, rfl⟩ := hv
  obtain ⟨a1, len1, cap1, rfl⟩ := okWide_slice Try.underlying22 (hval 1 22 v1 rfl rfl)
  have k1 := h1
  have lt1 : ∀ x ∈ p1, x.block < W.heap.size := by obtain ⟨m, hm⟩ := k1; exact DataW.trod_lt m _ _ _ hm
  obtain ⟨a, c, ts1, hv, hts1, hlc1, hcm1⟩ : ∃ a c ts, Value.slice a1 len1 cap1 = .slice a (List.length ts) c ∧ AcS (fun _ => True) W a ts ∧ ts.length ≤ c ∧ c ≤ maxLen := by
    obtain ⟨fuel, hf⟩ := h1
    exact open_acts hf
  simp only [Value.slice.injEq] at hv
  obtain ⟨rfl, rfl, rfl⟩ := hv
  obtain ⟨a2, len2, cap2, rfl⟩ := okWide_slice Try.underlying32 (hval 2 32 v2 rfl rfl)
  have k2 := h2
  have lt2 : ∀ x ∈ p2, x.block < W.heap.size := by obtain ⟨m, hm⟩ := k2; exact DataW.trod_lt m _ _ _ hm
  obtain ⟨a, c, ks2, hv, hks2, hlc2, hcm2⟩ : ∃ a c ks, Value.slice a2 len2 cap2 = .slice a (List.length ks) c ∧ KpS (fun _ => True) W a ks ∧ ks.length ≤ c ∧ c ≤ maxLen := by
    obtain ⟨fuel, hf⟩ := h2
    exact open_keeps hf
  simp only [Value.slice.injEq] at hv
  obtain ⟨rfl, rfl, rfl⟩ := hv
  clear hA0 hval0
  refine (deviceKeeps_walk a0 a1 a2 cap0 cap1 cap2 ts0 ts1 ks2 W (hts0.mono fun _ _ h => h) (hts1.mono fun _ _ h => h) (hks2.mono fun _ _ h => h) ⟨hlc2, hcm2⟩).mono fun e W' ⟨he, bel⟩ => ?_
  subst he
  exact ⟨_, rfl, _, _, _, [], _, [], hW', trodAll_mk1 (shut_bool Try.underlying4 _), (trodAll_cons_mk (Below.trod laidOut (by kernel_rfl) (of_decide_eq_true (by kernel_rfl)) k0 bel lt0) (trodAll_cons_mk (Below.trod laidOut (by kernel_rfl) (of_decide_eq_true (by kernel_rfl)) k1 bel lt1) (trodAll_cons_mk (Below.trod laidOut (by kernel_rfl) (of_decide_eq_true (by kernel_rfl)) k2 bel lt2) trodAll_mk0))), rfl, bel.frame _, fun h => by cases h⟩

/-- THE STATEMENT. -/
theorem proved : Rows.DeviceKeepsSaid :=
  OpenClaim.holds_of_wide 5 Try.f5 rfl rfl rfl rfl rfl rfl rfl ⟨rfl, rfl, rfl, rfl, rfl⟩ rfl rfl rfl rfl rfl (by kernel_rfl) Try.func5 (by kernel_rfl)
    (of_decide_eq_true (by kernel_rfl)) (by unfold Func.isWrapper; first | (rw [if_pos (by decide +kernel)]; kernel_rfl) | (rw [if_neg (by decide +kernel)]; exact ⟨rfl, rfl⟩))
    (fun os started H enc _ => lifted os started H enc)
end deviceKeeps
end Go.Proofs.Ytgppmnaidgkboaa
