/- 'DevicePlays' RETURNS TRUE FOR EVERY INTEGER AND EVERY LIST OF ACTS (nil too). No condition. -/
import Derived.Test.YtgppmnaidgkboaaRefK
import Derived.Deep.CutBlock
namespace Go.Proofs.Ytgppmnaidgkboaa
open Go.RowKit Go.Inc

/-- Which call an act is. -/
theorem kd_lt (x : Int) : 0 ≤ (IntKind.u64.wrap x).tmod 6 ∧ (IntKind.u64.wrap x).tmod 6 < 6 := by
  have h0 : 0 ≤ IntKind.u64.wrap x := by rw [IntKind.wrap_u64]; omega
  rw [Int.tmod_eq_emod_of_nonneg h0]
  omega

set_option maxRecDepth 20000 in
theorem devicePlays_bad (x : Int) (hx : -9223372036854775808 ≤ x ∧ x ≤ 9223372036854775807) (hb : ¬ (1 ≤ x ∧ x ≤ 2048)) (a : Option Addr) (n c : Nat) (w : World) :
    Calls Try.prog 3 #[.int .i64 x, .slice a n c] w fun e w' => e = .returned (.bool true) ∧ Below w.heap.size w w' := by
  have H1 := hid (new_bad w x hb)
  have H2 := hid (known_any w)
  by_cases h1 : x < 1
  · have d1 : decide (x < 1) = true := decide_eq_true h1
    clear hb
    go_enter Try.func3, Try.ntmps3
    go_wp2_with fail
    refine H1.out.mono ?_
    rintro e w1 ⟨rfl, rfl⟩
    go_wp2_with fail
    refine H2.out.mono ?_
    rintro e w1 ⟨rfl, hb1⟩
    have HB1 := hid hb1
    clear hb1
    go_wp2_with fail
    go_ret
    exact ⟨rfl, HB1.out⟩
  · have d1 : decide (x < 1) = false := decide_eq_false h1
    have d2 : decide (2048 < x) = true := decide_eq_true (by omega)
    clear hb h1
    go_enter Try.func3, Try.ntmps3
    go_wp2_with fail
    refine H1.out.mono ?_
    rintro e w1 ⟨rfl, rfl⟩
    go_wp2_with fail
    refine H2.out.mono ?_
    rintro e w1 ⟨rfl, hb1⟩
    have HB1 := hid hb1
    clear hb1
    go_wp2_with fail
    go_ret
    exact ⟨rfl, HB1.out⟩

set_option maxRecDepth 20000 in
set_option maxHeartbeats 16000000 in
theorem devicePlays_good (k : Nat) (hk : 1 ≤ k ∧ k ≤ 2048) (al : Option Addr) (cl : Nat) (ls : List Ac) (w : World) (hl : AcS (fun b => b < w.heap.size) w al ls) :
    Calls Try.prog 3 #[.int .i64 (k : Int), .slice al ls.length cl] w fun e w' => e = .returned (.bool true) ∧ Below w.heap.size w w' := by
  have H1 := hid (dv_new w k hk)
  obtain ⟨r, hr⟩ : ∃ r, r = k % 20 := ⟨_, rfl⟩
  have hr20 : r < 20 := by omega
  obtain ⟨p, hp⟩ : ∃ p, p = 1 + r := ⟨_, rfl⟩
  have hmod : (k : Int).tmod 20 = (r : Int) := by rw [Int.tmod_eq_emod_of_nonneg (by omega)]; omega
  have hmod2 : (k : Int) % 20 = (r : Int) := by omega
  have hpr : (1 : Int) + (r : Int) = (p : Int) := by omega
  have HP : Hid (0 < p ∧ p ≤ 20) := hid (by omega)
  have hp20 : (p : Int) ≤ 20 := by omega
  have d1 : decide ((k : Int) < 1) = false := decide_eq_false (by omega)
  have d2 : decide ((2048 : Int) < (k : Int)) = false := decide_eq_false (by omega)
  have hk2 : (1 : Int) ≤ k ∧ (k : Int) ≤ 2048 := by omega
  have HL := hid hl
  obtain ⟨nl, hnl⟩ : ∃ nl, nl = ls.length := ⟨_, rfl⟩
  rw [← hnl]
  have HNL := hid hnl
  have HN2 := fun w1 => dv_new w1 p (by have := HP.out; omega)
  have HN3 := fun w1 => rnew_any w1 p HP.out.2
  have H2 := hid HN2
  have H3 := hid HN3
  clear hl hnl hk hr hp HN2 HN3
  go_enter Try.func3, Try.ntmps3
  go_wp2_with fail
  refine H1.out.mono ?_
  rintro e w1 ⟨C0, g0, rfl, hd1, hb1, -⟩
  have HD1 := hid hd1
  have HB1 := hid hb1
  have HPG := hid (calls_sym (dv_pages hd1))
  have HON := hid (calls_sym (dv_on hd1))
  clear hd1 hb1 H1
  go_wp2_with fail
  refine HPG.out.mono ?_
  rintro e w1' ⟨rfl, rfl⟩
  go_wp2_with fail
  refine HON.out.mono ?_
  rintro e w1' ⟨rfl, rfl⟩
  have hfon : (fresh (List.replicate (256 * k) 0)).on = true := rfl
  go_wp2_with fail
  refine (H2.out _).mono ?_
  rintro e w2 ⟨C, g, rfl, hd2, hb2, hC2⟩
  have HD2 := hid hd2
  have HB2 : Hid (Below w.heap.size w w2) := hid (HB1.out.trans (hb2.mono HB1.out.size))
  have HC2 : Hid (∀ b, C b ≠ 0 → w.heap.size ≤ b) := hid fun b hb => Nat.le_trans HB1.out.size (hC2 b hb)
  clear hd2 hb2 hC2 HPG HON HD1 HB1 hfon
  go_wp2_with fail
  refine (H3.out _).mono ?_
  rintro e w3 ⟨K, h, rfl, hr3, hb3, hK3⟩
  have HT := hid (two_new HB2.out HD2.out HC2.out hr3 hb3 hK3 HP.out)
  clear hr3 hb3 hK3 HD2 HB2 HC2 H2 H3
  go_wp2_with fail
  go_loopw [8] (fun i wx => ∃ (j : Nat) (C : Nat → Nat) (K : Nat → Nat) (S : St) (R : Rs), j ≤ nl ∧ j ≤ 40 ∧ i = .int .i64 (j : Int) ∧ Two w wx g h p j C K S R ∧ Eqv p S R ∧ Bd j R) (fun i _ => nl - (intOf i).toNat)
  case atStart => exact ⟨0, C, K, _, _, Nat.zero_le _, Nat.zero_le _, rfl, HT.out.1, HT.out.2.1, HT.out.2.2⟩
  case round =>
    obtain ⟨wx, hren⟩ : ∃ wx, wx = wr := ⟨_, rfl⟩
    subst hren
    clear HT
    obtain ⟨j, C, K, S, R, hj, hj40, rfl, ht, he, hb⟩ := hrel
    have HT := hid ht
    have HE := hid he
    have HBD := hid hb
    clear ht he hb
    by_cases hlt : (j : Int) < nl
    · by_cases hlt2 : (j : Int) < 40
      · rcases HL.out with h0 | ⟨b, o, rfl, hob, hac⟩
        · have := HNL.out; rw [h0] at this; simp at this; omega
        obtain ⟨t, ht⟩ : ∃ t, ls[j]? = some t := ⟨_, List.getElem?_eq_getElem (by rw [← HNL.out]; omega)⟩
        obtain ⟨aB, cB, aK, cK, q0, q1, q2, q3, hs, hkk, hcb1, hcb2, hck1, hck2, hkb, hnb⟩ := hac j t ht
        have r0 := (HT.out.bel.cell (cell_lt q0)).trans q0
        have r1 := (HT.out.bel.cell (cell_lt q1)).trans q1
        have r2 := (HT.out.bel.cell (cell_lt q2)).trans q2
        have r3 := (HT.out.bel.cell (cell_lt q3)).trans q3
        have hs' : Sl (fun b => b < w.heap.size) w aB t.B := hs
        have hk' : KpS (fun b => b < w.heap.size) w aK t.keep := hkk
        have HSB := hid (hs'.below HT.out.bel)
        have HKS := hid (hk'.mv (Mv.of_below (F := fun _ => False) HT.out.bel) fun _ _ h => h)
        obtain ⟨kd, x, bs, kp⟩ := t
        simp only at r0 r1 r2 r3 HSB HKS hcb1 hcb2 hck1 hck2 hkb hnb
        clear q0 q1 q2 q3 hs hs' hkk hk' hac ht
        have hkd := kd_lt kd
        obtain ⟨z, hz⟩ : ∃ z, z = (IntKind.u64.wrap kd).tmod 6 := ⟨_, rfl⟩
        rw [← hz] at hkd
        obtain ⟨w0, hw0⟩ : ∃ w0, w0 = wx.alloc (.cells #[.int .i64 kd, .int .i64 x, .slice aB bs.length cB, .slice aK kp.length cK] 34) := ⟨_, rfl⟩
        have hb0 : Below wx.heap.size wx w0 := by rw [hw0]; exact (Below.refl _ _).alloc (Nat.le_refl _) _
        have hrow0 : w0.heap[wx.heap.size]? = some (.cells #[.int .i64 kd, .int .i64 x, .slice aB bs.length cB, .slice aK kp.length cK] 34 (0, 0)) := by rw [hw0]; exact heap_alloc_new wx _
        have HT0 := hid (HT.out.quiet hb0)
        have HSB0 := hid (HSB.out.below hb0)
        have HKS0 := hid (HKS.out.mv (Mv.of_below (F := fun _ => False) hb0) fun _ _ h => h)
        have HFR := hid (HT.out.free (Nat.le_refl _))
        have HROW := hid hrow0
        have HW0 := hid hw0
        have m0 := cell_of_row w0 wx.heap.size 0 _ _ _ hrow0
        have m1 := cell_of_row w0 wx.heap.size 1 _ _ _ hrow0
        have m2 := cell_of_row w0 wx.heap.size 2 _ _ _ hrow0
        have m3 := cell_of_row w0 wx.heap.size 3 _ _ _ hrow0
        simp only [List.getElem?_toArray, List.getElem?_cons_zero, List.getElem?_cons_succ] at m0 m1 m2 m3
        have HLT : Hid (wx.heap.size < w0.heap.size) := hid (by rw [hw0]; simp)
        clear hb0 hrow0 hw0 HSB HKS HT hob
        have hzz := hz.symm
        clear hz
        go_upto_block 2 with fail
        rw [← HW0.out]
        go_cut [10, 11, 12, 13, 14, 15, 16, 17, 18] from 69 to 227 (fun _ _ _ _ _ _ _ _ _ wc => ∃ (C2 : Nat → Nat) (K2 : Nat → Nat) (S2 : St) (R2 : Rs), Two w wc g h p (j + 1) C2 K2 S2 R2 ∧ Eqv p S2 R2 ∧ Bd (j + 1) R2)
        case first =>
         rcases (by omega : z = 0 ∨ z = 1 ∨ z = 2 ∨ z = 3 ∨ z = 4 ∨ z = 5) with rfl | rfl | rfl | rfl | rfl | rfl
         · have HF := hid (full_any _ aB cB bs w0 HSB0.out (by unfold maxLen at hcb2; omega))
           have hbsl : bs.length ≤ 9223372036854775807 := by unfold maxLen at hcb2; omega
           go_wp2_with fail
           refine HF.out.mono ?_
           rintro e w4 ⟨rfl, ho4, hb4⟩
           have HO4 := hid ho4
           have HB4 := hid hb4
           have HT4 := hid (HT0.out.quiet hb4)
           have HSB4 := hid (HSB0.out.below hb4)
           have v1 : w4.cell? ⟨wx.heap.size, 1, none⟩ = some (.int .i64 x) := (hb4.cell (cell_lt m1)).trans m1
           have v2 : w4.cell? ⟨wx.heap.size, 2, none⟩ = some (.slice aB bs.length cB) := (hb4.cell (cell_lt m2)).trans m2
           clear ho4 hb4 HF
           obtain ⟨nb, hnb2⟩ : ∃ nb, nb = bs.length := ⟨_, rfl⟩
           rw [← hnb2] at v2 m2 hbsl hcb1 HROW HW0
           have HNB := hid hnb2
           clear hnb2
           by_cases h257 : nb = 257
           · subst h257
             have hown : Hid ((w4.alloc (.cells #[] 5)).ownsRow w4.heap.size 5 1 (.slice (some ⟨w4.heap.size, 0, none⟩) 0 0) 0 (u8s [])) := hid (World.ownsRow_lit w4 #[] 0 (Nat.le_refl _) (Nat.zero_le _) rfl)
             have hb1 : Below w4.heap.size w4 (w4.alloc (.cells #[] 5)) := (Below.refl _ _).alloc (Nat.le_refl _) _
             have HSB5 := hid (HSB4.out.below hb1)
             have v2a : (w4.alloc (.cells #[] 5)).cell? ⟨wx.heap.size, 2, none⟩ = _ := (hb1.cell (cell_lt v2)).trans v2
             have HB5 := hid hb1
             have HBL : Hid (bs.length = 257) := hid HNB.out.symm
             clear hb1
             go_wp2_with (refine wpList_append_any rfl (.tmp 119) (.tmp 121) 31 rfl w4.heap.size 5 (.int .u8 0) 1 Try.underlying31 infoU8 rfl _ _ _ rfl hown.out aB _ _ (u8s bs) rfl (by rw [u8s_length]; exact HBL.out) (fun h => absurd (HSB5.out.some_len h) (by rw [HBL.out]; decide)) HSB5.out.cells (u8s_one _) (by unfold maxLen; omega) (by omega) (by simp) ?_)
             intro v w5 hv hg _
             have hb5 := below_owned HB5.out hown.out (Nat.le_refl _) hg
             have HB6 := hid hb5
             obtain ⟨G, cb, rfl⟩ : ∃ G cb, v = .slice (some ⟨G, 0, none⟩) 257 cb := by
               rcases hv.2 with ⟨_, h1⟩ | ⟨g, cap, cur, h0, _⟩
               · omega
               · exact ⟨g, cap, h0⟩
             have hv' : w5.ownsRow w4.heap.size 5 1 (.slice (some ⟨G, 0, none⟩) 257 cb) 257 (u8s bs) := by simpa [u8s] using hv
             have HOW := hid (own_weaken hv' HB4.out.size)
             have HLEN : Hid (bs.length = 257) := HBL
             have HT1 := hid (HT4.out.quiet hb5)
             have HSL : Hid (Sl (fun b => w0.heap.size ≤ b) w5 (some ⟨G, 0, none⟩) bs) := hid (by
               obtain ⟨a', c', hv2, _, _, hs⟩ := Sl.owned HOW.out
               simp only [Value.slice.injEq] at hv2
               rw [← hv2.1] at hs
               exact hs.mono fun _ h _ => h.1)
             have HGW : Hid (w0.heap.size ≤ G) := hid (by
               rcases HOW.out.2 with ⟨_, h1⟩ | ⟨g', _, _, h1, h2, _⟩
               · omega
               · simp only [Value.slice.injEq, Option.some.injEq, Addr.mk.injEq, and_true] at h1
                 rw [h1.1]; exact h2)
             have HGL : Hid (G < w5.heap.size) := hid (by
               have := HOW.out.cells (g := G) rfl 0 (.int .u8 ((bs.getD 0 0 : Nat) : Int)) (u8s_get (by rw [HLEN.out]; decide))
               exact cell_lt this)
             have u1 : w5.cell? ⟨wx.heap.size, 1, none⟩ = some (.int .i64 x) := (hb5.cell (cell_lt v1)).trans v1
             clear hv hg hb5 hv' v1 v2 v2a m1 m2 m3 m0
             have v1 := u1
             have m0 := u1
             have m1 := u1
             have m2 := u1
             have m3 := u1
             clear u1
             obtain ⟨cd, hcd⟩ : ∃ cd, cd = (rw' p R x bs).1 := ⟨_, rfl⟩
             have HRP := hid (rp_write HT1.out.rp x (fun b => w0.heap.size ≤ b) (some ⟨G, 0, none⟩) cb bs HSL.out (fun b hb => HT0.out.rp.new hb) (by have := HBD.out.1; omega) (by have := HBD.out.2.2.1; omega))
             rw [← hcd, HLEN.out] at HRP
             go_wp2_with fail
             refine HRP.out.mono ?_
             rintro e wa ⟨rfl, ⟨K2, hra, hxa⟩, hma⟩
             have HTA := hid (HT1.out.stepR hra hxa hma)
             have n1 : wa.cell? ⟨wx.heap.size, 1, none⟩ = some (.int .i64 x) := hma.cell v1 (fun hc => hc HFR.out.2)
             have HSLA := hid (HSL.out.mv hma fun b hb hc => hc (HT0.out.rp.new hb))
             have HK2G : Hid (K2 G = 0) := hid (by rw [hxa G HGL.out]; exact HT0.out.rp.new HGW.out)
             have HGA : Hid (G < wa.heap.size) := hid (Nat.lt_of_lt_of_le HGL.out hma.size)
             have HOWA := hid (owns_mv HOW.out hma fun b hb hc => by
               have : G = b := by simpa [Value.ownBlock] using hb
               subst this
               exact hc (HT0.out.rp.new HGW.out))
             have HDP := hid (dp_write HTA.out.dv HE.out x (fun b => w0.heap.size ≤ b) (some ⟨G, 0, none⟩) cb bs HSLA.out (fun b hb => HT0.out.dv.new hb) (by omega) (by have := HBD.out.2.2.1; omega))
             rw [← hcd, HLEN.out] at HDP
             clear hra hxa hma HRP hcd v1
             go_wp2_with fail
             refine HDP.out.mono ?_
             rintro e wb ⟨rfl, ⟨C2, S2, hdb, hxb, heb⟩, hmb⟩
             have HTB := hid (HTA.out.stepD hdb hxb hmb)
             have HEB := hid heb
             have HC2G : Hid (C2 G = 0) := hid (by rw [hxb G HGA.out]; exact HT0.out.dv.new HGW.out)
             have hob := owns_mv HOWA.out hmb fun b hb hc => by
               have : G = b := by simpa [Value.ownBlock] using hb
               subst this
               exact hc (HT0.out.dv.new HGW.out)
             have hold := hob.cells (g := G) rfl 0 (.int .u8 ((bs.getD 0 0 : Nat) : Int)) (u8s_get (by rw [HLEN.out]; decide))
             rw [Addr.add_lit] at hold
             simp only [Nat.zero_add] at hold
             have hfz : wb.frozen? ⟨G, 0, none⟩ = false := hob.frozenAt 0
             obtain ⟨ob, hobv⟩ : ∃ ob, ob = bs.getD 0 0 := ⟨_, rfl⟩
             rw [← hobv] at hold
             obtain ⟨nv, hnv⟩ : ∃ nv, nv = IntKind.u8.wrap ((ob : Int) + 1) := ⟨_, rfl⟩
             have hnv1 := hnv.symm
             clear hdb hxb heb hmb HDP hob hobv hnv n1
             go_wp2_with fail
             obtain ⟨wc, hwc⟩ : ∃ wc, wc = wb.setCell ⟨G, 0, none⟩ (.int .u8 nv) := ⟨_, rfl⟩
             rw [← hwc]
             obtain ⟨R2, hR2⟩ : ∃ R2, R2 = (rw' p R x bs).2 := ⟨_, rfl⟩
             have hT2 : Two w wc g h p (j + 1) C2 K2 S2 R2 := by
               rw [hwc, hR2]
               exact HTB.out.keep (F := fun b => b = G) (Mv.of_grown (r := some G) (grown_setCell (grown_refl _ _) (.inl rfl) _) fun g h _ => by cases h; rfl) fun b hb => by
                 subst hb
                 exact ⟨HC2G.out, HK2G.out, Nat.le_trans HT0.out.bel.size HGW.out⟩
             have hE2 : Eqv p S2 R2 := by rw [hR2]; exact HEB.out
             have hB2 : Bd (j + 1) R2 := by rw [hR2]; exact HBD.out.write x bs
             clear hwc hR2 HTB HTA HT1 HT0 hold hfz HEB HOWA HOW HSL HSLA

             try go_wp2_with fail
             go_meet
             exact ⟨C2, K2, S2, R2, hT2, hE2, hB2⟩

           · have h257i : (((nb : Int)) == 257) = false := by simp; omega
             have h257n : ((nb : Int) = 257) = False := by simp; omega
             have HG0 : Hid (w4.ownsRow w0.heap.size 5 1 (.slice (some ⟨w0.heap.size, 0, none⟩) 256 256) 256 (u8s (fill bs))) := HO4
             obtain ⟨G, hG⟩ : ∃ G, G = w0.heap.size := ⟨_, rfl⟩
             have HOW : Hid (w4.ownsRow w0.heap.size 5 1 (.slice (some ⟨G, 0, none⟩) 256 256) 256 (u8s (fill bs))) := hid (by rw [hG]; exact HG0.out)
             have HGW : Hid (w0.heap.size ≤ G) := hid (by rw [hG]; exact Nat.le_refl _)
             have HLEN : Hid ((fill bs).length = 256) := hid (fill_len bs)
             obtain ⟨bf, hbf⟩ : ∃ bf, bf = fill bs := ⟨_, rfl⟩
             rw [← hbf] at HOW HLEN
             have HT1 := HT4
             have HSL : Hid (Sl (fun b => w0.heap.size ≤ b) w4 (some ⟨G, 0, none⟩) bf) := hid (by
               obtain ⟨a', c', hv2, _, _, hs⟩ := Sl.owned HOW.out
               simp only [Value.slice.injEq] at hv2
               rw [← hv2.1] at hs
               exact hs.mono fun _ h _ => h.1)
             have HGL : Hid (G < w4.heap.size) := hid (by
               have := HOW.out.cells (g := G) rfl 0 (.int .u8 ((bf.getD 0 0 : Nat) : Int)) (u8s_get (by rw [HLEN.out]; decide))
               exact cell_lt this)
             rw [← hG]
             clear hG hbf HG0 HO4
             obtain ⟨cd, hcd⟩ : ∃ cd, cd = (rw' p R x bf).1 := ⟨_, rfl⟩
             have HRP := hid (rp_write HT1.out.rp x (fun b => w0.heap.size ≤ b) (some ⟨G, 0, none⟩) 256 bf HSL.out (fun b hb => HT0.out.rp.new hb) (by have := HBD.out.1; omega) (by have := HBD.out.2.2.1; omega))
             rw [← hcd, HLEN.out] at HRP
             go_wp2_with fail
             refine HRP.out.mono ?_
             rintro e wa ⟨rfl, ⟨K2, hra, hxa⟩, hma⟩
             have HTA := hid (HT1.out.stepR hra hxa hma)
             have n1 : wa.cell? ⟨wx.heap.size, 1, none⟩ = some (.int .i64 x) := hma.cell v1 (fun hc => hc HFR.out.2)
             have HSLA := hid (HSL.out.mv hma fun b hb hc => hc (HT0.out.rp.new hb))
             have HK2G : Hid (K2 G = 0) := hid (by rw [hxa G HGL.out]; exact HT0.out.rp.new HGW.out)
             have HGA : Hid (G < wa.heap.size) := hid (Nat.lt_of_lt_of_le HGL.out hma.size)
             have HOWA := hid (owns_mv HOW.out hma fun b hb hc => by
               have : G = b := by simpa [Value.ownBlock] using hb
               subst this
               exact hc (HT0.out.rp.new HGW.out))
             have HDP := hid (dp_write HTA.out.dv HE.out x (fun b => w0.heap.size ≤ b) (some ⟨G, 0, none⟩) 256 bf HSLA.out (fun b hb => HT0.out.dv.new hb) (by omega) (by have := HBD.out.2.2.1; omega))
             rw [← hcd, HLEN.out] at HDP
             clear hra hxa hma HRP hcd v1
             go_wp2_with fail
             refine HDP.out.mono ?_
             rintro e wb ⟨rfl, ⟨C2, S2, hdb, hxb, heb⟩, hmb⟩
             have HTB := hid (HTA.out.stepD hdb hxb hmb)
             have HEB := hid heb
             have HC2G : Hid (C2 G = 0) := hid (by rw [hxb G HGA.out]; exact HT0.out.dv.new HGW.out)
             have hob := owns_mv HOWA.out hmb fun b hb hc => by
               have : G = b := by simpa [Value.ownBlock] using hb
               subst this
               exact hc (HT0.out.dv.new HGW.out)
             have hold := hob.cells (g := G) rfl 0 (.int .u8 ((bf.getD 0 0 : Nat) : Int)) (u8s_get (by rw [HLEN.out]; decide))
             rw [Addr.add_lit] at hold
             simp only [Nat.zero_add] at hold
             have hfz : wb.frozen? ⟨G, 0, none⟩ = false := hob.frozenAt 0
             obtain ⟨ob, hobv⟩ : ∃ ob, ob = bf.getD 0 0 := ⟨_, rfl⟩
             rw [← hobv] at hold
             obtain ⟨nv, hnv⟩ : ∃ nv, nv = IntKind.u8.wrap ((ob : Int) + 1) := ⟨_, rfl⟩
             have hnv1 := hnv.symm
             clear hdb hxb heb hmb HDP hob hobv hnv n1
             go_wp2_with fail
             obtain ⟨wc, hwc⟩ : ∃ wc, wc = wb.setCell ⟨G, 0, none⟩ (.int .u8 nv) := ⟨_, rfl⟩
             rw [← hwc]
             obtain ⟨R2, hR2⟩ : ∃ R2, R2 = (rw' p R x bf).2 := ⟨_, rfl⟩
             have hT2 : Two w wc g h p (j + 1) C2 K2 S2 R2 := by
               rw [hwc, hR2]
               exact HTB.out.keep (F := fun b => b = G) (Mv.of_grown (r := some G) (grown_setCell (grown_refl _ _) (.inl rfl) _) fun g h _ => by cases h; rfl) fun b hb => by
                 subst hb
                 exact ⟨HC2G.out, HK2G.out, Nat.le_trans HT0.out.bel.size HGW.out⟩
             have hE2 : Eqv p S2 R2 := by rw [hR2]; exact HEB.out
             have hB2 : Bd (j + 1) R2 := by rw [hR2]; exact HBD.out.write x bf
             clear hwc hR2 HTB HTA HT1 HT0 hold hfz HEB HOWA HOW HSL HSLA

             try go_wp2_with fail
             go_meet
             exact ⟨C2, K2, S2, R2, hT2, hE2, hB2⟩
         · obtain ⟨cd, hcd⟩ : ∃ cd, cd = (rsy R).1 := ⟨_, rfl⟩
           have HDP := hid (dp_sync HT0.out.dv HT0.out.rp HE.out (by omega) (by have := HBD.out.2.2.2; omega))
           rw [← hcd] at HDP
           go_wp2_with fail
           refine HDP.out.mono ?_
           rintro e wa ⟨rfl, ⟨S', hda, hea⟩, hma⟩
           have HTA := hid (HT0.out.stepD hda (fun _ _ => rfl) hma)
           have HRP := hid (rp_sync HTA.out.rp (by have := HBD.out.1; omega) (by have := HBD.out.2.2.2; omega))
           have HEA := hid hea
           rw [← hcd] at HRP
           clear hda hma HDP hea hcd
           go_wp2_with fail
           refine HRP.out.mono ?_
           rintro e wc ⟨rfl, hrc, hmc⟩
           obtain ⟨C2, K2, S2, R2, hT2, hE2, hB2⟩ : ∃ C K S R, Two w wc g h p (j + 1) C K S R ∧ Eqv p S R ∧ Bd (j + 1) R := by
             have hT := HTA.out.stepR hrc (fun _ _ => rfl) hmc
             exact ⟨_, _, _, _, { hT with dv := hT.dv.mono (Nat.le_succ _) }, HEA.out, HBD.out.sync⟩
           clear hrc hmc HRP HTA HT0

           try go_wp2_with fail
           go_meet
           exact ⟨C2, K2, S2, R2, hT2, hE2, hB2⟩
         · obtain ⟨kh, hkh⟩ : ∃ kh, kh = kp.take 30 := ⟨_, rfl⟩
           have hkl : kh.length = min kp.length 30 := by rw [hkh, List.length_take]; omega
           have hmin : min (kp.length : Int) 30 = (kh.length : Int) := by omega
           have hkh30 : kh.length ≤ 30 := by omega
           clear hkl
           have hkf : KpS (fun b => b < w.heap.size) w0 aK kh := by rw [hkh]; exact HKS0.out.front 30
           have HKF := hid hkf
           have HKP := hid (keeps_any _ aK kp.length cK kh w0 hkf hmin hck1 hck2)
           clear hkh hkf
           go_wp2_with fail
           refine HKP.out.mono ?_
           rintro e wa ⟨a', c', rfl, hks', hba⟩
           have HTA := hid (HT0.out.quiet hba)
           have HKD := hid (dp_crash HTA.out.dv HE.out _ a' c' kh hks' (fun b hb => HT0.out.dv.new hb) (by omega) (by omega))
           have HKG := hid (HKF.out.mv (Mv.of_below (F := fun _ => False) hba) fun _ _ h => h)
           clear hks' hba HKP
           obtain ⟨cn, hcn⟩ : ∃ cn, cn = tot (rcnt R kh) p := ⟨_, rfl⟩
           rw [← hcn] at HKD
           go_wp2_with fail
           refine HKD.out.mono ?_
           rintro e wb ⟨rfl, ⟨S', hdb, heb⟩, hmb⟩
           have HTB := hid (HTA.out.stepD hdb (fun _ _ => rfl) hmb)
           have HEB := hid heb
           have HKH : Hid (KpS (fun b => b < w.heap.size) wb aK kh) := hid (HKG.out.mv hmb fun b hb hc => hc (HTA.out.low b hb).1)
           have HRC := hid (rp_crash HTB.out.rp (by have := HBD.out.1; omega) _ aK cK kh HKH.out (fun b hb => (HTB.out.low b hb).2) (by omega))
           rw [← hcn] at HRC
           clear hdb heb hmb HKD hcn
           go_wp2_with fail
           refine HRC.out.mono ?_
           rintro e wc ⟨rfl, ⟨K', R', hrc, hR', hpg, hxc⟩, hmc⟩
           obtain ⟨C2, K2, S2, R2, hT2, hE2, hB2⟩ : ∃ C K S R, Two w wc g h p (j + 1) C K S R ∧ Eqv p S R ∧ Bd (j + 1) R := by
             have hT := HTB.out.stepR hrc hxc hmc
             refine ⟨_, _, _, R', { hT with dv := hT.dv.mono (Nat.le_succ _) }, HEB.out R' hR' hpg, ?_⟩
             rw [hR']
             exact HBD.out.gone _ _ _
           clear hrc hmc hR' hpg hxc HRC HTB HT0 HTA

           try go_wp2_with fail
           go_meet
           exact ⟨C2, K2, S2, R2, hT2, hE2, hB2⟩
         · have HDP := hid (dv_power HT0.out.dv)
           go_wp2_with fail
           refine HDP.out.mono ?_
           rintro e wa ⟨rfl, hda, hma⟩
           have HTA := hid (HT0.out.stepD hda (fun _ _ => rfl) hma)
           have HRP := hid (rp_power HTA.out.rp)
           clear hda hma HDP
           go_wp2_with fail
           refine HRP.out.mono ?_
           rintro e wc ⟨rfl, hrc, hmc⟩
           obtain ⟨C2, K2, S2, R2, hT2, hE2, hB2⟩ : ∃ C K S R, Two w wc g h p (j + 1) C K S R ∧ Eqv p S R ∧ Bd (j + 1) R := by
             have hT := HTA.out.stepR hrc (fun _ _ => rfl) hmc
             exact ⟨_, _, _, _, { hT with dv := hT.dv.mono (Nat.zero_le _) }, HE.out.power, HBD.out.gone R.P false (-1)⟩
           clear hrc hmc HRP HTA HT0

           try go_wp2_with fail
           go_meet
           exact ⟨C2, K2, S2, R2, hT2, hE2, hB2⟩
         · have HDP := hid (dv_arm HT0.out.dv x hnb)
           go_wp2_with fail
           refine HDP.out.mono ?_
           rintro e wa ⟨rfl, hda, hma⟩
           have HTA := hid (HT0.out.stepD hda (fun _ _ => rfl) hma)
           have n1 : wa.cell? ⟨wx.heap.size, 1, none⟩ = some (.int .i64 x) := hma.cell m1 (fun hc => hc HFR.out.1)
           obtain ⟨ldv0, llc0, la0, hrow0⟩ := HTA.out.rp.row
           have k3 := hrow0.c3
           have f3 := hrow0.fz 3
           obtain ⟨mx, hmx⟩ : ∃ mx, mx = max x (-1) := ⟨_, rfl⟩
           have hmx1 : max x (-1) = mx := hmx.symm
           have hmx2 : max (-1) x = mx := by omega
           have HMX := hid hmx
           have HAR := hid (HTA.out.rp.arm mx (by omega))
           clear hda hma HDP hrow0 hmx
           go_wp2_with fail
           obtain ⟨wc, hwc⟩ : ∃ wc, wc = wa.setCell ⟨h, 3, none⟩ (.int .i64 mx) := ⟨_, rfl⟩
           rw [← hwc]
           rw [← hwc] at HAR
           obtain ⟨C2, K2, S2, R2, hT2, hE2, hB2⟩ : ∃ C K S R, Two w wc g h p (j + 1) C K S R ∧ Eqv p S R ∧ Bd (j + 1) R := by
             have hT := HTA.out.stepR HAR.out.1 (fun _ _ => rfl) HAR.out.2
             refine ⟨_, _, _, _, { hT with dv := hT.dv.mono (Nat.le_succ _) }, ?_, ?_⟩
             · rw [HMX.out]; exact HE.out.arm x
             · exact HBD.out.more
           clear hwc HAR HTA HT0 n1 k3 f3

           try go_wp2_with fail
           go_meet
           exact ⟨C2, K2, S2, R2, hT2, hE2, hB2⟩
         · obtain ⟨cd, hcd⟩ : ∃ cd, cd = (rre p R x).1 := ⟨_, rfl⟩
           obtain ⟨bv, hbv⟩ : ∃ bv, bv = (rre p R x).2.1 := ⟨_, rfl⟩
           have HDP := hid (dp_read HT0.out.dv HE.out x (by omega) (by have := HBD.out.2.1; omega))
           rw [← hcd, ← hbv] at HDP
           go_wp2_with fail
           refine HDP.out.mono ?_
           rintro e wa ⟨a1, c1', rfl, hsa, hle, ⟨S', hda, hea⟩, hma⟩
           have HTA := hid (HT0.out.stepD hda (fun _ _ => rfl) hma)
           have HSA := hid hsa
           have HEA := hid hea
           have n1 : wa.cell? ⟨wx.heap.size, 1, none⟩ = some (.int .i64 x) := hma.cell m1 (fun hc => hc HFR.out.1)
           have HRP := hid (rp_read HTA.out.rp x (by have := HBD.out.1; omega) (by have := HBD.out.2.1; omega))
           rw [← hcd, ← hbv] at HRP
           have HGN : Hid (∀ b, w0.heap.size ≤ b → C b = 0) := hid fun b hb => HT0.out.dv.new hb
           have HKN : Hid (∀ b, w0.heap.size ≤ b → K b = 0) := hid fun b hb => HT0.out.rp.new hb
           clear hda hma HDP hea hcd hbv hsa
           go_wp2_with fail
           refine HRP.out.mono ?_
           rintro e wc ⟨a2, c2', rfl, hsc, -, hrc, hmc⟩
           have HSM := hid (same_any _ _ a1 a2 c1' c2' bv bv wc (HSA.out.mv hmc fun b hb hc => hc (HKN.out b hb)) hsc (by omega))
           obtain ⟨C2, K2, S2, R2, hT1, hE2, hB2⟩ : ∃ C K S R, Two w wc g h p (j + 1) C K S R ∧ Eqv p S R ∧ Bd (j + 1) R := by
             have hT := HTA.out.stepR hrc (fun _ _ => rfl) hmc
             exact ⟨_, _, _, _, { hT with dv := hT.dv.mono (Nat.le_succ _) }, HEA.out, HBD.out.read x⟩
           have HT1 := hid hT1
           have HE1 := hid hE2
           have HB1 := hid hB2
           clear hrc hmc hsc HRP HTA HT0 n1 hT1 hE2 hB2
           obtain ⟨wm, hwm⟩ : ∃ wm, wm = wc := ⟨_, rfl⟩
           subst hwm
           go_wp2_with fail
           refine HSM.out.mono ?_
           rintro e wc ⟨rfl, hbc⟩
           have hT2 := HT1.out.quiet hbc
           have hE2 := HE1.out
           have hB2 := HB1.out
           clear hbc HT1 HE1 HB1 HSM

           try go_wp2_with fail
           go_meet
           exact ⟨C2, K2, S2, R2, hT2, hE2, hB2⟩
        case rest =>
          obtain ⟨C2, K2, S2, R2, hT2, hE2, hB2⟩ := hcut
          have HT2 := hid hT2
          have HE2 := hid hE2
          have HB2 := hid hB2
          clear hT2 hE2 hB2
          have HCN : Hid (Calls Try.prog 26 #[.pointer (some ⟨g, 0, none⟩)] wc fun e w' => e = .returned (.tuple #[.int .i64 R2.r, .int .i64 R2.s, .int .i64 R2.t]) ∧ Below wc.heap.size wc w') := hid (by rw [← HE2.out.r, ← HE2.out.s, ← HE2.out.t]; exact dv_counts HT2.out.dv)
          clear m0 m1 m2 m3 hzz
          go_wp2_with fail
          refine HCN.out.mono ?_
          rintro e wd ⟨rfl, hbd⟩
          have HTD := hid (HT2.out.quiet hbd)
          obtain ⟨ldv, llc, la, hrow⟩ := HTD.out.rp.row
          have HWT : Hid (∀ w', w' = wd.drew → Calls Try.prog 27 #[.pointer (some ⟨g, 0, none⟩)] w' fun e w2 => e = .returned (.int .i64 (R2.L.length : Int)) ∧ Below wd.drew.heap.size wd.drew w2) := hid (by
            rintro w' rfl
            rw [← waiting_eq HTD.out.rp HE2.out]
            exact dv_waiting (HTD.out.dv.below ((Below.refl _ _).drew)) (by omega))
          have HOO : Hid (Calls Try.prog 10 #[.pointer (some ⟨g, 0, none⟩)] wd.drew fun e w' => e = .returned (.bool (!R2.off)) ∧ w' = wd.drew) := hid (by
            rw [← HE2.out.on]
            exact calls_sym (dv_on (HTD.out.dv.below ((Below.refl _ _).drew))))
          obtain ⟨l, hl⟩ : ∃ l, l = R2.L.length := ⟨_, rfl⟩
          rw [← hl] at hrow HWT
          obtain ⟨off, hoff⟩ : ∃ off, off = R2.off := ⟨_, rfl⟩
          rw [← hoff] at hrow HOO
          have c1 := hrow.c1
          have c2 := hrow.c2
          have c4 := hrow.c4
          have c5 := hrow.c5
          have c6 := hrow.c6
          have hoo : ((!off) == off) = false := by cases off <;> rfl
          clear hbd hl hoff hrow HT2 HCN
          go_wp2_with fail
          go_region_held3 (fun w' => w'.cell? ⟨h, 1, none⟩ = some (.slice la l llc) ∧ w'.cell? ⟨h, 2, none⟩ = some (.bool off) ∧ w'.cell? ⟨h, 4, none⟩ = some (.int .i64 R2.r) ∧ w'.cell? ⟨h, 5, none⟩ = some (.int .i64 R2.s) ∧ w'.cell? ⟨h, 6, none⟩ = some (.int .i64 R2.t))
            (first | exact ⟨c1, c2, c4, c5, c6⟩ | assumption)
            (first | (go_at_call 10; refine HOO.out.mono ?_; rintro e wo ⟨rfl, rfl⟩; have hcc : wd.drew.cell? ⟨h, 1, none⟩ = some (.slice la l llc) ∧ wd.drew.cell? ⟨h, 2, none⟩ = some (.bool off) ∧ wd.drew.cell? ⟨h, 4, none⟩ = some (.int .i64 R2.r) ∧ wd.drew.cell? ⟨h, 5, none⟩ = some (.int .i64 R2.s) ∧ wd.drew.cell? ⟨h, 6, none⟩ = some (.int .i64 R2.t) := ⟨c1, c2, c4, c5, c6⟩) | (go_at_call 27; refine (HWT.out _ rfl).mono ?_; rintro e wf ⟨rfl, hbf⟩; have hcf : wf.cell? ⟨h, 1, none⟩ = some (.slice la l llc) ∧ wf.cell? ⟨h, 2, none⟩ = some (.bool off) ∧ wf.cell? ⟨h, 4, none⟩ = some (.int .i64 R2.r) ∧ wf.cell? ⟨h, 5, none⟩ = some (.int .i64 R2.s) ∧ wf.cell? ⟨h, 6, none⟩ = some (.int .i64 R2.t) := ⟨(hbf.cell (cell_lt hcc.1)).trans hcc.1, (hbf.cell (cell_lt hcc.2.1)).trans hcc.2.1, (hbf.cell (cell_lt hcc.2.2.1)).trans hcc.2.2.1, (hbf.cell (cell_lt hcc.2.2.2.1)).trans hcc.2.2.2.1, (hbf.cell (cell_lt hcc.2.2.2.2)).trans hcc.2.2.2.2⟩))
          have HTF := hid ((HTD.out.quiet ((Below.refl _ _).drew)).quiet hbf)
          clear hbf hcf hcc c1 c2 c4 c5 c6
          go_wp2_with fail
          go_roundw
          case rel => exact ⟨j + 1, C2, K2, S2, R2, by omega, by omega, by go_num, HTF.out, HE2.out, HB2.out⟩
          case measure => simp [intOf] <;> omega
      · have hge : (40 : Int) ≤ j := by omega
        have hge2 : (j < 40) = False := by simp; omega
        clear hlt2
        have H9 := hid (known_any wx)
        go_wp2_with fail
        refine H9.out.mono ?_
        rintro e wa ⟨rfl, hba⟩
        have HTA := hid (HT.out.quiet hba)
        have HDI := hid (dv_image HTA.out.dv)
        clear hba H9
        go_wp2_with fail
        refine HDI.out.mono ?_
        rintro e wb ⟨v, rfl, hv, hbb⟩
        have HTB := hid (HTA.out.quiet hbb)
        have HRI := hid (rp_image HTB.out.rp)
        have HV := hid hv
        clear hv hbb HDI
        go_wp2_with fail
        refine HRI.out.mono ?_
        rintro e wc ⟨v2, rfl, hv2, hbc⟩
        have HTC := hid (HTB.out.quiet hbc)
        have hv1 : Row 5 wa.heap.size wc v S.B := Row.kept HV.out hbc
        rw [image_eq HTA.out.dv HTA.out.rp HE.out] at hv1
        obtain ⟨I, hI⟩ : ∃ I, I = R.P.flatten := ⟨_, rfl⟩
        rw [← hI] at hv1 hv2
        obtain ⟨i1, i2, rfl, _, hi1, hi2, his⟩ := hv1.sl
        obtain ⟨i3, i4, rfl, _, _, _, hjs⟩ := hv2.sl
        have HSM := hid (same_any _ _ i1 i3 i2 i4 I I wc his hjs (by unfold maxLen at hi2; omega))
        clear hv1 hv2 hbc HRI HV hI his hjs
        go_wp2_with fail
        refine HSM.out.mono ?_
        rintro e wd ⟨rfl, hbd⟩
        have HTD := hid (HTC.out.quiet hbd)
        clear hbd HSM
        go_wp2_with fail
        go_ret
        exact ⟨by simp, HTD.out.bel⟩
    · have hge : (nl : Int) ≤ j := by omega
      have hge2 : (j < nl) = False := by simp; omega
      clear hlt
      have H9 := hid (known_any wx)
      go_wp2_with fail
      refine H9.out.mono ?_
      rintro e wa ⟨rfl, hba⟩
      have HTA := hid (HT.out.quiet hba)
      have HDI := hid (dv_image HTA.out.dv)
      clear hba H9
      go_wp2_with fail
      refine HDI.out.mono ?_
      rintro e wb ⟨v, rfl, hv, hbb⟩
      have HTB := hid (HTA.out.quiet hbb)
      have HRI := hid (rp_image HTB.out.rp)
      have HV := hid hv
      clear hv hbb HDI
      go_wp2_with fail
      refine HRI.out.mono ?_
      rintro e wc ⟨v2, rfl, hv2, hbc⟩
      have HTC := hid (HTB.out.quiet hbc)
      have hv1 : Row 5 wa.heap.size wc v S.B := Row.kept HV.out hbc
      rw [image_eq HTA.out.dv HTA.out.rp HE.out] at hv1
      obtain ⟨I, hI⟩ : ∃ I, I = R.P.flatten := ⟨_, rfl⟩
      rw [← hI] at hv1 hv2
      obtain ⟨i1, i2, rfl, _, hi1, hi2, his⟩ := hv1.sl
      obtain ⟨i3, i4, rfl, _, _, _, hjs⟩ := hv2.sl
      have HSM := hid (same_any _ _ i1 i3 i2 i4 I I wc his hjs (by unfold maxLen at hi2; omega))
      clear hv1 hv2 hbc HRI HV hI his hjs
      go_wp2_with fail
      refine HSM.out.mono ?_
      rintro e wd ⟨rfl, hbd⟩
      have HTD := hid (HTC.out.quiet hbd)
      clear hbd HSM
      go_wp2_with fail
      go_ret
      exact ⟨by simp, HTD.out.bel⟩
end Go.Proofs.Ytgppmnaidgkboaa
