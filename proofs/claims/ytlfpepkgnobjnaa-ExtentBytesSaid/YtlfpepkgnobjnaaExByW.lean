/- THE LAW ExtentBytes: the walk. -/
import Derived.Test.YtlfpepkgnobjnaaExK
import Derived.Test.YtlfpepkgnobjnaaVarF
import Derived.Test.YtlfpepkgnobjnaaGrow
namespace Go.Proofs.Ytlfpepkgnobjnaa
open Go.RowKit Go.Inc

theorem ownEmpty (w : World) : (w.alloc (.cells #[] 5)).ownsRow w.heap.size 5 1 (.slice (some ⟨w.heap.size, 0, none⟩) 0 0) 0 (u8s []) :=
  World.ownsRow_lit w #[] 0 (Nat.le_refl _) (Nat.zero_le _) rfl
theorem rowFirst {w : World} {E B m : Nat} {v : Value} {ys : List Nat} (h : w.ownsRow B E 1 v m (u8s [] ++ u8s ys)) (hm : m = ys.length) : Row E B w v ys := by
  subst hm
  exact h
theorem i64s_z (vs : List Nat) : i64s vs = zvals (vs.map fun n : Nat => (n : Int)) := by simp [i64s, zvals]
/-- A list's numbers, where they lie. -/
theorem irow_z {B : Nat} {w : World} {v : Value} {vs : List Nat} (h : IRow B w v vs) : ∃ a c, v = .slice a vs.length c ∧ Si (Up B) w a (vs.map fun n : Nat => (n : Int)) ∧ vs.length ≤ c ∧ c ≤ maxLen := by
  unfold IRow at h
  rw [i64s_z] at h
  obtain ⟨a, c, e1, _, h1, h2, h3, _⟩ := ownedZ h
  rw [List.length_map] at e1 h2
  exact ⟨a, c, e1, h1, h2, h3⟩
theorem mapGet (vs : List Nat) (k : Nat) : (vs.map fun n : Nat => (n : Int)).getD k 0 = ((vs.getD k 0 : Nat) : Int) := by
  rw [List.getD_eq_getElem?_getD, List.getD_eq_getElem?_getD, List.getElem?_map]
  cases vs[k]? <;> rfl
set_option maxRecDepth 20000 in
set_option maxHeartbeats 8000000 in
theorem bytes_good (P : PX) (a : Option Addr) (c : Nat) (xs : List Xt) (ab : Option Addr) (cb : Nat) (bs : List Nat) (W : World) (hx : XtS (fun _ => True) W a xs) (hf : ∀ x ∈ xs, fitsX x) (hl : (xs.length : Int) ≤ 9223372036854775807) (hs : Sl (fun _ => True) W ab bs) (hby : Bytes bs) (hcb : bs.length ≤ cb ∧ cb ≤ maxLen) (hn0 : ab = none → cb = 0) (hchk : chkX (xs.take 30) = 0) :
    Calls Try.prog 5 #[.slice a xs.length c, .slice ab bs.length cb] W fun e w' => e = .returned (.bool true) ∧ Below W.heap.size W w' := by
  have HP := hid P
  obtain ⟨i0, hi, hz0, hz1, hz2⟩ := info_parts infoRX
  have HI := hid (And.intro hi (And.intro hz0 (And.intro hz1 hz2)))
  obtain ⟨ys, hys⟩ : ∃ ys, ys = xs.take 30 := ⟨_, rfl⟩
  have HTO := hid (lawTo_x c hx hl)
  have HF : Hid (∀ x ∈ ys, fitsX x) := hid (by rw [hys]; exact fun x h => hf x (List.mem_of_mem_take h))
  have hyl : (ys.length : Int) ≤ 30 := by rw [hys, List.length_take]; omega
  rw [← hys] at HTO hchk
  obtain ⟨n, hn⟩ : ∃ n, n = xs.length := ⟨_, rfl⟩
  obtain ⟨m, hm⟩ : ∃ m, m = ys.length := ⟨_, rfl⟩
  have HM := hid hm
  rw [← hn] at HTO ⊢
  rw [← hm] at HTO hyl
  have HCL : Hid ((ys.length : Int) ≤ 65536) := hid (by omega)
  obtain ⟨bh, hbh⟩ : ∃ bh, bh = bs.take 100 := ⟨_, rfl⟩
  have hmin : min (bs.length : Int) 100 = (bh.length : Int) := by rw [hbh, List.length_take]; omega
  have HS : Hid (Sl (fun b => b < W.heap.size) W ab bh) := hid (by rw [hbh]; exact (hs.mono fun _ _ h => h).front 100)
  have HBY : Hid (Bytes bh) := hid (by rw [hbh]; exact hby.take 100)
  have hb100 : (bh.length : Int) ≤ 100 := by omega
  have hbc : (bh.length : Int) ≤ cb := by omega
  have hbl : (bh.length : Int) ≤ bs.length := by omega
  have hcb2 : (cb : Int) ≤ 9223372036854775807 := by have := hcb.2; unfold maxLen at this; omega
  have HCB : Hid (bh.length ≤ cb ∧ cb ≤ maxLen) := hid ⟨by omega, hcb.2⟩
  have HN0 := hid hn0
  obtain ⟨nb, hnb⟩ : ∃ nb, nb = bs.length := ⟨_, rfl⟩
  obtain ⟨lb, hlb⟩ : ∃ lb, lb = bh.length := ⟨_, rfl⟩
  have HLB := hid hlb
  rw [← hnb] at hmin hbl ⊢
  rw [← hlb] at hmin hb100 hbc hbl
  have hnbc : (nb : Int) ≤ cb := by have := hcb.1; omega
  have HC := hid hchk
  clear P hys hn hm hx hf hl hs hby hcb hn0 hbh hnb hlb hchk hi hz0 hz1 hz2
  go_enter Try.func5, Try.ntmps5
  go_wp2_with fail
  refine HTO.out.mono ?_
  clear HTO
  rintro e w1 ⟨⟨a1, c1, rfl, hx1⟩, hb1⟩
  have HX1 := hid hx1
  have HB1 := hid hb1
  have HLO := hid (lawOf_x c1 HX1.out HCL.out)
  rw [← HM.out] at HLO
  clear hx1 hb1
  go_wp2_with fail
  refine HLO.out.mono ?_
  clear HLO
  rintro e w2 ⟨⟨a2, c2, rfl, hx2⟩, hb2⟩
  have HX2 := hid (HX1.out.below hb2)
  have HY2 := hid hx2
  have HB2 := hid (HB1.out.trans (hb2.mono HB1.out.size))
  have HEN := hid (HP.out.pEncode _ a1 c1 ys w2 HX2.out (by have := HM.out; omega) HF.out)
  rw [← HM.out, HC.out] at HEN
  clear hx2 hb2 HX1 HB1
  go_wp2_with fail
  refine HEN.out.mono ?_
  clear HEN
  rintro e w3 ⟨⟨v3, rfl, hv3⟩, hb3⟩
  simp only [if_true] at hv3
  have HV3 := hid hv3
  have HY3 := hid (HY2.out.below hb3)
  have HB3 := hid (HB2.out.trans (hb3.mono HB2.out.size))
  have HCK := hid (rCheck_any _ a2 c2 ys w3 HY3.out HCL.out HF.out)
  rw [← HM.out, HC.out] at HCK
  clear hv3 hb3 HX2 HY2 HB2
  go_wp2_with fail
  refine HCK.out.mono ?_
  clear HCK
  rintro e w4 ⟨rfl, hb4⟩
  have HV4 := hid (HV3.out.kept hb4)
  have HY4 := hid (HY3.out.below hb4)
  have HB4 := hid (HB3.out.trans (hb4.mono HB3.out.size))
  clear hb4 HV3 HY3 HB3
  have HOK := hid (badX_false.1 (chkX_zero HC.out).1)
  have HLE : Hid ((encX ys).length ≤ 610) := hid (by have := encX_len HOK.out (by have := HM.out; omega); have := HM.out; omega)
  obtain ⟨HD0, HD1, HD2⟩ := enc_dec ys bh HC.out (by have := HM.out; omega)
  have HEB := hid ((encX_bytes ys).append HBY.out)
  have HD0 := hid HD0
  have HD1 := hid HD1
  have HD2 := hid HD2
  obtain ⟨a5, c5, rfl, -, -, -, hs5⟩ := HV4.out.sl
  have HOW := hid (ownEmpty w4)
  have HBA := hid (allocBelow w4 (.cells #[] 5))
  have HS5 := hid (hs5.below HBA.out)
  clear hs5
  go_wp2_with (refine wpList_append_any rfl (.tmp 43) (.tmp 44) 45 rfl w4.heap.size 5 (.int .u8 0) 1 Try.underlying45 infoU8 rfl _ _ _ rfl HOW.out a5 _ _ (u8s (encX ys)) rfl (u8s_length _) (HS5.out.some_len) HS5.out.cells (u8s_one _) (by have := HLE.out; unfold maxLen; omega) (by have := HLE.out; omega) (by simp) ?_)
  intro v6 w6 hv6 hg6 _
  have hb6 := below_owned HBA.out HOW.out (Nat.le_refl _) hg6
  have HR6 : Hid (Row 5 w4.heap.size w6 v6 (encX ys)) := hid (rowFirst hv6 rfl)
  have HSB6 := hid (HS.out.below (HB4.out.trans (hb6.mono HB4.out.size)))
  have HB6 := hid hb6
  clear hv6 hg6 hb6 HS5
  rw [HLB.out]
  go_wp2_with (refine wpList_append_any rfl (.tmp 45) (.tmp 46) 45 rfl w4.heap.size 5 (.int .u8 0) 1 Try.underlying45 infoU8 rfl _ _ _ rfl HR6.out ab _ _ (u8s bh) rfl (u8s_length _) (HSB6.out.some_len) HSB6.out.cells (u8s_one _) (by have := HLE.out; have := HLB.out; unfold maxLen; omega) (by have := HLE.out; have := HLB.out; omega) (by have := HB6.out.size; omega) ?_)
  intro v7 w7 hv7 hg7 _
  have hb7 := below_owned HB6.out HR6.out (Nat.le_refl _) hg7
  have hr7 : Row 5 w4.heap.size w7 v7 (encX ys ++ bh) := row_more hv7 rfl rfl
  obtain ⟨a7, c7, rfl, hn7, hc7, hm7, hs7⟩ := hr7.sl
  have HDE := hid (dec_x HP.out c7 hs7 ⟨hc7, hm7⟩ hn7 HEB.out (by rw [List.length_append]; have := HLE.out; have := HLB.out; omega))
  rw [HD0.out, HD1.out, HD2.out, ← HM.out] at HDE
  obtain ⟨ln, hln⟩ : ∃ ln, ln = (encX ys ++ bh).length := ⟨_, rfl⟩
  rw [← hln] at HDE ⊢
  have HB7 := hid (HB4.out.trans (hb7.mono HB4.out.size))
  have HV7 := hid (HV4.out.kept hb7)
  have HY7 := hid (HY4.out.below hb7)
  clear hv7 hg7 hb7 hr7 hn7 hc7 hm7 hs7 hln HSB6 HR6 HB6 HOW HBA HV4 HY4 HB4
  rw [← HLB.out]
  go_wp2_with fail
  refine HDE.out.mono ?_
  clear HDE
  rintro e w8 ⟨⟨a8, c8, u8, rfl, hx8, hu8⟩, hb8⟩
  have HX8 := hid hx8
  have HU8 := hid hu8
  have HB8 := hid (HB7.out.trans (hb8.mono HB7.out.size))
  have HV8 := hid (HV7.out.kept hb8)
  have HY8 := hid (HY7.out.below hb8)
  have HRE : Hid (Calls Try.prog 24 #[.slice a2 m c2] w8 fun e w' => ∃ v, e = .returned v ∧ Row 5 w8.heap.size w' v (encX ys) ∧ Below w8.heap.size w8 w') := hid (by
    rw [HM.out]
    exact rEncode_any _ a2 c2 ys w8 HY8.out HOK.out HCL.out)
  clear hx8 hu8 hb8 HV7 HY7 HB7
  go_wp2_with fail
  refine HRE.out.mono ?_
  clear HRE
  rintro e w9 ⟨v9, rfl, hv9, hb9⟩
  obtain ⟨a9, c9, rfl, -, -, -, hs9⟩ := hv9.sl
  obtain ⟨a10, c10, hq10, -, -, -, hs10⟩ := (HV8.out.kept hb9).sl
  cases hq10
  have HSM := hid (bSame_eq (encX ys).length c5 c9 (encX ys) hs10 hs9 rfl (by have := HLE.out; omega))
  have HX9 := hid (HX8.out.below hb9)
  have HU9 := hid (HU8.out.kept hb9)
  have HB9 := hid (HB8.out.trans (hb9.mono HB8.out.size))
  have HY9 := hid (HY8.out.below hb9)
  clear hv9 hs9 hs10 hb9 HX8 HU8 HB8 HY8 HV8
  go_wp2_with fail
  refine HSM.out.mono ?_
  clear HSM
  rintro e w10 ⟨rfl, hb10⟩
  have HX10 := hid (HX9.out.below hb10)
  have HU10 := hid (HU9.out.kept hb10)
  have HB10 := hid (HB9.out.trans (hb10.mono HB9.out.size))
  have HY10 := hid (HY9.out.below hb10)
  have HLO := hid (lawOf_x c8 HX10.out HCL.out)
  rw [← HM.out] at HLO
  clear hb10 HX9 HU9 HB9 HY9
  go_wp2_with fail
  refine HLO.out.mono ?_
  clear HLO
  rintro e w11 ⟨⟨a11, c11, rfl, hx11⟩, hb11⟩
  have HSX := hid (rSame_eq m c11 c2 ys hx11 (HY10.out.below hb11) HM.out (by omega))
  have HU11 := hid (HU10.out.kept hb11)
  have HB11 := hid (HB10.out.trans (hb11.mono HB10.out.size))
  clear hx11 hb11 HX10 HU10 HB10 HY10
  go_wp2_with fail
  refine HSX.out.mono ?_
  clear HSX
  rintro e w12 ⟨rfl, hb12⟩
  obtain ⟨a12, c12, rfl, -, -, -, hs12⟩ := (HU11.out.kept hb12).sl
  have HB12 := hid (HB11.out.trans (hb12.mono HB11.out.size))
  have HSB := hid (bSame_eq lb c12 cb bh hs12 (HS.out.below HB12.out) HLB.out (by omega))
  rw [← HLB.out]
  clear hs12 hb12 HU11 HB11 HLE HEB HD0 HD1 HD2
  go_wp2_with fail
  refine HSB.out.mono ?_
  clear HSB
  rintro e w13 ⟨rfl, hb13⟩
  have HBt := hid (HB12.out.trans (hb13.mono HB12.out.size))
  clear hb13 HB12 HOK
  have HDE := hid (dec_x HP.out cb (HS.out.below HBt.out) HCB.out HN0.out HBY.out (by have := HLB.out; omega))
  rw [← HLB.out] at HDE
  go_wp2_with fail
  refine HDE.out.mono ?_
  clear HDE
  rintro e w20 ⟨⟨a20, c20, u20, rfl, hx20, hu20⟩, hb20⟩
  have HX20 := hid hx20
  have HU20 := hid hu20
  have HB20 := hid (HBt.out.trans (hb20.mono HBt.out.size))
  have HGL := hid (getList_any _ ab cb bh w20 (HS.out.below HB20.out) HCB.out HN0.out HBY.out (by have := HLB.out; omega))
  rw [← HLB.out] at HGL
  clear hx20 hu20 hb20 HBt
  go_wp2_with fail
  refine HGL.out.mono ?_
  clear HGL
  rintro e w21 ⟨⟨u21, v21, rfl, hu21, hv21⟩, hb21⟩
  obtain ⟨a21, c21, rfl, hz21, hlc21, hcm21⟩ := irow_z hu21
  have HZ21 := hid hz21
  have HV21 := hid hv21
  have HX21 := hid (HX20.out.below hb21)
  have HU21 := hid (HU20.out.kept hb21)
  have HB21 := hid (HB20.out.trans (hb21.mono HB20.out.size))
  have hll := listVals_len (bs := bh)
  obtain ⟨lv, hlv⟩ : ∃ lv, lv = listVals bh := ⟨_, rfl⟩
  have HLV := hid hlv
  rw [← hlv] at HZ21 hlc21 hll ⊢
  obtain ⟨L, hL⟩ : ∃ L, L = lv.length := ⟨_, rfl⟩
  have HLL := hid hL
  rw [← hL] at hlc21 hll ⊢
  have hL100 : (L : Int) ≤ 100 := by have := HLB.out; omega
  have hcm22 : (c21 : Int) ≤ 9223372036854775807 := by unfold maxLen at hcm21; omega
  clear hu21 hz21 hv21 hb21 HX20 HU20 HB20 hlv hL hll hcm21
  by_cases hg : listErr bh = 0
  · have hge : Value.int .i64 ((listErr bh : Nat) : Int) = .int .i64 0 := by rw [hg]; rfl
    rw [hge]
    have HG := hid hg
    clear hge
    by_cases hodd : L % 2 = 1
    · have HDO : Hid (decE bh = 3) := hid (decE_odd hg (by rw [← HLV.out, ← HLL.out]; exact hodd))
      have HDX : Hid (decX bh = []) := hid (decX_bad (by rw [HDO.out]; decide))
      rw [HDO.out, HDX.out]
      simp only [List.length_nil]
      have hmod : (L : Int) % 2 = 1 := by omega
      clear hg hodd
      go_wp2_with fail
      refine (known_any HP.out w21).mono ?_
      rintro e wk ⟨rfl, hbk⟩
      have HBK := hid (HB21.out.trans (hbk.mono HB21.out.size))
      clear hbk
      go_wp2_with fail

      go_ret
      exact ⟨rfl, HBK.out⟩
    · have HDC : Hid (decE bh = chkX (pairsX lv)) := hid (by rw [HLV.out]; exact decE_chk hg (by rw [← HLV.out, ← HLL.out]; omega))
      have HEV : Hid (L % 2 = 0) := hid (by omega)
      have hmod : (L : Int) % 2 = 0 := by omega
      have HFI : Hid (∀ x ∈ pairsX lv, fitsX x) := hid (by rw [HLV.out]; exact pairs_fits)
      have HPL : Hid ((pairsX lv).length * 2 = L) := hid (by rw [HLL.out]; exact pairsX_len lv (by rw [← HLL.out]; omega))
      rw [HDC.out]
      obtain ⟨E, hE⟩ : ∃ E, E = chkX (pairsX lv) := ⟨_, rfl⟩
      have HE := hid hE
      rw [← hE] at HDC ⊢
      obtain ⟨md, hmd⟩ : ∃ md, md = (decX bh).length := ⟨_, rfl⟩
      have HMD := hid hmd
      rw [← hmd]
      clear hg hodd hE hmd
      go_wp2_with fail
      clear hmod
      go_loopw [19, 20] (fun v i wr => ∃ k j : Nat, j = k * 2 ∧ j ≤ L ∧ i = .int .i64 (j : Int) ∧ wr.ownsRow w21.heap.size 55 2 v k (xcells (pairsX (lv.take j))) ∧ Below w21.heap.size w21 wr) (fun _ i _ => L - (intOf i).toNat)
      case atStart => exact ⟨0, 0, rfl, Nat.zero_le _, rfl, World.ownsRow_nil _ _ _ _, Below.refl _ _⟩
      case round =>
        obtain ⟨k, j, hj, hjl, rfl, hv, hb⟩ := hrel
        have HJ := hid hj
        have HV := hid hv
        have HB := hid hb
        clear hv hb hj
        by_cases hlt : j + 1 < L
        · have hlti : (j : Int) + 1 < L := by omega
          have hltn : (j + 1 < L) = True := eq_true hlt
          have hlt1 : (j < L) = True := eq_true (by omega)
          obtain ⟨b, o, rfl, hc1⟩ := siCell (HZ21.out.below HB.out) (k := j) (by rw [List.length_map, ← HLL.out]; omega)
          obtain ⟨b', o', he, hc2⟩ := siCell (HZ21.out.below HB.out) (k := j + 1) (by rw [List.length_map, ← HLL.out]; omega)
          cases he
          rw [mapGet] at hc1 hc2
          have HWR : Hid (IntKind.i64.wrap ((j : Int) + 1) = (j : Int) + 1) := hid (by rw [IntKind.wrap_i64]; omega)
          have HSN : Hid (pairsX (lv.take ((k + 1) * 2)) = pairsX (lv.take (k * 2)) ++ [(((lv.getD j 0 : Nat) : Int), ((lv.getD (j + 1) 0 : Nat) : Int))]) := hid (by
            rw [HJ.out]
            exact pairsX_snoc lv k (by have := HJ.out; rw [← HLL.out]; omega))
          obtain ⟨F, hF⟩ : ∃ F, F = ((lv.getD j 0 : Nat) : Int) := ⟨_, rfl⟩
          obtain ⟨G, hG⟩ : ∃ G, G = ((lv.getD (j + 1) 0 : Nat) : Int) := ⟨_, rfl⟩
          rw [← hF] at hc1 HSN
          rw [← hG] at hc2 HSN
          have HC2 : Hid (∀ x, Grew wr.drew x → x.cell? ⟨b, o + j, none⟩ = some (.int .i64 F) ∧ x.cell? ⟨b, o + (j + 1), none⟩ = some (.int .i64 G)) := hid fun x hx => by
            have hb : Below wr.heap.size wr x := ⟨hx.os, hx.tape, hx.output, hx.size, hx.block⟩
            exact ⟨(hb.cell (cell_lt hc1)).trans hc1, (hb.cell (cell_lt hc2)).trans hc2⟩
          clear hF hG hc1 hc2 hlt
          go_wp2_with fail
          refine wp_region_grows 12 [EqX (u19), EqX (.slice (some ⟨b, o, none⟩) L c21), EqX (.int .i64 (j : Int)), EqX (.pointer (some ⟨b, o + j, none⟩)), EqX (.int .i64 F), EqX (.slice (some ⟨b, o, none⟩) L c21), EqX (.int .i64 (j : Int)), EqX (.int .i64 ((j : Int) + 1)), EqX (.pointer (some ⟨b, o + (j + 1), none⟩)), EqX (.int .i64 G), EqX (.agg #[.int .i64 F, .int .i64 G]), RowX F G 55] (by kernel_rfl) (by decide) (by kernel_rfl) ?_ ?_ ?_
          · repeat' (first | exact List.forall_mem_nil _ | refine List.forall_mem_cons.2 ⟨?_, ?_⟩)
            all_goals
              intro w w' v hw h
              first | exact h | exact RowX.kept h hw
          · simp only [AllLt]
            refine ⟨⟨⟨⟨⟨⟨⟨⟨⟨⟨⟨⟨trivial, ?_⟩, ?_⟩, ?_⟩, ?_⟩, ?_⟩, ?_⟩, ?_⟩, ?_⟩, ?_⟩, ?_⟩, ?_⟩, ?_⟩
            all_goals
              intro o' ho
              simp at ho
              subst ho
              intro ρ w5 hR hL hS hG
              obtain ⟨hl1, hl2, -⟩ := hL
            · refine plainG rfl ?_
              intro bA K Q' hK
              have e19 := hS 19 (by kernel_rfl)
              change ρ (.tmp 19) = _ at e19
              simp only [execOp]
              go_simp
              exact hK _ _ rfl (Grew.refl _)
            · refine plainG rfl ?_
              intro bA K Q' hK
              have e16 := hS 16 (by kernel_rfl)
              change ρ (.tmp 16) = _ at e16
              simp only [execOp]
              go_simp
              exact hK _ _ rfl (Grew.refl _)
            · refine plainG rfl ?_
              intro bA K Q' hK
              have e20 := hS 20 (by kernel_rfl)
              change ρ (.tmp 20) = _ at e20
              simp only [execOp]
              go_simp
              exact hK _ _ rfl (Grew.refl _)
            · refine plainG rfl ?_
              intro bA K Q' hK
              have e121 := hG 1 121 (by decide) (by kernel_rfl) (by kernel_rfl)
              have e122 := hG 2 122 (by decide) (by kernel_rfl) (by kernel_rfl)
              change ρ (.tmp 121) = _ at e121
              change ρ (.tmp 122) = _ at e122
              simp only [execOp]
              go_simp
              exact hK _ _ rfl (Grew.refl _)
            · refine plainG rfl ?_
              intro bA K Q' hK
              have e123 := hG 3 123 (by decide) (by kernel_rfl) (by kernel_rfl)
              change ρ (.tmp 123) = _ at e123
              obtain ⟨y0, y1⟩ := HC2.out w5 hR
              simp only [execOp]
              go_simp
              exact hK _ _ rfl (Grew.refl _)
            · refine plainG rfl ?_
              intro bA K Q' hK
              have e16 := hS 16 (by kernel_rfl)
              change ρ (.tmp 16) = _ at e16
              simp only [execOp]
              go_simp
              exact hK _ _ rfl (Grew.refl _)
            · refine plainG rfl ?_
              intro bA K Q' hK
              have e20 := hS 20 (by kernel_rfl)
              change ρ (.tmp 20) = _ at e20
              simp only [execOp]
              go_simp
              exact hK _ _ rfl (Grew.refl _)
            · refine plainG rfl ?_
              intro bA K Q' hK
              have e126 := hG 6 126 (by decide) (by kernel_rfl) (by kernel_rfl)
              change ρ (.tmp 126) = _ at e126
              simp only [execOp]
              go_simp
              exact hK _ _ (show Value.int .i64 (IntKind.i64.wrap ((j : Int) + 1)) = .int .i64 ((j : Int) + 1) by rw [HWR.out]) (Grew.refl _)
            · refine plainG rfl ?_
              intro bA K Q' hK
              have e125 := hG 5 125 (by decide) (by kernel_rfl) (by kernel_rfl)
              have e127 := hG 7 127 (by decide) (by kernel_rfl) (by kernel_rfl)
              change ρ (.tmp 125) = _ at e125
              change ρ (.tmp 127) = _ at e127
              simp only [execOp]
              go_simp
              exact hK _ _ rfl (Grew.refl _)
            · refine plainG rfl ?_
              intro bA K Q' hK
              have e128 := hG 8 128 (by decide) (by kernel_rfl) (by kernel_rfl)
              change ρ (.tmp 128) = _ at e128
              obtain ⟨y0, y1⟩ := HC2.out w5 hR
              simp only [execOp]
              go_simp
              exact hK _ _ rfl (Grew.refl _)
            · refine plainG rfl ?_
              intro bA K Q' hK
              have e124 := hG 4 124 (by decide) (by kernel_rfl) (by kernel_rfl)
              have e129 := hG 9 129 (by decide) (by kernel_rfl) (by kernel_rfl)
              change ρ (.tmp 124) = _ at e124
              change ρ (.tmp 129) = _ at e129
              simp only [execOp]
              go_simp
              exact hK _ _ rfl (Grew.refl _)
            · refine plainG rfl ?_
              intro bA K Q' hK
              have e130 := hG 10 130 (by decide) (by kernel_rfl) (by kernel_rfl)
              change ρ (.tmp 130) = _ at e130
              simp only [execOp]
              go_simp
              exact hK _ _ ⟨_, rfl, heap_alloc_new w5 _⟩ ((Grew.refl _).alloc _)
          · intro v w3 hR hG
            have h0 : v 0 = u19 := hG.1.1.1.1.1.1.1.1.1.1.1.2
            obtain ⟨bx, h12, hrow⟩ : RowX F G 55 w3 (v 11) := hG.2
            have hb : Below wr.heap.size wr w3 := ⟨hR.os, hR.tape, hR.output, hR.size, hR.block⟩
            have HV3 : Hid (w3.ownsRow w21.heap.size 55 2 u19 k (xcells (pairsX (lv.take j)))) := hid (owns_mv (F := fun _ => False) HV.out (Mv.of_below hb) fun _ _ => id)
            have HB3 : Hid (Below w21.heap.size w21 w3) := hid (HB.out.trans (hb.mono HB.out.size))
            have HROW := hid hrow
            have hk100 : (k : Int) ≤ 100 := by have := HJ.out; omega
            clear hG hR hb hrow HC2 HV HB
            simp [stG, stU, dstAt, Act.put, h0, h12]
            clear h0 h12
            go_wp2_with (refine wpList_append_own _ rfl (.tmp 120) (.tmp 131) 27 rfl w21.heap.size 55 i0 (.agg #[.int .i64 0, .int .i64 0]) 2 16 Try.underlying27 HI.out.1 HI.out.2.1 HI.out.2.2.1 HI.out.2.2.2 rfl (by decide) _ k (xcells (pairsX (lv.take j))) rfl HV3.out ⟨bx, 0, none⟩ 1 1 [.int .i64 F, .int .i64 G] rfl rfl (rowX_cells HROW.out) (by simp [Value.oneCell']) (by unfold maxLen; omega) (by omega) (by have := HB3.out.size; omega) ?_)
            intro v4 w4 hv4 hg4 _
            have HV4 : Hid (w4.ownsRow w21.heap.size 55 2 v4 (k + 1) (xcells (pairsX (lv.take (j + 2))))) := hid (by
              rw [show j + 2 = (k + 1) * 2 by have := HJ.out; omega, HSN.out, xcells_app, ← HJ.out]; exact hv4)
            have HB4 : Hid (Below w21.heap.size w21 w4) := hid (below_owned (w0 := w21) HB3.out HV3.out (Nat.le_refl _) hg4)
            clear hv4 hg4 HV3 HB3
            go_wp2_with fail
            go_roundw
            case rel => exact ⟨k + 1, j + 2, by have := HJ.out; omega, by omega, by go_num, HV4.out, HB4.out⟩
            case measure => simp [intOf]; omega
        · have hltn : (j + 1 < L) = False := eq_false hlt
          have hlti : ¬ ((j : Int) + 1 < L) := by omega
          have hjL : j = L := by have := HJ.out; have := HEV.out; omega
          obtain ⟨a30, c30, rfl, hk30, hx30, -⟩ := ownedX HV.out
          rw [show pairsX (lv.take j) = pairsX lv by rw [hjL, HLL.out, List.take_length]] at hx30 hk30 ⊢
          have HB30 := hid (HB21.out.trans (HB.out.mono HB21.out.size))
          have HX30 := hid hx30
          have HPK : Hid (k = (pairsX lv).length) := hid hk30
          have hk100 : (k : Int) ≤ 100 := by have := HJ.out; omega
          have HLC : Hid (((pairsX lv).length : Int) ≤ 65536) := hid (by rw [← hk30]; omega)
          rw [← HPK.out]
          have HCK := hid (rCheck_any _ a30 c30 (pairsX lv) wr HX30.out HLC.out HFI.out)
          rw [← HPK.out, ← HE.out] at HCK
          have HZB := hid (HX21.out.below HB.out)
          have HUB := hid (HU21.out.kept HB.out)
          have HVB := hid (HV21.out.kept HB.out)
          clear hx30 hk30 HV HB HX21 HU21 HV21 HB21 hjL hlt
          go_wp2_with fail
          refine HCK.out.mono ?_
          clear HCK
          rintro e w31 ⟨rfl, hb31⟩
          have HX31 := hid (HX30.out.below hb31)
          have HZ31 := hid (HZB.out.below hb31)
          have HU31 := hid (HUB.out.kept hb31)
          have HV31 := hid (HVB.out.kept hb31)
          have HB31 := hid (HB30.out.trans (hb31.mono HB30.out.size))
          clear hb31 HX30 HZB HUB HVB HB30
          by_cases hE0 : E = 0
          · have HDX : Hid (decX bh = pairsX lv) := hid (by rw [HLV.out]; exact decX_good (by rw [HDC.out]; exact hE0))
            have HDR : Hid (decR bh = listRest bh) := hid (decR_good (by rw [HDC.out]; exact hE0))
            have hmk : md = k := by rw [HMD.out, HDX.out, HPK.out]
            subst hmk
            have hE2 : (E != 0) = false := by rw [hE0]; rfl
            have hE3 : (E == 0) = true := by rw [hE0]; rfl
            clear hE0
            go_wp2_with fail
            refine (known_any HP.out w31).mono ?_
            rintro e w32 ⟨rfl, hb32⟩
            have HX32 := hid (HX31.out.below hb32)
            have HZ32 := hid (HZ31.out.below hb32)
            have HU32 := hid (HU31.out.kept hb32)
            have HV32 := hid (HV31.out.kept hb32)
            have HB32 := hid (HB31.out.trans (hb32.mono HB31.out.size))
            have HLO := hid (lawOf_x c20 HZ32.out (by rw [← HMD.out]; omega))
            rw [← HMD.out, HDX.out] at HLO
            clear hb32 HX31 HZ31 HU31 HV31 HB31
            go_wp2_with fail
            refine HLO.out.mono ?_
            clear HLO
            rintro e w33 ⟨⟨a33, c33, rfl, hx33⟩, hb33⟩
            have HSX := hid (rSame_eq md c33 c30 (pairsX lv) hx33 (HX32.out.below hb33) HPK.out (by omega))
            have HU33 := hid (HU32.out.kept hb33)
            have HV33 := hid (HV32.out.kept hb33)
            have HB33 := hid (HB32.out.trans (hb33.mono HB32.out.size))
            clear hx33 hb33 HX32 HZ32 HU32 HV32 HB32
            go_wp2_with fail
            refine HSX.out.mono ?_
            clear HSX
            rintro e w34 ⟨rfl, hb34⟩
            have hu34 := HU33.out.kept hb34
            rw [HDR.out] at hu34
            obtain ⟨a35, c35, rfl, -, -, -, hs35⟩ := hu34.sl
            obtain ⟨a36, c36, rfl, -, hc36, hm36, hs36⟩ := (HV33.out.kept hb34).sl
            have HSB := hid (bSame_eq (listRest bh).length c35 c36 (listRest bh) hs35 hs36 rfl (by unfold maxLen at hm36; omega))
            have HB34 := hid (HB33.out.trans (hb34.mono HB33.out.size))
            clear hu34 hs35 hs36 hb34 HU33 HV33 HB33 hc36 hm36
            go_wp2_with fail
            refine HSB.out.mono ?_
            clear HSB
            rintro e w35 ⟨rfl, hb35⟩
            have HB35 := hid (HB34.out.trans (hb35.mono HB34.out.size))
            clear hb35 HB34
            go_wp2_with fail
            go_ret
            exact ⟨rfl, HB35.out⟩
          · have hmk : md = 0 := by rw [HMD.out, decX_bad (by rw [HDC.out]; exact hE0)]; rfl
            subst hmk
            have hE2 : (E != 0) = true := by simpa using hE0
            have hEE : (E == E) = true := by simp
            clear hE0
            go_wp2_with fail
            refine (known_any HP.out w31).mono ?_
            rintro e w32 ⟨rfl, hb32⟩
            have HB32 := hid (HB31.out.trans (hb32.mono HB31.out.size))
            have HCK := hid (rCheck_any _ a30 c30 (pairsX lv) w32 (HX31.out.below hb32) HLC.out HFI.out)
            rw [← HPK.out, ← HE.out] at HCK
            clear hb32 HX31 HZ31 HU31 HV31 HB31
            go_wp2_with fail
            refine HCK.out.mono ?_
            clear HCK
            rintro e w33 ⟨rfl, hb33⟩
            have HB33 := hid (HB32.out.trans (hb33.mono HB32.out.size))
            clear hb33 HB32
            go_wp2_with fail
            go_ret
            exact ⟨rfl, HB33.out⟩
  · rw [decE_list hg, decX_bad (by rw [decE_list hg]; omega)]
    simp only [List.length_nil]
    obtain ⟨G, hG⟩ : ∃ G, G = listErr bh := ⟨_, rfl⟩
    rw [← hG] at hg ⊢
    have hG0 : ((G : Int) != 0) = true := by rw [bne_iff_ne]; omega
    have hGG : ((G : Int) == G) = true := by simp
    clear hg hG
    go_wp2_with fail
    refine (known_any HP.out w21).mono ?_
    rintro e wk ⟨rfl, hbk⟩
    have HBK := hid (HB21.out.trans (hbk.mono HB21.out.size))
    clear hbk
    go_wp2_with fail

    go_ret
    exact ⟨rfl, HBK.out⟩
set_option maxRecDepth 20000 in
set_option maxHeartbeats 8000000 in
theorem bytes_bad (P : PX) (a : Option Addr) (c : Nat) (xs : List Xt) (ab : Option Addr) (cb : Nat) (bs : List Nat) (W : World) (hx : XtS (fun _ => True) W a xs) (hf : ∀ x ∈ xs, fitsX x) (hl : (xs.length : Int) ≤ 9223372036854775807) (hs : Sl (fun _ => True) W ab bs) (hby : Bytes bs) (hcb : bs.length ≤ cb ∧ cb ≤ maxLen) (hn0 : ab = none → cb = 0) (hchk : chkX (xs.take 30) ≠ 0) :
    Calls Try.prog 5 #[.slice a xs.length c, .slice ab bs.length cb] W fun e w' => e = .returned (.bool true) ∧ Below W.heap.size W w' := by
  have HP := hid P
  obtain ⟨i0, hi, hz0, hz1, hz2⟩ := info_parts infoRX
  have HI := hid (And.intro hi (And.intro hz0 (And.intro hz1 hz2)))
  obtain ⟨ys, hys⟩ : ∃ ys, ys = xs.take 30 := ⟨_, rfl⟩
  have HTO := hid (lawTo_x c hx hl)
  have HF : Hid (∀ x ∈ ys, fitsX x) := hid (by rw [hys]; exact fun x h => hf x (List.mem_of_mem_take h))
  have hyl : (ys.length : Int) ≤ 30 := by rw [hys, List.length_take]; omega
  rw [← hys] at HTO hchk
  obtain ⟨n, hn⟩ : ∃ n, n = xs.length := ⟨_, rfl⟩
  obtain ⟨m, hm⟩ : ∃ m, m = ys.length := ⟨_, rfl⟩
  have HM := hid hm
  rw [← hn] at HTO ⊢
  rw [← hm] at HTO hyl
  have HCL : Hid ((ys.length : Int) ≤ 65536) := hid (by omega)
  obtain ⟨bh, hbh⟩ : ∃ bh, bh = bs.take 100 := ⟨_, rfl⟩
  have hmin : min (bs.length : Int) 100 = (bh.length : Int) := by rw [hbh, List.length_take]; omega
  have HS : Hid (Sl (fun b => b < W.heap.size) W ab bh) := hid (by rw [hbh]; exact (hs.mono fun _ _ h => h).front 100)
  have HBY : Hid (Bytes bh) := hid (by rw [hbh]; exact hby.take 100)
  have hb100 : (bh.length : Int) ≤ 100 := by omega
  have hbc : (bh.length : Int) ≤ cb := by omega
  have hbl : (bh.length : Int) ≤ bs.length := by omega
  have hcb2 : (cb : Int) ≤ 9223372036854775807 := by have := hcb.2; unfold maxLen at this; omega
  have HCB : Hid (bh.length ≤ cb ∧ cb ≤ maxLen) := hid ⟨by omega, hcb.2⟩
  have HN0 := hid hn0
  obtain ⟨nb, hnb⟩ : ∃ nb, nb = bs.length := ⟨_, rfl⟩
  obtain ⟨lb, hlb⟩ : ∃ lb, lb = bh.length := ⟨_, rfl⟩
  have HLB := hid hlb
  rw [← hnb] at hmin hbl ⊢
  rw [← hlb] at hmin hb100 hbc hbl
  have hnbc : (nb : Int) ≤ cb := by have := hcb.1; omega
  have HC := hid hchk
  obtain ⟨B, hB⟩ : ∃ B, B = chkX ys := ⟨_, rfl⟩
  have hBB : (B != B) = false := by simp
  have hB0 : (B == 0) = false := by rw [hB]; simpa using hchk
  have HB := hid hB
  clear hB
  clear P hys hn hm hx hf hl hs hby hcb hn0 hbh hnb hlb hchk hi hz0 hz1 hz2
  go_enter Try.func5, Try.ntmps5
  go_wp2_with fail
  refine HTO.out.mono ?_
  clear HTO
  rintro e w1 ⟨⟨a1, c1, rfl, hx1⟩, hb1⟩
  have HX1 := hid hx1
  have HB1 := hid hb1
  have HLO := hid (lawOf_x c1 HX1.out HCL.out)
  rw [← HM.out] at HLO
  clear hx1 hb1
  go_wp2_with fail
  refine HLO.out.mono ?_
  clear HLO
  rintro e w2 ⟨⟨a2, c2, rfl, hx2⟩, hb2⟩
  have HX2 := hid (HX1.out.below hb2)
  have HY2 := hid hx2
  have HB2 := hid (HB1.out.trans (hb2.mono HB1.out.size))
  have HEN := hid (HP.out.pEncode _ a1 c1 ys w2 HX2.out (by have := HM.out; omega) HF.out)
  rw [← HM.out, ← HB.out] at HEN
  clear hx2 hb2 HX1 HB1
  go_wp2_with fail
  refine HEN.out.mono ?_
  clear HEN
  rintro e w3 ⟨⟨v3, rfl, hv3⟩, hb3⟩

  have HV3 := hid hv3
  have HY3 := hid (HY2.out.below hb3)
  have HB3 := hid (HB2.out.trans (hb3.mono HB2.out.size))
  have HCK := hid (rCheck_any _ a2 c2 ys w3 HY3.out HCL.out HF.out)
  rw [← HM.out, ← HB.out] at HCK
  clear hv3 hb3 HX2 HY2 HB2
  go_wp2_with fail
  refine HCK.out.mono ?_
  clear HCK
  rintro e w4 ⟨rfl, hb4⟩
  have HV4 := hid (HV3.out.kept hb4)
  have HY4 := hid (HY3.out.below hb4)
  have HB4 := hid (HB3.out.trans (hb4.mono HB3.out.size))
  clear hb4 HV3 HY3 HB3
  have HBt := HB4
  clear HB4 HV4 HY4
  have HDE := hid (dec_x HP.out cb (HS.out.below HBt.out) HCB.out HN0.out HBY.out (by have := HLB.out; omega))
  rw [← HLB.out] at HDE
  go_wp2_with fail
  refine HDE.out.mono ?_
  clear HDE
  rintro e w20 ⟨⟨a20, c20, u20, rfl, hx20, hu20⟩, hb20⟩
  have HX20 := hid hx20
  have HU20 := hid hu20
  have HB20 := hid (HBt.out.trans (hb20.mono HBt.out.size))
  have HGL := hid (getList_any _ ab cb bh w20 (HS.out.below HB20.out) HCB.out HN0.out HBY.out (by have := HLB.out; omega))
  rw [← HLB.out] at HGL
  clear hx20 hu20 hb20 HBt
  go_wp2_with fail
  refine HGL.out.mono ?_
  clear HGL
  rintro e w21 ⟨⟨u21, v21, rfl, hu21, hv21⟩, hb21⟩
  obtain ⟨a21, c21, rfl, hz21, hlc21, hcm21⟩ := irow_z hu21
  have HZ21 := hid hz21
  have HV21 := hid hv21
  have HX21 := hid (HX20.out.below hb21)
  have HU21 := hid (HU20.out.kept hb21)
  have HB21 := hid (HB20.out.trans (hb21.mono HB20.out.size))
  have hll := listVals_len (bs := bh)
  obtain ⟨lv, hlv⟩ : ∃ lv, lv = listVals bh := ⟨_, rfl⟩
  have HLV := hid hlv
  rw [← hlv] at HZ21 hlc21 hll ⊢
  obtain ⟨L, hL⟩ : ∃ L, L = lv.length := ⟨_, rfl⟩
  have HLL := hid hL
  rw [← hL] at hlc21 hll ⊢
  have hL100 : (L : Int) ≤ 100 := by have := HLB.out; omega
  have hcm22 : (c21 : Int) ≤ 9223372036854775807 := by unfold maxLen at hcm21; omega
  clear hu21 hz21 hv21 hb21 HX20 HU20 HB20 hlv hL hll hcm21
  by_cases hg : listErr bh = 0
  · have hge : Value.int .i64 ((listErr bh : Nat) : Int) = .int .i64 0 := by rw [hg]; rfl
    rw [hge]
    have HG := hid hg
    clear hge
    by_cases hodd : L % 2 = 1
    · have HDO : Hid (decE bh = 3) := hid (decE_odd hg (by rw [← HLV.out, ← HLL.out]; exact hodd))
      have HDX : Hid (decX bh = []) := hid (decX_bad (by rw [HDO.out]; decide))
      rw [HDO.out, HDX.out]
      simp only [List.length_nil]
      have hmod : (L : Int) % 2 = 1 := by omega
      clear hg hodd
      go_wp2_with fail
      refine (known_any HP.out w21).mono ?_
      rintro e wk ⟨rfl, hbk⟩
      have HBK := hid (HB21.out.trans (hbk.mono HB21.out.size))
      clear hbk
      go_wp2_with fail

      go_ret
      exact ⟨rfl, HBK.out⟩
    · have HDC : Hid (decE bh = chkX (pairsX lv)) := hid (by rw [HLV.out]; exact decE_chk hg (by rw [← HLV.out, ← HLL.out]; omega))
      have HEV : Hid (L % 2 = 0) := hid (by omega)
      have hmod : (L : Int) % 2 = 0 := by omega
      have HFI : Hid (∀ x ∈ pairsX lv, fitsX x) := hid (by rw [HLV.out]; exact pairs_fits)
      have HPL : Hid ((pairsX lv).length * 2 = L) := hid (by rw [HLL.out]; exact pairsX_len lv (by rw [← HLL.out]; omega))
      rw [HDC.out]
      obtain ⟨E, hE⟩ : ∃ E, E = chkX (pairsX lv) := ⟨_, rfl⟩
      have HE := hid hE
      rw [← hE] at HDC ⊢
      obtain ⟨md, hmd⟩ : ∃ md, md = (decX bh).length := ⟨_, rfl⟩
      have HMD := hid hmd
      rw [← hmd]
      clear hg hodd hE hmd
      go_wp2_with fail
      clear hmod
      go_loopw [19, 20] (fun v i wr => ∃ k j : Nat, j = k * 2 ∧ j ≤ L ∧ i = .int .i64 (j : Int) ∧ wr.ownsRow w21.heap.size 55 2 v k (xcells (pairsX (lv.take j))) ∧ Below w21.heap.size w21 wr) (fun _ i _ => L - (intOf i).toNat)
      case atStart => exact ⟨0, 0, rfl, Nat.zero_le _, rfl, World.ownsRow_nil _ _ _ _, Below.refl _ _⟩
      case round =>
        obtain ⟨k, j, hj, hjl, rfl, hv, hb⟩ := hrel
        have HJ := hid hj
        have HV := hid hv
        have HB := hid hb
        clear hv hb hj
        by_cases hlt : j + 1 < L
        · have hlti : (j : Int) + 1 < L := by omega
          have hltn : (j + 1 < L) = True := eq_true hlt
          have hlt1 : (j < L) = True := eq_true (by omega)
          obtain ⟨b, o, rfl, hc1⟩ := siCell (HZ21.out.below HB.out) (k := j) (by rw [List.length_map, ← HLL.out]; omega)
          obtain ⟨b', o', he, hc2⟩ := siCell (HZ21.out.below HB.out) (k := j + 1) (by rw [List.length_map, ← HLL.out]; omega)
          cases he
          rw [mapGet] at hc1 hc2
          have HWR : Hid (IntKind.i64.wrap ((j : Int) + 1) = (j : Int) + 1) := hid (by rw [IntKind.wrap_i64]; omega)
          have HSN : Hid (pairsX (lv.take ((k + 1) * 2)) = pairsX (lv.take (k * 2)) ++ [(((lv.getD j 0 : Nat) : Int), ((lv.getD (j + 1) 0 : Nat) : Int))]) := hid (by
            rw [HJ.out]
            exact pairsX_snoc lv k (by have := HJ.out; rw [← HLL.out]; omega))
          obtain ⟨F, hF⟩ : ∃ F, F = ((lv.getD j 0 : Nat) : Int) := ⟨_, rfl⟩
          obtain ⟨G, hG⟩ : ∃ G, G = ((lv.getD (j + 1) 0 : Nat) : Int) := ⟨_, rfl⟩
          rw [← hF] at hc1 HSN
          rw [← hG] at hc2 HSN
          have HC2 : Hid (∀ x, Grew wr.drew x → x.cell? ⟨b, o + j, none⟩ = some (.int .i64 F) ∧ x.cell? ⟨b, o + (j + 1), none⟩ = some (.int .i64 G)) := hid fun x hx => by
            have hb : Below wr.heap.size wr x := ⟨hx.os, hx.tape, hx.output, hx.size, hx.block⟩
            exact ⟨(hb.cell (cell_lt hc1)).trans hc1, (hb.cell (cell_lt hc2)).trans hc2⟩
          clear hF hG hc1 hc2 hlt
          go_wp2_with fail
          refine wp_region_grows 12 [EqX (u19), EqX (.slice (some ⟨b, o, none⟩) L c21), EqX (.int .i64 (j : Int)), EqX (.pointer (some ⟨b, o + j, none⟩)), EqX (.int .i64 F), EqX (.slice (some ⟨b, o, none⟩) L c21), EqX (.int .i64 (j : Int)), EqX (.int .i64 ((j : Int) + 1)), EqX (.pointer (some ⟨b, o + (j + 1), none⟩)), EqX (.int .i64 G), EqX (.agg #[.int .i64 F, .int .i64 G]), RowX F G 55] (by kernel_rfl) (by decide) (by kernel_rfl) ?_ ?_ ?_
          · repeat' (first | exact List.forall_mem_nil _ | refine List.forall_mem_cons.2 ⟨?_, ?_⟩)
            all_goals
              intro w w' v hw h
              first | exact h | exact RowX.kept h hw
          · simp only [AllLt]
            refine ⟨⟨⟨⟨⟨⟨⟨⟨⟨⟨⟨⟨trivial, ?_⟩, ?_⟩, ?_⟩, ?_⟩, ?_⟩, ?_⟩, ?_⟩, ?_⟩, ?_⟩, ?_⟩, ?_⟩, ?_⟩
            all_goals
              intro o' ho
              simp at ho
              subst ho
              intro ρ w5 hR hL hS hG
              obtain ⟨hl1, hl2, -⟩ := hL
            · refine plainG rfl ?_
              intro bA K Q' hK
              have e19 := hS 19 (by kernel_rfl)
              change ρ (.tmp 19) = _ at e19
              simp only [execOp]
              go_simp
              exact hK _ _ rfl (Grew.refl _)
            · refine plainG rfl ?_
              intro bA K Q' hK
              have e16 := hS 16 (by kernel_rfl)
              change ρ (.tmp 16) = _ at e16
              simp only [execOp]
              go_simp
              exact hK _ _ rfl (Grew.refl _)
            · refine plainG rfl ?_
              intro bA K Q' hK
              have e20 := hS 20 (by kernel_rfl)
              change ρ (.tmp 20) = _ at e20
              simp only [execOp]
              go_simp
              exact hK _ _ rfl (Grew.refl _)
            · refine plainG rfl ?_
              intro bA K Q' hK
              have e121 := hG 1 121 (by decide) (by kernel_rfl) (by kernel_rfl)
              have e122 := hG 2 122 (by decide) (by kernel_rfl) (by kernel_rfl)
              change ρ (.tmp 121) = _ at e121
              change ρ (.tmp 122) = _ at e122
              simp only [execOp]
              go_simp
              exact hK _ _ rfl (Grew.refl _)
            · refine plainG rfl ?_
              intro bA K Q' hK
              have e123 := hG 3 123 (by decide) (by kernel_rfl) (by kernel_rfl)
              change ρ (.tmp 123) = _ at e123
              obtain ⟨y0, y1⟩ := HC2.out w5 hR
              simp only [execOp]
              go_simp
              exact hK _ _ rfl (Grew.refl _)
            · refine plainG rfl ?_
              intro bA K Q' hK
              have e16 := hS 16 (by kernel_rfl)
              change ρ (.tmp 16) = _ at e16
              simp only [execOp]
              go_simp
              exact hK _ _ rfl (Grew.refl _)
            · refine plainG rfl ?_
              intro bA K Q' hK
              have e20 := hS 20 (by kernel_rfl)
              change ρ (.tmp 20) = _ at e20
              simp only [execOp]
              go_simp
              exact hK _ _ rfl (Grew.refl _)
            · refine plainG rfl ?_
              intro bA K Q' hK
              have e126 := hG 6 126 (by decide) (by kernel_rfl) (by kernel_rfl)
              change ρ (.tmp 126) = _ at e126
              simp only [execOp]
              go_simp
              exact hK _ _ (show Value.int .i64 (IntKind.i64.wrap ((j : Int) + 1)) = .int .i64 ((j : Int) + 1) by rw [HWR.out]) (Grew.refl _)
            · refine plainG rfl ?_
              intro bA K Q' hK
              have e125 := hG 5 125 (by decide) (by kernel_rfl) (by kernel_rfl)
              have e127 := hG 7 127 (by decide) (by kernel_rfl) (by kernel_rfl)
              change ρ (.tmp 125) = _ at e125
              change ρ (.tmp 127) = _ at e127
              simp only [execOp]
              go_simp
              exact hK _ _ rfl (Grew.refl _)
            · refine plainG rfl ?_
              intro bA K Q' hK
              have e128 := hG 8 128 (by decide) (by kernel_rfl) (by kernel_rfl)
              change ρ (.tmp 128) = _ at e128
              obtain ⟨y0, y1⟩ := HC2.out w5 hR
              simp only [execOp]
              go_simp
              exact hK _ _ rfl (Grew.refl _)
            · refine plainG rfl ?_
              intro bA K Q' hK
              have e124 := hG 4 124 (by decide) (by kernel_rfl) (by kernel_rfl)
              have e129 := hG 9 129 (by decide) (by kernel_rfl) (by kernel_rfl)
              change ρ (.tmp 124) = _ at e124
              change ρ (.tmp 129) = _ at e129
              simp only [execOp]
              go_simp
              exact hK _ _ rfl (Grew.refl _)
            · refine plainG rfl ?_
              intro bA K Q' hK
              have e130 := hG 10 130 (by decide) (by kernel_rfl) (by kernel_rfl)
              change ρ (.tmp 130) = _ at e130
              simp only [execOp]
              go_simp
              exact hK _ _ ⟨_, rfl, heap_alloc_new w5 _⟩ ((Grew.refl _).alloc _)
          · intro v w3 hR hG
            have h0 : v 0 = u19 := hG.1.1.1.1.1.1.1.1.1.1.1.2
            obtain ⟨bx, h12, hrow⟩ : RowX F G 55 w3 (v 11) := hG.2
            have hb : Below wr.heap.size wr w3 := ⟨hR.os, hR.tape, hR.output, hR.size, hR.block⟩
            have HV3 : Hid (w3.ownsRow w21.heap.size 55 2 u19 k (xcells (pairsX (lv.take j)))) := hid (owns_mv (F := fun _ => False) HV.out (Mv.of_below hb) fun _ _ => id)
            have HB3 : Hid (Below w21.heap.size w21 w3) := hid (HB.out.trans (hb.mono HB.out.size))
            have HROW := hid hrow
            have hk100 : (k : Int) ≤ 100 := by have := HJ.out; omega
            clear hG hR hb hrow HC2 HV HB
            simp [stG, stU, dstAt, Act.put, h0, h12]
            clear h0 h12
            go_wp2_with (refine wpList_append_own _ rfl (.tmp 120) (.tmp 131) 27 rfl w21.heap.size 55 i0 (.agg #[.int .i64 0, .int .i64 0]) 2 16 Try.underlying27 HI.out.1 HI.out.2.1 HI.out.2.2.1 HI.out.2.2.2 rfl (by decide) _ k (xcells (pairsX (lv.take j))) rfl HV3.out ⟨bx, 0, none⟩ 1 1 [.int .i64 F, .int .i64 G] rfl rfl (rowX_cells HROW.out) (by simp [Value.oneCell']) (by unfold maxLen; omega) (by omega) (by have := HB3.out.size; omega) ?_)
            intro v4 w4 hv4 hg4 _
            have HV4 : Hid (w4.ownsRow w21.heap.size 55 2 v4 (k + 1) (xcells (pairsX (lv.take (j + 2))))) := hid (by
              rw [show j + 2 = (k + 1) * 2 by have := HJ.out; omega, HSN.out, xcells_app, ← HJ.out]; exact hv4)
            have HB4 : Hid (Below w21.heap.size w21 w4) := hid (below_owned (w0 := w21) HB3.out HV3.out (Nat.le_refl _) hg4)
            clear hv4 hg4 HV3 HB3
            go_wp2_with fail
            go_roundw
            case rel => exact ⟨k + 1, j + 2, by have := HJ.out; omega, by omega, by go_num, HV4.out, HB4.out⟩
            case measure => simp [intOf]; omega
        · have hltn : (j + 1 < L) = False := eq_false hlt
          have hlti : ¬ ((j : Int) + 1 < L) := by omega
          have hjL : j = L := by have := HJ.out; have := HEV.out; omega
          obtain ⟨a30, c30, rfl, hk30, hx30, -⟩ := ownedX HV.out
          rw [show pairsX (lv.take j) = pairsX lv by rw [hjL, HLL.out, List.take_length]] at hx30 hk30 ⊢
          have HB30 := hid (HB21.out.trans (HB.out.mono HB21.out.size))
          have HX30 := hid hx30
          have HPK : Hid (k = (pairsX lv).length) := hid hk30
          have hk100 : (k : Int) ≤ 100 := by have := HJ.out; omega
          have HLC : Hid (((pairsX lv).length : Int) ≤ 65536) := hid (by rw [← hk30]; omega)
          rw [← HPK.out]
          have HCK := hid (rCheck_any _ a30 c30 (pairsX lv) wr HX30.out HLC.out HFI.out)
          rw [← HPK.out, ← HE.out] at HCK
          have HZB := hid (HX21.out.below HB.out)
          have HUB := hid (HU21.out.kept HB.out)
          have HVB := hid (HV21.out.kept HB.out)
          clear hx30 hk30 HV HB HX21 HU21 HV21 HB21 hjL hlt
          go_wp2_with fail
          refine HCK.out.mono ?_
          clear HCK
          rintro e w31 ⟨rfl, hb31⟩
          have HX31 := hid (HX30.out.below hb31)
          have HZ31 := hid (HZB.out.below hb31)
          have HU31 := hid (HUB.out.kept hb31)
          have HV31 := hid (HVB.out.kept hb31)
          have HB31 := hid (HB30.out.trans (hb31.mono HB30.out.size))
          clear hb31 HX30 HZB HUB HVB HB30
          by_cases hE0 : E = 0
          · have HDX : Hid (decX bh = pairsX lv) := hid (by rw [HLV.out]; exact decX_good (by rw [HDC.out]; exact hE0))
            have HDR : Hid (decR bh = listRest bh) := hid (decR_good (by rw [HDC.out]; exact hE0))
            have hmk : md = k := by rw [HMD.out, HDX.out, HPK.out]
            subst hmk
            have hE2 : (E != 0) = false := by rw [hE0]; rfl
            have hE3 : (E == 0) = true := by rw [hE0]; rfl
            clear hE0
            go_wp2_with fail
            refine (known_any HP.out w31).mono ?_
            rintro e w32 ⟨rfl, hb32⟩
            have HX32 := hid (HX31.out.below hb32)
            have HZ32 := hid (HZ31.out.below hb32)
            have HU32 := hid (HU31.out.kept hb32)
            have HV32 := hid (HV31.out.kept hb32)
            have HB32 := hid (HB31.out.trans (hb32.mono HB31.out.size))
            have HLO := hid (lawOf_x c20 HZ32.out (by rw [← HMD.out]; omega))
            rw [← HMD.out, HDX.out] at HLO
            clear hb32 HX31 HZ31 HU31 HV31 HB31
            go_wp2_with fail
            refine HLO.out.mono ?_
            clear HLO
            rintro e w33 ⟨⟨a33, c33, rfl, hx33⟩, hb33⟩
            have HSX := hid (rSame_eq md c33 c30 (pairsX lv) hx33 (HX32.out.below hb33) HPK.out (by omega))
            have HU33 := hid (HU32.out.kept hb33)
            have HV33 := hid (HV32.out.kept hb33)
            have HB33 := hid (HB32.out.trans (hb33.mono HB32.out.size))
            clear hx33 hb33 HX32 HZ32 HU32 HV32 HB32
            go_wp2_with fail
            refine HSX.out.mono ?_
            clear HSX
            rintro e w34 ⟨rfl, hb34⟩
            have hu34 := HU33.out.kept hb34
            rw [HDR.out] at hu34
            obtain ⟨a35, c35, rfl, -, -, -, hs35⟩ := hu34.sl
            obtain ⟨a36, c36, rfl, -, hc36, hm36, hs36⟩ := (HV33.out.kept hb34).sl
            have HSB := hid (bSame_eq (listRest bh).length c35 c36 (listRest bh) hs35 hs36 rfl (by unfold maxLen at hm36; omega))
            have HB34 := hid (HB33.out.trans (hb34.mono HB33.out.size))
            clear hu34 hs35 hs36 hb34 HU33 HV33 HB33 hc36 hm36
            go_wp2_with fail
            refine HSB.out.mono ?_
            clear HSB
            rintro e w35 ⟨rfl, hb35⟩
            have HB35 := hid (HB34.out.trans (hb35.mono HB34.out.size))
            clear hb35 HB34
            go_wp2_with fail
            go_ret
            exact ⟨rfl, HB35.out⟩
          · have hmk : md = 0 := by rw [HMD.out, decX_bad (by rw [HDC.out]; exact hE0)]; rfl
            subst hmk
            have hE2 : (E != 0) = true := by simpa using hE0
            have hEE : (E == E) = true := by simp
            clear hE0
            go_wp2_with fail
            refine (known_any HP.out w31).mono ?_
            rintro e w32 ⟨rfl, hb32⟩
            have HB32 := hid (HB31.out.trans (hb32.mono HB31.out.size))
            have HCK := hid (rCheck_any _ a30 c30 (pairsX lv) w32 (HX31.out.below hb32) HLC.out HFI.out)
            rw [← HPK.out, ← HE.out] at HCK
            clear hb32 HX31 HZ31 HU31 HV31 HB31
            go_wp2_with fail
            refine HCK.out.mono ?_
            clear HCK
            rintro e w33 ⟨rfl, hb33⟩
            have HB33 := hid (HB32.out.trans (hb33.mono HB32.out.size))
            clear hb33 HB32
            go_wp2_with fail
            go_ret
            exact ⟨rfl, HB33.out⟩
  · rw [decE_list hg, decX_bad (by rw [decE_list hg]; omega)]
    simp only [List.length_nil]
    obtain ⟨G, hG⟩ : ∃ G, G = listErr bh := ⟨_, rfl⟩
    rw [← hG] at hg ⊢
    have hG0 : ((G : Int) != 0) = true := by rw [bne_iff_ne]; omega
    have hGG : ((G : Int) == G) = true := by simp
    clear hg hG
    go_wp2_with fail
    refine (known_any HP.out w21).mono ?_
    rintro e wk ⟨rfl, hbk⟩
    have HBK := hid (HB21.out.trans (hbk.mono HB21.out.size))
    clear hbk
    go_wp2_with fail

    go_ret
    exact ⟨rfl, HBK.out⟩
end Go.Proofs.Ytlfpepkgnobjnaa
