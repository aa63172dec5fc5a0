/- 'VarintPuts' RETURNS TRUE FOR EVERY LIST OF NUMBERS AND ALL BYTES BEHIND (nil ones too), and nothing that was there is turned. No condition. -/
import Derived.Test.YtpipgbehpppjbaaVarH
import Derived.Test.YtpipgbehpppjbaaOpenInts
namespace Go.Proofs.Ytpipgbehpppjbaa
open Go.RowKit Go.Inc

theorem size_neg (n : Int) (w : World) (h1 : n < 0) : Calls Try.prog 12 #[.int .i64 n] w fun e w' => e = .returned (.int .i64 0) ∧ w = w' := by
  have H := size_any n w (by omega)
  unfold sizeOf' at H
  rw [if_pos h1] at H
  exact H
theorem size_pos (n : Int) (w : World) (h1 : n ≤ 9223372036854775807) (h0 : 0 ≤ n) : Calls Try.prog 12 #[.int .i64 n] w fun e w' => e = .returned (.int .i64 ((Var.put n.toNat).length : Nat)) ∧ w = w' := by
  have H := size_any n w h1
  unfold sizeOf' at H
  rw [if_neg (by omega)] at H
  exact H
theorem slPast {w w' : World} {N : Nat} {v : Value} {a : Option Addr} {bs : List Nat} (h : Sl (fun b => N ≤ b) w a bs) (hg : w.grownBy w' v.ownBlock) (hv : ∀ k, v.ownBlock = some k → k < N) : Sl (fun b => N ≤ b) w' a bs :=
  h.kept fun b hb hlt => hg.block b hlt fun e => by have := hv b e.symm; omega
theorem own_empty (w : World) : (w.alloc (.cells #[] 5)).ownsRow w.heap.size 5 1 (.slice (some ⟨w.heap.size, 0, none⟩) 0 0) 0 (u8s []) :=
  World.ownsRow_lit w #[] 0 (Nat.le_refl _) (Nat.zero_le _) rfl
theorem row_first {w : World} {E B m : Nat} {v : Value} {ys : List Nat} (h : w.ownsRow B E 1 v m (u8s [] ++ u8s ys)) (hm : m = ys.length) : Row E B w v ys := by
  subst hm
  exact h
theorem bsOf {w : World} {ok : Nat → Prop} {a : Option Addr} {c : Nat} {bs : List Nat} (h : Sl ok w a bs) (hc : bs.length ≤ c ∧ c ≤ maxLen) (hn : a = none → c = 0) : Bs w (.slice a bs.length c) bs :=
  ⟨a, c, rfl, h.mono fun _ _ _ => trivial, hc.1, hc.2, hn⟩
theorem neg_one {zs : List Int} {k : Nat} (h : k < zs.length) (z : Int) (hz : zs.getD k 0 = z) : (z < 0 → anyNeg (zs.take (k + 1)) = true) ∧ (0 ≤ z → anyNeg (zs.take (k + 1)) = anyNeg (zs.take k)) := by
  have hs := anyNeg_snoc h
  rw [hz] at hs
  constructor
  · intro h0; rw [hs]; simp [h0]
  · intro h0; rw [hs]; simp; intro h1; omega

set_option maxHeartbeats 8000000 in
set_option maxRecDepth 100000 in
theorem puts_walk (a : Option Addr) (c : Nat) (zs : List Int) (a2 : Option Addr) (c2 : Nat) (bs : List Nat) (w : World) (hs : Si (fun _ => True) w a zs) (hl : zs.length ≤ c ∧ c ≤ maxLen)
    (hz : ∀ z ∈ zs, -9223372036854775808 ≤ z ∧ z ≤ 9223372036854775807) (hs2 : Sl (fun _ => True) w a2 bs) (hby : Bytes bs) (hc2 : bs.length ≤ c2 ∧ c2 ≤ maxLen) (hn2 : a2 = none → c2 = 0) :
    Calls Try.prog 3 #[.slice a zs.length c, .slice a2 bs.length c2] w fun e w' => e = .returned (.bool true) ∧ Below w.heap.size w w' := by
  obtain ⟨bh, hbh⟩ : ∃ bh, bh = bs.take 20 := ⟨_, rfl⟩
  have hbl : bh.length = min bs.length 20 := by rw [hbh, List.length_take, Nat.min_comm]
  have HSB : Hid (Sl (fun _ => True) w a2 bh) := hid (by rw [hbh]; exact hs2.front 20)
  have HBB : Hid (Bytes bh) := hid (by rw [hbh]; exact hby.take 20)
  clear hbh hs2 hby
  have HN2 := hid hn2
  have HS := hid hs
  have HZ := hid hz
  have HC2 : Hid (bh.length ≤ c2 ∧ c2 ≤ maxLen) := hid ⟨by omega, hc2.2⟩
  have hmin : min (bs.length : Int) 20 = (bh.length : Int) := by omega
  have hb20 : (bh.length : Int) ≤ 20 := by omega
  have hbc : (bh.length : Int) ≤ c2 := by omega
  have hcm : (c2 : Int) ≤ 9223372036854775807 := by unfold maxLen at hc2; omega
  have hlc : (zs.length : Int) ≤ c := by omega
  have hlm : (c : Int) ≤ 9223372036854775807 := by unfold maxLen at hl; omega
  have hb1000 : Hid (bh.length ≤ 1000) := hid (by omega)
  clear hn2 hs hz hc2 hl hbl
  generalize bs.length = L at *
  go_enter Try.func3, Try.ntmps3
  go_wp2_with fail
  clear hmin
  go_loopw [5, 6, 7] (fun v5 v6 i wr => ∃ k : Nat, k ≤ zs.length ∧ k ≤ 12 ∧ i = .int .i64 (k : Int) ∧ v6 = .bool (anyNeg (zs.take k)) ∧ Row 5 w.heap.size wr v5 (allOf zs k) ∧ Below w.heap.size w wr) (fun _ _ i _ => zs.length - (intOf i).toNat)
  case atStart => exact ⟨0, Nat.zero_le _, Nat.zero_le _, rfl, rfl, Row.nil _ _ _, Below.refl _ _⟩
  case round =>
    obtain ⟨k, hk, hk12, rfl, rfl, hr, hb⟩ := hrel
    have HA := hid hr
    clear hr
    by_cases hgo : (k : Int) < zs.length ∧ (k : Int) < 12
    · obtain ⟨hlt, h12⟩ := hgo
      have hcell : ∃ b off, Hid (a = some ⟨b, off, none⟩) ∧ wr.cell? ⟨b, off + k, none⟩ = some (.int .i64 (zs.getD k 0)) := by
        rcases HS.out with h | ⟨b, off, h, _, hc⟩
        · rw [h] at hlt; simp at hlt; omega
        · exact ⟨b, off, hid h, by rw [hb.cell (cell_lt (hc k (by omega)))]; exact hc k (by omega)⟩
      obtain ⟨b, off, ha, hcell⟩ := hcell
      have ha2 := ha.out
      subst ha2
      have hz : -9223372036854775808 ≤ zs.getD k 0 ∧ zs.getD k 0 ≤ 9223372036854775807 := by
        rw [List.getD_eq_getElem?_getD, List.getElem?_eq_getElem (by omega)]
        exact HZ.out _ (List.getElem_mem _)
      have HSN := hid (allOf_snoc (zs := zs) (k := k) (by omega))
      have HNG := hid (neg_one (zs := zs) (k := k) (by omega) _ rfl)
      have HAL := hid (allOf_len (zs := zs) (fun z h => (HZ.out z h).2) k)
      generalize zs.getD k 0 = z at *
      obtain ⟨hz0, hz1⟩ := hz
      have HF := hid (Var.fold_lt hz0 hz1)
      have HPL := hid (Var.put_ten HF.out)
      have HS1 := hid (signed_any z wr hz0 hz1)
      go_wp2_with fail
      refine HS1.out.mono ?_
      rintro e w1 ⟨v9, rfl, hr9, hb1⟩
      obtain ⟨a9, c9, rfl, hn9, hc9, hm9, hs9⟩ := hr9.sl
      have HR9 := hid hr9
      have HA1 := hid (HA.out.kept hb1)
      have HB1 := hid (hb.trans (hb1.mono hb.size))
      have HOW := hid (own_empty w1)
      have HBA := hid ((Below.refl w1.heap.size w1).alloc (Nat.le_refl _) (.cells #[] 5))
      have HS9 := hid (hs9.below HBA.out)
      clear hr9 hs9 hn9 hb hb1 HS1 HA hcell hc9 hm9
      go_wp2_with (refine wpList_append_any rfl (.tmp 39) (.tmp 40) 23 rfl w1.heap.size 5 (.int .u8 0) 1 Try.underlying23 infoU8 rfl _ _ _ rfl HOW.out a9 _ _ (u8s (Var.put (Var.fold z))) rfl (u8s_length _) (HS9.out.some_len) HS9.out.cells (u8s_one _) (by have := HPL.out; unfold maxLen; omega) (by have := HPL.out; omega) (by simp) ?_)
      intro v41 w2 hv41 hg2 _
      have hb2 := below_owned HBA.out HOW.out (Nat.le_refl _) hg2
      have HV41 : Hid (Row 5 w1.heap.size w2 v41 (Var.put (Var.fold z))) := hid (row_first hv41 rfl)
      have HSB2 := hid (HSB.out.below (HB1.out.trans (hb2.mono HB1.out.size)))
      have HB2 := hid hb2
      clear hv41 hg2 hb2 HS9
      go_wp2_with (refine wpList_append_any rfl (.tmp 41) (.tmp 42) 23 rfl w1.heap.size 5 (.int .u8 0) 1 Try.underlying23 infoU8 rfl _ _ _ rfl HV41.out a2 _ _ (u8s bh) rfl (u8s_length _) (HSB2.out.some_len) HSB2.out.cells (u8s_one _) (by have := HPL.out; unfold maxLen; omega) (by have := HPL.out; omega) (by have := HB2.out.size; omega) ?_)
      intro v43 w3 hv43 hg3 _
      have hb3 := below_owned HB2.out HV41.out (Nat.le_refl _) hg3
      have hr43 : Row 5 w1.heap.size w3 v43 (Var.put (Var.fold z) ++ bh) := row_more hv43 rfl rfl
      have H8 := hid (getSigned_put v43 z bh w3 (held hr43) hz0 hz1 HBB.out hb1000.out)
      have HB3 := hid hb3
      clear hv43 hg3 hb3 hr43 HSB2 HV41 HB2 HOW HBA
      go_wp2_with fail
      refine H8.out.mono ?_
      rintro e w4 ⟨⟨v11, rfl, hr11⟩, hb4⟩
      have HW4 := hid (HB3.out.trans (hb4.mono HB3.out.size))
      have H9S := hid ((held HR9.out).below HW4.out)
      have HA4 := hid (HA1.out.kept HW4.out)
      have HB4 := hid (HB1.out.trans (HW4.out.mono HB1.out.size))
      have H11 := hid (held hr11)
      clear hr11 hb4 HB3 HW4 HA1 HB1 HR9 H8
      go_wp2_with fail
      refine (refSigned_any z w4 hz0 hz1).mono ?_
      rintro e w' ⟨rfl, rfl⟩
      have H10 := hid (refPut_any (Var.fold z) w4 HF.out)
      go_wp2_with fail
      refine H10.out.mono ?_
      rintro e w5 ⟨v51, rfl, hr51, hb5⟩
      have H9 := hid (same_v _ v51 _ _ w5 (H9S.out.below hb5) (held hr51) rfl)
      have H11b := hid (H11.out.below hb5)
      have HA5 := hid (HA4.out.kept hb5)
      have HB5 := hid (HB4.out.trans (hb5.mono HB4.out.size))
      clear hr51 hb5 H10 H9S H11 HA4 HB4
      go_wp2_with fail
      refine H9.out.mono ?_
      rintro e w6 ⟨rfl, hb6⟩
      have HA6 := hid (HA5.out.kept hb6)
      have HB6 := hid (HB5.out.trans (hb6.mono HB5.out.size))
      have H9 := hid (same_v v11 (.slice a2 bh.length c2) bh bh w6 (H11b.out.below hb6) (bsOf (HSB.out.below HB6.out) HC2.out HN2.out) rfl)
      clear hb6 HA5 HB5 H11b
      go_wp2_with fail
      refine H9.out.mono ?_
      rintro e w7 ⟨rfl, hb7⟩
      have HA7 := hid (HA6.out.kept hb7)
      have HB7 := hid (HB6.out.trans (hb7.mono HB6.out.size))
      clear hb7 HA6 HB6 H9
      by_cases hneg : z < 0
      · have H12 := hid (size_neg z w7 hneg)
        have H13 := hid (put_one_neg z w7 hneg)
        have HN1 := hid (HNG.out.1 hneg)
        have HA8 := hid (HSN.out.1 hneg)
        go_wp2_with fail
        refine H12.out.mono ?_
        rintro e w' ⟨rfl, rfl⟩
        go_wp2_with fail
        refine H13.out.mono ?_
        rintro e w8 ⟨a8, c8, rfl, hb8⟩
        have HA9 := hid (HA7.out.kept hb8)
        have HB8 := hid (HB7.out.trans (hb8.mono HB7.out.size))
        clear hb8
        go_wp2_with fail
        go_roundw
        case rel => exact ⟨k + 1, by omega, by omega, by go_num, by rw [HN1.out], by rw [HA8.out]; exact HA9.out, HB8.out⟩
        case measure => simp [intOf]; omega
      · have hpos : 0 ≤ z := by omega
        clear hneg
        have HP := hid (refPut_int z w7 hpos hz1)
        have HN1 := hid (HNG.out.2 hpos)
        have HA8 := hid (HSN.out.2 hpos)
        have HPZ := hid (Var.put_ten (n := z.toNat) (by omega))
        go_wp2_with fail
        refine HP.out.mono ?_
        rintro e w8 ⟨v13, rfl, hr13, hb8⟩
        obtain ⟨a13, c13, rfl, hn13, hc13, hm13, hs13⟩ := hr13.sl
        have HA9 := hid (HA7.out.kept hb8)
        have HB8 := hid (HB7.out.trans (hb8.mono HB7.out.size))
        have HS13 := hid hs13
        have HN13 := hid hn13
        have HC13 := hid (And.intro hc13 hm13)
        clear hr13 hs13 hb8 hn13 hc13 hm13 HP
        go_wp2_with (refine wpList_append_any rfl (.tmp 84) (.tmp 85) 23 rfl w.heap.size 5 (.int .u8 0) 1 Try.underlying23 infoU8 rfl _ _ _ rfl HA9.out a13 _ _ (u8s (Var.put z.toNat)) rfl (u8s_length _) (HS13.out.some_len) HS13.out.cells (u8s_one _) (by have := HPZ.out; have := HAL.out; unfold maxLen; omega) (by have := HPZ.out; have := HAL.out; omega) (by have := HB8.out.size; omega) ?_)
        intro v86 w9 hv86 hg9 _
        have hb9 := below_owned HB8.out HA9.out (Nat.le_refl _) hg9
        have HA10 := hid (row_more hv86 rfl rfl)
        have HS14 := hid (slPast HS13.out hg9 fun j hj => (HA7.out.lt j hj).2)
        have HB9 := hid hb9
        clear hv86 hg9 hb9 HA9 HA7 HS13 HB8 HB7
        have HOW := hid (own_empty w9)
        have HBA := hid ((Below.refl w9.heap.size w9).alloc (Nat.le_refl _) (.cells #[] 5))
        have HS15 := hid (HS14.out.below HBA.out)
        go_wp2_with (refine wpList_append_any rfl (.tmp 88) (.tmp 89) 23 rfl w9.heap.size 5 (.int .u8 0) 1 Try.underlying23 infoU8 rfl _ _ _ rfl HOW.out a13 _ _ (u8s (Var.put z.toNat)) rfl (u8s_length _) (HS15.out.some_len) HS15.out.cells (u8s_one _) (by have := HPZ.out; unfold maxLen; omega) (by have := HPZ.out; omega) (by simp) ?_)
        intro v90 w10 hv90 hg10 _
        have hb10 := below_owned HBA.out HOW.out (Nat.le_refl _) hg10
        have HV90 : Hid (Row 5 w9.heap.size w10 v90 (Var.put z.toNat)) := hid (row_first hv90 rfl)
        have HSB2 := hid (HSB.out.below (HB9.out.trans (hb10.mono HB9.out.size)))
        have HB10 := hid hb10
        clear hv90 hg10 hb10 HS15
        go_wp2_with (refine wpList_append_any rfl (.tmp 90) (.tmp 91) 23 rfl w9.heap.size 5 (.int .u8 0) 1 Try.underlying23 infoU8 rfl _ _ _ rfl HV90.out a2 _ _ (u8s bh) rfl (u8s_length _) (HSB2.out.some_len) HSB2.out.cells (u8s_one _) (by have := HPZ.out; unfold maxLen; omega) (by have := HPZ.out; omega) (by have := HB10.out.size; omega) ?_)
        intro v92 w11 hv92 hg11 _
        have hb11 := below_owned HB10.out HV90.out (Nat.le_refl _) hg11
        have hr92 : Row 5 w9.heap.size w11 v92 (Var.put z.toNat ++ bh) := row_more hv92 rfl rfl
        have H8 := hid (get_put v92 z.toNat z bh w11 (held hr92) (by omega) HBB.out hb1000.out (by omega))
        have HB11 := hid hb11
        clear hv92 hg11 hb11 hr92 HSB2 HV90 HB10 HOW HBA
        go_wp2_with fail
        refine H8.out.mono ?_
        rintro e w12 ⟨⟨v15, rfl, hr15⟩, hb12⟩
        have HW := hid (HB11.out.trans (hb12.mono HB11.out.size))
        have H13S := hid (bsOf (HS14.out.below HW.out) HC13.out HN13.out)
        have HA12 := hid (HA10.out.kept HW.out)
        have HB12 := hid (HB9.out.trans (HW.out.mono HB9.out.size))
        have H15 := hid (held hr15)
        have H12 := hid (size_pos z w12 hz1 hpos)
        have H13 := hid (put_one_pos z w12 hpos hz1)
        clear hr15 hb12 HB11 HW HA10 HB9 HS14 H8
        go_wp2_with fail
        refine H12.out.mono ?_
        rintro e w' ⟨rfl, rfl⟩
        go_wp2_with fail
        refine H13.out.mono ?_
        rintro e w13 ⟨v105, rfl, hr105, hb13⟩
        have HA13 := hid (HA12.out.kept hb13)
        have HB13 := hid (HB12.out.trans (hb13.mono HB12.out.size))
        have H15b := hid (H15.out.below hb13)
        have H9 := hid (same_v v105 _ _ _ w13 hr105 (H13S.out.below hb13) rfl)
        clear hb13 hr105 HA12 HB12 H15 H12 H13 H13S
        go_wp2_with fail
        refine H9.out.mono ?_
        rintro e w14 ⟨rfl, hb14⟩
        have HA14 := hid (HA13.out.kept hb14)
        have HB14 := hid (HB13.out.trans (hb14.mono HB13.out.size))
        have H9 := hid (same_v v15 (.slice a2 bh.length c2) bh bh w14 (H15b.out.below hb14) (bsOf (HSB.out.below HB14.out) HC2.out HN2.out) rfl)
        clear hb14 HA13 HB13 H15b
        go_wp2_with fail
        refine H9.out.mono ?_
        rintro e w15 ⟨rfl, hb15⟩
        have HA15 := hid (HA14.out.kept hb15)
        have HB15 := hid (HB14.out.trans (hb15.mono HB14.out.size))
        clear hb15 HA14 HB14 H9
        go_wp2_with fail
        go_roundw
        case rel => exact ⟨k + 1, by omega, by omega, by go_num, by rw [HN1.out], by rw [HA8.out]; exact HA15.out, HB15.out⟩
        case measure => simp [intOf]; omega
    · have HTK := hid ((HS.out.front k))
      have hlk : (zs.take k).length = k := by rw [List.length_take]; omega
      have hmin : min (zs.length : Int) 12 = (k : Int) := by omega
      have HZK : Hid (∀ z ∈ zs.take k, z ≤ 9223372036854775807) := hid fun z h => (HZ.out z (List.mem_of_mem_take h)).2
      have hkc : (k : Int) ≤ c := by omega
      have HK := hid (known_any wr)
      have HPOS := hid (allOf_pos (zs := zs) (k := k))
      rcases (show (zs.length : Int) ≤ k ∨ ((k : Int) < zs.length ∧ (12 : Int) ≤ k) by omega) with h1 | ⟨h1, h2⟩
      all_goals
        clear hgo
        have HLK := hid hlk
        clear hlk
        by_cases hng : anyNeg (zs.take k) = true
        · have HNGK := hid hng
          rw [hng]
          clear hng
          go_wp2_with fail
          refine HK.out.mono ?_
          rintro e w1 ⟨rfl, hb1⟩
          have HB1 := hid (hb.trans (hb1.mono hb.size))
          have HP := put_any _ a c (zs.take k) w1 (HTK.out.below HB1.out) (by rw [HLK.out]; omega) HZK.out
          rw [HLK.out] at HP
          have HP := hid HP
          clear hb hb1
          go_wp2_with fail
          refine HP.out.mono ?_
          rintro e w2 ⟨v2, rfl, hr2, hb2⟩
          unfold putOf at hr2
          rw [HNGK.out] at hr2
          have hr2 : Row 5 w1.heap.size w2 v2 [] := hr2
          obtain ⟨a3, c3, rfl, _⟩ := hr2.sl
          have HB2 := hid (HB1.out.trans (hb2.mono HB1.out.size))
          clear hr2 hb2 HP
          go_wp2_with fail
          go_ret
          exact ⟨rfl, HB2.out⟩
        · have hng : anyNeg (zs.take k) = false := by simpa using hng
          have HNGK := hid hng
          rw [hng]
          clear hng
          go_wp2_with fail
          refine HK.out.mono ?_
          rintro e w1 ⟨rfl, hb1⟩
          have HB1 := hid (hb.trans (hb1.mono hb.size))
          have HA1 := hid (HA.out.kept hb1)
          have HP := put_any _ a c (zs.take k) w1 (HTK.out.below HB1.out) (by rw [HLK.out]; omega) HZK.out
          rw [HLK.out] at HP
          have HP := hid HP
          clear hb hb1
          go_wp2_with fail
          refine HP.out.mono ?_
          rintro e w2 ⟨v2, rfl, hr2, hb2⟩
          unfold putOf at hr2
          rw [HNGK.out] at hr2
          have hr2 : Row 5 w1.heap.size w2 v2 (puts (zs.take k)) := hr2
          have H9 := hid (same_v v2 _ _ _ w2 (held hr2) (held (HA1.out.kept hb2)) (HPOS.out HNGK.out).symm)
          have HB2 := hid (HB1.out.trans (hb2.mono HB1.out.size))
          clear hr2 hb2 HP
          go_wp2_with fail
          refine H9.out.mono ?_
          rintro e w3 ⟨rfl, hb3⟩
          have HB3 := hid (HB2.out.trans (hb3.mono HB2.out.size))
          clear hb3 H9
          go_wp2_with fail
          go_ret
          exact ⟨rfl, HB3.out⟩
namespace varintPuts
open Go.ChangeShapes Go.WideShapes Go.ChangeAt

theorem own : ownKnob Try.prog.godebug = none := by kernel_rfl
theorem laidOut : laidOutB Try.prog = true := by kernel_rfl

set_option maxRecDepth 100000 in
theorem lifted (os : Os) (started : os.Started) (H : Type) (enc : TypeId × Value → H) :
    ReturnsInHanded {} Try.checked os 3 .any (Rows.varintPutsSpec.pre6 enc Try.prog Try.f3 Rows.varintPutsRow.domain false) (Rows.varintPutsSpec.post enc Try.prog Try.f3 false true false false) := by
  refine returnsInHanded_of_change (C := Try.checked) own started (by kernel_rfl) Try.func3
    (ChangeSpec.witness6 (enc := enc) (C := Try.checked) false ⟨#[], #[.slice none 0 0, .slice none 0 0], []⟩ 8 (by kernel_rfl) (by kernel_rfl) (by kernel_rfl) (by kernel_rfl)) ?_
  intro W base args ds gs before hval0 hW hcnd _
  have hval : ∀ (j : Nat) t v, Try.f3.params[j]? = some t → args[j]? = some v → Value.okWide Try.prog W .any base t v := hval0
  have hW' := hW
  obtain ⟨p, q, hA0, hV, rfl, hfz, hnd⟩ := hW
  have hA : DataW.TrodAll enc Try.prog W 0 (fun _ => true) true Try.f3.params.toList args.toList ds p := hA0
  rw [Try.params3] at hA hval
  obtain ⟨v0, vs0, d0, ds0, p0, q0, hargs, rfl, rfl, h0, r0⟩ := trodAll_cons hA
  obtain ⟨v1, vs1, d1, ds1, p1, q1, rfl, rfl, rfl, h1, r1⟩ := trodAll_cons r0
  obtain ⟨rfl, rfl, rfl⟩ := trodAll_nil r1
  obtain rfl : args = #[v0, v1] := by cases args; simp_all
  obtain ⟨rfl, rfl⟩ := trodVars_none hV
  obtain ⟨a0, len0, cap0, rfl⟩ := okWide_slice Try.underlying22 (hval 0 22 v0 rfl rfl)
  have k0 := h0
  have lt0 : ∀ x ∈ p0, x.block < W.heap.size := by obtain ⟨m, hm⟩ := k0; exact DataW.trod_lt m _ _ _ hm
  obtain ⟨a, c, zs0, hv, hz0, hsi0, hlc0, hcm0, hn0⟩ : ∃ a c zs, Value.slice a0 len0 cap0 = .slice a (List.length zs) c ∧ (∀ z ∈ zs, -9223372036854775808 ≤ z ∧ z ≤ 9223372036854775807) ∧ Si (fun _ => True) W a zs ∧ zs.length ≤ c ∧ c ≤ maxLen ∧ (a = none → c = 0) := by
    obtain ⟨fuel, hf⟩ := h0
    exact open_si Try.underlying22 Try.underlying3 (by kernel_rfl) hf
  simp only [Value.slice.injEq] at hv
  obtain ⟨rfl, rfl, rfl⟩ := hv
  obtain ⟨a1, len1, cap1, rfl⟩ := okWide_slice Try.underlying23 (hval 1 23 v1 rfl rfl)
  have k1 := h1
  have lt1 : ∀ x ∈ p1, x.block < W.heap.size := by obtain ⟨m, hm⟩ := k1; exact DataW.trod_lt m _ _ _ hm
  obtain ⟨a, c, bs1, hv, hby1, hsl1, hlc1, hcm1, hn1⟩ : ∃ a c bs, Value.slice a1 len1 cap1 = .slice a (List.length bs) c ∧ Bytes bs ∧ Sl (fun _ => True) W a bs ∧ bs.length ≤ c ∧ c ≤ maxLen ∧ (a = none → c = 0) := by
    obtain ⟨fuel, hf⟩ := h1
    exact open_sl Try.underlying23 Try.underlying5 (by kernel_rfl) hf
  simp only [Value.slice.injEq] at hv
  obtain ⟨rfl, rfl, rfl⟩ := hv
  clear hA0 hval0
  refine (puts_walk a0 cap0 zs0 a1 cap1 bs1 W hsi0 ⟨hlc0, hcm0⟩ hz0 hsl1 hby1 ⟨hlc1, hcm1⟩ hn1).mono fun e W' ⟨he, bel⟩ => ?_
  subst he
  exact ⟨_, rfl, _, _, _, [], _, [], hW', trodAll_mk1 (shut_bool Try.underlying4 _), (trodAll_cons_mk (Below.trod laidOut (by kernel_rfl) (of_decide_eq_true (by kernel_rfl)) k0 bel lt0) (trodAll_cons_mk (Below.trod laidOut (by kernel_rfl) (of_decide_eq_true (by kernel_rfl)) k1 bel lt1) trodAll_mk0)), rfl, bel.frame _, fun h => by cases h⟩

/-- THE STATEMENT. -/
theorem proved : Rows.VarintPutsSaid :=
  OpenClaim.holds_of_wide 3 Try.f3 rfl rfl rfl rfl rfl rfl rfl ⟨rfl, rfl, rfl, rfl, rfl⟩ rfl rfl rfl rfl rfl (by kernel_rfl) Try.func3 (by kernel_rfl)
    (of_decide_eq_true (by kernel_rfl)) (by unfold Func.isWrapper; first | (rw [if_pos (by decide +kernel)]; kernel_rfl) | (rw [if_neg (by decide +kernel)]; exact ⟨rfl, rfl⟩))
    (fun os started H enc _ => lifted os started H enc)
end varintPuts
end Go.Proofs.Ytpipgbehpppjbaa
