/- 'PackedFits' walked where all numbers are right. -/
import Derived.Test.YtcgapplblhbdlaaPkS
namespace Go.Proofs.Ytcgapplblhbdlaa
open Go.RowKit Go.Inc

theorem bs_below {w w' : World} {v : Value} {bs : List Nat} (h : Bs w v bs) (hb : Below w.heap.size w w') : Bs w' v bs := by
  obtain ⟨a, c, h1, h2, h3⟩ := h
  exact ⟨a, c, h1, h2.below hb, h3⟩
theorem seven_row (x : World) : Sl (fun b => b = x.heap.size) (x.alloc (.cells #[.int .u8 7] 5)) (some ⟨x.heap.size, 0, none⟩) [7] := Sl.row [7] (heap_alloc_new x _)
set_option maxRecDepth 20000 in
set_option maxHeartbeats 4000000 in
theorem pkFits_good (ok : Nat → Prop) (x : World) (a : Option Addr) (c m : Nat) (ms : List Nat) (n : Int) (hs : Si ok x a (nI ms)) (hc : m ≤ c ∧ c ≤ maxLen) (hmin : min (m : Int) 40 = (ms.length : Int)) (hall0 : ∀ t, t < ms.length → widthZ ((nI ms).getD t 0) ≠ 0) (hfit : FitsP (widTo (nI ms) ms.length) ms) :
    Calls Try.prog 4 #[.slice a m c, .int .i64 n] x fun e w' => e = .returned (.bool true) ∧ Below x.heap.size x w' := by
  have hl40 : (ms.length : Int) ≤ 40 := by omega
  have hlm : (ms.length : Int) ≤ (m : Int) := by omega
  have hlc : (ms.length : Int) ≤ (c : Int) := by omega
  have HF := hid (pkFit_any ok x a c ms hs (by omega) hfit)
  have HOK := hid hall0
  have HS := hid hs
  have HFIT := hid hfit
  obtain ⟨K, hK⟩ : ∃ K, K = ms.length := ⟨_, rfl⟩
  have HK := hid hK
  rw [← hK] at hmin hl40 hlm hlc HF HFIT HOK
  have HCM := hid hc
  have hm0 : (0 : Int) ≤ (m : Int) := by omega
  have HW1 := hid (widTo_one (nI ms) K)
  have HW31 := hid (widTo_le (nI ms) K)
  clear hs hc hfit hall0 hK
  go_enter Try.func4, Try.ntmps4
  go_wp2_with fail
  refine HF.out.mono ?_
  rintro e x1 ⟨⟨p, rfl, b, v, V, rfl, hbge, hat⟩, hb1⟩
  have HB1 := hid hb1
  have HAT := hid hat
  clear hb1 HF hat hbge
  go_wp2_with fail
  refine (pkWidth_any n x1).mono ?_
  rintro e w1 ⟨rfl, rfl⟩
  go_wp2_with fail
  refine (refWidth_any n x1).mono ?_
  rintro e w1 ⟨rfl, rfl⟩
  have hnn : ((widthZ n : Int) != (widthZ n : Int)) = false := by simp
  generalize widthZ n = u at *
  go_wp2_with fail
  go_loop [7, 8] (fun v i => ∃ k : Nat, k ≤ K ∧ i = .int .i64 (k : Int) ∧ v = .int .i64 ((widTo (nI ms) k : Nat) : Int)) (fun _ i => K - (intOf i).toNat)
  case atStart => exact ⟨0, Nat.zero_le _, rfl, rfl⟩
  case round =>
    obtain ⟨k, hk, rfl, rfl⟩ := hrel
    by_cases hlt : (k : Int) < K
    · obtain ⟨b0, o0, rfl, hc⟩ : ∃ b0 o0, a = some ⟨b0, o0, none⟩ ∧ x1.cell? ⟨b0, o0 + k, none⟩ = some (.int .i64 ((nI ms).getD k 0)) := by
        rcases HS.out.below HB1.out with h | ⟨b0, o0, h, _, hc⟩
        · have := HK.out; rw [← nI_len, h] at this; simp at this; omega
        · exact ⟨b0, o0, h, hc k (by rw [nI_len, ← HK.out]; omega)⟩
      have HX : Hid (widTo (nI ms) (k + 1) = max (widTo (nI ms) k) (widthZ ((nI ms).getD k 0))) := hid rfl
      have hy0 := HOK.out k (by omega)
      obtain ⟨z, hz⟩ : ∃ z, z = (nI ms).getD k 0 := ⟨_, rfl⟩
      rw [← hz] at hc HX hy0
      have HW := hid (refWidth_any z x1)
      have hb1 := widTo_le (nI ms) k
      have hb2 := widthZ_le z
      obtain ⟨u2, hu⟩ : ∃ u2, u2 = widTo (nI ms) k := ⟨_, rfl⟩
      obtain ⟨y, hy⟩ : ∃ y, y = widthZ z := ⟨_, rfl⟩
      rw [← hu] at HX hb1 ⊢
      rw [← hy] at HX HW hb2 hy0
      have hkn : (k < K) = True := eq_true (by omega)
      have hy0' : ((y : Int) == 0) = false := by rw [beq_eq_false_iff_ne]; omega
      have hmx : max (u2 : Int) (y : Int) = ((max u2 y : Nat) : Int) := by omega
      rw [← HX.out] at hmx
      clear hz hu hy hy0
      go_wp2_with fail
      refine HW.out.mono ?_
      rintro e w1 ⟨rfl, rfl⟩
      go_wp2_with fail
      refine HW.out.mono ?_
      rintro e w1 ⟨rfl, rfl⟩
      go_wp2_with fail
      go_round
      case rel => exact ⟨k + 1, by omega, by go_num, rfl⟩
      case measure => simp [intOf]; omega
    · have hkn : (k < K) = False := eq_false (by omega)
      have HKK : Hid (k = K) := hid (by omega)
      clear hlt
      rw [HKK.out]
      have HT := hid (pkTells_any _ x1 b _ v _ ms V a c HAT.out (HS.out.below HB1.out))
      rw [← HK.out] at HT
      have hwi1 : (1 : Int) ≤ (widTo (nI ms) K : Nat) := by have := HW1.out; omega
      obtain ⟨w, hw⟩ : ∃ w, w = widTo (nI ms) K := ⟨_, rfl⟩
      rw [← hw] at HT HAT HW1 HW31 HFIT hwi1 ⊢
      clear hw HOK
      go_wp2_with fail
      refine HT.out.mono ?_
      rintro e x2 ⟨rfl, hb2⟩
      have HB2 := hid (HB1.out.trans (hb2.mono HB1.out.size))
      have HAT2 := hid (HAT.out.below hb2)
      have HBY := hid (pkBytes_any x2 b _ v w ms V HAT2.out)
      clear hb2 HT HB1 HAT
      go_wp2_with fail
      refine HBY.out.mono ?_
      rintro e x3 ⟨u3, rfl, hr3, hb3⟩
      have HR3 := hid hr3
      have HB3 := hid (HB2.out.trans (hb3.mono HB2.out.size))
      have HAT3 := hid (HAT2.out.below hb3)
      have HSZ : Hid (x2.heap.size ≤ x3.heap.size) := hid hb3.size
      have hln : (pkBs w ms).length ≤ 1000 := by
        unfold pkBs
        rw [List.length_cons, List.length_append, pkB_len]
        have h1 := Var.put_ten (n := ms.length) (by have := HK.out; omega)
        have h2 : w * ms.length ≤ 31 * 40 := Nat.mul_le_mul HW31.out (by have := HK.out; omega)
        omega
      have HLN := hid hln
      have HX2 : Hid (x.heap.size ≤ x2.heap.size) := hid HB2.out.size
      have HLT : Hid (∀ i, Own2 b v i → i < x2.heap.size) := hid fun i hi => by
        rcases hi with rfl | hi
        · exact HAT2.out.raw.blt
        · exact HAT2.out.raw.glt i hi
      clear hr3 hb3 HBY HB2 HAT2 hln
      go_wp2_with (refine wpList_append_any rfl (.tmp 66) (.tmp 67) 44 rfl x2.heap.size 5 (.int .u8 0) 1 Try.underlying44 infoU8 rfl _ _ _ rfl (HR3.out.alloc _) (some ⟨x3.heap.size, 0, none⟩) 1 1 _ rfl rfl (by intro h; cases h) (one_new x3 _ _) (by simp [Value.oneCell']) (by have := HLN.out; unfold maxLen; omega) (by have := HLN.out; omega) (by have := HSZ.out; simp; omega) ?_)
      intro v4 x4 hv4 hg4 _
      have HB4 : Hid (Below x.heap.size x x4) := hid ((HB3.out.alloc HB3.out.size _).grown hg4 (by have := HB3.out.size; simp; omega) fun g hg => Nat.le_trans HX2.out (HR3.out.lt g hg).1)
      have HAT4 := hid ((HAT3.out.below ((Below.refl _ _).alloc (Nat.le_refl _) (.cells #[.int .u8 7] 5))).mv (F := fun i => u3.ownBlock = some i) (Mv.of_grown hg4 fun g hg _ => hg) (fun hf => by
        have h1 := (HR3.out.lt _ hf).1
        have h2 := HLT.out b (.inl rfl)
        omega) (fun g hg hf => by
        have h1 := (HR3.out.lt _ hf).1
        have h2 := HLT.out g (.inr hg)
        omega))
      have hv5 := row_one hv4 rfl rfl
      obtain ⟨a5, c5, rfl, -, hc5, hc5', hs5⟩ := Row.sl hv5
      have HP := hid (pkParse_any _ x4 w ms [7] a5 _ c5 hs5 rfl ⟨hc5, hc5'⟩ HW1.out HW31.out (by have := HK.out; omega) HFIT.out (by intro y hy; simp at hy; omega) (by decide) (by decide))
      have hl5 : (pkBs w ms ++ [7]).length = (pkBs w ms).length + 1 := by simp
      rw [hl5] at HP
      clear hv4 hg4 hv5 hs5 hc5 hc5' HR3 HB3 HAT3 HLT hl5
      go_wp2_with fail
      refine HP.out.mono ?_
      rintro e x5 ⟨⟨p, u, rfl, ⟨b', v', V', rfl, -, hat5⟩, hbs⟩, hb5⟩
      have HB5 := hid (HB4.out.trans (hb5.mono HB4.out.size))
      have HA5 := hid (HAT4.out.below hb5)
      have HN5 := hid hat5
      have HBS := hid hbs
      clear hb5 hat5 hbs HP HB4 HAT4
      go_wp2_with fail
      refine (pkKnown_any x5).mono ?_
      rintro e x6 ⟨rfl, hb6⟩
      have HB6 := hid (HB5.out.trans (hb6.mono HB5.out.size))
      have HSM := hid (pkSame_any x6 b b' w _ _ v v' ms ms V V' (HA5.out.below hb6) (HN5.out.below hb6))
      rw [decide_eq_true rfl] at HSM
      have HBS6 := hid (bs_below HBS.out hb6)
      clear hb6 HB5 HA5 HN5 HBS
      go_wp2_with fail
      refine HSM.out.mono ?_
      rintro e x7 ⟨rfl, hb7⟩
      have HB7 := hid (HB6.out.trans (hb7.mono HB6.out.size))
      have hb8 : Below x7.heap.size x7 (x7.alloc (.cells #[.int .u8 7] 5)) := (Below.refl _ _).alloc (Nat.le_refl _) _
      have HSV := hid (same_v u (.slice (some ⟨x7.heap.size, 0, none⟩) 1 1) [7] [7] _ (bs_below (bs_below HBS6.out hb7) hb8) ⟨some ⟨x7.heap.size, 0, none⟩, 1, rfl, (seven_row x7).mono fun _ _ _ => trivial, by decide, by unfold maxLen; omega, fun h => by cases h⟩ rfl)
      have HB8 := hid (HB7.out.trans (hb8.mono HB7.out.size))
      clear hb7 hb8 HSM HB6 HBS6
      go_wp2_with fail
      refine HSV.out.mono ?_
      rintro e x9 ⟨rfl, hb9⟩
      have HB9 := hid (HB8.out.trans (hb9.mono HB8.out.size))
      clear hb9
      go_wp2_with fail
      go_ret
      exact ⟨rfl, HB9.out⟩
theorem pkFits_walk (x : World) (a : Option Addr) (c : Nat) (zs : List Int) (n : Int) (hs : Si (fun _ => True) x a zs) (hc : zs.length ≤ c ∧ c ≤ maxLen) :
    Calls Try.prog 4 #[.slice a zs.length c, .int .i64 n] x fun e w' => e = .returned (.bool true) ∧ Below x.heap.size x w' := by
  have hmin : min (zs.length : Int) 40 = ((zs.take 40).length : Int) := by rw [List.length_take]; omega
  have hs2 := hs.front 40
  cases hall : allF (widTo (zs.take 40) (zs.take 40).length) (zs.take 40) with
  | false => exact pkFits_bad _ x a c zs.length (zs.take 40) n hs2 hc hmin hall
  | true =>
    obtain ⟨ms, hms, hfit⟩ := allF_nat hall
    have h0 := (allF_wid (zs.take 40)).1 hall
    rw [hms] at hmin hs2 hfit h0
    rw [nI_len] at hmin hfit h0
    exact pkFits_good _ x a c zs.length ms n hs2 hc hmin h0 hfit
end Go.Proofs.Ytcgapplblhbdlaa
