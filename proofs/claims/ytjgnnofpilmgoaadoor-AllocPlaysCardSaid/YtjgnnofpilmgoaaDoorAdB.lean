/- CONTRACTS: the document's allocator: turn, Commit, Abort, Adopt, Give. -/
import Derived.Test.YtjgnnofpilmgoaaDoorAdA
namespace Go.Proofs.YtjgnnofpilmgoaaDoor
open Go.RowKit Go.Inc

def tt (a b x : Nat) : Nat := if x = a then b else x
theorem tt_c (x : Nat) : tt 3 2 (tt 4 1 x) = cK x := by
  unfold tt cK
  by_cases h4 : x = 4
  · simp [h4]
  · by_cases h3 : x = 3
    · simp [h3]
    · simp [h3, h4]
theorem tt_a (x : Nat) : tt 4 2 (tt 3 1 x) = aK x := by
  unfold tt aK
  by_cases h4 : x = 4
  · simp [h4]
  · by_cases h3 : x = 3
    · simp [h3]
    · simp [h3, h4]
/-- The first k of them turned. -/
def turnTo (ks : List Nat) (a b k : Nat) : List Nat := mkK ks.length fun i => if i < k then tt a b (kd ks i) else kd ks i
theorem turnTo_len (ks : List Nat) (a b k : Nat) : (turnTo ks a b k).length = ks.length := mkK_len _ _
theorem turnTo_zero (ks : List Nat) (a b : Nat) : turnTo ks a b 0 = ks := ext_kd (turnTo_len _ _ _ _) fun i hi => by
  rw [turnTo_len] at hi
  unfold turnTo
  rw [kd_mkK hi, if_neg (by omega)]
theorem turnTo_all (ks : List Nat) (a b : Nat) : turnTo ks a b ks.length = mapK (tt a b) ks := ext_kd (by rw [turnTo_len, mapK_len]) fun i hi => by
  rw [turnTo_len] at hi
  unfold turnTo mapK
  rw [kd_mkK hi, if_pos hi, kd_map _ hi]
theorem turnTo_step {ks : List Nat} {a b k : Nat} (hk : k < ks.length) : turnTo ks a b (k + 1) = (turnTo ks a b k).set k (tt a b (kd ks k)) := ext_kd (by rw [List.length_set, turnTo_len, turnTo_len]) fun i hi => by
  rw [turnTo_len] at hi
  rw [kd_set (by rw [turnTo_len]; exact hk)]
  unfold turnTo
  rw [kd_mkK hi, kd_mkK hi]
  by_cases h : i = k
  · subst h
    rw [if_pos (by omega), if_pos rfl]
  · rw [if_neg h]
    by_cases h2 : i < k
    · rw [if_pos (by omega), if_pos h2]
    · rw [if_neg (by omega), if_neg h2]
theorem turnTo_at {ks : List Nat} {a b k : Nat} (hk : k < ks.length) : kd (turnTo ks a b k) k = kd ks k := by
  unfold turnTo
  rw [kd_mkK hk, if_neg (by omega)]
theorem set_kd {ks : List Nat} {k : Nat} (hk : k < ks.length) : ks.set k (kd ks k) = ks := ext_kd (by rw [List.length_set]) fun i hi => by
  rw [List.length_set] at hi
  rw [kd_set hk]
  split
  · rename_i e; rw [e]
  · rfl
set_option maxHeartbeats 2000000 in
theorem dTurn_any (g : Nat) (ks : List Nat) (fa fb : Nat) (w : World) (h : Dk w g ks) (hl : (ks.length : Int) ≤ 2048) :
    Calls Tryd.prog 38 #[.slice (some ⟨g, 0, none⟩) ks.length ks.length, .int .i64 (fa : Int), .int .i64 (fb : Int)] w fun r w' => r = .returned (.tuple #[]) ∧ Dk w' g (mapK (tt fa fb) ks) ∧ Mv (fun i => i = g) w w' := by
  have HM := hid h
  obtain ⟨n, hn⟩ : ∃ n, n = ks.length := ⟨_, rfl⟩
  have HN := hid hn
  rw [← hn] at hl ⊢
  clear h hn
  go_enter Tryd.func38, Tryd.ntmps38
  go_wp2_with fail
  go_loopw [6] (fun i wr => ∃ k : Nat, k ≤ n ∧ i = .int .i64 (k : Int) ∧ Dk wr g (turnTo ks fa fb k) ∧ Mv (fun i => i = g) w wr) (fun i _ => n - (intOf i).toNat)
  case atStart => exact ⟨0, Nat.zero_le _, rfl, by rw [turnTo_zero]; exact HM.out, Mv.refl _ _⟩
  case round =>
    obtain ⟨k, hk, rfl, hd, hm⟩ := hrel
    have HD := hid hd
    have HMV := hid hm
    clear hd hm
    by_cases hlt : (k : Int) < n
    · have hkl : k < ks.length := by have := HN.out; omega
      have hc := HD.out.cell (i := k) (by rw [turnTo_len]; exact hkl)
      rw [turnTo_at hkl] at hc
      have HST := hid (turnTo_step (ks := ks) (a := fa) (b := fb) hkl)
      have HAT := hid (turnTo_at (ks := ks) (a := fa) (b := fb) hkl)
      have HKL := hid hkl
      have hkn : (k < n) = True := eq_true (by omega)
      by_cases hb : kd ks k = fa
      · have HB := hid hb
        rw [hb] at hc
        have hfz := HD.out.fz k
        clear hb hkl
        go_wp2_with fail
        go_roundw
        case rel =>
          have hp := HD.out.put k fb
          refine ⟨k + 1, by omega, by go_num, ?_, mv_setCell HMV.out rfl _⟩
          rw [HST.out, show tt fa fb (kd ks k) = fb from if_pos HB.out]
          exact hp
        case measure => simp [intOf]; omega
      · have hne : (((kd ks k : Nat) : Int) == (fa : Int)) = false := by rw [beq_eq_false_iff_ne]; omega
        have HB := hid hb
        clear hb hkl
        go_wp2_with fail
        go_roundw
        case rel =>
          refine ⟨k + 1, by omega, by go_num, ?_, HMV.out⟩
          rw [HST.out, show tt fa fb (kd ks k) = kd ks k from if_neg HB.out]
          have e := set_kd (ks := turnTo ks fa fb k) (k := k) (by rw [turnTo_len]; exact HKL.out)
          rw [HAT.out] at e
          rw [e]
          exact HD.out
        case measure => simp [intOf]; omega
    · have hkf : (k < n) = False := eq_false (by omega)
      have HKN : Hid (k = n) := hid (by omega)
      clear hlt
      go_wp2_with fail
      go_end0
      refine ⟨rfl, ?_, HMV.out⟩
      have hh := HD.out
      rw [HKN.out, HN.out, turnTo_all] at hh
      exact hh
theorem mapK_mapK (f f' : Nat → Nat) (ks : List Nat) (h : Nat → Nat) (he : ∀ x, f' (f x) = h x) : mapK f' (mapK f ks) = mapK h ks := by
  unfold mapK
  rw [List.map_map]
  exact List.map_congr_left fun x _ => he x
/-- Commit, Abort: three calls, one behind the other. -/
theorem dCommit_any (g : Nat) (ks : List Nat) (w : World) (h : Dk w g ks) (h0 : 0 < ks.length) (hl : (ks.length : Int) ≤ 2048) :
    Calls Tryd.prog 16 #[.slice (some ⟨g, 0, none⟩) ks.length ks.length] w fun r w' => (∃ v, r = .returned v ∧ w'.ownsRow w.heap.size 3 1 v (pagesK isP ks).length (nvals (pagesK isP ks))) ∧ Dk w' g (mapK cK ks) ∧ Mv (fun i => i = g) w w' := by
  have HM := hid h
  have HG := hid (h.lt h0)
  have HA := hid (dAll_any g ks 4 w h hl)
  have HT1 : Hid (∀ x, Dk x g ks → Calls Tryd.prog 38 #[.slice (some ⟨g, 0, none⟩) ks.length ks.length, .int .i64 4, .int .i64 1] x fun r w' => r = .returned (.tuple #[]) ∧ Dk w' g (mapK (tt 4 1) ks) ∧ Mv (fun i => i = g) x w') := hid fun x hx => dTurn_any g ks 4 1 x hx hl
  have HT2 : Hid (∀ x, Dk x g (mapK (tt 4 1) ks) → Calls Tryd.prog 38 #[.slice (some ⟨g, 0, none⟩) ks.length ks.length, .int .i64 3, .int .i64 2] x fun r w' => r = .returned (.tuple #[]) ∧ Dk w' g (mapK cK ks) ∧ Mv (fun i => i = g) x w') := hid fun x hx => by
    have := dTurn_any g _ 3 2 x hx (by rw [mapK_len]; exact hl)
    rw [mapK_len, mapK_mapK _ _ _ _ tt_c] at this
    exact this
  obtain ⟨n, hn⟩ : ∃ n, n = ks.length := ⟨_, rfl⟩
  rw [← hn] at HA HT1 HT2 ⊢
  clear h h0 hn
  go_enter Tryd.func16, Tryd.ntmps16
  go_wp2_with fail
  refine HA.out.mono ?_
  clear HA
  rintro e w1 ⟨⟨v, rfl, hv⟩, hb⟩
  have HV := hid hv
  have HB := hid hb
  clear hv hb
  go_wp2_with fail
  refine (HT1.out w1 (HM.out.below HB.out)).mono ?_
  rintro e w2 ⟨rfl, hd, hm⟩
  have HD2 := hid hd
  have HM2 := hid hm
  clear hd hm
  go_wp2_with fail
  refine (HT2.out w2 HD2.out).mono ?_
  rintro e w3 ⟨rfl, hd, hm⟩
  have HD3 := hid hd
  have HM3 := hid hm
  clear hd hm
  go_wp2_with fail
  go_ret
  exact ⟨⟨_, rfl, owns_mv HV.out (HM2.out.trans HM3.out) fun i hi e => by have := own_base' HV.out hi; have := HG.out; omega⟩, HD3.out, (Mv.of_below HB.out).trans (HM2.out.trans HM3.out)⟩
theorem dAbort_any (g : Nat) (ks : List Nat) (w : World) (h : Dk w g ks) (h0 : 0 < ks.length) (hl : (ks.length : Int) ≤ 2048) :
    Calls Tryd.prog 18 #[.slice (some ⟨g, 0, none⟩) ks.length ks.length] w fun r w' => (∃ v, r = .returned v ∧ w'.ownsRow w.heap.size 3 1 v (pagesK isS ks).length (nvals (pagesK isS ks))) ∧ Dk w' g (mapK aK ks) ∧ Mv (fun i => i = g) w w' := by
  have HM := hid h
  have HG := hid (h.lt h0)
  have HA := hid (dAll_any g ks 3 w h hl)
  have HT1 : Hid (∀ x, Dk x g ks → Calls Tryd.prog 38 #[.slice (some ⟨g, 0, none⟩) ks.length ks.length, .int .i64 3, .int .i64 1] x fun r w' => r = .returned (.tuple #[]) ∧ Dk w' g (mapK (tt 3 1) ks) ∧ Mv (fun i => i = g) x w') := hid fun x hx => dTurn_any g ks 3 1 x hx hl
  have HT2 : Hid (∀ x, Dk x g (mapK (tt 3 1) ks) → Calls Tryd.prog 38 #[.slice (some ⟨g, 0, none⟩) ks.length ks.length, .int .i64 4, .int .i64 2] x fun r w' => r = .returned (.tuple #[]) ∧ Dk w' g (mapK aK ks) ∧ Mv (fun i => i = g) x w') := hid fun x hx => by
    have := dTurn_any g _ 4 2 x hx (by rw [mapK_len]; exact hl)
    rw [mapK_len, mapK_mapK _ _ _ _ tt_a] at this
    exact this
  obtain ⟨n, hn⟩ : ∃ n, n = ks.length := ⟨_, rfl⟩
  rw [← hn] at HA HT1 HT2 ⊢
  clear h h0 hn
  go_enter Tryd.func18, Tryd.ntmps18
  go_wp2_with fail
  refine HA.out.mono ?_
  clear HA
  rintro e w1 ⟨⟨v, rfl, hv⟩, hb⟩
  have HV := hid hv
  have HB := hid hb
  clear hv hb
  go_wp2_with fail
  refine (HT1.out w1 (HM.out.below HB.out)).mono ?_
  rintro e w2 ⟨rfl, hd, hm⟩
  have HD2 := hid hd
  have HM2 := hid hm
  clear hd hm
  go_wp2_with fail
  refine (HT2.out w2 HD2.out).mono ?_
  rintro e w3 ⟨rfl, hd, hm⟩
  have HD3 := hid hd
  have HM3 := hid hm
  clear hd hm
  go_wp2_with fail
  go_ret
  exact ⟨⟨_, rfl, owns_mv HV.out (HM2.out.trans HM3.out) fun i hi e => by have := own_base' HV.out hi; have := HG.out; omega⟩, HD3.out, (Mv.of_below HB.out).trans (HM2.out.trans HM3.out)⟩
end Go.Proofs.YtjgnnofpilmgoaaDoor
