/- CONTRACTS: the document's sets: Bytes; lists that are the same; words that are the same. -/
import Derived.Test.YtpdkfmanehgabaaDoorBmRef
namespace Go.Proofs.YtpdkfmanehgabaaDoor
open Go.RowKit Go.Inc

set_option maxRecDepth 20000 in
set_option maxHeartbeats 2000000 in
theorem refBytes_any (ok : Nat → Prop) (a : Option Addr) (c : Nat) (m : List Bool) (w : World) (hm : Bl ok w a m) (hl : (m.length : Int) ≤ 2048) :
    Calls Tryd.prog 17 #[.slice a m.length c] w fun e w' => (∃ x, e = .returned x ∧ Row 5 w.heap.size w' x (bytesB (inB m) m.length)) ∧ Below w.heap.size w w' := by
  have HM := hid hm
  obtain ⟨n, hn⟩ : ∃ n, n = m.length := ⟨_, rfl⟩
  have HN := hid hn
  obtain ⟨B, hB⟩ : ∃ B, B = bytesB (inB m) m.length := ⟨_, rfl⟩
  have HBY := hid hB
  have HBL : Hid (B.length = (n + 7) / 8) := hid (by rw [hB, bytesB_len, hn])
  rw [← hB]
  rw [← hn] at hl ⊢
  clear hm hn hB
  go_enter Tryd.func17, Tryd.ntmps17
  go_wp2_with fail
  go_loopw [3, 4] (fun l i wr => ∃ q : Nat, q ≤ (n + 7) / 8 ∧ i = .int .i64 ((8 * q : Nat) : Int) ∧ wr.ownsRow w.heap.size 5 1 l q (u8s (B.take q)) ∧ Below w.heap.size w wr) (fun _ i _ => n + 8 - (intOf i).toNat)
  case atStart => exact ⟨0, Nat.zero_le _, rfl, World.ownsRow_nil _ _ _ _, Below.refl _ _⟩
  case round =>
    obtain ⟨q, hq, rfl, hv, hb⟩ := hrel
    have HV := hid hv
    have HB := hid hb
    clear hv hb
    obtain ⟨no, hno⟩ : ∃ no, no = 8 * q := ⟨_, rfl⟩
    have HNO := hid hno
    rw [← hno]
    by_cases hlt : (no : Int) < n
    · have hqb : q < (n + 7) / 8 := by omega
      have HYB : Hid (B.take (q + 1) = B.take q ++ [accB (inB m) no 8]) := hid (by
        rw [take_snoc (by rw [HBL.out]; exact hqb), HBY.out, bytesB_get _ _ (by rw [← HN.out]; exact hqb), hno])
      have hks : (no < n) = True := eq_true (by omega)
      clear hno
      go_wp2_with fail
      go_loop [5, 6] (fun c k => ∃ t : Nat, t ≤ 8 ∧ k = .int .i64 (7 - (t : Int)) ∧ c = .int .u8 ((accB (inB m) no t : Nat) : Int)) (fun _ k => (intOf k + 1).toNat)
      case atStart => exact ⟨0, by omega, rfl, rfl⟩
      case round =>
        obtain ⟨t, ht, rfl, rfl⟩ := hrel
        have HAC : Hid (accB (inB m) no (t + 1) = 2 * accB (inB m) no t + (inB m (no + (7 - t))).toNat) := hid rfl
        have hal := accB_lt (inB m) no t
        obtain ⟨ac, hac⟩ : ∃ ac, ac = accB (inB m) no t := ⟨_, rfl⟩
        have HA := hid hac
        rw [← hac] at hal HAC ⊢
        clear hac
        by_cases ht8 : t < 8
        · have hp : (2 : Nat) ^ t ≤ 128 := Nat.pow_le_pow_right (n := 2) (i := t) (j := 7) (by decide) (by omega)
          have hac2 : (ac : Int) < 128 := by omega
          clear hp hal
          obtain ⟨j, hj⟩ : ∃ j, j = no + (7 - t) := ⟨_, rfl⟩
          rw [← hj] at HAC
          have hji : (no : Int) + (7 - (t : Int)) = (j : Int) := by omega
          by_cases hjn : j < n
          · obtain ⟨b', o, rfl, hc⟩ : ∃ b' o, a = some ⟨b', o, none⟩ ∧ wr.cell? ⟨b', o + j, none⟩ = some (.bool (inB m j)) := by
              rcases HM.out.below HB.out with h | ⟨b', o, h, _, hc⟩
              · have := HN.out; rw [h] at this; simp at this; omega
              · exact ⟨b', o, h, hc j (by have := HN.out; omega)⟩
            cases hbj : inB m j
            · rw [hbj] at hc HAC
              have HX : Hid (accB (inB m) no (t + 1) = 2 * ac) := hid HAC.out
              clear hbj hj
              go_wp2_with fail
              go_round
              case rel => exact ⟨t + 1, by omega, by go_num, by rw [HX.out]; go_num⟩
              case measure => simp [intOf]; omega
            · rw [hbj] at hc HAC
              have HX : Hid (accB (inB m) no (t + 1) = 2 * ac + 1) := hid HAC.out
              clear hbj hj
              go_wp2_with fail
              go_round
              case rel => exact ⟨t + 1, by omega, by go_num, by rw [HX.out]; go_num⟩
              case measure => simp [intOf]; omega
          · have HX : Hid (accB (inB m) no (t + 1) = 2 * ac) := hid (by rw [HAC.out, inB_far (by have := HN.out; omega)]; rfl)
            have hjf : (j < n) = False := eq_false hjn
            clear hjn hj
            go_wp2_with fail
            go_round
            case rel => exact ⟨t + 1, by omega, by go_num, by rw [HX.out]; go_num⟩
            case measure => simp [intOf]; omega
        · obtain rfl : t = 8 := by omega
          have hal2 : ac < 256 := hal
          clear hal ht8 HAC
          go_wp2_with (refine wpList_append_any rfl (.tmp 35) (.tmp 37) 39 rfl w.heap.size 5 (.int .u8 0) 1 Tryd.underlying39 infoByte rfl _ _ _ rfl (HV.out.alloc _) (some ⟨wr.heap.size, 0, none⟩) 1 1 _ rfl rfl (by intro h; cases h) (one_new wr _ _) (by simp [Value.oneCell']) (by unfold maxLen; omega) (by omega) (by have := HB.out.size; simp; omega) ?_)
          intro v4 w4 hv4 hg4 _
          have HB4 : Hid (Below w.heap.size w w4) := hid (below_owned (w0 := w) (HB.out.alloc HB.out.size _) (HV.out.alloc _) (Nat.le_refl _) hg4)
          have HV4 : Hid (w4.ownsRow w.heap.size 5 1 v4 (q + 1) (u8s (B.take (q + 1)))) := hid (by rw [HYB.out, u8s_append, ← HA.out]; exact hv4)
          clear hv4 hg4 HV HB
          go_wp2_with fail
          go_roundw
          case rel => exact ⟨q + 1, hqb, by rw [show 8 * (q + 1) = no + 8 from by have := HNO.out; omega]; go_num, HV4.out, HB4.out⟩
          case measure => simp [intOf]; omega
    · have hks : (no < n) = False := eq_false (by omega)
      have HKE : Hid (q = B.length) := hid (by rw [HBL.out]; omega)
      clear hlt hno
      go_wp2_with fail
      go_ret
      exact ⟨⟨_, rfl, by have h := HV.out; rw [HKE.out, List.take_of_length_le (Nat.le_refl _)] at h; exact h⟩, HB.out⟩

theorem takeI_snoc {bs : List Int} {k : Nat} (h : k < bs.length) : bs.take (k + 1) = bs.take k ++ [bs.getD k 0] := by
  rw [List.take_succ_eq_append_getElem h, List.getD_eq_getElem?_getD, List.getElem?_eq_getElem h]; rfl
theorem refSame_len (a b : Option Addr) (n m c d : Nat) (w : World) (h : n ≠ m) :
    Calls Tryd.prog 22 #[.slice a n c, .slice b m d] w fun e w' => e = .returned (.bool false) ∧ w = w' := by
  have hne : ((n : Int) != m) = true := by rw [bne_iff_ne]; omega
  have hne2 : ((n : Int) == m) = false := by rw [beq_eq_false_iff_ne]; omega
  clear h
  go_enter Tryd.func22, Tryd.ntmps22
  go_wp2
  go_ret
  exact ⟨rfl, rfl⟩
theorem refSame_nil (a b : Option Addr) (c d : Nat) (w : World) :
    Calls Tryd.prog 22 #[.slice a 0 c, .slice b 0 d] w fun e w' => e = .returned (.bool true) ∧ w = w' := by
  go_enter Tryd.func22, Tryd.ntmps22
  go_wp2
  go_loop [5] (fun i => i = .int .i64 0) (fun _ => 0)
  case atStart => rfl
  case round =>
    subst hrel
    go_wp2
    go_ret
    exact ⟨rfl, rfl⟩
set_option maxHeartbeats 1000000 in
theorem refSame_some (ab ao bb bo n c d : Nat) (xs ys : List Int) (w : World) (ha : xs.length = n) (hb : ys.length = n) (hm : (n : Int) ≤ 9223372036854775807)
    (hac : ∀ i, i < n → w.cell? ⟨ab, ao + i, none⟩ = some (.int .i64 (xs.getD i 0))) (hbc : ∀ i, i < n → w.cell? ⟨bb, bo + i, none⟩ = some (.int .i64 (ys.getD i 0))) :
    Calls Tryd.prog 22 #[.slice (some ⟨ab, ao, none⟩) n c, .slice (some ⟨bb, bo, none⟩) n d] w fun e w' => e = .returned (.bool (decide (xs = ys))) ∧ Below w.heap.size w w' := by
  have HA := hid ha
  have HB := hid hb
  have HAC := hid hac
  have HBC := hid hbc
  clear ha hb hac hbc
  go_enter Tryd.func22, Tryd.ntmps22
  go_wp2
  go_loopw [5] (fun i wr => ∃ k : Nat, k ≤ n ∧ i = .int .i64 k ∧ xs.take k = ys.take k ∧ Below w.heap.size w wr) (fun i _ => n - (intOf i).toNat)
  case atStart => exact ⟨0, Nat.zero_le _, rfl, rfl, Below.refl _ _⟩
  case round =>
    obtain ⟨k, hk, rfl, heq, hbel⟩ := hrel
    have HEQ := hid heq
    clear heq
    by_cases hlt : (k : Int) < n
    · have ca := HAC.out k (by omega)
      have cb := HBC.out k (by omega)
      rw [← hbel.cell (cell_lt ca)] at ca
      rw [← hbel.cell (cell_lt cb)] at cb
      have hsa := hid (takeI_snoc (bs := xs) (k := k) (by rw [HA.out]; omega))
      have hsb := hid (takeI_snoc (bs := ys) (k := k) (by rw [HB.out]; omega))
      generalize xs.getD k 0 = x at *
      generalize ys.getD k 0 = y at *
      by_cases hxy : x = y
      · have hne : (x != y) = false := by rw [bne_eq_false_iff_eq]; exact hxy
        have HXY := hid hxy
        clear hxy
        go_wp2_with fail
        go_quiet (fail)
        have hbq : Below w.heap.size w (wr.drewN nq) := ⟨hbel.os, hbel.tape, hbel.output, hbel.size, hbel.block⟩
        go_wp2_with fail
        go_roundw
        case rel => exact ⟨k + 1, by omega, by go_num, by rw [hsa.out, hsb.out, HEQ.out, HXY.out], hbq⟩
        case measure => simp [intOf]; omega
      · have hne : (x != y) = true := by rw [bne_iff_ne]; exact hxy
        have HXY := hid hxy
        clear hxy
        have hdec : Hid (decide (xs = ys) = false) := hid (by
          rw [decide_eq_false_iff_not]
          rintro rfl
          have h := hsa.out.symm.trans hsb.out
          simp at h
          exact HXY.out (by rw [h]))
        go_wp2_with fail
        go_quiet (fail)
        have hbq : Below w.heap.size w (wr.drewN nq) := ⟨hbel.os, hbel.tape, hbel.output, hbel.size, hbel.block⟩
        go_wp2_with fail
        go_ret
        exact ⟨by rw [hdec.out]; rfl, hbq⟩
    · have hdec : Hid (decide (xs = ys) = true) := hid (by
        rw [decide_eq_true_iff]
        have h := HEQ.out
        rwa [List.take_of_length_le (by rw [HA.out]; omega), List.take_of_length_le (by rw [HB.out]; omega)] at h)
      have hge : (n : Int) ≤ k := by omega
      clear hlt
      go_wp2_with fail
      go_ret
      exact ⟨by rw [hdec.out]; rfl, hbel⟩
/-- The same lists? -/
theorem refSame_any (ok ok' : Nat → Prop) (a b : Option Addr) (c d : Nat) (xs ys : List Int) (w : World) (ha : Si ok w a xs) (hb : Si ok' w b ys) (hm : (xs.length : Int) ≤ 9223372036854775807) :
    Calls Tryd.prog 22 #[.slice a xs.length c, .slice b ys.length d] w fun e w' => e = .returned (.bool (decide (xs = ys))) ∧ Below w.heap.size w w' := by
  by_cases hl : xs.length = ys.length
  · rcases ha with rfl | ⟨ab, ao, rfl, _, hac⟩
    · have : ys = [] := List.eq_nil_of_length_eq_zero (by simpa using hl.symm)
      subst this
      refine (refSame_nil a b c d w).mono ?_
      rintro e w' ⟨rfl, rfl⟩
      exact ⟨rfl, Below.refl _ _⟩
    · rcases hb with rfl | ⟨bb, bo, rfl, _, hbc⟩
      · have : xs = [] := List.eq_nil_of_length_eq_zero (by simpa using hl)
        subst this
        refine (refSame_nil _ b c d w).mono ?_
        rintro e w' ⟨rfl, rfl⟩
        exact ⟨rfl, Below.refl _ _⟩
      · have h := refSame_some ab ao bb bo xs.length c d xs ys w rfl hl.symm hm hac (fun i hi => hbc i (by omega))
        rw [← hl]; exact h
  · refine (refSame_len a b xs.length ys.length c d w (by omega)).mono ?_
    rintro e w' ⟨rfl, rfl⟩
    refine ⟨ret_bool ?_, Below.refl _ _⟩
    symm
    rw [decide_eq_false_iff_not]
    rintro rfl
    exact hl rfl
theorem equal_len (a b : Option Addr) (n m c d : Nat) (w : World) (h : n ≠ m) :
    Calls Tryd.prog 40 #[.slice a n c, .slice b m d] w fun e w' => e = .returned (.bool false) ∧ w' = w := by
  have hne : ((n : Int) != m) = true := by rw [bne_iff_ne]; omega
  have hne2 : ((n : Int) == m) = false := by rw [beq_eq_false_iff_ne]; omega
  clear h
  go_enter Tryd.func40, Tryd.ntmps40
  go_wp2
  go_ret
  exact ⟨rfl, rfl⟩
set_option maxHeartbeats 1000000 in
theorem equal_some (ab bb n c d : Nat) (xs ys : List Nat) (w : World) (ha : xs.length = n) (hb : ys.length = n) (hm : (n : Int) ≤ 9223372036854775807)
    (hac : ∀ i, i < n → w.cell? ⟨ab, i, none⟩ = some (.int .u64 ((xs.getD i 0 : Nat) : Int))) (hbc : ∀ i, i < n → w.cell? ⟨bb, i, none⟩ = some (.int .u64 ((ys.getD i 0 : Nat) : Int))) :
    Calls Tryd.prog 40 #[.slice (some ⟨ab, 0, none⟩) n c, .slice (some ⟨bb, 0, none⟩) n d] w fun e w' => e = .returned (.bool (decide (xs = ys))) ∧ ∃ j, w' = w.drewN j := by
  have HA := hid ha
  have HB := hid hb
  have HAC := hid hac
  have HBC := hid hbc
  clear ha hb hac hbc
  go_enter Tryd.func40, Tryd.ntmps40
  go_wp2
  go_loopw [13] (fun i wr => ∃ k j : Nat, k ≤ n ∧ i = .int .i64 k ∧ xs.take k = ys.take k ∧ wr = w.drewN j) (fun i _ => n - (intOf i).toNat)
  case atStart => exact ⟨0, 0, Nat.zero_le _, rfl, rfl, rfl⟩
  case round =>
    obtain ⟨k, j, hk, rfl, heq, rfl⟩ := hrel
    have HEQ := hid heq
    clear heq
    by_cases hlt : (k : Int) < n
    · have ca := HAC.out k (by omega)
      have cb := HBC.out k (by omega)
      have hsa := hid (take_snoc (bs := xs) (k := k) (by rw [HA.out]; omega))
      have hsb := hid (take_snoc (bs := ys) (k := k) (by rw [HB.out]; omega))
      generalize xs.getD k 0 = x at *
      generalize ys.getD k 0 = y at *
      by_cases hxy : (x : Int) = y
      · have hne : ((x : Int) != y) = false := by rw [bne_eq_false_iff_eq]; exact hxy
        have HXY := hid hxy
        clear hxy
        go_wp2_with fail
        go_quiet (fail)
        go_wp2_with fail
        go_roundw
        case rel => exact ⟨k + 1, j + nq, by omega, by go_num, by rw [hsa.out, hsb.out, HEQ.out, Int.ofNat.inj HXY.out], by first | rfl | exact World.drewN_drewN _ _ _⟩
        case measure => simp [intOf]; omega
      · have hne : ((x : Int) != y) = true := by rw [bne_iff_ne]; exact hxy
        have HXY := hid hxy
        clear hxy
        have hdec : Hid (decide (xs = ys) = false) := hid (by
          rw [decide_eq_false_iff_not]
          rintro rfl
          have h := hsa.out.symm.trans hsb.out
          simp at h
          exact HXY.out (by rw [h]))
        go_wp2_with fail
        go_quiet (fail)
        go_wp2_with fail
        go_ret
        exact ⟨by rw [hdec.out]; rfl, j + nq, by first | rfl | exact World.drewN_drewN _ _ _⟩
    · have hdec : Hid (decide (xs = ys) = true) := hid (by
        rw [decide_eq_true_iff]
        have h := HEQ.out
        rwa [List.take_of_length_le (by rw [HA.out]; omega), List.take_of_length_le (by rw [HB.out]; omega)] at h)
      have hge : (n : Int) ≤ k := by omega
      clear hlt
      go_wp2_with fail
      go_ret
      exact ⟨by rw [hdec.out]; rfl, j, rfl⟩
end Go.Proofs.YtpdkfmanehgabaaDoor
