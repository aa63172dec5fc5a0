/- CONTRACTS: the document's bytes of a row. -/
import Derived.Test.YtjcapiibeekfkaaRkB
import Derived.Test.YtjcapiibeekfkaaVarR
namespace Go.Inc
open Go.RowKit
theorem rowBs_bytes {m : List Bool} : Bytes (rowBs m) := by
  unfold rowBs
  intro b hb
  rcases List.mem_append.1 hb with h1 | h1
  · exact Var.put_bytes _ b h1
  · unfold bytesB at h1
    obtain ⟨q, _, rfl⟩ := List.mem_map.1 h1
    exact accB_lt (inB m) (8 * q) 8
theorem rowBs_len {m : List Bool} : (rowBs m).length = (Var.put m.length).length + (m.length + 7) / 8 := by
  unfold rowBs
  rw [List.length_append, bytesB_len]
theorem bytesB_at (f : Nat → Bool) (n : Nat) {q : Nat} (h : q < (n + 7) / 8) : (bytesB f n).getD q 0 = accB f (8 * q) 8 := by
  unfold bytesB
  rw [List.getD_eq_getElem?_getD, List.getElem?_map, List.getElem?_range h]; rfl
end Go.Inc
namespace Go.Proofs.Ytjcapiibeekfkaa
open Go.RowKit Go.Inc

set_option maxRecDepth 20000 in
set_option maxHeartbeats 2000000 in
theorem refBytes_any (ok : Nat → Prop) (x : World) (a : Option Addr) (c : Nat) (m : List Bool) (hm : Bl ok x a m) (hl : (m.length : Int) ≤ 65536) :
    Calls Try.prog 25 #[.slice a m.length c] x fun e w' => ∃ u, e = .returned u ∧ Row 5 x.heap.size w' u (rowBs m) ∧ Below x.heap.size x w' := by
  have HM := hid hm
  obtain ⟨n, hn⟩ : ∃ n, n = m.length := ⟨_, rfl⟩
  have HN := hid hn
  obtain ⟨B, hB⟩ : ∃ B, B = bytesB (inB m) m.length := ⟨_, rfl⟩
  have HBY := hid hB
  have HBL : Hid (B.length = (n + 7) / 8) := hid (by rw [hB, bytesB_len, hn])
  have HPB : Hid (rowBs m = Var.put n ++ B) := hid (by unfold rowBs; rw [hB, hn])
  have HN64 : Hid (n < 18446744073709551616) := hid (by omega)
  rw [← hn] at hl ⊢
  clear hm hn hB
  have HPUT := hid (refPut_any n x HN64.out)
  go_enter Try.func25, Try.ntmps25
  go_wp2_with fail
  refine HPUT.out.mono ?_
  rintro e w2 ⟨v2, rfl, hr2, hb2⟩
  have HR2 : Hid (Row 5 x.heap.size w2 v2 (Var.put n ++ B.take 0)) := hid (by rw [List.take_zero, List.append_nil]; exact hr2)
  have HB2 := hid hb2
  clear hr2 hb2 HPUT
  go_wp2_with fail
  go_loopw [3, 4] (fun l i wr => ∃ q : Nat, q ≤ (n + 7) / 8 ∧ i = .int .i64 ((8 * q : Nat) : Int) ∧ Row 5 x.heap.size wr l (Var.put n ++ B.take q) ∧ Below x.heap.size x wr) (fun _ i _ => n + 8 - (intOf i).toNat)
  case atStart => exact ⟨0, Nat.zero_le _, rfl, HR2.out, HB2.out⟩
  case round =>
    clear HR2 HB2
    obtain ⟨q, hq, rfl, hv, hb⟩ := hrel
    have HV := hid hv
    have HB := hid hb
    clear hv hb
    obtain ⟨no, hno⟩ : ∃ no, no = 8 * q := ⟨_, rfl⟩
    have HNO := hid hno
    rw [← hno]
    by_cases hlt : (no : Int) < n
    · have hqb : q < (n + 7) / 8 := by omega
      have HYB : Hid (B.take (q + 1) = B.take q ++ [accB (inB m) no 8]) := hid (by
        rw [take_snoc (by rw [HBL.out]; exact hqb), HBY.out, bytesB_at _ _ (by rw [← HN.out]; exact hqb), hno])
      have hks : (no < n) = True := eq_true (by omega)
      clear hno
      go_wp2_with fail
      go_loop [5, 6] (fun c k => ∃ t : Nat, t ≤ 8 ∧ k = .int .i64 (7 - (t : Int)) ∧ c = .int .i64 ((accB (inB m) no t : Nat) : Int)) (fun _ k => (intOf k + 1).toNat)
      case atStart => exact ⟨0, by omega, rfl, rfl⟩
      case round =>
        obtain ⟨t, ht, rfl, rfl⟩ := hrel
        have HAC : Hid (accB (inB m) no (t + 1) = 2 * accB (inB m) no t + (inB m (no + (7 - t))).toNat) := hid rfl
        have hal := accB_lt (inB m) no t
        obtain ⟨ac, hac⟩ : ∃ ac, ac = accB (inB m) no t := ⟨_, rfl⟩
        have HA := hid hac
        rw [← hac] at hal HAC ⊢
        clear hac
        by_cases ht8 : t < 8
        · have hp : (2 : Nat) ^ t ≤ 128 := Nat.pow_le_pow_right (n := 2) (i := t) (j := 7) (by decide) (by omega)
          have hac2 : (ac : Int) < 128 := by omega
          clear hp hal
          obtain ⟨j, hj⟩ : ∃ j, j = no + (7 - t) := ⟨_, rfl⟩
          rw [← hj] at HAC
          have hji : (no : Int) + (7 - (t : Int)) = (j : Int) := by omega
          by_cases hjn : j < n
          · obtain ⟨b', o, rfl, hc⟩ : ∃ b' o, a = some ⟨b', o, none⟩ ∧ wr.cell? ⟨b', o + j, none⟩ = some (.bool (inB m j)) := by
              rcases HM.out.below HB.out with h | ⟨b', o, h, _, hc⟩
              · have := HN.out; rw [h] at this; simp at this; omega
              · exact ⟨b', o, h, hc j (by have := HN.out; omega)⟩
            cases hbj : inB m j
            · rw [hbj] at hc HAC
              have HX : Hid (accB (inB m) no (t + 1) = 2 * ac) := hid HAC.out
              clear hbj hj
              go_wp2_with fail
              go_round
              case rel => exact ⟨t + 1, by omega, by go_num, by rw [HX.out]; go_num⟩
              case measure => simp [intOf]; omega
            · rw [hbj] at hc HAC
              have HX : Hid (accB (inB m) no (t + 1) = 2 * ac + 1) := hid HAC.out
              clear hbj hj
              go_wp2_with fail
              go_round
              case rel => exact ⟨t + 1, by omega, by go_num, by rw [HX.out]; go_num⟩
              case measure => simp [intOf]; omega
          · have HX : Hid (accB (inB m) no (t + 1) = 2 * ac) := hid (by rw [HAC.out, inB_far (by have := HN.out; omega)]; rfl)
            have hjf : (j < n) = False := eq_false hjn
            clear hjn hj
            go_wp2_with fail
            go_round
            case rel => exact ⟨t + 1, by omega, by go_num, by rw [HX.out]; go_num⟩
            case measure => simp [intOf]; omega
        · obtain rfl : t = 8 := by omega
          have hal2 : (ac : Int) < 256 := by have : ac < 2 ^ 8 := hal; omega
          have hau : IntKind.u8.wrap (ac : Int) = (ac : Int) := by rw [IntKind.wrap_u8]; omega
          have HLEN : Hid ((Var.put n ++ B.take q).length ≤ 300000) := hid (by
            rw [List.length_append, List.length_take, HBL.out]
            have := Var.put_ten HN64.out
            omega)
          have HL3 : Hid ((Var.put n ++ B.take (q + 1)) = (Var.put n ++ B.take q) ++ [ac]) := hid (by rw [HYB.out, HA.out, List.append_assoc])
          obtain ⟨bs0, hbs0⟩ : ∃ bs0, bs0 = Var.put n ++ B.take q := ⟨_, rfl⟩
          rw [← hbs0] at HV HLEN HL3
          clear hal ht8 HAC hbs0
          go_wp2_with (refine wpList_append_any rfl (.tmp 39) (.tmp 42) 22 rfl x.heap.size 5 (.int .u8 0) 1 Try.underlying22 infoU8 rfl _ _ _ rfl (HV.out.alloc _) (some ⟨wr.heap.size, 0, none⟩) 1 1 _ rfl rfl (by intro h; cases h) (one_new wr _ _) (by simp [Value.oneCell']) (by have := HLEN.out; unfold maxLen; omega) (by have := HLEN.out; omega) (by have := HB.out.size; simp; omega) ?_)
          intro v4 w4 hv4 hg4 _
          have HB4 := hid (below_owned (w0 := x) (HB.out.alloc HB.out.size _) (HV.out.alloc _) (Nat.le_refl _) hg4)
          have HV4 := hid (row_one hv4 rfl rfl)
          rw [← HL3.out] at HV4
          clear hv4 hg4 HV HB
          go_wp2_with fail
          go_roundw
          case rel => exact ⟨q + 1, hqb, by rw [show 8 * (q + 1) = no + 8 from by have := HNO.out; omega]; go_num, HV4.out, HB4.out⟩
          case measure => simp [intOf]; omega
    · have hks : (no < n) = False := eq_false (by omega)
      have HKE : Hid (q = B.length) := hid (by rw [HBL.out]; omega)
      clear hlt hno
      go_wp2_with fail
      go_ret
      refine ⟨_, rfl, ?_, HB.out⟩
      have h := HV.out
      rw [HKE.out, List.take_of_length_le (Nat.le_refl _)] at h
      rw [HPB.out]
      exact h
end Go.Proofs.Ytjcapiibeekfkaa
