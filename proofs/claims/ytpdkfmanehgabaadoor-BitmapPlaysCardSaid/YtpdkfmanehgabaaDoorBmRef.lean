/- CONTRACTS: the document's sets: New, All, From. -/
import Derived.Test.YtpdkfmanehgabaaDoorBmI
namespace Go.Proofs.YtpdkfmanehgabaaDoor
open Go.RowKit Go.Inc

theorem infoBool : (Tryd.prog.info? 4).map (fun i => (i.zero, i.size, i.bytes)) = some (some (.bool false), 1, 1) := by kernel_rfl
/-- A set, some numbers put in. -/
def newTo (size : Nat) (zs : List Int) : Nat → List Bool
  | 0 => List.replicate size false
  | k + 1 => if 0 ≤ zs.getD k 0 ∧ zs.getD k 0 < size then (newTo size zs k).set (zs.getD k 0).toNat true else newTo size zs k
theorem newTo_len (size : Nat) (zs : List Int) : ∀ k, (newTo size zs k).length = size
  | 0 => List.length_replicate
  | k + 1 => by
    unfold newTo
    split
    · rw [List.length_set, newTo_len size zs k]
    · exact newTo_len size zs k
set_option maxHeartbeats 2000000 in
theorem refNew_any (ok : Nat → Prop) (size : Nat) (a : Option Addr) (c : Nat) (zs : List Int) (w : World) (hz : Si ok w a zs) (h1 : (1 : Int) ≤ size) (h2 : (size : Int) ≤ 2048) (hl : (zs.length : Int) ≤ 9223372036854775807) :
    Calls Tryd.prog 10 #[.int .i64 (size : Int), .slice a zs.length c] w fun r w' => (∃ v, r = .returned v ∧ w'.ownsRow w.heap.size 4 1 v size (bvals (newTo size zs zs.length))) ∧ Below w.heap.size w w' := by
  obtain ⟨i0, hi, hz0, hz1, hz2⟩ := info_parts infoBool
  have HI := hid (And.intro hi (And.intro hz0 (And.intro hz1 hz2)))
  have HZ := hid hz
  obtain ⟨n, hn⟩ : ∃ n, n = zs.length := ⟨_, rfl⟩
  have HN := hid hn
  rw [← hn] at hl ⊢
  clear hi hz0 hz1 hz2 hz hn
  go_enter Tryd.func10, Tryd.ntmps10
  go_wp2_with (refine wpList_make_full _ rfl _ _ 30 rfl w.heap.size 4 i0 (.bool false) 1 Tryd.underlying30 HI.out.1 HI.out.2.1 HI.out.2.2.1 .i64 .i64 _ _ size rfl rfl rfl rfl (by rw [HI.out.2.2.2]; omega) (by unfold maxLen; omega) (Nat.le_refl _) ?_)
  intro w1 hown hg
  have HR : Hid (w1.ownsRow w.heap.size 4 1 (.slice (some ⟨w.heap.size, 0, none⟩) size size) size (bvals (newTo size zs 0))) := hid (by rw [bvals_zeros size] at hown; exact hown)
  have HB1 : Hid (Below w.heap.size w w1) := hid ⟨hg.os, hg.tape, hg.output, hg.size, fun i hi => hg.block i hi (by simp)⟩
  clear hown hg HI
  go_wp2_with fail
  go_loopw [6] (fun i wr => ∃ k : Nat, k ≤ n ∧ i = .int .i64 (k : Int) ∧ wr.ownsRow w.heap.size 4 1 (.slice (some ⟨w.heap.size, 0, none⟩) size size) size (bvals (newTo size zs k)) ∧ Below w.heap.size w wr) (fun i _ => n - (intOf i).toNat)
  case atStart => exact ⟨0, Nat.zero_le _, rfl, HR.out, HB1.out⟩
  case round =>
    obtain ⟨k, hk, rfl, hr, hb⟩ := hrel
    have HRW := hid hr
    have HB := hid hb
    clear hr hb HR HB1
    by_cases hlt : (k : Int) < n
    · obtain ⟨b, o, rfl, hc⟩ : ∃ b o, a = some ⟨b, o, none⟩ ∧ wr.cell? ⟨b, o + k, none⟩ = some (.int .i64 (zs.getD k 0)) := by
        rcases HZ.out.below HB.out with h | ⟨b, o, h, _, hc⟩
        · have := HN.out; rw [h] at this; simp at this; omega
        · exact ⟨b, o, h, hc k (by have := HN.out; omega)⟩
      obtain ⟨z, hz⟩ : ∃ z, z = zs.getD k 0 := ⟨_, rfl⟩
      have HT : Hid (newTo size zs (k + 1) = if 0 ≤ z ∧ z < size then (newTo size zs k).set z.toNat true else newTo size zs k) := hid (by rw [hz]; rfl)
      rw [← hz] at hc
      have hkn : (k < n) = True := eq_true (by omega)
      clear hz
      by_cases hz0 : 0 ≤ z
      · by_cases hz1 : z < size
        · obtain ⟨x, rfl⟩ := Int.eq_ofNat_of_zero_le hz0
          have hx : x < size := by omega
          have hT : newTo size zs (k + 1) = (newTo size zs k).set x true := by rw [HT.out, if_pos ⟨hz0, hz1⟩]; rfl
          have HT := hid hT
          have hcell := HRW.out.cells (g := w.heap.size) rfl x (.bool (inB (newTo size zs k) x)) (bvals_get (by rw [newTo_len]; exact hx))
          rw [Addr.add_lit] at hcell
          simp only [Nat.zero_add] at hcell
          have hfz : wr.frozen? ⟨w.heap.size, x, none⟩ = false := HRW.out.frozenAt x
          have hst := hid (HRW.out.stored x (.bool true))
          have HB2 := hid (HB.out.setCell (p := ⟨w.heap.size, x, none⟩) (Nat.le_refl _) (.bool true))
          generalize inB (newTo size zs k) x = old at *
          have hxs : (x < size) = True := eq_true hx
          clear hT HRW HB
          go_wp2_with fail
          go_roundw
          case rel => exact ⟨k + 1, by omega, by go_num, by rw [HT.out, ← bvals_set]; exact hst.out.1, HB2.out⟩
          case measure => simp [intOf]; omega
        · have hT : newTo size zs (k + 1) = newTo size zs k := by rw [HT.out, if_neg (by omega)]
          have HT := hid hT
          clear hT
          go_wp2_with fail
          go_roundw
          case rel => exact ⟨k + 1, by omega, by go_num, by rw [HT.out]; exact HRW.out, HB.out⟩
          case measure => simp [intOf]; omega
      · have hT : newTo size zs (k + 1) = newTo size zs k := by rw [HT.out, if_neg (by omega)]
        have HT := hid hT
        have hz0' : (0 ≤ z) = False := eq_false hz0
        clear hT hz0
        go_wp2_with fail
        go_roundw
        case rel => exact ⟨k + 1, by omega, by go_num, by rw [HT.out]; exact HRW.out, HB.out⟩
        case measure => simp [intOf]; omega
    · have HKN : Hid (k = n) := hid (by omega)
      have hkf : (k < n) = False := eq_false (by omega)
      clear hlt
      go_wp2_with fail
      go_ret
      exact ⟨⟨_, rfl, by have h := HRW.out; rw [HKN.out] at h; exact h⟩, HB.out⟩

set_option maxHeartbeats 2000000 in
theorem refAll_any (ok : Nat → Prop) (a : Option Addr) (c : Nat) (m : List Bool) (w : World) (hm : Bl ok w a m) (hl : (m.length : Int) ≤ 2048) :
    Calls Tryd.prog 23 #[.slice a m.length c] w fun r w' => (∃ v, r = .returned v ∧ w'.ownsRow w.heap.size 3 1 v (cntTo (inB m) m.length) (nvals (numsTo (inB m) m.length))) ∧ Below w.heap.size w w' := by
  have HM := hid hm
  obtain ⟨n, hn⟩ : ∃ n, n = m.length := ⟨_, rfl⟩
  have HN := hid hn
  rw [← hn] at hl ⊢
  clear hm hn
  go_enter Tryd.func23, Tryd.ntmps23
  go_wp2_with fail
  go_loopw [3, 4] (fun v i wr => ∃ k : Nat, k ≤ n ∧ i = .int .i64 (k : Int) ∧ wr.ownsRow w.heap.size 3 1 v (cntTo (inB m) k) (nvals (numsTo (inB m) k)) ∧ Below w.heap.size w wr) (fun _ i _ => n - (intOf i).toNat)
  case atStart => exact ⟨0, Nat.zero_le _, rfl, World.ownsRow_nil _ _ _ _, Below.refl _ _⟩
  case round =>
    obtain ⟨k, hk, rfl, hv, hb⟩ := hrel
    have HV := hid hv
    have HB := hid hb
    clear hv hb
    by_cases hlt : (k : Int) < n
    · obtain ⟨b, o, rfl, hc⟩ : ∃ b o, a = some ⟨b, o, none⟩ ∧ wr.cell? ⟨b, o + k, none⟩ = some (.bool (inB m k)) := by
        rcases HM.out.below HB.out with h | ⟨b, o, h, _, hc⟩
        · have := HN.out; rw [h] at this; simp at this; omega
        · exact ⟨b, o, h, hc k (by have := HN.out; omega)⟩
      have hkn : (k < n) = True := eq_true (by omega)
      cases hb : inB m k
      · rw [hb] at hc
        have HT := hid (And.intro (numsTo_out hb) (cntTo_out hb))
        clear hb
        go_wp2_with fail
        go_roundw
        case rel => exact ⟨k + 1, by omega, by go_num, by rw [HT.out.1, HT.out.2]; exact HV.out, HB.out⟩
        case measure => simp [intOf]; omega
      · rw [hb] at hc
        have HT := hid (And.intro (numsTo_in hb) (cntTo_in hb))
        have hlen : cntTo (inB m) k ≤ k := numsTo_len _ _
        clear hb
        go_wp2_with (refine wpList_append_any rfl (.tmp 15) (.tmp 17) 32 rfl w.heap.size 3 (.int .i64 0) 8 Tryd.underlying32 infoInt rfl _ _ _ rfl (HV.out.alloc _) (some ⟨wr.heap.size, 0, none⟩) 1 1 _ rfl rfl (by intro h; cases h) (one_new wr _ _) (by simp [Value.oneCell']) (by unfold maxLen; omega) (by omega) (by have := HB.out.size; simp; omega) ?_)
        intro v4 w4 hv4 hg4 _
        have HB4 : Hid (Below w.heap.size w w4) := hid (below_owned (w0 := w) (HB.out.alloc HB.out.size _) (HV.out.alloc _) (Nat.le_refl _) hg4)
        have HV4 : Hid (w4.ownsRow w.heap.size 3 1 v4 (cntTo (inB m) (k + 1)) (nvals (numsTo (inB m) (k + 1)))) := hid (by rw [HT.out.1, HT.out.2, nvals_snoc]; exact hv4)
        clear hv4 hg4 HV HB
        go_wp2_with fail
        go_roundw
        case rel => exact ⟨k + 1, by omega, by go_num, HV4.out, HB4.out⟩
        case measure => simp [intOf]; omega
    · have hkf : (k < n) = False := eq_false (by omega)
      have HKN : Hid (k = n) := hid (by omega)
      clear hlt
      go_wp2_with fail
      go_ret
      exact ⟨⟨_, rfl, by rw [← HKN.out]; exact HV.out⟩, HB.out⟩

set_option maxHeartbeats 2000000 in
theorem refFrom_any (ok : Nat → Prop) (a : Option Addr) (c : Nat) (m : List Bool) (no : Int) (b : Bool) (w : World) (hm : Bl ok w a m) (hl : (m.length : Int) ≤ 2048) :
    Calls Tryd.prog 34 #[.slice a m.length c, .int .i64 no, .bool b] w fun r w' => r = .returned (.int .i64 (lowB (inB m) no b m.length)) ∧ w = w' := by
  have HM := hid hm
  obtain ⟨n, hn⟩ : ∃ n, n = m.length := ⟨_, rfl⟩
  have HN := hid hn
  rw [← hn] at hl ⊢
  clear hm hn
  go_enter Tryd.func34, Tryd.ntmps34
  go_wp2_with fail
  go_loop [7] (fun i => ∃ k : Nat, k ≤ n ∧ i = .int .i64 (k : Int) ∧ ∀ j : Nat, j < k → ¬ (no ≤ j ∧ inB m j = b)) (fun i => n - (intOf i).toNat)
  case atStart => exact ⟨0, Nat.zero_le _, rfl, fun j hj => by omega⟩
  case round =>
    obtain ⟨k, hk, rfl, hno⟩ := hrel
    have HNO := hid hno
    clear hno
    by_cases hlt : (k : Int) < n
    · obtain ⟨b', o, rfl, hc⟩ : ∃ b' o, a = some ⟨b', o, none⟩ ∧ w.cell? ⟨b', o + k, none⟩ = some (.bool (inB m k)) := by
        rcases HM.out with h | ⟨b', o, h, _, hc⟩
        · have := HN.out; rw [h] at this; simp at this; omega
        · exact ⟨b', o, h, hc k (by have := HN.out; omega)⟩
      have hkn : (k < n) = True := eq_true (by omega)
      by_cases hge : no ≤ k
      · by_cases hbk : inB m k = b
        · have HT : Hid (lowB (inB m) no b n = k) := hid (lowB_first ⟨hge, hbk⟩ HNO.out (by omega))
          rw [hbk] at hc
          clear hbk
          go_wp2_with fail
          go_ret
          exact ⟨by rw [HT.out]; rfl, rfl⟩
        · have hq : (inB m k == b) = false := by rw [beq_eq_false_iff_ne]; exact hbk
          have HX : Hid (∀ j : Nat, j < k + 1 → ¬ (no ≤ j ∧ inB m j = b)) := hid fun j hj h => by
            by_cases hjk : j = k
            · subst hjk; exact hbk h.2
            · exact HNO.out j (by omega) h
          generalize inB m k = y at *
          clear hbk
          go_wp2_with fail
          go_round
          case rel => exact ⟨k + 1, by omega, by go_num, HX.out⟩
          case measure => simp [intOf]; omega
      · have HX : Hid (∀ j : Nat, j < k + 1 → ¬ (no ≤ j ∧ inB m j = b)) := hid fun j hj h => by
          by_cases hjk : j = k
          · subst hjk; exact hge h.1
          · exact HNO.out j (by omega) h
        have hge' : (no ≤ k) = False := eq_false hge
        clear hge
        go_wp2_with fail
        go_round
        case rel => exact ⟨k + 1, by omega, by go_num, HX.out⟩
        case measure => simp [intOf]; omega
    · have hkf : (k < n) = False := eq_false (by omega)
      have HT : Hid (lowB (inB m) no b n = -1) := hid (lowB_none fun j hj => HNO.out j (by omega))
      clear hlt
      go_wp2_with fail
      go_ret
      exact ⟨by rw [HT.out]; rfl, rfl⟩
end Go.Proofs.YtpdkfmanehgabaaDoor
