/- CONTRACTS: All, Bytes, Count. -/
import Derived.Test.YtlfpepkgnobjnaaBmOnes
import Derived.Test.YtlfpepkgnobjnaaVarL
namespace Go.Proofs.Ytlfpepkgnobjnaa
open Go.RowKit Go.Inc

theorem cnt_words {W : List Nat} (k : Nat) : cntTo (wbit W) (64 * (k + 1)) = cntTo (wbit W) (64 * k) + popN (W.getD k 0) 64 := by
  rw [show 64 * (k + 1) = 64 * k + 64 from by omega, cntTo_add]
  congr 1
  unfold popN
  exact cntTo_congr fun j hj => by
    unfold wbit
    rw [show (64 * k + j) / 64 = k from by omega, show (64 * k + j) % 64 = j from by omega]
theorem cnt_all {m : List Bool} {W : List Nat} (hb : ∀ i, wbit W i = inB m i) (hl : m.length ≤ 64 * W.length) : cntTo (wbit W) (64 * W.length) = cntTo (inB m) m.length := by
  rw [show wbit W = inB m from funext hb]
  obtain ⟨n, hn⟩ : ∃ n, 64 * W.length = m.length + n := ⟨64 * W.length - m.length, by omega⟩
  rw [hn]
  exact cntTo_gap n fun i h1 _ => inB_far h1
theorem count_nil (w : World) : Calls Try.prog 39 #[.pointer none] w fun e w' => e = .returned (.int .i64 0) ∧ w = w' := by
  go_enter Try.func39, Try.ntmps39
  go_wp2_with fail
  go_ret
  exact ⟨rfl, rfl⟩
set_option maxRecDepth 20000 in
set_option maxHeartbeats 2000000 in
theorem count_any (ok : Nat → Prop) (v : Value) (m : List Bool) (w : World) (h : Bm ok w v m) :
    Calls Try.prog 39 #[v] w fun e w' => e = .returned (.int .i64 ((cntTo (inB m) m.length : Nat) : Int)) ∧ w = w' := by
  rcases h with ⟨rfl, rfl⟩ | ⟨b, g, c, W, rfl, _, _, hat, hbits⟩
  · exact count_nil w
  · have HAT := hid hat
    have hc1 := hat.hw
    have HC := hid (cnt_all hbits (by have := hat.len; omega))
    obtain ⟨n, hn⟩ : ∃ n, n = W.length := ⟨_, rfl⟩
    have HN := hid hn
    rw [← hn] at hc1
    have hn32 : (n : Int) ≤ 32 := by have := hat.wlen; omega
    clear hn hat hbits
    go_enter Try.func39, Try.ntmps39
    go_wp2_with fail
    go_loop [3, 13] (fun t i => ∃ k : Nat, k ≤ n ∧ i = .int .i64 (k : Int) ∧ t = .int .i64 ((cntTo (wbit W) (64 * k) : Nat) : Int)) (fun _ i => n - (intOf i).toNat)
    case atStart => exact ⟨0, Nat.zero_le _, rfl, rfl⟩
    case round =>
      obtain ⟨k, hk, rfl, rfl⟩ := hrel
      have hcl : cntTo (wbit W) (64 * k) ≤ 64 * k := numsTo_len _ _
      obtain ⟨cn, hcn⟩ : ∃ cn, cn = cntTo (wbit W) (64 * k) := ⟨_, rfl⟩
      have HCN := hid hcn
      rw [← hcn] at hcl ⊢
      clear hcn
      by_cases hlt : (k : Int) < n
      · have hcell := HAT.out.cell (q := k) (by rw [← HN.out]; omega)
        have HX : Hid (W.getD k 0 < 18446744073709551616) := hid (wget_lt HAT.out.fits k)
        have HSUM : Hid (cntTo (wbit W) (64 * (k + 1)) = cn + popN (W.getD k 0) 64) := hid (by rw [cnt_words, HCN.out])
        have hpl : popN (W.getD k 0) 64 ≤ 64 := by unfold popN; exact numsTo_len _ _
        generalize W.getD k 0 = x at *
        have HO := hid (ones_any x w HX.out)
        generalize popN x 64 = pp at *
        have hkn : (k < n) = True := eq_true (by omega)
        go_wp2_with fail
        refine HO.out.mono ?_
        rintro e w1 ⟨rfl, rfl⟩
        go_wp2_with fail
        go_round
        case rel => exact ⟨k + 1, by omega, by go_num, by rw [HSUM.out]; go_num⟩
        case measure => simp [intOf]; omega
      · have hkf : (k < n) = False := eq_false (by omega)
        have HKN : Hid (k = W.length) := hid (by rw [← HN.out]; omega)
        clear hlt
        go_wp2_with fail
        go_ret
        exact ⟨by rw [← HC.out, ← HKN.out, ← HCN.out]; rfl, rfl⟩
end Go.Proofs.Ytlfpepkgnobjnaa

