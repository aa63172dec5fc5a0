/- CONTRACTS (suffix, as it landed): Right, Less, Common, each error of theirs. -/
import Derived.Test.YtclpoconppmapaaSuG
namespace Go.Proofs.Ytclpoconppmapaa
open Go.RowKit Go.Inc
set_option maxRecDepth 20000 in
set_option maxHeartbeats 1500000 in
theorem suRight (ok ok' : Nat → Prop) (w : World) (v v' : Value) (zs ls : List Int) (hs : So ok w v zs) (hs' : So ok' w v' ls) (hl : zs.length ≤ 65536) (hz : ∀ z ∈ zs, i64s z) (hl' : ls.length ≤ 65536) :
    Calls Try.prog 19 #[v, v'] w fun e w' => e = .returned (.bool (decide (ckT zs = 0 ∧ ls = zsN (srT zs zs.length)))) ∧ Below w.heap.size w w' := by
  have HC := hid (check_any ok w v zs hs hl hz)
  by_cases hk : ckT zs = 0
  · obtain ⟨a, c, rfl, hsi, hlc, -, -⟩ := hs
    obtain ⟨a', c', rfl, hsi', hlc', -, -⟩ := hs'
    have HR := hid (right_any ok ok' w a a' c c' zs ls hsi hsi' (ckT_zero hk).2.2 (by omega) (by omega) hlc hlc')
    have HD : Hid (decide (ckT zs = 0 ∧ ls = zsN (srT zs zs.length)) = decide (ls = zsN (srT zs zs.length))) := hid (by simp [hk])
    obtain ⟨q, hq⟩ : ∃ q, q = decide (ls = zsN (srT zs zs.length)) := ⟨_, rfl⟩
    rw [← hq] at HR HD
    rw [hk] at HC
    obtain ⟨q2, hq2⟩ : ∃ q2, q2 = decide (ckT zs = 0 ∧ ls = zsN (srT zs zs.length)) := ⟨_, rfl⟩
    rw [← hq2] at HD ⊢
    obtain ⟨n, hn⟩ : ∃ n, n = zs.length := ⟨_, rfl⟩
    obtain ⟨m, hm⟩ : ∃ m, m = ls.length := ⟨_, rfl⟩
    rw [← hn] at HC HR ⊢
    rw [← hm] at HR ⊢
    clear hsi hsi' hlc hlc' hl hl' hz hk hq hq2 hn hm
    go_enter Try.func19, Try.ntmps19
    go_wp2_with fail
    refine HC.out.mono ?_
    rintro e w' ⟨rfl, rfl⟩
    clear HC
    go_wp2_with fail
    refine HR.out.mono ?_
    rintro e w1 ⟨rfl, hb⟩
    have HB := hid hb
    clear hb HR
    go_wp2_with fail
    go_ret
    exact ⟨by rw [HD.out]; rfl, HB.out⟩
  · have HD : Hid (decide (ckT zs = 0 ∧ ls = zsN (srT zs zs.length)) = false) := hid (by simp [hk])
    obtain ⟨q2, hq2⟩ : ∃ q2, q2 = decide (ckT zs = 0 ∧ ls = zsN (srT zs zs.length)) := ⟨_, rfl⟩
    rw [← hq2] at HD ⊢
    obtain ⟨k, hkk⟩ : ∃ k, k = ckT zs := ⟨_, rfl⟩
    rw [← hkk] at HC hk
    have hk0 : ((k : Int) == 0) = false := by rw [beq_eq_false_iff_ne]; omega
    clear hs hs' hl hl' hz hk hq2 hkk
    go_enter Try.func19, Try.ntmps19
    go_wp2_with fail
    refine HC.out.mono ?_
    rintro e w' ⟨rfl, rfl⟩
    clear HC
    go_wp2_with fail
    go_ret
    exact ⟨by rw [HD.out]; rfl, Below.refl _ _⟩
theorem suLessR (ok : Nat → Prop) (w : World) (v : Value) (zs : List Int) (a b : Int) (hs : So ok w v zs) (hl : zs.length ≤ 65536) (hk : ckT zs = 0) (ha : i64s a) (hb : i64s b) (hn : ¬ ((0 ≤ a ∧ a < zs.length) ∧ 0 ≤ b ∧ b < zs.length)) :
    Calls Try.prog 12 #[v, .int .i64 a, .int .i64 b] w fun e w' => ∃ u, e = .returned (.tuple #[u, .int .i64 10]) ∧ Below w.heap.size w w' :=
  less_bad ok w v zs a b hs hl (ckT_i64 hk) ha hb 10 (cpT_out hk hn) (by omega)
theorem suLessE (ok : Nat → Prop) (w : World) (v : Value) (zs : List Int) (a b : Int) (hs : So ok w v zs) (hl : zs.length ≤ 65536) (hz : ∀ z ∈ zs, i64s z) (hk : ckT zs ≠ 0) (ha : i64s a) (hb : i64s b) :
    Calls Try.prog 12 #[v, .int .i64 a, .int .i64 b] w fun e w' => ∃ u, e = .returned (.tuple #[u, .int .i64 ((ckT zs : Nat) : Int)]) ∧ Below w.heap.size w w' :=
  less_bad ok w v zs a b hs hl hz ha hb _ (cpT_bad hk) hk
set_option maxRecDepth 20000 in
set_option maxHeartbeats 1500000 in
theorem common_bad (ok : Nat → Prop) (w : World) (v : Value) (zs : List Int) (a b : Int) (hs : So ok w v zs) (hl : zs.length ≤ 65536) (hz : ∀ z ∈ zs, i64s z) (ha : i64s a) (hb : i64s b) (k : Nat) (hk : cpT zs [a, b] = k) (h0 : k ≠ 0) :
    Calls Try.prog 14 #[v, .int .i64 a, .int .i64 b] w fun e w' => ∃ u, e = .returned (.tuple #[u, .int .i64 (k : Int)]) ∧ Below w.heap.size w w' := by
  have HC := hid (checkPlaces_any _ _ (w.alloc (.cells #[.int .i64 a, .int .i64 b] 3)) v _ zs [a, b] (hs.below (allocU w _)) (So.two w a b 3) hl hz (by simp) (two_i64 ha hb))
  have HA := hid (allocU w (.cells #[.int .i64 a, .int .i64 b] 3))
  rw [hk] at HC
  have hk0 : ((k : Int) != 0) = true := by rw [bne_iff_ne]; omega
  clear hs hl hz ha hb hk h0
  go_enter Try.func14, Try.ntmps14
  go_wp2_with fail
  refine HC.out.mono ?_
  rintro e w1 ⟨rfl, hb1⟩
  have HB := hid (HA.out.trans (hb1.mono HA.out.size))
  clear HC HA hb1
  go_wp2_with fail
  go_ret2
  exact ⟨_, rfl, HB.out⟩
theorem suCommonR (ok : Nat → Prop) (w : World) (v : Value) (zs : List Int) (a b : Int) (hs : So ok w v zs) (hl : zs.length ≤ 65536) (hk : ckT zs = 0) (ha : i64s a) (hb : i64s b) (hn : ¬ ((0 ≤ a ∧ a < zs.length) ∧ 0 ≤ b ∧ b < zs.length)) :
    Calls Try.prog 14 #[v, .int .i64 a, .int .i64 b] w fun e w' => ∃ u, e = .returned (.tuple #[u, .int .i64 10]) ∧ Below w.heap.size w w' :=
  common_bad ok w v zs a b hs hl (ckT_i64 hk) ha hb 10 (cpT_out hk hn) (by omega)
theorem suCommonE (ok : Nat → Prop) (w : World) (v : Value) (zs : List Int) (a b : Int) (hs : So ok w v zs) (hl : zs.length ≤ 65536) (hz : ∀ z ∈ zs, i64s z) (hk : ckT zs ≠ 0) (ha : i64s a) (hb : i64s b) :
    Calls Try.prog 14 #[v, .int .i64 a, .int .i64 b] w fun e w' => ∃ u, e = .returned (.tuple #[u, .int .i64 ((ckT zs : Nat) : Int)]) ∧ Below w.heap.size w w' :=
  common_bad ok w v zs a b hs hl hz ha hb _ (cpT_bad hk) hk
set_option maxRecDepth 20000 in
set_option maxHeartbeats 1500000 in
theorem suCommon (ok : Nat → Prop) (w : World) (v : Value) (zs : List Int) (a b : Nat) (hs : So ok w v zs) (hl : zs.length ≤ 65536) (hk : ckT zs = 0) (ha : a < zs.length) (hb : b < zs.length) :
    Calls Try.prog 14 #[v, .int .i64 (a : Int), .int .i64 (b : Int)] w fun e w' => e = .returned (.tuple #[.int .i64 ((cmT zs a b : Nat) : Int), .int .i64 0]) ∧ Below w.heap.size w w' := by
  have HC := hid (checkPlaces_any _ _ (w.alloc (.cells #[.int .i64 (a : Int), .int .i64 (b : Int)] 3)) v _ zs [(a : Int), (b : Int)] (hs.below (allocU w _)) (So.two w a b 3) hl (ckT_i64 hk) (by simp) (two_i64 (by unfold i64s; omega) (by unfold i64s; omega)))
  have HA := hid (allocU w (.cells #[.int .i64 (a : Int), .int .i64 (b : Int)] 3))
  rw [cpT_in hk ha hb] at HC
  obtain ⟨p, c, rfl, hsi, -, -, -⟩ := hs
  have HQ := hid (fun (y : World) (hy : Below w.heap.size w y) => common_any ok y p c zs a b 0 (hsi.below hy) (by omega) ha hb (Nat.zero_le _))
  obtain ⟨q, hq⟩ : ∃ q, q = cmT zs a b := ⟨_, rfl⟩
  rw [← hq] at HQ ⊢
  obtain ⟨n, hn⟩ : ∃ n, n = zs.length := ⟨_, rfl⟩
  rw [← hn] at HQ HC ⊢
  clear hl ha hb hk hn hq hsi
  go_enter Try.func14, Try.ntmps14
  go_wp2_with fail
  refine HC.out.mono ?_
  rintro e w1 ⟨rfl, hb1⟩
  have HB := hid (HA.out.trans (hb1.mono HA.out.size))
  have HQ1 := hid (HQ.out w1 HB.out)
  clear HC HA hb1 HQ
  go_wp2_with fail
  refine HQ1.out.mono ?_
  rintro e w2 ⟨rfl, hb2⟩
  have HB2 := hid (HB.out.trans (hb2.mono HB.out.size))
  clear HQ1 hb2
  go_wp2_with fail
  go_ret2
  exact ⟨rfl, HB2.out⟩
end Go.Proofs.Ytclpoconppmapaa
