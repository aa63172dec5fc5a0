/- CONTRACTS (suffix, as it landed): Right. -/
import Derived.Test.YtclpoconppmapaaSuT
namespace Go.Inc
open Go.RowKit
/-- Is one place ahead of another one, as a right order has it? -/
def rtB (x : List Int) (P : List Nat) (a b : Nat) : Bool := if x.getD a 0 = x.getD b 0 then decide (P.getD (a + 1) 0 < P.getD (b + 1) 0) else decide (x.getD a 0 < x.getD b 0)
theorem same_in {x : List Int} (hr : RtL x) {a b : Nat} (ha : a < x.length) (hb : b < x.length) (hn : a ≠ b) (he : x.getD a 0 = x.getD b 0) : a + 1 < x.length ∧ b + 1 < x.length := by
  have h1 := hr.2 a ha
  have h2 := hr.2 b hb
  rw [he] at h1
  constructor
  · apply Classical.byContradiction
    intro hc
    have h3 := h2.1 (h1.2 (by omega))
    omega
  · apply Classical.byContradiction
    intro hc
    have h3 := h1.1 (h2.2 (by omega))
    omega
theorem okT_sr (x : List Int) : okT (zsN (srT x x.length)) := fun n hn => by
  rw [zsN_len, srT_len] at hn
  exact List.mem_map.2 ⟨n, srT_mem.2 hn, rfl⟩
/-- Where a place stands in an order of all places. -/
theorem pos_of {l : List Int} (h : okT l) {i : Nat} (hi : i < l.length) : ∃ a : Nat, l.getD i 0 = (a : Int) ∧ a < l.length ∧ (tnT l).getD a 0 = i := by
  have h1 := okT_in h (getD_mem hi)
  refine ⟨(l.getD i 0).toNat, by omega, by omega, ?_⟩
  rw [tnT_get (by omega), at_is (okT_nodup h) hi (by omega)]
theorem at_pos {l : List Int} (h : okT l) {a : Nat} (ha : a < l.length) : (tnT l).getD a 0 < l.length ∧ l.getD ((tnT l).getD a 0) 0 = (a : Int) := by
  rw [tnT_get ha]
  exact at_get (h a ha)
/-- In the order of the suffixes what is ahead is less, and the other way round. -/
theorem pos_sr {x : List Int} {a b : Nat} (ha : a < x.length) (hb : b < x.length) : lsT x a b = true ↔ (tnT (zsN (srT x x.length))).getD a 0 < (tnT (zsN (srT x x.length))).getD b 0 := by
  have hok := okT_sr x
  have hlen : (zsN (srT x x.length)).length = x.length := by rw [zsN_len, srT_len]
  have h1 := at_pos hok (a := a) (by omega)
  have h2 := at_pos hok (a := b) (by omega)
  have hs := srT_sorted (x := x) (Nat.le_refl _)
  rw [List.pairwise_iff_getElem] at hs
  generalize (tnT (zsN (srT x x.length))).getD a 0 = i at *
  generalize (tnT (zsN (srT x x.length))).getD b 0 = j at *
  have key : ∀ i j a b : Nat, i < x.length → j < x.length → (zsN (srT x x.length)).getD i 0 = (a : Int) → (zsN (srT x x.length)).getD j 0 = (b : Int) → i < j → lsT x a b = true := by
    intro i j a b hi hj e1 e2 hij
    have h3 := hs i j (by rw [srT_len]; exact hi) (by rw [srT_len]; exact hj) hij
    rw [zsN_get, List.getD_eq_getElem?_getD, List.getElem?_eq_getElem (by rw [srT_len]; exact hi)] at e1
    rw [zsN_get, List.getD_eq_getElem?_getD, List.getElem?_eq_getElem (by rw [srT_len]; exact hj)] at e2
    rw [← Int.ofNat.inj e1, ← Int.ofNat.inj e2]
    exact h3
  constructor
  · intro h
    apply Classical.byContradiction
    intro hc
    rcases Nat.lt_trichotomy i j with h4 | h4 | h4
    · exact hc h4
    · subst h4
      have : a = b := Int.ofNat.inj (h1.2.symm.trans h2.2)
      subst this
      rw [lsT_irrefl] at h; cases h
    · have := key j i b a (by omega) (by omega) h2.2 h1.2 h4
      rw [lsT_asymm this] at h; cases h
  · intro h
    exact key i j a b (by omega) (by omega) h1.2 h2.2 h
theorem rtB_sr {x : List Int} (hr : RtL x) {a b : Nat} (ha : a < x.length) (hb : b < x.length) (hn : a ≠ b) (h : lsT x a b = true) : rtB x (tnT (zsN (srT x x.length))) a b = true := by
  unfold rtB
  rcases (lsT_stepU ha hb).1 h with h1 | ⟨h1, h2⟩
  · rw [if_neg (by omega)]; exact decide_eq_true h1
  · rw [if_pos h1]
    have h3 := same_in hr ha hb hn h1
    exact decide_eq_true ((pos_sr h3.1 h3.2).1 h2)
/-- If each two neighbours stand right, it is the order of the suffixes. -/
theorem all_right {x l : List Int} (hr : RtL x) (hl : l.length = x.length) (hok : okT l) (h : ∀ i a b : Nat, i + 1 < l.length → l.getD i 0 = (a : Int) → l.getD (i + 1) 0 = (b : Int) → rtB x (tnT l) a b = true) : l = zsN (srT x x.length) := by
  have hnd := okT_nodup hok
  have hR : ∀ d i a b : Nat, i + d + 1 < l.length → l.getD i 0 = (a : Int) → l.getD (i + d + 1) 0 = (b : Int) → x.getD a 0 < x.getD b 0 ∨ (x.getD a 0 = x.getD b 0 ∧ (tnT l).getD (a + 1) 0 < (tnT l).getD (b + 1) 0) := by
    have one : ∀ i a b : Nat, i + 1 < l.length → l.getD i 0 = (a : Int) → l.getD (i + 1) 0 = (b : Int) → x.getD a 0 < x.getD b 0 ∨ (x.getD a 0 = x.getD b 0 ∧ (tnT l).getD (a + 1) 0 < (tnT l).getD (b + 1) 0) := by
      intro i a b h1 h2 h3
      have h4 := h i a b h1 h2 h3
      unfold rtB at h4
      split at h4
      · rename_i e; exact .inr ⟨e, of_decide_eq_true h4⟩
      · exact .inl (of_decide_eq_true h4)
    intro d
    induction d with
    | zero => exact fun i a b h1 h2 h3 => one i a b h1 h2 h3
    | succ d ih =>
      intro i a b h1 h2 h3
      obtain ⟨c, h4, -⟩ := pos_of hok (i := i + d + 1) (by omega)
      have h5 := ih i a c (by omega) h2 h4
      have h6 := one (i + d + 1) c b (by omega) h4 h3
      omega
  have hL : ∀ m a b : Nat, m = l.length - a → a < l.length → b < l.length → (tnT l).getD a 0 < (tnT l).getD b 0 → lsT x a b = true := by
    intro m
    induction m using Nat.strongRecOn with
    | ind m ih =>
      intro a b hm ha hb hp
      have h1 := at_pos hok ha
      have h2 := at_pos hok hb
      have h3 := hR ((tnT l).getD b 0 - (tnT l).getD a 0 - 1) ((tnT l).getD a 0) a b (by omega) h1.2 (by rw [show (tnT l).getD a 0 + ((tnT l).getD b 0 - (tnT l).getD a 0 - 1) + 1 = (tnT l).getD b 0 from by omega]; exact h2.2)
      rw [lsT_stepU (by omega) (by omega)]
      rcases h3 with h3 | ⟨h3, h4⟩
      · exact .inl h3
      · have hab : a ≠ b := fun e => by subst e; omega
        have h5 := same_in hr (by omega) (by omega) hab h3
        exact .inr ⟨h3, ih (l.length - (a + 1)) (by omega) (a + 1) (b + 1) rfl (by omega) (by omega) h4⟩
  have hsr : l.map Int.toNat = srT x x.length := by
    refine srT_is ?_ fun j => ?_
    · rw [List.pairwise_iff_getElem]
      intro i j hi hj hij
      rw [List.length_map] at hi hj
      obtain ⟨a, h1, h2, h3⟩ := pos_of hok hi
      obtain ⟨b, h4, h5, h6⟩ := pos_of hok hj
      rw [List.getElem_map, List.getElem_map]
      rw [List.getD_eq_getElem?_getD, List.getElem?_eq_getElem hi] at h1
      rw [List.getD_eq_getElem?_getD, List.getElem?_eq_getElem hj] at h4
      rw [show l[i] = (a : Int) from h1, show l[j] = (b : Int) from h4, Int.toNat_natCast, Int.toNat_natCast]
      exact hL _ a b rfl h2 h5 (by omega)
    · rw [List.mem_map]
      constructor
      · rintro ⟨z, hz, rfl⟩
        have := okT_in hok hz
        omega
      · intro hj
        exact ⟨(j : Int), hok j (by omega), by simp⟩
  rw [← hsr]
  apply List.ext_getElem (by simp [zsN])
  intro i h1 h2
  have := okT_in hok (List.getElem_mem h1)
  simp only [zsN, List.getElem_map]
  omega
theorem sr_right {x l : List Int} (hr : RtL x) (e : l = zsN (srT x x.length)) {i a b : Nat} (hi : i + 1 < l.length) (ha : l.getD i 0 = (a : Int)) (hb : l.getD (i + 1) 0 = (b : Int)) : rtB x (tnT l) a b = true := by
  subst e
  have hok := okT_sr x
  have hlen : (zsN (srT x x.length)).length = x.length := by rw [zsN_len, srT_len]
  obtain ⟨a', h1, h2, h3⟩ := pos_of hok (i := i) (by omega)
  obtain ⟨b', h4, h5, h6⟩ := pos_of hok (i := i + 1) hi
  obtain rfl : a' = a := Int.ofNat.inj (h1.symm.trans ha)
  obtain rfl : b' = b := Int.ofNat.inj (h4.symm.trans hb)
  have h7 : lsT x a' b' = true := (pos_sr (by omega) (by omega)).2 (by omega)
  exact rtB_sr hr (by omega) (by omega) (fun e => by subst e; omega) h7
theorem near_ne {l : List Int} (hok : okT l) {i a b : Nat} (hi : i + 1 < l.length) (ha : l.getD i 0 = (a : Int)) (hb : l.getD (i + 1) 0 = (b : Int)) : a ≠ b := fun e => by
  subst e
  have h1 := at_is (okT_nodup hok) (i := i) (by omega) ha
  have h2 := at_is (okT_nodup hok) hi hb
  omega
end Go.Inc
namespace Go.Proofs.Ytclpoconppmapaa
open Go.RowKit Go.Inc
set_option maxRecDepth 20000 in
set_option maxHeartbeats 2000000 in
theorem rless_any (y : World) (b1 b2 pb po qb qo n c c' : Nat) (zs : List Int) (P : List Nat) (a b : Nat) (hn : (n : Int) ≤ 65536) (ha : a < n) (hb : b < n)
    (h1 : y.cell? ⟨b1, 0, none⟩ = some (.slice (some ⟨pb, po, none⟩) n c)) (h2 : y.cell? ⟨b2, 0, none⟩ = some (.slice (some ⟨qb, qo, none⟩) n c'))
    (hz : ∀ i, i < n → y.cell? ⟨pb, po + i, none⟩ = some (.int .i64 (zs.getD i 0))) (hp : ∀ i, i < n → y.cell? ⟨qb, qo + i, none⟩ = some (.int .i64 ((P.getD i 0 : Nat) : Int))) (hs : zs.getD a 0 = zs.getD b 0 → a + 1 < n ∧ b + 1 < n) :
    Calls Try.prog 52 #[.int .i64 (a : Int), .int .i64 (b : Int), .pointer (some ⟨b1, 0, none⟩), .pointer (some ⟨b2, 0, none⟩)] y fun e w' => e = .returned (.bool (rtB zs P a b)) ∧ ∃ q, w' = y.drewN q := by
  have hc1 := hz a ha
  have hc2 := hz b hb
  have HZ := hid hz
  have HP := hid hp
  have HS := hid hs
  have hai : (a : Int) < (n : Int) := by omega
  have hbi : (b : Int) < (n : Int) := by omega
  obtain ⟨a1, ha1⟩ : ∃ a1 : Nat, (a : Int) + 1 = (a1 : Int) := ⟨a + 1, by omega⟩
  obtain ⟨b1', hb1⟩ : ∃ b1' : Nat, (b : Int) + 1 = (b1' : Int) := ⟨b + 1, by omega⟩
  have HA1 : Hid (a + 1 = a1) := hid (by omega)
  have HB1 : Hid (b + 1 = b1') := hid (by omega)
  have HR : Hid (rtB zs P a b = if zs.getD a 0 = zs.getD b 0 then decide (P.getD a1 0 < P.getD b1' 0) else decide (zs.getD a 0 < zs.getD b 0)) := hid (by rw [← HA1.out, ← HB1.out]; rfl)
  rw [HA1.out, HB1.out] at HS
  generalize zs.getD a 0 = z at *
  generalize zs.getD b 0 = z' at *
  clear hz hp hs
  by_cases he : z = z'
  · have h3 := HS.out he
    have hp1 := HP.out a1 h3.1
    have hp2 := HP.out b1' h3.2
    have hai1 : (a1 : Int) < (n : Int) := by omega
    have hbi1 : (b1' : Int) < (n : Int) := by omega
    rw [if_pos he] at HR
    have hbe : (z != z') = false := by rw [bne_eq_false_iff_eq]; exact he
    generalize P.getD a1 0 = r at *
    generalize P.getD b1' 0 = r' at *
    by_cases hrr : r < r'
    · have hrt : (r < r') = True := eq_true hrr
      rw [decide_eq_true hrr] at HR
      clear he h3 hrr HS
      go_enter Try.func52, Try.ntmps52
      go_wp2_with fail
      go_quiet (fail)
      go_wp2_with fail
      go_quiet (fail)
      go_wp2_with fail
      go_ret
      exact ⟨by rw [HR.out]; rfl, _, World.drewN_drewN ..⟩
    · have hrt : (r < r') = False := eq_false hrr
      rw [decide_eq_false hrr] at HR
      clear he h3 hrr HS
      go_enter Try.func52, Try.ntmps52
      go_wp2_with fail
      go_quiet (fail)
      go_wp2_with fail
      go_quiet (fail)
      go_wp2_with fail
      go_ret
      exact ⟨by rw [HR.out]; rfl, _, World.drewN_drewN ..⟩
  · have hbe : (z != z') = true := by rw [bne_iff_ne]; exact he
    rw [if_neg he] at HR
    clear he HS
    go_enter Try.func52, Try.ntmps52
    go_wp2_with fail
    go_quiet (fail)
    go_wp2_with fail
    go_quiet (fail)
    go_wp2_with fail
    go_ret
    exact ⟨by rw [HR.out]; rfl, _, World.drewN_drewN ..⟩
set_option maxRecDepth 20000 in
set_option maxHeartbeats 2000000 in
theorem right_any (ok ok' : Nat → Prop) (x : World) (p p' : Option Addr) (c c' : Nat) (zs ls : List Int) (hs : Si ok x p zs) (hs' : Si ok' x p' ls) (hr : RtL zs) (hl : (zs.length : Int) ≤ 65536) (hl' : (ls.length : Int) ≤ 65536) (hzc : zs.length ≤ c) (hlc : ls.length ≤ c') :
    Calls Try.prog 43 #[.slice p zs.length c, .slice p' ls.length c'] x fun e w' => e = .returned (.bool (decide (ls = zsN (srT zs zs.length)))) ∧ Below x.heap.size x w' := by
  have HS' := hid hs'
  obtain ⟨n, hn⟩ : ∃ n, n = zs.length := ⟨_, rfl⟩
  obtain ⟨m, hm⟩ : ∃ m, m = ls.length := ⟨_, rfl⟩
  have HA := hid (allocU x (.cells #[.slice p n c] 22))
  have HTN := hid (turned_any ok' (x.alloc (.cells #[.slice p n c] 22)) p' c' ls (hs'.below HA.out) hl')
  rw [← hm] at HTN ⊢
  have HN := hid hn
  have HM := hid hm
  have HZC := hid hzc
  have HLC := hid hlc
  have HS := hid hs
  have HR := hid hr
  rw [← hn] at hzc hl ⊢
  rw [← hm] at hlc hl'
  clear hn hm hs hs' hr
  go_enter Try.func43, Try.ntmps43
  go_wp2_with fail
  refine HTN.out.mono ?_
  rintro e w1 ⟨⟨u, k, rfl, hgood, hbad⟩, hb1⟩
  by_cases hok : okT ls
  · obtain ⟨rfl, hso⟩ := hgood hok
    obtain ⟨a2, c2, rfl, hsi2, hlc2, hcm2, -⟩ := hso
    have HLEN : Hid ((zsN (tnT ls)).length = m) := hid (by rw [zsN_len, tnT_len]; exact HM.out.symm)
    rw [HLEN.out] at hlc2 ⊢
    obtain ⟨w2, hw2⟩ : ∃ w2, w2 = w1.alloc (.cells #[.slice a2 m c2] 22) := ⟨_, rfl⟩
    obtain ⟨g1, hg1⟩ : ∃ g1, g1 = x.heap.size := ⟨_, rfl⟩
    obtain ⟨g2, hg2⟩ : ∃ g2, g2 = w1.heap.size := ⟨_, rfl⟩
    have HB1 : Hid (Below x.heap.size x w1) := hid (HA.out.trans (hb1.mono HA.out.size))
    have HB12 := hid (allocU w1 (.cells #[.slice a2 m c2] 22))
    rw [← hw2] at HB12
    have HB2 : Hid (Below x.heap.size x w2) := hid (HB1.out.trans (HB12.out.mono HB1.out.size))
    have k1 : w1.cell? ⟨g1, 0, none⟩ = some (.slice p n c) := by
      have h0 : (x.alloc (.cells #[.slice p n c] 22)).cell? ⟨g1, 0, none⟩ = some (.slice p n c) := by rw [hg1]; simp
      rw [World.cell?_of_block (hb1.block g1 (cell_lt h0))]; exact h0
    have hk1 : w2.cell? ⟨g1, 0, none⟩ = some (.slice p n c) := by rw [World.cell?_of_block (HB12.out.block g1 (cell_lt k1))]; exact k1
    have hk2 : w2.cell? ⟨g2, 0, none⟩ = some (.slice a2 m c2) := by rw [hw2, hg2]; simp
    have HW2 := hid hw2
    have HG1 := hid hg1
    have HG2 := hid hg2
    have HSI2 := hid (hsi2.below HB12.out)
    have HOK := hid hok
    have hc2b : (c2 : Int) ≤ 9223372036854775807 := by unfold maxLen at hcm2; omega
    clear hgood hbad hb1 hw2 hg1 hg2 k1 hsi2 hok hcm2 HTN HB1 HB12
    go_upto_region 2 with fail
    rw [← HW2.out, ← HG1.out, ← HG2.out]
    clear HW2
    by_cases hmn : m = n
    · have hne : ((m : Int) != (n : Int)) = false := by rw [bne_eq_false_iff_eq]; omega
      have HMN := hid hmn
      have h0 : 0 < n := by rw [HN.out]; exact HR.out.1
      obtain ⟨pb, po, rfl, hz⟩ : ∃ pb po, p = some ⟨pb, po, none⟩ ∧ ∀ y, Below w2.heap.size w2 y → ∀ i, i < n → y.cell? ⟨pb, po + i, none⟩ = some (.int .i64 (zs.getD i 0)) := by
        rcases HS.out.below HB2.out with h | ⟨b, o, h, -, hc⟩
        · have := HN.out; rw [h] at this; simp at this; omega
        · refine ⟨b, o, h, fun y hy i hi => ?_⟩
          have h1 := hc i (by rw [← HN.out]; exact hi)
          rw [World.cell?_of_block (hy.block b (cell_lt h1))]; exact h1
      obtain ⟨qb, qo, rfl, hp⟩ : ∃ pb po, a2 = some ⟨pb, po, none⟩ ∧ ∀ y, Below w2.heap.size w2 y → ∀ i, i < n → y.cell? ⟨pb, po + i, none⟩ = some (.int .i64 (((tnT ls).getD i 0 : Nat) : Int)) := by
        rcases HSI2.out with h | ⟨b, o, h, -, hc⟩
        · have := HLEN.out; rw [h] at this; simp at this; omega
        · refine ⟨b, o, h, fun y hy i hi => ?_⟩
          have h1 := hc i (by rw [HLEN.out]; omega)
          rw [zsN_get] at h1
          rw [World.cell?_of_block (hy.block b (cell_lt h1))]; exact h1
      obtain ⟨rb, ro, rfl, ho⟩ : ∃ pb po, p' = some ⟨pb, po, none⟩ ∧ ∀ y, Below w2.heap.size w2 y → ∀ i, i < n → y.cell? ⟨pb, po + i, none⟩ = some (.int .i64 (ls.getD i 0)) := by
        rcases HS'.out.below HB2.out with h | ⟨b, o, h, -, hc⟩
        · have := HM.out; rw [h] at this; simp at this; omega
        · refine ⟨b, o, h, fun y hy i hi => ?_⟩
          have h1 := hc i (by rw [← HM.out]; omega)
          rw [World.cell?_of_block (hy.block b (cell_lt h1))]; exact h1
      have HLS : Hid (∀ y, Below w2.heap.size w2 y → ∀ a b : Nat, a < n → b < n → a ≠ b → ∀ j, Calls Try.prog 52 #[.int .i64 (a : Int), .int .i64 (b : Int), .pointer (some ⟨g1, 0, none⟩), .pointer (some ⟨g2, 0, none⟩)] (y.drewN j) fun e w' => e = .returned (.bool (rtB zs (tnT ls) a b)) ∧ ∃ q, w' = y.drewN q) := hid (fun y hy a b ha hb hab j => Calls.quiet_of (by
        have hyj : Below w2.heap.size w2 (y.drewN j) := hy.trans ((below_drewN y j).mono hy.size)
        have e1 : (y.drewN j).cell? ⟨g1, 0, none⟩ = some (.slice (some ⟨pb, po, none⟩) n c) := by rw [World.cell?_of_block (hyj.block g1 (cell_lt hk1))]; exact hk1
        have e2 : (y.drewN j).cell? ⟨g2, 0, none⟩ = some (.slice (some ⟨qb, qo, none⟩) n c2) := by rw [World.cell?_of_block (hyj.block g2 (cell_lt hk2)), ← HMN.out]; exact hk2
        exact rless_any (y.drewN j) g1 g2 pb po qb qo n c c2 zs (tnT ls) a b hl ha hb e1 e2 (hz _ hyj) (hp _ hyj) (fun he => by
          have := same_in HR.out (a := a) (b := b) (by have := HN.out; omega) (by have := HN.out; omega) hab he
          have := HN.out; omega)))
      have HO := hid ho
      have HPO := hid (fun (i : Nat) (hi : i < n) => pos_of HOK.out (i := i) (by have := HM.out; omega))
      have HBAD := hid (fun (i a b : Nat) (hi : i + 1 < n) e1 e2 (hb : rtB zs (tnT ls) a b = false) => show decide (ls = zsN (srT zs n)) = false from decide_eq_false (fun e => by
        have := sr_right HR.out (l := ls) (by rw [e, HN.out]) (i := i) (a := a) (b := b) (by have := HM.out; omega) e1 e2
        rw [hb] at this; cases this))
      have HALL := hid (fun (h : ∀ i a b : Nat, i + 1 < n → ls.getD i 0 = (a : Int) → ls.getD (i + 1) 0 = (b : Int) → rtB zs (tnT ls) a b = true) => show decide (ls = zsN (srT zs n)) = true from decide_eq_true (by
        rw [HN.out]
        exact all_right HR.out (by have := HN.out; have := HM.out; omega) HOK.out (fun i a b hi => h i a b (by have := HM.out; omega))))
      have HNE := hid (fun (i a b : Nat) (hi : i + 1 < n) e1 e2 => near_ne HOK.out (i := i) (a := a) (b := b) (by have := HM.out; omega) e1 e2)
      subst hmn
      clear hz hp ho hlc2 HSI2 hl' hlc
      go_wp2_with fail
      go_loopw [8] (fun i wr => ∃ t : Nat, t + 1 ≤ m ∧ i = .int .i64 ((t : Int) + 1) ∧ (∀ i a b : Nat, i + 1 < t + 1 → ls.getD i 0 = (a : Int) → ls.getD (i + 1) 0 = (b : Int) → rtB zs (tnT ls) a b = true) ∧ Below w2.heap.size w2 wr) (fun i _ => m - (intOf i).toNat)
      case atStart => exact ⟨0, h0, rfl, fun i a b h => by omega, Below.refl _ _⟩
      case round =>
        clear hk1 hk2
        obtain ⟨t, ht, rfl, hal, hb⟩ := hrel
        have HAL := hid hal
        have HB := hid hb
        have htb : (t : Int) ≤ 65536 := by omega
        clear hal hb
        obtain ⟨t1, ht1⟩ : ∃ t1 : Nat, (t : Int) + 1 = (t1 : Int) := ⟨t + 1, by omega⟩
        have HT1 : Hid (t1 = t + 1) := hid (by omega)
        have htt : (t1 : Int) - 1 = (t : Int) := by omega
        have ht1b : (t1 : Int) ≤ 65537 := by omega
        rw [ht1]
        by_cases hlt : t1 < m
        · have hlt1 : (t1 < m) = True := eq_true hlt
          have HLT := hid hlt
          obtain ⟨a, ha1, ha2, -⟩ := HPO.out t (by omega)
          obtain ⟨b, hb1, hb2, -⟩ := HPO.out t1 hlt
          have ho1 := HO.out wr HB.out t (by omega)
          have ho2 := HO.out wr HB.out t1 hlt
          have HEQ := hid (And.intro ha1 hb1)
          have HAB := hid (HNE.out t a b (by rw [← HT1.out]; exact hlt) ha1 (by rw [← HT1.out]; exact hb1))
          rw [ha1] at ho1
          rw [hb1] at ho2
          have l1 := HLS.out wr HB.out a b (by have := HM.out; omega) (by have := HM.out; omega) HAB.out
          obtain ⟨q, hq⟩ : ∃ q, q = rtB zs (tnT ls) a b := ⟨_, rfl⟩
          rw [← hq] at l1
          have HQ := hid hq
          have htm : (t : Int) < (m : Int) := by omega
          have ht1m : (t1 : Int) < (m : Int) := by omega
          clear hlt ha1 ha2 hb1 hb2 hq
          cases q
          · go_wp2_with fail
            go_quiet (with_reducible exact l1 _)
            go_wp2_with fail
            go_ret
            exact ⟨by rw [HBAD.out t a b (by have := HT1.out; have := HLT.out; omega) HEQ.out.1 (by rw [← HT1.out]; exact HEQ.out.2) HQ.out.symm]; rfl, HB2.out.trans ((HB.out.trans ((below_drewN _ _).mono HB.out.size)).mono HB2.out.size)⟩
          · go_wp2_with fail
            go_quiet (with_reducible exact l1 _)
            go_wp2_with fail
            go_roundw
            case rel => exact ⟨t1, by have := HLT.out; omega, by go_num, fun i a' b' hi e1 e2 => (by
              by_cases e : i = t
              · subst e
                obtain rfl : a' = a := Int.ofNat.inj (e1.symm.trans HEQ.out.1)
                obtain rfl : b' = b := Int.ofNat.inj (e2.symm.trans (by rw [← HT1.out]; exact HEQ.out.2))
                exact HQ.out.symm
              · exact HAL.out i a' b' (by have := HT1.out; omega) e1 e2), HB.out.trans ((below_drewN _ _).mono HB.out.size)⟩
            case measure => simp [intOf]; have := HLT.out; omega
        · have hlt1 : (t1 < m) = False := eq_false hlt
          have HD := hid (HALL.out (fun i a b hi e1 e2 => HAL.out i a b (by have := HT1.out; omega) e1 e2))
          clear hlt
          go_wp2_with fail
          go_ret
          exact ⟨by rw [HD.out]; rfl, HB2.out.trans (HB.out.mono HB2.out.size)⟩
    · have hne : ((m : Int) != (n : Int)) = true := by rw [bne_iff_ne]; omega
      have HNO : Hid (decide (ls = zsN (srT zs n)) = false) := hid (decide_eq_false (fun e => by
        have h1 := congrArg List.length e
        rw [zsN_len, HN.out, srT_len] at h1
        have := HN.out; have := HM.out; omega))
      clear hmn HSI2
      go_wp2_with fail
      go_ret
      exact ⟨by rw [HNO.out]; rfl, HB2.out⟩
  · obtain ⟨rfl, a2, c2, rfl⟩ := hbad hok
    have HNO : Hid (decide (ls = zsN (srT zs n)) = false) := hid (decide_eq_false (fun e => hok (by rw [e, HN.out]; exact okT_sr zs)))
    have HB1 : Hid (Below x.heap.size x w1) := hid (HA.out.trans (hb1.mono HA.out.size))
    have HB2 : Hid (Below x.heap.size x (w1.alloc (.cells #[.slice a2 0 c2] 22))) := hid (HB1.out.trans ((allocU w1 _).mono HB1.out.size))
    clear hgood hbad hok hb1 HTN
    go_wp2_with fail
    go_ret
    exact ⟨by rw [HNO.out]; rfl, HB2.out⟩
end Go.Proofs.Ytclpoconppmapaa
