/- CONTRACTS (suffix, as it landed): Less; how much two suffixes begin with alike. -/
import Derived.Test.YtclpoconppmapaaSuE
import Derived.Lib.MinMax
namespace Go.Inc
open Go.RowKit
/-- A slice from a place on. -/
theorem Si.from {ok : Nat → Prop} {w : World} {b o : Nat} {zs : List Int} (h : Si ok w (some ⟨b, o, none⟩) zs) (k : Nat) : Si ok w (some ⟨b, o + k, none⟩) (zs.drop k) := by
  by_cases hk : k < zs.length
  · rcases h with h | ⟨b', o', e, hok, hc⟩
    · rw [h] at hk; simp at hk
    · cases e
      refine .inr ⟨b, o + k, rfl, hok, fun i hi => ?_⟩
      rw [List.length_drop] at hi
      have h1 := hc (k + i) (by omega)
      rw [drop_get, Nat.add_assoc]
      exact h1
  · rw [List.drop_of_length_le (by omega)]
    exact .inl rfl
/-- A slice of two numbers, just made. -/
theorem So.two (w : World) (a b : Int) (T : TypeId) : So (fun g => w.heap.size ≤ g) (w.alloc (.cells #[.int .i64 a, .int .i64 b] T)) (.slice (some ⟨w.heap.size, 0, none⟩) 2 2) [a, b] := by
  refine ⟨_, 2, rfl, .inr ⟨w.heap.size, 0, rfl, Nat.le_refl _, fun i hi => ?_⟩, Nat.le_refl _, by unfold maxLen; omega, fun h => by cases h⟩
  have : i = 0 ∨ i = 1 := by simp at hi; omega
  rcases this with rfl | rfl <;> simp
theorem So.one1 (w : World) (a : Int) (T : TypeId) : So (fun g => w.heap.size ≤ g) (w.alloc (.cells #[.int .i64 a] T)) (.slice (some ⟨w.heap.size, 0, none⟩) 1 1) [a] := by
  refine ⟨_, 1, rfl, .inr ⟨w.heap.size, 0, rfl, Nat.le_refl _, fun i hi => ?_⟩, Nat.le_refl _, by unfold maxLen; omega, fun h => by cases h⟩
  have : i = 0 := by simp at hi; omega
  subst this
  simp
end Go.Inc
namespace Go.Proofs.Ytclpoconppmapaa
open Go.RowKit Go.Inc
theorem cpT_in {x : List Int} {a b : Nat} (h : ckT x = 0) (ha : a < x.length) (hb : b < x.length) : cpT x [(a : Int), (b : Int)] = 0 := by
  unfold cpT
  have h1 : placeB x.length (a : Int) = false := placeB_iff.2 (by omega)
  have h2 : placeB x.length (b : Int) = false := placeB_iff.2 (by omega)
  rw [if_pos h, if_neg (by simp [h1, h2])]
theorem cpT_out {x : List Int} {a b : Int} (h : ckT x = 0) (hn : ¬ ((0 ≤ a ∧ a < x.length) ∧ 0 ≤ b ∧ b < x.length)) : cpT x [a, b] = 10 := by
  unfold cpT
  rw [if_pos h, if_pos]
  apply Classical.byContradiction
  intro hc
  simp only [List.any_cons, List.any_nil, Bool.or_false, Bool.or_eq_true, not_or, Bool.not_eq_true] at hc
  exact hn ⟨placeB_iff.1 hc.1, placeB_iff.1 hc.2⟩
theorem cpT_bad {x ps : List Int} (h : ckT x ≠ 0) : cpT x ps = ckT x := by unfold cpT; rw [if_neg h]
theorem two_i64 {a b : Int} (ha : i64s a) (hb : i64s b) : ∀ z ∈ [a, b], i64s z := by
  intro z hz
  rcases List.mem_cons.1 hz with rfl | hz
  · exact ha
  · rw [List.mem_singleton] at hz; subst hz; exact hb
set_option maxRecDepth 20000 in
set_option maxHeartbeats 1500000 in
theorem less_bad (ok : Nat → Prop) (w : World) (v : Value) (zs : List Int) (a b : Int) (hs : So ok w v zs) (hl : zs.length ≤ 65536) (hz : ∀ z ∈ zs, i64s z) (ha : i64s a) (hb : i64s b) (k : Nat) (hk : cpT zs [a, b] = k) (h0 : k ≠ 0) :
    Calls Try.prog 12 #[v, .int .i64 a, .int .i64 b] w fun e w' => ∃ u, e = .returned (.tuple #[u, .int .i64 (k : Int)]) ∧ Below w.heap.size w w' := by
  have HC := hid (checkPlaces_any _ _ (w.alloc (.cells #[.int .i64 a, .int .i64 b] 3)) v _ zs [a, b] (hs.below (allocU w _)) (So.two w a b 3) hl hz (by simp) (two_i64 ha hb))
  have HA := hid (allocU w (.cells #[.int .i64 a, .int .i64 b] 3))
  rw [hk] at HC
  have hk0 : ((k : Int) != 0) = true := by rw [bne_iff_ne]; omega
  clear hs hl hz ha hb hk h0
  go_enter Try.func12, Try.ntmps12
  go_wp2_with fail
  refine HC.out.mono ?_
  rintro e w1 ⟨rfl, hb1⟩
  have HB := hid (HA.out.trans (hb1.mono HA.out.size))
  clear HC HA hb1
  go_wp2_with fail
  go_ret2
  exact ⟨_, rfl, HB.out⟩
set_option maxRecDepth 20000 in
set_option maxHeartbeats 1500000 in
theorem suLess (ok : Nat → Prop) (w : World) (v : Value) (zs : List Int) (a b : Nat) (hs : So ok w v zs) (hl : zs.length ≤ 65536) (hk : ckT zs = 0) (ha : a < zs.length) (hb : b < zs.length) :
    Calls Try.prog 12 #[v, .int .i64 (a : Int), .int .i64 (b : Int)] w fun e w' => e = .returned (.tuple #[.bool (lsT zs a b), .int .i64 0]) ∧ Below w.heap.size w w' := by
  have HC := hid (checkPlaces_any _ _ (w.alloc (.cells #[.int .i64 (a : Int), .int .i64 (b : Int)] 3)) v _ zs [(a : Int), (b : Int)] (hs.below (allocU w _)) (So.two w a b 3) hl (ckT_i64 hk) (by simp) (two_i64 (by unfold i64s; omega) (by unfold i64s; omega)))
  have HA := hid (allocU w (.cells #[.int .i64 (a : Int), .int .i64 (b : Int)] 3))
  rw [cpT_in hk ha hb] at HC
  obtain ⟨p, c, rfl, hsi, hlc, hcm, -⟩ := hs
  obtain ⟨pb, po, rfl⟩ : ∃ pb po, p = some (⟨pb, po, none⟩ : Addr) := by
    rcases hsi with h | ⟨b', o', h, -, -⟩
    · rw [h] at ha; simp at ha
    · exact ⟨_, _, h⟩
  have HS := hid hsi
  have HL : Hid (decide (cmpV (zs.drop a) (zs.drop b) < 0) = lsT zs a b) := hid (cmpV_lt _ _)
  have HQ : Hid (∀ y, Below w.heap.size w y → ∀ j, Calls Try.prog 32 #[.slice (some ⟨pb, po + a, none⟩) (zs.length - a) (c - a), .slice (some ⟨pb, po + b, none⟩) (zs.length - b) (c - b)] (y.drewN j) fun e w' => e = .returned (.int .i64 (cmpV (zs.drop a) (zs.drop b))) ∧ ∃ m, w' = y.drewN m) := hid (fun y hy j => Calls.quiet_of_same (by
    have hb2 : Below w.heap.size w (y.drewN j) := hy.trans ((below_drewN y j).mono hy.size)
    have h := compareL_any ok ok (y.drewN j) (some ⟨pb, po + a, none⟩) (some ⟨pb, po + b, none⟩) (c - a) (c - b) (zs.drop a) (zs.drop b) ((hsi.below hb2).from a) ((hsi.below hb2).from b) (by rw [List.length_drop]; omega)
    rw [List.length_drop, List.length_drop] at h
    exact h.mono fun _ _ h => ⟨h.1, h.2.symm⟩))
  obtain ⟨q, hq⟩ : ∃ q, q = cmpV (zs.drop a) (zs.drop b) := ⟨_, rfl⟩
  rw [← hq] at HQ HL
  obtain ⟨n, hn⟩ : ∃ n, n = zs.length := ⟨_, rfl⟩
  rw [← hn] at hl ha hb hlc HQ HC ⊢
  have hca : (c = a) = False := eq_false (by omega)
  have hcb : (c = b) = False := eq_false (by omega)
  have hab : (a : Int) ≤ (n : Int) := by omega
  have hbb : (b : Int) ≤ (n : Int) := by omega
  have hnc : (n : Int) ≤ (c : Int) := by omega
  have hcx : (c : Int) ≤ 9223372036854775807 := by unfold maxLen at hcm; omega
  clear hl ha hb hlc hcm hk hn hq hsi
  go_enter Try.func12, Try.ntmps12
  go_wp2_with fail
  refine HC.out.mono ?_
  rintro e w1 ⟨rfl, hb1⟩
  have HB := hid (HA.out.trans (hb1.mono HA.out.size))
  have l1 := HQ.out w1 HB.out
  clear HC HA hb1 HQ
  go_wp2_with fail
  go_quiet (with_reducible exact l1 _)
  go_wp2_with fail
  go_ret2
  exact ⟨by rw [HL.out]; rfl, HB.out.trans ((below_drewN _ _).mono HB.out.size)⟩
set_option maxRecDepth 20000 in
set_option maxHeartbeats 2000000 in
theorem common_any (ok : Nat → Prop) (x : World) (p : Option Addr) (c : Nat) (zs : List Int) (a b k : Nat) (hs : Si ok x p zs) (hl : (zs.length : Int) ≤ 65536) (ha : a < zs.length) (hb : b < zs.length) (hk : k ≤ cmT zs a b) :
    Calls Try.prog 38 #[.slice p zs.length c, .int .i64 (a : Int), .int .i64 (b : Int), .int .i64 (k : Int)] x fun e w' => e = .returned (.int .i64 ((cmT zs a b : Nat) : Int)) ∧ Below x.heap.size x w' := by
  have HS := hid hs
  have HIS := hid (fun (n : Nat) h1 h2 => cmT_is (x := zs) (a := a) (b := b) (n := n) h1 h2)
  have HK : Hid (∀ i, i < k → a + i < zs.length ∧ b + i < zs.length ∧ zs.getD (a + i) 0 = zs.getD (b + i) 0) := hid (fun i hi => by
    have h1 := cmL_le (zs.drop a) (zs.drop b)
    have h2 := cmL_same (zs.drop a) (zs.drop b) i (by unfold cmT at hk; omega)
    rw [List.length_drop, List.length_drop] at h1
    rw [drop_get, drop_get] at h2
    unfold cmT at hk
    exact ⟨by omega, by omega, h2⟩)
  have HKN : Hid (k ≤ zs.length) := hid (by
    have h1 := (cmL_le (zs.drop a) (zs.drop b)).1
    rw [List.length_drop] at h1
    unfold cmT at hk
    omega)
  obtain ⟨n, hn⟩ : ∃ n, n = zs.length := ⟨_, rfl⟩
  have HN := hid hn
  rw [← hn] at hl ha hb HIS HK HKN ⊢
  obtain ⟨pb, po, rfl, hc⟩ : ∃ pb po, p = some ⟨pb, po, none⟩ ∧ ∀ y, Below x.heap.size x y → ∀ i, i < n → y.cell? ⟨pb, po + i, none⟩ = some (.int .i64 (zs.getD i 0)) := by
    rcases HS.out with h | ⟨b, o, h, -, hc⟩
    · rw [h] at hn; simp at hn; omega
    · refine ⟨b, o, h, fun y hy i hi => ?_⟩
      have h1 := hc i (by rw [← hn]; exact hi)
      rw [World.cell?_of_block (hy.block b (cell_lt h1))]; exact h1
  have HC := hid hc
  obtain ⟨mx, hmx, HMX⟩ : ∃ mx : Nat, max (a : Int) (b : Int) = (mx : Int) ∧ Hid (a ≤ mx ∧ b ≤ mx ∧ (mx = a ∨ mx = b)) := ⟨max a b, by omega, hid (by omega)⟩
  have hmb : (mx : Int) ≤ 65536 := by have := HMX.out; omega
  clear hs hn hc hk
  go_enter Try.func38, Try.ntmps38
  go_wp2_with fail
  go_loopw [9] (fun k wr => ∃ t : Nat, k = .int .i64 (t : Int) ∧ t ≤ n ∧ (∀ i, i < t → a + i < n ∧ b + i < n ∧ zs.getD (a + i) 0 = zs.getD (b + i) 0) ∧ Below x.heap.size x wr) (fun k _ => n - (intOf k).toNat)
  case atStart => exact ⟨k, rfl, HKN.out, HK.out, Below.refl _ _⟩
  case round =>
    obtain ⟨t, rfl, htn, hi, hb2⟩ := hrel
    have HI := hid hi
    have HB := hid hb2
    have hcc := HC.out _ hb2
    clear hi hb2
    obtain ⟨u, hu⟩ : ∃ u, u = a + t := ⟨_, rfl⟩
    obtain ⟨v, hv⟩ : ∃ v, v = b + t := ⟨_, rfl⟩
    obtain ⟨s, hs⟩ : ∃ s, s = mx + t := ⟨_, rfl⟩
    have hau : (a : Int) + (t : Int) = (u : Int) := by omega
    have hbv : (b : Int) + (t : Int) = (v : Int) := by omega
    have hms : (mx : Int) + (t : Int) = (s : Int) := by omega
    have HU := hid hu
    have HV := hid hv
    have hub : (u : Int) ≤ 200000 := by omega
    have hvb : (v : Int) ≤ 200000 := by omega
    have hsb : (s : Int) ≤ 200000 := by omega
    have HSM : Hid (s < n ↔ u < n ∧ v < n) := hid (by have := HMX.out; omega)
    clear hu hv hs
    by_cases h1 : s < n
    · have h1t : (s < n) = True := eq_true h1
      have huv := HSM.out.1 h1
      have hut : (u : Int) < (n : Int) := by omega
      have hvt : (v : Int) < (n : Int) := by omega
      have hc1 := hcc u huv.1
      have hc2 := hcc v huv.2
      have HX : Hid (∀ z z' : Int, zs.getD u 0 = z → zs.getD v 0 = z' → zs.getD (a + t) 0 = z ∧ zs.getD (b + t) 0 = z') := hid (by rw [HU.out, HV.out]; exact fun _ _ h k => ⟨h, k⟩)
      obtain ⟨z, hz⟩ : ∃ z, z = zs.getD u 0 := ⟨_, rfl⟩
      obtain ⟨z', hz'⟩ : ∃ z', z' = zs.getD v 0 := ⟨_, rfl⟩
      have HXX := hid (HX.out z z' hz.symm hz'.symm)
      rw [← hz] at hc1
      rw [← hz'] at hc2
      have HLT : Hid (a + t < n ∧ b + t < n) := hid ⟨by rw [← HU.out]; exact huv.1, by rw [← HV.out]; exact huv.2⟩
      have htl : t + 1 ≤ n := by have := HLT.out; omega
      clear hz hz' h1 huv hcc HX HU HV HSM
      by_cases he : z = z'
      · subst he
        go_wp2_with fail
        go_region
        go_wp2_with fail
        go_roundw
        case rel => exact ⟨t + 1, by go_num, htl, fun i hi => (by
          by_cases e : i = t
          · subst e; exact ⟨HLT.out.1, HLT.out.2, by rw [HXX.out.1, HXX.out.2]⟩
          · exact HI.out i (by omega)), HB.out.drew⟩
        case measure => simp [intOf]; omega
      · have hbe : (z == z') = false := by rw [beq_eq_false_iff_ne]; exact he
        go_wp2_with fail
        go_region
        go_wp2_with fail
        go_ret
        exact ⟨by rw [HIS.out t HI.out (fun hh => he (by rw [← HXX.out.1, ← HXX.out.2]; exact hh.2.2))]; rfl, HB.out.drew⟩
    · have h1t : (s < n) = False := eq_false h1
      have HNN : Hid (¬ (a + t < n ∧ b + t < n)) := hid (by rw [← HU.out, ← HV.out]; exact fun hh => h1 (HSM.out.2 hh))
      clear hcc h1 HSM
      go_wp2_with fail
      go_region
      go_wp2_with fail
      go_ret
      exact ⟨by rw [HIS.out t HI.out (fun hh => HNN.out ⟨hh.1, hh.2.1⟩)]; rfl, HB.out.drew⟩
end Go.Proofs.Ytclpoconppmapaa
