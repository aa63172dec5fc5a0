/- 'DeviceLoads' RETURNS TRUE FOR ALL BYTES AND EVERY NUMBER: a device of an image has its bytes; what isn't an image is refused. No condition. -/
import Derived.Test.YtgppmnaidgkboaaDevR
import Derived.Test.YtgppmnaidgkboaaOpen
import Derived.Test.YtgppmnaidgkboaaSame
import Derived.Lib.MinMax
namespace Go.Proofs.Ytgppmnaidgkboaa
open Go.RowKit Go.Inc

theorem rd_fresh (bs : List Nat) (k : Nat) : rd (fresh bs) k = pg bs k := rfl

/-- What is cut off stands where it stood. -/
theorem pg_at {ok : Nat → Prop} {w : World} {a : Option Addr} {bs : List Nat} (h : Sl ok w a bs) (k : Nat) (a' : Option Addr) (ha : 256 * k < bs.length → a' = a.map (·.add (256 * k))) : Sl ok w a' (pg bs k) :=
  (h.behind (256 * k) a' ha).front 256

set_option maxRecDepth 20000 in
set_option maxHeartbeats 400000 in
theorem deviceLoads_bad (x : Int) (bh : List Nat) (a : Option Addr) (n c : Nat) (w : World) (hmin : min (n : Int) 3000 = (bh.length : Int)) (hnc : n ≤ c) (hcm : c ≤ maxLen) (hl : bh.length ≤ 3000) (hk : bh.length = 0 ∨ bh.length % 256 ≠ 0) :
    Calls Try.prog 4 #[.slice a n c, .int .i64 x] w fun e w' => e = .returned (.bool true) ∧ Below w.heap.size w w' := by
  have HL := hid (load_bad w a c bh hl hk)
  have HK := hid (known_any w)
  unfold maxLen at hcm
  obtain ⟨q, hq⟩ : ∃ q, q = bh.length := ⟨_, rfl⟩
  rw [← hq] at HL hmin hl hk
  clear hq
  have hqn : (q : Int) ≤ n ∧ (q : Int) ≤ c ∧ (0 : Int) ≤ q := by omega
  by_cases h0 : q = 0
  · have h1 : ((q : Int) == 0) = true := by simp; omega
    have h2 : (q : Int) ≤ 3000 := by omega
    clear hk h0
    go_enter Try.func4, Try.ntmps4
    go_wp2_with fail
    refine HL.out.mono ?_
    rintro e w1 ⟨rfl, rfl⟩
    go_wp2_with fail
    refine HK.out.mono ?_
    rintro e w1 ⟨rfl, hb⟩
    have HB := hid hb
    clear hb
    go_wp2_with fail
    go_ret
    exact ⟨rfl, HB.out⟩
  · have h1 : (((q : Int) % 256) != 0) = true := by rw [bne_iff_ne]; omega
    have h2 : ((q : Int) == 0) = false := by simp; omega
    clear hk
    go_enter Try.func4, Try.ntmps4
    go_wp2_with fail
    refine HL.out.mono ?_
    rintro e w1 ⟨rfl, rfl⟩
    go_wp2_with fail
    refine HK.out.mono ?_
    rintro e w1 ⟨rfl, hb⟩
    have HB := hid hb
    clear hb
    go_wp2_with fail
    go_ret
    exact ⟨rfl, HB.out⟩

set_option maxRecDepth 20000 in
set_option maxHeartbeats 400000 in
theorem deviceLoads_good (x : Int) (hx : -9223372036854775808 ≤ x ∧ x ≤ 9223372036854775807) (ok : Nat → Prop) (bh : List Nat) (a : Option Addr) (n c p : Nat) (w : World) (hs : Sl ok w a bh) (hmin : min (n : Int) 3000 = (bh.length : Int)) (hnc : n ≤ c) (hcm : c ≤ maxLen) (hl : bh.length = 256 * p) (hp : 1 ≤ p ∧ p ≤ 11) :
    Calls Try.prog 4 #[.slice a n c, .int .i64 x] w fun e w' => e = .returned (.bool true) ∧ Below w.heap.size w w' := by
  have HL := hid (dv_load w ok a c p bh hs hl (by omega))
  have hs0 : Sl (fun b => b < w.heap.size) w a bh := hs.mono fun _ _ h => h
  have HS := hid hs0
  unfold maxLen at hcm
  have HLen := hid hl
  clear hs hs0
  obtain ⟨q, hq⟩ : ∃ q, q = bh.length := ⟨_, rfl⟩
  rw [← hq] at HL hmin hl
  have HQ := hid hq
  clear hq
  have hqn : (q : Int) ≤ n ∧ (q : Int) ≤ c ∧ (0 : Int) ≤ q := by omega
  have h1 : (((q : Int) % 256) != 0) = false := by rw [bne_eq_false_iff_eq]; omega
  have h2 : ((q : Int) == 0) = false := by simp; omega
  have h3 : (q : Int) / 256 = (p : Int) := by omega
  have h4 : ((p : Int) != (p : Int)) = false := by simp
  have HP := hid hp
  clear hl hp
  go_enter Try.func4, Try.ntmps4
  go_wp2_with fail
  refine HL.out.mono ?_
  rintro e w1 ⟨C, g, rfl, hd1, hb1, hC⟩
  have HD1 := hid hd1
  have HB1 := hid hb1
  have HC := hid hC
  have H2 := hid (dv_pages hd1)
  have H3 := hid (dv_image hd1)
  clear hd1 hb1 hC HL
  go_wp2_with fail
  refine H2.out.mono ?_
  rintro e w2 ⟨rfl, rfl⟩
  go_wp2_with fail
  refine H3.out.mono ?_
  rintro e w2 ⟨v, rfl, hv, hb2⟩
  obtain ⟨ai, ci, rfl, hn, hc1, hc2, hsl⟩ := hv.sl
  have hb12 : Below w.heap.size w w2 := HB1.out.trans (hb2.mono HB1.out.size)
  have hsb : Sl (fun b => b < w.heap.size) w2 a bh := HS.out.below hb12
  have hqq := HQ.out
  have HSame := hid (same_any _ _ ai a ci c bh bh w2 hsl hsb (by omega))
  rw [decide_eq_true (rfl : bh = bh), ← hqq] at HSame
  have hBq : (fresh bh).B.length = q := hqq.symm
  rw [hBq]
  have HSB := hid hsb
  have HD2 := hid (HD1.out.below hb2)
  have HB2 := hid hb12
  clear hv hsl hsb hb2 hb12 H2 H3 HB1 HD1 hqq HS hn hBq hc1 hc2
  go_wp2_with fail
  refine HSame.out.mono ?_
  rintro e w3 ⟨rfl, hb3⟩
  have HD3 := hid (HD2.out.below hb3)
  have HB3 := hid (HB2.out.trans (hb3.mono HB2.out.size))
  have HSB3 := hid (HSB.out.below hb3)
  clear hb3 HD2 HB2 HSB HSame
  by_cases hin : 0 ≤ x ∧ x < p
  · obtain ⟨k, rfl⟩ := Int.eq_ofNat_of_zero_le hin.1
    have hk : k < p := by have := hin.2; omega
    have HR := hid (dv_read HD3.out k hk rfl (by decide) (show (0 : Int) ≤ 1000000 by decide))
    have hrl := hid (rd_len HD3.out hk)
    have t1 : decide ((k : Int) < 0) = false := decide_eq_false (by omega)
    have t2 : decide ((p : Int) ≤ (k : Int)) = false := decide_eq_false (by omega)
    have hk0 : (k : Int) < p ∧ (0 : Int) ≤ k := by omega
    clear hin hx
    have hqp : q = 256 * p := by have := HQ.out; have := HLen.out; omega
    obtain ⟨o, ho⟩ : ∃ o, o = 256 * k := ⟨_, rfl⟩
    have hmul : (256 : Int) * (k : Int) = (o : Int) := by omega
    have hoq : (o : Int) + 256 ≤ (q : Int) ∧ (o : Int) + 256 ≤ (c : Int) ∧ (q : Int) ≤ 3000 := by omega
    have hw1 : wrap64 ((256 : Int) * (k : Int)) = (o : Int) := by rw [hmul]; simp [wrap64]; omega
    obtain ⟨o2, ho2⟩ : ∃ o2, o2 = o + 256 := ⟨_, rfl⟩
    have hadd : (o : Int) + 256 = (o2 : Int) := by omega
    have hw2 : wrap64 ((o : Int) + 256) = (o2 : Int) := by rw [hadd]; simp [wrap64]; omega
    have ho22 : (o2 : Int) ≤ q ∧ (o : Int) ≤ (o2 : Int) ∧ (o2 : Int) ≤ (c : Int) := by omega
    have hsub : o2 - o = 256 := by omega
    have hsub2 : (o2 : Int) - (o : Int) = 256 := by omega
    have hco : (c = o) = False := by simp; omega
    have Ho := hid ho
    clear hk ho2 hqp ho
    go_wp2_with fail
    refine HR.out.mono ?_
    rintro e w4 ⟨v, rfl, hv, hd4, hm4⟩
    have HSB4 := hid (HSB3.out.mv hm4 fun b hb hcb => by have := HC.out b hcb; omega)
    have HB4 := hid (HB3.out.trans (hm4.below HB3.out.size fun b hb => HC.out b hb))
    obtain ⟨av, cv, rfl, _, hc1, hc2, hsv⟩ := hv.sl
    have hsv' : Sl (fun b => w3.heap.size ≤ b) w4 av (pg bh k) := hsv
    have HSV := hid hsv'
    rw [hrl.out]
    have HK := hid (known_any w4)
    clear hv hd4 hm4 hsv hsv' hc1 hc2 HR HSB3 HB3
    go_wp2_with fail
    refine HK.out.mono ?_
    rintro e w5 ⟨rfl, hb5⟩
    have hcut : Sl (fun b => b < w.heap.size) w5 (a.map (·.add o)) (pg bh k) := pg_at (HSB4.out.below hb5) k _ fun _ => by rw [Ho.out]
    have hpl : (pg bh k).length = 256 := hrl.out
    have HSame := hid (same_any _ _ av (a.map (·.add o)) cv (c - o) (pg bh k) (pg bh k) w5 (HSV.out.below hb5) hcut (by omega))
    rw [decide_eq_true (rfl : pg bh k = pg bh k), hpl] at HSame
    have HB5 := hid (HB4.out.trans (hb5.mono HB4.out.size))
    clear hb5 hcut hpl HSV HSB4 HB4 HK
    go_wp2_with fail
    refine HSame.out.mono ?_
    rintro e w6 ⟨rfl, hb6⟩
    have HB6 := hid (HB5.out.trans (hb6.mono HB5.out.size))
    clear hb6
    go_wp2_with fail
    go_ret
    exact ⟨rfl, HB6.out⟩
  · have HR := hid (dv_read_range HD3.out x rfl hin)
    have HK := hid (known_any w3)
    by_cases hx0 : x < 0
    · go_wp2_with fail
      refine HR.out.mono ?_
      rintro e w4 ⟨rfl, rfl⟩
      go_wp2_with fail
      refine HK.out.mono ?_
      rintro e w4 ⟨rfl, hb4⟩
      have HB4 := hid (HB3.out.trans (hb4.mono HB3.out.size))
      clear hb4
      go_wp2_with fail
      go_ret
      exact ⟨rfl, HB4.out⟩
    · have hxp : (p : Int) ≤ x := by omega
      have hx0' : 0 ≤ x := by omega
      clear hin hx0
      go_wp2_with fail
      refine HR.out.mono ?_
      rintro e w4 ⟨rfl, rfl⟩
      go_wp2_with fail
      refine HK.out.mono ?_
      rintro e w4 ⟨rfl, hb4⟩
      have HB4 := hid (HB3.out.trans (hb4.mono HB3.out.size))
      clear hb4
      go_wp2_with fail
      go_ret
      exact ⟨rfl, HB4.out⟩
theorem deviceLoads_walk (x : Int) (hx : -9223372036854775808 ≤ x ∧ x ≤ 9223372036854775807) (ok : Nat → Prop) (bs : List Nat) (a : Option Addr) (c : Nat) (w : World) (hs : Sl ok w a bs) (hnc : bs.length ≤ c) (hcm : c ≤ maxLen) :
    Calls Try.prog 4 #[.slice a bs.length c, .int .i64 x] w fun e w' => e = .returned (.bool true) ∧ Below w.heap.size w w' := by
  have hl : (bs.take 3000).length = min bs.length 3000 := by rw [List.length_take]; omega
  have hmin : min (bs.length : Int) 3000 = ((bs.take 3000).length : Int) := by omega
  by_cases hk : (bs.take 3000).length = 0 ∨ (bs.take 3000).length % 256 ≠ 0
  · exact deviceLoads_bad x (bs.take 3000) a bs.length c w hmin hnc hcm (by omega) hk
  · exact deviceLoads_good x hx ok (bs.take 3000) a bs.length c ((bs.take 3000).length / 256) w (hs.front 3000) hmin hnc hcm (by omega) (by omega)
namespace deviceLoads
open Go.ChangeShapes Go.WideShapes Go.ChangeAt

theorem own : ownKnob Try.prog.godebug = none := by kernel_rfl
theorem laidOut : laidOutB Try.prog = true := by kernel_rfl

set_option maxRecDepth 100000 in
theorem lifted (os : Os) (started : os.Started) (H : Type) (enc : TypeId × Value → H) :
    ReturnsInHanded {} Try.checked os 4 .any (Rows.deviceLoadsSpec.pre6 enc Try.prog Try.f4 Rows.deviceLoadsRow.domain false) (Rows.deviceLoadsSpec.post enc Try.prog Try.f4 false true false false) := by
  refine returnsInHanded_of_change (C := Try.checked) own started (by kernel_rfl) Try.func4
    (ChangeSpec.witness6 (enc := enc) (C := Try.checked) false ⟨#[], #[.slice none 0 0, .int .i64 0], []⟩ 8 (by kernel_rfl) (by kernel_rfl) (by kernel_rfl) (by kernel_rfl)) ?_
  intro W base args ds gs before hval0 hW hcnd _
  have hval : ∀ (j : Nat) t v, Try.f4.params[j]? = some t → args[j]? = some v → Value.okWide Try.prog W .any base t v := hval0
  have hW' := hW
  obtain ⟨p, q, hA0, hV, rfl, hfz, hnd⟩ := hW
  have hA : DataW.TrodAll enc Try.prog W 0 (fun _ => true) true Try.f4.params.toList args.toList ds p := hA0
  rw [Try.params4] at hA hval
  obtain ⟨v0, vs0, d0, ds0, p0, q0, hargs, rfl, rfl, h0, r0⟩ := trodAll_cons hA
  obtain ⟨v1, vs1, d1, ds1, p1, q1, rfl, rfl, rfl, h1, r1⟩ := trodAll_cons r0
  obtain ⟨rfl, rfl, rfl⟩ := trodAll_nil r1
  obtain rfl : args = #[v0, v1] := by cases args; simp_all
  obtain ⟨rfl, rfl⟩ := trodVars_none hV
  obtain ⟨a0, len0, cap0, rfl⟩ := okWide_slice Try.underlying31 (hval 0 31 v0 rfl rfl)
  have k0 := h0
  have lt0 : ∀ x ∈ p0, x.block < W.heap.size := by obtain ⟨m, hm⟩ := k0; exact DataW.trod_lt m _ _ _ hm
  obtain ⟨a, c, bs0, hv, hby0, hsl0, hlc0, hcm0, hn0⟩ : ∃ a c bs, Value.slice a0 len0 cap0 = .slice a (List.length bs) c ∧ Bytes bs ∧ Sl (fun _ => True) W a bs ∧ bs.length ≤ c ∧ c ≤ maxLen ∧ (a = none → c = 0) := by
    obtain ⟨fuel, hf⟩ := h0
    exact open_sl Try.underlying31 Try.underlying5 (by kernel_rfl) hf
  simp only [Value.slice.injEq] at hv
  obtain ⟨rfl, rfl, rfl⟩ := hv
  obtain ⟨x1, rfl, rfl, rfl, wf1⟩ := open_int Try.underlying3 (hval 1 3 v1 rfl rfl) h1
  have hx1 := bounds_i64 wf1
  clear hA0 hval0
  refine (deviceLoads_walk x1 hx1 _ bs0 a0 cap0 W hsl0 hlc0 hcm0).mono fun e W' ⟨he, bel⟩ => ?_
  subst he
  exact ⟨_, rfl, _, _, _, [], _, [], hW', trodAll_mk1 (shut_bool Try.underlying4 _), (trodAll_cons_mk (Below.trod laidOut (by kernel_rfl) (of_decide_eq_true (by kernel_rfl)) k0 bel lt0) (trodAll_cons_mk (shut_int Try.underlying3 wf1) trodAll_mk0)), rfl, bel.frame _, fun h => by cases h⟩

/-- THE STATEMENT. -/
theorem proved : Rows.DeviceLoadsSaid :=
  OpenClaim.holds_of_wide 4 Try.f4 rfl rfl rfl rfl rfl rfl rfl ⟨rfl, rfl, rfl, rfl, rfl⟩ rfl rfl rfl rfl rfl (by kernel_rfl) Try.func4 (by kernel_rfl)
    (of_decide_eq_true (by kernel_rfl)) (by unfold Func.isWrapper; first | (rw [if_pos (by decide +kernel)]; kernel_rfl) | (rw [if_neg (by decide +kernel)]; exact ⟨rfl, rfl⟩))
    (fun os started H enc _ => lifted os started H enc)
end deviceLoads
end Go.Proofs.Ytgppmnaidgkboaa
