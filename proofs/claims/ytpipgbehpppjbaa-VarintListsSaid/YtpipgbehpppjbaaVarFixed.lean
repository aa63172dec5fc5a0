/- 'VarintFixed' RETURNS TRUE FOR EVERY NUMBER, EVERY SIZE AND ALL BYTES (nil too), and nothing that was there is turned. No condition. -/
import Derived.Test.YtpipgbehpppjbaaVarX
import Derived.Test.YtpipgbehpppjbaaVarPuts
namespace Go.Proofs.Ytpipgbehpppjbaa
open Go.RowKit Go.Inc

theorem wrap_bits (n : Int) : IntKind.u64.wrap n = ((bits64 n : Nat) : Int) := by
  unfold bits64
  rw [IntKind.wrap_u64]
  omega
theorem bits64_lt (n : Int) : bits64 n < 18446744073709551616 := by unfold bits64; omega
theorem num_drop {ts : List Nat} {j : Nat} (h : j < ts.length) : Var.num (ts.drop j) = ts.getD j 0 + 256 * Var.num (ts.drop (j + 1)) := by
  rw [List.drop_eq_getElem_cons h, Var.num, List.getD_eq_getElem?_getD, List.getElem?_eq_getElem h]
  rfl
theorem num_lt8 {ts : List Nat} (h : Bytes ts) (hl : ts.length ≤ 8) : Var.num ts < 18446744073709551616 := by
  have h1 := Var.num_lt ts h
  have h7 : 256 ^ ts.length ≤ 256 ^ 8 := Nat.pow_le_pow_right (by decide) hl
  omega

theorem bs_drop {w : World} {ok : Nat → Prop} {a : Option Addr} {c : Nat} {bs : List Nat} (h : Sl ok w a bs) (hc : bs.length ≤ c ∧ c ≤ maxLen) (hn : a = none → c = 0) (k : Nat) (hk : k ≤ bs.length) :
    Bs w (.slice (if c = k then a else a.map fun x => x.add k) (bs.length - k) (c - k)) (bs.drop k) := by
  refine ⟨_, c - k, by rw [List.length_drop], (h.behind k _ ?_).mono fun _ _ _ => trivial, by rw [List.length_drop]; omega, by unfold maxLen at *; omega, ?_⟩
  · intro h1
    rw [if_neg (by omega)]
  · intro h1
    by_cases h2 : c = k
    · omega
    · rw [if_neg h2] at h1
      have := hn (by simpa using h1)
      omega
set_option maxHeartbeats 8000000 in
set_option maxRecDepth 100000 in
/-- The law behind the first check: what is got of the bytes. -/
theorem fixed_walk (n sz : Int) (a2 : Option Addr) (c2 : Nat) (bs : List Nat) (w : World) (h0 : -9223372036854775808 ≤ n) (h1 : n ≤ 9223372036854775807) (hz0 : -9223372036854775808 ≤ sz) (hz1 : sz ≤ 9223372036854775807)
    (hs2 : Sl (fun _ => True) w a2 bs) (hby : Bytes bs) (hc2 : bs.length ≤ c2 ∧ c2 ≤ maxLen) (hn2 : a2 = none → c2 = 0) :
    Calls Try.prog 6 #[.int .i64 n, .int .i64 sz, .slice a2 bs.length c2] w fun e w' => e = .returned (.bool true) ∧ Below w.heap.size w w' := by
  obtain ⟨bh, hbh⟩ : ∃ bh, bh = bs.take 20 := ⟨_, rfl⟩
  have hbl : bh.length = min bs.length 20 := by rw [hbh, List.length_take, Nat.min_comm]
  have HSB : Hid (Sl (fun _ => True) w a2 bh) := hid (by rw [hbh]; exact hs2.front 20)
  have HBB : Hid (Bytes bh) := hid (by rw [hbh]; exact hby.take 20)
  clear hbh hs2 hby
  have HN2 := hid hn2
  have HC2 : Hid (bh.length ≤ c2 ∧ c2 ≤ maxLen) := hid ⟨by omega, hc2.2⟩
  have hmin : min (bs.length : Int) 20 = (bh.length : Int) := by omega
  have hb20 : (bh.length : Int) ≤ 20 := by omega
  have hbc : (bh.length : Int) ≤ c2 := by omega
  have hcm : (c2 : Int) ≤ 9223372036854775807 := by unfold maxLen at hc2; omega
  clear hn2 hc2 hbl
  generalize bs.length = L at *
  by_cases hbad : sz < 0 ∨ 8 < sz
  · have H1 := hid (fixed_bad n sz w hbad)
    have H2 := hid (getFixed_bad (.slice a2 bh.length c2) sz w (by omega))
    have HK := hid (known_any w)
    rcases (show sz < 0 ∨ (0 ≤ sz ∧ 8 < sz) by omega) with h | ⟨h, h'⟩
    all_goals
      try have hs1 : sz < 1 := by omega
      try have hs2 : 1 ≤ sz := by omega
      clear hbad
      go_enter Try.func6, Try.ntmps6
      go_wp2_with fail
      refine H1.out.mono ?_
      rintro e w' ⟨rfl, rfl⟩
      go_wp2_with fail
      refine H2.out.mono ?_
      rintro e w' ⟨rfl, rfl⟩
      go_wp2_with fail
      refine HK.out.mono ?_
      rintro e w1 ⟨rfl, hb⟩
      have HB := hid hb
      clear hb
      go_wp2_with fail
      go_ret
      exact ⟨rfl, HB.out⟩
  · obtain ⟨s, rfl⟩ := Int.eq_ofNat_of_zero_le (show 0 ≤ sz by omega)
    have hs8 : (s : Int) ≤ 8 := by omega
    have q0 : decide ((s : Int) < 0) = false := decide_eq_false (by omega)
    have q8 : decide ((8 : Int) < s) = false := decide_eq_false (by omega)
    have H1 := hid (fixed_good n s w h0 h1 hs8)
    have hwr := wrap_bits n
    have hu := bits64_lt n
    clear hbad hz0 hz1 h0 h1
    generalize bits64 n = u at *
    have hui : (u : Int) < 18446744073709551616 := by omega
    clear hu
    go_enter Try.func6, Try.ntmps6
    go_wp2_with fail
    refine H1.out.mono ?_
    rintro e w1 ⟨v, rfl, hr, hb⟩
    have hb1 := hr
    obtain ⟨a, c, rfl, hn, hc, hm, hs⟩ := hr.sl
    rw [fxTo_len] at hc
    rw [fxTo_len]
    have HS := hid hs
    have HB1 := hid hb
    clear hb1 hr hs hb hn H1
    have hci : (s : Int) ≤ c := by omega
    clear hc hm
    go_wp2_with fail
    clear hwr
    go_loop [9, 10] (fun k i => ∃ j : Nat, j ≤ s ∧ i = .int .i64 (j : Int) ∧ k = .int .u64 ((u / 256 ^ j : Nat) : Int)) (fun _ i => s - (intOf i).toNat)
    case atStart => exact ⟨0, Nat.zero_le _, rfl, by simp⟩
    case round =>
      obtain ⟨j, hj, rfl, rfl⟩ := hrel
      have hq : u / 256 ^ j ≤ u := Nat.div_le_self _ _
      have hnx : Hid (u / 256 ^ j / 256 = u / 256 ^ (j + 1)) := hid (by rw [Nat.div_div_eq_div_mul, Nat.pow_succ])
      have hgt : Hid (j < s → (fxTo u s s).getD j 0 = u / 256 ^ j % 256) := hid (fxTo_get u s j)
      by_cases hlt : j < s
      · have hcell : ∃ b off, Hid (a = some ⟨b, off, none⟩) ∧ w1.cell? ⟨b, off + j, none⟩ = some (.int .u8 ((u / 256 ^ j % 256 : Nat) : Int)) := by
          rcases HS.out with h | ⟨b, off, h, _, hc⟩
          · have := fxTo_len u s s; rw [h] at this; simp at this; omega
          · have := hc j (by rw [fxTo_len]; exact hlt)
            rw [hgt.out hlt] at this
            exact ⟨b, off, hid h, this⟩
        obtain ⟨b, off, ha, hcell⟩ := hcell
        have ha2 := ha.out
        subst ha2
        have hjs : (j < s) = True := eq_true hlt
        have hji : (j : Int) < s := by omega
        have hqi : ((u / 256 ^ j : Nat) : Int) < 18446744073709551616 := by omega
        clear hq hgt hj hlt
        generalize u / 256 ^ j = q at *
        go_wp2_with fail
        go_round
        case rel => exact ⟨j + 1, by omega, by go_num, by rw [← hnx.out]; rfl⟩
        case measure => simp [intOf]; omega
      · have hjs : (j < s) = False := eq_false hlt
        clear hq hgt hj hlt hnx
        by_cases hs0 : s = 0
        · have H2 := hid (getFixed_bad (.slice a2 bh.length c2) (s : Int) w1 (by omega))
          have hq : decide ((s : Int) < 1) = true := decide_eq_true (by omega)
          clear hs0
          have HK := hid (known_any w1)
          go_wp2_with fail
          refine H2.out.mono ?_
          rintro e w' ⟨rfl, rfl⟩
          go_wp2_with fail
          refine HK.out.mono ?_
          rintro e w2 ⟨rfl, hb⟩
          have HB := hid (HB1.out.trans (hb.mono HB1.out.size))
          clear hb
          go_wp2_with fail
          go_ret
          exact ⟨rfl, HB.out⟩
        · have hs1 : (1 : Int) ≤ s := by omega
          have hq : decide ((s : Int) < 1) = false := decide_eq_false (by omega)
          have H2 := hid (getFixed_good _ a2 c2 s bh w1 (HSB.out.below HB1.out) HC2.out HN2.out HBB.out (by omega) hs1 hs8)
          clear hs0
          go_wp2_with fail
          refine H2.out.mono ?_
          rintro e w2 ⟨⟨v, rfl, hv⟩, hb2⟩
          have HV := hid (held hv)
          have HB2 := hid (HB1.out.trans (hb2.mono HB1.out.size))
          have HK := hid (known_any w2)
          clear hv hb2 H2
          by_cases hsh : bh.length < s
          · have hE : fixErr s bh = 4 := by unfold fixErr; rw [if_pos hsh]
            have hV : fixVal s bh = 0 := by unfold fixVal; rw [hE]; rfl
            rw [hE, hV]
            have hsh2 : (bh.length < s) = True := eq_true hsh
            have hsh3 : ((bh.length : Int) < s) = True := eq_true (by omega)
            clear hE hV hsh
            go_wp2_with fail
            refine HK.out.mono ?_
            rintro e w3 ⟨rfl, hb⟩
            have HB := hid (HB2.out.trans (hb.mono HB2.out.size))
            clear hb
            go_wp2_with fail
            go_ret
            exact ⟨rfl, HB.out⟩
          · have hsh2 : (bh.length < s) = False := eq_false hsh
            have hsh3 : ((bh.length : Int) < s) = False := eq_false (by omega)
            have hsb : (s : Int) ≤ bh.length := by omega
            have hE : fixErr s bh = if 9223372036854775807 < Var.num (bh.take s) then 3 else 0 := by unfold fixErr; rw [if_neg hsh]
            have HE := hid hE
            have HFV : Hid (fixVal s bh = if fixErr s bh = 0 then Var.num (bh.take s) else 0) := hid rfl
            have HFR : Hid (fixRest s bh = if fixErr s bh = 0 then bh.drop s else []) := hid rfl
            have htl : (bh.take s).length = s := by rw [List.length_take]; omega
            have HTL := hid htl
            have HTB : Hid (Bytes (bh.take s)) := hid (HBB.out.take s)
            have HTS : Hid (Sl (fun _ => True) w2 a2 (bh.take s)) := hid ((HSB.out.below HB2.out).front s)
            clear hE htl hsh
            generalize fixErr s bh = fe at *
            generalize fixVal s bh = fv at *
            generalize hts : bh.take s = ts at *
            clear hts
            go_wp2_with fail
            go_loop [8, 14] (fun t i => ∃ j : Nat, j ≤ s ∧ i = .int .i64 ((j : Int) - 1) ∧ t = .int .u64 (Var.num (ts.drop j) : Nat)) (fun _ i => (intOf i + 1).toNat)
            case atStart => exact ⟨s, Nat.le_refl _, rfl, by rw [List.drop_eq_nil_of_le (by have := HTL.out; omega)]; rfl⟩
            case round =>
              obtain ⟨j, hj, rfl, rfl⟩ := hrel
              by_cases hj0 : j = 0
              · subst hj0
                have hnl := num_lt8 HTB.out (by have := HTL.out; omega)
                rw [List.drop_zero]
                have hni : ((Var.num ts : Nat) : Int) < 18446744073709551616 := by omega
                clear hnl
                generalize Var.num ts = t at *
                by_cases hbig : 9223372036854775807 < t
                · have hfe : fe = 3 := by rw [HE.out, if_pos hbig]
                  have hfv : fv = 0 := by rw [HFV.out, hfe]; rfl
                  have ht : ((9223372036854775807 : Int) < t) = True := eq_true (by omega)
                  subst hfe hfv
                  clear hbig
                  go_wp2_with fail
                  refine HK.out.mono ?_
                  rintro e w3 ⟨rfl, hb⟩
                  have HB := hid (HB2.out.trans (hb.mono HB2.out.size))
                  clear hb
                  go_wp2_with fail
                  go_ret
                  exact ⟨rfl, HB.out⟩
                · have hfe : fe = 0 := by rw [HE.out, if_neg hbig]
                  have hfv : fv = t := by rw [HFV.out, hfe]; rfl
                  have hfr : fixRest s bh = bh.drop s := by rw [HFR.out, hfe]; rfl
                  have ht : ((9223372036854775807 : Int) < t) = False := eq_false (by omega)
                  subst hfe hfv
                  rw [hfr] at HV
                  clear hbig
                  go_wp2_with fail
                  refine HK.out.mono ?_
                  rintro e w3 ⟨rfl, hb⟩
                  have HB := hid (HB2.out.trans (hb.mono HB2.out.size))
                  have HV3 := hid (HV.out.below hb)
                  have hsbN : s ≤ bh.length := by omega
                  have hbcN : bh.length ≤ c2 := HC2.out.1
                  have h9 := same_v v _ _ _ w3 HV3.out (bs_drop (HSB.out.below HB.out) HC2.out HN2.out s hsbN) rfl
                  clear hb hfr
                  by_cases hcs : c2 = s
                  · rw [if_pos hcs] at h9
                    have H9 := hid h9
                    have hcs2 : (c2 = s) = True := eq_true hcs
                    clear hcs h9
                    go_wp2_with fail
                    refine H9.out.mono ?_
                    rintro e w4 ⟨rfl, hb4⟩
                    have HB4 := hid (HB.out.trans (hb4.mono HB.out.size))
                    clear hb4
                    go_wp2_with fail
                    go_ret
                    exact ⟨rfl, HB4.out⟩
                  · rw [if_neg hcs] at h9
                    have H9 := hid h9
                    have hcs2 : (c2 = s) = False := eq_false hcs
                    clear hcs h9
                    go_wp2_with fail
                    refine H9.out.mono ?_
                    rintro e w4 ⟨rfl, hb4⟩
                    have HB4 := hid (HB.out.trans (hb4.mono HB.out.size))
                    clear hb4
                    go_wp2_with fail
                    go_ret
                    exact ⟨rfl, HB4.out⟩
              · obtain ⟨j', rfl⟩ : ∃ j', j = j' + 1 := ⟨j - 1, by omega⟩
                rw [show ((j' + 1 : Nat) : Int) - 1 = (j' : Int) from by omega]
                have hcell : ∃ b off, Hid (a2 = some ⟨b, off, none⟩) ∧ w2.cell? ⟨b, off + j', none⟩ = some (.int .u8 ((ts.getD j' 0 : Nat) : Int)) := by
                  rcases HTS.out with h | ⟨b, off, h, _, hc⟩
                  · have := HTL.out; rw [h] at this; simp at this; omega
                  · exact ⟨b, off, hid h, hc j' (by have := HTL.out; omega)⟩
                obtain ⟨b, off, ha, hcell⟩ := hcell
                have ha2 := ha.out
                subst ha2
                have hnd := hid (num_drop (ts := ts) (j := j') (by have := HTL.out; omega))
                have hlt8 := num_lt8 (ts := ts.drop j') (HTB.out.drop j') (by have := HTL.out; rw [List.length_drop]; omega)
                have hcb := Bytes.getD HTB.out j'
                have hsum : ((256 : Int) * (Var.num (ts.drop (j' + 1)) : Nat) + (ts.getD j' 0 : Nat)) < 18446744073709551616 := by
                  have := hnd.out
                  omega
                have hcb2 : ((ts.getD j' 0 : Nat) : Int) < 256 := by omega
                have hjb : (j' : Int) < bh.length := by omega
                clear hlt8 hcb hj0
                generalize ts.getD j' 0 = x at *
                generalize Var.num (ts.drop (j' + 1)) = t at *
                go_wp2_with fail
                go_round
                case rel => exact ⟨j', by omega, rfl, by rw [hnd.out, Int.natCast_add, Int.natCast_mul, Int.add_comm]; rfl⟩
                case measure => simp [intOf]
namespace varintFixed
open Go.ChangeShapes Go.WideShapes Go.ChangeAt

theorem own : ownKnob Try.prog.godebug = none := by kernel_rfl
theorem laidOut : laidOutB Try.prog = true := by kernel_rfl

set_option maxRecDepth 100000 in
theorem lifted (os : Os) (started : os.Started) (H : Type) (enc : TypeId × Value → H) :
    ReturnsInHanded {} Try.checked os 6 .any (Rows.varintFixedSpec.pre6 enc Try.prog Try.f6 Rows.varintFixedRow.domain false) (Rows.varintFixedSpec.post enc Try.prog Try.f6 false true false false) := by
  refine returnsInHanded_of_change (C := Try.checked) own started (by kernel_rfl) Try.func6
    (ChangeSpec.witness6 (enc := enc) (C := Try.checked) false ⟨#[], #[.int .i64 0, .int .i64 0, .slice none 0 0], []⟩ 8 (by kernel_rfl) (by kernel_rfl) (by kernel_rfl) (by kernel_rfl)) ?_
  intro W base args ds gs before hval0 hW hcnd _
  have hval : ∀ (j : Nat) t v, Try.f6.params[j]? = some t → args[j]? = some v → Value.okWide Try.prog W .any base t v := hval0
  have hW' := hW
  obtain ⟨p, q, hA0, hV, rfl, hfz, hnd⟩ := hW
  have hA : DataW.TrodAll enc Try.prog W 0 (fun _ => true) true Try.f6.params.toList args.toList ds p := hA0
  rw [Try.params6] at hA hval
  obtain ⟨v0, vs0, d0, ds0, p0, q0, hargs, rfl, rfl, h0, r0⟩ := trodAll_cons hA
  obtain ⟨v1, vs1, d1, ds1, p1, q1, rfl, rfl, rfl, h1, r1⟩ := trodAll_cons r0
  obtain ⟨v2, vs2, d2, ds2, p2, q2, rfl, rfl, rfl, h2, r2⟩ := trodAll_cons r1
  obtain ⟨rfl, rfl, rfl⟩ := trodAll_nil r2
  obtain rfl : args = #[v0, v1, v2] := by cases args; simp_all
  obtain ⟨rfl, rfl⟩ := trodVars_none hV
  obtain ⟨x0, rfl, rfl, rfl, wf0⟩ := open_int Try.underlying3 (hval 0 3 v0 rfl rfl) h0
  have hx0 := bounds_i64 wf0
  obtain ⟨x1, rfl, rfl, rfl, wf1⟩ := open_int Try.underlying3 (hval 1 3 v1 rfl rfl) h1
  have hx1 := bounds_i64 wf1
  obtain ⟨a2, len2, cap2, rfl⟩ := okWide_slice Try.underlying23 (hval 2 23 v2 rfl rfl)
  have k2 := h2
  have lt2 : ∀ x ∈ p2, x.block < W.heap.size := by obtain ⟨m, hm⟩ := k2; exact DataW.trod_lt m _ _ _ hm
  obtain ⟨a, c, bs2, hv, hby2, hsl2, hlc2, hcm2, hn2⟩ : ∃ a c bs, Value.slice a2 len2 cap2 = .slice a (List.length bs) c ∧ Bytes bs ∧ Sl (fun _ => True) W a bs ∧ bs.length ≤ c ∧ c ≤ maxLen ∧ (a = none → c = 0) := by
    obtain ⟨fuel, hf⟩ := h2
    exact open_sl Try.underlying23 Try.underlying5 (by kernel_rfl) hf
  simp only [Value.slice.injEq] at hv
  obtain ⟨rfl, rfl, rfl⟩ := hv
  clear hA0 hval0
  refine (fixed_walk x0 x1 a2 cap2 bs2 W hx0.1 hx0.2 hx1.1 hx1.2 hsl2 hby2 ⟨hlc2, hcm2⟩ hn2).mono fun e W' ⟨he, bel⟩ => ?_
  subst he
  exact ⟨_, rfl, _, _, _, [], _, [], hW', trodAll_mk1 (shut_bool Try.underlying4 _), (trodAll_cons_mk (shut_int Try.underlying3 wf0) (trodAll_cons_mk (shut_int Try.underlying3 wf1) (trodAll_cons_mk (Below.trod laidOut (by kernel_rfl) (of_decide_eq_true (by kernel_rfl)) k2 bel lt2) trodAll_mk0))), rfl, bel.frame _, fun h => by cases h⟩

/-- THE STATEMENT. -/
theorem proved : Rows.VarintFixedSaid :=
  OpenClaim.holds_of_wide 6 Try.f6 rfl rfl rfl rfl rfl rfl rfl ⟨rfl, rfl, rfl, rfl, rfl⟩ rfl rfl rfl rfl rfl (by kernel_rfl) Try.func6 (by kernel_rfl)
    (of_decide_eq_true (by kernel_rfl)) (by unfold Func.isWrapper; first | (rw [if_pos (by decide +kernel)]; kernel_rfl) | (rw [if_neg (by decide +kernel)]; exact ⟨rfl, rfl⟩))
    (fun os started H enc _ => lifted os started H enc)
end varintFixed
end Go.Proofs.Ytpipgbehpppjbaa
