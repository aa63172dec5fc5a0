/- 'CrcRegister' RETURNS TRUE FOR EVERY LIST OF LISTS OF BYTES: behind each part a register tells the sum, and how many bytes there were; a nil one nil, the sum of nothing, 0. No condition. -/
import Derived.Test.YtpciknbcnpnbcaaCrcF
import Derived.Test.YtpciknbcnpnbcaaOpen
import Derived.Deep.RegionHeld3
namespace Go.Proofs.Ytpciknbcnpnbcaa
open Go.RowKit Go.Inc

theorem xor_twice (n : Nat) : n ^^^ 4294967295 ^^^ 4294967295 = n := by rw [Nat.xor_assoc, Nat.xor_self, Nat.xor_zero]
theorem told_sum (pre p : List Nat) : told (Crc.sum pre) [p] = Crc.sum (pre ++ p) := by
  unfold told Crc.sum
  rw [xor_twice, Crc.run_append]
  simp
theorem tot_one (p : List Nat) : tot [p] = p.length := by simp [tot]
theorem flatTo_front (cs : List (List Nat)) (k : Nat) : cs.flatten.take (flatTo cs k).length = flatTo cs k := by
  unfold flatTo
  conv => lhs; rw [show cs.flatten = (cs.take k).flatten ++ (cs.drop k).flatten by rw [← List.flatten_append, List.take_append_drop]]
  rw [List.take_left]
/-- A pointer is itself. -/
theorem neq_self {P : Program} (w : World) (t e s : TypeId) (a : Addr) (ht : P.underlying t = some (.pointer e)) (hs : (P.info? e).map (·.size) = some s) :
    (binOp .neq t (.pointer (some a)) (.pointer (some a))).run P w = .ok (.bool false) w := by
  obtain ⟨i, hi, _⟩ := Option.map_eq_some_iff.1 hs
  have he : ∀ d, (Op.equalIn (d + 1) t (.pointer (some a)) (.pointer (some a))).run P w = .ok true w := by
    intro d
    simp [Op.equalIn, run_underlying ht, sizeOf, typeInfo, hi, sameAddr]
  simp only [binOp]
  simp [Op.equal, Op.maxDepth, he 9999]
/-- What a round's region reads. -/
theorem Round_of {wr w' : World} {b o rb : Nat} {v : Value} (hc : wr.cell? ⟨b, o, none⟩ = some v) (hb : b ≠ rb) (hg : wr.grownBy w' (some rb)) : wr.grownBy w' (some rb) ∧ w'.cell? ⟨b, o, none⟩ = some v :=
  ⟨hg, (World.cell?_of_block (hg.block b (cell_lt hc) (by intro e; cases e; exact hb rfl))).trans hc⟩

set_option maxHeartbeats 2000000 in
theorem crcRegister_walk (ok : Nat → Prop) (a : Option Addr) (cap : Nat) (ps : List (List Nat)) (w : World) (hp : Pt ok w a ps) (hl : ps.length ≤ 9223372036854775807) :
    Calls Try.prog 4 #[.slice a ps.length cap] w fun e w' => e = .returned (.bool true) ∧ Below w.heap.size w w' := by
  have H0 := hid (few_any ok a cap ps w hp hl)
  have hct := cutParts_len ps
  have hcb := hid (cutParts_bytes hp.1)
  have hl12 : (cutParts ps).length ≤ 12 := by simp [cutParts]; omega
  generalize cutParts ps = cs at *
  clear hp
  go_enter Try.func4, Try.ntmps4
  go_wp2_with fail
  refine H0.out.mono ?_
  rintro e w1 ⟨a4, c4, a5, c5, rfl, hp4, hs5, hb1, hc4, hc4', hc5, hc5'⟩
  have hp4' : Pt (fun b => b < w1.heap.size) w1 a4 cs := hp4.mono fun _ _ h => h
  have hs5' : Sl (fun b => b < w1.heap.size) w1 a5 cs.flatten := hs5.mono fun _ _ h => h
  have HP4 := hid hp4'
  have HS5 := hid hs5'
  have hbA := hid (flat_bytes hcb.out)
  have HB1 := hid hb1
  clear H0 hp4 hs5 hp4' hs5' hb1
  have hlA : Hid (cs.flatten.length ≤ 1200) := hid hct
  obtain ⟨all, hall⟩ : ∃ all, all = cs.flatten := ⟨_, rfl⟩
  rw [← hall] at HS5 hbA hc5 hlA hct ⊢
  have HAL := hid hall
  clear hall
  go_wp2_with (refine wpList_alloc_own rfl 34 rfl _ reg_zero ?_)
  intro w2 hrow hb2
  have hr : Reg w2 w1.heap.size 0 0 := hrow
  have HR2 := hid hr
  have HB2 := hid (HB1.out.trans (hb2.mono HB1.out.size))
  have HP2 := hid (HP4.out.below hb2)
  have HS2 := hid (HS5.out.below hb2)
  have hrb : Hid (w.heap.size ≤ w1.heap.size) := hid HB1.out.size
  clear hrow hb2 hr HP4 HS5 HB1
  generalize w1.heap.size = rb at *
  have HPx := HP2.out.2
  rcases HPx with h0 | ⟨xb, xo, A, C, rfl, hxb, hpp⟩
  · subst h0
    have hA0 : Hid (all = []) := hid (by rw [HAL.out]; rfl)
    go_wp2_with fail
    go_loop [7] (fun i => i = .int .i64 0) (fun _ => 0)
    case atStart => rfl
    case round =>
      subst hrel
      have HRG : Hid (Reg w2 rb (Crc.sum all) 0) := hid (by rw [hA0.out]; exact HR2.out)
      have HALL := HS2
      have B0 := HB2
      obtain ⟨wr, hwr⟩ : ∃ wr, wr = w2 := ⟨_, rfl⟩
      rw [← hwr] at HRG HALL B0 ⊢
      clear hwr
      have HKN := hid (known_any wr)
      go_wp2_with fail
      refine HKN.out.mono ?_
      clear HKN
      rintro e w5 ⟨rfl, hb5⟩
      have B5 := hid (B0.out.trans (hb5.mono B0.out.size))
      have HR5 := HRG.out.below hb5
      have HA5 := HALL.out.below hb5
      have HR5h := hid HR5
      have H1 := hid (rsum_some rb _ _ w5 HR5)
      have H2 := hid (refSum_any _ a5 c5 all w5 HA5 hbA.out (by have := hlA.out; omega))
      have HA5 := hid HA5
      clear hb5 HR5 HRG HALL B0
      go_wp2_with fail
      refine H1.out.mono ?_
      rintro e w6 ⟨rfl, rfl⟩
      go_wp2_with fail
      refine H2.out.mono ?_
      rintro e w6 ⟨rfl, rfl⟩
      have B6 := hid (B5.out.alloc B5.out.size (.cells #[.slice a5 all.length c5] 23))
      clear H1 H2
      go_wp2_with fail
      refine (add_nil _ _).mono ?_
      rintro e w6 ⟨rfl, rfl⟩
      have H3 := hid (rsum_nil (w5.alloc (.cells #[.slice a5 all.length c5] 23)))
      go_wp2_with fail
      refine H3.out.mono ?_
      rintro e w7 ⟨rfl, hb7⟩
      have B7 := hid (B6.out.trans (hb7.mono B6.out.size))
      clear H3 hb7
      go_wp2_with fail
      refine (len_nil _).mono ?_
      rintro e w8 ⟨rfl, rfl⟩
      go_wp2_with fail
      go_ret
      exact ⟨rfl, B7.out⟩
  · have HPP := hid hpp
    have hxr : xb ≠ rb := by omega
    clear hpp
    go_wp2_with fail
    go_loopw [6, 7] (fun n i wr => ∃ k : Nat, k ≤ cs.length ∧ i = .int .i64 k ∧ n = .int .i64 (flatTo cs k).length ∧ Reg wr rb (Crc.sum (flatTo cs k)) (flatTo cs k).length ∧ w2.grownBy wr (some rb)) (fun _ i _ => cs.length - (intOf i).toNat)
    case atStart => exact ⟨0, Nat.zero_le _, rfl, rfl, by rw [show Crc.sum (flatTo cs 0) = 0 from by show Crc.sum [] = 0; decide +kernel]; exact HR2.out, grown_refl _ _⟩
    case round =>
      obtain ⟨k, hk, rfl, rfl, hreg, hgr⟩ := hrel
      by_cases hlt : (k : Int) < cs.length
      · have hcell0 := HPP.out.cell k (by omega)
        have hcell : wr.cell? ⟨xb, xo + k, none⟩ = some (.slice (A k) (cs.getD k []).length (C k)) := by
          rw [← hcell0]; exact World.cell?_of_block (hgr.block xb (cell_lt hcell0) (by intro e; cases e; exact hxr rfl))
        have HSp := hid ((HPP.out.sl k (by omega)).grown hgr (fun b hb => by omega))
        have hcap := hid (HPP.out.cap k (by omega))
        have hbp : Hid (Bytes (cs.getD k [])) := hid (by
          rw [List.getD_eq_getElem?_getD, List.getElem?_eq_getElem (by omega)]
          exact hcb.out _ (List.getElem_mem _))
        have hfs := hid (flatTo_succ (ps := cs) (k := k) (by omega))
        have hpre := hid (flatTo_front cs (k + 1))
        have hle : Hid ((flatTo cs (k + 1)).length ≤ 1200) := hid (by
          have h := flatTo_le cs (k + 1)
          have h2 := hlA.out
          rw [HAL.out] at h2
          exact Nat.le_trans h h2)
        have hfb : Hid (Bytes (flatTo cs (k + 1))) := hid (by
          rw [← hpre.out, ← HAL.out]
          exact hbA.out.take _)
        have HAr := hid ((HS2.out.grown hgr (fun b hb => by omega)))
        rw [← HAL.out] at hpre
        have hall : Hid ((flatTo cs (k + 1)).length ≤ all.length) := hid (by
          have h := congrArg List.length hpre.out
          rw [List.length_take] at h
          omega)
        have hNl : Hid ((flatTo cs (k + 1)).length = (flatTo cs k).length + (cs.getD k []).length) := hid (by rw [hfs.out, List.length_append])
        have hTS : Hid (told (Crc.sum (flatTo cs k)) [cs.getD k []] = Crc.sum (flatTo cs (k + 1))) := hid (by rw [told_sum, hfs.out])
        have hsumlt := Crc.sum_lt (flatTo cs k) (by have h := hfb.out; rw [hfs.out] at h; exact fun x hx => h x (List.mem_append_left _ hx))
        generalize hS0 : Crc.sum (flatTo cs k) = s0 at *
        generalize hS1 : Crc.sum (flatTo cs (k + 1)) = s1 at *
        have HS1 := hid hS1
        have HREG := hid hreg
        clear hfs hS0 hS1 hreg
        generalize (flatTo cs k).length = n at *
        generalize hn1 : (flatTo cs (k + 1)).length = n1 at *
        have HN1 := hid hn1
        clear hn1
        generalize cs.getD k [] = p at *
        generalize A k = ak at *
        generalize C k = ck at *
        have hn0 : (n : Int) ≤ 1200 ∧ (p.length : Int) ≤ 1200 ∧ (n : Int) + p.length ≤ all.length ∧ (all.length : Int) ≤ c5 := by
          have h1 := hNl.out
          have h2 := hle.out
          have h3 := hall.out
          omega
        obtain ⟨hn01, hn02, hn03, hn04⟩ := hn0
        have hnz : (0 : Int) ≤ (n : Int) + p.length := by omega
        have hnc : (n : Int) + p.length ≤ c5 := by omega
        have hREGd : Reg (wr.alloc (.cells #[.slice ak p.length ck] 23)).drew rb s0 n := HREG.out.below (((Below.refl _ _).alloc (Nat.le_refl _) _).drew)
        have hPtd : Pt (fun b => b ≠ rb) (wr.alloc (.cells #[.slice ak p.length ck] 23)).drew (some ⟨wr.heap.size, 0, none⟩) [p] :=
          ((Pt.one HSp.out hbp.out ck hcap.out 23).below ((Below.refl _ _).drew)).mono (fun b hb _ => by have := HREG.out.lt; rcases hb with hb | hb <;> omega)
        have H11 := add_some _ rb 1 s0 n _ [p] _ hREGd hsumlt hPtd (fun b hb => hb) (by rw [tot_one]; omega) (by simp)
        rw [hTS.out, tot_one] at H11
        have H11 := hid H11
        have H10 : Hid (∀ wx, wr.grownBy wx (some rb) → Calls Try.prog 10 #[.slice a5 (n + p.length) c5] wx fun e w' => e = .returned (.int .u32 (s1 : Nat)) ∧ wx = w') := hid (by
          intro wx hx
          have h := refSum_any _ a5 c5 (all.take n1) wx ((HAr.out.front n1).grown hx (fun b hb => by omega)) (hbA.out.take n1) (by have := hlA.out; rw [List.length_take]; omega)
          rw [hpre.out, HS1.out, HN1.out, hNl.out] at h
          exact h)
        clear hREGd hPtd
        have hneq := fun w => neq_self (P := Try.prog) w 35 34 2 ⟨rb, 0, none⟩ Try.underlying35 (by kernel_rfl)
        go_wp2_with fail
        go_region_held3 (fun w' => wr.grownBy w' (some rb) ∧ w'.cell? ⟨xb, xo + k, none⟩ = some (.slice ak p.length ck))
          (exact Round_of hcell hxr (by repeat (first | exact grown_refl _ _ | assumption | apply grown_drew | refine grown_alloc ?_ _)))
          (first | (go_at_call 11; refine H11.out.mono ?_; rintro e w5 ⟨rfl, hr5, hg5⟩; have hg6 : wr.grownBy w5 (some rb) := grown_trans (by repeat (first | exact grown_refl _ _ | apply grown_drew | refine grown_alloc ?_ _)) hg5; clear hg5) | (go_at_call 12; refine (rsum_some rb _ _ _ hr5).mono ?_; rintro e w6 ⟨rfl, rfl⟩) | (go_at_call 10; refine (H10.out _ (by assumption)).mono ?_; rintro e w6 ⟨rfl, rfl⟩) | (go_at_call 13; refine (len_some rb _ _ _ hr5).mono ?_; rintro e w6 ⟨rfl, rfl⟩))
        all_goals
          go_wp2_with fail
          go_roundw
          case rel => exact ⟨k + 1, by omega, by go_num, by rw [HN1.out, hNl.out]; rfl, by rw [HS1.out, HN1.out, hNl.out]; exact hr5, grown_trans hgr hg6⟩
          case measure => simp [intOf]; omega
      · have hge : (cs.length : Int) ≤ k := by omega
        have hfa : Hid (flatTo cs k = all) := hid (by
          have : k = cs.length := by omega
          rw [this, flatTo_all, HAL.out])
        clear hlt
        have HRG : Hid (Reg wr rb (Crc.sum all) (flatTo cs k).length) := hid (by rw [← hfa.out]; exact hreg)
        have HALL := hid (HS2.out.grown hgr (fun b hb => by omega))
        have B0 := hid (below_grown HB2.out hgr hrb.out HB2.out.size)
        have HKN := hid (known_any wr)
        go_wp2_with fail
        refine HKN.out.mono ?_
        clear HKN
        rintro e w5 ⟨rfl, hb5⟩
        have B5 := hid (B0.out.trans (hb5.mono B0.out.size))
        have HR5 := HRG.out.below hb5
        have HA5 := HALL.out.below hb5
        have HR5h := hid HR5
        have H1 := hid (rsum_some rb _ _ w5 HR5)
        have H2 := hid (refSum_any _ a5 c5 all w5 HA5 hbA.out (by have := hlA.out; omega))
        have HA5 := hid HA5
        clear hb5 HR5 HRG HALL B0
        go_wp2_with fail
        refine H1.out.mono ?_
        rintro e w6 ⟨rfl, rfl⟩
        go_wp2_with fail
        refine H2.out.mono ?_
        rintro e w6 ⟨rfl, rfl⟩
        have B6 := hid (B5.out.alloc B5.out.size (.cells #[.slice a5 all.length c5] 23))
        clear H1 H2
        go_wp2_with fail
        refine (add_nil _ _).mono ?_
        rintro e w6 ⟨rfl, rfl⟩
        have H3 := hid (rsum_nil (w5.alloc (.cells #[.slice a5 all.length c5] 23)))
        go_wp2_with fail
        refine H3.out.mono ?_
        rintro e w7 ⟨rfl, hb7⟩
        have B7 := hid (B6.out.trans (hb7.mono B6.out.size))
        clear H3 hb7
        go_wp2_with fail
        refine (len_nil _).mono ?_
        rintro e w8 ⟨rfl, rfl⟩
        go_wp2_with fail
        go_ret
        exact ⟨rfl, B7.out⟩
namespace crcRegister
open Go.ChangeShapes Go.WideShapes Go.ChangeAt

theorem own : ownKnob Try.prog.godebug = none := by kernel_rfl
theorem laidOut : laidOutB Try.prog = true := by kernel_rfl

set_option maxRecDepth 100000 in
theorem lifted (os : Os) (started : os.Started) (H : Type) (enc : TypeId × Value → H) :
    ReturnsInHanded {} Try.checked os 4 .any (Rows.crcRegisterSpec.pre6 enc Try.prog Try.f4 Rows.crcRegisterRow.domain false) (Rows.crcRegisterSpec.post enc Try.prog Try.f4 false true false false) := by
  refine returnsInHanded_of_change (C := Try.checked) own started (by kernel_rfl) Try.func4
    (ChangeSpec.witness6 (enc := enc) (C := Try.checked) false ⟨#[], #[.slice none 0 0], []⟩ 8 (by kernel_rfl) (by kernel_rfl) (by kernel_rfl) (by kernel_rfl)) ?_
  intro W base args ds gs before hval0 hW hcnd _
  have hval : ∀ (j : Nat) t v, Try.f4.params[j]? = some t → args[j]? = some v → Value.okWide Try.prog W .any base t v := hval0
  have hW' := hW
  obtain ⟨p, q, hA0, hV, rfl, hfz, hnd⟩ := hW
  have hA : DataW.TrodAll enc Try.prog W 0 (fun _ => true) true Try.f4.params.toList args.toList ds p := hA0
  rw [Try.params4] at hA hval
  obtain ⟨v0, vs0, d0, ds0, p0, q0, hargs, rfl, rfl, h0, r0⟩ := trodAll_cons hA
  obtain ⟨rfl, rfl, rfl⟩ := trodAll_nil r0
  obtain rfl : args = #[v0] := by cases args; simp_all
  obtain ⟨rfl, rfl⟩ := trodVars_none hV
  obtain ⟨a0, len0, cap0, rfl⟩ := okWide_slice Try.underlying22 (hval 0 22 v0 rfl rfl)
  have k0 := h0
  have lt0 : ∀ x ∈ p0, x.block < W.heap.size := by obtain ⟨m, hm⟩ := k0; exact DataW.trod_lt m _ _ _ hm
  obtain ⟨a, c, ps, hv, hpt, hl⟩ : ∃ a c ps, Value.slice a0 len0 cap0 = .slice a (List.length ps) c ∧ Pt (fun _ => True) W a ps ∧ ps.length ≤ maxLen := by
    obtain ⟨fuel, hf⟩ := h0
    exact open_pt Try.underlying22 Try.underlying23 Try.underlying5 (by kernel_rfl) (by kernel_rfl) hf
  simp only [Value.slice.injEq] at hv
  obtain ⟨rfl, rfl, rfl⟩ := hv
  clear hA0 hval0
  refine (crcRegister_walk _ a0 cap0 ps W hpt (by unfold maxLen at hl; omega)).mono fun e W' ⟨he, bel⟩ => ?_
  subst he
  exact ⟨_, rfl, _, _, _, [], _, [], hW', trodAll_mk1 (shut_bool Try.underlying4 _), (trodAll_cons_mk (Below.trod laidOut (by kernel_rfl) (of_decide_eq_true (by kernel_rfl)) k0 bel lt0) trodAll_mk0), rfl, bel.frame _, fun h => by cases h⟩

/-- THE STATEMENT. -/
theorem proved : Rows.CrcRegisterSaid :=
  OpenClaim.holds_of_wide 4 Try.f4 rfl rfl rfl rfl rfl rfl rfl ⟨rfl, rfl, rfl, rfl, rfl⟩ rfl rfl rfl rfl rfl (by kernel_rfl) Try.func4 (by kernel_rfl)
    (of_decide_eq_true (by kernel_rfl)) (by unfold Func.isWrapper; first | (rw [if_pos (by decide +kernel)]; kernel_rfl) | (rw [if_neg (by decide +kernel)]; exact ⟨rfl, rfl⟩))
    (fun os started H enc _ => lifted os started H enc)
end crcRegister
end Go.Proofs.Ytpciknbcnpnbcaa
