/- THE LAW AllocParts: the walk. -/
import Derived.Test.YtjgnnofpilmgoaaDoorAlAz
namespace Go.Proofs.YtjgnnofpilmgoaaDoor
open Go.RowKit Go.Inc

theorem si_cellQ {okz : Nat → Prop} {w : World} {a : Option Addr} {zs : List Int} (h : Si okz w a zs) {k : Nat} (hk : k < zs.length) : ∃ b o, a = some ⟨b, o, none⟩ ∧ w.cell? ⟨b, o + k, none⟩ = some (.int .i64 (zs.getD k 0)) := by
  rcases h with h | ⟨b, o, h, _, hc⟩
  · rw [h] at hk; simp at hk
  · exact ⟨b, o, h, hc k hk⟩
theorem tookZ_two {ks : List Nat} (h : Ks ks) {n : Nat} {z : Int} (hz : z ∈ tookZ ks n) : ∃ j : Nat, z = j ∧ j < ks.length ∧ kd ks j = 1 ∧ 2 ≤ j := by
  obtain ⟨j, rfl, h1, h2⟩ := tookZ_mem hz
  refine ⟨j, rfl, h1, h2, ?_⟩
  have h3 := h.k0
  have h4 := h.k1
  by_cases e0 : j = 0
  · subst e0; rw [h3] at h2; cases h2
  · by_cases e1 : j = 1
    · subst e1; rw [h4] at h2; cases h2
    · omega
set_option maxRecDepth 20000 in
set_option maxHeartbeats 4000000 in
theorem allocParts_walk (a0 : Option Addr) (c0 : Nat) (zs : List Int) (a : Option Addr) (c : Nat) (ts : List Aac) (W : World) (hz : Si (fun _ => True) W a0 zs) (hzc : zs.length ≤ c0) (hzm : c0 ≤ maxLen) (hts : AacS (fun _ => True) W a ts) (hlc : ts.length ≤ c) (hcm : c ≤ maxLen) (hT : Tab W) :
    Calls Tryd.prog 4 #[.slice a0 zs.length c0, .slice a ts.length c] W fun e w' => e = .returned (.bool true) ∧ Below W.heap.size W w' := by
  have HTS := hid hts.old
  have HT := hid hT
  have HW0 : Hid (0 < W.heap.size) := hid (cell_lt (hT 0 (by decide)))
  have hcm2 : (ts.length : Int) ≤ 9223372036854775807 := by unfold maxLen at hcm; omega
  obtain ⟨n, hn⟩ : ∃ n, n = ts.length := ⟨_, rfl⟩
  have HN := hid hn
  rw [← hn] at hcm2 hlc ⊢
  obtain ⟨zh, hzh⟩ : ∃ zh, zh = zs.take 10 := ⟨_, rfl⟩
  have hmin : min (zs.length : Int) 10 = (zh.length : Int) := by rw [hzh, List.length_take]; omega
  have HZ : Hid (Si (fun b => b < W.heap.size) W a0 zh) := hid (by rw [hzh]; exact (hz.mono fun _ _ h => h).front 10)
  have hz10 : (zh.length : Int) ≤ 10 := by omega
  have hzc2 : (zh.length : Int) ≤ c0 := by omega
  have hzl : (zh.length : Int) ≤ zs.length := by omega
  have hc02 : (c0 : Int) ≤ 9223372036854775807 := by unfold maxLen at hzm; omega
  obtain ⟨nz, hnz⟩ : ∃ nz, nz = zs.length := ⟨_, rfl⟩
  obtain ⟨nh, hnh⟩ : ∃ nh, nh = zh.length := ⟨_, rfl⟩
  have HNH := hid hnh
  rw [← hnz] at hzc hmin hzl ⊢
  rw [← hnh] at hmin hz10 hzc2 hzl
  have HNEW : Hid (∀ x, Below W.heap.size W x → Calls Tryd.prog 7 #[.int .i64 30, .slice a0 nh c0] x fun e z' => ((newE 30 zh = 0 ∧ ∃ C p v1 v2 v3, e = .returned (.tuple #[.pointer (some ⟨p, 0, none⟩), .int .i64 0]) ∧ Own C W z' p v1 v2 v3 (newK 30 zh) ∧ ∀ i, C i ≠ 0 → x.heap.size ≤ i) ∨
      (newE 30 zh ≠ 0 ∧ e = .returned (.tuple #[.pointer none, .int .i64 (newE 30 zh)]))) ∧ Below x.heap.size x z') := hid fun x hx => by
    rw [hnh]
    exact own_new (fun b => b < W.heap.size) 30 a0 c0 zh x hx (HZ.out.below hx) (by decide) (by decide) (by omega) (HT.out.below hx)
  have HEB := hid (chkE_bnd (freshK 30) zh isF (wrong := 8) (by decide))
  obtain ⟨E, hE⟩ : ∃ E, E = newE 30 zh := ⟨_, rfl⟩
  have HEE := hid hE
  clear hts hT hn hz hzh hnz hnh hE
  go_enter Tryd.func4, Tryd.ntmps4
  go_wp2_with fail
  refine (HNEW.out W (Below.refl _ _)).mono ?_
  clear HNEW
  rintro e w1 ⟨h1, hb1⟩
  have HB1 := hid hb1
  clear hb1
  rcases h1 with ⟨-, C, p, v1, v2, v3, rfl, ho, -⟩ | ⟨h0, rfl⟩
  · have HO1 := hid ho
    have HL1 : Hid ((newK 30 zh).length = 30) := hid (newK_len _ _)
    clear ho
    go_wp2_with fail
    go_loopw [7] (fun i wr => ∃ (i' : Nat) (ks : List Nat), i' ≤ n ∧ i' ≤ 20 ∧ i = .int .i64 (i' : Int) ∧ Own C W wr p v1 v2 v3 ks ∧ ks.length = 30) (fun i _ => 20 - (intOf i).toNat)
    case atStart => exact ⟨0, _, Nat.zero_le _, Nat.zero_le _, rfl, HO1.out, HL1.out⟩
    case round =>
      obtain ⟨i, ks, hi, hi20, rfl, hp, hlen⟩ := hrel
      have HPP := hid hp
      have HLEN := hid hlen
      clear hp hlen HO1 HL1
      by_cases hin : (i : Int) < n
      · have hin2 : (i < n) = True := eq_true (by omega)
        by_cases hi2 : (i : Int) < 20
        · obtain ⟨t, ht⟩ : ∃ t, ts[i]? = some t := ⟨_, List.getElem?_eq_getElem (by have := HN.out; omega)⟩
          obtain ⟨ba, oa, aL, cL, rfl, hok, hk1, hkN, hk2, hsi, hlL, hcL, hkb, hNb⟩ := HTS.out.below HPP.out.bel i t ht
          obtain ⟨xh, hxh⟩ : ∃ xh, xh = t.L.take 10 := ⟨_, rfl⟩
          have hmin2 : min (t.L.length : Int) 10 = (xh.length : Int) := by rw [hxh, List.length_take]; omega
          have HX : Hid (Si (fun b => b < W.heap.size) wr aL xh) := hid (by rw [hxh]; exact hsi.front 10)
          have hx20 : (xh.length : Int) ≤ 10 := by omega
          have hxc : (xh.length : Int) ≤ cL := by omega
          have hxl : (xh.length : Int) ≤ t.L.length := by omega
          have hcL2 : (cL : Int) ≤ 9223372036854775807 := by unfold maxLen at hcL; omega
          obtain ⟨nL, hnL⟩ : ∃ nL, nL = t.L.length := ⟨_, rfl⟩
          rw [← hnL] at hk2 hmin2 hxl
          obtain ⟨kk, hkk⟩ : ∃ kk, kk = t.kind := ⟨_, rfl⟩
          rw [← hkk] at hk1
          obtain ⟨NN, hNN⟩ : ∃ NN, NN = t.N := ⟨_, rfl⟩
          rw [← hNN] at hkN hNb
          obtain ⟨nx, hnx⟩ : ∃ nx, nx = xh.length := ⟨_, rfl⟩
          have HNX := hid hnx
          rw [← hnx] at hmin2 hx20 hxc hxl
          have hkd := kind_lt kk 5 (by decide)
          obtain ⟨z, hz⟩ : ∃ z, z = (IntKind.u64.wrap kk).tmod 5 := ⟨_, rfl⟩
          rw [← hz] at hkd
          have hzz := hz.symm
          have HNB := hid hNb
          have HBA : Hid (ba < W.heap.size) := hid hok
          clear hin ht hxh hnL hkk hsi hlL hcL hok hnx hNN hz hkb hNb
          go_wp2_with fail
          go_quiet (fail)
          have HBQ : Hid (Below wr.heap.size wr (wr.drewN nq)) := hid (below_drewN wr nq)
          have hk1' := (HBQ.out.cell (cell_lt hk1)).trans hk1
          have hkN' := (HBQ.out.cell (cell_lt hkN)).trans hkN
          have HPQ0 := hid (HPP.out.below HBQ.out)
          have HX0 := hid (HX.out.below HBQ.out)
          generalize wr.drewN nq = wp at *
          clear hk1 hk2 hkN HPP HX HBQ
          go_wp2_with fail
          refine (sets_any HPQ0.out.al HPQ0.out.ks).mono ?_
          rintro e wq ⟨⟨s1, s2, s3, rfl, hs1, -, -⟩, hbq⟩
          have HS1 : Hid (NewSet wp.heap.size wq s1 (setK isC ks)) := hid hs1
          have HPQ := hid (HPQ0.out.below hbq)
          have HX1 := hid (HX0.out.below hbq)
          have HFAR : Hid (∀ i, wp.heap.size ≤ i → C i = 0) := hid fun i hi => HPQ0.out.far hi
          have hk1q := (hbq.cell (cell_lt hk1')).trans hk1'
          have hkNq := (hbq.cell (cell_lt hkN')).trans hkN'
          clear hs1 hbq hk1' hkN' HX0 HPQ0
          go_upto_block 2 with fail
          go_cut [12, 13, 14] from 36 to 171 (fun _ _ _ wc => ∃ ks', Own C W wc p v1 v2 v3 ks' ∧ ks'.length = 30)
          case first =>
            rcases (by omega : z = 0 ∨ z = 1 ∨ z = 2 ∨ z = 3 ∨ z = 4) with rfl | rfl | rfl | rfl | rfl
            · by_cases hneg : NN < 0
              · clear hkd HNB
                go_wp2_with fail
                refine (take_neg p NN wq hneg).mono ?_
                rintro e w5 ⟨rfl, hb5⟩
                have HO5 := hid (HPQ.out.below hb5)
                have HSW : Hid (NewSet wp.heap.size w5 s1 (setK isC ks)) := hid (HS1.out.below hb5)
                have HSX : Hid (Si (fun _ => True) w5 none ([] : List Int)) := hid (Si.nil _ _ _)
                obtain ⟨al, hal⟩ : ∃ al : Option Addr, al = none := ⟨_, rfl⟩
                clear hb5 hkNq hk1q
                go_wp2_with fail
                go_loopw [14] (fun i wr => i = .int .i64 0 ∧ wr = w5) (fun _ _ => 0)
                case atStart => exact ⟨rfl, rfl⟩
                case round =>
                  obtain ⟨rfl, rfl⟩ := hrel
                  go_wp2_with fail
                  go_meet
                  exact ⟨ks, HO5.out, HLEN.out⟩
              · obtain ⟨m, rfl⟩ := Int.eq_ofNat_of_zero_le (show (0 : Int) ≤ NN by omega)
                have HTK := hid (own_take HPQ.out m HNB.out.2)
                have hmb : (m : Int) ≤ 9223372036854775807 := HNB.out.2
                have HZZ : Hid (∀ z ∈ tookZ ks m, ∃ j : Nat, z = j ∧ j < ks.length ∧ kd ks j = 1 ∧ 2 ≤ j) := hid fun z hz => tookZ_two HPQ.out.ks hz
                clear hneg hkd HNB
                go_wp2_with fail
                refine HTK.out.mono ?_
                clear HTK
                rintro e w5 (⟨hF, rfl, ho, hm⟩ | ⟨hF, ⟨x, rfl, hx⟩, ho, hm⟩)
                · have HO5 := hid ho
                  clear ho hm hF hkNq hk1q
                  go_wp2_with fail
                  go_loopw [14] (fun i wr => i = .int .i64 0 ∧ wr = w5) (fun _ _ => 0)
                  case atStart => exact ⟨rfl, rfl⟩
                  case round =>
                    obtain ⟨rfl, rfl⟩ := hrel
                    go_wp2_with fail
                    go_meet
                    exact ⟨ks, HO5.out, HLEN.out⟩
                · have HO5 := hid ho
                  have HSW : Hid (NewSet wp.heap.size w5 s1 (setK isC ks)) := hid (HS1.out.mv hm fun i hi hc => hc (HFAR.out i hi))
                  obtain ⟨ax, cx, rfl, hsx⟩ := hx
                  have HSX := hid hsx
                  have HMM : Hid (m = (tookZ ks m).length) := hid (tookZ_len hF).symm
                  clear ho hm hF hsx hkNq hk1q
                  go_wp2_with fail
                  go_loopw [14] (fun i wr => ∃ k : Nat, k ≤ m ∧ i = .int .i64 (k : Int) ∧ Below w5.heap.size w5 wr) (fun i _ => m - (intOf i).toNat)
                  case atStart => exact ⟨0, Nat.zero_le _, rfl, Below.refl _ _⟩
                  case round =>
                    obtain ⟨k, hk, rfl, hb⟩ := hrel
                    have HB := hid hb
                    clear hb
                    obtain ⟨wj, hwj⟩ : ∃ wj, wj = wr := ⟨_, rfl⟩
                    subst hwj
                    by_cases hlt : (k : Int) < m
                    · obtain ⟨b, o, rfl, hck⟩ := si_cellQ (HSX.out.below HB.out) (k := k) (by rw [← HMM.out]; omega)
                      have hmem := getD_mem (zs := (tookZ ks m)) (k := k) (by rw [← HMM.out]; omega)
                      obtain ⟨j, hj, hjl, hj1, hj2⟩ := HZZ.out _ hmem
                      rw [hj] at hck
                      have HH := hid (has_any _ s1 _ (j : Int) wj (HSW.out.below HB.out).bm)
                      rw [show hasB (setK isC ks) (j : Int) = false by rw [hasB_nat, inB_setK hjl, hj1]; rfl] at HH
                      have hkn : (k < m) = True := eq_true (by omega)
                      have hj3 : (2 : Int) ≤ (j : Int) := by omega
                      have HCJ : Hid (∀ y, Below wj.heap.size wj y → y.cell? ⟨b, o + k, none⟩ = some (.int .i64 (j : Int))) := hid fun y hy => (hy.cell (cell_lt hck)).trans hck
                      clear hmem hj hjl hj1 hj2
                      go_wp2_with fail
                      refine HH.out.mono ?_
                      clear HH
                      rintro e w18 ⟨rfl, hb⟩
                      have hck2 := HCJ.out w18 hb
                      have HB18 : Hid (Below w5.heap.size w5 w18) := hid (HB.out.trans (hb.mono HB.out.size))
                      clear hb HCJ hck
                      go_wp2_with fail
                      go_roundw
                      case rel => exact ⟨k + 1, by omega, by go_num, HB18.out⟩
                      case measure => simp [intOf]; omega
                    · have hkf : (k < m) = False := eq_false (by omega)
                      clear hlt
                      go_wp2_with fail
                      go_meet
                      exact ⟨_, HO5.out.below HB.out, by unfold tookK; rw [putK_len]; exact HLEN.out⟩
            · have hg := own_give HPQ.out (fun b => b < W.heap.size) aL cL xh HX1.out (fun i hi => HPQ.out.near hi) (by have := HNX.out; omega)
              rw [← HNX.out] at hg
              have HG := hid hg
              clear hkd HNB hg hk1q hkNq
              go_wp2_with fail
              refine HG.out.mono ?_
              clear HG
              rintro e w5 ⟨rfl, ho, -⟩
              have HO5 := hid ho
              clear ho
              try go_wp2_with fail
              go_meet
              exact ⟨_, HO5.out, by rw [gaveK_len]; exact HLEN.out⟩
            · clear hkd HNB hk1q hkNq
              go_wp2_with fail
              refine (own_commit HPQ.out).mono ?_
              rintro e w5 ⟨⟨x, rfl, -⟩, ho, -⟩
              have HO5 := hid ho
              clear ho
              try go_wp2_with fail
              go_meet
              exact ⟨_, HO5.out, by rw [mapK_len]; exact HLEN.out⟩
            · clear hkd HNB hk1q hkNq
              go_wp2_with fail
              refine (own_abort HPQ.out).mono ?_
              rintro e w5 ⟨⟨x, rfl, -⟩, ho, -⟩
              have HO5 := hid ho
              clear ho
              try go_wp2_with fail
              go_meet
              exact ⟨_, HO5.out, by rw [mapK_len]; exact HLEN.out⟩
            · have hg := own_adopt HPQ.out (fun b => b < W.heap.size) aL cL xh HX1.out (fun i hi => HPQ.out.near hi) (by have := HNX.out; omega)
              rw [← HNX.out] at hg
              have HG := hid hg
              clear hkd HNB hg hk1q hkNq
              go_wp2_with fail
              refine HG.out.mono ?_
              clear HG
              rintro e w5 ⟨rfl, ho, -⟩
              have HO5 := hid ho
              clear ho
              try go_wp2_with fail
              go_meet
              exact ⟨_, HO5.out, by rw [adoptK_len]; exact HLEN.out⟩
          case rest =>
            obtain ⟨ks2, hp2, hl2⟩ := hcut
            have HP2 := hid hp2
            have HL2 := hid hl2
            clear hp2 hl2
            go_wp2_with fail
            refine (sets_any HP2.out.al HP2.out.ks).mono ?_
            rintro e w8 ⟨⟨t1, t2, t3, rfl, ht1, ht2, ht3⟩, hb8⟩
            have HT1 := hid ht1
            have HT2 := hid ht2
            have HT3 := hid ht3
            have HP8 := hid (HP2.out.below hb8)
            clear ht1 ht2 ht3 hb8
            go_wp2_with fail
            go_loopw [18, 19] (fun nn jj wr => ∃ j : Nat, 2 ≤ j ∧ j ≤ 30 ∧ jj = .int .i64 (j : Int) ∧ nn = .int .i64 ((cntTo (fK ks2) j : Nat) : Int) ∧ Below w8.heap.size w8 wr) (fun _ jj _ => 30 - (intOf jj).toNat)
            case atStart =>
              have h1 : fK ks2 0 = false := by unfold fK; rw [HP8.out.ks.k0]; rfl
              have h2 : fK ks2 1 = false := by unfold fK; rw [HP8.out.ks.k1]; rfl
              exact ⟨2, Nat.le_refl _, by decide, rfl, by rw [cntTo_out h2, cntTo_out h1]; rfl, Below.refl _ _⟩
            case round =>
              obtain ⟨j, hj2, hj30, rfl, rfl, hb⟩ := hrel
              have HB := hid hb
              clear hb
              obtain ⟨wj, hwj⟩ : ∃ wj, wj = wr := ⟨_, rfl⟩
              subst hwj
              have hcb : cntTo (fK ks2) j ≤ j := numsTo_len _ _
              by_cases hlt : (j : Int) < 30
              · obtain ⟨X, hX⟩ : ∃ X, X = kd ks2 j := ⟨_, rfl⟩
                have hjl : j < ks2.length := by rw [HL2.out]; omega
                have HKR : Hid (1 ≤ X ∧ X ≤ 4) := hid (by rw [hX]; exact HP8.out.ks.rest j hj2 hjl)
                have HXX : Hid (kd ks2 j = X) := hid hX.symm
                have HHC : Hid (∀ x, Below w8.heap.size w8 x → Calls Tryd.prog 23 #[t1, .int .i64 (j : Int)] x fun e w' => e = .returned (.bool (isC X)) ∧ Below x.heap.size x w') := hid fun x hx => by
                  have := has_any _ t1 _ (j : Int) x (HT1.out.below hx).bm
                  rw [hasB_nat, inB_setK hjl, ← hX] at this
                  exact this
                have HHS : Hid (∀ x, Below w8.heap.size w8 x → Calls Tryd.prog 23 #[t2, .int .i64 (j : Int)] x fun e w' => e = .returned (.bool (isS X)) ∧ Below x.heap.size x w') := hid fun x hx => by
                  have := has_any _ t2 _ (j : Int) x (HT2.out.below hx).bm
                  rw [hasB_nat, inB_setK hjl, ← hX] at this
                  exact this
                have HHP : Hid (∀ x, Below w8.heap.size w8 x → Calls Tryd.prog 23 #[t3, .int .i64 (j : Int)] x fun e w' => e = .returned (.bool (isP X)) ∧ Below x.heap.size x w') := hid fun x hx => by
                  have := has_any _ t3 _ (j : Int) x (HT3.out.below hx).bm
                  rw [hasB_nat, inB_setK hjl, ← hX] at this
                  exact this
                clear hX hjl
                rcases (by have := HKR.out; omega : X = 1 ∨ X = 2 ∨ X = 3 ∨ X = 4) with rfl | rfl | rfl | rfl
                · rw [show isC 1 = false from rfl] at HHC
                  rw [show isS 1 = false from rfl] at HHS
                  rw [show isP 1 = false from rfl] at HHP
                  have HIN : Hid (cntTo (fK ks2) (j + 1) = cntTo (fK ks2) j + 1) := hid (cntTo_in (by unfold fK; rw [HXX.out]; rfl))
                  go_wp2_with fail
                  refine (HHC.out wj HB.out).mono ?_
                  rintro e wk0 ⟨rfl, hb⟩
                  have HBk0 : Hid (Below w8.heap.size w8 wk0) := hid (HB.out.trans (hb.mono HB.out.size))
                  clear hb
                  go_wp2_with fail
                  refine (HHP.out wk0 HBk0.out).mono ?_
                  rintro e wk1 ⟨rfl, hb⟩
                  have HBk1 : Hid (Below w8.heap.size w8 wk1) := hid (HBk0.out.trans (hb.mono HBk0.out.size))
                  clear hb
                  go_wp2_with fail
                  refine (HHC.out wk1 HBk1.out).mono ?_
                  rintro e wk2 ⟨rfl, hb⟩
                  have HBk2 : Hid (Below w8.heap.size w8 wk2) := hid (HBk1.out.trans (hb.mono HBk1.out.size))
                  clear hb
                  go_wp2_with fail
                  refine (HHS.out wk2 HBk2.out).mono ?_
                  rintro e wk3 ⟨rfl, hb⟩
                  have HBk3 : Hid (Below w8.heap.size w8 wk3) := hid (HBk2.out.trans (hb.mono HBk2.out.size))
                  clear hb
                  go_wp2_with fail
                  go_roundw
                  case rel => exact ⟨j + 1, by omega, by omega, by go_num, by rw [HIN.out]; go_num, HBk3.out⟩
                  case measure => simp [intOf]; omega
                · rw [show isC 2 = true from rfl] at HHC
                  rw [show isS 2 = false from rfl] at HHS
                  rw [show isP 2 = false from rfl] at HHP
                  have HOUT : Hid (cntTo (fK ks2) (j + 1) = cntTo (fK ks2) j) := hid (cntTo_out (by unfold fK; rw [HXX.out]; rfl))
                  go_wp2_with fail
                  refine (HHC.out wj HB.out).mono ?_
                  rintro e wk0 ⟨rfl, hb⟩
                  have HBk0 : Hid (Below w8.heap.size w8 wk0) := hid (HB.out.trans (hb.mono HB.out.size))
                  clear hb
                  go_wp2_with fail
                  refine (HHS.out wk0 HBk0.out).mono ?_
                  rintro e wk1 ⟨rfl, hb⟩
                  have HBk1 : Hid (Below w8.heap.size w8 wk1) := hid (HBk0.out.trans (hb.mono HBk0.out.size))
                  clear hb
                  go_wp2_with fail
                  refine (HHP.out wk1 HBk1.out).mono ?_
                  rintro e wk2 ⟨rfl, hb⟩
                  have HBk2 : Hid (Below w8.heap.size w8 wk2) := hid (HBk1.out.trans (hb.mono HBk1.out.size))
                  clear hb
                  go_wp2_with fail
                  refine (HHC.out wk2 HBk2.out).mono ?_
                  rintro e wk3 ⟨rfl, hb⟩
                  have HBk3 : Hid (Below w8.heap.size w8 wk3) := hid (HBk2.out.trans (hb.mono HBk2.out.size))
                  clear hb
                  go_wp2_with fail
                  go_roundw
                  case rel => exact ⟨j + 1, by omega, by omega, by go_num, by rw [HOUT.out], HBk3.out⟩
                  case measure => simp [intOf]; omega
                · rw [show isC 3 = false from rfl] at HHC
                  rw [show isS 3 = true from rfl] at HHS
                  rw [show isP 3 = false from rfl] at HHP
                  have HOUT : Hid (cntTo (fK ks2) (j + 1) = cntTo (fK ks2) j) := hid (cntTo_out (by unfold fK; rw [HXX.out]; rfl))
                  go_wp2_with fail
                  refine (HHC.out wj HB.out).mono ?_
                  rintro e wk0 ⟨rfl, hb⟩
                  have HBk0 : Hid (Below w8.heap.size w8 wk0) := hid (HB.out.trans (hb.mono HB.out.size))
                  clear hb
                  go_wp2_with fail
                  refine (HHP.out wk0 HBk0.out).mono ?_
                  rintro e wk1 ⟨rfl, hb⟩
                  have HBk1 : Hid (Below w8.heap.size w8 wk1) := hid (HBk0.out.trans (hb.mono HBk0.out.size))
                  clear hb
                  go_wp2_with fail
                  refine (HHC.out wk1 HBk1.out).mono ?_
                  rintro e wk2 ⟨rfl, hb⟩
                  have HBk2 : Hid (Below w8.heap.size w8 wk2) := hid (HBk1.out.trans (hb.mono HBk1.out.size))
                  clear hb
                  go_wp2_with fail
                  refine (HHS.out wk2 HBk2.out).mono ?_
                  rintro e wk3 ⟨rfl, hb⟩
                  have HBk3 : Hid (Below w8.heap.size w8 wk3) := hid (HBk2.out.trans (hb.mono HBk2.out.size))
                  clear hb
                  go_wp2_with fail
                  go_roundw
                  case rel => exact ⟨j + 1, by omega, by omega, by go_num, by rw [HOUT.out], HBk3.out⟩
                  case measure => simp [intOf]; omega
                · rw [show isC 4 = true from rfl] at HHC
                  rw [show isS 4 = false from rfl] at HHS
                  rw [show isP 4 = true from rfl] at HHP
                  have HOUT : Hid (cntTo (fK ks2) (j + 1) = cntTo (fK ks2) j) := hid (cntTo_out (by unfold fK; rw [HXX.out]; rfl))
                  go_wp2_with fail
                  refine (HHC.out wj HB.out).mono ?_
                  rintro e wk0 ⟨rfl, hb⟩
                  have HBk0 : Hid (Below w8.heap.size w8 wk0) := hid (HB.out.trans (hb.mono HB.out.size))
                  clear hb
                  go_wp2_with fail
                  refine (HHS.out wk0 HBk0.out).mono ?_
                  rintro e wk1 ⟨rfl, hb⟩
                  have HBk1 : Hid (Below w8.heap.size w8 wk1) := hid (HBk0.out.trans (hb.mono HBk0.out.size))
                  clear hb
                  go_wp2_with fail
                  refine (HHP.out wk1 HBk1.out).mono ?_
                  rintro e wk2 ⟨rfl, hb⟩
                  have HBk2 : Hid (Below w8.heap.size w8 wk2) := hid (HBk1.out.trans (hb.mono HBk1.out.size))
                  clear hb
                  go_wp2_with fail
                  refine (HHC.out wk2 HBk2.out).mono ?_
                  rintro e wk3 ⟨rfl, hb⟩
                  have HBk3 : Hid (Below w8.heap.size w8 wk3) := hid (HBk2.out.trans (hb.mono HBk2.out.size))
                  clear hb
                  go_wp2_with fail
                  refine (HHC.out wk3 HBk3.out).mono ?_
                  rintro e wk4 ⟨rfl, hb⟩
                  have HBk4 : Hid (Below w8.heap.size w8 wk4) := hid (HBk3.out.trans (hb.mono HBk3.out.size))
                  clear hb
                  go_wp2_with fail
                  go_roundw
                  case rel => exact ⟨j + 1, by omega, by omega, by go_num, by rw [HOUT.out], HBk4.out⟩
                  case measure => simp [intOf]; omega
              · have hj : j = 30 := by omega
                subst hj
                have HCF : Hid (cntTo (fK ks2) 30 = (pagesK isF ks2).length) := hid (by unfold pagesK cntTo; rw [HL2.out]; rfl)
                obtain ⟨F, hF⟩ : ∃ F, F = (pagesK isF ks2).length := ⟨_, rfl⟩
                rw [← hF] at HCF
                have HF := hid hF
                have HPJ := hid (HP8.out.below HB.out)
                have HFR := hid (allocFree_any HPJ.out.al HPJ.out.ks HPJ.out.tab)
                rw [← hF] at HFR
                have hFF : ((F : Int) != F) = false := by simp
                rw [HCF.out] at hcb ⊢
                have HH0 : Hid (∀ x, Below w8.heap.size w8 x → Calls Tryd.prog 23 #[t1, .int .i64 0] x fun e w' => e = .returned (.bool false) ∧ Below x.heap.size x w') := hid fun x hx => by
                  have := has_any _ t1 _ ((0 : Nat) : Int) x (HT1.out.below hx).bm
                  rw [hasB_nat, inB_setK (by rw [HL2.out]; decide), HP8.out.ks.k0] at this
                  exact this
                have HH1 : Hid (∀ x, Below w8.heap.size w8 x → Calls Tryd.prog 23 #[t2, .int .i64 1] x fun e w' => e = .returned (.bool false) ∧ Below x.heap.size x w') := hid fun x hx => by
                  have := has_any _ t2 _ ((1 : Nat) : Int) x (HT2.out.below hx).bm
                  rw [hasB_nat, inB_setK (by rw [HL2.out]; decide), HP8.out.ks.k1] at this
                  exact this
                clear hF hlt HCF
                go_wp2_with fail
                refine HFR.out.mono ?_
                clear HFR
                rintro e w20 ⟨rfl, hb⟩
                have HB20 : Hid (Below w8.heap.size w8 w20) := hid (HB.out.trans (hb.mono HB.out.size))
                clear hb
                go_wp2_with fail
                refine (HH0.out w20 HB20.out).mono ?_
                rintro e w21 ⟨rfl, hb⟩
                have HB21 : Hid (Below w8.heap.size w8 w21) := hid (HB20.out.trans (hb.mono HB20.out.size))
                clear hb
                go_wp2_with fail
                refine (HH1.out w21 HB21.out).mono ?_
                rintro e w22 ⟨rfl, hb⟩
                have HB22 : Hid (Below w8.heap.size w8 w22) := hid (HB21.out.trans (hb.mono HB21.out.size))
                clear hb
                go_wp2_with fail
                go_roundw
                case rel => exact ⟨i + 1, ks2, of_eq_true hin2, by omega, by go_num, HP8.out.below HB22.out, HL2.out⟩
                case measure => simp [intOf]; omega
        · have hi22 : (i < 20) = False := eq_false (by omega)
          have hi2i : decide ((i : Int) < 20) = false := decide_eq_false hi2
          clear HTS
          go_wp2_with fail
          refine (known_any wr HPP.out.tab).mono ?_
          rintro e w5 ⟨rfl, hb5⟩
          have HP5 := hid (HPP.out.below hb5)
          clear hb5
          go_wp2_with fail
          go_ret
          exact ⟨rfl, HP5.out.bel⟩
      · have hin2 : (i < n) = False := eq_false (by omega)
        clear hin
        clear HTS
        go_wp2_with fail
        refine (known_any wr HPP.out.tab).mono ?_
        rintro e w5 ⟨rfl, hb5⟩
        have HP5 := hid (HPP.out.below hb5)
        clear hb5
        go_wp2_with fail
        go_ret
        exact ⟨rfl, HP5.out.bel⟩
  · rw [← HEE.out] at h0 ⊢
    have hne : (E != 0) = true := by rw [bne_iff_ne]; exact h0
    clear h0
    go_wp2_with fail
    refine (known_any w1 (HT.out.below HB1.out)).mono ?_
    rintro e w6 ⟨rfl, hb6⟩
    have HB6 : Hid (Below W.heap.size W w6) := hid (HB1.out.trans (hb6.mono HB1.out.size))
    clear hb6
    go_wp2_with fail
    go_ret
    exact ⟨rfl, HB6.out⟩
end Go.Proofs.YtjgnnofpilmgoaaDoor
