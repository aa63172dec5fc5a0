/- THE LAW AllocPlays: the walk. -/
import Derived.Test.YtjgnnofpilmgoaaDoorAlT
import Derived.Test.YtjgnnofpilmgoaaDoorAlOpen
namespace Go.Proofs.YtjgnnofpilmgoaaDoor
open Go.RowKit Go.Inc

theorem kind_ltP (x m : Int) (hm : 0 < m) : 0 ≤ (IntKind.u64.wrap x).tmod m ∧ (IntKind.u64.wrap x).tmod m < m := by
  have h0 : 0 ≤ IntKind.u64.wrap x := by rw [IntKind.wrap_u64]; omega
  rw [Int.tmod_eq_emod_of_nonneg h0]
  exact ⟨Int.emod_nonneg _ (by omega), Int.emod_lt_of_pos _ hm⟩
theorem tookK_len (ks : List Nat) (n : Nat) : (tookK ks n).length = ks.length := putK_len _ _ _
set_option maxRecDepth 20000 in
set_option maxHeartbeats 4000000 in
theorem allocPlays_walk (pages : Int) (a0 : Option Addr) (c0 : Nat) (zs : List Int) (a : Option Addr) (c : Nat) (ts : List Aac) (page : Int) (W : World) (hz : Si (fun _ => True) W a0 zs) (hzc : zs.length ≤ c0) (hzm : c0 ≤ maxLen) (hts : AacS (fun _ => True) W a ts) (hlc : ts.length ≤ c) (hcm : c ≤ maxLen) (hT : Tab W) :
    Calls Tryd.prog 3 #[.int .i64 pages, .slice a0 zs.length c0, .slice a ts.length c, .int .i64 page] W fun e w' => e = .returned (.bool true) ∧ Below W.heap.size W w' := by
  have HTS := hid hts.old
  have HT := hid hT
  have HW0 : Hid (0 < W.heap.size) := hid (cell_lt (hT 0 (by decide)))
  have hcm2 : (ts.length : Int) ≤ 9223372036854775807 := by unfold maxLen at hcm; omega
  obtain ⟨n, hn⟩ : ∃ n, n = ts.length := ⟨_, rfl⟩
  have HN := hid hn
  rw [← hn] at hcm2 hlc ⊢
  obtain ⟨zh, hzh⟩ : ∃ zh, zh = zs.take 10 := ⟨_, rfl⟩
  have hmin : min (zs.length : Int) 10 = (zh.length : Int) := by rw [hzh, List.length_take]; omega
  have HZ : Hid (Si (fun b => b < W.heap.size) W a0 zh) := hid (by rw [hzh]; exact (hz.mono fun _ _ h => h).front 10)
  have hz10 : (zh.length : Int) ≤ 10 := by omega
  have hzc2 : (zh.length : Int) ≤ c0 := by omega
  have hzl : (zh.length : Int) ≤ zs.length := by omega
  have hc02 : (c0 : Int) ≤ 9223372036854775807 := by unfold maxLen at hzm; omega
  obtain ⟨nz, hnz⟩ : ∃ nz, nz = zs.length := ⟨_, rfl⟩
  obtain ⟨nh, hnh⟩ : ∃ nh, nh = zh.length := ⟨_, rfl⟩
  have HNH := hid hnh
  rw [← hnz] at hzc hmin hzl ⊢
  rw [← hnh] at hmin hz10 hzc2 hzl
  by_cases hbad : pages < 2 ∨ 2048 < pages
  · have HP := hid (allocNew_bad (.slice a0 nh c0) pages W hbad)
    clear hts hT hn hz hzh hnz hnh
    rcases hbad with hb | hb
    · go_enter Tryd.func3, Tryd.ntmps3
      go_wp2_with fail
      refine HP.out.mono ?_
      rintro e w1 ⟨rfl, rfl⟩
      go_wp2_with fail
      refine (known_any _ HT.out).mono ?_
      rintro e w2 ⟨rfl, hb2⟩
      have HB2 := hid hb2
      clear hb2
      go_wp2_with fail
      go_ret
      exact ⟨rfl, HB2.out⟩
    · have hb1 : (pages < 2) = False := eq_false (by omega)
      go_enter Tryd.func3, Tryd.ntmps3
      go_wp2_with fail
      refine HP.out.mono ?_
      rintro e w1 ⟨rfl, rfl⟩
      go_wp2_with fail
      refine (known_any _ HT.out).mono ?_
      rintro e w2 ⟨rfl, hb2⟩
      have HB2 := hid hb2
      clear hb2
      go_wp2_with fail
      go_ret
      exact ⟨rfl, HB2.out⟩
  · obtain ⟨Z, rfl⟩ := Int.eq_ofNat_of_zero_le (show 0 ≤ pages by omega)
    have h1 : (2 : Int) ≤ Z := by omega
    have h2 : (Z : Int) ≤ 2048 := by omega
    have hs1 : ((Z : Int) < 2) = False := eq_false (by omega)
    have hs1b : (Z < 2) = False := eq_false (by omega)
    have hs2 : (2048 < Z) = False := eq_false (by omega)
    have HN0 : Hid (Calls Tryd.prog 7 #[.int .i64 (Z : Int), .slice a0 nh c0] W fun e z' => (∃ x y, e = .returned (.tuple #[x, y])) ∧ Below W.heap.size W z') := hid (by
      have hh := own_new (w := W) (fun b => b < W.heap.size) Z a0 c0 zh W (Below.refl _ _) HZ.out h1 h2 (by omega) HT.out
      rw [← hnh] at hh
      refine hh.mono ?_
      rintro e z' ⟨(⟨-, C, p, v1, v2, v3, h, -⟩ | ⟨-, h⟩), hb⟩
      · exact ⟨⟨_, _, h⟩, hb⟩
      · exact ⟨⟨_, _, h⟩, hb⟩)
    obtain ⟨S, hS⟩ : ∃ S, S = 2 + Z % 40 := ⟨_, rfl⟩
    have hSi : 2 + (Z : Int) % 40 = (S : Int) := by omega
    have hS1 : (2 : Int) ≤ S := by omega
    have hS2 : (S : Int) ≤ 41 := by omega
    have HNEW : Hid (∀ x, Below W.heap.size W x → Calls Tryd.prog 7 #[.int .i64 (S : Int), .slice a0 nh c0] x fun e z' => ((newE S zh = 0 ∧ ∃ C p v1 v2 v3, e = .returned (.tuple #[.pointer (some ⟨p, 0, none⟩), .int .i64 0]) ∧ Own C W z' p v1 v2 v3 (newK S zh) ∧ ∀ i, C i ≠ 0 → x.heap.size ≤ i) ∨
        (newE S zh ≠ 0 ∧ e = .returned (.tuple #[.pointer none, .int .i64 (newE S zh)]))) ∧ Below x.heap.size x z') := hid fun x hx => by
      rw [hnh]
      exact own_new (fun b => b < W.heap.size) S a0 c0 zh x hx (HZ.out.below hx) hS1 (by omega) (by omega) (HT.out.below hx)
    have HDN : Hid (∀ x, Below W.heap.size W x → Calls Tryd.prog 9 #[.int .i64 (S : Int), .slice a0 nh c0] x fun e z' => NewRef S zh x.heap.size z' e ∧ Below x.heap.size x z') := hid fun x hx => by
      rw [hnh]
      exact dNew_any (fun b => b < W.heap.size) S a0 c0 zh x (HZ.out.below hx) hS1 (by omega) (by omega)
    have HEB := hid (chkE_bnd (freshK S) zh isF (wrong := 8) (by decide))
    obtain ⟨E, hE⟩ : ∃ E, E = newE S zh := ⟨_, rfl⟩
    have HEE := hid hE
    clear hbad hS hts hT hn hz hzh hnz hnh hE
    go_enter Tryd.func3, Tryd.ntmps3
    go_wp2_with fail
    refine HN0.out.mono ?_
    clear HN0
    rintro e w0 ⟨⟨x0, y0, rfl⟩, hb0⟩
    have HB0 := hid hb0
    clear hb0
    go_wp2_with fail
    refine (HNEW.out w0 HB0.out).mono ?_
    clear HNEW
    rintro e w1 ⟨h1, hb1⟩
    have HB1 : Hid (Below W.heap.size W w1) := hid (HB0.out.trans (hb1.mono HB0.out.size))
    clear hb1
    rcases h1 with ⟨h0, C, p, v1, v2, v3, rfl, ho, -⟩ | ⟨h0, rfl⟩
    · have HO1 := hid ho
      have HE0 := hid h0
      clear ho h0
      go_wp2_with fail
      refine (HDN.out w1 HB1.out).mono ?_
      clear HDN
      rintro e w2 ⟨h2, hb2⟩
      rcases h2 with ⟨-, g, rfl, hg, hd⟩ | ⟨h0, -⟩
      · have HD2 : Hid (Duo C W w2 p g v1 v2 v3 (newK S zh)) := hid ⟨HO1.out.below hb2, hd, HO1.out.far hg, Nat.le_trans HB1.out.size hg⟩
        have HGG : Hid (C g = 0 ∧ W.heap.size ≤ g) := hid ⟨HO1.out.far hg, Nat.le_trans HB1.out.size hg⟩
        have HL2 : Hid ((newK S zh).length = S) := hid (newK_len _ _)
        clear hg hd hb2 HO1
        have HTL : Hid (∀ y ks', Duo C W y p g v1 v2 v3 ks' → ks'.length = S → Calls Tryd.prog 21 #[.pointer (some ⟨p, 0, none⟩), .slice (some ⟨g, 0, none⟩) S S, .int .i64 page] y fun e z' => e = .returned (.bool true) ∧ Below y.heap.size y z') := hid fun y ks' hy hl => by
          have := tells_any page hy
          rw [hl] at this
          exact this
        go_wp2_with fail
        go_loopw [13] (fun i wr => ∃ (i' : Nat) (ks : List Nat), i' ≤ n ∧ i' ≤ 20 ∧ i = .int .i64 (i' : Int) ∧ Duo C W wr p g v1 v2 v3 ks ∧ ks.length = S) (fun i _ => 20 - (intOf i).toNat)
        case atStart => exact ⟨0, _, Nat.zero_le _, Nat.zero_le _, rfl, HD2.out, HL2.out⟩
        case round =>
          obtain ⟨i, ks, hi, hi20, rfl, hp, hlen⟩ := hrel
          have HPP := hid hp
          have HLEN := hid hlen
          clear hp hlen HD2 HL2
          by_cases hin : (i : Int) < n
          · have hin2 : (i < n) = True := eq_true (by omega)
            by_cases hi2 : (i : Int) < 20
            · obtain ⟨t, ht⟩ : ∃ t, ts[i]? = some t := ⟨_, List.getElem?_eq_getElem (by have := HN.out; omega)⟩
              obtain ⟨ba, oa, aL, cL, rfl, hok, hk1, hkN, hk2, hsi, hlL, hcL, hkb, hNb⟩ := HTS.out.below HPP.out.a.bel i t ht
              obtain ⟨xh, hxh⟩ : ∃ xh, xh = t.L.take 10 := ⟨_, rfl⟩
              have hmin2 : min (t.L.length : Int) 10 = (xh.length : Int) := by rw [hxh, List.length_take]; omega
              have HX : Hid (Si (fun b => b < W.heap.size) wr aL xh) := hid (by rw [hxh]; exact hsi.front 10)
              have hx20 : (xh.length : Int) ≤ 10 := by omega
              have hxc : (xh.length : Int) ≤ cL := by omega
              have hxl : (xh.length : Int) ≤ t.L.length := by omega
              have hcL2 : (cL : Int) ≤ 9223372036854775807 := by unfold maxLen at hcL; omega
              obtain ⟨nL, hnL⟩ : ∃ nL, nL = t.L.length := ⟨_, rfl⟩
              rw [← hnL] at hk2 hmin2 hxl
              obtain ⟨kk, hkk⟩ : ∃ kk, kk = t.kind := ⟨_, rfl⟩
              rw [← hkk] at hk1
              obtain ⟨NN, hNN⟩ : ∃ NN, NN = t.N := ⟨_, rfl⟩
              rw [← hNN] at hkN hNb
              obtain ⟨nx, hnx⟩ : ∃ nx, nx = xh.length := ⟨_, rfl⟩
              have HNX := hid hnx
              rw [← hnx] at hmin2 hx20 hxc hxl
              have hkd := kind_ltP kk 5 (by decide)
              obtain ⟨z, hz⟩ : ∃ z, z = (IntKind.u64.wrap kk).tmod 5 := ⟨_, rfl⟩
              rw [← hz] at hkd
              have hzz := hz.symm
              have HNB := hid hNb
              have HBA : Hid (ba < W.heap.size) := hid hok
              clear hin ht hxh hnL hkk hsi hlL hcL hok hnx hNN hz hkb hNb
              go_wp2_with fail
              go_quiet (fail)
              have HBQ : Hid (Below wr.heap.size wr (wr.drewN nq)) := hid (below_drewN wr nq)
              have hk1' := (HBQ.out.cell (cell_lt hk1)).trans hk1
              have hkN' := (HBQ.out.cell (cell_lt hkN)).trans hkN
              have HPQ := hid (HPP.out.below HBQ.out)
              have HX1 := hid (HX.out.below HBQ.out)
              generalize wr.drewN nq = wq at *
              clear hk1 hk2 hkN HPP HX HBQ
              have HXI : Hid (∀ i, i < W.heap.size → C i = 0 ∧ i ≠ g) := hid fun i hi => ⟨HPQ.out.a.near hi, fun e => by have := HGG.out.2; omega⟩
              go_upto_block 2 with fail
              go_cut [15, 16, 17, 18] from 77 to 174 (fun _ _ _ _ wc => ∃ ks', Duo C W wc p g v1 v2 v3 ks' ∧ ks'.length = S)
              case first =>
                rcases (by omega : z = 0 ∨ z = 1 ∨ z = 2 ∨ z = 3 ∨ z = 4) with rfl | rfl | rfl | rfl | rfl
                · by_cases hneg : NN < 0
                  · clear hkd HNB
                    go_wp2_with fail
                    refine (take_neg p NN wq hneg).mono ?_
                    rintro e w5 ⟨rfl, hb5⟩
                    have HP5 := hid (HPQ.out.below hb5)
                    have hkN5 := (hb5.cell (cell_lt hkN')).trans hkN'
                    clear hb5 hkN' hk1'
                    go_wp2_with fail
                    refine (dTake_neg _ NN w5 hneg).mono ?_
                    rintro e w6 ⟨rfl, rfl⟩
                    have HSM := hid (refSame_eq (ok := fun _ => True) (ok' := fun _ => True) (a := none) (b := none) 0 0 0 [] (w := w5) (Si.nil _ _ _) (Si.nil _ _ _) rfl (by decide))
                    clear hkN5
                    go_wp2_with fail
                    refine HSM.out.mono ?_
                    rintro e w7 ⟨rfl, hb7⟩
                    have HP7 := hid (HP5.out.below hb7)
                    clear hb7
                    try go_wp2_with fail
                    go_meet
                    exact ⟨ks, HP7.out, HLEN.out⟩
                  · obtain ⟨m, rfl⟩ := Int.eq_ofNat_of_zero_le (show (0 : Int) ≤ NN by omega)
                    have HTK := hid (own_take HPQ.out.a m HNB.out.2)
                    have HCN : Hid (∀ y, Mv (fun i => C i ≠ 0) wq y → y.cell? ⟨ba, oa + i * 3 + 1, none⟩ = some (.int .i64 (m : Int))) := hid fun y hy => hy.cell hkN' (fun hc => hc (HPQ.out.a.near (HBA.out)))
                    have HDT : Hid (∀ y, Dk y g ks → Calls Tryd.prog 11 #[.slice (some ⟨g, 0, none⟩) S S, .int .i64 (m : Int)] y fun e w' => TookRef ks m g y.heap.size w' e ∧ Mv (fun i => i = g) y w') := hid fun y hy => by
                      have := dTake_any m g ks y hy HPQ.out.a.ks
                      rw [HLEN.out] at this
                      exact this
                    have hmb : (m : Int) ≤ 9223372036854775807 := HNB.out.2
                    clear hneg hkd HNB
                    go_wp2_with fail
                    refine HTK.out.mono ?_
                    clear HTK
                    rintro e w5 (⟨hF, rfl, ho, hm⟩ | ⟨hF, ⟨x, rfl, hx⟩, ho, hm⟩)
                    · have hkN5 := HCN.out w5 hm
                      have HO5 := hid ho
                      have HK5 : Hid (Dk w5 g ks) := hid (HPQ.out.d.mv hm fun hc => hc HGG.out.1)
                      have HFF := hid hF
                      clear ho hm hF hkN' hk1'
                      go_wp2_with fail
                      refine (HDT.out w5 HK5.out).mono ?_
                      rintro e w6 ⟨(⟨-, rfl, hd⟩ | ⟨hF2, -⟩), hm6⟩
                      · have HK6 := hid hd
                        have HO6 := hid (HO5.out.mv hm6 (fun i hi => by rw [show i = g from hi]; exact HGG.out) HW0.out)
                        have HSM := hid (refSame_eq (ok := fun _ => True) (ok' := fun _ => True) (a := none) (b := none) 0 0 0 [] (w := w6) (Si.nil _ _ _) (Si.nil _ _ _) rfl (by decide))
                        clear hd hm6 hkN5
                        go_wp2_with fail
                        refine HSM.out.mono ?_
                        rintro e w7 ⟨rfl, hb7⟩
                        have HP7 : Hid (Duo C W w7 p g v1 v2 v3 ks) := hid ⟨HO6.out.below hb7, HK6.out.below hb7, HGG.out.1, HGG.out.2⟩
                        clear hb7
                        try go_wp2_with fail
                        go_meet
                        exact ⟨ks, HP7.out, HLEN.out⟩
                      · exact absurd hF2 (by have := HFF.out; omega)
                    · have hkN5 := HCN.out w5 hm
                      have HO5 := hid ho
                      have HK5 : Hid (Dk w5 g ks) := hid (HPQ.out.d.mv hm fun hc => hc HGG.out.1)
                      have HFF := hid hF
                      obtain ⟨ax, cx, rfl, hsx⟩ := hx
                      have HSX := hid hsx
                      have HLT := hid (tookZ_len hF)
                      have HGQ : Hid (g < wq.heap.size) := hid (HPQ.out.d.lt (by have := HPQ.out.a.ks.n2; omega))
                      clear ho hm hF hsx hkN' hk1'
                      go_wp2_with fail
                      refine (HDT.out w5 HK5.out).mono ?_
                      rintro e w6 ⟨(⟨hF2, -⟩ | ⟨-, ⟨y, rfl, hy⟩, hd⟩), hm6⟩
                      · exact absurd hF2 (by have := HFF.out; omega)
                      · have HK6 := hid hd
                        have HO6 := hid (HO5.out.mv hm6 (fun i hi => by rw [show i = g from hi]; exact HGG.out) HW0.out)
                        obtain ⟨ay, cy, rfl, hsy⟩ := hy
                        have HSM := hid (refSame_eq m cx cy (tookZ ks m) (si_mv HSX.out hm6 (fun i hi e => by have := HGQ.out; omega)) hsy HLT.out.symm hmb)
                        clear hd hm6 hsy hkN5
                        go_wp2_with fail
                        refine HSM.out.mono ?_
                        rintro e w7 ⟨rfl, hb7⟩
                        have HP7 : Hid (Duo C W w7 p g v1 v2 v3 (tookK ks m)) := hid ⟨HO6.out.below hb7, HK6.out.below hb7, HGG.out.1, HGG.out.2⟩
                        clear hb7
                        try go_wp2_with fail
                        go_meet
                        exact ⟨_, HP7.out, by rw [tookK_len]; exact HLEN.out⟩
                · have hg := own_give HPQ.out.a (fun b => b < W.heap.size) aL cL xh HX1.out (fun i hi => HPQ.out.a.near hi) (by have := HNX.out; omega)
                  rw [← HNX.out] at hg
                  have HG := hid hg
                  have HDG : Hid (∀ y, Dk y g ks → Si (fun b => b < W.heap.size) y aL xh → Calls Tryd.prog 14 #[.slice (some ⟨g, 0, none⟩) S S, .slice aL nx cL] y fun e w' => e = .returned (.int .i64 (giveE ks xh)) ∧ Dk w' g (gaveK ks xh) ∧ Mv (fun i => i = g) y w') := hid fun y hy hs => by
                    have := dGive_any (fun b => b < W.heap.size) g ks aL cL xh y hy HPQ.out.a.ks hs (fun i hi => (HXI.out i hi).2) (by have := HNX.out; omega)
                    rw [HLEN.out, ← HNX.out] at this
                    exact this
                  obtain ⟨EE, hEE⟩ : ∃ EE, EE = giveE ks xh := ⟨_, rfl⟩
                  rw [← hEE] at HG HDG
                  have hEF : (EE != EE) = false := by simp
                  clear hkd HNB hg hEE hkN' hk1'
                  go_wp2_with fail
                  refine HG.out.mono ?_
                  clear HG
                  rintro e w5 ⟨rfl, ho, hm⟩
                  have HO5 := hid ho
                  have HK5 : Hid (Dk w5 g ks) := hid (HPQ.out.d.mv hm fun hc => hc HGG.out.1)
                  have HX5 : Hid (Si (fun b => b < W.heap.size) w5 aL xh) := hid (si_mv HX1.out hm fun i hi hc => hc (HXI.out i hi).1)
                  clear ho hm
                  go_wp2_with fail
                  refine (HDG.out w5 HK5.out HX5.out).mono ?_
                  rintro e w6 ⟨rfl, hd, hm6⟩
                  have HP7 : Hid (Duo C W w6 p g v1 v2 v3 (gaveK ks xh)) := hid ⟨HO5.out.mv hm6 (fun i hi => by rw [show i = g from hi]; exact HGG.out) HW0.out, hd, HGG.out.1, HGG.out.2⟩
                  clear hd hm6
                  try go_wp2_with fail
                  go_meet
                  exact ⟨_, HP7.out, by rw [gaveK_len]; exact HLEN.out⟩
                · have HDG : Hid (∀ y, Dk y g ks → Calls Tryd.prog 16 #[.slice (some ⟨g, 0, none⟩) S S] y fun r w' => (∃ v, r = .returned v ∧ w'.ownsRow y.heap.size 3 1 v (pagesK isP ks).length (nvals (pagesK isP ks))) ∧ Dk w' g (mapK cK ks) ∧ Mv (fun i => i = g) y w') := hid fun y hy => by
                    have := dCommit_any g ks y hy (by have := HPQ.out.a.ks.n2; omega) (by have := HPQ.out.a.ks.n2048; omega)
                    rw [HLEN.out] at this
                    exact this
                  have HGQ : Hid (g < wq.heap.size) := hid (HPQ.out.d.lt (by have := HPQ.out.a.ks.n2; omega))
                  obtain ⟨nP, hnP⟩ : ∃ nP, nP = (intsK isP ks).length := ⟨_, rfl⟩
                  have HNP := hid hnP
                  have hPb : (nP : Int) ≤ 9223372036854775807 := by have h0 := HPQ.out.a.ks.n2048; have h1 := intsK_len isP ks; have h2 := pagesK_len isP ks; omega
                  clear hkd HNB hnP hkN' hk1'
                  go_wp2_with fail
                  refine (own_commit HPQ.out.a).mono ?_
                  rintro e w5 ⟨⟨x, rfl, hx⟩, ho, hm⟩
                  have HO5 := hid ho
                  have HK5 : Hid (Dk w5 g ks) := hid (HPQ.out.d.mv hm fun hc => hc HGG.out.1)
                  obtain ⟨ax, cx, rfl, hsx⟩ := hx
                  have HSX := hid hsx
                  rw [← HNP.out]
                  clear ho hm hsx
                  go_wp2_with fail
                  refine (HDG.out w5 HK5.out).mono ?_
                  rintro e w6 ⟨⟨y, rfl, hy⟩, hd, hm6⟩
                  have HK6 := hid hd
                  have HO6 := hid (HO5.out.mv hm6 (fun i hi => by rw [show i = g from hi]; exact HGG.out) HW0.out)
                  obtain ⟨ay, cy, rfl, -, hsy⟩ := owned_slice hy
                  rw [show (pagesK isP ks).length = nP by rw [HNP.out, intsK_len]]
                  have HSM := hid (refSame_eq nP cx cy (intsK isP ks) (si_mv HSX.out hm6 (fun i hi e => by have := HGQ.out; omega)) hsy HNP.out hPb)
                  clear hd hm6 hsy hy
                  go_wp2_with fail
                  refine HSM.out.mono ?_
                  rintro e w7 ⟨rfl, hb7⟩
                  have HP7 : Hid (Duo C W w7 p g v1 v2 v3 (mapK cK ks)) := hid ⟨HO6.out.below hb7, HK6.out.below hb7, HGG.out.1, HGG.out.2⟩
                  clear hb7
                  try go_wp2_with fail
                  go_meet
                  exact ⟨_, HP7.out, by rw [mapK_len]; exact HLEN.out⟩
                · have HDG : Hid (∀ y, Dk y g ks → Calls Tryd.prog 18 #[.slice (some ⟨g, 0, none⟩) S S] y fun r w' => (∃ v, r = .returned v ∧ w'.ownsRow y.heap.size 3 1 v (pagesK isS ks).length (nvals (pagesK isS ks))) ∧ Dk w' g (mapK aK ks) ∧ Mv (fun i => i = g) y w') := hid fun y hy => by
                    have := dAbort_any g ks y hy (by have := HPQ.out.a.ks.n2; omega) (by have := HPQ.out.a.ks.n2048; omega)
                    rw [HLEN.out] at this
                    exact this
                  have HGQ : Hid (g < wq.heap.size) := hid (HPQ.out.d.lt (by have := HPQ.out.a.ks.n2; omega))
                  obtain ⟨nP, hnP⟩ : ∃ nP, nP = (intsK isS ks).length := ⟨_, rfl⟩
                  have HNP := hid hnP
                  have hPb : (nP : Int) ≤ 9223372036854775807 := by have h0 := HPQ.out.a.ks.n2048; have h1 := intsK_len isS ks; have h2 := pagesK_len isS ks; omega
                  clear hkd HNB hnP hkN' hk1'
                  go_wp2_with fail
                  refine (own_abort HPQ.out.a).mono ?_
                  rintro e w5 ⟨⟨x, rfl, hx⟩, ho, hm⟩
                  have HO5 := hid ho
                  have HK5 : Hid (Dk w5 g ks) := hid (HPQ.out.d.mv hm fun hc => hc HGG.out.1)
                  obtain ⟨ax, cx, rfl, hsx⟩ := hx
                  have HSX := hid hsx
                  rw [← HNP.out]
                  clear ho hm hsx
                  go_wp2_with fail
                  refine (HDG.out w5 HK5.out).mono ?_
                  rintro e w6 ⟨⟨y, rfl, hy⟩, hd, hm6⟩
                  have HK6 := hid hd
                  have HO6 := hid (HO5.out.mv hm6 (fun i hi => by rw [show i = g from hi]; exact HGG.out) HW0.out)
                  obtain ⟨ay, cy, rfl, -, hsy⟩ := owned_slice hy
                  rw [show (pagesK isS ks).length = nP by rw [HNP.out, intsK_len]]
                  have HSM := hid (refSame_eq nP cx cy (intsK isS ks) (si_mv HSX.out hm6 (fun i hi e => by have := HGQ.out; omega)) hsy HNP.out hPb)
                  clear hd hm6 hsy hy
                  go_wp2_with fail
                  refine HSM.out.mono ?_
                  rintro e w7 ⟨rfl, hb7⟩
                  have HP7 : Hid (Duo C W w7 p g v1 v2 v3 (mapK aK ks)) := hid ⟨HO6.out.below hb7, HK6.out.below hb7, HGG.out.1, HGG.out.2⟩
                  clear hb7
                  try go_wp2_with fail
                  go_meet
                  exact ⟨_, HP7.out, by rw [mapK_len]; exact HLEN.out⟩
                · have hg := own_adopt HPQ.out.a (fun b => b < W.heap.size) aL cL xh HX1.out (fun i hi => HPQ.out.a.near hi) (by have := HNX.out; omega)
                  rw [← HNX.out] at hg
                  have HG := hid hg
                  have HDG : Hid (∀ y, Dk y g ks → Si (fun b => b < W.heap.size) y aL xh → Calls Tryd.prog 20 #[.slice (some ⟨g, 0, none⟩) S S, .slice aL nx cL] y fun e w' => e = .returned (.int .i64 (adoptE ks xh)) ∧ Dk w' g (adoptK ks xh) ∧ Mv (fun i => i = g) y w') := hid fun y hy hs => by
                    have := dAdopt_any (fun b => b < W.heap.size) g ks aL cL xh y hy HPQ.out.a.ks hs (fun i hi => (HXI.out i hi).2) (by have := HNX.out; omega)
                    rw [HLEN.out, ← HNX.out] at this
                    exact this
                  obtain ⟨EE, hEE⟩ : ∃ EE, EE = adoptE ks xh := ⟨_, rfl⟩
                  rw [← hEE] at HG HDG
                  have hEF : (EE != EE) = false := by simp
                  clear hkd HNB hg hEE hkN' hk1'
                  go_wp2_with fail
                  refine HG.out.mono ?_
                  clear HG
                  rintro e w5 ⟨rfl, ho, hm⟩
                  have HO5 := hid ho
                  have HK5 : Hid (Dk w5 g ks) := hid (HPQ.out.d.mv hm fun hc => hc HGG.out.1)
                  have HX5 : Hid (Si (fun b => b < W.heap.size) w5 aL xh) := hid (si_mv HX1.out hm fun i hi hc => hc (HXI.out i hi).1)
                  clear ho hm
                  go_wp2_with fail
                  refine (HDG.out w5 HK5.out HX5.out).mono ?_
                  rintro e w6 ⟨rfl, hd, hm6⟩
                  have HP7 : Hid (Duo C W w6 p g v1 v2 v3 (adoptK ks xh)) := hid ⟨HO5.out.mv hm6 (fun i hi => by rw [show i = g from hi]; exact HGG.out) HW0.out, hd, HGG.out.1, HGG.out.2⟩
                  clear hd hm6
                  try go_wp2_with fail
                  go_meet
                  exact ⟨_, HP7.out, by rw [adoptK_len]; exact HLEN.out⟩
              case rest =>
                obtain ⟨ks2, hp2, hl2⟩ := hcut
                have HP2 := hid hp2
                have HL2 := hid hl2
                clear hp2 hl2
                go_wp2_with fail
                refine (HTL.out wc ks2 HP2.out HL2.out).mono ?_
                rintro e w8 ⟨rfl, hb8⟩
                have HP8 := hid (HP2.out.below hb8)
                clear hb8
                go_wp2_with fail
                go_roundw
                case rel => exact ⟨i + 1, ks2, of_eq_true hin2, by omega, by go_num, HP8.out, HL2.out⟩
                case measure => simp [intOf]; omega
            · have hi22 : (i < 20) = False := eq_false (by omega)
              have hi2i : decide ((i : Int) < 20) = false := decide_eq_false hi2
              clear HTS
              go_wp2_with fail
              refine (known_any wr HPP.out.a.tab).mono ?_
              rintro e w5 ⟨rfl, hb5⟩
              have HP5 := hid (HPP.out.below hb5)
              clear hb5
              go_wp2_with fail
              refine (HTL.out w5 ks HP5.out HLEN.out).mono ?_
              rintro e w6 ⟨rfl, hb6⟩
              have HP6 := hid (HP5.out.below hb6)
              clear hb6
              go_wp2_with fail
              go_ret
              exact ⟨rfl, HP6.out.a.bel⟩
          · have hin2 : (i < n) = False := eq_false (by omega)
            clear hin
            clear HTS
            go_wp2_with fail
            refine (known_any wr HPP.out.a.tab).mono ?_
            rintro e w5 ⟨rfl, hb5⟩
            have HP5 := hid (HPP.out.below hb5)
            clear hb5
            go_wp2_with fail
            refine (HTL.out w5 ks HP5.out HLEN.out).mono ?_
            rintro e w6 ⟨rfl, hb6⟩
            have HP6 := hid (HP5.out.below hb6)
            clear hb6
            go_wp2_with fail
            go_ret
            exact ⟨rfl, HP6.out.a.bel⟩
      · exact absurd HE0.out h0
    · rw [← HEE.out] at h0 ⊢
      have hne : (E != 0) = true := by rw [bne_iff_ne]; exact h0
      have hee : (E != E) = false := by simp
      have hee2 : (E == E) = true := by simp
      have HH0 := hid h0
      clear h0
      go_wp2_with fail
      refine (HDN.out w1 HB1.out).mono ?_
      clear HDN
      rintro e w2 ⟨h2, hb2⟩
      rcases h2 with ⟨h3, -⟩ | ⟨-, rfl⟩
      · exact absurd (HEE.out.trans h3) HH0.out
      · have HB2 : Hid (Below W.heap.size W w2) := hid (HB1.out.trans (hb2.mono HB1.out.size))
        rw [← HEE.out]
        clear hb2
        go_wp2_with fail
        refine (known_any w2 (HT.out.below HB2.out)).mono ?_
        rintro e w6 ⟨rfl, hb6⟩
        have HB6 : Hid (Below W.heap.size W w6) := hid (HB2.out.trans (hb6.mono HB2.out.size))
        clear hb6
        go_wp2_with fail
        go_ret
        exact ⟨rfl, HB6.out⟩
end Go.Proofs.YtjgnnofpilmgoaaDoor
