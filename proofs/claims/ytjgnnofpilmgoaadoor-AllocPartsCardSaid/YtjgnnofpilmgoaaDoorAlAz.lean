/- THE LAW AllocAborts: the walk. -/
import Derived.Test.YtjgnnofpilmgoaaDoorAlNz
import Derived.Test.YtjgnnofpilmgoaaDoorAlOpen
namespace Go.Proofs.YtjgnnofpilmgoaaDoor
open Go.RowKit Go.Inc

theorem kind_lt (x m : Int) (hm : 0 < m) : 0 ≤ (IntKind.u64.wrap x).tmod m ∧ (IntKind.u64.wrap x).tmod m < m := by
  have h0 : 0 ≤ IntKind.u64.wrap x := by rw [IntKind.wrap_u64]; omega
  rw [Int.tmod_eq_emod_of_nonneg h0]
  exact ⟨Int.emod_nonneg _ (by omega), Int.emod_lt_of_pos _ hm⟩
/-- What an abort leaves. -/
theorem abort_put {ks : List Nat} {zs : List Int} (h : ∀ z ∈ zs, kd ks z.toNat = 1) : mapK aK (putK ks zs 3) = mapK aK ks := ext_kd (by rw [mapK_len, mapK_len, putK_len]) fun i hi => by
  rw [mapK_len, putK_len] at hi
  unfold mapK
  rw [kd_map _ (by rw [putK_len]; exact hi), kd_map _ hi, kd_putK hi]
  split
  · rename_i hm
    have := h _ hm
    rw [show ((i : Nat) : Int).toNat = i from rfl] at this
    rw [this]; decide
  · rfl
theorem abort_gave {ks : List Nat} {zs : List Int} (h : ∀ z ∈ zs, isG (kd ks z.toNat) = true) : mapK aK (giveK ks zs) = mapK aK ks := ext_kd (by rw [mapK_len, mapK_len, giveK_len]) fun i hi => by
  rw [mapK_len, giveK_len] at hi
  unfold mapK
  rw [kd_map _ (by rw [giveK_len]; exact hi), kd_map _ hi, kd_giveK hi]
  split
  · rename_i hm
    have := h _ hm
    rw [show ((i : Nat) : Int).toNat = i from rfl] at this
    unfold isG at this
    simp at this
    rcases this with e | e <;> rw [e] <;> decide
  · rfl
theorem abort_took (ks : List Nat) (n : Nat) : mapK aK (tookK ks n) = mapK aK ks := abort_put fun z hz => by
  obtain ⟨i, rfl, _, h⟩ := tookZ_mem hz
  exact h
theorem abort_adopt (ks : List Nat) (zs : List Int) : mapK aK (adoptK ks zs) = mapK aK ks := by
  unfold adoptK
  split
  · rename_i he
    exact abort_put fun z hz => isF_iff.1 ((chkE_zero (by decide) he).2.1 z hz)
  · rfl
theorem abort_give (ks : List Nat) (zs : List Int) : mapK aK (gaveK ks zs) = mapK aK ks := by
  unfold gaveK
  split
  · rename_i he
    exact abort_gave (chkE_zero (by decide) he).2.1
  · rfl
theorem abort_new (n : Nat) (zs : List Int) : mapK aK (newK n zs) = newK n zs := ext_kd (mapK_len _ _) fun i hi => by
  rw [mapK_len] at hi
  unfold mapK
  rw [kd_map _ hi]
  rw [newK_len] at hi
  unfold newK
  rw [kd_putK (by rw [freshK_len]; exact hi)]
  split
  · decide
  · rw [kd_freshK hi]
    split <;> decide
/-- Two allocators side by side. -/
structure Pair (C D : Nat → Nat) (w z : World) (p q : Nat) (v1 v2 v3 u1 u2 u3 : Value) (ks k0 : List Nat) : Prop where
  a : Own C w z p v1 v2 v3 ks
  b : Own D w z q u1 u2 u3 k0
  apart : ∀ i, C i = 0 ∨ D i = 0
section
variable {C D : Nat → Nat} {w z z' : World} {p q : Nat} {v1 v2 v3 u1 u2 u3 : Value} {ks ks' k0 : List Nat}
theorem Pair.below (h : Pair C D w z p q v1 v2 v3 u1 u2 u3 ks k0) (hb : Below z.heap.size z z') : Pair C D w z' p q v1 v2 v3 u1 u2 u3 ks k0 := ⟨h.a.below hb, h.b.below hb, h.apart⟩
theorem Pair.turn (h : Pair C D w z p q v1 v2 v3 u1 u2 u3 ks k0) (hm : Mv (fun i => C i ≠ 0) z z') (ha : Own C w z' p v1 v2 v3 ks') (h0 : 0 < w.heap.size) : Pair C D w z' p q v1 v2 v3 u1 u2 u3 ks' k0 :=
  ⟨ha, h.b.mv hm (fun i hi => ⟨(h.apart i).resolve_left hi, h.a.low i hi⟩) h0, h.apart⟩
end
set_option maxRecDepth 20000 in
set_option maxHeartbeats 4000000 in
theorem allocAborts_walk (a0 : Option Addr) (c0 : Nat) (zs : List Int) (a : Option Addr) (c : Nat) (ts : List Aac) (W : World) (hz : Si (fun _ => True) W a0 zs) (hzc : zs.length ≤ c0) (hzm : c0 ≤ maxLen) (hts : AacS (fun _ => True) W a ts) (hlc : ts.length ≤ c) (hcm : c ≤ maxLen) (hT : Tab W) :
    Calls Tryd.prog 5 #[.slice a0 zs.length c0, .slice a ts.length c] W fun e w' => e = .returned (.bool true) ∧ Below W.heap.size W w' := by
  have HTS := hid hts.old
  have HT := hid hT
  have HW0 : Hid (0 < W.heap.size) := hid (cell_lt (hT 0 (by decide)))
  have hcm2 : (ts.length : Int) ≤ 9223372036854775807 := by unfold maxLen at hcm; omega
  obtain ⟨n, hn⟩ : ∃ n, n = ts.length := ⟨_, rfl⟩
  have HN := hid hn
  rw [← hn] at hcm2 hlc ⊢
  obtain ⟨zh, hzh⟩ : ∃ zh, zh = zs.take 10 := ⟨_, rfl⟩
  have hmin : min (zs.length : Int) 10 = (zh.length : Int) := by rw [hzh, List.length_take]; omega
  have HZ : Hid (Si (fun b => b < W.heap.size) W a0 zh) := hid (by rw [hzh]; exact (hz.mono fun _ _ h => h).front 10)
  have hz10 : (zh.length : Int) ≤ 10 := by omega
  have hzc2 : (zh.length : Int) ≤ c0 := by omega
  have hzl : (zh.length : Int) ≤ zs.length := by omega
  have hc02 : (c0 : Int) ≤ 9223372036854775807 := by unfold maxLen at hzm; omega
  obtain ⟨nz, hnz⟩ : ∃ nz, nz = zs.length := ⟨_, rfl⟩
  obtain ⟨nh, hnh⟩ : ∃ nh, nh = zh.length := ⟨_, rfl⟩
  have HNH := hid hnh
  rw [← hnz] at hzc hmin hzl ⊢
  rw [← hnh] at hmin hz10 hzc2 hzl
  have HNEW : Hid (∀ x, Below W.heap.size W x → Calls Tryd.prog 7 #[.int .i64 30, .slice a0 nh c0] x fun e z' => ((newE 30 zh = 0 ∧ ∃ C p v1 v2 v3, e = .returned (.tuple #[.pointer (some ⟨p, 0, none⟩), .int .i64 0]) ∧ Own C W z' p v1 v2 v3 (newK 30 zh) ∧ ∀ i, C i ≠ 0 → x.heap.size ≤ i) ∨
      (newE 30 zh ≠ 0 ∧ e = .returned (.tuple #[.pointer none, .int .i64 (newE 30 zh)]))) ∧ Below x.heap.size x z') := hid fun x hx => by
    rw [hnh]
    exact own_new (fun b => b < W.heap.size) 30 a0 c0 zh x hx (HZ.out.below hx) (by decide) (by decide) (by omega) (HT.out.below hx)
  have HEB := hid (chkE_bnd (freshK 30) zh isF (wrong := 8) (by decide))
  obtain ⟨E, hE⟩ : ∃ E, E = newE 30 zh := ⟨_, rfl⟩
  have HEE := hid hE
  clear hts hT hn hz hzh hnz hnh hE
  go_enter Tryd.func5, Tryd.ntmps5
  go_wp2_with fail
  refine (HNEW.out W (Below.refl _ _)).mono ?_
  rintro e w1 ⟨h1, hb1⟩
  have HB1 := hid hb1
  clear hb1
  rcases h1 with ⟨h0, C, p, v1, v2, v3, rfl, ho, hlo⟩ | ⟨h0, rfl⟩
  · have HO1 := hid ho
    have HLO1 := hid hlo
    have HE0 := hid h0
    clear ho hlo h0
    go_wp2_with fail
    refine (HNEW.out w1 HO1.out.bel).mono ?_
    clear HNEW
    rintro e w2 ⟨h2, hb2⟩
    rcases h2 with ⟨h0, D, q, u1, u2, u3, rfl, ho, hlo⟩ | ⟨h0, -⟩
    · have HP2 : Hid (Pair C D W w2 p q v1 v2 v3 u1 u2 u3 (newK 30 zh) (newK 30 zh)) := hid ⟨HO1.out.below hb2, ho, fun i => by
        by_cases hi : C i = 0
        · exact .inl hi
        · right
          have h1 := HO1.out.al.old i hi
          exact Decidable.byContradiction fun hd => by have := hlo i hd; omega⟩
      clear ho hlo hb2 h0
      go_wp2_with fail
      go_loopw [9] (fun i wr => ∃ (i' : Nat) (ks : List Nat), i' ≤ n ∧ i' ≤ 20 ∧ i = .int .i64 (i' : Int) ∧ Pair C D W wr p q v1 v2 v3 u1 u2 u3 ks (newK 30 zh) ∧ mapK aK ks = newK 30 zh) (fun i _ => 20 - (intOf i).toNat)
      case atStart => exact ⟨0, _, Nat.zero_le _, Nat.zero_le _, rfl, HP2.out, abort_new _ _⟩
      case round =>
        obtain ⟨i, ks, hi, hi20, rfl, hp, hab⟩ := hrel
        have HPP := hid hp
        have HAB := hid hab
        clear hp hab HP2
        by_cases hin : (i : Int) < n
        · have hin2 : (i < n) = True := eq_true (by omega)
          by_cases hi2 : (i : Int) < 20
          · obtain ⟨t, ht⟩ : ∃ t, ts[i]? = some t := ⟨_, List.getElem?_eq_getElem (by have := HN.out; omega)⟩
            obtain ⟨ba, oa, aL, cL, rfl, hok, hk1, hkN, hk2, hsi, hlL, hcL, hkb, hNb⟩ := HTS.out.below HPP.out.a.bel i t ht
            obtain ⟨xh, hxh⟩ : ∃ xh, xh = t.L.take 10 := ⟨_, rfl⟩
            have hmin2 : min (t.L.length : Int) 10 = (xh.length : Int) := by rw [hxh, List.length_take]; omega
            have HX : Hid (Si (fun b => b < W.heap.size) wr aL xh) := hid (by rw [hxh]; exact hsi.front 10)
            have hx20 : (xh.length : Int) ≤ 10 := by omega
            have hxc : (xh.length : Int) ≤ cL := by omega
            have hxl : (xh.length : Int) ≤ t.L.length := by omega
            have hcL2 : (cL : Int) ≤ 9223372036854775807 := by unfold maxLen at hcL; omega
            obtain ⟨nL, hnL⟩ : ∃ nL, nL = t.L.length := ⟨_, rfl⟩
            rw [← hnL] at hk2 hmin2 hxl
            obtain ⟨kk, hkk⟩ : ∃ kk, kk = t.kind := ⟨_, rfl⟩
            rw [← hkk] at hk1
            obtain ⟨NN, hNN⟩ : ∃ NN, NN = t.N := ⟨_, rfl⟩
            rw [← hNN] at hkN hNb
            obtain ⟨nx, hnx⟩ : ∃ nx, nx = xh.length := ⟨_, rfl⟩
            have HNX := hid hnx
            rw [← hnx] at hmin2 hx20 hxc hxl
            have hkd := kind_lt kk 3 (by decide)
            obtain ⟨z, hz⟩ : ∃ z, z = (IntKind.u64.wrap kk).tmod 3 := ⟨_, rfl⟩
            rw [← hz] at hkd
            have hzz := hz.symm
            have HNB := hid hNb
            clear hin ht hxh hnL hkk hsi hlL hcL hok hnx hNN hz hkb hNb
            go_wp2_with fail
            go_quiet (fail)
            have HBQ : Hid (Below wr.heap.size wr (wr.drewN nq)) := hid (below_drewN wr nq)
            have hk1' := (HBQ.out.cell (cell_lt hk1)).trans hk1
            have hkN' := (HBQ.out.cell (cell_lt hkN)).trans hkN
            have HPQ := hid (HPP.out.below HBQ.out)
            have HX1 := hid (HX.out.below HBQ.out)
            generalize wr.drewN nq = wq at *
            clear hk1 hk2 hkN HPP HX HBQ
            rcases (by omega : z = 0 ∨ z = 1 ∨ z = 2) with rfl | rfl | rfl
            · by_cases hneg : NN < 0
              · clear hkd HNB
                go_wp2_with fail
                refine (take_neg p NN wq hneg).mono ?_
                rintro e w5 ⟨rfl, hb5⟩
                have HP5 := hid (HPQ.out.below hb5)
                clear hb5
                go_wp2_with fail
                go_roundw
                case rel => exact ⟨i + 1, ks, of_eq_true hin2, by omega, by go_num, HP5.out, HAB.out⟩
                case measure => simp [intOf]; omega
              · obtain ⟨m, rfl⟩ := Int.eq_ofNat_of_zero_le (show (0 : Int) ≤ NN by omega)
                have HTK := hid (own_take HPQ.out.a m HNB.out.2)
                clear hneg hkd HNB
                go_wp2_with fail
                refine HTK.out.mono ?_
                clear HTK
                rintro e w5 (⟨-, rfl, ho, hm⟩ | ⟨-, ⟨x, rfl, -⟩, ho, hm⟩)
                · have HP5 := hid (HPQ.out.turn hm ho HW0.out)
                  clear ho hm
                  go_wp2_with fail
                  go_roundw
                  case rel => exact ⟨i + 1, ks, of_eq_true hin2, by omega, by go_num, HP5.out, HAB.out⟩
                  case measure => simp [intOf]; omega
                · have HP5 := hid (HPQ.out.turn hm ho HW0.out)
                  clear ho hm
                  go_wp2_with fail
                  go_roundw
                  case rel => exact ⟨i + 1, _, of_eq_true hin2, by omega, by go_num, HP5.out, by rw [abort_took]; exact HAB.out⟩
                  case measure => simp [intOf]; omega
            · have hg := own_give HPQ.out.a (fun b => b < W.heap.size) aL cL xh HX1.out (fun i hi => HPQ.out.a.near hi) (by have := HNX.out; omega)
              rw [← HNX.out] at hg
              have HG := hid hg
              clear hkd HNB hg
              go_wp2_with fail
              refine HG.out.mono ?_
              clear HG
              rintro e w5 ⟨rfl, ho, hm⟩
              have HP5 := hid (HPQ.out.turn hm ho HW0.out)
              clear ho hm
              go_wp2_with fail
              go_roundw
              case rel => exact ⟨i + 1, _, of_eq_true hin2, by omega, by go_num, HP5.out, by rw [abort_give]; exact HAB.out⟩
              case measure => simp [intOf]; omega
            · have hg := own_adopt HPQ.out.a (fun b => b < W.heap.size) aL cL xh HX1.out (fun i hi => HPQ.out.a.near hi) (by have := HNX.out; omega)
              rw [← HNX.out] at hg
              have HG := hid hg
              clear hkd HNB hg
              go_wp2_with fail
              refine HG.out.mono ?_
              clear HG
              rintro e w5 ⟨rfl, ho, hm⟩
              have HP5 := hid (HPQ.out.turn hm ho HW0.out)
              clear ho hm
              go_wp2_with fail
              go_roundw
              case rel => exact ⟨i + 1, _, of_eq_true hin2, by omega, by go_num, HP5.out, by rw [abort_adopt]; exact HAB.out⟩
              case measure => simp [intOf]; omega
          · have hi22 : (i < 20) = False := eq_false (by omega)
            have hi2i : decide ((i : Int) < 20) = false := decide_eq_false hi2
            clear HTS
            go_wp2_with fail
            refine (own_abort HPP.out.a).mono ?_
            rintro e w5 ⟨⟨x, rfl, -⟩, ho, hm⟩
            rw [HAB.out] at ho
            have HP5 := hid (HPP.out.turn hm ho HW0.out)
            clear ho hm
            go_wp2_with fail
            refine (known_any w5 HP5.out.a.tab).mono ?_
            rintro e w6 ⟨rfl, hb6⟩
            have HP6 := hid (HP5.out.below hb6)
            clear hb6
            go_wp2_with fail
            refine (allocSame_eq HP6.out.a.al HP6.out.b.al).mono ?_
            rintro e w7 ⟨rfl, hb7⟩
            have HP7 := hid (HP6.out.below hb7)
            clear hb7
            go_wp2_with fail
            refine (allocSame_eq HP7.out.b.al HP7.out.a.al).mono ?_
            rintro e w8 ⟨rfl, hb8⟩
            have HP8 := hid (HP7.out.below hb8)
            clear hb8
            go_wp2_with fail
            refine (allocSame_some_nil p w8).mono ?_
            rintro e w9 ⟨rfl, rfl⟩
            go_wp2_with fail
            go_ret
            exact ⟨rfl, HP8.out.a.bel⟩
        · have hin2 : (i < n) = False := eq_false (by omega)
          clear hin
          clear HTS
          go_wp2_with fail
          refine (own_abort HPP.out.a).mono ?_
          rintro e w5 ⟨⟨x, rfl, -⟩, ho, hm⟩
          rw [HAB.out] at ho
          have HP5 := hid (HPP.out.turn hm ho HW0.out)
          clear ho hm
          go_wp2_with fail
          refine (known_any w5 HP5.out.a.tab).mono ?_
          rintro e w6 ⟨rfl, hb6⟩
          have HP6 := hid (HP5.out.below hb6)
          clear hb6
          go_wp2_with fail
          refine (allocSame_eq HP6.out.a.al HP6.out.b.al).mono ?_
          rintro e w7 ⟨rfl, hb7⟩
          have HP7 := hid (HP6.out.below hb7)
          clear hb7
          go_wp2_with fail
          refine (allocSame_eq HP7.out.b.al HP7.out.a.al).mono ?_
          rintro e w8 ⟨rfl, hb8⟩
          have HP8 := hid (HP7.out.below hb8)
          clear hb8
          go_wp2_with fail
          refine (allocSame_some_nil p w8).mono ?_
          rintro e w9 ⟨rfl, rfl⟩
          go_wp2_with fail
          go_ret
          exact ⟨rfl, HP8.out.a.bel⟩
    · exact absurd HE0.out h0
  · rw [← HEE.out] at h0 HNEW ⊢
    have hne : (E != 0) = true := by rw [bne_iff_ne]; exact h0
    go_wp2_with fail
    refine (HNEW.out w1 HB1.out).mono ?_
    clear HNEW
    rintro e w2 ⟨h2, hb2⟩
    rcases h2 with ⟨h3, -⟩ | ⟨-, rfl⟩
    · exact absurd h3 h0
    · have HB2 : Hid (Below W.heap.size W w2) := hid (HB1.out.trans (hb2.mono HB1.out.size))
      clear hb2 h0
      go_wp2_with fail
      refine (known_any w2 (HT.out.below HB2.out)).mono ?_
      rintro e w6 ⟨rfl, hb6⟩
      have HB6 : Hid (Below W.heap.size W w6) := hid (HB2.out.trans (hb6.mono HB2.out.size))
      clear hb6
      go_wp2_with fail
      refine (allocSame_nil w6).mono ?_
      rintro e w7 ⟨rfl, rfl⟩
      go_wp2_with fail
      go_ret
      exact ⟨rfl, HB6.out⟩
end Go.Proofs.YtjgnnofpilmgoaaDoor
