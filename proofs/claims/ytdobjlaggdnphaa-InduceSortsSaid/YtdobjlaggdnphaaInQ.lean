/- THE LAW OF SORTING (layer 16), walked over the program's contracts. -/
import Derived.Test.YtdobjlaggdnphaaInL
namespace Go.Inc
open Go.RowKit
/-- Those of the first t in order that are first Ss. -/
def stT (x : List Int) (t : Nat) : List Nat := ((srT x x.length).take t).filter fun j => decide (j ∈ fsT x x.length)
theorem st_in {x : List Int} {t : Nat} (ht : t < x.length) (h : (srT x x.length).getD t 0 ∈ fsT x x.length) : stT x (t + 1) = stT x t ++ [(srT x x.length).getD t 0] := by
  have hl : t < (srT x x.length).length := by rw [srT_len]; exact ht
  unfold stT
  rw [List.take_succ_eq_append_getElem hl, List.filter_append]
  congr 1
  have e : (srT x x.length)[t] = (srT x x.length).getD t 0 := by rw [List.getD_eq_getElem?_getD, List.getElem?_eq_getElem hl]; rfl
  rw [e, List.filter_cons_of_pos (by simpa using h)]; rfl
theorem st_out {x : List Int} {t : Nat} (ht : t < x.length) (h : ¬ (srT x x.length).getD t 0 ∈ fsT x x.length) : stT x (t + 1) = stT x t := by
  have hl : t < (srT x x.length).length := by rw [srT_len]; exact ht
  unfold stT
  rw [List.take_succ_eq_append_getElem hl, List.filter_append]
  have e : (srT x x.length)[t] = (srT x x.length).getD t 0 := by rw [List.getD_eq_getElem?_getD, List.getElem?_eq_getElem hl]; rfl
  rw [e, List.filter_cons_of_neg (by simpa using h)]
  simp
theorem st_all (x : List Int) : stT x x.length = (srT x x.length).filter fun j => decide (j ∈ fsT x x.length) := by
  unfold stT
  rw [List.take_of_length_le (by rw [srT_len]; exact Nat.le_refl _)]
theorem st_len (x : List Int) (t : Nat) : (stT x t).length ≤ x.length := by
  unfold stT
  have h1 := List.length_filter_le (fun j => decide (j ∈ fsT x x.length)) ((srT x x.length).take t)
  rw [List.length_take, srT_len] at h1
  omega
theorem st_fs (x : List Int) : isFs x (stT x x.length) := by
  rw [st_all]
  refine ⟨(nodup_rise (srT_sorted (Nat.le_refl _))).filter _, fun j => ?_⟩
  rw [List.mem_filter, srT_mem, decide_eq_true_iff]
  exact ⟨fun h => h.2, fun h => ⟨(inF_mem.1 h).2.1, h⟩⟩
end Go.Inc
namespace Go.Proofs.Ytdobjlaggdnphaa
open Go.RowKit Go.Inc
set_option maxRecDepth 20000 in
set_option maxHeartbeats 4000000 in
theorem induceSorts_walk (ps : PI16) (W : World) (a : Option Addr) (c : Nat) (zs0 : List Int) (s0 : Int) (hs : Si (fun _ => True) W a zs0) (hlc : zs0.length ≤ c) (hcm : c ≤ maxLen) (hn : a = none → c = 0) :
    Calls Try.prog 5 #[.slice a zs0.length c, .int .i64 s0] W fun e w' => e = .returned (.bool true) ∧ Below W.heap.size W w' := by
  have HTX := hid (text15_any _ W (.slice a zs0.length c) zs0 s0 ⟨a, c, rfl, hs, hlc, hcm, hn⟩)
  clear hs hlc hcm hn
  go_enter Try.func5, Try.ntmps5
  go_wp2_with fail
  refine HTX.out.mono ?_
  rintro e w1 ⟨vx, X, rfl, hx, hck, hxl, hb⟩
  have HV := hid hx
  have HCK := hid hck
  have hxl2 : X.length ≤ 65536 := by omega
  have HXL := hid hxl2
  have HI := hid (InT.of hck)
  have HB := hid hb
  have HSR := hid (refSort_so _ w1 vx X hx hxl2 (InT.of hck).right)
  have hml := fs_half (x := X)
  obtain ⟨n, hn⟩ : ∃ n, n = X.length := ⟨_, rfl⟩
  have HN := hid hn
  have hnb : (n : Int) ≤ 121 := by omega
  obtain ⟨F, hF⟩ : ∃ F, F = fsT X X.length := ⟨_, rfl⟩
  have HF := hid hF
  obtain ⟨m, hm⟩ : ∃ m, m = F.length := ⟨_, rfl⟩
  have HM := hid hm
  rw [← hF, ← hm] at hml
  have hmb : (m : Int) ≤ 121 := by omega
  obtain ⟨S, hS⟩ : ∃ S, S = srT X X.length := ⟨_, rfl⟩
  have HS := hid hS
  have HSL : Hid (S.length = n) := hid (by rw [hS, srT_len, hn])
  rw [← hS] at HSR
  clear hx hck hxl hxl2 hb HTX hml hn hF hm hS
  go_wp2_with fail
  refine HSR.out.mono ?_
  rintro e w2 ⟨u2, rfl, h2, hb⟩
  obtain ⟨a2, c2, rfl, hs2, hc2, hm2, hn2⟩ := h2
  have HU2 := hid hs2
  have HUC := hid (And.intro hc2 (And.intro hm2 hn2))
  have HV2 := hid (HV.out.below hb)
  have HB2 := hid (HB.out.trans (hb.mono HB.out.size))
  have HFR := hid (refFirsts_so _ w2 vx X HV2.out HXL.out HI.out.right)
  rw [← HF.out] at HFR
  have hsl : (zsN S).length = n := by rw [zsN_len, HSL.out]
  rw [hsl]
  rw [hsl] at HUC
  clear hs2 hc2 hm2 hn2 hb hsl HSR HB HV
  go_wp2_with fail
  refine HFR.out.mono ?_
  rintro e w3 ⟨u3, rfl, h3, hb⟩
  obtain ⟨a3, c3, rfl, hs3, -, -, -⟩ := h3
  have HU3 := hid hs3
  have HU23 := hid (HU2.out.below hb)
  have HV3 := hid (HV2.out.below hb)
  have HB3 := hid (HB2.out.trans (hb.mono HB2.out.size))
  have hfl : (zsN F).length = m := by rw [zsN_len, ← HM.out]
  rw [hfl]
  clear hs3 hb hfl HFR HB2 HV2 HU2
  go_wp2_with fail
  go_loopw [8, 9, 10] (fun u i _ wr => ∃ t : Nat, t ≤ n ∧ i = .int .i64 (t : Int) ∧ wr.ownsRow w3.heap.size 3 1 u (stT X t).length (nvals (stT X t)) ∧ Below w3.heap.size w3 wr) (fun _ i _ _ => n - (intOf i).toNat)
  case atStart => exact ⟨0, Nat.zero_le _, rfl, World.ownsRow_nil _ _ _ _, Below.refl _ _⟩
  case round =>
    obtain ⟨t, ht, rfl, ho, hb⟩ := hrel
    have HO := hid ho
    have HBR := hid hb
    clear ho hb
    by_cases hlt : t < n
    · have hti : (t < n) = True := eq_true hlt
      have HLT := hid hlt
      have htb : (t : Int) < (n : Int) := by omega
      obtain ⟨v, hv⟩ : ∃ v, v = S.getD t 0 := ⟨_, rfl⟩
      have HVV := hid hv
      have HST := hid (st_len X t)
      clear hlt hv
      go_wp2_with fail
      go_loopw [8, 10] (fun u k wq => ∃ kk : Nat, kk ≤ m ∧ k = .int .i64 (kk : Int) ∧ wq.ownsRow w3.heap.size 3 1 u (stT X t ++ if v ∈ F ∧ F.idxOf v < kk then [v] else []).length (nvals (stT X t ++ if v ∈ F ∧ F.idxOf v < kk then [v] else [])) ∧ Below w3.heap.size w3 wq) (fun _ k _ => m - (intOf k).toNat)
      case atStart => exact ⟨0, Nat.zero_le _, rfl, by rw [if_neg (by omega), List.append_nil]; exact HO.out, HBR.out⟩
      case round =>
        clear HO HBR
        obtain ⟨k, hk, rfl, ho, hb⟩ := hrel
        have HO := hid ho
        have HBR := hid hb
        clear ho hb
        generalize wr = wq at *
        by_cases hkm : k < m
        · have hki : (k < m) = True := eq_true hkm
          have HKM := hid hkm
          have hkb : (k : Int) < (m : Int) := by omega
          obtain ⟨b3, o3, rfl, hc3⟩ : ∃ b3 o3, a3 = some ⟨b3, o3, none⟩ ∧ wq.cell? ⟨b3, o3 + k, none⟩ = some (.int .i64 ((F.getD k 0 : Nat) : Int)) := by
            rcases HU3.out.below HBR.out with h | ⟨b, o, h, _, hc⟩
            · have h1 := zsN_len F
              rw [h, ← HM.out] at h1; simp at h1; omega
            · exact ⟨b, o, h, by rw [hc k (by rw [zsN_len, ← HM.out]; exact hkm), zsN_get]⟩
          obtain ⟨b2, o2, rfl, hc2⟩ : ∃ b2 o2, a2 = some ⟨b2, o2, none⟩ ∧ wq.cell? ⟨b2, o2 + t, none⟩ = some (.int .i64 (v : Int)) := by
            rcases HU23.out.below HBR.out with h | ⟨b, o, h, _, hc⟩
            · have h1 := zsN_len S
              rw [h, HSL.out] at h1; simp at h1; have := HLT.out; omega
            · exact ⟨b, o, h, by rw [hc t (by rw [zsN_len, HSL.out]; exact HLT.out), zsN_get, ← HVV.out]⟩
          have HND : Hid (F.Nodup) := hid (by rw [HF.out]; exact fs_nodup X)
          obtain ⟨u, hu⟩ : ∃ u, u = F.getD k 0 := ⟨_, rfl⟩
          have HU := hid hu
          rw [← hu] at hc3
          clear hkm hu
          by_cases huv : u = v
          · have hub : ((u : Int) == (v : Int)) = true := by rw [beq_iff_eq]; omega
            have hix : F.idxOf v = k := by rw [← huv, HU.out]; exact idx_getD HND.out (by rw [← HM.out]; exact HKM.out)
            have hvF : v ∈ F := by rw [← huv, HU.out]; exact getD_inN (by rw [← HM.out]; exact HKM.out)
            have hold := HO.out
            rw [if_neg (by omega), List.append_nil] at hold
            have HOL : Hid (wq.drew.ownsRow w3.heap.size 3 1 _ (stT X t).length (nvals (stT X t))) := hid hold
            have HNEW : Hid (stT X t ++ (if v ∈ F ∧ F.idxOf v < k + 1 then [v] else []) = stT X t ++ [v]) := hid (by rw [if_pos ⟨hvF, by omega⟩])
            have HBD := hid HBR.out.drew
            have hc22 : wq.drew.cell? ⟨b2, o2 + t, none⟩ = some (.int .i64 (v : Int)) := hc2
            obtain ⟨l, hle⟩ : ∃ l, l = stT X t := ⟨_, rfl⟩
            rw [← hle] at HOL HNEW HST
            have HLE := hid hle
            clear huv hix hvF hold HO HBR hle
            go_wp2_with fail
            go_region
            generalize wq.drew = wd at *
            go_wp2_with (refine wpList_append_any rfl (.tmp 41) (.tmp 46) 22 rfl w3.heap.size 3 (.int .i64 0) 8 Try.underlying22 infoIntS rfl _ _ _ rfl (HOL.out.alloc _) (some ⟨wd.heap.size, 0, none⟩) 1 1 [.int .i64 (v : Int)] rfl rfl (by intro h; cases h) (one_new wd _ _) (by simp [Value.oneCell']) (by have := HST.out; have := HXL.out; unfold maxLen; omega) (by have := HST.out; have := HXL.out; omega) (by have := HBD.out.size; simp; omega) ?_)
            intro v4 w4 hv4 hg4 _
            have HB4 := hid (below_owned (w0 := w3) (HBD.out.alloc HBD.out.size _) (HOL.out.alloc _) (Nat.le_refl _) hg4)
            have HV4 : Hid (w4.ownsRow w3.heap.size 3 1 v4 (l ++ [v]).length (nvals (l ++ [v]))) := hid (by rw [nvals_snoc, List.length_append]; exact hv4)
            clear hv4 hg4 HOL HBD
            go_wp2_with fail
            go_roundw
            case rel => exact ⟨k + 1, HKM.out, by go_num, by rw [← HLE.out, HNEW.out]; exact HV4.out, HB4.out⟩
            case measure => simp [intOf]; have := HKM.out; omega
          · have hub : ((u : Int) == (v : Int)) = false := by rw [beq_eq_false_iff_ne]; omega
            have HIX : Hid ((if v ∈ F ∧ F.idxOf v < k + 1 then [v] else []) = if v ∈ F ∧ F.idxOf v < k then [v] else []) := hid (by
              by_cases hvF : v ∈ F
              · have hne : F.idxOf v ≠ k := fun e => huv (by rw [HU.out, ← e]; exact (idx_at hvF).2)
                by_cases h : F.idxOf v < k
                · rw [if_pos ⟨hvF, by omega⟩, if_pos ⟨hvF, h⟩]
                · rw [if_neg (by omega), if_neg (by omega)]
              · rw [if_neg (fun h => hvF h.1), if_neg (fun h => hvF h.1)])
            have hod := HO.out
            rw [← HIX.out] at hod
            have HOD : Hid (wq.drew.ownsRow w3.heap.size 3 1 _ _ _) := hid hod
            have HBD := hid HBR.out.drew
            clear huv HO HBR hod
            go_wp2_with fail
            go_region
            go_wp2_with fail
            go_roundw
            case rel => exact ⟨k + 1, HKM.out, by go_num, HOD.out, HBD.out⟩
            case measure => simp [intOf]; have := HKM.out; omega
        · have hki : (k < m) = False := eq_false hkm
          obtain rfl : m = k := by omega
          have HRN : Hid ((stT X t ++ if v ∈ F ∧ F.idxOf v < m then [v] else []) = stT X (t + 1)) := hid (by
            by_cases hvF : v ∈ F
            · rw [if_pos ⟨hvF, by rw [HM.out]; exact (idx_at hvF).1⟩, st_in (by rw [← HN.out]; exact HLT.out) (by rw [← HS.out, ← HVV.out, ← HF.out]; exact hvF), ← HS.out, ← HVV.out]
            · rw [if_neg (fun h => hvF h.1), List.append_nil, st_out (by rw [← HN.out]; exact HLT.out) (by rw [← HS.out, ← HVV.out, ← HF.out]; exact hvF)])
          have ho2 := HO.out
          rw [HRN.out] at ho2
          have HO2 := hid ho2
          clear hkm ho2 HO
          go_wp2_with fail
          go_roundw
          case rel => exact ⟨t + 1, HLT.out, by go_num, HO2.out, HBR.out⟩
          case measure => simp [intOf]; have := HLT.out; omega
    · have hti : (t < n) = False := eq_false hlt
      obtain rfl : n = t := by omega
      have ho2 := HO.out
      have HSO := hid (So.ownedN ho2)
      have HV4 := hid (HV3.out.below HBR.out)
      have HU4 := hid (HU23.out.below HBR.out)
      have HB4 := hid (HB3.out.trans (HBR.out.mono HB3.out.size))
      have hfs := st_fs X
      have hin := ind_sort HI.out
      rw [← st_all] at hin
      rw [← HN.out] at hfs hin
      have HIN := hid (ps.pInduce _ _ wr vx _ X (stT X n) HV4.out HSO.out HXL.out HCK.out hfs)
      rw [hin, HN.out, ← HS.out] at HIN
      clear hlt ho2 hfs hin HO HBR HSO HV3 HU23 HB3
      go_wp2_with fail
      refine HIN.out.mono ?_
      rintro e w5 ⟨u5, rfl, h5, hb⟩
      obtain ⟨a5, c5, rfl, hs5, hc5, hm5, hn5⟩ := h5
      have hl5 : (zsN S).length = n := by rw [zsN_len, HSL.out]
      rw [hl5]
      have HS5 := hid hs5
      have HU5 := hid (HU4.out.below hb)
      have HB5 := hid (HB4.out.trans (hb.mono HB4.out.size))
      have HKN := hid (known16_any ps w5)
      clear hs5 hc5 hm5 hn5 hb hl5 HIN HV4 HU4 HB4
      go_wp2_with fail
      refine HKN.out.mono ?_
      rintro e w6 ⟨rfl, hb⟩
      have HS6 := hid (HS5.out.below hb)
      have HU6 := hid (HU5.out.below hb)
      have HB6 := hid (HB5.out.trans (hb.mono HB5.out.size))
      have HSM := hid (refSame_any _ _ a5 a2 c5 c2 (zsN S) (zsN S) w6 HS6.out HU6.out (by rw [zsN_len, HSL.out]; omega))
      have hl5 : (zsN S).length = n := by rw [zsN_len, HSL.out]
      rw [hl5, decide_eq_true rfl] at HSM
      clear hb hl5 HKN HS5 HU5 HB5
      go_wp2_with fail
      refine HSM.out.mono ?_
      rintro e w7 ⟨rfl, hb⟩
      have HB7 := hid (HB6.out.trans (hb.mono HB6.out.size))
      clear hb HSM HS6 HU6 HB6
      go_wp2_with fail
      go_ret
      exact ⟨rfl, HB7.out⟩
end Go.Proofs.Ytdobjlaggdnphaa
