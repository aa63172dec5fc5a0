/- CONTRACTS: the document's allocator: Take, New. -/
import Derived.Test.YtjgnnofpilmgoaaDoorAdD
import Derived.Test.YtjgnnofpilmgoaaDoorAlL
namespace Go.Proofs.YtjgnnofpilmgoaaDoor
open Go.RowKit Go.Inc

theorem dTake_neg (v : Value) (n : Int) (w : World) (h : n < 0) : Calls Tryd.prog 11 #[v, .int .i64 n] w fun e w' => e = .returned (.tuple #[.slice none 0 0, .int .i64 1]) ∧ w = w' := by
  go_enter Tryd.func11, Tryd.ntmps11
  go_wp2_with fail
  go_ret2
  exact ⟨rfl, rfl⟩
/-- What the document's Take answers. -/
def TookRef (ks : List Nat) (n : Nat) (g W0 : Nat) (w' : World) (e : Ending) : Prop :=
  ((pagesK isF ks).length < n ∧ e = .returned (.tuple #[.slice none 0 0, .int .i64 6]) ∧ Dk w' g ks) ∨
    (n ≤ (pagesK isF ks).length ∧ (∃ x, e = .returned (.tuple #[x, .int .i64 0]) ∧ IntsN W0 w' x n (tookZ ks n)) ∧ Dk w' g (tookK ks n))
set_option maxRecDepth 20000 in
set_option maxHeartbeats 4000000 in
theorem dTake_any (n g : Nat) (ks : List Nat) (w : World) (h : Dk w g ks) (hk : Ks ks) :
    Calls Tryd.prog 11 #[.slice (some ⟨g, 0, none⟩) ks.length ks.length, .int .i64 (n : Int)] w fun e w' => TookRef ks n g w.heap.size w' e ∧ Mv (fun i => i = g) w w' := by
  have HD := hid h
  have HK := hid hk
  have HG := hid (h.lt (by have := hk.n2; omega))
  have HA := hid (dAll_any g ks 1 w h (by have := hk.n2048; omega))
  obtain ⟨N, hN⟩ : ∃ N, N = ks.length := ⟨_, rfl⟩
  have HNN := hid hN
  have hN2 : (N : Int) ≤ 2048 := by have := hk.n2048; omega
  rw [← hN] at HA ⊢
  clear h hk hN
  go_enter Tryd.func11, Tryd.ntmps11
  go_wp2_with fail
  refine HA.out.mono ?_
  clear HA
  rintro e w1 ⟨⟨v, rfl, hv⟩, hb⟩
  have hv' : w1.ownsRow w.heap.size 3 1 v (pagesK isF ks).length (nvals (pagesK isF ks)) := hv
  have HV := hid hv'
  have HB := hid hb
  have HD1 : Hid (Dk w1 g ks) := hid (HD.out.below hb)
  obtain ⟨a, c, rfl, -, -, hlc, hcm, hsi⟩ := Si.ownedN hv'
  have HSI : Hid (Si (fun b => w.heap.size ≤ b) w1 a (intsK isF ks)) := hid hsi
  have hpl := pagesK_len isF ks
  have HPL := hid hpl
  obtain ⟨F, hF⟩ : ∃ F, F = (pagesK isF ks).length := ⟨_, rfl⟩
  have HF := hid hF
  rw [← hF] at hlc HV ⊢
  have hF2 : (F : Int) ≤ 2048 := by have := HNN.out; omega
  by_cases hlt : F < n
  · have hlt2 : (F : Int) < (n : Int) := by omega
    have HLT := hid hlt
    clear hv hv' hb hsi hpl hF hlt
    go_wp2_with fail
    go_ret2
    exact ⟨.inl ⟨by rw [← HF.out]; exact HLT.out, rfl, HD1.out⟩, Mv.of_below HB.out⟩
  · have hle2 : (n : Int) ≤ (F : Int) := by omega
    have hnc : (n : Int) ≤ (c : Int) := by omega
    have HLE : Hid (n ≤ F) := hid (by omega)
    have HIK : Hid ((intsK isF ks).length = F) := hid (by rw [intsK_len, ← hF])
    clear hv hv' hb hsi hpl hF hlt
    go_wp2_with fail
    go_loopw [7] (fun i wr => ∃ k : Nat, k ≤ n ∧ i = .int .i64 (k : Int) ∧ Dk wr g (putK ks ((intsK isF ks).take k) 3) ∧ Mv (fun i => i = g) w1 wr) (fun i _ => n - (intOf i).toNat)
    case atStart => exact ⟨0, Nat.zero_le _, rfl, by rw [List.take_zero, putK_nil]; exact HD1.out, Mv.refl _ _⟩
    case round =>
      obtain ⟨k, hk, rfl, hd, hm⟩ := hrel
      have HDR := hid hd
      have HMV := hid hm
      clear hd hm
      by_cases hlt : (k : Int) < n
      · obtain ⟨b, o, rfl, hck⟩ := si_cell (si_mv HSI.out HMV.out (fun i hi e => by have := HG.out; omega)) (k := k) (by have := HIK.out; have := HLE.out; omega)
        have HSN := hid (takeI_snoc (bs := intsK isF ks) (k := k) (by have := HIK.out; have := HLE.out; omega))
        have HM := hid (getD_mem (zs := intsK isF ks) (k := k) (by have := HIK.out; have := HLE.out; omega))
        obtain ⟨x, hx⟩ : ∃ x, x = (intsK isF ks).getD k 0 := ⟨_, rfl⟩
        rw [← hx] at HSN HM hck
        obtain ⟨q, rfl, hqn, -⟩ := intsK_mem.1 HM.out
        have hkn : (k < n) = True := eq_true (by omega)
        have hkF : (k < F) = True := eq_true (by have := HLE.out; omega)
        have hkF2 : (k : Int) < (F : Int) := by have := HLE.out; omega
        have hcq := HDR.out.cell (i := q) (by rw [putK_len]; exact hqn)
        have hfq := HDR.out.fz q
        have hqN : (q < N) = True := eq_true (by have := HNN.out; omega)
        have hqN2 : (q : Int) < (N : Int) := by have := HNN.out; omega
        have HPS := hid (putK_snoc (ks := ks) (zs := (intsK isF ks).take k) (k := 3) hqn)
        obtain ⟨K, hK⟩ : ∃ K, K = kd (putK ks ((intsK isF ks).take k) 3) q := ⟨_, rfl⟩
        rw [← hK] at hcq
        clear hx hqn hK
        go_wp2_with fail
        go_roundw
        case rel => exact ⟨k + 1, by omega, by go_num, by rw [HSN.out, HPS.out]; exact HDR.out.put q 3, mv_setCell HMV.out rfl _⟩
        case measure => simp [intOf]; omega
      · have hkf : (k < n) = False := eq_false (by omega)
        have HKN : Hid (k = n) := hid (by omega)
        clear hlt
        go_wp2_with fail
        go_ret2
        refine ⟨.inr ⟨by rw [← HF.out]; exact HLE.out, ⟨_, rfl, a, c, rfl, ?_⟩, ?_⟩, (Mv.of_below HB.out).trans HMV.out⟩
        · have h1 := si_mv HSI.out HMV.out (fun i hi e => by have := HG.out; omega)
          exact h1.front n
        · have hh := HDR.out
          rw [HKN.out] at hh
          exact hh

theorem nvals_zeros (n : Nat) : (madeCells #[Value.int .i64 0] n).toList = nvals (mkK n fun _ => 0) := by
  apply List.ext_getElem?
  intro i
  by_cases h : i < n
  · simp [madeCells, nvals, mkK, h, Nat.mod_one]
  · simp [madeCells, nvals, mkK, h]
/-- The first i of them are free. -/
def laidK (n k : Nat) : List Nat := mkK n fun i => if 2 ≤ i ∧ i < k then 1 else 0
theorem laidK_len (n k : Nat) : (laidK n k).length = n := mkK_len _ _
theorem laidK_two (n : Nat) : laidK n 2 = mkK n fun _ => 0 := ext_kd (by rw [laidK_len, mkK_len]) fun i hi => by
  rw [laidK_len] at hi
  unfold laidK
  rw [kd_mkK hi, kd_mkK hi, if_neg (by omega)]
theorem laidK_all (n : Nat) : laidK n n = freshK n := ext_kd (by rw [laidK_len, freshK_len]) fun i hi => by
  rw [laidK_len] at hi
  unfold laidK
  rw [kd_mkK hi, kd_freshK hi]
  by_cases h : i < 2
  · rw [if_neg (by omega), if_pos h]
  · rw [if_pos (by omega), if_neg h]
theorem laidK_step {n k : Nat} (h2 : 2 ≤ k) (hk : k < n) : laidK n (k + 1) = (laidK n k).set k 1 := ext_kd (by rw [List.length_set, laidK_len, laidK_len]) fun i hi => by
  rw [laidK_len] at hi
  rw [kd_set (by rw [laidK_len]; exact hk)]
  unfold laidK
  rw [kd_mkK hi, kd_mkK hi]
  by_cases h : i = k
  · subst h
    rw [if_pos (by omega), if_pos rfl]
  · rw [if_neg h]
    by_cases h3 : 2 ≤ i ∧ i < k
    · rw [if_pos (by omega), if_pos h3]
    · rw [if_neg (by omega), if_neg h3]
/-- What the document's New answers. -/
def NewRef (n : Nat) (zs : List Int) (W0 : Nat) (w' : World) (e : Ending) : Prop :=
  (newE n zs = 0 ∧ ∃ g, e = .returned (.tuple #[.slice (some ⟨g, 0, none⟩) n n, .int .i64 0]) ∧ W0 ≤ g ∧ Dk w' g (newK n zs)) ∨
    (newE n zs ≠ 0 ∧ e = .returned (.tuple #[.slice none 0 0, .int .i64 (newE n zs)]))
set_option maxRecDepth 20000 in
set_option maxHeartbeats 4000000 in
theorem dNew_any (okz : Nat → Prop) (N : Nat) (a : Option Addr) (cz : Nat) (zs : List Int) (w : World) (hz : Si okz w a zs) (h1 : (2 : Int) ≤ N) (h2 : (N : Int) ≤ 2048) (hl : (zs.length : Int) ≤ 9223372036854775807) :
    Calls Tryd.prog 9 #[.int .i64 (N : Int), .slice a zs.length cz] w fun e w' => NewRef N zs w.heap.size w' e ∧ Below w.heap.size w w' := by
  obtain ⟨i0, hi, hz0, hz1, hz2⟩ := info_parts infoInt
  have HI := hid (And.intro hi (And.intro hz0 (And.intro hz1 hz2)))
  have HZ : Hid (Si (fun b => b < w.heap.size) w a zs) := hid (hz.mono fun _ _ h => h)
  have HE : Hid (newE N zs = chkE (freshK N) zs isF 8) := hid rfl
  obtain ⟨n, hn⟩ : ∃ n, n = zs.length := ⟨_, rfl⟩
  have HN := hid hn
  rw [← hn] at hl ⊢
  clear hi hz0 hz1 hz2 hz hn
  go_enter Tryd.func9, Tryd.ntmps9
  go_wp2_with (refine wpList_make_full _ rfl _ _ 29 rfl w.heap.size 3 i0 (.int .i64 0) 1 Tryd.underlying29 HI.out.1 HI.out.2.1 HI.out.2.2.1 .i64 .i64 _ _ N rfl rfl rfl rfl (by rw [HI.out.2.2.2]; omega) (by unfold maxLen; omega) (Nat.le_refl _) ?_)
  intro w1 hown hg
  obtain ⟨g, hgg⟩ : ∃ g, g = w.heap.size := ⟨_, rfl⟩
  have HGG := hid hgg
  have HD1 : Hid (Dk w1 g (laidK N 2)) := hid (by
    rw [nvals_zeros N, ← laidK_two N] at hown
    unfold Dk
    rw [laidK_len, hgg]
    exact own_self hown)
  have HM1 : Hid (Mv (fun i => i = g) w w1) := hid (Mv.of_below ⟨hg.os, hg.tape, hg.output, hg.size, fun i hi => hg.block i hi (by simp)⟩)
  rw [← hgg]
  clear hown hg HI hgg
  go_wp2_with fail
  go_loopw [7] (fun i wr => ∃ k : Nat, 2 ≤ k ∧ k ≤ N ∧ i = .int .i64 (k : Int) ∧ Dk wr g (laidK N k) ∧ Mv (fun i => i = g) w wr) (fun i _ => N - (intOf i).toNat)
  case atStart => exact ⟨2, Nat.le_refl _, by omega, rfl, HD1.out, HM1.out⟩
  case round =>
    clear HD1 HM1
    obtain ⟨k, hk2, hkN, rfl, hd, hm⟩ := hrel
    have HDR := hid hd
    have HMV := hid hm
    clear hd hm
    obtain ⟨wa, hwa⟩ : ∃ wa, wa = wr := ⟨_, rfl⟩
    subst hwa
    by_cases hlt : (k : Int) < N
    · have hkn : (k < N) = True := eq_true (by omega)
      have hcq := HDR.out.cell (i := k) (by rw [laidK_len]; omega)
      have hfq := HDR.out.fz k
      have HST := hid (laidK_step (n := N) (k := k) hk2 (by omega))
      obtain ⟨K, hK⟩ : ∃ K, K = kd (laidK N k) k := ⟨_, rfl⟩
      rw [← hK] at hcq
      clear hK
      go_wp2_with fail
      go_roundw
      case rel => exact ⟨k + 1, by omega, by omega, by go_num, by rw [HST.out]; exact HDR.out.put k 1, mv_setCell HMV.out rfl _⟩
      case measure => simp [intOf]; omega
    · have hkf : (k < N) = False := eq_false (by omega)
      have HD2 : Hid (Dk wa g (freshK N)) := hid (by
        have hh := HDR.out
        rw [show k = N from by omega, laidK_all] at hh
        exact hh)
      clear hlt HDR
      go_wp2_with fail
      go_loopw [8] (fun i wr => ∃ k : Nat, k ≤ n ∧ i = .int .i64 (k : Int) ∧ (∀ z ∈ zs.take k, 2 ≤ z ∧ z < (N : Int)) ∧ Below wa.heap.size wa wr) (fun i _ => n - (intOf i).toNat)
      case atStart => exact ⟨0, Nat.zero_le _, rfl, by simp, Below.refl _ _⟩
      case round =>
        obtain ⟨k, hk, rfl, hin, hb⟩ := hrel
        have HIN := hid hin
        have HB := hid hb
        have HMB : Hid (Mv (fun i => i = g) w wr) := hid (HMV.out.trans (Mv.of_below hb))
        have HSI := hid (si_mv HZ.out HMB.out fun i hi e => by have := HGG.out; omega)
        clear hin hb
        obtain ⟨wb, hwb⟩ : ∃ wb, wb = wr := ⟨_, rfl⟩
        subst hwb
        by_cases hlt : (k : Int) < n
        · obtain ⟨b, o, rfl, hck⟩ := si_cell HSI.out (k := k) (by have := HN.out; omega)
          have HSN := hid (takeI_snoc (bs := zs) (k := k) (by have := HN.out; omega))
          have HM := hid (getD_mem (zs := zs) (k := k) (by have := HN.out; omega))
          obtain ⟨x, hx⟩ : ∃ x, x = zs.getD k 0 := ⟨_, rfl⟩
          rw [← hx] at hck HSN HM
          have hkn : (k < n) = True := eq_true (by omega)
          clear hx
          by_cases hx2 : x < 2
          · have HO : Hid (newE N zs = 10) := hid (chkE_out (by rw [freshK_len]; exact outR_true HM.out (.inl hx2)))
            go_wp2_with fail
            go_ret2
            exact ⟨.inr ⟨by rw [HO.out]; decide, by rw [HO.out]; rfl⟩, HMB.out.below (Nat.le_refl _) fun i hi => by have := HGG.out; have hi2 : i = g := hi; omega⟩
          have hx3 : (2 : Int) ≤ x := by omega
          clear hx2
          by_cases hxN : (N : Int) ≤ x
          · have HO : Hid (newE N zs = 10) := hid (chkE_out (by rw [freshK_len]; exact outR_true HM.out (.inr hxN)))
            go_wp2_with fail
            go_ret2
            exact ⟨.inr ⟨by rw [HO.out]; decide, by rw [HO.out]; rfl⟩, HMB.out.below (Nat.le_refl _) fun i hi => by have := HGG.out; have hi2 : i = g := hi; omega⟩
          have hxN2 : x < (N : Int) := by omega
          clear hxN
          go_wp2_with fail
          go_roundw
          case rel => exact ⟨k + 1, by omega, by go_num, by rw [HSN.out]; intro z hz; rcases mem_snoc.1 hz with h | h; exact HIN.out z h; subst h; omega, HB.out⟩
          case measure => simp [intOf]; omega
        · have hkf : (k < n) = False := eq_false (by omega)
          have HIR : Hid (∀ z ∈ zs, 2 ≤ z ∧ z < (N : Int)) := hid (by have h := HIN.out; rw [show k = n from by omega, HN.out, List.take_length] at h; exact h)
          have HOF : Hid (outR (freshK N).length zs = false) := hid (outR_false.2 (by rw [freshK_len]; exact HIR.out))
          have HD3 : Hid (Dk wb g (freshK N)) := hid (HD2.out.below HB.out)
          clear hlt HIN HD2
          go_wp2_with fail
          go_loopw [9] (fun i wr => ∃ k : Nat, k ≤ n ∧ i = .int .i64 (k : Int) ∧ Dk wr g (putK (freshK N) (zs.take k) 2) ∧ (zs.take k).Nodup ∧ Mv (fun i => i = g) w wr) (fun i _ => n - (intOf i).toNat)
          case atStart => exact ⟨0, Nat.zero_le _, rfl, by rw [List.take_zero, putK_nil]; exact HD3.out, by simp, HMB.out⟩
          case round =>
            clear HD3 HMB HSI
            obtain ⟨k, hk, rfl, hd, hnd, hm⟩ := hrel
            have HDR := hid hd
            have HND := hid hnd
            have HMR := hid hm
            clear hd hnd hm
            by_cases hlt : (k : Int) < n
            · obtain ⟨b, o, rfl, hck⟩ := si_cell (si_mv HZ.out HMR.out fun i hi e => by have := HGG.out; omega) (k := k) (by have := HN.out; omega)
              have HSN := hid (takeI_snoc (bs := zs) (k := k) (by have := HN.out; omega))
              have HM := hid (getD_mem (zs := zs) (k := k) (by have := HN.out; omega))
              obtain ⟨x, hx⟩ : ∃ x, x = zs.getD k 0 := ⟨_, rfl⟩
              rw [← hx] at hck HSN HM
              have hkn : (k < n) = True := eq_true (by omega)
              obtain ⟨q, rfl⟩ := Int.eq_ofNat_of_zero_le (show (0 : Int) ≤ x by have := HIR.out x HM.out; omega)
              have hqb := HIR.out _ HM.out
              have hqn : q < (freshK N).length := by rw [freshK_len]; omega
              have hqN : (q < N) = True := eq_true (by omega)
              have hqN2 : (q : Int) < (N : Int) := by omega
              have hcq := HDR.out.cell (i := q) (by rw [putK_len]; exact hqn)
              have hfq := HDR.out.fz q
              have hkq := kd_putK (zs := zs.take k) (k := 2) hqn
              rw [kd_freshK (by omega), if_neg (by omega : ¬ q < 2)] at hkq
              have HPS := hid (putK_snoc (ks := freshK N) (zs := zs.take k) (k := 2) hqn)
              by_cases hmem : (q : Int) ∈ zs.take k
              · rw [if_pos hmem] at hkq
                rw [hkq] at hcq
                have HO : Hid (newE N zs = 8) := hid (chkE_twice HOF.out (not_nodup_take (k := k + 1) (by rw [HSN.out, nodup_snoc]; exact fun h => h.2 hmem)))
                clear hx hqn hmem hkq hqb
                go_wp2_with fail
                go_ret2
                exact ⟨.inr ⟨by rw [HO.out]; decide, by rw [HO.out]; rfl⟩, HMR.out.below (Nat.le_refl _) fun i hi => by have := HGG.out; have hi2 : i = g := hi; omega⟩
              · rw [if_neg hmem] at hkq
                rw [hkq] at hcq
                have HMEM := hid hmem
                clear hx hqn hmem hkq hqb
                go_wp2_with fail
                go_roundw
                case rel => exact ⟨k + 1, by omega, by go_num, by rw [HSN.out, HPS.out]; exact HDR.out.put q 2, by rw [HSN.out, nodup_snoc]; exact ⟨HND.out, HMEM.out⟩, mv_setCell HMR.out rfl _⟩
                case measure => simp [intOf]; omega
            · have hkf : (k < n) = False := eq_false (by omega)
              have HKN : Hid (k = n) := hid (by omega)
              have HO : Hid (newE N zs = 0) := hid (by
                have h1 := HND.out
                rw [HKN.out, HN.out, List.take_length] at h1
                refine chkE_ok HOF.out (fun z hz => ?_) h1
                have := HIR.out z hz
                rw [kd_freshK (by omega), if_neg (by omega)]; rfl)
              clear hlt
              go_wp2_with fail
              go_ret2
              refine ⟨.inl ⟨HO.out, g, rfl, by rw [HGG.out]; exact Nat.le_refl _, ?_⟩, HMR.out.below (Nat.le_refl _) fun i hi => by have := HGG.out; have hi2 : i = g := hi; omega⟩
              have hh := HDR.out
              rw [HKN.out, HN.out, List.take_length] at hh
              exact hh
end Go.Proofs.YtjgnnofpilmgoaaDoor
