/- CONTRACTS (sais, as it landed): Unlike, Deepest. CONTRACTS (sais, as it landed): byCodes, above, deepest. CONTRACTS (sais, as it landed): Levels, Order, Ranks. CONTRACTS (sais, as it landed): the rest; all that the laws ask. -/
import Derived.Test.YtmllpednaibeeaaU8
import Derived.Test.YtmllpednaibeeaaU13
import Derived.Test.YtmllpednaibeeaaU11
import Derived.Test.YtmllpednaibeeaaU15
import Derived.Test.YtmllpednaibeeaaU10
namespace Go.Inc
open Go.RowKit
/-- The numbers met so far. -/
def metM (x : List Int) : Nat → Int → Option Value
  | 0 => noKeys
  | k + 1 => put (metM x k) (x.getD k 0) (.agg #[])
theorem metM_some {x : List Int} {z : Int} : ∀ {k : Nat}, (metM x k z).isSome = true ↔ ∃ j, j < k ∧ x.getD j 0 = z
  | 0 => ⟨fun h => absurd h (by simp [metM, noKeys]), fun ⟨_, hj, _⟩ => absurd hj (by omega)⟩
  | k + 1 => by
    show (if z = x.getD k 0 then some (Value.agg #[]) else metM x k z).isSome = true ↔ _
    by_cases e : z = x.getD k 0
    · rw [if_pos e]
      exact ⟨fun _ => ⟨k, by omega, e.symm⟩, fun _ => rfl⟩
    · rw [if_neg e, metM_some]
      constructor
      · rintro ⟨j, hj, he⟩; exact ⟨j, by omega, he⟩
      · rintro ⟨j, hj, he⟩
        refine ⟨j, ?_, he⟩
        rcases Nat.lt_or_ge j k with h | h
        · exact h
        · have : j = k := by omega
          subst this; exact absurd he.symm e
theorem metM_val {x : List Int} {z : Int} {u : Value} : ∀ {k : Nat}, metM x k z = some u → u = .agg #[]
  | 0, h => by cases h
  | k + 1, h => by
    have h' : (if z = x.getD k 0 then some (Value.agg #[]) else metM x k z) = some u := h
    by_cases e : z = x.getD k 0
    · rw [if_pos e] at h'; cases h'; rfl
    · rw [if_neg e] at h'; exact metM_val h'
theorem run_makeMap0 {P : Program} (t : TypeId) (w : World) : (Instr.makeMap t none).run P w = .ok (.map (some w.heap.size)) (w.alloc (.map #[] 0)) := by
  simp [Instr.makeMap, Result.andThen]
end Go.Inc
namespace Go.Proofs.Ytmllpednaibeeaa
open Go.RowKit Go.Inc
theorem bitLen_specP (n : Nat) : n < 18446744073709551616 → n < 2 ^ Lib.bitLen n ∧ (n ≠ 0 → 2 ^ (Lib.bitLen n - 1) ≤ n ∧ 1 ≤ Lib.bitLen n) := by
  induction n using Nat.strongRecOn with
  | _ n ih =>
    intro h
    by_cases h0 : n = 0
    · subst h0; decide
    · rw [Lib.bitLen_half n h0 h]
      have hi := ih (n / 2) (by omega) (by omega)
      have e : 2 ^ (1 + Lib.bitLen (n / 2)) = 2 * 2 ^ Lib.bitLen (n / 2) := by rw [Nat.add_comm, Nat.pow_succ, Nat.mul_comm]
      refine ⟨by rw [e]; omega, fun _ => ⟨?_, by omega⟩⟩
      by_cases h2 : n / 2 = 0
      · have : n = 1 := by omega
        subst this; decide
      · have h3 := hi.2 h2
        have e2 : 2 ^ (1 + Lib.bitLen (n / 2) - 1) = 2 * 2 ^ (Lib.bitLen (n / 2) - 1) := by
          rw [show 1 + Lib.bitLen (n / 2) - 1 = (Lib.bitLen (n / 2) - 1) + 1 from by omega, Nat.pow_succ, Nat.mul_comm]
        rw [e2]; omega
theorem bits_log {n : Nat} (h : n ≠ 0) (hn : n < 18446744073709551616) : Lib.bitLen n = Nat.log2 n + 1 := by
  obtain ⟨h1, h2⟩ := bitLen_specP n hn
  obtain ⟨h3, h4⟩ := h2 h
  have h5 : Nat.log2 n = Lib.bitLen n - 1 := by
    rw [Nat.log2_eq_iff h]
    exact ⟨h3, by rw [show Lib.bitLen n - 1 + 1 = Lib.bitLen n by omega]; exact h1⟩
  omega
set_option maxRecDepth 20000 in
set_option maxHeartbeats 2000000 in
theorem spUnlike (ok : Nat → Prop) (x : World) (v : Value) (zs : List Int) (h : So ok x v zs) (hl : zs.length ≤ 65536) (hz : ∀ z ∈ zs, i64s z) :
    Calls Try.prog 19 #[v] x fun e w' => e = .returned (.bool (decide zs.Nodup)) ∧ Below x.heap.size x w' := by
  obtain ⟨a, c, rfl, hs, -⟩ := h
  have HS := hid hs
  have HZ := hid hz
  obtain ⟨n, hn⟩ : ∃ n, n = zs.length := ⟨_, rfl⟩
  have HN := hid hn
  have hnb : (n : Int) ≤ 65536 := by omega
  obtain ⟨M, hM⟩ : ∃ M, M = x.heap.size := ⟨_, rfl⟩
  obtain ⟨x1, hx1⟩ : ∃ x1, x1 = x.alloc (.map #[] 0) := ⟨_, rfl⟩
  have HMM : Hid (Mp Try.prog 3 x1 M 0 (metM zs 0)) := hid (by rw [hx1, hM]; exact Mp.made x Try.prog 3)
  have HB1 : Hid (Below x.heap.size x x1) := hid (by rw [hx1]; exact (Below.refl _ _).alloc (Nat.le_refl _) _)
  have hmm : (Instr.makeMap 55 none).run Try.prog x = .ok (.map (some M)) x1 := by rw [hx1, hM]; exact run_makeMap0 _ _
  have HMW : Hid (M = x.heap.size) := hid hM
  rw [← hn]
  clear hs hn hl hz hM hx1
  go_enter Try.func19, Try.ntmps19
  go_wp2_with fail
  go_loopw [5, 6, 7, 11] (fun _ _ _ i wr => ∃ t : Nat, t ≤ n ∧ i = .int .i64 (t : Int) ∧ (∀ i j, i < j → j < t → zs.getD i 0 ≠ zs.getD j 0) ∧ Mp Try.prog 3 wr M t (metM zs t) ∧ Below x.heap.size x wr) (fun _ _ _ i _ => n - (intOf i).toNat)
  case atStart => exact ⟨0, Nat.zero_le _, rfl, fun i j h1 h2 => by omega, HMM.out, HB1.out⟩
  case round =>
    clear hmm HMM HB1
    obtain ⟨t, ht, rfl, hp, hmp, hb⟩ := hrel
    have HP := hid hp
    have HMP := hid hmp
    have HBR := hid hb
    clear hp hmp hb
    by_cases hlt : t < n
    · have hti : (t < n) = True := eq_true hlt
      have HLT := hid hlt
      have htb : (t : Int) < (n : Int) := by omega
      obtain ⟨b, o, rfl, hc⟩ := siCell (HS.out.below HBR.out) (k := t) (by rw [← HN.out]; exact hlt)
      have HZT := hid (HZ.out (zs.getD t 0) (getD_mem (by rw [← HN.out]; exact hlt)))
      obtain ⟨p, hpp⟩ : ∃ p, p = zs.getD t 0 := ⟨_, rfl⟩
      have HPP := hid hpp
      rw [← hpp] at hc HZT
      clear hlt hpp
      obtain ⟨q, hq⟩ : ∃ q, q = (metM zs t p).isSome := ⟨_, rfl⟩
      have HQ := hid hq
      clear hq
      have HU : Hid (Value.agg #[] = (metM zs t p).getD (.agg #[])) := hid (by
        cases hf : metM zs t p with
        | none => rfl
        | some u => rw [metM_val hf]; rfl)
      have HPB := hid (HZT.out : -9223372036854775808 ≤ p ∧ p ≤ 9223372036854775807)
      clear HZT
      cases q with
      | true =>
        have hF : decide zs.Nodup = false := decide_eq_false fun h => by
          obtain ⟨j, hj, he⟩ := metM_some.1 HQ.out.symm
          exact un_iff.1 h j t hj (by rw [← HN.out]; exact HLT.out) (by rw [he, HPP.out])
        have HF := hid hF
        clear hF
        go_wp2_with (at_lookup; refine wpList_look2 _ rfl _ _ 55 rfl 3 56 Try.underlying3 Try.underlying55 (.agg #[]) (by kernel_rfl) M t _ rfl HMP.out p rfl HPB.out (.agg #[]) true HU.out HQ.out ?_)
        go_ret
        exact ⟨by rw [HF.out]; rfl, HBR.out.alloc HBR.out.size _⟩
      | false =>
        have HNX : Hid (∀ i j, i < j → j < t + 1 → zs.getD i 0 ≠ zs.getD j 0) := hid fun i j hij hj => by
          rcases Nat.lt_or_ge j t with h | h
          · exact HP.out i j hij h
          · rw [show j = t by omega]
            intro e
            have h1 := metM_some (x := zs) (k := t).2 ⟨i, by omega, by rw [e, ← HPP.out]⟩
            rw [← HQ.out] at h1
            cases h1
        have HPN : Hid (put (metM zs t) p (.agg #[]) = metM zs (t + 1)) := hid (by rw [HPP.out]; rfl)
        go_wp2_with (first | (at_lookup; refine wpList_look2 _ rfl _ _ 55 rfl 3 56 Try.underlying3 Try.underlying55 (.agg #[]) (by kernel_rfl) M t _ rfl HMP.out p rfl HPB.out (.agg #[]) false HU.out HQ.out ?_) | (at_mapUpdate; refine wpList_put _ rfl _ _ _ 55 rfl 3 56 Try.underlying3 Try.underlying55 M t _ rfl (HMP.out.below (allocU wr _)) (by have := HLT.out; unfold maxLen; omega) p rfl HPB.out (.agg #[]) rfl ?_; intro w3 hm3 hg3))
        rw [HPN.out] at hm3
        have HM3 := hid hm3
        have HB3 : Hid (Below x.heap.size x w3) := hid (below_grown (HBR.out.alloc HBR.out.size _) hg3 (by rw [HMW.out]; exact Nat.le_refl _) (Nat.le_trans HBR.out.size (allocU wr (.cells #[] 56)).size))
        clear hm3 hg3 HMP HBR
        go_wp2_with fail
        go_roundw
        case rel => exact ⟨t + 1, HLT.out, by go_num, HNX.out, HM3.out, HB3.out⟩
        case measure => simp [intOf]; have := HLT.out; omega
    · have hti : (t < n) = False := eq_false hlt
      have hT : decide zs.Nodup = true := decide_eq_true (un_iff.2 fun i j hij hj => HP.out i j hij (by rw [← HN.out] at hj; omega))
      have HT := hid hT
      clear hlt hT
      go_wp2_with fail
      go_ret
      exact ⟨by rw [HT.out]; rfl, HBR.out⟩
theorem spDeepest (w : World) (n : Int) (hn : i64s n) :
    Calls Try.prog 18 #[.int .i64 n] w fun e w' => e = .returned (.int .i64 ((dpT n.toNat : Nat) : Int)) ∧ Below w.heap.size w w' := by
  unfold i64s at hn
  by_cases h : 1 ≤ n
  · obtain ⟨m, rfl⟩ := Int.eq_ofNat_of_zero_le (show 0 ≤ n by omega)
    have HL := hid (len_any (m : Int) w (by omega) (by omega))
    have he : Lib.bitLen m = dpT m := by rw [bits_log (by omega) (by omega), dpT_bits, if_neg (by omega)]
    rw [Int.toNat_natCast, he] at HL
    rw [Int.toNat_natCast]
    have hm1 : ((m : Int) < 1) = False := eq_false (by omega)
    have hm2 : decide ((m : Int) < 1) = false := decide_eq_false (by omega)
    have hm3 : IntKind.u64.wrap (m : Int) = (m : Int) := by rw [IntKind.wrap_u64]; omega
    have hm4 : (m : Int) ≤ 9223372036854775807 := by omega
    clear he hn
    go_enter Try.func18, Try.ntmps18
    go_wp2_with fail
    refine HL.out.mono ?_
    rintro e w' ⟨rfl, rfl⟩
    go_wp2_with fail
    go_ret
    exact ⟨rfl, Below.refl _ _⟩
  · have e : n.toNat = 0 := by omega
    rw [e, dpT_zero]
    have hn1 : (n < 1) = True := eq_true (by omega)
    have hn2 : decide (n < 1) = true := decide_eq_true (by omega)
    clear h e hn
    go_enter Try.func18, Try.ntmps18
    go_wp2_with fail
    go_ret
    exact ⟨rfl, Below.refl _ _⟩
end Go.Proofs.Ytmllpednaibeeaa
namespace Go.Proofs.Ytmllpednaibeeaa
open Go.RowKit Go.Inc
theorem spInduce (ok ok' : Nat → Prop) (w : World) (v v' : Value) (zs : List Int) (fs : List Nat) (h : So ok w v zs) (h' : So ok' w v' (zsN fs)) (hl : zs.length ≤ 65536) (hk : ckT zs = 0) (hf : isFs zs fs) :
    Calls Try.prog 41 #[v, v'] w fun e w' => ∃ u, e = .returned (.tuple #[u, .int .i64 0]) ∧ So (fun g => w.heap.size ≤ g) w' u (zsN (indT zs fs)) ∧ Below w.heap.size w w' := by
  have hfl := fs_half (x := zs)
  have hp : fs.Perm (fsT zs zs.length) := (List.perm_ext_iff_of_nodup hf.1 (isFs_own zs).1).2 hf.2
  refine (ivInduce_any ok ok' w v v' zs (zsN fs) h h' hl hk (by rw [zsN_len, hp.length_eq]; omega)).mono ?_
  rintro e w' ⟨h1, -, hb⟩
  obtain ⟨u, rfl, hu⟩ := h1 fs rfl hf
  exact ⟨u, rfl, hu, hb⟩
set_option maxRecDepth 20000 in
set_option maxHeartbeats 2000000 in
theorem above_any (ok ok' : Nat → Prop) (w : World) (v v' : Value) (zs : List Int) (l : List Nat) (h : So ok w v zs) (h' : So ok' w v' (zsN l)) (hl : zs.length ≤ 65536) (hk : ckT zs = 0) (ho : okT (zsN l)) (hll : l.length = (fsT zs zs.length).length)
    (hbk : bkT zs l = (srT zs zs.length).filter fun j => decide (j ∈ fsT zs zs.length)) :
    Calls Try.prog 27 #[v, v'] w fun e w' => ∃ u, e = .returned u ∧ So (fun g => w.heap.size ≤ g) w' u (zsN (srT zs zs.length)) ∧ Below w.heap.size w w' := by
  have HK := hid (ivBack ok ok' w v v' zs l h h' hl hk ho hll)
  have HX : Hid (∀ (w1 : World) (u1 : Value), Below w.heap.size w w1 → So (fun g => w.heap.size ≤ g) w1 u1 (zsN (bkT zs l)) → Calls Try.prog 41 #[v, u1] w1 fun e w' => ∃ u, e = .returned (.tuple #[u, .int .i64 0]) ∧ So (fun g => w1.heap.size ≤ g) w' u (zsN (srT zs zs.length)) ∧ Below w1.heap.size w1 w') := hid fun w1 u1 hb hu => by
    have h1 := spInduce ok _ w1 v u1 zs (bkT zs l) (h.below hb) hu hl hk (by rw [hbk]; exact sr_isFs zs)
    rw [hbk, ind_sort (InT.of hk)] at h1
    exact h1
  generalize zsN (bkT zs l) = K at *
  generalize zsN (srT zs zs.length) = R at *
  obtain ⟨a, c, rfl, -⟩ := h
  obtain ⟨a', c', rfl, -⟩ := h'
  generalize zs.length = n at *
  generalize (zsN l).length = m at *
  clear hl hk ho hll hbk
  go_enter Try.func27, Try.ntmps27
  go_wp2_with fail
  refine HK.out.mono ?_
  rintro e w1 ⟨u1, rfl, hu, hb⟩
  have HC := hid (HX.out w1 u1 hb hu)
  have HB := hid hb
  clear HX HK hu hb
  go_wp2_with fail
  refine HC.out.mono ?_
  rintro e w2 ⟨u2, rfl, hu, hb⟩
  have HR := hid (So.mono hu fun b hb _ => Nat.le_trans HB.out.size hb : So (fun g => w.heap.size ≤ g) w2 u2 R)
  have HB2 := hid (HB.out.trans (hb.mono HB.out.size))
  clear hu hb HB HC
  go_wp2_with fail
  go_ret
  exact ⟨_, rfl, HR.out, HB2.out⟩
set_option maxRecDepth 20000 in
set_option maxHeartbeats 2000000 in
theorem byCodes_any (ok : Nat → Prop) (w : World) (v : Value) (zs : List Int) (h : So ok w v zs) (hl : zs.length ≤ 65536) (hk : ckT zs = 0) (hnd : zs.Nodup) :
    Calls Try.prog 39 #[v] w fun e w' => ∃ u, e = .returned u ∧ So (fun g => w.heap.size ≤ g) w' u (zsN (srT zs zs.length)) ∧ Below w.heap.size w w' := by
  have HF := hid (ivHeads ok w v zs h hl hk)
  obtain ⟨hd, cd, h1, h2, h3⟩ := un_all (InT.of hk) hnd
  have HA := hid h1
  have HU := hid h2
  have HE := hid h3
  obtain ⟨a, c, rfl, hs, -, -, -⟩ := h
  have HS := hid hs
  obtain ⟨n, hn⟩ : ∃ n, n = zs.length := ⟨_, rfl⟩
  have HN := hid hn
  obtain ⟨H, hH⟩ : ∃ H, H = hdsT zs := ⟨_, rfl⟩
  obtain ⟨R, hR⟩ : ∃ R, R = srT zs zs.length := ⟨_, rfl⟩
  rw [← hH] at HF HA
  rw [← hR] at HE ⊢
  rw [← hn] at HF HA HU HE ⊢
  have hnb : (n : Int) ≤ 65536 := by omega
  obtain ⟨i0, hi, hz0, hz1, hz2⟩ := info_parts infoIntS
  have HINF := hid (And.intro hi (And.intro hz0 (And.intro hz1 hz2)))
  clear hs hl hk hnd h1 h2 h3 hn hH hR hi hz0 hz1 hz2
  go_enter Try.func39, Try.ntmps39
  go_wp2_with fail
  refine HF.out.mono ?_
  clear HF
  rintro e w1 ⟨u, rfl, hu, hb⟩
  obtain ⟨fa, fc, rfl, hfs, -, -, -⟩ := hu
  have HB1 := hid hb
  have HFS := hid hfs
  obtain ⟨m, hm⟩ : ∃ m, m = H.length := ⟨_, rfl⟩
  have HM := hid hm
  rw [zsN_len, ← hm]
  clear hb hfs hm
  go_wp2_with (refine wpList_make_full _ rfl _ _ 22 rfl w1.heap.size 3 i0 (.int .i64 0) 1 Try.underlying22 HINF.out.1 HINF.out.2.1 HINF.out.2.2.1 .i64 .i64 _ _ n rfl rfl rfl rfl (by rw [HINF.out.2.2.2]; omega) (by unfold maxLen; omega) (Nat.le_refl _) ?_)
  intro w3 ho3 hg3
  rw [zero_cells] at ho3
  have HO3 := hid ho3
  have HB3 : Hid (Below w1.heap.size w1 w3) := hid ⟨hg3.os, hg3.tape, hg3.output, hg3.size, fun i hi => hg3.block i hi (by simp)⟩
  obtain ⟨g, hg⟩ : ∃ g, g = w1.heap.size := ⟨_, rfl⟩
  rw [← hg] at HO3 HB3 ⊢
  have HG := hid hg
  have HXB : Hid (w.heap.size ≤ w1.heap.size) := hid HB1.out.size
  clear ho3 hg3 hg
  go_wp2_with fail
  go_loopw [6, 7, 18] (fun _ _ i wr => ∃ (t : Nat) (q : Nat → Nat), t ≤ n ∧ i = .int .i64 (t : Int) ∧ (∀ j, j < t → q (hd j) = j) ∧ wr.ownsRow g 3 1 (.slice (some ⟨g, 0, none⟩) n n) n (qvl q n) ∧ Below g w1 wr) (fun _ _ i _ => n - (intOf i).toNat)
  case atStart => exact ⟨0, _, Nat.zero_le _, rfl, fun j h => absurd h (by omega), HO3.out, HB3.out⟩
  case round =>
    clear HO3 HB3
    obtain ⟨t, q, ht, rfl, hq, ho, hb⟩ := hrel
    have HQ := hid hq
    have HO := hid ho
    have HB := hid hb
    clear hq ho hb
    by_cases hlt : t < n
    · have hti : (t < n) = True := eq_true hlt
      have htb : (t : Int) < (n : Int) := by omega
      have HT := hid hlt
      have HX : Hid (Below w.heap.size w wr) := hid (HB1.out.trans (HB.out.mono (by rw [HG.out]; exact HXB.out)))
      obtain ⟨e1, e2, e3, e4⟩ := HA.out t hlt
      obtain ⟨b1, o1, rfl, h1⟩ := siCell (HS.out.below HX.out) (k := t) (by rw [← HN.out]; exact hlt)
      rw [e1] at h1
      obtain ⟨s, hs⟩ : ∃ s, s = cd t := ⟨_, rfl⟩
      rw [← hs] at h1 e2 e3
      rw [← HM.out] at e2
      obtain ⟨b2, o2, rfl, h2⟩ := siCell (HFS.out.below (by have := HB.out; rw [HG.out] at this; exact this)) (k := s) (by rw [zsN_len, ← HM.out]; exact e2)
      rw [zsN_get, e3] at h2
      obtain ⟨y, hy⟩ : ∃ y, y = hd t := ⟨_, rfl⟩
      have HY := hid hy
      rw [← hy] at h2 e4
      have hsb : (s : Int) < (m : Int) := by omega
      have hsN : (s < m) = True := eq_true e2
      have hyb : (y : Int) < (n : Int) := by omega
      have hyN : (y < n) = True := eq_true e4
      have hc := rowCell HO.out e4
      have f1 := HO.out.frozenAt y
      have hst := HO.out.stored y (.int .i64 (t : Int))
      rw [qvl_set] at hst
      have HST := hid hst.1
      have HBT := hid (HB.out.setCell (p := ⟨g, y, none⟩) (Nat.le_refl _) (.int .i64 (t : Int)))
      have HQ2 : Hid (∀ j, j < t + 1 → updF q y t (hd j) = j) := hid fun j hj => by
        unfold updF
        by_cases e : hd j = y
        · rw [if_pos e]
          exact HU.out t j hlt (by omega) (by rw [← HY.out, e])
        · rw [if_neg e]
          refine HQ.out j ?_
          rcases Nat.lt_or_ge j t with h | h
          · exact h
          · have : j = t := by omega
            subst this
            exact absurd HY.out.symm e
      generalize ((q y : Nat) : Int) = old at *
      clear hlt hs hy e1 e2 e3 e4 hst HO HB
      go_wp2_with fail
      go_roundw
      case rel => exact ⟨t + 1, _, HT.out, by go_num, HQ2.out, HST.out, HBT.out⟩
      case measure => simp [intOf]; have := HT.out; omega
    · have hti : (t < n) = False := eq_false hlt
      obtain rfl : t = n := by omega
      have ho := HO.out
      have hR : (List.range t).map q = R := HE.out _ (by simp) fun j hj => by
        have h4 := (HA.out j hj).2.2.2
        rw [List.getD_eq_getElem?_getD, List.getElem?_map, List.getElem?_range h4]
        exact HQ.out j hj
      unfold qvl at ho
      rw [hR] at ho
      have HR := hid (So.ownedN ho)
      have HBB : Hid (Below w.heap.size w wr) := hid (HB1.out.trans (HB.out.mono (by rw [HG.out]; exact HXB.out)))
      have HGW : Hid (w.heap.size ≤ g) := hid (by rw [HG.out]; exact HXB.out)
      clear hlt ho hR HO
      go_wp2_with fail
      go_ret
      exact ⟨_, rfl, HR.out.mono (fun b hb _ => Nat.le_trans HGW.out hb), HBB.out⟩
set_option maxRecDepth 20000 in
set_option maxHeartbeats 2000000 in
theorem deepest_any (ok : Nat → Prop) (w : World) (v : Value) (zs : List Int) (h : So ok w v zs) (hl : zs.length ≤ 65536) (hk : ckT zs = 0) (hd : zs.Nodup ∨ (fsT zs zs.length).length < 2) :
    Calls Try.prog 26 #[v] w fun e w' => ∃ u, e = .returned u ∧ So (fun g => w.heap.size ≤ g) w' u (zsN (srT zs zs.length)) ∧ Below w.heap.size w w' := by
  have HU := hid (spUnlike ok w v zs h hl (ckT_i64 hk))
  have HBY : Hid (zs.Nodup → ∀ y, Below w.heap.size w y → Calls Try.prog 39 #[v] y fun e w' => ∃ u, e = .returned u ∧ So (fun g => y.heap.size ≤ g) w' u (zsN (srT zs zs.length)) ∧ Below y.heap.size y w') := hid fun hn y hy => byCodes_any ok y v zs (h.below hy) hl hk hn
  have HAB : Hid (¬ zs.Nodup → ∀ y (v' : Value) (B : Nat), Below w.heap.size w y → So (fun g => B ≤ g) y v' [0] → Calls Try.prog 27 #[v, v'] y fun e w' => ∃ u, e = .returned u ∧ So (fun g => y.heap.size ≤ g) w' u (zsN (srT zs zs.length)) ∧ Below y.heap.size y w') := hid fun hn y v' B hy hv => by
    have h1 := fs_some (InT.of hk) hn
    have h2 : (fsT zs zs.length).length = 1 := by
      rcases hd with h | h
      · exact absurd h hn
      · omega
    exact above_any ok _ y v v' zs [0] (h.below hy) hv hl hk (fun n hn => by
      have e : n = 0 := by simpa [zsN] using hn
      subst e; simp [zsN]) h2.symm (bk_one h2)
  generalize zsN (srT zs zs.length) = R at *
  obtain ⟨a, c, rfl, -⟩ := h
  generalize zs.length = n at *
  by_cases hn : zs.Nodup
  · rw [decide_eq_true hn] at HU
    have HN := hid hn
    clear hl hk hd hn
    go_enter Try.func26, Try.ntmps26
    go_wp2_with fail
    refine HU.out.mono ?_
    rintro e w1 ⟨rfl, hb⟩
    have HC := hid (HBY.out HN.out w1 hb)
    have HB := hid hb
    clear hb HBY HU
    go_wp2_with fail
    refine HC.out.mono ?_
    rintro e w2 ⟨u, rfl, hu, hb⟩
    have HR := hid (So.mono hu fun b hb _ => Nat.le_trans HB.out.size hb : So (fun g => w.heap.size ≤ g) w2 u R)
    have HB2 := hid (HB.out.trans (hb.mono HB.out.size))
    clear hu hb HB HC
    go_wp2_with fail
    go_ret
    exact ⟨_, rfl, HR.out, HB2.out⟩
  · rw [decide_eq_false hn] at HU
    have HN := hid hn
    clear hl hk hd hn
    go_enter Try.func26, Try.ntmps26
    go_wp2_with fail
    refine HU.out.mono ?_
    rintro e w1 ⟨rfl, hb⟩
    obtain ⟨w2, hw2⟩ : ∃ w2, w2 = w1.alloc (.cells #[.int .i64 0] 3) := ⟨_, rfl⟩
    have HW2 := hid hw2
    have HB1 := hid hb
    have HB2 : Hid (Below w.heap.size w w2) := hid (by rw [hw2]; exact hb.alloc hb.size _)
    have HS2 : Hid (So (fun g => w.heap.size ≤ g) w2 (.slice (some ⟨w1.heap.size, 0, none⟩) 1 1) [0]) := hid (by
      have h1 : w2.ownsRow w.heap.size 3 1 (.slice (some ⟨w1.heap.size, 0, none⟩) 1 1) 1 (nvals [0]) := by rw [hw2]; exact owns_first hb.size
      exact So.ownedN h1)
    have HC := hid (HAB.out HN.out w2 _ _ HB2.out HS2.out)
    clear hb hw2 HBY HU HAB
    go_wp2_with fail
    rw [← HW2.out]
    refine HC.out.mono ?_
    rintro e w3 ⟨u, rfl, hu, hb⟩
    have HR := hid (So.mono hu fun b hb _ => Nat.le_trans HB2.out.size hb : So (fun g => w.heap.size ≤ g) w3 u R)
    have HB3 := hid (HB2.out.trans (hb.mono HB2.out.size))
    clear hu hb HB2 HC
    go_wp2_with fail
    go_ret
    exact ⟨_, rfl, HR.out, HB3.out⟩
end Go.Proofs.Ytmllpednaibeeaa
namespace Go.Inc
open Go.RowKit
theorem okT_sr17 {x : List Int} : okT (zsN (srT x x.length)) := fun n hn => by
  rw [zsN_len, srT_len] at hn
  exact List.mem_map.2 ⟨n, srT_mem.2 hn, rfl⟩
/-- New memory, and not in that value's own row. -/
def AvB (B : Nat) (u : Value) : Nat → Prop := fun b => B ≤ b ∧ some b ≠ u.ownBlock
theorem So.appendedB {w w' : World} {B : Nat} {v0 v1 v : Value} {zs : List Int} (h : So (AvB B v0) w v zs) (hg : w.grownBy w' v0.ownBlock) (hn : Nw w v0 v1) : So (AvB B v1) w' v zs := by
  obtain ⟨a, c, rfl, hs, h1⟩ := h
  have h2 : Si (fun b => AvB B v1 b ∧ AvB B v0 b) w a zs := hs.mono fun b hb hl => ⟨⟨hb.1, by
    rcases hn with e | ⟨j, e, hj⟩
    · rw [e]; exact hb.2
    · rw [e]; intro h
      have h' : b = j := Option.some.inj h
      omega⟩, hb⟩
  exact ⟨a, c, rfl, (h2.kept fun b hb hl => hg.block b hl hb.2.2).mono fun b hb _ => hb.1, h1⟩
theorem Ro.ownedB {ok : Nat → Prop} {w : World} {B n : Nat} {T : TypeId} {u : Value} {rs : List Value} {O : List (List Int)} (h : w.ownsRow B T 1 u n rs) (hr : Rv ok w rs O) (hk : ∀ b, ok b → B ≤ b) : ∃ a c, u = .slice a n c ∧ n = O.length ∧ Ro (fun b => B ≤ b) w u O := by
  have hn : n = O.length := by have := h.1; rw [← hr.1, this, Nat.mul_one]
  rcases h.2 with ⟨rfl, h0⟩ | ⟨g, cap, cur, rfl, hbg, hg, hnc, hcm, hcs, htk⟩
  · rw [h0] at hn
    have : O = [] := List.eq_nil_of_length_eq_zero hn.symm
    subst this
    exact ⟨none, 0, by rw [h0], by rw [h0]; rfl, none, 0, rfl, Nat.le_refl _, Nat.zero_le _, .inl rfl⟩
  · refine ⟨some ⟨g, 0, none⟩, cap, rfl, hn, some ⟨g, 0, none⟩, cap, by rw [hn], by rw [← hn]; exact hnc, hcm, .inr ⟨g, 0, rfl, hbg, fun i hi => ⟨rs.getD i (.slice none 0 0), ?_, (hr.2 i hi).mono fun b hb _ => hk b hb⟩⟩⟩
    have hi2 : i < rs.length := by rw [hr.1]; exact hi
    rw [cell_of_row _ _ _ _ _ _ hg, Nat.zero_add, ← Array.getElem?_toList, List.getD_eq_getElem?_getD, List.getElem?_eq_getElem hi2, Option.getD_some, ← List.getElem?_eq_getElem hi2, ← htk, List.getElem?_take, if_pos (by rw [Nat.mul_one]; omega)]
end Go.Inc
namespace Go.Proofs.Ytmllpednaibeeaa
open Go.RowKit Go.Inc
set_option maxRecDepth 20000 in
set_option maxHeartbeats 4000000 in
theorem spLevels (ok : Nat → Prop) (w : World) (v : Value) (zs : List Int) (h : So ok w v zs) (hl : zs.length ≤ 65536) (hck : ckT zs = 0) :
    Calls Try.prog 16 #[v] w fun e w' => ∃ u, e = .returned (.tuple #[u, .int .i64 0]) ∧ Ro (fun g => w.heap.size ≤ g) w' u (lvT zs) ∧ Below w.heap.size w w' := by
  have HCH := hid (check_any ok w v zs h hl (ckT_i64 hck))
  rw [hck] at HCH
  have HCL := hid (cloneR_any ok w v zs h hl)
  have HZL := hid hl
  have HCK := hid hck
  have HI := hid (InT.of hck)
  have HLC := hid (lvT_cons HI.out hl)
  have HLB : Hid ((lvT zs).length ≤ 65536) := hid (by
    have h1 := (lvT_ok HI.out hl hck HI.out.right.1).2.1
    have h2 := dpT_le zs.length
    omega)
  obtain ⟨va, vc, rfl, -⟩ := h
  obtain ⟨n, hn⟩ : ∃ n, n = zs.length := ⟨_, rfl⟩
  have HN := hid hn
  rw [← hn] at HCL HCH ⊢
  clear hl hck hn
  obtain ⟨B, hB⟩ : ∃ B, B = w.heap.size := ⟨_, rfl⟩
  have HBB := hid hB
  go_enter Try.func16, Try.ntmps16
  go_wp2_with fail
  go_step3
  go_wp2_with fail
  refine HCH.out.mono ?_
  clear HCH
  rintro e w1 ⟨rfl, rfl⟩
  go_wp2_with fail
  refine HCL.out.mono ?_
  clear HCL
  rintro e w1 ⟨u, rfl, hu, hb⟩
  have HB1 := hid hb
  have HU : Hid (So (fun b => w.heap.size ≤ b) w1 u zs) := hid (So.ownedI hu)
  obtain ⟨ua, uc, rfl, -⟩ := HU.out
  rw [← HN.out] at HU ⊢
  obtain ⟨x1, hx1⟩ : ∃ x1, x1 = w1.alloc (.cells #[.slice ua n uc] 22) := ⟨_, rfl⟩
  have HB2 : Hid (Below w.heap.size w x1) := hid (by rw [hx1]; exact hb.alloc hb.size _)
  have HO1 : Hid (x1.ownsRow w.heap.size 22 1 (.slice (some ⟨w1.heap.size, 0, none⟩) 1 1) 1 [.slice ua n uc]) := hid (by rw [hx1]; exact owns_first hb.size)
  have HX1 := hid hx1
  have HA1 : Hid (So (AvB w.heap.size (.slice (some ⟨w1.heap.size, 0, none⟩) 1 1)) x1 (.slice ua n uc) zs) := hid ((So.mono HU.out fun b hb hl => ⟨hb, fun e => by have e' : b = w1.heap.size := Option.some.inj e; omega⟩).below (by rw [hx1]; exact allocU w1 _))
  clear hx1 hu hb HB1
  go_wp2_with fail
  go_step3
  go_wp2_with fail
  rw [← HX1.out]
  go_loopw [5, 6] (fun v u wr => ∃ (y : List Int) (O : List (List Int)) (rs : List Value), So (AvB w.heap.size u) wr v y ∧ ckT y = 0 ∧ y.length ≤ zs.length ∧ O ++ (lvT y).tail = lvT zs ∧ wr.ownsRow w.heap.size 22 1 u O.length rs ∧ Rv (AvB w.heap.size u) wr rs O ∧ Below w.heap.size w wr) (fun v _ _ => lnOf v)
  case atStart => exact ⟨zs, [zs], [.slice ua n uc], HA1.out, HCK.out, Nat.le_refl _, HLC.out, HO1.out, ⟨rfl, fun i hi => by
    have : i = 0 := by simpa using hi
    subst this
    exact HA1.out⟩, HB2.out⟩
  case round =>
    clear HB2 HO1 HX1 HA1 HU
    obtain ⟨y, O, rs, hy, hck, hyl, hO, hown, hrv, hb⟩ := hrel
    have hy6 : y.length ≤ 65536 := Nat.le_trans hyl HZL.out
    have HYL := hid hy6
    have HYZ := hid hyl
    have HYK := hid hck
    have HYI := hid (InT.of hck)
    have HYV := hid hy
    have HOE := hid hO
    have HOW := hid hown
    have HRV := hid hrv
    have HB := hid hb
    have HLY := hid (lvT_eq HYI.out hy6)
    have HC := hid (spUnlike _ wr _ y hy hy6 (ckT_i64 hck))
    obtain ⟨ya, yc, rfl, -⟩ := hy
    obtain ⟨k, hk⟩ : ∃ k, k = y.length := ⟨_, rfl⟩
    have HKY := hid hk
    rw [← hk] at HYV HC ⊢
    obtain ⟨q, hq⟩ : ∃ q, q = O.length := ⟨_, rfl⟩
    have HQ := hid hq
    rw [← hq] at HOW
    clear hck hyl hy6 hO hown hrv hb hk hq
    by_cases hnd : y.Nodup
    · rw [decide_eq_true hnd] at HC
      have HE : Hid (O = lvT zs) := hid (by have h1 := HOE.out; rw [HLY.out, if_pos (.inl hnd)] at h1; simpa using h1)
      clear hnd
      go_wp2_with fail
      refine HC.out.mono ?_
      rintro e w1 ⟨rfl, hb1⟩
      have HR1 := hid (Ro.ownedB (owns_below HOW.out hb1) (HRV.out.below hb1) fun b hb => hb.1)
      have HBa := hid (HB.out.trans (hb1.mono HB.out.size))
      clear hb1 HC HB HOW HRV
      go_wp2_with fail
      rw [Exit.noGoto_ret]
      go_ret2
      obtain ⟨a, c, h1, h2, h3⟩ := HR1.out
      rw [HE.out] at h3
      exact ⟨_, rfl, h3, HBa.out⟩
    · rw [decide_eq_false hnd] at HC
      have HND := hid hnd
      obtain ⟨F, hF⟩ : ∃ F, F = fsT y y.length := ⟨_, rfl⟩
      have HF := hid hF
      obtain ⟨m, hm⟩ : ∃ m, m = F.length := ⟨_, rfl⟩
      have HM := hid hm
      have hml := fs_half (x := y)
      rw [← hF, ← hm] at hml
      have hmb : (m : Int) ≤ 65536 := by have := HYL.out; omega
      have HML := hid hml
      clear hnd hF hm hml
      go_wp2_with fail
      refine HC.out.mono ?_
      rintro e w1 ⟨rfl, hb1⟩
      have HO1 := hid (owns_below HOW.out hb1)
      have HR1 := hid (HRV.out.below hb1)
      have HB1 := hid (HB.out.trans (hb1.mono HB.out.size))
      have HC := hid (ivReduced _ w1 _ y (HYV.out.below hb1) HYL.out HYK.out)
      clear hb1 HOW HRV HYV HB
      go_wp2_with fail
      refine HC.out.mono ?_
      clear HC
      rintro e w4 ⟨r4, rfl, h4, hb1⟩
      have HO4 := hid (owns_below HO1.out hb1)
      have HR4 := hid (HR1.out.below hb1)
      have HB4 := hid (HB1.out.trans (hb1.mono HB1.out.size))
      have hrl : (rdT y).length = m := by rw [rd_len, ← HF.out, ← HM.out]
      have HRL := hid hrl
      have HN4 := hid (So.mono h4 fun b hb _ => ⟨Nat.le_trans HB1.out.size hb, fun e => by have := owns_lt HO1.out e.symm; omega⟩ : So (AvB w.heap.size u6) w4 r4 (rdT y))
      obtain ⟨ra, rc, rfl, -⟩ := h4
      rw [hrl] at HN4 ⊢
      clear hb1 hrl HO1 HR1 HB1
      by_cases h2m : m < 2
      · have h2i : decide ((m : Int) < 2) = true := decide_eq_true (by omega)
        have h2j : (m : Int) < 2 := by omega
        have HE : Hid (O = lvT zs) := hid (by
          have h1 := HOE.out
          rw [HLY.out, if_pos (.inr (by rw [← HF.out, ← HM.out]; exact h2m))] at h1; simpa using h1)
        have HRO := hid (Ro.ownedB HO4.out HR4.out fun b hb => hb.1)
        clear h2m HO4 HR4
        go_wp2_with fail
        rw [Exit.noGoto_ret]
        go_ret2
        obtain ⟨a, c, h1, h2, h3⟩ := HRO.out
        rw [HE.out] at h3
        exact ⟨_, rfl, h3, HB4.out⟩
      · have h2i : decide ((m : Int) < 2) = false := decide_eq_false (by omega)
        have h2j : (2 : Int) ≤ (m : Int) := by omega
        have h22 : 2 ≤ (fsT y y.length).length := by rw [← HF.out, ← HM.out]; omega
        have hrk := rd_ok HYI.out HYL.out h22
        have HRK := hid hrk
        have hnx : (O ++ [rdT y]) ++ (lvT (rdT y)).tail = lvT zs := by
          rw [← HOE.out, HLY.out, if_neg (fun h => by
            rcases h with h | h
            · exact HND.out h
            · omega), List.tail_cons, List.append_assoc, List.singleton_append, lvT_cons (InT.of hrk) (by have h1 := HML.out; have h3 := HRL.out; have h4 := HYL.out; omega)]
        have HNX := hid hnx
        have hqb : q + 1 ≤ 65536 := by
          have h1 := congrArg List.length hnx
          rw [List.length_append, List.length_append, List.length_singleton, ← HQ.out] at h1
          have := HLB.out
          omega
        have HQB := hid hqb
        clear h2m h22 hrk hnx hqb
        go_wp2_with (refine wpList_append_nx rfl (.tmp 27) (.tmp 29) 35 rfl w.heap.size 22 (.slice none 0 0) 24 Try.underlying35 infoRowS rfl _ _ _ rfl (HO4.out.alloc _) (some ⟨w4.heap.size, 0, none⟩) 1 1 [.slice ra m rc] rfl rfl (by intro h; cases h) (one_new w4 _ _) (by simp [Value.oneCell']) (by have := HQB.out; unfold maxLen; omega) (by have := HQB.out; omega) (by have := HB4.out.size; simp; omega) ?_)
        intro v5 w5 hv5 hg5 hnw
        have hb5 := below_owned (w0 := w) (HB4.out.alloc HB4.out.size _) (HO4.out.alloc _) (Nat.le_refl _) hg5
        have hal : Below w4.heap.size w4 (w4.alloc (.cells #[.slice ra m rc] 22)) := (Below.refl _ _).alloc (Nat.le_refl _) _
        have HT5 := hid ((HN4.out.below hal).appendedB hg5 hnw)
        have HR5 : Hid (Rv (AvB w.heap.size v5) w5 rs O) := hid ⟨HR4.out.1, fun i hi => ((HR4.out.2 i hi).below hal).appendedB hg5 hnw⟩
        have HR6 := hid (HR5.out.snoc HT5.out)
        have HO5 : Hid (w5.ownsRow w.heap.size 22 1 v5 (O ++ [rdT y]).length (rs ++ [.slice ra m rc])) := hid (by rw [List.length_append, List.length_singleton, ← HQ.out]; exact hv5)
        have HB5 := hid hb5
        have HLE2 : Hid (m ≤ zs.length ∧ m < k) := hid (by have h1 := HML.out; have h2 := HYZ.out; have h3 := HKY.out; omega)
        clear hv5 hg5 hnw hb5 hal HO4 HR4 HB4 HN4 HR5
        go_wp2_with fail
        go_roundw
        case rel => exact ⟨rdT y, O ++ [rdT y], rs ++ [.slice ra m rc], HT5.out, HRK.out, by rw [HRL.out]; exact HLE2.out.1, HNX.out, HO5.out, HR6.out, HB5.out⟩
        case measure => simp [lnOf]; exact HLE2.out.2
theorem spLevelsE (ok : Nat → Prop) (w : World) (v : Value) (zs : List Int) (h : So ok w v zs) (hl : zs.length ≤ 65536) (hz : ∀ z ∈ zs, i64s z) (hk : ckT zs ≠ 0) :
    Calls Try.prog 16 #[v] w fun e w' => e = .returned (.tuple #[.slice none 0 0, .int .i64 ((ckT zs : Nat) : Int)]) ∧ Below w.heap.size w w' := by
  have HC := hid (check_any ok w v zs h hl hz)
  obtain ⟨k, hkk⟩ : ∃ k, k = ckT zs := ⟨_, rfl⟩
  rw [← hkk] at HC hk ⊢
  have hk0 : ((k : Int) != 0) = true := by rw [bne_iff_ne]; omega
  clear h hl hz hk hkk
  go_enter Try.func16, Try.ntmps16
  go_wp2_with fail
  go_step3
  go_wp2_with fail
  refine HC.out.mono ?_
  rintro e w' ⟨rfl, rfl⟩
  clear HC
  go_wp2_with fail
  rw [Exit.noGoto_ret]
  go_ret2
  exact ⟨rfl, Below.refl _ _⟩
set_option maxRecDepth 20000 in
set_option maxHeartbeats 4000000 in
theorem spOrder (ok : Nat → Prop) (w : World) (v : Value) (zs : List Int) (h : So ok w v zs) (hl : zs.length ≤ 65536) (hck : ckT zs = 0) :
    Calls Try.prog 9 #[v] w fun e w' => ∃ u, e = .returned (.tuple #[u, .int .i64 0]) ∧ So (fun g => w.heap.size ≤ g) w' u (zsN (srT zs zs.length)) ∧ Below w.heap.size w w' := by
  have HLV := hid (spLevels ok w v zs h hl hck)
  have HS := hid (stT_lv (InT.of hck) hl hck)
  have HF := hid (lvT_first (InT.of hck) hl hck)
  have HLB : Hid ((lvT zs).length ≤ 65536) := hid (by
    have h1 := (lvT_ok (InT.of hck) hl hck (InT.of hck).right.1).2.1
    have h2 := dpT_le zs.length
    omega)
  obtain ⟨va, vc, rfl, -⟩ := h
  obtain ⟨n, hn⟩ : ∃ n, n = zs.length := ⟨_, rfl⟩
  obtain ⟨S, hS⟩ : ∃ S, S = lvT zs := ⟨_, rfl⟩
  rw [← hS] at HS HF HLB HLV
  rw [← hn] at HLV
  have hR : ∃ R : List Int, R = zsN (srT zs zs.length) := ⟨_, rfl⟩
  obtain ⟨R, hR⟩ := hR
  rw [← hR, ← hn]
  have HRR := hid hR
  clear hl hck hn hS hR
  go_enter Try.func9, Try.ntmps9
  go_wp2_with fail
  refine HLV.out.mono ?_
  clear HLV
  rintro e w1 ⟨u, rfl, hro, hb⟩
  have HRO := hid hro
  have HB1 := hid hb
  obtain ⟨a, c, rfl, hlc, hcm, hrows⟩ := hro
  have HCELL : Hid (∀ i, i < S.length → ∃ b o, a = some ⟨b, o, none⟩ ∧ ∃ r, w1.cell? ⟨b, o + i, none⟩ = some r ∧ So (fun g => w.heap.size ≤ g) w1 r (S.getD i [])) := hid fun i hi => by
    rcases hrows with h | ⟨b, o, e, -, hc⟩
    · rw [h] at hi; cases hi
    · exact ⟨b, o, e, hc i hi⟩
  obtain ⟨L, hL⟩ : ∃ L, L = S.length := ⟨_, rfl⟩
  have HL := hid hL
  have hp := HS.out.pos
  rw [← hL] at hp
  have hLb : (L : Int) ≤ 65536 := by have := HLB.out; omega
  obtain ⟨t0, ht0⟩ : ∃ t0, L = t0 + 1 := ⟨L - 1, by omega⟩
  have hti0 : (L : Int) - 1 = (t0 : Int) := by omega
  have htl0 : (t0 < L) = True := eq_true (by omega)
  have htb0 : (t0 : Int) < (L : Int) := by omega
  have HT0 := hid ht0
  rw [← hL]
  obtain ⟨b, o, rfl, r, hc, hr⟩ := HCELL.out t0 (by omega)
  have hat := HS.out.at (i := t0) (by omega)
  have hlast := HS.out.last
  rw [show S.length - 1 = t0 by omega] at hlast
  have HD := hid (deepest_any _ w1 r (S.getD t0 []) hr hat.2 hat.1 hlast)
  clear hlc hcm hrows hL hp ht0 hb hat hlast hr
  go_wp2_with fail
  refine HD.out.mono ?_
  clear HD hc
  rintro e w2 ⟨u2, rfl, hu, hb⟩
  have HU := hid hu
  have HB2 := hid hb
  clear hu hb
  go_wp2_with fail
  go_loopw [6, 7] (fun i v wr => ∃ t : Nat, t ≤ t0 ∧ i = .int .i64 (t : Int) ∧ So (fun g => w1.heap.size ≤ g) wr v (zsN (srT (S.getD t []) (S.getD t []).length)) ∧ Below w1.heap.size w1 wr) (fun i _ _ => (intOf i).toNat)
  case atStart => exact ⟨t0, Nat.le_refl _, rfl, HU.out, HB2.out⟩
  case round =>
    clear HU HB2
    obtain ⟨t, ht, rfl, hu, hb⟩ := hrel
    have HU := hid hu
    have HB := hid hb
    clear hu hb
    by_cases h0 : 0 < t
    · have hg1 : (0 < t) = True := eq_true h0
      have hg2 : (0 : Int) < (t : Int) := by omega
      obtain ⟨t1, ht1⟩ : ∃ t1, t = t1 + 1 := ⟨t - 1, by omega⟩
      have hti : (t : Int) - 1 = (t1 : Int) := by omega
      have HT1 := hid ht1
      have htl : (t1 < L) = True := eq_true (by have := HT0.out; omega)
      have htb : (t1 : Int) < (L : Int) := by have := HT0.out; omega
      obtain ⟨b', o', e', r1, hc1, hr1⟩ := HCELL.out t1 (by have := HL.out; omega)
      cases e'
      have hc2 := (HB.out.cell (cell_lt hc1)).trans hc1
      have hdn := HS.out.down t1 (by have := HL.out; have := HT0.out; omega)
      rw [← ht1] at hdn
      have hat := HS.out.at (i := t1) (by have := HL.out; have := HT0.out; omega)
      have hlen := rd_len (S.getD t1 [])
      have HV := HU.out
      rw [hdn.1] at HV
      have HC := hid (above_any _ _ wr r1 _ (S.getD t1 []) (srT (rdT (S.getD t1 [])) (rdT (S.getD t1 [])).length) (hr1.below HB.out) HV hat.2 hat.1 okT_sr17 (by rw [srT_len, hlen]) (bk_sr (InT.of hat.1) hat.2 hdn.2))
      obtain ⟨va2, vc2, rfl, -⟩ := HV
      clear h0 ht1 hc1 hr1 hdn hat hlen HU
      go_wp2_with fail
      refine HC.out.mono ?_
      clear HC
      rintro e w3 ⟨u3, rfl, hu, hb⟩
      have HU3 := hid (So.mono hu fun b hb _ => Nat.le_trans HB.out.size hb : So (fun g => w1.heap.size ≤ g) w3 u3 (zsN (srT (S.getD t1 []) (S.getD t1 []).length)))
      have HB3 := hid (HB.out.trans (hb.mono HB.out.size))
      clear hu hb HB
      go_wp2_with fail
      go_roundw
      case rel => exact ⟨t1, by have := HT1.out; omega, rfl, HU3.out, HB3.out⟩
      case measure => simp [intOf]; have := HT1.out; omega
    · have hg1 : (0 < t) = False := eq_false h0
      obtain rfl : t = 0 := by omega
      have hu := HU.out
      rw [HF.out, ← HRR.out] at hu
      have HR := hid (So.mono hu fun b hb _ => Nat.le_trans HB1.out.size hb : So (fun g => w.heap.size ≤ g) wr u7 R)
      have HBB := hid (HB1.out.trans (HB.out.mono HB1.out.size))
      clear h0 hu HU HB
      go_wp2_with fail
      go_ret2
      exact ⟨_, rfl, HR.out, HBB.out⟩
end Go.Proofs.Ytmllpednaibeeaa
namespace Go.Proofs.Ytmllpednaibeeaa
open Go.RowKit Go.Inc
theorem so_none (ok : Nat → Prop) (w : World) : So ok w (.slice none 0 0) [] := ⟨none, 0, rfl, .inl rfl, Nat.le_refl _, Nat.zero_le _, fun _ => rfl⟩
theorem spOrderE (ok : Nat → Prop) (w : World) (v : Value) (zs : List Int) (h : So ok w v zs) (hl : zs.length ≤ 65536) (hz : ∀ z ∈ zs, i64s z) (hk : ckT zs ≠ 0) :
    Calls Try.prog 9 #[v] w fun e w' => e = .returned (.tuple #[.slice none 0 0, .int .i64 ((ckT zs : Nat) : Int)]) ∧ Below w.heap.size w w' := by
  have HC := hid (spLevelsE ok w v zs h hl hz hk)
  obtain ⟨k, hkk⟩ : ∃ k, k = ckT zs := ⟨_, rfl⟩
  rw [← hkk] at HC hk ⊢
  have hk0 : ((k : Int) != 0) = true := by rw [bne_iff_ne]; omega
  clear h hl hz hk hkk
  go_enter Try.func9, Try.ntmps9
  go_wp2_with fail
  refine HC.out.mono ?_
  rintro e w' ⟨rfl, hb⟩
  have HB := hid hb
  clear hb HC
  go_wp2_with fail
  go_ret2
  exact ⟨rfl, HB.out⟩
theorem spRanksE (ok : Nat → Prop) (w : World) (v : Value) (zs : List Int) (h : So ok w v zs) (hl : zs.length ≤ 65536) (hz : ∀ z ∈ zs, i64s z) (hk : ckT zs ≠ 0) :
    Calls Try.prog 10 #[v] w fun e w' => e = .returned (.tuple #[.slice none 0 0, .int .i64 ((ckT zs : Nat) : Int)]) ∧ Below w.heap.size w w' := by
  have HC := hid (spOrderE ok w v zs h hl hz hk)
  obtain ⟨k, hkk⟩ : ∃ k, k = ckT zs := ⟨_, rfl⟩
  rw [← hkk] at HC hk ⊢
  have hk0 : ((k : Int) != 0) = true := by rw [bne_iff_ne]; omega
  clear h hl hz hk hkk
  go_enter Try.func10, Try.ntmps10
  go_wp2_with fail
  refine HC.out.mono ?_
  rintro e w' ⟨rfl, hb⟩
  have HB := hid hb
  clear hb HC
  go_wp2_with fail
  go_ret2
  exact ⟨rfl, HB.out⟩
theorem spRanks (ok : Nat → Prop) (w : World) (v : Value) (zs : List Int) (h : So ok w v zs) (hl : zs.length ≤ 65536) (hk : ckT zs = 0) :
    Calls Try.prog 10 #[v] w fun e w' => ∃ u, e = .returned (.tuple #[u, .int .i64 0]) ∧ So (fun g => w.heap.size ≤ g) w' u (zsN (tnT (zsN (srT zs zs.length)))) ∧ Below w.heap.size w w' := by
  have HC := hid (spOrder ok w v zs h hl hk)
  have HT : Hid (∀ (w1 : World) (u1 : Value), So (fun g => w.heap.size ≤ g) w1 u1 (zsN (srT zs zs.length)) → Calls Try.prog 28 #[u1] w1 (NewS w1 (zsN (tnT (zsN (srT zs zs.length)))))) := hid fun w1 u1 hu => suTurned _ w1 u1 _ hu (by rw [zsN_len, srT_len]; exact hl) okT_sr17
  generalize zsN (tnT (zsN (srT zs zs.length))) = K at *
  generalize zsN (srT zs zs.length) = R at *
  clear h hl hk
  go_enter Try.func10, Try.ntmps10
  go_wp2_with fail
  refine HC.out.mono ?_
  rintro e w1 ⟨u, rfl, hu, hb⟩
  have HB := hid hb
  have HN := hid (HT.out w1 u hu)
  clear hb hu HC HT
  go_wp2_with fail
  refine HN.out.mono ?_
  rintro e w2 ⟨u2, rfl, hu, hb⟩
  have HR := hid (So.mono hu fun b hb _ => Nat.le_trans HB.out.size hb : So (fun g => w.heap.size ≤ g) w2 u2 K)
  have HB2 := hid (HB.out.trans (hb.mono HB.out.size))
  clear hb hu HN HB
  go_wp2_with fail
  go_ret2
  exact ⟨_, rfl, HR.out, HB2.out⟩
theorem ps : PS17 where
  pOrder ok w v zs h hl hk := spOrder ok w v zs h hl hk
  pOrderE ok w v zs h hl hz hk := by
    refine (spOrderE ok w v zs h hl hz hk).mono ?_
    rintro e w' ⟨rfl, hb⟩
    exact ⟨_, rfl, so_none _ _, hb⟩
  pRanks ok w v zs h hl hk := spRanks ok w v zs h hl hk
  pRanksE ok w v zs h hl hz hk := by
    refine (spRanksE ok w v zs h hl hz hk).mono ?_
    rintro e w' ⟨rfl, hb⟩
    exact ⟨_, rfl, hb⟩
  pLevels ok w v zs h hl hk := spLevels ok w v zs h hl hk
  pLevelsE ok w v zs h hl hz hk := by
    refine (spLevelsE ok w v zs h hl hz hk).mono ?_
    rintro e w' ⟨rfl, hb⟩
    exact ⟨_, rfl, hb⟩
  pUnlike ok w v zs h hl hz := spUnlike ok w v zs h hl hz
  pDeepest w n hn := spDeepest w n hn
  pRight ok ok' w v v' zs ls h h' hl hz hl' _ := suRight ok ok' w v v' zs ls h h' hl hz hl'
end Go.Proofs.Ytmllpednaibeeaa
