/- CONTRACTS: the law's bits; the document's directory. -/
import Derived.Test.YtjcapiibeekfkaaRkA
import Derived.Test.YtjcapiibeekfkaaNx
import Derived.Test.YtjcapiibeekfkaaVarC
import Derived.Deep.OwnRows
namespace Go.Proofs.Ytjcapiibeekfkaa
open Go.RowKit Go.Inc

theorem infoBool : (Try.prog.info? 4).map (fun i => (i.zero, i.size, i.bytes)) = some (some (.bool false), 1, 1) := by kernel_rfl
theorem infoI64 : (Try.prog.info? 3).map (fun i => (i.zero, i.size, i.bytes)) = some (some (.int .i64 0), 1, 8) := by kernel_rfl
set_option maxRecDepth 20000 in
set_option maxHeartbeats 1000000 in
/-- The law's bits: some, at most 1200. -/
theorem bits_any (ok : Nat → Prop) (x : World) (a : Option Addr) (c : Nat) (bs : List Nat) (n : Int) (hs : Sl ok x a bs) (hby : Bytes bs) (hl : (bs.length : Int) ≤ 9223372036854775807) :
    Calls Try.prog 7 #[.slice a bs.length c, .int .i64 n] x fun e w' => ∃ (m : List Bool) (g : Nat), e = .returned (.slice (some ⟨g, 0, none⟩) m.length m.length) ∧ m.length ≤ 1200 ∧ w'.ownsRow x.heap.size 4 1 (.slice (some ⟨g, 0, none⟩) m.length m.length) m.length (bvals m) ∧ Below x.heap.size x w' := by
  have HS := hid hs
  have HBY := hid hby
  obtain ⟨L, hL⟩ : ∃ L, L = bs.length := ⟨_, rfl⟩
  have HL := hid hL
  rw [← hL] at hl ⊢
  obtain ⟨N, hN⟩ : ∃ N : Nat, (N : Int) = (IntKind.u64.wrap n).tmod 1201 := by
    have h0 : 0 ≤ IntKind.u64.wrap n := by rw [IntKind.wrap_u64]; omega
    exact ⟨((IntKind.u64.wrap n).tmod 1201).toNat, by rw [Int.tmod_eq_emod_of_nonneg h0]; omega⟩
  have hNb : (N : Int) ≤ 1200 := by
    have h0 : 0 ≤ IntKind.u64.wrap n := by rw [IntKind.wrap_u64]; omega
    rw [hN, Int.tmod_eq_emod_of_nonneg h0]; omega
  have hNs := hN.symm
  have hNw : IntKind.i64.wrap (N : Int) = (N : Int) := by rw [IntKind.wrap_i64]; omega
  obtain ⟨i0, hi, hz0, hz1, hz2⟩ := info_parts infoBool
  have HI := hid (And.intro hi (And.intro hz0 (And.intro hz1 hz2)))
  clear hs hby hL hi hz0 hz1 hz2 hN
  go_enter Try.func7, Try.ntmps7
  go_wp2_with (refine wpList_make_full _ rfl _ _ 23 rfl x.heap.size 4 i0 (.bool false) 1 Try.underlying23 HI.out.1 HI.out.2.1 HI.out.2.2.1 .i64 .i64 _ _ N rfl rfl rfl rfl (by rw [HI.out.2.2.2]; omega) (by unfold maxLen; omega) (Nat.le_refl _) ?_)
  intro w1 hown hg
  have HR : Hid (w1.ownsRow x.heap.size 4 1 (.slice (some ⟨x.heap.size, 0, none⟩) N N) N (bvals (List.replicate N false))) := hid (by rw [bvals_zeros N] at hown; exact hown)
  have HB1 : Hid (Below x.heap.size x w1) := hid ⟨hg.os, hg.tape, hg.output, hg.size, fun i hi => hg.block i hi (by simp)⟩
  clear hown hg HI
  obtain ⟨g, hg⟩ : ∃ g, g = x.heap.size := ⟨_, rfl⟩
  rw [← hg] at HR ⊢
  have HG := hid hg
  clear hg
  go_wp2_with fail
  go_loopw [6] (fun i wr => ∃ (t : Nat) (m : List Bool), t ≤ N ∧ i = .int .i64 (t : Int) ∧ m.length = N ∧ wr.ownsRow g 4 1 (.slice (some ⟨g, 0, none⟩) N N) N (bvals m) ∧ Below x.heap.size x wr) (fun i _ => N - (intOf i).toNat)
  case atStart => exact ⟨0, _, Nat.zero_le _, rfl, List.length_replicate, HR.out, HB1.out⟩
  case round =>
    clear HR HB1
    obtain ⟨t, m, ht, rfl, hml, hr, hb⟩ := hrel
    have HML := hid hml
    have HR := hid hr
    have HB := hid hb
    clear hml hr hb
    by_cases hlt : (t : Int) < N
    · by_cases hL0 : L = 0
      · subst hL0
        have htN0 : (t < N) = True := eq_true (by omega)
        clear hlt
        go_wp2_with fail
        go_ret
        refine ⟨m, g, by rw [HML.out]; rfl, by rw [HML.out]; omega, ?_, HB.out⟩
        rw [HML.out, ← HG.out]; exact HR.out
      · obtain ⟨q, hq⟩ : ∃ q, q = t / 8 := ⟨_, rfl⟩
        obtain ⟨r, hr⟩ : ∃ r, r = q % L := ⟨_, rfl⟩
        have hrL : r < L := by rw [hr]; exact Nat.mod_lt _ (by omega)
        obtain ⟨b0, o0, rfl, hc⟩ : ∃ b0 o0, a = some ⟨b0, o0, none⟩ ∧ wr.cell? ⟨b0, o0 + r, none⟩ = some (.int .u8 ((bs.getD r 0 : Nat) : Int)) := by
          rcases HS.out.below HB.out with h | ⟨b0, o0, h, _, hc⟩
          · have := HL.out; rw [h] at this; simp at this; omega
          · exact ⟨b0, o0, h, hc r (by rw [← HL.out]; exact hrL)⟩
        have hby := HBY.out.getD r
        obtain ⟨y, hy⟩ : ∃ y, y = bs.getD r 0 := ⟨_, rfl⟩
        rw [← hy] at hc hby
        obtain ⟨s, hs⟩ : ∃ s, s = t % 8 := ⟨_, rfl⟩
        obtain ⟨v, hv⟩ : ∃ v, v = y / 2 ^ s := ⟨_, rfl⟩
        obtain ⟨u, hu⟩ : ∃ u, u = v &&& 1 := ⟨_, rfl⟩
        have hvy : v ≤ y := by rw [hv]; exact Nat.div_le_self _ _
        have f1 : (y : Int) / 2 ^ s = (v : Int) := by rw [hv]; simp
        have f2 : bits .and .u8 (v : Int) 1 = (u : Int) := by
          have key : ∀ n : Fin 256, bits .and .u8 (n.val : Int) 1 = ((n.val &&& 1 : Nat) : Int) := by decide +kernel
          rw [hu]; exact key ⟨v, by omega⟩
        have hq8 : (t : Int) / 8 = (q : Int) := by omega
        have hqt : Int.tdiv (t : Int) 8 = (q : Int) := by rw [Int.tdiv_eq_ediv_of_nonneg (by omega)]; exact hq8
        have hs8 : (t : Int) % 8 = (s : Int) := by omega
        have hst : Int.tmod (t : Int) 8 = (s : Int) := by rw [Int.tmod_eq_emod_of_nonneg (by omega)]; exact hs8
        have hrr : (q : Int) % (L : Int) = (r : Int) := by rw [hr]; simp
        have hrt : Int.tmod (q : Int) (L : Int) = (r : Int) := by rw [Int.tmod_eq_emod_of_nonneg (by omega)]; exact hrr
        have hLz : ((L : Int) == 0) = false := by rw [beq_eq_false_iff_ne]; omega
        have hL1 : (0 : Int) < L := by omega
        have hL0i : ¬ (L : Int) = 0 := by omega
        have hrLi : (r : Int) < (L : Int) := by omega
        have hsb : (s : Int) < 8 := by omega
        have hvb : (v : Int) < 256 := by omega
        have htb : (t : Int) < 1200 := by omega
        have htN : (t < N) = True := eq_true (by omega)
        have HNEW : Hid ((wr.setCell ⟨g, t, none⟩ (.bool ((u : Int) == 1))).ownsRow g 4 1 (.slice (some ⟨g, 0, none⟩) N N) N (bvals (m.set t ((u : Int) == 1))) ∧ Below x.heap.size x (wr.setCell ⟨g, t, none⟩ (.bool ((u : Int) == 1)))) := hid (by
          have h := HR.out.stored t (.bool ((u : Int) == 1))
          rw [bvals_set] at h
          exact ⟨h.1, below_grown HB.out h.2 (by rw [HG.out]; exact Nat.le_refl _) HB.out.size⟩)
        have j3 : wr.cell? ⟨g, t, none⟩ = some (.bool (inB m t)) := by
          have h := HR.out.cells (g := g) rfl t _ (bvals_get (by rw [HML.out]; omega))
          rw [Addr.add_lit] at h
          simpa using h
        have jf := HR.out.frozenAt t
        have htw : IntKind.i64.wrap (t : Int) = (t : Int) := by rw [IntKind.wrap_i64]; omega
        have HTL : Hid (t < N) := hid (by omega)
        generalize inB m t = old at *
        generalize hub : ((u : Int) == 1) = ub at *
        clear hL0 hq hr hrL hby hy hs hv hu hvy hlt HR HB
        go_wp2_with fail
        go_roundw
        case rel => exact ⟨t + 1, m.set t ub, HTL.out, by go_num, by rw [List.length_set]; exact HML.out, HNEW.out.1, HNEW.out.2⟩
        case measure => simp [intOf]; have := HTL.out; omega
    · have htN : (t < N) = False := eq_false (by omega)
      clear hlt
      go_wp2_with fail
      go_ret
      refine ⟨m, g, by rw [HML.out]; rfl, by rw [HML.out]; omega, ?_, HB.out⟩
      rw [HML.out, ← HG.out]; exact HR.out
set_option maxRecDepth 20000 in
set_option maxHeartbeats 2000000 in
/-- The document's directory. -/
theorem refDir_any (ok : Nat → Prop) (x : World) (a : Option Addr) (c : Nat) (m : List Bool) (hm : Bl ok x a m) (hl : (m.length : Int) ≤ 65536) :
    Calls Try.prog 30 #[.slice a m.length c] x fun e w' => ∃ u v, e = .returned (.tuple #[u, v]) ∧ w'.ownsRow x.heap.size 3 1 u ((m.length + 511) / 512) (nvals (dirB m ((m.length + 511) / 512))) ∧ w'.ownsRow x.heap.size 3 1 v ((m.length + 63) / 64) (nvals (dirW m ((m.length + 63) / 64))) ∧ Below x.heap.size x w' := by
  have HM := hid hm
  obtain ⟨n, hn⟩ : ∃ n, n = m.length := ⟨_, rfl⟩
  have HN := hid hn
  rw [← hn] at hl ⊢
  have HRK := hid (fun (y : World) (hy : Below x.heap.size x y) (i : Nat) (hi : i ≤ n) => refRank_any _ y a c m true i (hm.mono (fun _ _ h => h) |>.below (ok := fun b => b < x.heap.size) hy) (by rw [← hn]; exact hi) (by rw [← hn]; omega))
  rw [← hn] at HRK
  clear hm hn
  go_enter Try.func30, Try.ntmps30
  go_wp2_with fail
  go_loopw [4, 5, 6] (fun u v i wr => ∃ q : Nat, q ≤ (n + 63) / 64 ∧ i = .int .i64 ((64 * q : Nat) : Int) ∧ wr.ownsRow x.heap.size 3 1 u ((q + 7) / 8) (nvals (dirB m ((q + 7) / 8))) ∧ wr.ownsRow x.heap.size 3 1 v q (nvals (dirW m q)) ∧ (u.ownBlock = none ∨ u.ownBlock ≠ v.ownBlock) ∧ Below x.heap.size x wr) (fun _ _ i _ => n + 64 - (intOf i).toNat)
  case atStart => exact ⟨0, Nat.zero_le _, rfl, World.ownsRow_nil _ _ _ _, World.ownsRow_nil _ _ _ _, .inl rfl, Below.refl _ _⟩
  case round =>
    obtain ⟨q, hq, rfl, hu, hv, hd, hb⟩ := hrel
    have HU := hid hu
    have HV := hid hv
    have HD := hid hd
    have HB := hid hb
    clear hu hv hd hb
    obtain ⟨no, hno⟩ : ∃ no, no = 64 * q := ⟨_, rfl⟩
    have HNO := hid hno
    rw [← hno]
    by_cases hlt : (no : Int) < n
    · have hqb : q < (n + 63) / 64 := by omega
      obtain ⟨fi, hfi⟩ : ∃ fi, fi = no / 512 * 512 := ⟨_, rfl⟩
      obtain ⟨f5, hf5⟩ : ∃ f5, f5 = no / 512 := ⟨_, rfl⟩
      have hks : (no < n) = True := eq_true (by omega)
      have g1 : (no : Int) / 512 = (f5 : Int) := by omega
      have g1t : Int.tdiv (no : Int) 512 = (f5 : Int) := by rw [Int.tdiv_eq_ediv_of_nonneg (by omega)]; exact g1
      have g2 : (f5 : Int) * 512 = (fi : Int) := by omega
      have hnb : (no : Int) ≤ 65536 := by omega
      have hfb : (fi : Int) ≤ 65536 := by omega
      have HSW : Hid (nvals (dirW m (q + 1)) = nvals (dirW m q) ++ [.int .i64 ((rkB m true no - rkB m true fi : Nat) : Int)]) := hid (by rw [dirW_succ, nvals_snoc, hfi, hno])
      have hmn : rkB m true fi ≤ rkB m true no := rkB_mono m true (by omega)
      have hr1 := rkB_le m true no
      have HR1 := hid (fun y hy => HRK.out y hy no (by omega))
      have HR2 := hid (fun y hy => HRK.out y hy fi (by omega))
      have hgB : f5 = (q + 7) / 8 → no = fi → dirB m ((q + 1 + 7) / 8) = dirB m ((q + 7) / 8) ++ [rkB m true no] := fun h1 h2 => by
        rw [show (q + 1 + 7) / 8 = (q + 7) / 8 + 1 from by omega, dirB_succ, show 512 * ((q + 7) / 8) = no from by omega]
      have HGB := hid hgB
      obtain ⟨r1, hr1e⟩ : ∃ r1, r1 = rkB m true no := ⟨_, rfl⟩
      obtain ⟨r2, hr2e⟩ : ∃ r2, r2 = rkB m true fi := ⟨_, rfl⟩
      rw [← hr1e] at HSW hmn hr1 HR1 HGB
      rw [← hr2e] at HSW hmn HR2
      obtain ⟨d, hdd⟩ : ∃ d, d = r1 - r2 := ⟨_, rfl⟩
      rw [← hdd] at HSW
      have g3 : (r1 : Int) - (r2 : Int) = (d : Int) := by omega
      have hr1b : (r1 : Int) ≤ 65536 := by omega
      have hr2b : (r2 : Int) ≤ 65536 := by omega
      by_cases hif : no = fi
      · have hifi : ((no : Int) == (fi : Int)) = true := by rw [beq_iff_eq]; omega
        have HG2 := hid (HGB.out (by omega) hif)
        have HQ8 : Hid ((q + 1 + 7) / 8 = (q + 7) / 8 + 1) := hid (by omega)
        clear hfi hf5 hif hgB HGB hmn hr1 hr1e hr2e hdd hno
        go_wp2_with fail
        refine (HR1.out _ HB.out).mono ?_
        rintro e w1 ⟨rfl, rfl⟩
        go_wp2_with (refine wpList_append_nx rfl (.tmp 20) (.tmp 24) 37 rfl x.heap.size 3 (.int .i64 0) 8 Try.underlying37 infoI64 rfl _ _ _ rfl (HU.out.alloc _) (some ⟨wr.heap.size, 0, none⟩) 1 1 [.int .i64 (r1 : Int)] rfl rfl (by intro h; cases h) (one_new wr _ _) (by simp [Value.oneCell']) (by unfold maxLen; omega) (by omega) (by have := HB.out.size; simp; omega) ?_)
        intro u3 w3 hu3 hg3 hn3
        have HB3 := hid (below_owned (w0 := x) (HB.out.alloc HB.out.size _) (HU.out.alloc _) (Nat.le_refl _) hg3)
        have HV3 := hid (World.ownsRow.kept (HV.out.alloc (.cells #[.int .i64 (r1 : Int)] 3)) hg3 (apart_symm HD.out))
        have HD3 := hid (hn3.apart (HV.out.alloc _) (apart_symm HD.out))
        have HU3 : Hid (w3.ownsRow x.heap.size 3 1 u3 ((q + 1 + 7) / 8) (nvals (dirB m ((q + 1 + 7) / 8)))) := hid (by rw [HG2.out, nvals_snoc, HQ8.out]; exact hu3)
        clear hu3 hg3 hn3 HU HV HD HB HG2
        go_wp2_with fail
        refine (HR1.out _ HB3.out).mono ?_
        rintro e w1 ⟨rfl, rfl⟩
        go_wp2_with fail
        refine (HR2.out _ HB3.out).mono ?_
        rintro e w1 ⟨rfl, rfl⟩
        go_wp2_with (refine wpList_append_nx rfl (.tmp 26) (.tmp 34) 37 rfl x.heap.size 3 (.int .i64 0) 8 Try.underlying37 infoI64 rfl _ _ _ rfl (HV3.out.alloc _) (some ⟨w3.heap.size, 0, none⟩) 1 1 [.int .i64 (d : Int)] rfl rfl (by intro h; cases h) (one_new w3 _ _) (by simp [Value.oneCell']) (by unfold maxLen; omega) (by omega) (by have := HB3.out.size; simp; omega) ?_)
        intro v4 w4 hv4 hg4 hn4
        have HB4 := hid (below_owned (w0 := x) (HB3.out.alloc HB3.out.size _) (HV3.out.alloc _) (Nat.le_refl _) hg4)
        have HU4 := hid (World.ownsRow.kept (HU3.out.alloc (.cells #[.int .i64 (d : Int)] 3)) hg4 (apart_symm HD3.out))
        have HD4 := hid (hn4.apart (HU3.out.alloc _) (apart_symm HD3.out))
        rw [← HSW.out] at hv4
        have HV4 := hid hv4
        clear hv4 hg4 hn4 HU3 HV3 HD3 HB3
        go_wp2_with fail
        go_roundw
        case rel => exact ⟨q + 1, hqb, by rw [show 64 * (q + 1) = no + 64 from by have := HNO.out; omega]; go_num, HU4.out, HV4.out, HD4.out, HB4.out⟩
        case measure => simp [intOf]; omega
      · have hifi : ((no : Int) == (fi : Int)) = false := by rw [beq_eq_false_iff_ne]; omega
        have HQ8 : Hid ((q + 1 + 7) / 8 = (q + 7) / 8) := hid (by omega)
        clear hfi hf5 hif hgB HGB hmn hr1 hr1e hr2e hdd hno
        go_wp2_with fail
        refine (HR1.out _ HB.out).mono ?_
        rintro e w1 ⟨rfl, rfl⟩
        go_wp2_with fail
        refine (HR2.out _ HB.out).mono ?_
        rintro e w1 ⟨rfl, rfl⟩
        go_wp2_with (refine wpList_append_nx rfl (.tmp 26) (.tmp 34) 37 rfl x.heap.size 3 (.int .i64 0) 8 Try.underlying37 infoI64 rfl _ _ _ rfl (HV.out.alloc _) (some ⟨wr.heap.size, 0, none⟩) 1 1 [.int .i64 (d : Int)] rfl rfl (by intro h; cases h) (one_new wr _ _) (by simp [Value.oneCell']) (by unfold maxLen; omega) (by omega) (by have := HB.out.size; simp; omega) ?_)
        intro v4 w4 hv4 hg4 hn4
        have HB4 := hid (below_owned (w0 := x) (HB.out.alloc HB.out.size _) (HV.out.alloc _) (Nat.le_refl _) hg4)
        have HU4 := hid (World.ownsRow.kept (HU.out.alloc (.cells #[.int .i64 (d : Int)] 3)) hg4 HD.out)
        have HD4 := hid (hn4.apart (HU.out.alloc _) HD.out)
        rw [← HSW.out] at hv4
        have HV4 := hid hv4
        clear hv4 hg4 hn4 HU HV HD HB
        go_wp2_with fail
        go_roundw
        case rel => exact ⟨q + 1, hqb, by rw [show 64 * (q + 1) = no + 64 from by have := HNO.out; omega]; go_num, by rw [HQ8.out]; exact HU4.out, HV4.out, HD4.out, HB4.out⟩
        case measure => simp [intOf]; omega
    · have hks : (no < n) = False := eq_false (by omega)
      have HQ : Hid (q = (n + 63) / 64) := hid (by omega)
      have HQ2 : Hid ((q + 7) / 8 = (n + 511) / 512) := hid (by omega)
      clear hlt hno
      go_wp2_with fail
      go_ret2
      exact ⟨_, _, rfl, by rw [← HQ2.out]; exact HU.out, by rw [← HQ.out]; exact HV.out, HB.out⟩
end Go.Proofs.Ytjcapiibeekfkaa
