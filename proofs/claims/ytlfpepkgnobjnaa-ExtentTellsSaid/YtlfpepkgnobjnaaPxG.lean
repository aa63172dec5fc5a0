/- THE ITERATOR OVER A LIST's NUMBERS, TWO BY TWO: its contract, for every loop body that leaves what it looks at as it is. -/
import Derived.RangeFuncNested
import Derived.RangeFuncBound
import Derived.RangeFuncCalls
import Derived.RangeFuncLeaves
import Derived.Shelf.Abstract
import Derived.Shelf.RegionOpen
import Derived.WalkKit
import Derived.OwnWalkIn
import Derived.TacticsInMore
import Derived.LoopNIn
import Derived.LoopIn
import Derived.Test.YtlfpepkgnobjnaaPxF
namespace Go.Proofs.Ytlfpepkgnobjnaa
open Go.RowKit Go.Inc Go.Shelf

attribute [local go_sem] Oper.semAt_some

/-- What the iterator looks at: its two boxes, the numbers. -/
structure ChU (okU : Nat → Prop) (w : World) (bs bn : Nat) (a : Option Addr) (b o c : Nat) (vs : List Nat) : Prop where
  cs : w.cell? ⟨bs, 0, none⟩ = some (.slice a vs.length c)
  cn : w.cell? ⟨bn, 0, none⟩ = some (.int .i64 2)
  ca : 0 < vs.length → a = some ⟨b, o, none⟩ ∧ okU b
  cap : vs.length ≤ c ∧ c ≤ maxLen
  cells : ∀ i, i < vs.length → w.cell? ⟨b, o + i, none⟩ = some (.int .i64 (((vs.getD i 0 : Nat) : Int)))
  ks : okU bs
  kn : okU bn
theorem ChU.mv {okU : Nat → Prop} {w w' : World} {bs bn b o c : Nat} {a : Option Addr} {vs : List Nat} (h : ChU okU w bs bn a b o c vs) (hm : Mv (fun b => ¬ okU b) w w') : ChU okU w' bs bn a b o c vs :=
  ⟨hm.cell h.cs fun hh => hh h.ks, hm.cell h.cn fun hh => hh h.kn, h.ca, h.cap, fun i hi => hm.cell (h.cells i hi) fun hh => hh (h.ca (by omega)).2, h.ks, h.kn⟩
set_option maxRecDepth 100000 in
set_option maxHeartbeats 2000000 in
theorem chunk1_in (n : Nat) (hn : 1 ≤ n) (l bs bn b o c : Nat) (a : Option Addr) (okU : Nat → Prop) (vs : List Nat) (m : Nat) (hvm : vs.length = 2 * m) (J Jx : List (Fin m) → World → Prop) (hAb : ∀ s x y, J s x → Below x.heap.size x y → J s y)
    (hY : ∀ (pre : List (Fin m)) (x : Fin m) (W : World), J pre W → pre.length < m → YieldAt Fence.wide (n - 1) Try.prog l #[.slice (some ⟨b, o + 2 * x.1, none⟩) 2 2] W fun e W' =>
      (e = .returned (.bool true) ∧ J (pre ++ [x]) W' ∧ Mv (fun b => ¬ okU b) W W') ∨ (e = .returned (.bool false) ∧ Jx (pre ++ [x]) W'))
    (W : World) (hU : ChU okU W bs bn a b o c vs) (h0 : J [] W) :
    CallsIn Fence.wide n Try.prog 44 #[.func (.yield l) #[] #[], .pointer (some ⟨bs, 0, none⟩), .pointer (some ⟨bn, 0, none⟩)] W fun e W' => (∃ v, e = .returned v) ∧
      ((∃ ys, ys = List.finRange m ∧ J ys W') ∨ (∃ pre, pre <+: List.finRange m ∧ Jx pre W')) := by
  have HU := hid hU
  have hro : Fence.wide.round = none := rfl
  clear hU
  refine callsIn_of_wp Try.func44 rfl trivial ?_ hro
  simp only [Try.ntmps44, List.size_toArray, List.length_cons, List.length_nil, Nat.reduceAdd, Nat.reduceSub, Array.replicate_succ, Array.replicate_zero, List.push_toArray, List.append_toArray, List.nil_append, List.cons_append]
  gi_wp2
  gi_loopw [4] (fun i wr => ∃ k : Nat, k ≤ m ∧ i = .int .i64 ((2 * k : Nat) : Int) ∧ J ((List.finRange m).take k) wr ∧ ChU okU wr bs bn a b o c vs) (fun i _ => 2 * m - (intOf i).toNat)
  case atStart => exact ⟨0, Nat.zero_le _, rfl, h0, HU.out⟩
  case round =>
    obtain ⟨k, hk, rfl, hJ, hU⟩ := hrel
    have HUR := hid hU
    have hcs := hU.cs
    have hcn := hU.cn
    obtain ⟨q, hq⟩ : ∃ q, q = 2 * k := ⟨_, rfl⟩
    have HQ := hid hq
    obtain ⟨L, hL⟩ : ∃ L, L = vs.length := ⟨_, rfl⟩
    have HL := hid hL
    rw [← hq]
    rw [← hL] at hcs
    clear hU hq hL
    by_cases hlt : (q : Int) < L
    · have hql : (q < L) = True := eq_true (by omega)
      have hkm : k < m := by have := HQ.out; have := HL.out; omega
      obtain ⟨rfl, hokb⟩ := HUR.out.ca (by have := HL.out; omega)
      have hcap := HUR.out.cap
      have hc1 : (L : Int) ≤ c := by have := HL.out; omega
      have hc2 : (c : Int) ≤ 9223372036854775807 := by have := hcap.2; unfold maxLen at this; omega
      have hts : (List.finRange m).take (k + 1) = (List.finRange m).take k ++ [⟨k, hkm⟩] := by
        rw [List.take_succ_eq_append_getElem (by simpa using hkm)]
        simp
      have HTS := hid hts
      obtain ⟨t, ht⟩ : ∃ t, t = L - q := ⟨_, rfl⟩
      have HT := hid ht
      have ht2 : L - q = t := ht.symm
      have hmin : min (2 : Int) (t : Int) = 2 := by have := HQ.out; have := HL.out; omega
      clear ht hcap hts hlt
      gi_wp2
      gi_quiet (fail)
      have hbq := belowDrew wr nq
      have HUQ : Hid (ChU okU (wr.drewN nq) bs bn (some ⟨b, o, none⟩) b o c vs) := hid (HUR.out.mv (Mv.of_below hbq))
      have hJq := hAb _ _ _ hJ hbq
      have hcsq := (hbq.cell (cell_lt hcs)).trans hcs
      generalize wr.drewN nq = wq at *
      obtain ⟨fn, tmps, assign, body, hy, hR⟩ := hY _ ⟨k, hkm⟩ wq hJq (by rw [List.length_take]; omega)
      dsimp only at hy
      rw [← HQ.out] at hy
      clear hcs hcn hbq hJ hJq
      have hq2 : (q : Int) + 2 ≤ (L : Int) := by have := HQ.out; have := HL.out; omega
      gi_wp2
      refine hR.mono ?_
      rintro e W3 (⟨rfl, hJ3, hk3⟩ | ⟨rfl, hJx3⟩)
      · have hU3 := HUQ.out.mv hk3
        have HU3 := hid hU3
        have hcn3 := hU3.cn
        clear hU3 hk3 hcsq
        gi_wp2
        go_roundw
        case rel => exact ⟨k + 1, by omega, by have := HQ.out; rw [show (2 * (k + 1) : Nat) = q + 2 by omega]; simp, by rw [HTS.out]; exact hJ3, HU3.out⟩
        case measure => have := HQ.out; simp [intOf]; omega
      · have HX := hid hJx3
        clear hJx3
        gi_wp2
        refine bodyPost_ret (results_none rfl _ _ _) rfl ?_
        refine ⟨⟨_, rfl⟩, .inr ⟨(List.finRange m).take k ++ [⟨k, hkm⟩], ?_, HX.out⟩⟩
        rw [← HTS.out]
        exact List.take_prefix _ _
    · have hqf : (q < L) = False := eq_false (by omega)
      have HKM : Hid (k = m) := hid (by have := HQ.out; have := HL.out; omega)
      clear hlt
      gi_wp2
      go_end0
      exact ⟨⟨_, rfl⟩, .inl ⟨(List.finRange m).take k, by rw [HKM.out, List.take_of_length_le (by simp)], hJ⟩⟩

/-- The iterator's contract in the law's words. -/
theorem chunk_stops (n : Nat) (hn : 1 ≤ n) (bs bn b o c : Nat) (a : Option Addr) (okU : Nat → Prop) (vs : List Nat) (m : Nat) (hvm : vs.length = 2 * m) (w : World) (hU : ChU okU w bs bn a b o c vs) :
    SeqStopsK Fence.wide n Try.prog 44 #[.pointer (some ⟨bs, 0, none⟩), .pointer (some ⟨bn, 0, none⟩)] (fun x : Fin m => #[Value.slice (some ⟨b, o + 2 * x.1, none⟩) 2 2]) (Mv fun b => ¬ okU b) (fun ys => ys = List.finRange m) (fun pre => pre <+: List.finRange m) m w := fun l J Jx W hW hA _ hY h0 =>
  chunk1_in n hn l bs bn b o c a okU vs m hvm J Jx (fun s x y hs hb => hA s x y none hs ⟨hb.os, hb.tape, hb.output, hb.size, fun i hi _ => hb.block i hi⟩ (fun r e => by cases e)) hY W (hU.mv (Mv.of_below hW)) h0
/-- Chunk: two boxes, and the iterator that captures them. -/
theorem chunk_any (a : Option Addr) (n c : Nat) (w : World) :
    Calls Try.prog 31 #[.slice a n c, .int .i64 2] w fun e w' => e = .returned (.func (.func 44) #[] #[.pointer (some ⟨w.heap.size, 0, none⟩), .pointer (some ⟨w.heap.size + 1, 0, none⟩)]) ∧ w' = (w.alloc (.cells #[.slice a n c] 22)).alloc (.cells #[.int .i64 2] 3) := by
  go_enter Try.func31, Try.ntmps31
  go_wp2_with fail
  go_ret
  exact ⟨rfl, rfl⟩
end Go.Proofs.Ytlfpepkgnobjnaa
