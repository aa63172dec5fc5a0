/- CONTRACTS (induce, as it landed): isAll; Back; the iterator over a list from its last number on; putBehind. (A RANGE OVER A FUNCTION, TOLD ROUND BY ROUND: what the k-th round is handed is told by k; the iterator may lean on what the caller's rounds say of the memory. No program is named here.) -/
import Derived.RangeFuncFrom
import Derived.RangeFuncNested
import Derived.Test.YtdobjlaggdnphaaInI
import Derived.Shelf.Abstract
import Derived.Shelf.RegionOpen
import Derived.WalkKit
import Derived.OwnWalkIn
import Derived.TacticsInMore
import Derived.LoopNIn
import Derived.LoopIn
import Derived.Test.YtdobjlaggdnphaaIvB
namespace Go.Inc
open Go.RowKit
/-- What an iterator promises that goes through N rounds: X tells what it asks of the memory ahead of each round, and behind the last one. -/
def RoundsAt (F : Fence) (n : Nat) (P : Program) (g : Nat) (lb : Array Value) (encs : Nat → Array Value) (X : Nat → World → Prop) (N : Nat) (w : World) : Prop :=
  ∀ (l : Nat) (J : Nat → World → Prop) (W : World), w.heap.size ≤ W.heap.size → (∀ k V V', J k V → Below V.heap.size V V' → J k V') → (∀ k V, J k V → X k V) →
    (∀ k V, k < N → J k V → YieldAt F (n - 1) P l (encs k) V fun e V' => e = .returned (.bool true) ∧ J (k + 1) V') → J 0 W →
    CallsIn F n P g (#[.func (.yield l) #[] #[]] ++ lb) W fun e W' => (∃ v, e = .returned v) ∧ J N W'
/-- How a round's body ends. -/
def RoundEnd (I : World → Prop) (W : World) : Exit → Act → World → Prop
  | .normal, _, W' => KeepsOthers W W' ∧ I W'
  | _, _, _ => False
theorem grown_of {V V' : World} (h : Below V.heap.size V V') : V.grownBy V' none := ⟨h.os, h.tape, h.output, h.size, fun i hi _ => h.block i hi⟩
section
variable {F : Fence} {n : Nat} {P : Program}
theorem range_rounds {g : Operand} {ps : Array Tmp} {assign body : Code} {Q : Exit → Act → World → Prop} {a : Act} {w : World}
    (hF : F.round = none) (hn : 1 ≤ n) {gf : Nat} {lb : Array Value} (hg : a.eval g = .func (.func gf) #[] lb) (hgf : F.fn gf) (hgo : ∀ args w, (callFunc gf args).run P w = .ok (.enter gf args) w)
    {encs : Nat → Array Value} {X : Nat → World → Prop} {N : Nat} (hit : RoundsAt F (n - 1) P gf lb encs X N w) (hsz : ∀ k, (encs k).size = ps.size)
    (I : Nat → World → Prop) (hI : OwnFrom w.heap.size I) (hX : ∀ k V, I k V → X k V) (h0 : I 0 w) (act : Nat → Act)
    (hassign : ∀ (l k : Nat) (W : World) (K : Act → World → Prop), K (act k) W →
      assign.wpIn (F.inRound l) (n - 1 - 1) P (Exit.then K (fun _ _ _ => False)) { tmps := (ps.zip (encs k)).foldl (fun t (p, v) => t.setIfInBounds p v) a.tmps, defers := [] } W)
    (hbody : ∀ (l k : Nat) (W : World), k < N → I k W → body.wpIn (F.inRound l) (n - 1 - 1) P (RoundEnd (I (k + 1)) W) (act k) W)
    (hdone : ∀ (D : Nat) (W : World), w.heap.size ≤ D → I N W → W.heap[D]? = some (.deferred (some [])) → Q .normal { a with defers := { target := .collected D, args := #[] } :: a.defers } W) :
    (Code.rangeFunc g ps assign body).wpIn F n P Q a w := by
  refine wpIn_rangeFunc fun fn hfn => ?_
  rw [hF]
  obtain ⟨D, hD⟩ : ∃ D, D = w.heap.size := ⟨_, rfl⟩
  obtain ⟨rc, hrc⟩ : ∃ rc : LoopState → Loop, rc = fun st => { state := st, pending := none, fn, tmps := a.tmps, params := ps, assign, body, defers := D } := ⟨_, rfl⟩
  obtain ⟨A, hA⟩ : ∃ A, A = (w.alloc (.deferred (some []))).alloc (.loop (rc .ready)) := ⟨_, rfl⟩
  -- the loop's own state
  let S : LoopState → World → Prop := fun st W => W.heap[D + 1]? = some (.loop (rc st)) ∧ W.heap[D]? = some (.deferred (some []))
  have hS0 : S .ready A := by
    constructor
    · have h := World.alloc_heap_new (w.alloc (.deferred (some []))) (.loop (rc .ready))
      rw [World.size_alloc, ← hD] at h
      rw [hA]; exact h
    · have h := World.alloc_heap_new w (.deferred (some []))
      rw [← hD] at h
      rw [hA]
      exact (Below.heap_alloc _ _ _ (by rw [World.size_alloc, ← hD]; exact Nat.lt_succ_self _)).trans h
  have hSb : ∀ {st V V'}, S st V → Below V.heap.size V V' → S st V' := fun h hb =>
    ⟨(hb.block _ (Array.getElem?_eq_some_iff.1 h.1).1).trans h.1, (hb.block _ (Array.getElem?_eq_some_iff.1 h.2).1).trans h.2⟩
  have hSk : ∀ {st V V'}, S st V → KeepsOthers V V' → S st V' := fun h hk => ⟨hk.same _ _ h.1 rfl, hk.same _ _ h.2 rfl⟩
  have hSp : ∀ {st V} (st'), S st V → S st' (V.putObj (D + 1) (.loop (rc st'))) := fun st' h =>
    ⟨World.putObj_heap_same (Array.getElem?_eq_some_iff.1 h.1).1, (World.putObj_heap_other (by omega)).trans h.2⟩
  have hIp : ∀ {k st V} (st'), S st V → I k V → I k (V.putObj (D + 1) (.loop (rc st'))) := fun st' h hi => hI.putObj _ hi (by omega) h.1 rfl
  refine ⟨D + 1, [{ target := .collected D, args := #[] }], A, { target := .fn (.func gf) lb, args := #[.func (.yield (D + 1)) #[] #[]] }, A, gf, #[.func (.yield (D + 1)) #[] #[]] ++ lb, A, ?_, ?_, ?_, ?_, fun _ => hn, ?_⟩
  · rw [hA, hrc, hD]; exact run_enterLoop_outer _ _ _ _ _
  · simp only [resolve, hg]
    simp [go_sem]
  · intro f hf
    simp [Target.leads] at hf
    subst hf
    exact hgf
  · simp [invoke, go_sem, hgo]
  · have hcall := hit (D + 1) (fun k V => I k V ∧ S .ready V) A (by rw [hA]; simp; omega) (fun k V V' h hb => ⟨hI k V V' none h.1 (grown_of hb) (fun r e => by cases e), hSb h.2 hb⟩) (fun k V h => hX k V h.1) (fun k V hk h => by
      obtain ⟨hi, hs⟩ := h
      have hy := run_yield (P := P) (args := encs k) hs.1 (by rw [hrc]; exact hsz k)
      rw [hrc] at hy
      refine ⟨fn, _, assign, body, hy, roundIn_of_wpIn hfn (hassign _ k V _ ⟨_, run_beginRound hs.1 (by rw [hrc]), ?_⟩)⟩
      have hs2 : S .busy (V.putObj (D + 1) (.loop (rc .busy))) := hSp .busy hs
      have hi2 : I k (V.putObj (D + 1) (.loop (rc .busy))) := hIp .busy hs hi
      have e2 : ({ rc .ready with state := .busy } : Loop) = rc .busy := by rw [hrc]
      rw [e2]
      refine wpIn_mono (hbody _ k _ hk hi2) ?_
      rintro e a3 V3 hp
      cases e with
      | normal =>
        obtain ⟨hk3, hi3⟩ := hp
        have hs3 := hSk hs2 hk3
        refine ⟨_, _, run_endRound none hs3.1, rfl, ?_⟩
        have e3 : ({ rc .busy with state := (if (none : Option Code).isNone = true then LoopState.ready else LoopState.done), pending := none } : Loop) = rc .ready := by rw [hrc]; rfl
        rw [e3]
        exact ⟨hIp .ready hs3 hi3, hSp .ready hs3⟩
      | ret => exact hp.elim
      | exit id => exact hp.elim
      | goto t => exact hp.elim
      | panic ch => exact hp.elim
      | outgrown => exact hp.elim) ⟨by rw [hA]; exact hI.alloc _ (hI.alloc _ h0), hS0⟩
    refine hcall.mono ?_
    rintro e V ⟨⟨v, rfl⟩, hi, hs⟩
    have hl := run_endLoop (P := P) hs.1 (by rw [hrc]; simp)
    have hpn : (rc .ready).pending = none := by rw [hrc]
    rw [hpn] at hl
    refine ⟨none, _, hl, hdone D _ (by rw [hD]; exact Nat.le_refl _) ?_ ?_⟩
    · exact hI.putObj _ hi (by omega) hs.1 rfl
    · exact (World.putObj_heap_other (by omega)).trans hs.2
end
end Go.Inc
namespace Go.Proofs.Ytdobjlaggdnphaa
open Go.RowKit Go.Inc Go.Shelf

attribute [local go_sem] Oper.semAt_some

set_option maxRecDepth 20000 in
set_option maxHeartbeats 1000000 in
theorem isAll_any (ok : Nat → Prop) (x : World) (v : Value) (ls : List Int) (n : Nat) (h : So ok x v ls) (hl : ls.length ≤ 65536) :
    Calls Try.prog 38 #[v, .int .i64 (n : Int)] x fun e w' => (∃ r : Bool, e = .returned (.bool r) ∧ (r = true ↔ okT ls ∧ ls.length = n)) ∧ Below x.heap.size x w' := by
  by_cases he : ls.length = n
  · by_cases ho : okT ls
    · have HT := hid (suTurned ok x v ls h hl ho)
      have HR : Hid (∃ r : Bool, Ending.returned (.bool true) = .returned (.bool r) ∧ (r = true ↔ okT ls ∧ ls.length = n)) := hid ⟨true, rfl, by simp [ho, he]⟩
      obtain ⟨a, c, rfl, -, -, -, -⟩ := h
      have hne : ((ls.length : Int) != (n : Int)) = false := by rw [he]; simp
      rw [he] at HT ⊢
      rw [he] at HR
      clear hl he ho hne
      go_enter Try.func38, Try.ntmps38
      go_wp2_with fail
      refine HT.out.mono ?_
      rintro e w1 ⟨u, rfl, hu, hb⟩
      have HB := hid hb
      clear HT hu hb
      go_wp2_with fail
      go_ret
      exact ⟨HR.out, HB.out⟩
    · have HT := hid (suTurnedBad ok x v ls h hl ho)
      have HR : Hid (∃ r : Bool, Ending.returned (.bool false) = .returned (.bool r) ∧ (r = true ↔ okT ls ∧ ls.length = n)) := hid ⟨false, rfl, by simp [ho]⟩
      obtain ⟨a, c, rfl, -, -, -, -⟩ := h
      rw [he] at HT ⊢
      rw [he] at HR
      clear hl he ho
      go_enter Try.func38, Try.ntmps38
      go_wp2_with fail
      refine HT.out.mono ?_
      rintro e w1 ⟨a1, c1, rfl, hb⟩
      have HB := hid hb
      clear HT hb
      go_wp2_with fail
      go_ret
      exact ⟨HR.out, HB.out⟩
  · have HR : Hid (∃ r : Bool, Ending.returned (.bool false) = .returned (.bool r) ∧ (r = true ↔ okT ls ∧ ls.length = n)) := hid ⟨false, rfl, by simp [he]⟩
    obtain ⟨a, c, rfl, -, -, -, -⟩ := h
    obtain ⟨m, hm⟩ : ∃ m, m = ls.length := ⟨_, rfl⟩
    rw [← hm] at he HR ⊢
    have hne : ((m : Int) != (n : Int)) = true := by rw [bne_iff_ne]; omega
    have hne2 : (m = n) = False := eq_false he
    clear hl he hm
    go_enter Try.func38, Try.ntmps38
    go_wp2_with fail
    go_ret
    exact ⟨HR.out, Below.refl _ _⟩
set_option maxRecDepth 20000 in
set_option maxHeartbeats 2000000 in
theorem ivBack (ok ok' : Nat → Prop) (w : World) (v v' : Value) (zs : List Int) (l : List Nat) (h : So ok w v zs) (h' : So ok' w v' (zsN l)) (hl : zs.length ≤ 65536) (hk : ckT zs = 0) (ho : okT (zsN l)) (hll : l.length = (fsT zs zs.length).length) :
    Calls Try.prog 26 #[v, v'] w fun e w' => ∃ u, e = .returned (.tuple #[u, .int .i64 0]) ∧ So (fun g => w.heap.size ≤ g) w' u (zsN (bkT zs l)) ∧ Below w.heap.size w w' := by
  have HF := hid (suFirsts ok w v zs h hl hk)
  have hfl := fs_half (x := zs)
  have HBK : Hid (qvl (fun t => (fsT zs zs.length).getD (l.getD t 0) 0) l.length = nvals (bkT zs l)) := hid (bk_row zs l)
  have HLT : Hid (∀ t, t < l.length → l.getD t 0 < l.length) := hid fun t ht => by
    have h1 := okT_in ho (z := ((l.getD t 0 : Nat) : Int)) (by rw [← zsN_get]; exact getD_mem (by rw [zsN_len]; exact ht))
    rw [zsN_len] at h1
    omega
  have HAL : Hid (∀ y, Below w.heap.size w y → Calls Try.prog 38 #[v', .int .i64 (l.length : Int)] y fun e w' => e = .returned (.bool true) ∧ Below y.heap.size y w') := hid fun y hy => by
    refine (isAll_any ok' y v' (zsN l) l.length (h'.below hy) (by rw [zsN_len]; omega)).mono ?_
    rintro e w' ⟨⟨r, rfl, hr⟩, hb⟩
    exact ⟨by rw [hr.2 ⟨ho, zsN_len l⟩], hb⟩
  obtain ⟨a, c, rfl, -, -, -, -⟩ := h
  obtain ⟨a', c', rfl, hs', -, -, -⟩ := h'
  have HS' := hid hs'
  obtain ⟨F, hF⟩ : ∃ F, F = fsT zs zs.length := ⟨_, rfl⟩
  rw [← hF] at HF HBK hll hfl
  obtain ⟨m, hm⟩ : ∃ m, m = l.length := ⟨_, rfl⟩
  have HM := hid hm
  have HFL : Hid (m = F.length) := hid (by rw [hm, hll])
  rw [zsN_len, ← hm] at HAL
  rw [← hm] at HBK HLT
  rw [zsN_len, ← hm]
  have hmb : (m : Int) ≤ 65536 := by omega
  obtain ⟨i0, hi, hz0, hz1, hz2⟩ := info_parts infoIntS
  have HINF := hid (And.intro hi (And.intro hz0 (And.intro hz1 hz2)))
  generalize zs.length = n at *
  clear hs' hl hk ho hll hfl hF hm hi hz0 hz1 hz2
  go_enter Try.func26, Try.ntmps26
  go_wp2_with fail
  refine HF.out.mono ?_
  clear HF
  rintro e w1 ⟨u, rfl, hu, hb⟩
  obtain ⟨fa, fc, rfl, hfs, -, -, -⟩ := hu
  have HB1 := hid hb
  have HFS := hid hfs
  have hA := HAL.out w1 hb
  rw [zsN_len, ← HFL.out]
  have HA := hid hA
  clear HAL hb hfs hA
  go_wp2_with fail
  refine HA.out.mono ?_
  clear HA
  rintro e w2 ⟨rfl, hb⟩
  have HB2 : Hid (Below w.heap.size w w2) := hid (HB1.out.trans (hb.mono HB1.out.size))
  have HFS2 : Hid (Si (fun g => w.heap.size ≤ g) w2 fa (zsN F)) := hid (HFS.out.below hb)
  have HXB : Hid (w.heap.size ≤ w2.heap.size) := hid HB2.out.size
  clear hb HFS HB1
  go_wp2_with (refine wpList_make_full _ rfl _ _ 22 rfl w2.heap.size 3 i0 (.int .i64 0) 1 Try.underlying22 HINF.out.1 HINF.out.2.1 HINF.out.2.2.1 .i64 .i64 _ _ m rfl rfl rfl rfl (by rw [HINF.out.2.2.2]; omega) (by unfold maxLen; omega) (Nat.le_refl _) ?_)
  intro w3 ho3 hg3
  rw [zero_cells, fst0_zero (fun t => F.getD (l.getD t 0) 0)] at ho3
  have HO3 := hid ho3
  have HB3 : Hid (Below w2.heap.size w2 w3) := hid ⟨hg3.os, hg3.tape, hg3.output, hg3.size, fun i hi => hg3.block i hi (by simp)⟩
  obtain ⟨g, hg⟩ : ∃ g, g = w2.heap.size := ⟨_, rfl⟩
  rw [← hg] at HO3 HB3 ⊢
  have HG := hid hg
  clear ho3 hg3 hg
  go_wp2_with fail
  go_loopw [29] (fun i wr => ∃ t : Nat, t ≤ m ∧ i = .int .i64 (t : Int) ∧ wr.ownsRow g 3 1 (.slice (some ⟨g, 0, none⟩) m m) m (qvl (fst0 (fun t => F.getD (l.getD t 0) 0) t) m) ∧ Below g w2 wr) (fun i _ => m - (intOf i).toNat)
  case atStart => exact ⟨0, Nat.zero_le _, rfl, HO3.out, HB3.out⟩
  case round =>
    clear HO3 HB3
    obtain ⟨t, ht, rfl, ho, hb⟩ := hrel
    have HO := hid ho
    have HB := hid hb
    clear ho hb
    by_cases hlt : t < m
    · have hti : (t < m) = True := eq_true hlt
      have htb : (t : Int) < (m : Int) := by omega
      have HT := hid hlt
      have HX : Hid (Below w.heap.size w wr) := hid (HB2.out.trans (HB.out.mono (by rw [HG.out]; exact HXB.out)))
      obtain ⟨b1, o1, rfl, h1⟩ := siCell (HS'.out.below HX.out) (k := t) (by rw [zsN_len, ← HM.out]; exact hlt)
      rw [zsN_get] at h1
      obtain ⟨q, hq⟩ : ∃ q, q = l.getD t 0 := ⟨_, rfl⟩
      have hqm : q < m := by rw [hq]; exact HLT.out t hlt
      obtain ⟨b2, o2, rfl, h2⟩ := siCell (HFS2.out.below (by have := HB.out; rw [HG.out] at this; exact this)) (k := q) (by rw [zsN_len, ← HFL.out]; exact hqm)
      rw [zsN_get] at h2
      rw [← hq] at h1
      have hqb : (q : Int) < (m : Int) := by omega
      have hqN : (q < m) = True := eq_true hqm
      have hc := rowCell HO.out hlt
      have f1 := HO.out.frozenAt t
      have hst := HO.out.stored t (.int .i64 ((F.getD q 0 : Nat) : Int))
      rw [qvl_set, hq, fst0_step (fun t => F.getD (l.getD t 0) 0)] at hst
      rw [← hq] at hst
      have HST := hid hst.1
      have HBT := hid (HB.out.setCell (p := ⟨g, t, none⟩) (Nat.le_refl _) (.int .i64 ((F.getD q 0 : Nat) : Int)))
      generalize ((fst0 (fun t => F.getD (l.getD t 0) 0) t t : Nat) : Int) = old at *
      generalize F.getD q 0 = z at *
      clear hlt hq hqm hst HO HB
      go_wp2_with fail
      go_roundw
      case rel => exact ⟨t + 1, HT.out, by go_num, HST.out, HBT.out⟩
      case measure => simp [intOf]; have := HT.out; omega
    · have hti : (t < m) = False := eq_false hlt
      obtain rfl : t = m := by omega
      have ho := HO.out
      rw [fst0_all, HBK.out] at ho
      have HR := hid (So.ownedN ho)
      have HBB : Hid (Below w.heap.size w wr) := hid (HB2.out.trans (HB.out.mono (by rw [HG.out]; exact HXB.out)))
      have HGW : Hid (w.heap.size ≤ g) := hid (by rw [HG.out]; exact HXB.out)
      clear hlt ho HO
      go_wp2_with fail
      go_ret2
      exact ⟨_, rfl, HR.out.mono (fun b hb _ => Nat.le_trans HGW.out hb), HBB.out⟩
set_option maxRecDepth 20000 in
set_option maxHeartbeats 1000000 in
theorem ivBackF (ok ok' : Nat → Prop) (w : World) (v v' : Value) (zs ls : List Int) (h : So ok w v zs) (h' : So ok' w v' ls) (hl : zs.length ≤ 65536) (hk : ckT zs = 0) (hl' : ls.length ≤ 65536) (hno : ¬ (okT ls ∧ ls.length = (fsT zs zs.length).length)) :
    Calls Try.prog 26 #[v, v'] w fun e w' => ∃ u, e = .returned (.tuple #[u, .int .i64 3]) ∧ Below w.heap.size w w' := by
  have HF := hid (suFirsts ok w v zs h hl hk)
  have hfl := fs_half (x := zs)
  have HAL : Hid (∀ y, Below w.heap.size w y → Calls Try.prog 38 #[v', .int .i64 ((fsT zs zs.length).length : Int)] y fun e w' => e = .returned (.bool false) ∧ Below y.heap.size y w') := hid fun y hy => by
    refine (isAll_any ok' y v' ls _ (h'.below hy) hl').mono ?_
    rintro e w' ⟨⟨r, rfl, hr⟩, hb⟩
    refine ⟨?_, hb⟩
    cases r with
    | false => rfl
    | true => exact absurd (hr.1 rfl) hno
  obtain ⟨a, c, rfl, -, -, -, -⟩ := h
  obtain ⟨a', c', rfl, -, -, -, -⟩ := h'
  generalize fsT zs zs.length = F at *
  generalize zs.length = n at *
  generalize ls.length = n' at *
  clear hl hk hl' hno hfl
  go_enter Try.func26, Try.ntmps26
  go_wp2_with fail
  refine HF.out.mono ?_
  clear HF
  rintro e w1 ⟨u, rfl, hu, hb⟩
  obtain ⟨fa, fc, rfl, -, -, -, -⟩ := hu
  have HB1 := hid hb
  have hA := HAL.out w1 hb
  rw [zsN_len]
  have HA := hid hA
  clear HAL hb hA
  go_wp2_with fail
  refine HA.out.mono ?_
  clear HA
  rintro e w2 ⟨rfl, hb⟩
  have HB2 : Hid (Below w.heap.size w w2) := hid (HB1.out.trans (hb.mono HB1.out.size))
  clear hb HB1
  go_wp2_with fail
  go_ret2
  exact ⟨_, rfl, HB2.out⟩
theorem ivBackE (ok : Nat → Prop) (w : World) (v v' : Value) (zs : List Int) (h : So ok w v zs) (hl : zs.length ≤ 65536) (hz : ∀ z ∈ zs, i64s z) (hk : ckT zs ≠ 0) :
    Calls Try.prog 26 #[v, v'] w fun e w' => ∃ u, e = .returned (.tuple #[u, .int .i64 ((ckT zs : Nat) : Int)]) ∧ Below w.heap.size w w' := by
  have HC := hid (suFirstsE ok w v zs h hl hz hk)
  obtain ⟨k, hkk⟩ : ∃ k, k = ckT zs := ⟨_, rfl⟩
  rw [← hkk] at HC hk ⊢
  have hk0 : ((k : Int) != 0) = true := by rw [bne_iff_ne]; omega
  clear h hl hz hk hkk
  go_enter Try.func26, Try.ntmps26
  go_wp2_with fail
  refine HC.out.mono ?_
  rintro e w' ⟨u, rfl, hb⟩
  have HB := hid hb
  clear hb HC
  go_wp2_with fail
  go_ret2
  exact ⟨_, rfl, HB.out⟩
/-- fromLast: a box, and the iterator that captures it. -/
theorem fromLast_any (a : Option Addr) (n c : Nat) (w : World) :
    Calls Try.prog 71 #[.slice a n c] w fun e w' => e = .returned (.func (.func 81) #[] #[.pointer (some ⟨w.heap.size, 0, none⟩)]) ∧ w' = w.alloc (.cells #[.slice a n c] 22) := by
  go_enter Try.func71, Try.ntmps71
  go_wp2_with fail
  go_ret
  exact ⟨rfl, rfl⟩
/-- What the iterator asks of the memory ahead of the k-th round: its box, and the number that is next. -/
def LastX (bx b o c N : Nat) (f : Nat → Int) (k : Nat) (V : World) : Prop :=
  V.cell? ⟨bx, 0, none⟩ = some (.slice (some ⟨b, o, none⟩) N c) ∧ (k < N → V.cell? ⟨b, o + (N - 1 - k), none⟩ = some (.int .i64 (f k)))
set_option maxRecDepth 100000 in
set_option maxHeartbeats 2000000 in
theorem last_rounds (n : Nat) (_hn : 1 ≤ n) (bx b o c N : Nat) (f : Nat → Int) (hN : (N : Int) ≤ 65536) (w : World) :
    RoundsAt Fence.wide n Try.prog 81 #[.pointer (some ⟨bx, 0, none⟩)] (fun k => #[Value.int .i64 (f k)]) (LastX bx b o c N f) N w := by
  intro l J W _ _ hX hY h0
  have HX := hid hX
  have HY := hid hY
  have hro : Fence.wide.round = none := rfl
  have hc0 := (hX 0 W h0).1
  clear hX hY
  show CallsIn Fence.wide n Try.prog 81 #[.func (.yield l) #[] #[], .pointer (some ⟨bx, 0, none⟩)] W _
  refine callsIn_of_wp Try.func81 rfl trivial ?_ hro
  simp only [Try.ntmps81, List.size_toArray, List.length_cons, List.length_nil, Nat.reduceAdd, Nat.reduceSub, Array.replicate_succ, Array.replicate_zero, List.push_toArray, List.append_toArray, List.nil_append, List.cons_append]
  gi_wp2
  gi_loopw [3] (fun i wr => ∃ k : Nat, k ≤ N ∧ i = .int .i64 ((N : Int) - 1 - (k : Int)) ∧ J k wr) (fun i _ => ((intOf i) + 1).toNat)
  case atStart => exact ⟨0, Nat.zero_le _, by simp, h0⟩
  case round =>
    clear hc0 h0
    obtain ⟨k, hk, rfl, hJ⟩ := hrel
    by_cases hlt : k < N
    · obtain ⟨p, hp⟩ : ∃ p : Nat, p = N - 1 - k := ⟨_, rfl⟩
      have hpe : (N : Int) - 1 - (k : Int) = (p : Int) := by omega
      have hp0 : decide ((p : Int) ≥ 0) = true := decide_eq_true (by omega)
      have hpb : (p : Int) < (N : Int) := by omega
      have hpN : (p < N) = True := eq_true (by omega)
      obtain ⟨hcb, hcv⟩ := HX.out k wr hJ
      have hcv1 := hcv hlt
      rw [← hp] at hcv1
      obtain ⟨fn, tmps, assign, body, hy, hR⟩ := HY.out k wr hlt hJ
      have HK : Hid (k < N ∧ (p : Int) - 1 = (N : Int) - 1 - ((k + 1 : Nat) : Int)) := hid ⟨hlt, by omega⟩
      rw [hpe]
      clear hp hpe hcv hlt hJ
      gi_wp2
      refine hR.mono ?_
      rintro e W3 ⟨rfl, hJ3⟩
      have HJ3 := hid hJ3
      clear hcb hcv1 hJ3 hR hy
      gi_wp2
      go_roundw
      case rel => exact ⟨k + 1, HK.out.1, by rw [← HK.out.2] <;> go_num, HJ3.out⟩
      case measure => simp [intOf]
    · obtain rfl : k = N := by omega
      have hpe : (k : Int) - 1 - (k : Int) = -1 := by omega
      rw [hpe]
      have hp0 : decide ((-1 : Int) ≥ 0) = false := by decide
      have HJ := hid hJ
      clear hlt hJ
      gi_wp2
      go_end0
      exact ⟨⟨_, rfl⟩, HJ.out⟩
set_option maxRecDepth 20000 in
set_option maxHeartbeats 1000000 in
/-- A place is put to its bucket's end. -/
theorem putBehind_any (y : World) (wb tb tq c g1 g3 n G i s e : Nat) (o : Value) (h0 : y.cell? ⟨wb, 0, none⟩ = some (.slice (some ⟨tb, tq, none⟩) n c)) (h2 : y.cell? ⟨wb, 2, none⟩ = some (.slice (some ⟨g1, 0, none⟩) n n))
    (ht : y.cell? ⟨tb, tq + i, none⟩ = some (.int .i64 (s : Int))) (he : y.cell? ⟨g3, s, none⟩ = some (.int .i64 ((e + 1 : Nat) : Int))) (f3 : y.frozen? ⟨g3, s, none⟩ = false)
    (ho : y.cell? ⟨g1, e, none⟩ = some o) (f1 : y.frozen? ⟨g1, e, none⟩ = false) (hi : i < n) (hs : s < G) (hen : e < n) (hn : n ≤ 65536) (hG : G ≤ 65536) (h13 : g1 ≠ g3) (hw3 : wb ≠ g3) :
    Calls Try.prog 72 #[.pointer (some ⟨wb, 0, none⟩), .slice (some ⟨g3, 0, none⟩) G G, .int .i64 (i : Int)] y fun r w' => r = .returned (.tuple #[]) ∧
      w' = ((y.setCell ⟨g3, s, none⟩ (.int .i64 (e : Int))).setCell ⟨g1, e, none⟩ (.int .i64 (i : Int))).drew := by
  obtain ⟨q, hq⟩ : ∃ q, q = e + 1 := ⟨_, rfl⟩
  rw [← hq] at he
  have hqe : (q : Int) - 1 = (e : Int) := by omega
  have hib : (i : Int) < (n : Int) := by omega
  have hiN : (i < n) = True := eq_true hi
  have hsb : (s : Int) < (G : Int) := by omega
  have hsN : (s < G) = True := eq_true hs
  have heb : (e : Int) < (n : Int) := by omega
  have heN : (e < n) = True := eq_true hen
  have hnb : (n : Int) ≤ 65536 := by omega
  have hgb : (G : Int) ≤ 65536 := by omega
  obtain ⟨z, hz⟩ : ∃ z, z = y.setCell ⟨g3, s, none⟩ (.int .i64 (e : Int)) := ⟨_, rfl⟩
  have hmv : Mv (fun b => b = g3) y z := by rw [hz]; exact mvSet (F := fun b => b = g3) (Mv.refl _ _) rfl _
  have k2 : z.cell? ⟨wb, 2, none⟩ = some (.slice (some ⟨g1, 0, none⟩) n n) := hmv.cell h2 hw3
  have k3 : z.cell? ⟨g3, s, none⟩ = some (.int .i64 (e : Int)) := by rw [hz]; exact World.cell?_setCell_same' _ _ _ (by rw [he]; rfl)
  have ko : z.cell? ⟨g1, e, none⟩ = some o := hmv.cell ho h13
  have kf : z.frozen? ⟨g1, e, none⟩ = false := by
    rw [← f1]
    unfold World.frozen?
    rw [hmv.block g1 (cell_lt ho) h13]
  rw [← hz]
  have HZ := hid hz
  clear hq hi hs hen hn hG hmv hz
  go_enter Try.func72, Try.ntmps72
  go_upto_region 2 with fail
  rw [← HZ.out]
  clear h0 h2 ht he f3 ho f1
  go_wp2_with fail
  go_region
  go_wp2_with fail
  go_end0
  exact ⟨rfl, rfl⟩
end Go.Proofs.Ytdobjlaggdnphaa
