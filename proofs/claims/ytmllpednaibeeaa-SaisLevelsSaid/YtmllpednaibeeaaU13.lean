/- CONTRACTS (induce, as it landed): isAll; Back; the iterator over a list from its last number on; putBehind. (A RANGE OVER A FUNCTION, TOLD ROUND BY ROUND: what the k-th round is handed is told by k; the iterator may lean on what the caller's rounds say of the memory. No program is named here.) CONTRACTS (induce, as it landed): the places of kind S are taken away, and put anew. (CONTRACTS (induce, as it landed): all places of kind L are put; those of kind S are taken away. (CONTRACTS (induce, as it landed): what a text being induced looks like in memory; sowing.)) THE CONTRACTS THAT THE LAW'S SIDE ASKS FOR (layer 16), of what landed. (CONTRACTS (induce, as it landed): names; Names; Reduced. (CONTRACTS (induce, as it landed): the pieces of all first Ss, by place. (CONTRACTS (induce, as it landed): the order that is induced; Induce.))) -/
import Derived.RangeFuncFrom
import Derived.RangeFuncNested
import Derived.Test.YtmllpednaibeeaaU8
import Derived.Shelf.Abstract
import Derived.Shelf.RegionOpen
import Derived.WalkKit
import Derived.OwnWalkIn
import Derived.TacticsInMore
import Derived.LoopNIn
import Derived.LoopIn
import Derived.Test.YtmllpednaibeeaaU12
import Derived.BigRegion
import Derived.Test.YtmllpednaibeeaaU2
namespace Go.Inc
open Go.RowKit
/-- What an iterator promises that goes through N rounds: X tells what it asks of the memory ahead of each round, and behind the last one. -/
def RoundsAt (F : Fence) (n : Nat) (P : Program) (g : Nat) (lb : Array Value) (encs : Nat → Array Value) (X : Nat → World → Prop) (N : Nat) (w : World) : Prop :=
  ∀ (l : Nat) (J : Nat → World → Prop) (W : World), w.heap.size ≤ W.heap.size → (∀ k V V', J k V → Below V.heap.size V V' → J k V') → (∀ k V, J k V → X k V) →
    (∀ k V, k < N → J k V → YieldAt F (n - 1) P l (encs k) V fun e V' => e = .returned (.bool true) ∧ J (k + 1) V') → J 0 W →
    CallsIn F n P g (#[.func (.yield l) #[] #[]] ++ lb) W fun e W' => (∃ v, e = .returned v) ∧ J N W'
/-- How a round's body ends. -/
def RoundEnd (I : World → Prop) (W : World) : Exit → Act → World → Prop
  | .normal, _, W' => KeepsOthers W W' ∧ I W'
  | _, _, _ => False
theorem grown_of {V V' : World} (h : Below V.heap.size V V') : V.grownBy V' none := ⟨h.os, h.tape, h.output, h.size, fun i hi _ => h.block i hi⟩
section
variable {F : Fence} {n : Nat} {P : Program}
theorem range_rounds {g : Operand} {ps : Array Tmp} {assign body : Code} {Q : Exit → Act → World → Prop} {a : Act} {w : World}
    (hF : F.round = none) (hn : 1 ≤ n) {gf : Nat} {lb : Array Value} (hg : a.eval g = .func (.func gf) #[] lb) (hgf : F.fn gf) (hgo : ∀ args w, (callFunc gf args).run P w = .ok (.enter gf args) w)
    {encs : Nat → Array Value} {X : Nat → World → Prop} {N : Nat} (hit : RoundsAt F (n - 1) P gf lb encs X N w) (hsz : ∀ k, (encs k).size = ps.size)
    (I : Nat → World → Prop) (hI : OwnFrom w.heap.size I) (hX : ∀ k V, I k V → X k V) (h0 : I 0 w) (act : Nat → Act)
    (hassign : ∀ (l k : Nat) (W : World) (K : Act → World → Prop), K (act k) W →
      assign.wpIn (F.inRound l) (n - 1 - 1) P (Exit.then K (fun _ _ _ => False)) { tmps := (ps.zip (encs k)).foldl (fun t (p, v) => t.setIfInBounds p v) a.tmps, defers := [] } W)
    (hbody : ∀ (l k : Nat) (W : World), k < N → I k W → body.wpIn (F.inRound l) (n - 1 - 1) P (RoundEnd (I (k + 1)) W) (act k) W)
    (hdone : ∀ (D : Nat) (W : World), w.heap.size ≤ D → I N W → W.heap[D]? = some (.deferred (some [])) → Q .normal { a with defers := { target := .collected D, args := #[] } :: a.defers } W) :
    (Code.rangeFunc g ps assign body).wpIn F n P Q a w := by
  refine wpIn_rangeFunc fun fn hfn => ?_
  rw [hF]
  obtain ⟨D, hD⟩ : ∃ D, D = w.heap.size := ⟨_, rfl⟩
  obtain ⟨rc, hrc⟩ : ∃ rc : LoopState → Loop, rc = fun st => { state := st, pending := none, fn, tmps := a.tmps, params := ps, assign, body, defers := D } := ⟨_, rfl⟩
  obtain ⟨A, hA⟩ : ∃ A, A = (w.alloc (.deferred (some []))).alloc (.loop (rc .ready)) := ⟨_, rfl⟩
  -- the loop's own state
  let S : LoopState → World → Prop := fun st W => W.heap[D + 1]? = some (.loop (rc st)) ∧ W.heap[D]? = some (.deferred (some []))
  have hS0 : S .ready A := by
    constructor
    · have h := World.alloc_heap_new (w.alloc (.deferred (some []))) (.loop (rc .ready))
      rw [World.size_alloc, ← hD] at h
      rw [hA]; exact h
    · have h := World.alloc_heap_new w (.deferred (some []))
      rw [← hD] at h
      rw [hA]
      exact (Below.heap_alloc _ _ _ (by rw [World.size_alloc, ← hD]; exact Nat.lt_succ_self _)).trans h
  have hSb : ∀ {st V V'}, S st V → Below V.heap.size V V' → S st V' := fun h hb =>
    ⟨(hb.block _ (Array.getElem?_eq_some_iff.1 h.1).1).trans h.1, (hb.block _ (Array.getElem?_eq_some_iff.1 h.2).1).trans h.2⟩
  have hSk : ∀ {st V V'}, S st V → KeepsOthers V V' → S st V' := fun h hk => ⟨hk.same _ _ h.1 rfl, hk.same _ _ h.2 rfl⟩
  have hSp : ∀ {st V} (st'), S st V → S st' (V.putObj (D + 1) (.loop (rc st'))) := fun st' h =>
    ⟨World.putObj_heap_same (Array.getElem?_eq_some_iff.1 h.1).1, (World.putObj_heap_other (by omega)).trans h.2⟩
  have hIp : ∀ {k st V} (st'), S st V → I k V → I k (V.putObj (D + 1) (.loop (rc st'))) := fun st' h hi => hI.putObj _ hi (by omega) h.1 rfl
  refine ⟨D + 1, [{ target := .collected D, args := #[] }], A, { target := .fn (.func gf) lb, args := #[.func (.yield (D + 1)) #[] #[]] }, A, gf, #[.func (.yield (D + 1)) #[] #[]] ++ lb, A, ?_, ?_, ?_, ?_, fun _ => hn, ?_⟩
  · rw [hA, hrc, hD]; exact run_enterLoop_outer _ _ _ _ _
  · simp only [resolve, hg]
    simp [go_sem]
  · intro f hf
    simp [Target.leads] at hf
    subst hf
    exact hgf
  · simp [invoke, go_sem, hgo]
  · have hcall := hit (D + 1) (fun k V => I k V ∧ S .ready V) A (by rw [hA]; simp; omega) (fun k V V' h hb => ⟨hI k V V' none h.1 (grown_of hb) (fun r e => by cases e), hSb h.2 hb⟩) (fun k V h => hX k V h.1) (fun k V hk h => by
      obtain ⟨hi, hs⟩ := h
      have hy := run_yield (P := P) (args := encs k) hs.1 (by rw [hrc]; exact hsz k)
      rw [hrc] at hy
      refine ⟨fn, _, assign, body, hy, roundIn_of_wpIn hfn (hassign _ k V _ ⟨_, run_beginRound hs.1 (by rw [hrc]), ?_⟩)⟩
      have hs2 : S .busy (V.putObj (D + 1) (.loop (rc .busy))) := hSp .busy hs
      have hi2 : I k (V.putObj (D + 1) (.loop (rc .busy))) := hIp .busy hs hi
      have e2 : ({ rc .ready with state := .busy } : Loop) = rc .busy := by rw [hrc]
      rw [e2]
      refine wpIn_mono (hbody _ k _ hk hi2) ?_
      rintro e a3 V3 hp
      cases e with
      | normal =>
        obtain ⟨hk3, hi3⟩ := hp
        have hs3 := hSk hs2 hk3
        refine ⟨_, _, run_endRound none hs3.1, rfl, ?_⟩
        have e3 : ({ rc .busy with state := (if (none : Option Code).isNone = true then LoopState.ready else LoopState.done), pending := none } : Loop) = rc .ready := by rw [hrc]; rfl
        rw [e3]
        exact ⟨hIp .ready hs3 hi3, hSp .ready hs3⟩
      | ret => exact hp.elim
      | exit id => exact hp.elim
      | goto t => exact hp.elim
      | panic ch => exact hp.elim
      | outgrown => exact hp.elim) ⟨by rw [hA]; exact hI.alloc _ (hI.alloc _ h0), hS0⟩
    refine hcall.mono ?_
    rintro e V ⟨⟨v, rfl⟩, hi, hs⟩
    have hl := run_endLoop (P := P) hs.1 (by rw [hrc]; simp)
    have hpn : (rc .ready).pending = none := by rw [hrc]
    rw [hpn] at hl
    refine ⟨none, _, hl, hdone D _ (by rw [hD]; exact Nat.le_refl _) ?_ ?_⟩
    · exact hI.putObj _ hi (by omega) hs.1 rfl
    · exact (World.putObj_heap_other (by omega)).trans hs.2
end
end Go.Inc
namespace Go.Proofs.Ytmllpednaibeeaa
open Go.RowKit Go.Inc Go.Shelf

set_option maxRecDepth 20000 in
set_option maxHeartbeats 1000000 in
theorem isAll_any (ok : Nat → Prop) (x : World) (v : Value) (ls : List Int) (n : Nat) (h : So ok x v ls) (hl : ls.length ≤ 65536) :
    Calls Try.prog 61 #[v, .int .i64 (n : Int)] x fun e w' => (∃ r : Bool, e = .returned (.bool r) ∧ (r = true ↔ okT ls ∧ ls.length = n)) ∧ Below x.heap.size x w' := by
  by_cases he : ls.length = n
  · by_cases ho : okT ls
    · have HT := hid (suTurned ok x v ls h hl ho)
      have HR : Hid (∃ r : Bool, Ending.returned (.bool true) = .returned (.bool r) ∧ (r = true ↔ okT ls ∧ ls.length = n)) := hid ⟨true, rfl, by simp [ho, he]⟩
      obtain ⟨a, c, rfl, -, -, -, -⟩ := h
      have hne : ((ls.length : Int) != (n : Int)) = false := by rw [he]; simp
      rw [he] at HT ⊢
      rw [he] at HR
      clear hl he ho hne
      go_enter Try.func61, Try.ntmps61
      go_wp2_with fail
      refine HT.out.mono ?_
      rintro e w1 ⟨u, rfl, hu, hb⟩
      have HB := hid hb
      clear HT hu hb
      go_wp2_with fail
      go_ret
      exact ⟨HR.out, HB.out⟩
    · have HT := hid (suTurnedBad ok x v ls h hl ho)
      have HR : Hid (∃ r : Bool, Ending.returned (.bool false) = .returned (.bool r) ∧ (r = true ↔ okT ls ∧ ls.length = n)) := hid ⟨false, rfl, by simp [ho]⟩
      obtain ⟨a, c, rfl, -, -, -, -⟩ := h
      rw [he] at HT ⊢
      rw [he] at HR
      clear hl he ho
      go_enter Try.func61, Try.ntmps61
      go_wp2_with fail
      refine HT.out.mono ?_
      rintro e w1 ⟨a1, c1, rfl, hb⟩
      have HB := hid hb
      clear HT hb
      go_wp2_with fail
      go_ret
      exact ⟨HR.out, HB.out⟩
  · have HR : Hid (∃ r : Bool, Ending.returned (.bool false) = .returned (.bool r) ∧ (r = true ↔ okT ls ∧ ls.length = n)) := hid ⟨false, rfl, by simp [he]⟩
    obtain ⟨a, c, rfl, -, -, -, -⟩ := h
    obtain ⟨m, hm⟩ : ∃ m, m = ls.length := ⟨_, rfl⟩
    rw [← hm] at he HR ⊢
    have hne : ((m : Int) != (n : Int)) = true := by rw [bne_iff_ne]; omega
    have hne2 : (m = n) = False := eq_false he
    clear hl he hm
    go_enter Try.func61, Try.ntmps61
    go_wp2_with fail
    go_ret
    exact ⟨HR.out, Below.refl _ _⟩
set_option maxRecDepth 20000 in
set_option maxHeartbeats 2000000 in
theorem ivBack (ok ok' : Nat → Prop) (w : World) (v v' : Value) (zs : List Int) (l : List Nat) (h : So ok w v zs) (h' : So ok' w v' (zsN l)) (hl : zs.length ≤ 65536) (hk : ckT zs = 0) (ho : okT (zsN l)) (hll : l.length = (fsT zs zs.length).length) :
    Calls Try.prog 40 #[v, v'] w fun e w' => ∃ u, e = .returned (.tuple #[u, .int .i64 0]) ∧ So (fun g => w.heap.size ≤ g) w' u (zsN (bkT zs l)) ∧ Below w.heap.size w w' := by
  have HF := hid (suFirsts ok w v zs h hl hk)
  have hfl := fs_half (x := zs)
  have HBK : Hid (qvl (fun t => (fsT zs zs.length).getD (l.getD t 0) 0) l.length = nvals (bkT zs l)) := hid (bk_row zs l)
  have HLT : Hid (∀ t, t < l.length → l.getD t 0 < l.length) := hid fun t ht => by
    have h1 := okT_in ho (z := ((l.getD t 0 : Nat) : Int)) (by rw [← zsN_get]; exact getD_mem (by rw [zsN_len]; exact ht))
    rw [zsN_len] at h1
    omega
  have HAL : Hid (∀ y, Below w.heap.size w y → Calls Try.prog 61 #[v', .int .i64 (l.length : Int)] y fun e w' => e = .returned (.bool true) ∧ Below y.heap.size y w') := hid fun y hy => by
    refine (isAll_any ok' y v' (zsN l) l.length (h'.below hy) (by rw [zsN_len]; omega)).mono ?_
    rintro e w' ⟨⟨r, rfl, hr⟩, hb⟩
    exact ⟨by rw [hr.2 ⟨ho, zsN_len l⟩], hb⟩
  obtain ⟨a, c, rfl, -, -, -, -⟩ := h
  obtain ⟨a', c', rfl, hs', -, -, -⟩ := h'
  have HS' := hid hs'
  obtain ⟨F, hF⟩ : ∃ F, F = fsT zs zs.length := ⟨_, rfl⟩
  rw [← hF] at HF HBK hll hfl
  obtain ⟨m, hm⟩ : ∃ m, m = l.length := ⟨_, rfl⟩
  have HM := hid hm
  have HFL : Hid (m = F.length) := hid (by rw [hm, hll])
  rw [zsN_len, ← hm] at HAL
  rw [← hm] at HBK HLT
  rw [zsN_len, ← hm]
  have hmb : (m : Int) ≤ 65536 := by omega
  obtain ⟨i0, hi, hz0, hz1, hz2⟩ := info_parts infoIntS
  have HINF := hid (And.intro hi (And.intro hz0 (And.intro hz1 hz2)))
  generalize zs.length = n at *
  clear hs' hl hk ho hll hfl hF hm hi hz0 hz1 hz2
  go_enter Try.func40, Try.ntmps40
  go_wp2_with fail
  refine HF.out.mono ?_
  clear HF
  rintro e w1 ⟨u, rfl, hu, hb⟩
  obtain ⟨fa, fc, rfl, hfs, -, -, -⟩ := hu
  have HB1 := hid hb
  have HFS := hid hfs
  have hA := HAL.out w1 hb
  rw [zsN_len, ← HFL.out]
  have HA := hid hA
  clear HAL hb hfs hA
  go_wp2_with fail
  refine HA.out.mono ?_
  clear HA
  rintro e w2 ⟨rfl, hb⟩
  have HB2 : Hid (Below w.heap.size w w2) := hid (HB1.out.trans (hb.mono HB1.out.size))
  have HFS2 : Hid (Si (fun g => w.heap.size ≤ g) w2 fa (zsN F)) := hid (HFS.out.below hb)
  have HXB : Hid (w.heap.size ≤ w2.heap.size) := hid HB2.out.size
  clear hb HFS HB1
  go_wp2_with (refine wpList_make_full _ rfl _ _ 22 rfl w2.heap.size 3 i0 (.int .i64 0) 1 Try.underlying22 HINF.out.1 HINF.out.2.1 HINF.out.2.2.1 .i64 .i64 _ _ m rfl rfl rfl rfl (by rw [HINF.out.2.2.2]; omega) (by unfold maxLen; omega) (Nat.le_refl _) ?_)
  intro w3 ho3 hg3
  rw [zero_cells, fst0_zero (fun t => F.getD (l.getD t 0) 0)] at ho3
  have HO3 := hid ho3
  have HB3 : Hid (Below w2.heap.size w2 w3) := hid ⟨hg3.os, hg3.tape, hg3.output, hg3.size, fun i hi => hg3.block i hi (by simp)⟩
  obtain ⟨g, hg⟩ : ∃ g, g = w2.heap.size := ⟨_, rfl⟩
  rw [← hg] at HO3 HB3 ⊢
  have HG := hid hg
  clear ho3 hg3 hg
  go_wp2_with fail
  go_loopw [29] (fun i wr => ∃ t : Nat, t ≤ m ∧ i = .int .i64 (t : Int) ∧ wr.ownsRow g 3 1 (.slice (some ⟨g, 0, none⟩) m m) m (qvl (fst0 (fun t => F.getD (l.getD t 0) 0) t) m) ∧ Below g w2 wr) (fun i _ => m - (intOf i).toNat)
  case atStart => exact ⟨0, Nat.zero_le _, rfl, HO3.out, HB3.out⟩
  case round =>
    clear HO3 HB3
    obtain ⟨t, ht, rfl, ho, hb⟩ := hrel
    have HO := hid ho
    have HB := hid hb
    clear ho hb
    by_cases hlt : t < m
    · have hti : (t < m) = True := eq_true hlt
      have htb : (t : Int) < (m : Int) := by omega
      have HT := hid hlt
      have HX : Hid (Below w.heap.size w wr) := hid (HB2.out.trans (HB.out.mono (by rw [HG.out]; exact HXB.out)))
      obtain ⟨b1, o1, rfl, h1⟩ := siCell (HS'.out.below HX.out) (k := t) (by rw [zsN_len, ← HM.out]; exact hlt)
      rw [zsN_get] at h1
      obtain ⟨q, hq⟩ : ∃ q, q = l.getD t 0 := ⟨_, rfl⟩
      have hqm : q < m := by rw [hq]; exact HLT.out t hlt
      obtain ⟨b2, o2, rfl, h2⟩ := siCell (HFS2.out.below (by have := HB.out; rw [HG.out] at this; exact this)) (k := q) (by rw [zsN_len, ← HFL.out]; exact hqm)
      rw [zsN_get] at h2
      rw [← hq] at h1
      have hqb : (q : Int) < (m : Int) := by omega
      have hqN : (q < m) = True := eq_true hqm
      have hc := rowCell HO.out hlt
      have f1 := HO.out.frozenAt t
      have hst := HO.out.stored t (.int .i64 ((F.getD q 0 : Nat) : Int))
      rw [qvl_set, hq, fst0_step (fun t => F.getD (l.getD t 0) 0)] at hst
      rw [← hq] at hst
      have HST := hid hst.1
      have HBT := hid (HB.out.setCell (p := ⟨g, t, none⟩) (Nat.le_refl _) (.int .i64 ((F.getD q 0 : Nat) : Int)))
      generalize ((fst0 (fun t => F.getD (l.getD t 0) 0) t t : Nat) : Int) = old at *
      generalize F.getD q 0 = z at *
      clear hlt hq hqm hst HO HB
      go_wp2_with fail
      go_roundw
      case rel => exact ⟨t + 1, HT.out, by go_num, HST.out, HBT.out⟩
      case measure => simp [intOf]; have := HT.out; omega
    · have hti : (t < m) = False := eq_false hlt
      obtain rfl : t = m := by omega
      have ho := HO.out
      rw [fst0_all, HBK.out] at ho
      have HR := hid (So.ownedN ho)
      have HBB : Hid (Below w.heap.size w wr) := hid (HB2.out.trans (HB.out.mono (by rw [HG.out]; exact HXB.out)))
      have HGW : Hid (w.heap.size ≤ g) := hid (by rw [HG.out]; exact HXB.out)
      clear hlt ho HO
      go_wp2_with fail
      go_ret2
      exact ⟨_, rfl, HR.out.mono (fun b hb _ => Nat.le_trans HGW.out hb), HBB.out⟩
/-- fromLast: a box, and the iterator that captures it. -/
theorem fromLast_any (a : Option Addr) (n c : Nat) (w : World) :
    Calls Try.prog 81 #[.slice a n c] w fun e w' => e = .returned (.func (.func 93) #[] #[.pointer (some ⟨w.heap.size, 0, none⟩)]) ∧ w' = w.alloc (.cells #[.slice a n c] 22) := by
  go_enter Try.func81, Try.ntmps81
  go_wp2_with fail
  go_ret
  exact ⟨rfl, rfl⟩
/-- What the iterator asks of the memory ahead of the k-th round: its box, and the number that is next. -/
def LastX (bx b o c N : Nat) (f : Nat → Int) (k : Nat) (V : World) : Prop :=
  V.cell? ⟨bx, 0, none⟩ = some (.slice (some ⟨b, o, none⟩) N c) ∧ (k < N → V.cell? ⟨b, o + (N - 1 - k), none⟩ = some (.int .i64 (f k)))
set_option maxRecDepth 100000 in
set_option maxHeartbeats 2000000 in
theorem last_rounds (n : Nat) (_hn : 1 ≤ n) (bx b o c N : Nat) (f : Nat → Int) (hN : (N : Int) ≤ 65536) (w : World) :
    RoundsAt Fence.wide n Try.prog 93 #[.pointer (some ⟨bx, 0, none⟩)] (fun k => #[Value.int .i64 (f k)]) (LastX bx b o c N f) N w := by
  intro l J W _ _ hX hY h0
  have HX := hid hX
  have HY := hid hY
  have hro : Fence.wide.round = none := rfl
  have hc0 := (hX 0 W h0).1
  clear hX hY
  show CallsIn Fence.wide n Try.prog 93 #[.func (.yield l) #[] #[], .pointer (some ⟨bx, 0, none⟩)] W _
  refine callsIn_of_wp Try.func93 rfl trivial ?_ hro
  simp only [Try.ntmps93, List.size_toArray, List.length_cons, List.length_nil, Nat.reduceAdd, Nat.reduceSub, Array.replicate_succ, Array.replicate_zero, List.push_toArray, List.append_toArray, List.nil_append, List.cons_append]
  gi_wp2
  gi_loopw [3] (fun i wr => ∃ k : Nat, k ≤ N ∧ i = .int .i64 ((N : Int) - 1 - (k : Int)) ∧ J k wr) (fun i _ => ((intOf i) + 1).toNat)
  case atStart => exact ⟨0, Nat.zero_le _, by simp, h0⟩
  case round =>
    clear hc0 h0
    obtain ⟨k, hk, rfl, hJ⟩ := hrel
    by_cases hlt : k < N
    · obtain ⟨p, hp⟩ : ∃ p : Nat, p = N - 1 - k := ⟨_, rfl⟩
      have hpe : (N : Int) - 1 - (k : Int) = (p : Int) := by omega
      have hp0 : decide ((p : Int) ≥ 0) = true := decide_eq_true (by omega)
      have hpb : (p : Int) < (N : Int) := by omega
      have hpN : (p < N) = True := eq_true (by omega)
      obtain ⟨hcb, hcv⟩ := HX.out k wr hJ
      have hcv1 := hcv hlt
      rw [← hp] at hcv1
      obtain ⟨fn, tmps, assign, body, hy, hR⟩ := HY.out k wr hlt hJ
      have HK : Hid (k < N ∧ (p : Int) - 1 = (N : Int) - 1 - ((k + 1 : Nat) : Int)) := hid ⟨hlt, by omega⟩
      rw [hpe]
      clear hp hpe hcv hlt hJ
      gi_wp2
      refine hR.mono ?_
      rintro e W3 ⟨rfl, hJ3⟩
      have HJ3 := hid hJ3
      clear hcb hcv1 hJ3 hR hy
      gi_wp2
      go_roundw
      case rel => exact ⟨k + 1, HK.out.1, by rw [← HK.out.2] <;> go_num, HJ3.out⟩
      case measure => simp [intOf]
    · obtain rfl : k = N := by omega
      have hpe : (k : Int) - 1 - (k : Int) = -1 := by omega
      rw [hpe]
      have hp0 : decide ((-1 : Int) ≥ 0) = false := by decide
      have HJ := hid hJ
      clear hlt hJ
      gi_wp2
      go_end0
      exact ⟨⟨_, rfl⟩, HJ.out⟩
set_option maxRecDepth 20000 in
set_option maxHeartbeats 1000000 in
/-- A place is put to its bucket's end. -/
theorem putBehind_any (y : World) (wb tb tq c g1 g3 n G i s e : Nat) (o : Value) (h0 : y.cell? ⟨wb, 0, none⟩ = some (.slice (some ⟨tb, tq, none⟩) n c)) (h2 : y.cell? ⟨wb, 2, none⟩ = some (.slice (some ⟨g1, 0, none⟩) n n))
    (ht : y.cell? ⟨tb, tq + i, none⟩ = some (.int .i64 (s : Int))) (he : y.cell? ⟨g3, s, none⟩ = some (.int .i64 ((e + 1 : Nat) : Int))) (f3 : y.frozen? ⟨g3, s, none⟩ = false)
    (ho : y.cell? ⟨g1, e, none⟩ = some o) (f1 : y.frozen? ⟨g1, e, none⟩ = false) (hi : i < n) (hs : s < G) (hen : e < n) (hn : n ≤ 65536) (hG : G ≤ 65536) (h13 : g1 ≠ g3) (hw3 : wb ≠ g3) :
    Calls Try.prog 82 #[.pointer (some ⟨wb, 0, none⟩), .slice (some ⟨g3, 0, none⟩) G G, .int .i64 (i : Int)] y fun r w' => r = .returned (.tuple #[]) ∧
      w' = ((y.setCell ⟨g3, s, none⟩ (.int .i64 (e : Int))).setCell ⟨g1, e, none⟩ (.int .i64 (i : Int))).drew := by
  obtain ⟨q, hq⟩ : ∃ q, q = e + 1 := ⟨_, rfl⟩
  rw [← hq] at he
  have hqe : (q : Int) - 1 = (e : Int) := by omega
  have hib : (i : Int) < (n : Int) := by omega
  have hiN : (i < n) = True := eq_true hi
  have hsb : (s : Int) < (G : Int) := by omega
  have hsN : (s < G) = True := eq_true hs
  have heb : (e : Int) < (n : Int) := by omega
  have heN : (e < n) = True := eq_true hen
  have hnb : (n : Int) ≤ 65536 := by omega
  have hgb : (G : Int) ≤ 65536 := by omega
  obtain ⟨z, hz⟩ : ∃ z, z = y.setCell ⟨g3, s, none⟩ (.int .i64 (e : Int)) := ⟨_, rfl⟩
  have hmv : Mv (fun b => b = g3) y z := by rw [hz]; exact mvSet (F := fun b => b = g3) (Mv.refl _ _) rfl _
  have k2 : z.cell? ⟨wb, 2, none⟩ = some (.slice (some ⟨g1, 0, none⟩) n n) := hmv.cell h2 hw3
  have k3 : z.cell? ⟨g3, s, none⟩ = some (.int .i64 (e : Int)) := by rw [hz]; exact World.cell?_setCell_same' _ _ _ (by rw [he]; rfl)
  have ko : z.cell? ⟨g1, e, none⟩ = some o := hmv.cell ho h13
  have kf : z.frozen? ⟨g1, e, none⟩ = false := by
    rw [← f1]
    unfold World.frozen?
    rw [hmv.block g1 (cell_lt ho) h13]
  rw [← hz]
  have HZ := hid hz
  clear hq hi hs hen hn hG hmv hz
  go_enter Try.func82, Try.ntmps82
  go_upto_region 2 with fail
  rw [← HZ.out]
  clear h0 h2 ht he f3 ho f1
  go_wp2_with fail
  go_region
  go_wp2_with fail
  go_end0
  exact ⟨rfl, rfl⟩
end Go.Proofs.Ytmllpednaibeeaa
namespace Go.Inc
open Go.RowKit
/-- The text, its kinds, where its order lies. -/
structure WkS (y : World) (wb tb tq c kb ko kc g1 n : Nat) (zs : List Int) : Prop where
  c0 : y.cell? ⟨wb, 0, none⟩ = some (.slice (some ⟨tb, tq, none⟩) n c)
  c1 : y.cell? ⟨wb, 1, none⟩ = some (.slice (some ⟨kb, ko, none⟩) n kc)
  c2 : y.cell? ⟨wb, 2, none⟩ = some (.slice (some ⟨g1, 0, none⟩) n n)
  tx : ∀ i, i < n → y.cell? ⟨tb, tq + i, none⟩ = some (.int .i64 ((cdT zs i : Nat) : Int))
  kd : ∀ i, i < n → y.cell? ⟨kb, ko + i, none⟩ = some (.bool (kdT zs i))
  nw : wb ≠ g1
  nt : tb ≠ g1
  nk : kb ≠ g1
theorem WkS.mv {F : Nat → Prop} {y z : World} {wb tb tq c kb ko kc g1 n : Nat} {zs : List Int} (h : WkS y wb tb tq c kb ko kc g1 n zs) (hm : Mv F y z) (hF : ∀ b, b < y.heap.size → F b → b = g1) : WkS z wb tb tq c kb ko kc g1 n zs :=
  ⟨hm.cell h.c0 fun f => h.nw (hF _ (cell_lt h.c0) f), hm.cell h.c1 fun f => h.nw (hF _ (cell_lt h.c1) f), hm.cell h.c2 fun f => h.nw (hF _ (cell_lt h.c2) f),
    fun i hi => hm.cell (h.tx i hi) fun f => h.nt (hF _ (cell_lt (h.tx i hi)) f), fun i hi => hm.cell (h.kd i hi) fun f => h.nk (hF _ (cell_lt (h.kd i hi)) f), h.nw, h.nt, h.nk⟩
theorem WkS.text {ok : Nat → Prop} {y : World} {wb tb tq c kb ko kc g1 n : Nat} {zs : List Int} (h : WkS y wb tb tq c kb ko kc g1 n zs) (hi : InT zs) (hn : n = zs.length) (hok : ok tb) : Si ok y (some ⟨tb, tq, none⟩) zs :=
  .inr ⟨tb, tq, rfl, hok, fun i h2 => by rw [h.tx i (by rw [hn]; exact h2), hi.cd h2]⟩
/-- The order's row, and the row of what the buckets' ends (or heads) are by now. -/
structure OrdE (E : TypeId) (x w : World) (g1 g3 n G : Nat) (A : Nat → Option Nat) (q : Nat → Nat) : Prop where
  ord : w.ownsRow 0 E 1 (.slice (some ⟨g1, 0, none⟩) n n) n (ivl A n)
  put : w.ownsRow 0 E 1 (.slice (some ⟨g3, 0, none⟩) G G) G (qvl q G)
  mv : Mv (fun b => b = g1 ∨ b = g3) x w
theorem OrdE.cellO {E : TypeId} {x w : World} {g1 g3 n G : Nat} {a : Nat → Option Nat} {q : Nat → Nat} (h : OrdE E x w g1 g3 n G a q) {p : Nat} (hp : p < n) : w.cell? ⟨g1, p, none⟩ = some (.int .i64 (ov (a p))) := by
  have h1 := h.ord.cells (g := g1) rfl p _ (ivl_get hp)
  rw [Addr.add_lit] at h1
  simpa using h1
theorem OrdE.cellP {E : TypeId} {x w : World} {g1 g3 n G : Nat} {a : Nat → Option Nat} {q : Nat → Nat} (h : OrdE E x w g1 g3 n G a q) {s : Nat} (hs : s < G) : w.cell? ⟨g3, s, none⟩ = some (.int .i64 ((q s : Nat) : Int)) := by
  have h1 := h.put.cells (g := g3) rfl s _ (qvl_get hs)
  rw [Addr.add_lit] at h1
  simpa using h1
theorem OrdE.congr {E : TypeId} {x w : World} {g1 g3 n G : Nat} {a b : Nat → Option Nat} {q r : Nat → Nat} (h : OrdE E x w g1 g3 n G a q) (ha : ∀ p, p < n → a p = b p) (hq : ∀ s, s < G → q s = r s) : OrdE E x w g1 g3 n G b r :=
  ⟨by rw [← ivl_congr ha]; exact h.ord, by have h2 := h.put; unfold qvl at h2 ⊢; rw [← List.map_congr_left (f := q) fun s hs => hq s (List.mem_range.1 hs)]; exact h2, h.mv⟩
theorem OrdE.setO {E : TypeId} {x w : World} {g1 g3 n G : Nat} {a : Nat → Option Nat} {q : Nat → Nat} (h : OrdE E x w g1 g3 n G a q) (hne : g1 ≠ g3) (p : Nat) (v : Option Nat) : OrdE E x (w.setCell ⟨g1, p, none⟩ (.int .i64 (ov v))) g1 g3 n G (updF a p v) q := by
  have h1 := h.ord.stored p (.int .i64 (ov v))
  rw [ivl_set] at h1
  exact ⟨h1.1, h.put.kept h1.2 (.inr (by simp [Value.ownBlock]; exact fun e => hne e.symm)), mvSet (F := fun b => b = g1 ∨ b = g3) h.mv (.inl rfl) _⟩
theorem OrdE.setP {E : TypeId} {x w : World} {g1 g3 n G : Nat} {a : Nat → Option Nat} {q : Nat → Nat} (h : OrdE E x w g1 g3 n G a q) (hne : g1 ≠ g3) (s v : Nat) : OrdE E x (w.setCell ⟨g3, s, none⟩ (.int .i64 (v : Int))) g1 g3 n G a (updF q s v) := by
  have h1 := h.put.stored s (.int .i64 (v : Int))
  rw [qvl_set] at h1
  exact ⟨h.ord.kept h1.2 (.inr (by simp [Value.ownBlock]; exact hne)), h1.1, mvSet (F := fun b => b = g1 ∨ b = g3) h.mv (.inr rfl) _⟩
theorem OrdE.drew {E : TypeId} {x w : World} {g1 g3 n G : Nat} {a : Nat → Option Nat} {q : Nat → Nat} (h : OrdE E x w g1 g3 n G a q) : OrdE E x w.drew g1 g3 n G a q := ⟨h.ord, h.put, h.mv.drew⟩
/-- It abides what a range over a function lays beside it. -/
theorem ordE_from {E : TypeId} {x : World} {g1 g3 n G : Nat} (A : Nat → Nat → Option Nat) (q : Nat → Nat → Nat) (h1 : g1 < x.heap.size) (h3 : g3 < x.heap.size) : OwnFrom x.heap.size (fun k W => OrdE E x W g1 g3 n G (A k) (q k)) := by
  intro k W W' row h hg hr
  refine ⟨h.ord.kept hg ?_, h.put.kept hg ?_, h.mv.trans' (Mv.of_grown (F := fun b => x.heap.size ≤ b) hg fun g e _ => (hr g e).1) fun i hi h2 => absurd h2 (by omega)⟩
  · by_cases e : row = some g1
    · have := (hr _ e).1; omega
    · exact .inr (by simp [Value.ownBlock]; exact fun h => e h.symm)
  · by_cases e : row = some g3
    · have := (hr _ e).1; omega
    · exact .inr (by simp [Value.ownBlock]; exact fun h => e h.symm)
end Go.Inc
namespace Go.Proofs.Ytmllpednaibeeaa
open Go.RowKit Go.Inc Go.Shelf
attribute [local go_sem] Oper.semAt_some
set_option maxRecDepth 100000 in
set_option maxHeartbeats 4000000 in
theorem sow_any (ok : Nat → Prop) (x : World) (wb tb tq c kb ko kc g1 n d : Nat) (b : Option Addr) (zs : List Int) (fs : List Nat) (hw : WkS x wb tb tq c kb ko kc g1 n zs) (ho : x.ownsRow 0 3 1 (.slice (some ⟨g1, 0, none⟩) n n) n (ivl (fun _ => none) n))
    (hf : Si ok x b (zsN fs)) (hok : ∀ b, ok b → b ≠ g1) (hfs : isFs zs fs) (hck : ckT zs = 0) (hn : n = zs.length) (h2 : 1 < n) (hl : n ≤ 65536) :
    Calls Try.prog 69 #[.pointer (some ⟨wb, 0, none⟩), .slice b fs.length d] x fun e w' => e = .returned (.tuple #[]) ∧ w'.ownsRow 0 3 1 (.slice (some ⟨g1, 0, none⟩) n n) n (ivl (sow n (cdT zs) fs).1 n) ∧ Mv (fun b => b = g1) x w' := by
  have hI := InT.of hck
  have HI := hid hI
  have HN := hid hn
  have HFS := hid hfs
  have HW := hid hw
  have HO := hid ho
  have HBU : Hid (∀ y, Below x.heap.size x y → Calls Try.prog 76 #[.slice (some ⟨tb, tq, none⟩) n c] y (BkP y zs)) := hid fun y hy => by
    have h := buckets_any (fun b => b = tb) y (some ⟨tb, tq, none⟩) c zs ((hw.mv (F := fun b => b = g1) (Mv.of_below hy) fun _ _ h => h).text hI hn rfl) hck (by omega)
    rwa [← hn] at h
  have hw0 := hw.c0
  have HGB : Hid (grT zs n ≤ 65535) := hid (grT_bd (fun i hi => ck_cd hck hi) n (by omega))
  obtain ⟨m, hm⟩ : ∃ m, m = fs.length := ⟨_, rfl⟩
  have HM := hid hm
  rw [← hm]
  have hmn : fs.length ≤ zs.length := by
    have h3 := nodup_le (m := List.range zs.length) hfs.1 (fun f hf => List.mem_range.2 (isFs_lt hfs hf).1)
    rwa [List.length_range] at h3
  have HMB : Hid ((m : Int) ≤ 65536) := hid (by omega)
  have HM0 : Hid (0 < m) := hid (by
    have h3 := (hfs.2 _).2 (fs_last hI (by omega))
    rw [hm]
    exact List.length_pos_of_mem h3)
  have HOK := hid hok
  have HWX : Hid (wb < x.heap.size ∧ tb < x.heap.size) := hid ⟨cell_lt hw.c0, cell_lt (hw.tx 0 (by omega))⟩
  have HF := hid hf
  have HFX : Hid (∀ fb fo, b = some ⟨fb, fo, none⟩ → fb < x.heap.size) := hid fun fb fo e => by
    rcases hf with h | ⟨b2, o2, h, _, hc⟩
    · have := HM0.out; rw [hm] at this
      have h3 : fs = [] := by simpa [zsN] using h
      rw [h3] at this; simp at this
    · rw [e] at h; cases h
      exact cell_lt (hc 0 (by rw [zsN_len, ← hm]; exact HM0.out))
  clear hw ho hf hok hfs hck hI hn h2 hm hmn
  refine (callsIn_wide (n := 6)).1 ?_
  refine callsIn_of_wp_marks Try.func69 rfl trivial ?_ rfl
  simp only [Try.ntmps69, List.size_toArray, List.length_cons, List.length_nil, Nat.reduceAdd, Nat.reduceSub, Array.replicate_succ, Array.replicate_zero, List.push_toArray, List.append_toArray, List.nil_append, List.cons_append]
  refine wpIn_wide.2 ?_
  have hb0 := allocBelow x (.cells #[.pointer (some ⟨wb, 0, none⟩)] 99)
  have k0 := (hb0.cell (cell_lt hw0)).trans hw0
  have HBK := hid (HBU.out _ hb0)
  have HB0 := hid hb0
  clear hw0 hb0 HBU
  go_wp2_with fail
  refine HBK.out.mono ?_
  clear HBK
  rintro e w2 ⟨gh, g3, rfl, hne, hr1, hr2, hb⟩
  rw [← HN.out] at hr1 hr2 ⊢
  obtain ⟨G, hG⟩ : ∃ G, G = grT zs n + 1 := ⟨_, rfl⟩
  rw [← hG] at hr1 hr2 ⊢
  have HG := hid hG
  have HB2 : Hid (Below x.heap.size x w2) := hid (HB0.out.trans (hb.mono HB0.out.size))
  have hbw : w2.cell? ⟨x.heap.size, 0, none⟩ = some (.pointer (some ⟨wb, 0, none⟩)) := (hb.cell (p := ⟨x.heap.size, 0, none⟩) (by simp)).trans (by simp)
  obtain ⟨bw, hbwe⟩ : ∃ bw, bw = x.heap.size := ⟨_, rfl⟩
  have HBW := hid hbwe
  rw [← hbwe] at hbw ⊢
  obtain ⟨w3, hw3⟩ : ∃ w3, w3 = w2.alloc (.cells #[.slice (some ⟨g3, 0, none⟩) G G] 22) := ⟨_, rfl⟩
  obtain ⟨bE, hbE⟩ : ∃ bE, bE = w2.heap.size := ⟨_, rfl⟩
  obtain ⟨w4, hw4⟩ : ∃ w4, w4 = w3.alloc (.cells #[.slice b m d] 22) := ⟨_, rfl⟩
  obtain ⟨bL, hbL⟩ : ∃ bL, bL = w3.heap.size := ⟨_, rfl⟩
  have HFL : Hid (Calls Try.prog 81 #[.slice b m d] w3 fun e w' => e = .returned (.func (.func 93) #[] #[.pointer (some ⟨bL, 0, none⟩)]) ∧ w' = w4) := hid (by rw [hw4, hbL]; exact fromLast_any b m d w3)
  have hb23 : Below w2.heap.size w2 w3 := by rw [hw3]; exact allocBelow _ _
  have hb34 : Below w3.heap.size w3 w4 := by rw [hw4]; exact allocBelow _ _
  have hb24 : Below w2.heap.size w2 w4 := hb23.trans (hb34.mono hb23.size)
  have HB4 : Hid (Below x.heap.size x w4) := hid (HB2.out.trans (hb24.mono HB2.out.size))
  have HSZ : Hid (x.heap.size ≤ g3 ∧ g3 < w2.heap.size ∧ w2.heap.size ≤ w4.heap.size) := hid ⟨by have := rowBase hr2; simp at this; omega, rowSlot hr2, hb24.size⟩
  have HCW : Hid (w4.cell? ⟨bw, 0, none⟩ = some (.pointer (some ⟨wb, 0, none⟩))) := hid ((hb24.cell (cell_lt hbw)).trans hbw)
  have hcE : w3.cell? ⟨bE, 0, none⟩ = some (.slice (some ⟨g3, 0, none⟩) G G) := by rw [hw3, hbE, cell_of_row _ _ _ _ _ _ (heap_alloc_new w2 _)]; rfl
  have HCE : Hid (w4.cell? ⟨bE, 0, none⟩ = some (.slice (some ⟨g3, 0, none⟩) G G)) := hid ((hb34.cell (cell_lt hcE)).trans hcE)
  have HCL : Hid (w4.cell? ⟨bL, 0, none⟩ = some (.slice b m d)) := hid (by rw [hw4, hbL, cell_of_row _ _ _ _ _ _ (heap_alloc_new w3 _)]; rfl)
  have HNE : Hid (g1 < x.heap.size ∧ bw ≠ g3 ∧ bE ≠ g3 ∧ bL ≠ g3 ∧ x.heap.size ≤ bw ∧ x.heap.size ≤ bE ∧ x.heap.size ≤ bL) := hid (by
    have h1 := rowSlot HO.out
    have h2 := rowBase hr2
    have h3 := rowSlot hr2
    have h4 := HB2.out.size
    have h5 := hb23.size
    simp at h2
    have h6 : w3.heap.size = w2.heap.size + 1 := by rw [hw3]; simp
    omega)
  have HST : Hid (OrdE 3 w4 w4 g1 g3 n G (sow n (cdT zs) (fs.drop m)).1 (fun s => hdC n (cdT zs) (s + 1) - (sow n (cdT zs) (fs.drop m)).2 s)) := hid (by
    rw [HM.out, List.drop_length]
    exact ⟨owns_mv (F := fun _ => False) HO.out (Mv.of_below HB4.out) fun _ _ => id, own_weaken (owns_mv (F := fun _ => False) hr2 (Mv.of_below hb24) fun _ _ => id) (Nat.zero_le _), Mv.refl _ _⟩)
  have HWK := hid (HW.out.mv (F := fun b => b = g1) (Mv.of_below HB4.out) fun _ _ h => h)
  have HFS4 := hid (HF.out.below HB4.out)
  have HW3 := hid hw3
  have HBE := hid hbE
  clear hr1 hr2 hb hbw hbwe hw3 hbE hw4 hbL hb23 hb34 hb24 hcE hG HB0 HB2 k0 HO HW HF
  go_wp2_with fail
  rw [← HW3.out, ← HBE.out]
  refine HFL.out.mono ?_
  clear HFL
  rintro e w5 ⟨rfl, rfl⟩
  go_wp2_with fail
  refine (wpIn_wide (n := 6)).1 ?_
  obtain ⟨fb, fo, rfl, hfb, hfc⟩ : ∃ fb fo, b = some ⟨fb, fo, none⟩ ∧ fb ≠ g1 ∧ ∀ k, k < m → w5.cell? ⟨fb, fo + k, none⟩ = some (.int .i64 ((fs.getD k 0 : Nat) : Int)) := by
    rcases HFS4.out with h | ⟨fb, fo, h, hk, hc⟩
    · have h3 : fs = [] := by simpa [zsN] using h
      have := HM0.out
      rw [HM.out, h3] at this; simp at this
    · exact ⟨fb, fo, h, HOK.out fb hk, fun k hk => by rw [hc k (by rw [zsN_len, ← HM.out]; exact hk), zsN_get]⟩
  have HFC := hid hfc
  have HFB : Hid (fb ≠ g1 ∧ fb < x.heap.size) := hid ⟨hfb, HFX.out fb fo rfl⟩
  refine range_rounds (n := 6) rfl (by omega) (gf := 93) (lb := #[.pointer (some ⟨bL, 0, none⟩)]) rfl trivial (enters_of Try.func93 (by kernel_rfl) rfl)
    (last_rounds 5 (by omega) bL fb fo d m (fun k => ((fs.getD (m - 1 - k) 0 : Nat) : Int)) HMB.out w5) (fun _ => rfl)
    (fun k W => OrdE 3 w5 W g1 g3 n G (sow n (cdT zs) (fs.drop (m - k))).1 (fun s => hdC n (cdT zs) (s + 1) - (sow n (cdT zs) (fs.drop (m - k))).2 s))
    (ordE_from (fun k => (sow n (cdT zs) (fs.drop (m - k))).1) (fun k s => hdC n (cdT zs) (s + 1) - (sow n (cdT zs) (fs.drop (m - k))).2 s) (by have := HNE.out; have := HSZ.out; omega) (by have := HSZ.out; omega))
    (fun k V h => ⟨h.mv.cell HCL.out (by have := HNE.out; simp only; omega), fun hk => h.mv.cell (HFC.out (m - 1 - k) (by omega)) (by have := HFB.out; have := HSZ.out; simp only; omega)⟩)
    HST.out
    (fun k => { tmps := #[.pointer (some ⟨wb, 0, none⟩), .slice (some ⟨fb, fo, none⟩) m d, .pointer (some ⟨bw, 0, none⟩), undef, .slice (some ⟨gh, 0, none⟩) G G, .pointer (some ⟨bE, 0, none⟩), .int .i64 ((fs.getD (m - 1 - k) 0 : Nat) : Int), .tuple #[.slice (some ⟨gh, 0, none⟩) G G, .slice (some ⟨g3, 0, none⟩) G G], .pointer (some ⟨wb, 0, none⟩), .pointer (some ⟨wb, 0, none⟩), .pointer (some ⟨wb, 0, none⟩), .slice (some ⟨tb, tq, none⟩) n c, .tuple #[.slice (some ⟨gh, 0, none⟩) G G, .slice (some ⟨g3, 0, none⟩) G G], .slice (some ⟨gh, 0, none⟩) G G, .slice (some ⟨g3, 0, none⟩) G G, .slice (some ⟨fb, fo, none⟩) m d, .func (.func 93) #[] #[.pointer (some ⟨bL, 0, none⟩)], .int .i64 ((fs.getD (m - 1 - k) 0 : Nat) : Int), undef, undef, undef, undef], defers := [] }) ?assign ?body ?done
  case assign =>
    intro l k W K hK
    gi_wp2
    simpa using hK
  case body =>
    intro l k W hkm hI
    obtain ⟨j, hj⟩ : ∃ j, j = m - 1 - k := ⟨_, rfl⟩
    have hjm : j < m := by omega
    have hmk : m - k = j + 1 := by omega
    have hmk1 : m - (k + 1) = j := by omega
    rw [hmk] at hI
    have hfm : fs.getD j 0 ∈ fs := getD_inN (by rw [← HM.out]; exact hjm)
    have hfl := (isFs_lt HFS.out hfm).1
    rw [← HN.out] at hfl
    have hroom := sow_next HI.out HFS.out (k := j) (by rw [← HM.out]; exact hjm)
    rw [← HN.out] at hroom
    have hdr := drop_cons (l := fs) (k := j) (by rw [← HM.out]; exact hjm)
    have hg := grT_le zs n (fs.getD j 0) hfl
    have hhd := hdC_succ n (cdT zs) (cdT zs (fs.getD j 0))
    have hhl := hdC_le n (cdT zs) (cdT zs (fs.getD j 0) + 1)
    have hne := HNE.out
    have hsz := HSZ.out
    have hwx := HWX.out
    have c0 := hI.mv.cell HWK.out.c0 (by have := HWK.out.nw; simp only; omega)
    have c2 := hI.mv.cell HWK.out.c2 (by have := HWK.out.nw; simp only; omega)
    have ct := hI.mv.cell (HWK.out.tx _ hfl) (by have := HWK.out.nt; simp only; omega)
    have cw := hI.mv.cell HCW.out (by simp only; omega)
    have cE := hI.mv.cell HCE.out (by simp only; omega)
    obtain ⟨f, hf⟩ : ∃ f, f = fs.getD j 0 := ⟨_, rfl⟩
    have HNW := hid HWK.out.nw
    rw [← hf] at hfl hroom hdr hg hhd hhl ct
    obtain ⟨s, hs⟩ : ∃ s, s = cdT zs f := ⟨_, rfl⟩
    rw [← hs] at hroom hg hhd hhl ct
    obtain ⟨Q, hQ⟩ : ∃ Q, Q = (sow n (cdT zs) (fs.drop (j + 1))).2 := ⟨_, rfl⟩
    obtain ⟨A, hA⟩ : ∃ A, A = (sow n (cdT zs) (fs.drop (j + 1))).1 := ⟨_, rfl⟩
    rw [← hQ] at hroom
    rw [← hQ, ← hA] at hI
    obtain ⟨e, he⟩ : ∃ e, e = hdC n (cdT zs) (s + 1) - 1 - Q s := ⟨_, rfl⟩
    have hsG : s < G := by have := HG.out; omega
    have hen : e < n := by omega
    have hcp := hI.cellP hsG
    rw [show hdC n (cdT zs) (s + 1) - Q s = e + 1 by omega] at hcp
    have hco := hI.cellO hen
    have f3 := hI.put.frozenAt s
    have f1 := hI.ord.frozenAt e
    have hgb : grT zs n ≤ 65535 := HGB.out
    have hpb := putBehind_any W wb tb tq c g1 g3 n G f s e _ c0 c2 ct hcp f3 hco f1 hfl hsG hen hl (by have := HG.out; omega) (by omega) (by omega)
    have hset := ((hI.setP (by omega) s e).setO (by omega) e (some f)).drew
    have HSET : Hid (OrdE 3 w5 ((W.setCell ⟨g3, s, none⟩ (.int .i64 (e : Int))).setCell ⟨g1, e, none⟩ (.int .i64 (f : Int))).drew g1 g3 n G (sow n (cdT zs) (fs.drop (m - (k + 1)))).1 (fun s => hdC n (cdT zs) (s + 1) - (sow n (cdT zs) (fs.drop (m - (k + 1)))).2 s)) := hid (by
      rw [hmk1, hdr]
      refine hset.congr (fun p _ => ?_) fun t _ => ?_
      · show updF A e (some f) p = updF (sow n (cdT zs) (fs.drop (j + 1))).1 (hdC n (cdT zs) (cdT zs f + 1) - 1 - (sow n (cdT zs) (fs.drop (j + 1))).2 (cdT zs f)) (some f) p
        rw [← hA, ← hQ, ← hs, ← he]
      · show updF (fun s => hdC n (cdT zs) (s + 1) - Q s) s e t = hdC n (cdT zs) (t + 1) - updF (sow n (cdT zs) (fs.drop (j + 1))).2 (cdT zs f) ((sow n (cdT zs) (fs.drop (j + 1))).2 (cdT zs f) + 1) t
        rw [← hQ, ← hs]
        by_cases h : t = s
        · subst h; rw [updF_at, updF_at, he]; omega
        · rw [updF_ne _ _ h, updF_ne _ _ h])
    have HKO : Hid (KeepsOthers W ((W.setCell ⟨g3, s, none⟩ (.int .i64 (e : Int))).setCell ⟨g1, e, none⟩ (.int .i64 (f : Int))).drew) := hid (((KeepsOthers.setCell _ _ _).trans (KeepsOthers.setCell _ _ _)).trans ⟨Nat.le_refl _, fun _ _ h _ => h⟩)
    rw [← hj, ← hf]
    have HPB := hid ((callsIn_wide (n := 3)).2 hpb)
    clear hj hjm hmk hmk1 hI hfm hfl hroom hdr hg hhd hhl hne hsz hwx c0 c2 ct hf hs hQ hA he hsG hen hcp hco f3 f1 hgb hpb hset hkm
    gi_wp2
    refine ⟨trivial, CallsIn.mono (F := Fence.wide.inRound l) HPB.out ?_⟩
    clear HPB
    rintro r w6 ⟨rfl, rfl⟩
    gi_wp2
    exact ⟨HKO.out, HSET.out⟩
  case done =>
    intro D W hD hI hK
    rw [Nat.sub_self, List.drop_zero] at hI
    have hB : Below x.heap.size W (W.putObj D (.deferred none)) := belowK_b (w := x) (Nat.le_refl _) W D _ _ (by have := HB4.out.size; omega) hK rfl rfl
    have hmx : Mv (fun b => b = g1) x W := (Mv.of_below HB4.out).trans' hI.mv fun i hi h => by
      have := HSZ.out
      omega
    have HFIN : Hid ((W.putObj D (.deferred none)).ownsRow 0 3 1 (.slice (some ⟨g1, 0, none⟩) n n) n (ivl (sow n (cdT zs) fs).1 n) ∧ Mv (fun b => b = g1) x (W.putObj D (.deferred none))) := hid ⟨ownsRow_putObj hI.ord (.deferred none) hK rfl, hmx.trans' (F' := fun b => x.heap.size ≤ b) (Mv.of_grown (grownBy_putObj' W D _) fun g e _ => by cases e; have := HB4.out.size; omega) fun i hi h => absurd h (by omega)⟩
    clear hI hB hmx
    go_wp2_with fail
    refine ⟨by simp, .inl ⟨_, _, rfl, run_takeDeferred hK, ?_⟩⟩
    exact ⟨_, results_none rfl _ _ _, rfl, HFIN.out.1, HFIN.out.2⟩
end Go.Proofs.Ytmllpednaibeeaa
namespace Go.Proofs.Ytmllpednaibeeaa
open Go.RowKit Go.Inc
set_option maxRecDepth 100000 in
set_option maxHeartbeats 4000000 in
theorem putL_any (x : World) (wb tb tq c kb ko kc g1 n : Nat) (zs : List Int) (fs : List Nat) (hw : WkS x wb tb tq c kb ko kc g1 n zs) (ho : x.ownsRow 0 3 1 (.slice (some ⟨g1, 0, none⟩) n n) n (ivl (sow n (cdT zs) fs).1 n))
    (hfs : isFs zs fs) (hck : ckT zs = 0) (hn : n = zs.length) (hl : n ≤ 65536) :
    Calls Try.prog 70 #[.pointer (some ⟨wb, 0, none⟩)] x fun e w' => e = .returned (.tuple #[]) ∧ w'.ownsRow 0 3 1 (.slice (some ⟨g1, 0, none⟩) n n) n (ivl (pass1 n (cdT zs) (kdT zs) fs).1 n) ∧ Mv (fun b => b = g1) x w' := by
  have hI := InT.of hck
  have HW := hid hw
  have HO := hid ho
  have HBU := hid (buckets_any (fun b => b = tb) x (some ⟨tb, tq, none⟩) c zs (hw.text hI hn rfl) hck (by omega))
  have HGB : Hid (grT zs n ≤ 65535) := hid (grT_bd (fun i hi => ck_cd hck hi) n (by omega))
  have HGL : Hid (∀ i, i < n → cdT zs i ≤ grT zs n) := hid fun i hi => grT_le zs n i hi
  have hw0 := hw.c0
  obtain ⟨h0, -, -, -⟩ := sow_ok (R := fun _ _ => True) hI.txt fs hfs.1 (fun f hh => isFs_lt hfs hh) (fun _ _ _ _ _ => trivial) (List.pairwise_of_forall (fun _ _ _ => trivial))
  have HSC := hid (ScanI.scan hI.txt.scanL (trR.scanL hI.txt) h0)
  have HTS := hid hI.txt.scanL
  have HHD := hid (fun s => hdC_succ n (cdT zs) s)
  have HHL := hid (fun s => hdC_le n (cdT zs) s)
  have hpf : pass1 n (cdT zs) (kdT zs) fs = scan (cdT zs) (insL (kdT zs)) (hdC n (cdT zs)) (sow n (cdT zs) fs).1 n := rfl
  rw [← hn] at HSC HTS HBU
  unfold BkP at HBU
  rw [← hn] at HBU
  obtain ⟨G, hG⟩ : ∃ G, G = grT zs n + 1 := ⟨_, rfl⟩
  rw [← hG] at HBU
  have HG := hid hG
  obtain ⟨a0, ha0⟩ : ∃ a0, a0 = (sow n (cdT zs) fs).1 := ⟨_, rfl⟩
  rw [← ha0] at HSC HO hpf
  have HPF := hid hpf
  have hnb : (n : Int) ≤ 65536 := by omega
  have HPN : Hid (0 < n) := hid (by rw [hn]; exact hI.txt.pos)
  have hgb : (G : Int) ≤ 65536 := by have := HGB.out; omega
  clear hI hw ho hfs hck hn h0 hl hG ha0 hpf
  go_enter Try.func70, Try.ntmps70
  go_wp2_with fail
  go_step3
  go_wp2_with fail
  refine HBU.out.mono ?_
  clear HBU
  rintro e w1 ⟨gh, g3, rfl, -, hr1, -, hb⟩
  have HB1 := hid hb
  have HW1 := hid (HW.out.mv (F := fun b => b = g1) (Mv.of_below hb) fun _ _ h => h)
  have HST : Hid (OrdE 3 w1 w1 g1 gh n G (scan (cdT zs) (insL (kdT zs)) (hdC n (cdT zs)) a0 0).1 (fun s => hdC n (cdT zs) s + (scan (cdT zs) (insL (kdT zs)) (hdC n (cdT zs)) a0 0).2 s)) := hid
    ⟨owns_mv (F := fun _ => False) HO.out (Mv.of_below hb) fun _ _ => id, own_weaken hr1 (Nat.zero_le _), Mv.refl _ _⟩
  have HNE : Hid (g1 < x.heap.size ∧ x.heap.size ≤ gh ∧ wb < x.heap.size ∧ tb < x.heap.size ∧ kb < x.heap.size) := hid ⟨rowSlot HO.out, rowBase hr1, cell_lt HW.out.c0, cell_lt (HW.out.tx 0 HPN.out), cell_lt (HW.out.kd 0 HPN.out)⟩
  have c2 := HW1.out.c2
  clear hw0 hr1 hb HO HW
  go_wp2_with fail
  go_step3
  go_wp2_with fail
  go_loopw [20] (fun kk wr => ∃ t : Nat, t ≤ n ∧ kk = .int .i64 (t : Int) ∧ OrdE 3 w1 wr g1 gh n G (scan (cdT zs) (insL (kdT zs)) (hdC n (cdT zs)) a0 t).1 (fun s => hdC n (cdT zs) s + (scan (cdT zs) (insL (kdT zs)) (hdC n (cdT zs)) a0 t).2 s)) (fun kk _ => n - (intOf kk).toNat)
  case atStart => exact ⟨0, Nat.zero_le _, rfl, HST.out⟩
  case round =>
    clear HST c2
    obtain ⟨t, ht, rfl, hs⟩ := hrel
    have HS := hid hs
    clear hs
    by_cases hlt : t < n
    · have hti : (t < n) = True := eq_true hlt
      have htb : (t : Int) < (n : Int) := by omega
      have HLT := hid hlt
      have hsc := HSC.out t
      obtain ⟨A, hA⟩ : ∃ A, A = (scan (cdT zs) (insL (kdT zs)) (hdC n (cdT zs)) a0 t).1 := ⟨_, rfl⟩
      obtain ⟨Q, hQ⟩ : ∃ Q, Q = (scan (cdT zs) (insL (kdT zs)) (hdC n (cdT zs)) a0 t).2 := ⟨_, rfl⟩
      have HA := hid hA
      have HQ := hid hQ
      rw [← hA, ← hQ] at HS
      rw [← hA, ← hQ] at hsc
      have hct := HS.out.cellO hlt
      have HSC9 := hid hsc
      have hne := HNE.out
      have c0 := HS.out.mv.cell HW1.out.c0 (by have := HW1.out.nw; simp only; omega)
      have c1 := HS.out.mv.cell HW1.out.c1 (by have := HW1.out.nw; simp only; omega)
      have c2 := HS.out.mv.cell HW1.out.c2 (by have := HW1.out.nw; simp only; omega)
      have HKX : Hid (∀ i, i < n → wr.cell? ⟨kb, ko + i, none⟩ = some (.bool (kdT zs i))) := hid fun i hi => HS.out.mv.cell (HW1.out.kd i hi) (by have := HW1.out.nk; simp only; omega)
      have HTX : Hid (∀ i, i < n → wr.cell? ⟨tb, tq + i, none⟩ = some (.int .i64 ((cdT zs i : Nat) : Int))) := hid fun i hi => HS.out.mv.cell (HW1.out.tx i hi) (by have := HW1.out.nt; simp only; omega)
      clear hA hQ hlt hsc hne
      cases hv : A t with
      | none =>
        rw [hv] at hct
        have hct' : wr.cell? ⟨g1, t, none⟩ = some (.int .i64 (-1)) := hct
        have HSK := hid (scan_none (c := cdT zs) (ins := insL (kdT zs)) (st := hdC n (cdT zs)) (a0 := a0) (k := t) (by rw [← HA.out]; exact hv))
        clear hct hv HSC9 c0
        go_wp2_with fail
        go_roundw
        case rel => exact ⟨t + 1, HLT.out, by go_num, by rw [HSK.out, ← HA.out, ← HQ.out]; exact HS.out⟩
        case measure => simp [intOf]; have := HLT.out; omega
      | some i =>
        rw [hv] at hct
        cases i with
        | zero =>
          have hct' : wr.cell? ⟨g1, t, none⟩ = some (.int .i64 0) := hct
          have HSK := hid (scan_skip (c := cdT zs) (ins := insL (kdT zs)) (st := hdC n (cdT zs)) (a0 := a0) (k := t) (i := 0) (by rw [← HA.out]; exact hv) (by omega))
          clear hct hv HSC9 c0
          go_wp2_with fail
          go_roundw
          case rel => exact ⟨t + 1, HLT.out, by go_num, by rw [HSK.out, ← HA.out, ← HQ.out]; exact HS.out⟩
          case measure => simp [intOf]; have := HLT.out; omega
        | succ j =>
          obtain ⟨h, hh⟩ : ∃ h : Nat, h = j + 1 := ⟨_, rfl⟩
          have hct' : wr.cell? ⟨g1, t, none⟩ = some (.int .i64 (h : Int)) := by rw [hh]; exact hct
          have hj1 : (h : Int) - 1 = (j : Int) := by omega
          have hh0 : decide ((h : Int) ≤ 0) = false := decide_eq_false (by omega)
          have hjn : j < n := by have := (HSC9.out.at_ hv).1; omega
          have hjN : (j < n) = True := eq_true hjn
          have hjb : (j : Int) < (n : Int) := by omega
          have hkc := HKX.out j hjn
          cases hK : kdT zs j with
          | true =>
            rw [hK] at hkc
            have HSK := hid (scan_skip (c := cdT zs) (ins := insL (kdT zs)) (st := hdC n (cdT zs)) (a0 := a0) (k := t) (i := j + 1) (by rw [← HA.out]; exact hv) (by rw [Nat.add_sub_cancel, insL_iff, hK]; simp))
            clear hct hv HSC9 hjn hh hK c0
            go_wp2_with fail
            go_roundw
            case rel => exact ⟨t + 1, HLT.out, by go_num, by rw [HSK.out, ← HA.out, ← HQ.out]; exact HS.out⟩
            case measure => simp [intOf]; have := HLT.out; omega
          | false =>
            rw [hK] at hkc
            have hins : insL (kdT zs) j = true := insL_iff.2 hK
            have HPU := hid (scan_put (c := cdT zs) (ins := insL (kdT zs)) (st := hdC n (cdT zs)) (a0 := a0) (k := t) (by rw [← HA.out]; exact hv) hins)
            obtain ⟨-, -, hf1, hf2, -, -⟩ := HSC9.out.free HTS.out hv hins
            have htc := HTX.out j hjn
            have hsg := HGL.out j hjn
            obtain ⟨s, hs⟩ : ∃ s, s = cdT zs j := ⟨_, rfl⟩
            rw [← hs] at htc hf1 hf2 hsg
            have HSE := hid hs
            have hsG : s < G := by have := HG.out; omega
            have hsb : (s : Int) < (G : Int) := by omega
            have hsN : (s < G) = True := eq_true hsG
            obtain ⟨p, hp⟩ : ∃ p, p = hdC n (cdT zs) s + Q s := ⟨_, rfl⟩
            rw [← hp] at hf2
            have HP := hid hp
            have hpb : (p : Int) < (n : Int) := by omega
            have hpN : (p < n) = True := eq_true hf2
            have hne := HNE.out
            have h13 : g1 ≠ gh := by omega
            have k3 := HS.out.cellP hsG
            rw [← hp] at k3
            have ko := HS.out.cellO hf2
            have f1 := HS.out.ord.frozenAt p
            have hs1 := (HS.out.setO h13 p (some j)).drew
            obtain ⟨z1, hz1⟩ : ∃ z1, z1 = (wr.setCell ⟨g1, p, none⟩ (.int .i64 (j : Int))).drew := ⟨_, rfl⟩
            have hs1' : OrdE 3 w1 z1 g1 gh n G (updF A p (some j)) (fun s => hdC n (cdT zs) s + Q s) := by rw [hz1]; exact hs1
            have z3 := hs1'.cellP hsG
            rw [← hp] at z3
            have zf := hs1'.put.frozenAt s
            have hs2 := hs1'.setP h13 s (p + 1)
            have HS2 : Hid (OrdE 3 w1 (z1.setCell ⟨gh, s, none⟩ (.int .i64 ((p : Int) + 1))) g1 gh n G (scan (cdT zs) (insL (kdT zs)) (hdC n (cdT zs)) a0 (t + 1)).1 (fun s => hdC n (cdT zs) s + (scan (cdT zs) (insL (kdT zs)) (hdC n (cdT zs)) a0 (t + 1)).2 s)) := hid (by
              rw [show ((p + 1 : Nat) : Int) = (p : Int) + 1 from by omega] at hs2
              rw [HPU.out]
              refine hs2.congr (fun q _ => ?_) fun r _ => ?_
              · show updF A p (some j) q = updF (scan (cdT zs) (insL (kdT zs)) (hdC n (cdT zs)) a0 t).1 (hdC n (cdT zs) (cdT zs j) + (scan (cdT zs) (insL (kdT zs)) (hdC n (cdT zs)) a0 t).2 (cdT zs j)) (some j) q
                rw [← HA.out, ← HQ.out, ← hs, ← hp]
              · show updF (fun s => hdC n (cdT zs) s + Q s) s (p + 1) r = hdC n (cdT zs) r + updF (scan (cdT zs) (insL (kdT zs)) (hdC n (cdT zs)) a0 t).2 (cdT zs j) ((scan (cdT zs) (insL (kdT zs)) (hdC n (cdT zs)) a0 t).2 (cdT zs j) + 1) r
                rw [← HQ.out, ← hs]
                by_cases h : r = s
                · subst h; rw [updF_at, updF_at, hp]; omega
                · rw [updF_ne _ _ h, updF_ne _ _ h])
            have HZ1 := hid hz1
            generalize ov (A p) = old at *
            clear hct hv HSC9 hh hK hins hf1 hf2 hs hp hs1 hs1' hs2 hjn hsg hsG h13 hz1 hne HPU
            go_wp2_with fail
            go_region
            rw [← HZ1.out]
            clear c0 c1 c2 hkc htc k3 ko f1 hct'
            go_wp2_with fail
            go_roundw
            case rel => exact ⟨t + 1, HLT.out, by go_num, HS2.out⟩
            case measure => simp [intOf]; have := HLT.out; omega
    · have hti : (t < n) = False := eq_false hlt
      obtain rfl : n = t := by omega
      have ho := HS.out.ord
      rw [← HPF.out] at ho
      have HFIN := hid ho
      have HMV : Hid (Mv (fun b => b = g1) x wr) := hid ((Mv.of_below HB1.out).trans' HS.out.mv fun i hi h => by
        have := HNE.out
        omega)
      clear hlt ho
      go_wp2_with fail
      rw [Exit.noGoto_normal]
      go_end0
      exact ⟨rfl, HFIN.out, HMV.out⟩
end Go.Proofs.Ytmllpednaibeeaa
namespace Go.Proofs.Ytmllpednaibeeaa
open Go.RowKit Go.Inc Go.Shelf
attribute [local go_sem] Oper.semAt_some
set_option maxRecDepth 100000 in
set_option maxHeartbeats 4000000 in
theorem takeS_any (x : World) (wb tb tq c kb ko kc g1 n : Nat) (zs : List Int) (P1 : Nat → Option Nat) (hw : WkS x wb tb tq c kb ko kc g1 n zs) (ho : x.ownsRow 0 3 1 (.slice (some ⟨g1, 0, none⟩) n n) n (ivl P1 n))
    (hP : ∀ p i, P1 p = some i → i < n) (h0 : 0 < n) (hl : n ≤ 65536) :
    Calls Try.prog 71 #[.pointer (some ⟨wb, 0, none⟩)] x fun e w' => e = .returned (.tuple #[]) ∧ w'.ownsRow 0 3 1 (.slice (some ⟨g1, 0, none⟩) n n) n (ivl (clrA n (kdT zs) P1 n) n) ∧ Mv (fun b => b = g1) x w' := by
  have HW := hid hw
  have HPT := hid hP
  have HO : Hid (x.ownsRow 0 3 1 (.slice (some ⟨g1, 0, none⟩) n n) n (ivl (clrA n (kdT zs) P1 0) n)) := hid ho
  have c0 := hw.c0
  have c2 := hw.c2
  have hnb : (n : Int) ≤ 65536 := by omega
  obtain ⟨la, hla⟩ : ∃ la, la = n - 1 := ⟨_, rfl⟩
  have hlai : (n : Int) - 1 = (la : Int) := by omega
  have HLA := hid hla
  clear hw ho hP h0 hl hla
  go_enter Try.func71, Try.ntmps71
  go_wp2_with fail
  go_loopw [16] (fun kk wr => ∃ t : Nat, t ≤ n ∧ kk = .int .i64 (t : Int) ∧ wr.ownsRow 0 3 1 (.slice (some ⟨g1, 0, none⟩) n n) n (ivl (clrA n (kdT zs) P1 t) n) ∧ Mv (fun b => b = g1) x wr) (fun kk _ => n - (intOf kk).toNat)
  case atStart => exact ⟨0, Nat.zero_le _, rfl, HO.out, Mv.refl _ _⟩
  case round =>
    clear HO c0 c2
    obtain ⟨t, ht, rfl, ho, hm⟩ := hrel
    have HO := hid ho
    have HM := hid hm
    have c1 := hm.cell HW.out.c1 HW.out.nw
    have c2 := hm.cell HW.out.c2 HW.out.nw
    clear ho hm
    by_cases hlt : t < n
    · have hti : (t < n) = True := eq_true hlt
      have htb : (t : Int) < (n : Int) := by omega
      have HLT := hid hlt
      have hct := HO.out.cells (g := g1) rfl t _ (ivl_get hlt)
      rw [Addr.add_lit, clrA_at, Nat.zero_add] at hct
      have f1 := HO.out.frozenAt t
      cases hv : P1 t with
      | none =>
        rw [hv] at hct
        have hct' : wr.cell? ⟨g1, t, none⟩ = some (.int .i64 (-1)) := hct
        have HSK := hid (ivl_congr (n := n) fun p _ => clrA_skip (n := n) (K := kdT zs) (a := P1) (t := t) (by rw [hv]) p)
        clear hct hv hlt
        go_wp2_with fail
        go_roundw
        case rel => exact ⟨t + 1, HLT.out, by go_num, by rw [← HSK.out]; exact HO.out, HM.out⟩
        case measure => simp [intOf]; have := HLT.out; omega
      | some i =>
        rw [hv] at hct
        have hct' : wr.cell? ⟨g1, t, none⟩ = some (.int .i64 (i : Int)) := hct
        have hin := HPT.out t i hv
        have hiN : (i < n) = True := eq_true hin
        have hib : (i : Int) < (n : Int) := by omega
        have hi1 : ((i : Int) != -1) = true := by rw [bne_iff_ne]; omega
        have hkc := HM.out.cell (HW.out.kd i hin) HW.out.nk
        by_cases hil : i = la
        · have hie : ((i : Int) != (la : Int)) = false := by rw [hil]; simp
          have hil2 : i = n - 1 := by rw [hil, HLA.out]
          have HSK := hid (ivl_congr (n := n) fun p _ => clrA_skip (n := n) (K := kdT zs) (a := P1) (t := t) (by rw [hv]; simp only; rw [if_neg (by rw [insS_iff]; exact fun h => h.2 hil2)]) p)
          clear hct hv hlt hin hil hil2 hkc
          go_wp2_with fail
          go_roundw
          case rel => exact ⟨t + 1, HLT.out, by go_num, by rw [← HSK.out]; exact HO.out, HM.out⟩
          case measure => simp [intOf]; have := HLT.out; omega
        · have hie : ((i : Int) != (la : Int)) = true := by rw [bne_iff_ne]; omega
          have hil2 : i ≠ n - 1 := by rw [← HLA.out]; exact hil
          cases hK : kdT zs i with
          | false =>
            rw [hK] at hkc
            have HSK := hid (ivl_congr (n := n) fun p _ => clrA_skip (n := n) (K := kdT zs) (a := P1) (t := t) (by rw [hv]; simp only; rw [if_neg (by rw [insS_iff, hK]; simp)]) p)
            clear hct hv hlt hK hin hil hil2
            go_wp2_with fail
            go_roundw
            case rel => exact ⟨t + 1, HLT.out, by go_num, by rw [← HSK.out]; exact HO.out, HM.out⟩
            case measure => simp [intOf]; have := HLT.out; omega
          | true =>
            rw [hK] at hkc
            have HO4 := hid (HO.out.stored t (.int .i64 (-1)))
            have hset := ivl_set (clrA n (kdT zs) P1 t) n t none
            rw [show ov none = -1 from rfl] at hset
            rw [hset, ivl_congr (n := n) fun p _ => clrA_step (n := n) (K := kdT zs) (a := P1) (t := t) none (by rw [hv]; simp only; rw [if_pos (insS_iff.2 ⟨hK, hil2⟩)]) p] at HO4
            have HM4 := hid (mvSet (F := fun b => b = g1) HM.out (g := g1) (q := t) rfl (.int .i64 (-1)))
            clear hct hv hlt hK hin hil hil2 hset HO HM
            go_wp2_with fail
            go_roundw
            case rel => exact ⟨t + 1, HLT.out, by go_num, HO4.out.1, HM4.out⟩
            case measure => simp [intOf]; have := HLT.out; omega
    · have hti : (t < n) = False := eq_false hlt
      obtain rfl : n = t := by omega
      clear hlt
      go_wp2_with fail
      go_end0
      exact ⟨rfl, HO.out, HM.out⟩
set_option maxRecDepth 100000 in
set_option maxHeartbeats 8000000 in
theorem putS_any (x : World) (wb tb tq c kb ko kc g1 n : Nat) (zs : List Int) (fs : List Nat) (hw : WkS x wb tb tq c kb ko kc g1 n zs) (ho : x.ownsRow 0 3 1 (.slice (some ⟨g1, 0, none⟩) n n) n (ivl (clrA n (kdT zs) (pass1 n (cdT zs) (kdT zs) fs).1 n) n))
    (hfs : isFs zs fs) (hck : ckT zs = 0) (hn : n = zs.length) (h2 : 1 < n) (hl : n ≤ 65536) :
    Calls Try.prog 72 #[.pointer (some ⟨wb, 0, none⟩)] x fun e w' => e = .returned (.tuple #[]) ∧ w'.ownsRow 0 3 1 (.slice (some ⟨g1, 0, none⟩) n n) n (nvals (indT zs fs)) ∧ Mv (fun b => b = g1) x w' := by
  have hI := InT.of hck
  have HI := hid hI
  have HN := hid hn
  have HFS := hid hfs
  have HW := hid hw
  have HO := hid ho
  have HBU : Hid (∀ y, Below x.heap.size x y → Calls Try.prog 76 #[.slice (some ⟨tb, tq, none⟩) n c] y (BkP y zs)) := hid fun y hy => by
    have h := buckets_any (fun b => b = tb) y (some ⟨tb, tq, none⟩) c zs ((hw.mv (F := fun b => b = g1) (Mv.of_below hy) fun _ _ h => h).text hI hn rfl) hck (by omega)
    rwa [← hn] at h
  have hw0 := hw.c0
  have HGB : Hid (grT zs n ≤ 65535) := hid (grT_bd (fun i hi => ck_cd hck hi) n (by omega))
  have HWX : Hid (wb < x.heap.size ∧ tb < x.heap.size ∧ kb < x.heap.size) := hid ⟨cell_lt hw.c0, cell_lt (hw.tx 0 (by omega)), cell_lt (hw.kd 0 (by omega))⟩
  have HMB : Hid ((n : Int) ≤ 65536) := hid (by omega)
  have hTx := hI.txt
  rw [← hn] at hTx
  have hSO : SowOk n (cdT zs) (kdT zs) (fun _ _ => True) fs := ⟨hfs.1, fun j => by rw [hfs.2, ← ms_fs, ← hn], List.pairwise_of_forall (fun _ _ _ => trivial)⟩
  have HSC2 := hid (ScanI.scan hTx.scanS (trR.scanS hTx) (left1_ok hTx trR hSO h2))
  have HTS2 := hid hTx.scanS
  have HIND := hid (indF_ok hTx trR hSO h2)
  have HINE : Hid (indT zs fs = indF n (cdT zs) (kdT zs) fs) := hid (by unfold indT; rw [← hn, if_neg (by omega)])
  have HLF : Hid (∀ p, p < n → left1 n (cdT zs) (kdT zs) fs (n - 1 - p) = clrA n (kdT zs) (pass1 n (cdT zs) (kdT zs) fs).1 n p) := hid fun p hp => by
    unfold left1 clrA
    rw [if_pos (by omega), if_pos hp, show n - 1 - (n - 1 - p) = p by omega]
    cases (pass1 n (cdT zs) (kdT zs) fs).1 p <;> rfl
  have HP2 : Hid (pass2 n (cdT zs) (kdT zs) fs = scan (cdT zs) (insS n (kdT zs)) (stS n (cdT zs)) (left1 n (cdT zs) (kdT zs) fs) n) := hid rfl
  obtain ⟨a1, ha1⟩ : ∃ a1, a1 = left1 n (cdT zs) (kdT zs) fs := ⟨_, rfl⟩
  rw [← ha1] at HSC2 HLF HP2
  clear hw ho hfs hck hI hn h2 hTx hSO ha1
  refine (callsIn_wide (n := 6)).1 ?_
  refine callsIn_of_wp_marks Try.func72 rfl trivial ?_ rfl
  simp only [Try.ntmps72, List.size_toArray, List.length_cons, List.length_nil, Nat.reduceAdd, Nat.reduceSub, Array.replicate_succ, Array.replicate_zero, List.push_toArray, List.append_toArray, List.nil_append, List.cons_append]
  refine wpIn_wide.2 ?_
  go_wp2_with fail
  go_step3
  have hb0 := allocBelow x (.cells #[.pointer (some ⟨wb, 0, none⟩)] 99)
  have k0 := (hb0.cell (cell_lt hw0)).trans hw0
  have HBK := hid (HBU.out _ hb0)
  have HB0 := hid hb0
  clear hw0 hb0 HBU
  go_wp2_with fail
  refine HBK.out.mono ?_
  clear HBK
  rintro e w2 ⟨gh, g3, rfl, hne, hr1, hr2, hb⟩
  rw [← HN.out] at hr1 hr2 ⊢
  obtain ⟨G, hG⟩ : ∃ G, G = grT zs n + 1 := ⟨_, rfl⟩
  rw [← hG] at hr1 hr2 ⊢
  have HG := hid hG
  have HB2 : Hid (Below x.heap.size x w2) := hid (HB0.out.trans (hb.mono HB0.out.size))
  have hbw : w2.cell? ⟨x.heap.size, 0, none⟩ = some (.pointer (some ⟨wb, 0, none⟩)) := (hb.cell (p := ⟨x.heap.size, 0, none⟩) (by simp)).trans (by simp)
  obtain ⟨bw, hbwe⟩ : ∃ bw, bw = x.heap.size := ⟨_, rfl⟩
  have HBW := hid hbwe
  rw [← hbwe] at hbw ⊢
  obtain ⟨w3, hw3⟩ : ∃ w3, w3 = w2.alloc (.cells #[.slice (some ⟨g3, 0, none⟩) G G] 22) := ⟨_, rfl⟩
  obtain ⟨bE, hbE⟩ : ∃ bE, bE = w2.heap.size := ⟨_, rfl⟩
  obtain ⟨w4, hw4⟩ : ∃ w4, w4 = w3.alloc (.cells #[.slice (some ⟨g1, 0, none⟩) n n] 22) := ⟨_, rfl⟩
  obtain ⟨bL, hbL⟩ : ∃ bL, bL = w3.heap.size := ⟨_, rfl⟩
  have HFL : Hid (Calls Try.prog 81 #[.slice (some ⟨g1, 0, none⟩) n n] w3 fun e w' => e = .returned (.func (.func 93) #[] #[.pointer (some ⟨bL, 0, none⟩)]) ∧ w' = w4) := hid (by rw [hw4, hbL]; exact fromLast_any (some ⟨g1, 0, none⟩) n n w3)
  have hb23 : Below w2.heap.size w2 w3 := by rw [hw3]; exact allocBelow _ _
  have hb34 : Below w3.heap.size w3 w4 := by rw [hw4]; exact allocBelow _ _
  have hb24 : Below w2.heap.size w2 w4 := hb23.trans (hb34.mono hb23.size)
  have HB4 : Hid (Below x.heap.size x w4) := hid (HB2.out.trans (hb24.mono HB2.out.size))
  have HSZ : Hid (x.heap.size ≤ g3 ∧ g3 < w2.heap.size ∧ w2.heap.size ≤ w4.heap.size) := hid ⟨by have := rowBase hr2; simp at this; omega, rowSlot hr2, hb24.size⟩
  have HCW : Hid (w4.cell? ⟨bw, 0, none⟩ = some (.pointer (some ⟨wb, 0, none⟩))) := hid ((hb24.cell (cell_lt hbw)).trans hbw)
  have HC2 := (HB2.out.cell (cell_lt HW.out.c2)).trans HW.out.c2
  have hcB := (hb23.cell (cell_lt hbw)).trans hbw
  have hcE : w3.cell? ⟨bE, 0, none⟩ = some (.slice (some ⟨g3, 0, none⟩) G G) := by rw [hw3, hbE, cell_of_row _ _ _ _ _ _ (heap_alloc_new w2 _)]; rfl
  have HCE : Hid (w4.cell? ⟨bE, 0, none⟩ = some (.slice (some ⟨g3, 0, none⟩) G G)) := hid ((hb34.cell (cell_lt hcE)).trans hcE)
  have HCL : Hid (w4.cell? ⟨bL, 0, none⟩ = some (.slice (some ⟨g1, 0, none⟩) n n)) := hid (by rw [hw4, hbL, cell_of_row _ _ _ _ _ _ (heap_alloc_new w3 _)]; rfl)
  have HNE : Hid (g1 < x.heap.size ∧ bw ≠ g3 ∧ bE ≠ g3 ∧ bL ≠ g3 ∧ x.heap.size ≤ bw ∧ x.heap.size ≤ bE ∧ x.heap.size ≤ bL) := hid (by
    have h1 := rowSlot HO.out
    have h2 := rowBase hr2
    have h3 := rowSlot hr2
    have h4 := HB2.out.size
    have h5 := hb23.size
    simp at h2
    have h6 : w3.heap.size = w2.heap.size + 1 := by rw [hw3]; simp
    omega)
  have HST : Hid (OrdE 3 w4 w4 g1 g3 n G (fun p => (scan (cdT zs) (insS n (kdT zs)) (stS n (cdT zs)) a1 0).1 (n - 1 - p)) (fun s => hdC n (cdT zs) (s + 1) - (scan (cdT zs) (insS n (kdT zs)) (stS n (cdT zs)) a1 0).2 s)) := hid (by
    refine ⟨?_, own_weaken (owns_mv (F := fun _ => False) hr2 (Mv.of_below hb24) fun _ _ => id) (Nat.zero_le _), Mv.refl _ _⟩
    rw [ivl_congr (n := n) (a := (fun p => (scan (cdT zs) (insS n (kdT zs)) (stS n (cdT zs)) a1 0).1 (n - 1 - p))) (b := clrA n (kdT zs) (pass1 n (cdT zs) (kdT zs) fs).1 n) fun p hp => HLF.out p hp]
    exact owns_mv (F := fun _ => False) HO.out (Mv.of_below HB4.out) fun _ _ => id)
  have HWK := hid (HW.out.mv (F := fun b => b = g1) (Mv.of_below HB4.out) fun _ _ h => h)
  have k22 := (hb23.cell (cell_lt HC2)).trans HC2
  have HW3 := hid hw3
  have HBE := hid hbE
  clear hr1 hr2 hb hbw hbwe hw3 hbE hw4 hbL hb23 hb34 hb24 hcE hG HB0 HB2 k0 HO HC2 HLF
  rw [HW3.out] at k22 hcB
  clear HW
  go_wp2_with fail
  go_step3
  go_wp2_with fail
  rw [← HW3.out, ← HBE.out]
  clear k22 hcB
  refine HFL.out.mono ?_
  clear HFL
  rintro e w5 ⟨rfl, rfl⟩
  go_wp2_with fail
  refine (wpIn_wide (n := 6)).1 ?_
  refine range_rounds (n := 6) rfl (by omega) (gf := 93) (lb := #[.pointer (some ⟨bL, 0, none⟩)]) rfl trivial (enters_of Try.func93 (by kernel_rfl) rfl)
    (last_rounds 5 (by omega) bL g1 0 n n (fun k => (ov ((scan (cdT zs) (insS n (kdT zs)) (stS n (cdT zs)) a1 k).1 k))) HMB.out w5) (fun _ => rfl)
    (fun k W => OrdE 3 w5 W g1 g3 n G (fun p => (scan (cdT zs) (insS n (kdT zs)) (stS n (cdT zs)) a1 k).1 (n - 1 - p)) (fun s => hdC n (cdT zs) (s + 1) - (scan (cdT zs) (insS n (kdT zs)) (stS n (cdT zs)) a1 k).2 s))
    (ordE_from (fun k => (fun p => (scan (cdT zs) (insS n (kdT zs)) (stS n (cdT zs)) a1 k).1 (n - 1 - p))) (fun k => (fun s => hdC n (cdT zs) (s + 1) - (scan (cdT zs) (insS n (kdT zs)) (stS n (cdT zs)) a1 k).2 s)) (by have := HNE.out; have := HSZ.out; omega) (by have := HSZ.out; omega))
    (fun k V h => ⟨h.mv.cell HCL.out (by have := HNE.out; simp only; omega), fun hk => by
      have h1 := h.cellO (p := n - 1 - k) (by omega)
      rw [show n - 1 - (n - 1 - k) = k by omega] at h1
      rw [Nat.zero_add]
      exact h1⟩)
    HST.out
    (fun k => { tmps := #[.pointer (some ⟨wb, 0, none⟩), .pointer (some ⟨bw, 0, none⟩), .slice (some ⟨gh, 0, none⟩) G G, .pointer (some ⟨bE, 0, none⟩), .int .i64 (ov ((scan (cdT zs) (insS n (kdT zs)) (stS n (cdT zs)) a1 k).1 k)), .tuple #[.slice (some ⟨gh, 0, none⟩) G G, .slice (some ⟨g3, 0, none⟩) G G], .pointer (some ⟨wb, 0, none⟩), .pointer (some ⟨wb, 0, none⟩), .pointer (some ⟨wb, 0, none⟩), .slice (some ⟨tb, tq, none⟩) n c, .tuple #[.slice (some ⟨gh, 0, none⟩) G G, .slice (some ⟨g3, 0, none⟩) G G], .slice (some ⟨gh, 0, none⟩) G G, .slice (some ⟨g3, 0, none⟩) G G, .pointer (some ⟨wb, 0, none⟩), .pointer (some ⟨wb, 0, none⟩), .pointer (some ⟨wb, 2, none⟩), .slice (some ⟨g1, 0, none⟩) n n, .func (.func 93) #[] #[.pointer (some ⟨bL, 0, none⟩)], .int .i64 (ov ((scan (cdT zs) (insS n (kdT zs)) (stS n (cdT zs)) a1 k).1 k)), undef, undef, undef, undef, undef, undef, undef, undef, undef, undef, undef, undef, undef, undef, undef, undef, undef, undef], defers := [] }) ?assign ?body ?done
  case assign =>
    intro l k W K hK
    gi_wp2
    simpa using hK
  case body =>
    intro l k W hkm hI
    have hsc := HSC2.out k
    obtain ⟨A, hA⟩ : ∃ A, A = (scan (cdT zs) (insS n (kdT zs)) (stS n (cdT zs)) a1 k).1 := ⟨_, rfl⟩
    obtain ⟨Q, hQ⟩ : ∃ Q, Q = (scan (cdT zs) (insS n (kdT zs)) (stS n (cdT zs)) a1 k).2 := ⟨_, rfl⟩
    have HA := hid hA
    have HQ := hid hQ
    rw [← hA, ← hQ] at hI
    rw [← hA, ← hQ] at hsc
    rw [← hA]
    have HI := hid hI
    have hne := HNE.out
    have hsz := HSZ.out
    have hwx := HWX.out
    have cw := hI.mv.cell HCW.out (by simp only; omega)
    have c1 := hI.mv.cell HWK.out.c1 (by have := HWK.out.nw; simp only; omega)
    have HSC9 := hid hsc
    have HSKIP : Hid (scan (cdT zs) (insS n (kdT zs)) (stS n (cdT zs)) a1 (k + 1) = scan (cdT zs) (insS n (kdT zs)) (stS n (cdT zs)) a1 k → OrdE 3 w5 W g1 g3 n G (fun p => (scan (cdT zs) (insS n (kdT zs)) (stS n (cdT zs)) a1 (k + 1)).1 (n - 1 - p)) (fun s => hdC n (cdT zs) (s + 1) - (scan (cdT zs) (insS n (kdT zs)) (stS n (cdT zs)) a1 (k + 1)).2 s)) := hid fun e => by
      rw [e, ← hA, ← hQ]; exact hI
    have HKK := hid hkm
    clear hA hQ hsc hne hsz hwx hI
    cases hv : A k with
    | none =>
      have HSK := hid (HSKIP.out (scan_none (by rw [← HA.out]; exact hv)))
      simp only [ov]
      clear hv HSC9 HSKIP hkm c1 cw
      gi_wp2
      exact ⟨⟨Nat.le_refl _, fun _ _ h _ => h⟩, HSK.out⟩
    | some i =>
      cases i with
      | zero =>
        have HSK := hid (HSKIP.out (scan_skip (i := 0) (by rw [← HA.out]; exact hv) (by omega)))
        rw [show ov (some 0) = 0 from rfl]
        clear hv HSC9 HSKIP hkm c1 cw
        gi_wp2
        exact ⟨⟨Nat.le_refl _, fun _ _ h _ => h⟩, HSK.out⟩
      | succ j =>
        obtain ⟨h, hh⟩ : ∃ h : Nat, h = j + 1 := ⟨_, rfl⟩
        rw [show ov (some (j + 1)) = (h : Int) from by rw [hh]; rfl]
        have hj1 : (h : Int) - 1 = (j : Int) := by omega
        have hh0 : decide ((h : Int) ≤ 0) = false := decide_eq_false (by omega)
        have hjn1 : j + 1 < n := (HSC9.out.at_ hv).1
        have hjn : j < n := by omega
        have hjN : (j < n) = True := eq_true hjn
        have hjb : (j : Int) < (n : Int) := by omega
        have hkc := HI.out.mv.cell (HWK.out.kd j hjn) (by have := HWK.out.nk; have := HNE.out; have := HSZ.out; have := HWX.out; simp only; omega)
        have hnb := HMB.out
        cases hK : kdT zs j with
        | false =>
          rw [hK] at hkc
          have HSK := hid (HSKIP.out (scan_skip (i := j + 1) (by rw [← HA.out]; exact hv) (by rw [Nat.add_sub_cancel, insS_iff, hK]; simp)))
          clear hv HSC9 HSKIP hkm hjn hjn1 hK hh
          gi_wp2
          exact ⟨⟨Nat.le_refl _, fun _ _ h _ => h⟩, HSK.out⟩
        | true =>
          rw [hK] at hkc
          have hins : insS n (kdT zs) j = true := insS_iff.2 ⟨hK, by omega⟩
          have hput := scan_put (c := cdT zs) (ins := insS n (kdT zs)) (st := stS n (cdT zs)) (a0 := a1) (k := k) (by rw [← HA.out]; exact hv) hins
          obtain ⟨-, -, hf1, hf2, -, -⟩ := HSC9.out.free HTS2.out hv hins
          have hne := HNE.out
          have hsz := HSZ.out
          have hwx := HWX.out
          have c0 := HI.out.mv.cell HWK.out.c0 (by have := HWK.out.nw; simp only; omega)
          have c2 := HI.out.mv.cell HWK.out.c2 (by have := HWK.out.nw; simp only; omega)
          have ct := HI.out.mv.cell (HWK.out.tx j hjn) (by have := HWK.out.nt; simp only; omega)
          have cE := HI.out.mv.cell HCE.out (by simp only; omega)
          have hg := grT_le zs n j hjn
          have hhd := hdC_succ n (cdT zs) (cdT zs j)
          have hhl := hdC_le n (cdT zs) (cdT zs j + 1)
          obtain ⟨s, hs⟩ : ∃ s, s = cdT zs j := ⟨_, rfl⟩
          rw [← hs] at hf1 hf2 hg hhd hhl ct
          have hst : stS n (cdT zs) s = n - hdC n (cdT zs) (s + 1) := rfl
          obtain ⟨e, he⟩ : ∃ e, e = hdC n (cdT zs) (s + 1) - 1 - Q s := ⟨_, rfl⟩
          have hsG : s < G := by have := HG.out; omega
          have hen : e < n := by omega
          have hcp := HI.out.cellP hsG
          rw [show hdC n (cdT zs) (s + 1) - Q s = e + 1 by omega] at hcp
          have hco := HI.out.cellO hen
          have f3 := HI.out.put.frozenAt s
          have f1 := HI.out.ord.frozenAt e
          have hgb : grT zs n ≤ 65535 := HGB.out
          have hpb := putBehind_any W wb tb tq c g1 g3 n G j s e _ c0 c2 ct hcp f3 hco f1 hjn hsG hen hl (by have := HG.out; omega) (by omega) (by omega)
          have hset := ((HI.out.setP (by omega) s e).setO (by omega) e (some j)).drew
          have HSET : Hid (OrdE 3 w5 ((W.setCell ⟨g3, s, none⟩ (.int .i64 (e : Int))).setCell ⟨g1, e, none⟩ (.int .i64 (j : Int))).drew g1 g3 n G (fun p => (scan (cdT zs) (insS n (kdT zs)) (stS n (cdT zs)) a1 (k + 1)).1 (n - 1 - p)) (fun s => hdC n (cdT zs) (s + 1) - (scan (cdT zs) (insS n (kdT zs)) (stS n (cdT zs)) a1 (k + 1)).2 s)) := hid (by
            rw [hput]
            refine hset.congr (fun p hp => ?_) fun t _ => ?_
            · show updF (fun p => A (n - 1 - p)) e (some j) p = updF (scan (cdT zs) (insS n (kdT zs)) (stS n (cdT zs)) a1 k).1 (stS n (cdT zs) (cdT zs j) + (scan (cdT zs) (insS n (kdT zs)) (stS n (cdT zs)) a1 k).2 (cdT zs j)) (some j) (n - 1 - p)
              rw [← HA.out, ← HQ.out, ← hs]
              by_cases h : p = e
              · rw [h, updF_at, show n - 1 - e = stS n (cdT zs) s + Q s by omega, updF_at]
              · rw [updF_ne _ _ h, updF_ne _ _ (by omega)]
            · show updF (fun s => hdC n (cdT zs) (s + 1) - Q s) s e t = hdC n (cdT zs) (t + 1) - updF (scan (cdT zs) (insS n (kdT zs)) (stS n (cdT zs)) a1 k).2 (cdT zs j) ((scan (cdT zs) (insS n (kdT zs)) (stS n (cdT zs)) a1 k).2 (cdT zs j) + 1) t
              rw [← HQ.out, ← hs]
              by_cases h : t = s
              · subst h; rw [updF_at, updF_at, he]; omega
              · rw [updF_ne _ _ h, updF_ne _ _ h])
          have HKO : Hid (KeepsOthers W ((W.setCell ⟨g3, s, none⟩ (.int .i64 (e : Int))).setCell ⟨g1, e, none⟩ (.int .i64 (j : Int))).drew) := hid (((KeepsOthers.setCell _ _ _).trans (KeepsOthers.setCell _ _ _)).trans ⟨Nat.le_refl _, fun _ _ h _ => h⟩)
          have HPB := hid ((callsIn_wide (n := 3)).2 hpb)
          clear hkm hf1 hf2 hg hhd hhl hst hne hsz hwx c0 c2 ct hs he hsG hen hcp hco f3 f1 hgb hpb hset hput hins hK hv HSC9 HSKIP hjn hjn1 hh
          gi_wp2
          refine ⟨trivial, CallsIn.mono (F := Fence.wide.inRound l) HPB.out ?_⟩
          clear HPB
          rintro r w6 ⟨rfl, rfl⟩
          gi_wp2
          exact ⟨HKO.out, HSET.out⟩
  case done =>
    intro D W hD hI hK
    have hmx : Mv (fun b => b = g1) x W := (Mv.of_below HB4.out).trans' hI.mv fun i hi h => by
      have := HSZ.out
      omega
    have hord := hI.ord
    have heq : ivl (fun p => (scan (cdT zs) (insS n (kdT zs)) (stS n (cdT zs)) a1 n).1 (n - 1 - p)) n = nvals (indT zs fs) := by
      obtain ⟨h1, -, -, -, h2⟩ := HIND.out
      rw [HP2.out] at h2
      rw [HINE.out]
      apply List.ext_getElem?
      intro r
      by_cases hr : r < n
      · rw [ivl_get hr, nvals_get (by rw [h1]; exact hr)]
        have h3 := h2 (n - 1 - r) (by omega)
        rw [show n - 1 - (n - 1 - r) = r by omega] at h3
        rw [h3]; rfl
      · rw [List.getElem?_eq_none (by rw [ivl_len]; omega), List.getElem?_eq_none (by rw [nvals_len, h1]; omega)]
    rw [heq] at hord
    have HFIN : Hid ((W.putObj D (.deferred none)).ownsRow 0 3 1 (.slice (some ⟨g1, 0, none⟩) n n) n (nvals (indT zs fs)) ∧ Mv (fun b => b = g1) x (W.putObj D (.deferred none))) := hid ⟨ownsRow_putObj hord (.deferred none) hK rfl, hmx.trans' (F' := fun b => x.heap.size ≤ b) (Mv.of_grown (grownBy_putObj' W D _) fun g e _ => by cases e; have := HB4.out.size; omega) fun i hi h => absurd h (by omega)⟩
    clear hI hmx hord heq
    go_wp2_with fail
    refine ⟨by simp, .inl ⟨_, _, rfl, run_takeDeferred hK, ?_⟩⟩
    exact ⟨_, results_none rfl _ _ _, rfl, HFIN.out.1, HFIN.out.2⟩
end Go.Proofs.Ytmllpednaibeeaa
namespace Go.Proofs.Ytmllpednaibeeaa
open Go.RowKit Go.Inc
set_option maxRecDepth 100000 in
set_option maxHeartbeats 4000000 in
theorem induced_any (ok ok' : Nat → Prop) (w : World) (v v' : Value) (zs : List Int) (fs : List Nat) (h : So ok w v zs) (h' : So ok' w v' (zsN fs)) (hl : zs.length ≤ 65536) (hck : ckT zs = 0) (hfs : isFs zs fs) :
    Calls Try.prog 50 #[v, v'] w fun e w' => ∃ u, e = .returned u ∧ w'.ownsRow w.heap.size 3 1 u zs.length (nvals (indT zs fs)) ∧ Below w.heap.size w w' := by
  have hI := InT.of hck
  have HK := hid (suKinds ok w v zs h hl hck)
  obtain ⟨a, c, rfl, hs, hlc, hcm, hna⟩ := h
  obtain ⟨b, d, rfl, hs', hlc', hcm', hnb⟩ := h'
  rw [zsN_len]
  obtain ⟨n, hn⟩ : ∃ n, n = zs.length := ⟨_, rfl⟩
  have HN := hid hn
  obtain ⟨m, hm⟩ : ∃ m, m = fs.length := ⟨_, rfl⟩
  have HM := hid hm
  rw [← hn, ← hm]
  by_cases h1 : n = 1
  · have HE : Hid (indT zs fs = [0]) := hid (by unfold indT; rw [← hn, if_pos h1])
    rw [h1]
    clear hs hs' hlc hlc' hcm hcm' hna hnb hI hn hl hck hfs h1 HN HK hm
    go_enter Try.func50, Try.ntmps50
    go_wp2_with fail
    go_ret
    exact ⟨_, rfl, by rw [HE.out]; exact one_row w _, (Below.refl _ _).alloc (Nat.le_refl _) _⟩
  · have hone : ((n : Int) == 1) = false := by rw [beq_eq_false_iff_ne]; omega
    have H2 : Hid (1 < n) := hid (by have := hI.two (by rw [← hn]; exact h1); omega)
    have HI := hid hI
    have HFS := hid hfs
    have HCK := hid hck
    have hnb' : (n : Int) ≤ 65536 := by omega
    obtain ⟨tb, tq, rfl, htx⟩ : ∃ tb tq, a = some ⟨tb, tq, none⟩ ∧ ∀ i, i < n → w.cell? ⟨tb, tq + i, none⟩ = some (.int .i64 ((cdT zs i : Nat) : Int)) := by
      rcases hs with h | ⟨tb, tq, h, _, hc⟩
      · rw [h] at hn; simp at hn; have := H2.out; omega
      · exact ⟨tb, tq, h, fun i hi => by rw [hc i (by rw [← hn]; exact hi), hI.cd (by rw [← hn]; exact hi)]⟩
    have HTX := hid htx
    have HF := hid hs'
    rw [← hn] at HK
    clear hs hs' hlc hlc' hcm hcm' hna hnb hI hn hl hck hfs h1 htx hm
    go_enter Try.func50, Try.ntmps50
    go_wp2_with fail
    refine HK.out.mono ?_
    clear HK
    rintro e w1 ⟨ku, kc, rfl, hk, hb1⟩
    have HB1 := hid hb1
    obtain ⟨kb, ko, rfl, hkx⟩ : ∃ kb ko, ku = some ⟨kb, ko, none⟩ ∧ ∀ i, i < n → w1.cell? ⟨kb, ko + i, none⟩ = some (.bool (kdT zs i)) := by
      rcases hk with h | ⟨kb, ko, h, _, hc⟩
      · have h2 := kdTo_len zs n
        rw [h] at h2; simp at h2; have := H2.out; omega
      · exact ⟨kb, ko, h, fun i hi => by rw [hc i (by rw [kdTo_len]; exact hi), kdTo_get hi]⟩
    have HKX := hid hkx
    have hA := allocBelow w1 (.cells #[.int .i64 (-1)] 3)
    have HA := hid hA
    have HRP := hid (repeat_any (w1.alloc (.cells #[.int .i64 (-1)] 3)) w1.heap.size n hnb' (by simp))
    clear hk hb1 hkx hA
    go_wp2_with fail
    refine HRP.out.mono ?_
    clear HRP
    rintro e w2 ⟨g1, rfl, hg, hrow, hb⟩
    have hsz : w1.heap.size < g1 := by simp at hg; omega
    have hB12 : Below w1.heap.size w1 w2 := HA.out.trans (hb.mono HA.out.size)
    obtain ⟨w3, hw3⟩ : ∃ w3, w3 = w2.alloc (.cells #[.slice (some ⟨tb, tq, none⟩) n c, .slice (some ⟨kb, ko, none⟩) n kc, .slice (some ⟨g1, 0, none⟩) n n] 88) := ⟨_, rfl⟩
    obtain ⟨wb, hwb⟩ : ∃ wb, wb = w2.heap.size := ⟨_, rfl⟩
    have hb23 : Below w2.heap.size w2 w3 := by rw [hw3]; exact allocBelow _ _
    have hB13 : Below w1.heap.size w1 w3 := hB12.trans (hb23.mono hB12.size)
    have hB03 : Below w.heap.size w w3 := HB1.out.trans (hB13.mono HB1.out.size)
    have hg2 : g1 < w2.heap.size := row_lt hrow
    have hc : ∀ k, k < 3 → w3.cell? ⟨wb, k, none⟩ = (#[Value.slice (some ⟨tb, tq, none⟩) n c, .slice (some ⟨kb, ko, none⟩) n kc, .slice (some ⟨g1, 0, none⟩) n n])[k]? := fun k _ => by
      rw [hw3, hwb, cell_of_row _ _ _ _ _ _ (heap_alloc_new w2 _)]
    have HWK : Hid (WkS w3 wb tb tq c kb ko kc g1 n zs) := hid ⟨hc 0 (by omega), hc 1 (by omega), hc 2 (by omega), fun i hi => (hB03.cell (cell_lt (HTX.out i hi))).trans (HTX.out i hi), fun i hi => (hB13.cell (cell_lt (HKX.out i hi))).trans (HKX.out i hi), by omega,
      by have := cell_lt (HTX.out 0 (by have := H2.out; omega)); simp only at this; have := HB1.out.size; omega, by have := cell_lt (HKX.out 0 (by have := H2.out; omega)); simp only at this; omega⟩
    have hiv : zvals (List.replicate n (-1)) = ivl (fun _ => none) n := by
      unfold zvals ivl
      apply List.ext_getElem (by simp)
      intro i h1 h2
      simp [ov]
    have HO3 : Hid (w3.ownsRow 0 3 1 (.slice (some ⟨g1, 0, none⟩) n n) n (ivl (fun _ => none) n)) := hid (by
      rw [← hiv]
      exact owns_mv (F := fun _ => False) (own_of_heap hrow (by simp) (by omega) (Nat.zero_le _)) (Mv.of_below hb23) fun _ _ => id)
    have HF3 := hid ((HF.out.mono (ok' := fun b => b < w.heap.size) fun b _ h => h).below hB03)
    have HB3 := hid hB03
    have HG : Hid (w.heap.size ≤ g1 ∧ g1 < w3.heap.size) := hid ⟨by have := HB1.out.size; omega, by have := hb23.size; omega⟩
    have HW3 := hid hw3
    have HWB := hid hwb
    have HS := hid (sow_any (fun b => b < w.heap.size) w3 wb tb tq c kb ko kc g1 n d b zs fs HWK.out HO3.out HF3.out (fun b h => by have := HG.out; omega) HFS.out HCK.out HN.out H2.out (by omega))
    rw [← HM.out] at HS
    clear hg hrow hb hsz hB12 hw3 hwb hb23 hB13 hB03 hg2 hc hiv HA HB1 HTX HKX HF HF3 HO3
    go_wp2_with fail
    rw [← HW3.out, ← HWB.out]
    refine HS.out.mono ?_
    clear HS
    rintro e w4 ⟨rfl, ho4, hm4⟩
    have HM4 := hid hm4
    have HWK4 := hid (HWK.out.mv (F := fun b => b = g1) hm4 fun _ _ h => h)
    have HL := hid (putL_any w4 wb tb tq c kb ko kc g1 n zs fs HWK4.out ho4 HFS.out HCK.out HN.out (by omega))
    clear ho4 hm4
    go_wp2_with fail
    refine HL.out.mono ?_
    clear HL
    rintro e w5 ⟨rfl, ho5, hm5⟩
    have HM5 := hid (HM4.out.trans hm5)
    have HWK5 := hid (HWK4.out.mv (F := fun b => b = g1) hm5 fun _ _ h => h)
    have hTx := HI.out.txt
    rw [← HN.out] at hTx
    have HT := hid (takeS_any w5 wb tb tq c kb ko kc g1 n zs (pass1 n (cdT zs) (kdT zs) fs).1 HWK5.out ho5 (fun p i h => by
      have h0 := sow_ok (R := fun _ _ => True) hTx fs HFS.out.1 (fun f hh => by have := isFs_lt HFS.out hh; rw [← HN.out] at this; exact this) (fun _ _ _ _ _ => trivial) (List.pairwise_of_forall (fun _ _ _ => trivial))
      exact ((ScanI.scan hTx.scanL (trR.scanL hTx) h0.1 n).at_ h).1) (by have := H2.out; omega) (by omega))
    clear ho5 hm5 hTx HM4 HWK4
    go_wp2_with fail
    refine HT.out.mono ?_
    clear HT
    rintro e w6 ⟨rfl, ho6, hm6⟩
    have HM6 := hid (HM5.out.trans hm6)
    have HWK6 := hid (HWK5.out.mv (F := fun b => b = g1) hm6 fun _ _ h => h)
    have HP := hid (putS_any w6 wb tb tq c kb ko kc g1 n zs fs HWK6.out ho6 HFS.out HCK.out HN.out H2.out (by omega))
    clear ho6 hm6 HM5 HWK5
    go_wp2_with fail
    refine HP.out.mono ?_
    clear HP
    rintro e w7 ⟨rfl, ho7, hm7⟩
    have c2 := hm7.cell HWK6.out.c2 HWK6.out.nw
    have HB7 : Hid (Below w.heap.size w w7) := hid (HB3.out.trans ((HM6.out.trans hm7).below HB3.out.size fun i e => by have := HG.out; omega))
    have HR := hid (own_weaken (ownSelf ho7) HG.out.1)
    clear ho7 hm7 HM6 HWK6
    go_wp2_with fail
    go_ret
    exact ⟨_, rfl, HR.out, HB7.out⟩
set_option maxRecDepth 20000 in
set_option maxHeartbeats 2000000 in
theorem ivInduce_any (ok ok' : Nat → Prop) (w : World) (v v' : Value) (zs ls : List Int) (h : So ok w v zs) (h' : So ok' w v' ls) (hl : zs.length ≤ 65536) (hk : ckT zs = 0) (hl' : ls.length ≤ 65536) :
    Calls Try.prog 41 #[v, v'] w fun e w' => (∀ fs, ls = zsN fs → isFs zs fs → ∃ u, e = .returned (.tuple #[u, .int .i64 0]) ∧ So (fun g => w.heap.size ≤ g) w' u (zsN (indT zs fs))) ∧ (¬ isFsI zs ls → ∃ u, e = .returned (.tuple #[u, .int .i64 3])) ∧ Below w.heap.size w w' := by
  have HF := hid (suFirsts ok w v zs h hl hk)
  have HCL : Hid (∀ y, Below w.heap.size w y → Calls Try.prog 32 #[v'] y fun e w' => ∃ u, e = .returned u ∧ w'.ownsRow y.heap.size 3 1 u ls.length (zvals ls) ∧ Below y.heap.size y w') := hid fun y hy => cloneR_any ok' y v' ls (h'.below hy) hl'
  have HIN : Hid (∀ y, Below w.heap.size w y → ∀ fs, ls = zsN fs → isFs zs fs → Calls Try.prog 50 #[v, v'] y fun e w' => ∃ u, e = .returned u ∧ w'.ownsRow y.heap.size 3 1 u zs.length (nvals (indT zs fs)) ∧ Below y.heap.size y w') := hid fun y hy fs e hf => by
    subst e
    exact induced_any ok ok' y v v' zs fs (h.below hy) (h'.below hy) hl hk hf
  have HIS := hid (isFsI_sort (x := zs) (ls := ls))
  have hfl := fs_half (x := zs)
  obtain ⟨a, c, rfl, -, -, -, -⟩ := h
  obtain ⟨a', c', rfl, -, -, -, -⟩ := h'
  obtain ⟨F, hF⟩ : ∃ F, F = fsT zs zs.length := ⟨_, rfl⟩
  rw [← hF] at HF HIS hfl
  have hml : (ls.mergeSort fun x y => decide (x ≤ y)).length = ls.length := List.length_mergeSort ..
  obtain ⟨n', hn'⟩ : ∃ n', n' = ls.length := ⟨_, rfl⟩
  have HN' := hid hn'
  have HL' := hid hl'
  rw [← hn'] at HCL hml
  rw [← hn'] at HIN ⊢
  have HML := hid hml
  generalize zs.length = n at *
  clear hk hF hn' hml hl' hl hfl
  go_enter Try.func41, Try.ntmps41
  go_wp2_with fail
  refine HF.out.mono ?_
  clear HF
  rintro e w1 ⟨u, rfl, hu, hb⟩
  have HB1 := hid hb
  obtain ⟨fa, fc, rfl, hfs, -, -, -⟩ := hu
  have HFS := hid hfs
  have HCL1 := hid (HCL.out w1 hb)
  obtain ⟨m, hm⟩ : ∃ m, m = (zsN F).length := ⟨_, rfl⟩
  have HM := hid hm
  rw [← hm]
  clear hb hfs HCL hm
  go_wp2_with fail
  refine HCL1.out.mono ?_
  clear HCL1
  rintro e w2 ⟨u2, rfl, hr2, hb⟩
  have HB2 := hid hb
  have HSO := hid (sort_any w2 w1.heap.size n' u2 ls hr2 (by rw [HN'.out]; exact HL'.out))
  clear hr2 hb
  go_wp2_with fail
  refine HSO.out.mono ?_
  clear HSO
  rintro e w3 ⟨rfl, hso, hmv⟩
  have HB13 : Hid (Below w1.heap.size w1 w3) := hid (HB2.out.trans (hmv.below HB2.out.size fun _ h => h))
  obtain ⟨a3, c3, rfl, hs3, -, -, -⟩ := hso
  have HEQ := hid (equalI_any _ _ w3 a3 fa c3 fc _ (zsN F) hs3 (HFS.out.below HB13.out) (by rw [HML.out, HN'.out]; have := HL'.out; omega))
  rw [HML.out, ← HM.out] at HEQ
  rw [HML.out]
  have HB3 : Hid (Below w.heap.size w w3) := hid (HB1.out.trans (HB13.out.mono HB1.out.size))
  clear hmv hs3 HB2 HB13
  go_wp2_with fail
  refine HEQ.out.mono ?_
  clear HEQ
  rintro e w4 ⟨rfl, hb⟩
  have HB4 : Hid (Below w.heap.size w w4) := hid (HB3.out.trans (hb.mono HB3.out.size))
  clear hb HB3
  by_cases hq : (ls.mergeSort fun x y => decide (x ≤ y)) = zsN F
  · have hd : decide ((ls.mergeSort fun x y => decide (x ≤ y)) = zsN F) = true := decide_eq_true hq
    rw [hd]
    obtain ⟨fs, hfe, hff⟩ := HIS.out.2 hq
    have HFE := hid hfe
    have HFF := hid hff
    have HIN1 := hid (HIN.out w4 HB4.out fs hfe hff)
    have HNO : Hid (isFsI zs ls) := hid ⟨fs, hfe, hff⟩
    clear hq hd hfe hff HIN
    go_wp2_with fail
    refine HIN1.out.mono ?_
    clear HIN1
    rintro e w5 ⟨u5, rfl, hr, hb⟩
    have HB5 : Hid (Below w.heap.size w w5) := hid (HB4.out.trans (hb.mono HB4.out.size))
    have HR := hid ((So.ownedN hr).mono (ok' := fun g => w.heap.size ≤ g) fun b hb _ => Nat.le_trans HB4.out.size hb)
    clear hr hb
    go_wp2_with fail
    go_ret2
    refine ⟨fun gs hg _ => ⟨_, rfl, ?_⟩, fun h => absurd HNO.out h, HB5.out⟩
    have e2 : gs = fs := zsN_inj (hg.symm.trans HFE.out)
    rw [e2]
    exact HR.out
  · have hd : decide ((ls.mergeSort fun x y => decide (x ≤ y)) = zsN F) = false := decide_eq_false hq
    rw [hd]
    have HNO : Hid (¬ isFsI zs ls) := hid fun h => hq (HIS.out.1 h)
    clear hq hd HIN HIS
    go_wp2_with fail
    go_ret2
    exact ⟨fun fs h1 h2 => absurd ⟨fs, h1, h2⟩ HNO.out, fun _ => ⟨_, rfl⟩, HB4.out⟩
end Go.Proofs.Ytmllpednaibeeaa
namespace Go.Inc
open Go.RowKit Go.Maps
section
variable {P : Program} (w : World) {ops : Array Oper} {rest : List Oper} {o : Oper} {a : Act} {Q : Exit → Act → World → Prop}
/-- 'v, ok := m[k]'. -/
theorem wpList_look2 (hg : o.guard = none) (m x : Operand) (t : TypeId) (hop : o.op = Op.lookup t m x true) (k e : TypeId) (hk : P.underlying k = some (.int .i64)) (ht : P.underlying t = some (.map k e)) (z : Value) (hz : (P.info? e).bind (·.zero) = some z)
    (b n : Nat) (f : Int → Option Value) (hm : a.eval m = .map (some b)) (hown : Mp P k w b n f) (y : Int) (hx : a.eval x = .int .i64 y) (hw : -9223372036854775808 ≤ y ∧ y ≤ 9223372036854775807) (u : Value) (ok : Bool) (hu : u = (f y).getD z) (hok : ok = (f y).isSome)
    (hK : wpList P ops Q rest (a.put o.dst (.tuple #[u, .bool ok])) w) : wpList P ops Q (o :: rest) a w := by
  obtain ⟨D, hD, hs⟩ := hown
  have hz' : (zeroValue e).run P w = .ok z w := by
    obtain ⟨i, hi, hz⟩ := Option.bind_eq_some_iff.1 hz
    simp [zeroValue, typeInfo, hi, hz]
  refine wpList_lookup_own_ok w hg m x t hop k e (int_keyed hk) ht heldElem hz' (.held z) [] rfl b n D hm hD _ _ hx (keyOf_int_mk hk (a := y) (Go.WalkArith.wf_i64 hw)) fun v ps hv => ?_
  rw [hs.at] at hv
  unfold heldElem at hv
  simp only [Option.some.injEq, Prod.mk.injEq, DataW.held.injEq] at hv
  obtain ⟨rfl, -⟩ := hv
  have hh : Maps.has D (.int .i64 y) = (f y).isSome := by
    cases hf : f y with
    | none => exact (hs y).2 hf
    | some v => exact ((hs y).1 v hf).1
  rw [hh, ← hu, ← hok]
  exact hK
end
/-- A piece's slice. -/
def pcS (x : List Int) (tb tq a : Nat) : Value := .slice (some ⟨tb, tq + a, none⟩) (pceT x a).length (pceT x a).length
/-- The first k pieces, by place. -/
def pcM (x : List Int) (tb tq : Nat) : Nat → Int → Option Value
  | 0 => noKeys
  | k + 1 => put (pcM x tb tq k) (((fsT x x.length).getD k 0 : Nat) : Int) (.agg #[.int .i64 (k : Int), pcS x tb tq ((fsT x x.length).getD k 0)])
theorem pcM_at {x : List Int} {tb tq : Nat} : ∀ {k j : Nat}, k ≤ (fsT x x.length).length → j < k → pcM x tb tq k (((fsT x x.length).getD j 0 : Nat) : Int) = some (.agg #[.int .i64 (j : Int), pcS x tb tq ((fsT x x.length).getD j 0)])
  | 0, j, _, h => absurd h (by omega)
  | k + 1, j, hk, h => by
    show (if _ then _ else _) = _
    by_cases e : j = k
    · subst e; rw [if_pos rfl]
    · have h1 := rise_getD (inF_rise (x := x) x.length) (show j < k by omega) (by omega)
      rw [if_neg (by omega)]
      exact pcM_at (by omega) (by omega)
theorem pcM_none {x : List Int} {tb tq : Nat} {z : Nat} (hz : z ∉ fsT x x.length) : ∀ {k : Nat}, k ≤ (fsT x x.length).length → pcM x tb tq k (z : Int) = none
  | 0, _ => rfl
  | k + 1, hk => by
    show (if _ then _ else _) = _
    rw [if_neg (fun e => hz (by
      have h1 : z = (fsT x x.length).getD k 0 := by omega
      rw [h1]
      exact getD_inN (by omega)))]
    exact pcM_none hz (by omega)
theorem run_makeMapN {P : Program} (t k e : TypeId) (ht : P.underlying t = some (.map k e)) (n : Int) (w : World) : (Instr.makeMap t (some (.int .i64 n))).run P w = .ok (.map (some w.heap.size)) (w.alloc (.map #[] 0)) := by
  simp [Instr.makeMap, Sem.run_bind, run_underlying ht, asInt, asIntOf, Result.andThen]
end Go.Inc
namespace Go.Proofs.Ytmllpednaibeeaa
open Go.RowKit Go.Inc
set_option maxRecDepth 100000 in
set_option maxHeartbeats 4000000 in
theorem pieces_any (ok' : Nat → Prop) (w : World) (tb tq c d : Nat) (b : Option Addr) (zs : List Int) (hcn : zs.length ≤ c ∧ c ≤ maxLen) (hf : Si ok' w b (zsN (fsT zs zs.length))) (hl : zs.length ≤ 65536) (hck : ckT zs = 0) :
    Calls Try.prog 67 #[.slice (some ⟨tb, tq, none⟩) zs.length c, .slice b (fsT zs zs.length).length d] w fun e w' => ∃ M, e = .returned (.map (some M)) ∧ w.heap.size ≤ M ∧ Mp Try.prog 3 w' M 65536 (pcM zs tb tq (fsT zs zs.length).length) ∧ Below w.heap.size w w' := by
  have hI := InT.of hck
  have HPC := hid (fun k hk => pce_at hI (k := k) hk)
  have hml := fs_half (x := zs)
  have HF := hid hf
  obtain ⟨F, hF⟩ : ∃ F, F = fsT zs zs.length := ⟨_, rfl⟩
  have HFE := hid hF
  obtain ⟨m, hm⟩ : ∃ m, m = F.length := ⟨_, rfl⟩
  have HM := hid hm
  obtain ⟨n, hn⟩ : ∃ n, n = zs.length := ⟨_, rfl⟩
  have HN := hid hn
  rw [← hF] at HF HPC hml
  rw [← hF, ← hm, ← hn]
  rw [← hn] at HPC hml hcn hl
  rw [← hm] at HPC hml
  have hmb : (m : Int) ≤ 65536 := by omega
  have hnb : (n : Int) ≤ 65536 := by omega
  have hc1 : (n : Int) ≤ c := by omega
  have hc2 : (c : Int) ≤ 9223372036854775807 := by have := hcn.2; unfold maxLen at this; omega
  have HST : Hid (∀ k, pcM zs tb tq (k + 1) = put (pcM zs tb tq k) ((F.getD k 0 : Nat) : Int) (.agg #[.int .i64 (k : Int), pcS zs tb tq (F.getD k 0)])) := hid fun k => by rw [hF]; rfl
  obtain ⟨M, hM⟩ : ∃ M, M = w.heap.size := ⟨_, rfl⟩
  obtain ⟨w1, hw1⟩ : ∃ w1, w1 = w.alloc (.map #[] 0) := ⟨_, rfl⟩
  have HMM : Hid (Mp Try.prog 3 w1 M 0 (pcM zs tb tq 0)) := hid (by rw [hw1, hM]; exact Mp.made w Try.prog 3)
  have HB1 : Hid (Below w.heap.size w w1) := hid (by rw [hw1]; exact allocBelow w _)
  have hmm : (Instr.makeMap 80 (some (.int .i64 (m : Int)))).run Try.prog w = .ok (.map (some M)) w1 := by rw [hw1, hM]; exact run_makeMapN _ _ _ Try.underlying80 _ _
  have HMW : Hid (M = w.heap.size) := hid hM
  clear hf hF hm hn hck hI hM hw1 hcn hl
  go_enter Try.func67, Try.ntmps67
  go_wp2_with fail
  go_loopw [14] (fun i wr => ∃ t : Nat, t ≤ m ∧ i = .int .i64 (t : Int) ∧ Mp Try.prog 3 wr M t (pcM zs tb tq t) ∧ Below w.heap.size w wr) (fun i _ => m - (intOf i).toNat)
  case atStart => exact ⟨0, Nat.zero_le _, rfl, HMM.out, HB1.out⟩
  case round =>
    clear hmm HMM HB1
    obtain ⟨t, ht, rfl, hmp, hb⟩ := hrel
    have HMP := hid hmp
    have HB := hid hb
    clear hmp hb
    by_cases hlt : t < m
    · have hti : (t < m) = True := eq_true hlt
      have htb : (t : Int) < (m : Int) := by omega
      have HT := hid hlt
      obtain ⟨b1, o1, rfl, h1⟩ := siCell (HF.out.below HB.out) (k := t) (by rw [zsN_len, ← HM.out]; exact hlt)
      rw [zsN_get] at h1
      obtain ⟨L, hL1, hL2, hL3, hL4, hL5, -⟩ := HPC.out t hlt
      obtain ⟨a, ha⟩ : ∃ a, a = F.getD t 0 := ⟨_, rfl⟩
      rw [← ha] at h1 hL1 hL2 hL4 hL5
      have HST1 := hid (HST.out t)
      rw [← ha] at HST1
      have hpcs : pcS zs tb tq a = .slice (some ⟨tb, tq + a, none⟩) L L := by unfold pcS; rw [hL2]
      rw [hpcs] at HST1
      obtain ⟨e, he⟩ : ∃ e, e = a + L := ⟨_, rfl⟩
      have hea : (a : Int) ≤ (e : Int) := by omega
      have hea2 : (e = a) = False := eq_false (by omega)
      have hen : (e : Int) ≤ (n : Int) := by omega
      have hel : e - a = L := by omega
      have hel2 : (e : Int) - (a : Int) = (L : Int) := by omega
      have hec : (e : Int) ≤ (c : Int) := by omega
      have HAB : Hid (-9223372036854775808 ≤ (a : Int) ∧ (a : Int) ≤ 9223372036854775807) := hid (by omega)
      by_cases h2 : t + 1 < m
      · have h2i : ((t : Int) + 1 < (m : Int)) = True := eq_true (by omega)
        obtain ⟨b2, o2, e2, h3⟩ := siCell (HF.out.below HB.out) (k := t + 1) (by rw [zsN_len, ← HM.out]; exact h2)
        cases e2
        rw [zsN_get] at h3
        obtain ⟨a2, ha2⟩ : ∃ a2, a2 = F.getD (t + 1) 0 := ⟨_, rfl⟩
        have h4 := hL4 h2
        rw [← ha2] at h3 h4
        have h5 : (a2 : Int) + 1 = (e : Int) := by omega
        obtain ⟨t1, ht1⟩ : ∃ t1, t1 = t + 1 := ⟨_, rfl⟩
        have ht2 : (t : Int) + 1 = (t1 : Int) := by omega
        have ht3 : (t1 < m) = True := eq_true (by omega)
        rw [← ht1] at h3
        have ht4 : (t1 : Int) < (m : Int) := by omega
        clear hlt hL1 hL2 hL3 hL4 hL5 ha he hpcs h2 ha2 h4 ht1 h2i
        go_wp2_with (at_mapUpdate; refine wpList_put _ rfl _ _ _ 80 rfl 3 83 Try.underlying3 Try.underlying80 M t _ rfl HMP.out (by unfold maxLen; omega) (a : Int) rfl HAB.out (.agg #[.int .i64 (t : Int), .slice (some ⟨tb, tq + a, none⟩) L L]) rfl ?_; intro w3 hm3 hg3)
        have HM3 : Hid (Mp Try.prog 3 w3 M (t + 1) (pcM zs tb tq (t + 1))) := hid (by rw [HST1.out]; exact hm3)
        have HB3 : Hid (Below w.heap.size w w3) := hid (below_grown HB.out hg3 (by rw [HMW.out]; exact Nat.le_refl _) HB.out.size)
        clear hm3 hg3 HMP HB
        go_wp2_with fail
        go_roundw
        case rel => exact ⟨t + 1, HT.out, by go_num, HM3.out, HB3.out⟩
        case measure => simp [intOf]; have := HT.out; omega
      · have h2i : ((t : Int) + 1 < (m : Int)) = False := eq_false (by omega)
        have h4 := hL5 h2
        have h5 : e = n := by omega
        obtain ⟨t1, ht1⟩ : ∃ t1, t1 = t + 1 := ⟨_, rfl⟩
        have ht2 : (t : Int) + 1 = (t1 : Int) := by omega
        have ht3 : (t1 < m) = False := eq_false (by omega)
        subst h5
        clear hlt hL1 hL2 hL3 hL4 hL5 ha he hpcs h2 h4 ht1 h2i
        go_wp2_with (at_mapUpdate; refine wpList_put _ rfl _ _ _ 80 rfl 3 83 Try.underlying3 Try.underlying80 M t _ rfl HMP.out (by unfold maxLen; omega) (a : Int) rfl HAB.out (.agg #[.int .i64 (t : Int), .slice (some ⟨tb, tq + a, none⟩) L L]) rfl ?_; intro w3 hm3 hg3)
        have HM3 : Hid (Mp Try.prog 3 w3 M (t + 1) (pcM zs tb tq (t + 1))) := hid (by rw [HST1.out]; exact hm3)
        have HB3 : Hid (Below w.heap.size w w3) := hid (below_grown HB.out hg3 (by rw [HMW.out]; exact Nat.le_refl _) HB.out.size)
        clear hm3 hg3 HMP HB
        go_wp2_with fail
        go_roundw
        case rel => exact ⟨t + 1, HT.out, by go_num, HM3.out, HB3.out⟩
        case measure => simp [intOf]; have := HT.out; omega
    · have hti : (t < m) = False := eq_false hlt
      obtain rfl : t = m := by omega
      have HR : Hid (Mp Try.prog 3 wr M 65536 (pcM zs tb tq t)) := hid (HMP.out.mono (by omega))
      clear hlt
      go_wp2_with fail
      go_ret
      exact ⟨M, rfl, by rw [HMW.out]; exact Nat.le_refl _, HR.out, HB.out⟩
end Go.Proofs.Ytmllpednaibeeaa
namespace Go.Inc
open Go.RowKit
/-- All places, in some order. -/
structure AllP (x : List Int) (l : List Nat) : Prop where
  nodup : (gsT x l).Nodup
  mem : ∀ j, j ∈ gsT x l ↔ j ∈ fsT x x.length
theorem ByP.allP {x : List Int} {l : List Nat} (h : ByP x l) : AllP x l := ⟨gs_nodup h, fun _ => gs_mem h⟩
/-- What stands behind r named first Ss. -/
structure NmA (x : List Int) (l : List Nat) (W : List Nat) (N : Nat) (r : Nat) : Prop where
  len : W.length = (fsT x x.length).length
  at_ : ∀ t, t < r → W.getD ((fsT x x.length).idxOf ((gsT x l).getD t 0)) 0 = chg x (gsT x l) t
  num : N = if r = 0 then 0 else chg x (gsT x l) (r - 1) + 1
theorem NmA.zero (x : List Int) (l : List Nat) : NmA x l (List.replicate (fsT x x.length).length 0) 0 0 :=
  ⟨List.length_replicate, fun t h => absurd h (by omega), rfl⟩
theorem NmA.step {x : List Int} {l : List Nat} (hl : AllP x l) {W : List Nat} {N : Nat} {r k : Nat} (h : NmA x l W N r) (hk : k < (fsT x x.length).length) (hr : r < (gsT x l).length) (hg : (gsT x l).getD r 0 = (fsT x x.length).getD k 0) :
    NmA x l (W.set k (chg x (gsT x l) r)) (chg x (gsT x l) r + 1) (r + 1) := by
  have hi : (fsT x x.length).idxOf ((gsT x l).getD r 0) = k := by rw [hg]; exact idx_getD (fs_nodup x) hk
  refine ⟨by rw [List.length_set]; exact h.len, fun t ht => ?_, by rw [if_neg (by omega), Nat.add_sub_cancel]⟩
  rw [List.getD_eq_getElem?_getD, List.getElem?_set]
  by_cases e : t = r
  · subst e
    rw [hi, if_pos rfl, if_pos (by rw [h.len]; exact hk)]; rfl
  · have hne : k ≠ (fsT x x.length).idxOf ((gsT x l).getD t 0) := fun e2 => by
      have h1 := (hl.mem _).1 (getD_inN (show t < (gsT x l).length by omega))
      have h2 := (idx_at h1).2
      rw [← e2, ← hg] at h2
      have h3 := idx_getD hl.nodup (show t < (gsT x l).length by omega)
      rw [← h2, idx_getD hl.nodup hr] at h3
      exact e h3.symm
    rw [if_neg hne, ← List.getD_eq_getElem?_getD]
    exact h.at_ t (by omega)
theorem NmA.done {x : List Int} {l : List Nat} (hl : AllP x l) {W : List Nat} {N : Nat} (h : NmA x l W N (gsT x l).length) : W = nmT x l ∧ N = ncT x l := by
  constructor
  · apply List.ext_getElem (by rw [h.len, nmT_len])
    intro i h1 h2
    have h3 : i < (fsT x x.length).length := by rw [← h.len]; exact h1
    have h4 := idx_at ((hl.mem _).2 (getD_inN h3))
    have h5 := h.at_ _ h4.1
    rw [h4.2, idx_getD (fs_nodup x) h3, ← nmT_get h3] at h5
    rw [List.getD_eq_getElem?_getD, List.getD_eq_getElem?_getD, List.getElem?_eq_getElem h1, List.getElem?_eq_getElem h2] at h5
    exact h5
  · rw [h.num]
    unfold ncT
    by_cases e : gsT x l = []
    · rw [e]; rfl
    · rw [if_neg (by rw [List.length_eq_zero_iff]; exact e), if_neg e]
/-- The piece ahead. -/
def ahV (x : List Int) (tb tq : Nat) (g : List Nat) (r : Nat) : Value := if r = 0 then .slice none 0 0 else pcS x tb tq (g.getD (r - 1) 0)
/-- Is this one that of the one ahead? -/
def ahB (x : List Int) (g : List Nat) (r : Nat) : Bool := decide (r ≠ 0 ∧ pceT x (g.getD r 0) = pceT x (g.getD (r - 1) 0))
theorem NmA.count {x : List Int} {l W : List Nat} {N r : Nat} (h : NmA x l W N r) : (ahB x (gsT x l) r = true → N = chg x (gsT x l) r + 1) ∧ (ahB x (gsT x l) r = false → N = chg x (gsT x l) r) := by
  have hn := h.num
  unfold ahB
  by_cases e : r = 0
  · subst e
    rw [if_pos rfl] at hn
    exact ⟨fun h => absurd rfl (of_decide_eq_true h).1, fun _ => by rw [hn]; rfl⟩
  · rw [if_neg e] at hn
    have h1 := chg_next x (gsT x l) (show 0 < r by omega)
    by_cases e2 : pceT x ((gsT x l).getD r 0) = pceT x ((gsT x l).getD (r - 1) 0)
    · rw [if_pos e2] at h1
      exact ⟨fun _ => by omega, fun h => absurd ⟨e, e2⟩ (of_decide_eq_false h)⟩
    · rw [if_neg e2] at h1
      exact ⟨fun h => absurd (of_decide_eq_true h).2 e2, fun _ => by omega⟩
/-- A piece's cells. -/
theorem pce_cells {x : List Int} (h : InT x) {tb tq : Nat} {y : World} (ht : ∀ i, i < x.length → y.cell? ⟨tb, tq + i, none⟩ = some (.int .i64 (x.getD i 0))) {a : Nat} (ha : a ∈ fsT x x.length) : Si (fun b => b = tb) y (some ⟨tb, tq + a, none⟩) (pceT x a) ∧ 0 < (pceT x a).length ∧ (pceT x a).length ≤ x.length := by
  obtain ⟨k, hk, rfl⟩ := mem_getD ha
  obtain ⟨L, h1, h2, h3, -, -, h6⟩ := pce_at h hk
  refine ⟨.inr ⟨tb, _, rfl, rfl, fun i hi => ?_⟩, by omega, by omega⟩
  rw [h6 i (by omega), Nat.add_assoc]
  exact ht _ (by omega)
end Go.Inc
namespace Go.Proofs.Ytmllpednaibeeaa
open Go.RowKit Go.Inc
theorem eqAh_any {zs : List Int} (hI : InT zs) (hl : zs.length ≤ 65536) {tb tq : Nat} {y : World} (ht : ∀ i, i < zs.length → y.cell? ⟨tb, tq + i, none⟩ = some (.int .i64 (zs.getD i 0))) {g : List Nat} (hg : ∀ j ∈ g, j ∈ fsT zs zs.length) {r : Nat} (hr : r < g.length) :
    Calls Try.prog 63 #[pcS zs tb tq (g.getD r 0), ahV zs tb tq g r] y fun e w' => e = .returned (.bool (ahB zs g r)) ∧ Below y.heap.size y w' := by
  obtain ⟨h1, h2, h3⟩ := pce_cells hI ht (hg _ (getD_inN hr))
  unfold ahV ahB
  by_cases e : r = 0
  · rw [if_pos e]
    have h := equalI_any _ (fun _ => True) y (some ⟨tb, tq + g.getD r 0, none⟩) none (pceT zs (g.getD r 0)).length 0 (pceT zs (g.getD r 0)) [] h1 (Si.nil _ _ _) (by omega)
    refine Calls.mono h ?_
    rintro e' w' ⟨rfl, hb⟩
    refine ⟨ret_bool ?_, hb⟩
    rw [decide_eq_false (fun h => by rw [h] at h2; simp at h2), decide_eq_false (fun h => h.1 e)]
  · rw [if_neg e]
    obtain ⟨h4, h5, h6⟩ := pce_cells hI ht (hg _ (getD_inN (show r - 1 < g.length by omega)))
    have h := equalI_any _ _ y (some ⟨tb, tq + g.getD r 0, none⟩) (some ⟨tb, tq + g.getD (r - 1) 0, none⟩) (pceT zs (g.getD r 0)).length (pceT zs (g.getD (r - 1) 0)).length (pceT zs (g.getD r 0)) (pceT zs (g.getD (r - 1) 0)) h1 h4 (by omega)
    refine Calls.mono h ?_
    rintro e' w' ⟨rfl, hb⟩
    refine ⟨ret_bool ?_, hb⟩
    exact decide_eq_decide.2 ⟨fun h => ⟨e, h⟩, fun h => h.2⟩
set_option maxRecDepth 100000 in
set_option maxHeartbeats 4000000 in
theorem names_any (ok ok' ok'' : Nat → Prop) (w : World) (v vf vo : Value) (zs : List Int) (l : List Nat) (h : So ok w v zs) (hf : So ok' w vf (zsN (fsT zs zs.length))) (ho : So ok'' w vo (zsN l)) (hl : zs.length ≤ 65536) (hck : ckT zs = 0) (hal : AllP zs l) (hll : l.length = zs.length) (hlt : ∀ j ∈ l, j < zs.length) :
    Calls Try.prog 49 #[v, vf, vo] w fun e w' => ∃ u, e = .returned (.tuple #[u, .int .i64 ((ncT zs l : Nat) : Int)]) ∧ w'.ownsRow w.heap.size 3 1 u (fsT zs zs.length).length (nvals (nmT zs l)) ∧ Below w.heap.size w w' := by
  have hI := InT.of hck
  have HI := hid hI
  have HAL := hid hal
  have HL0 := hid hl
  have hml := fs_half (x := zs)
  have HZ := hid (NmA.zero zs l)
  obtain ⟨a, c, rfl, hs, hlc, hcm, -⟩ := h
  obtain ⟨fa, fc, rfl, hfs, -, -, -⟩ := hf
  obtain ⟨oa, oc, rfl, hos, -, -, -⟩ := ho
  rw [zsN_len, zsN_len]
  obtain ⟨tb, tq, rfl, htx⟩ : ∃ tb tq, a = some ⟨tb, tq, none⟩ ∧ ∀ i, i < zs.length → w.cell? ⟨tb, tq + i, none⟩ = some (.int .i64 (zs.getD i 0)) := by
    rcases hs with h | ⟨tb, tq, h, _, hc⟩
    · have := hI.right.1; rw [h] at this; simp at this
    · exact ⟨tb, tq, h, hc⟩
  have HTX : Hid (∀ y, Below w.heap.size w y → ∀ i, i < zs.length → y.cell? ⟨tb, tq + i, none⟩ = some (.int .i64 (zs.getD i 0))) := hid fun y hy i hi => (hy.cell (cell_lt (htx i hi))).trans (htx i hi)
  have HPI := hid (pieces_any ok' w tb tq c fc fa zs ⟨hlc, hcm⟩ hfs hl hck)
  have HOS := hid hos
  have HRI := hid (fun j hj hm => rn_in (x := zs) (l := l) (j := j) hj hm)
  have HRO := hid (fun j hj hm => rn_out (x := zs) (l := l) (j := j) hj hm)
  have HLT : Hid (∀ j, j < l.length → l.getD j 0 < 65536) := hid fun j hj => by have := hlt _ (getD_inN hj); omega
  obtain ⟨F, hF⟩ : ∃ F, F = fsT zs zs.length := ⟨_, rfl⟩
  have HF := hid hF
  obtain ⟨m, hm⟩ : ∃ m, m = F.length := ⟨_, rfl⟩
  have HM := hid hm
  obtain ⟨L, hL⟩ : ∃ L, L = l.length := ⟨_, rfl⟩
  have HL := hid hL
  rw [← hF, ← hm] at HPI HZ hml
  rw [← hF] at HRI HRO
  rw [← hL] at HRI HRO HLT hll
  rw [← hF, ← hm, ← hL]
  have hmb : (m : Int) ≤ 65536 := by omega
  have hLb : (L : Int) ≤ 65536 := by omega
  obtain ⟨n, hn⟩ : ∃ n, n = zs.length := ⟨_, rfl⟩
  rw [← hn] at HPI ⊢
  obtain ⟨i0, hi, hz0, hz1, hz2⟩ := info_parts infoIntS
  have HINF := hid (And.intro hi (And.intro hz0 (And.intro hz1 hz2)))
  clear hs hfs hos hck hI hal hll hlt htx hlc hcm hF hm hL hn hml hl hi hz0 hz1 hz2
  go_enter Try.func49, Try.ntmps49
  go_wp2_with fail
  refine HPI.out.mono ?_
  clear HPI
  rintro e w1 ⟨M, rfl, hMl, hmp, hb1⟩
  have HB1 := hid hb1
  have HMP := hid hmp
  have HX : Hid (∀ y, Below w1.heap.size w1 y → Below w.heap.size w y) := hid fun y hy => hb1.trans (hy.mono hb1.size)
  clear hb1 hmp hMl
  go_wp2_with (refine wpList_make_full _ rfl _ _ 22 rfl w1.heap.size 3 i0 (.int .i64 0) 1 Try.underlying22 HINF.out.1 HINF.out.2.1 HINF.out.2.2.1 .i64 .i64 _ _ m rfl rfl rfl rfl (by rw [HINF.out.2.2.2]; omega) (by unfold maxLen; omega) (Nat.le_refl _) ?_)
  intro w2 ho2 hg2
  rw [names_zero] at ho2
  obtain ⟨g1, hg1⟩ : ∃ g1, g1 = w1.heap.size := ⟨_, rfl⟩
  have HG1 := hid hg1
  rw [← hg1] at ho2 HX ⊢
  have hbw : Below g1 w1 w2 := ⟨hg2.os, hg2.tape, hg2.output, hg2.size, fun i hi => hg2.block i (by rw [← hg1]; exact hi) (by simp)⟩
  have HO2 := hid ho2
  have HB2 := hid hbw
  have HMB : Hid (∀ y, Below g1 w1 y → Mp Try.prog 3 y M 65536 (pcM zs tb tq m)) := hid fun y hy => HMP.out.below (by rw [← HG1.out]; exact hy)
  clear ho2 hg2 hbw hg1 HMP
  go_wp2_with fail
  go_loopw [10, 11, 24] (fun nn aa jj wr => ∃ (j N : Nat) (W : List Nat), j ≤ L ∧ jj = .int .i64 (j : Int) ∧ nn = .int .i64 (N : Int) ∧ aa = ahV zs tb tq (gsT zs l) (rnT zs l j) ∧ NmA zs l W N (rnT zs l j) ∧ wr.ownsRow g1 3 1 (.slice (some ⟨g1, 0, none⟩) m m) m (nvals W) ∧ Below g1 w1 wr) (fun _ _ jj _ => L - (intOf jj).toNat)
  case atStart => exact ⟨0, 0, _, Nat.zero_le _, rfl, rfl, rfl, HZ.out, HO2.out, HB2.out⟩
  case round =>
    clear HZ HO2 HB2
    obtain ⟨j, N, W, hj, rfl, rfl, rfl, hni, ho, hb⟩ := hrel
    have HNI := hid hni
    have HO := hid ho
    have HB := hid hb
    clear hni ho hb
    by_cases hlt : j < L
    · have hji : (j < L) = True := eq_true hlt
      have HLT2 := hid hlt
      have hjb : (j : Int) < (L : Int) := by omega
      obtain ⟨b1, o1, rfl, h1⟩ := siCell (HOS.out.below (HX.out wr HB.out)) (k := j) (by rw [zsN_len, ← HL.out]; exact hlt)
      rw [zsN_get] at h1
      have hvb := HLT.out j hlt
      have HMPR := hid (HMB.out wr HB.out)
      obtain ⟨v, hv⟩ : ∃ v, v = l.getD j 0 := ⟨_, rfl⟩
      have HV := hid hv
      rw [← hv] at h1 hvb
      have HVB : Hid (-9223372036854775808 ≤ (v : Int) ∧ (v : Int) ≤ 9223372036854775807) := hid (by omega)
      by_cases hvF : v ∈ F
      · obtain ⟨hr1, hr2, hr3⟩ := HRI.out j hlt (by rw [← hv]; exact hvF)
        obtain ⟨k, hkk⟩ : ∃ k, k = F.idxOf v := ⟨_, rfl⟩
        have hk1 := idx_at hvF
        rw [← hkk, ← HM.out] at hk1
        have hpc := pcM_at (x := zs) (tb := tb) (tq := tq) (k := m) (j := k) (by rw [← HF.out, ← HM.out]; exact Nat.le_refl _) hk1.1
        rw [← HF.out, hk1.2] at hpc
        obtain ⟨r, hrr⟩ : ∃ r, r = rnT zs l j := ⟨_, rfl⟩
        have HRR := hid hrr
        rw [← hrr] at HNI hr1 hr2 hr3
        rw [← hrr]
        rw [← hv] at hr2
        have HR1 := hid hr1
        have HEQ : Hid (∀ y, Below g1 w1 y → Calls Try.prog 63 #[pcS zs tb tq v, ahV zs tb tq (gsT zs l) r] y fun e w' => e = .returned (.bool (ahB zs (gsT zs l) r)) ∧ Below y.heap.size y w') := hid fun y hy => by
          have h := eqAh_any HI.out HL0.out (HTX.out y (HX.out y hy)) (g := gsT zs l) (fun j hj => (HAL.out.mem j).1 hj) hr3
          rw [hr2] at h
          exact h
        have hcnt := HNI.out.count
        have hstep := HNI.out.step HAL.out (k := k) (by rw [← HF.out, ← HM.out]; exact hk1.1) hr3 (by rw [hr2, ← HF.out, hk1.2])
        have hah : ahV zs tb tq (gsT zs l) (r + 1) = pcS zs tb tq v := by unfold ahV; rw [if_neg (by omega), Nat.add_sub_cancel, hr2]
        obtain ⟨q, hq⟩ : ∃ q, q = chg zs (gsT zs l) r := ⟨_, rfl⟩
        rw [← hq] at hcnt hstep
        have HSTEP := hid hstep
        have HAH := hid hah
        have hqb : q ≤ r := by rw [hq]; exact chg_le _ _ _
        have hrb : r < 65536 := by
          have h2 : (gsT zs l).length ≤ L := by rw [HL.out]; exact List.length_filter_le _ _
          omega
        have hlen := HNI.out.len
        rw [← HF.out, ← HM.out] at hlen
        have HLEN := hid hlen
        obtain ⟨bq, hbq⟩ : ∃ bq, bq = ahB zs (gsT zs l) r := ⟨_, rfl⟩
        rw [← hbq] at HEQ hcnt
        obtain ⟨S, hS⟩ : ∃ S, S = pcS zs tb tq v := ⟨_, rfl⟩
        rw [← hS] at HEQ HAH hpc
        have hSl : ∃ aS nS cS, S = .slice aS nS cS := by rw [hS]; exact ⟨_, _, _, rfl⟩
        obtain ⟨aS, nS, cS, rfl⟩ := hSl
        obtain ⟨V, hVV⟩ : ∃ V, V = ahV zs tb tq (gsT zs l) r := ⟨_, rfl⟩
        rw [← hVV] at HEQ ⊢
        obtain ⟨w3, hw3⟩ : ∃ w3, w3 = wr.alloc (.cells #[.int .i64 (k : Int), .slice aS nS cS] 83) := ⟨_, rfl⟩
        obtain ⟨pb, hpb⟩ : ∃ pb, pb = wr.heap.size := ⟨_, rfl⟩
        have hb3 : Below wr.heap.size wr w3 := by rw [hw3]; exact allocBelow _ _
        have p0 : w3.cell? ⟨pb, 0, none⟩ = some (.int .i64 (k : Int)) := by rw [hw3, hpb, cell_of_row _ _ _ _ _ _ (heap_alloc_new wr _)]; rfl
        have p1 : w3.cell? ⟨pb, 1, none⟩ = some (.slice aS nS cS) := by rw [hw3, hpb, cell_of_row _ _ _ _ _ _ (heap_alloc_new wr _)]; rfl
        have HB3 : Hid (Below g1 w1 w3) := hid (HB.out.trans (hb3.mono (rowSlot HO.out |> Nat.le_of_lt)))
        have HO3 := hid (own_below16 HO.out hb3)
        have HE3 := hid (HEQ.out w3 HB3.out)
        have HW3 := hid hw3
        have HPB := hid hpb
        have HPG : Hid (g1 < pb) := hid (by rw [hpb]; exact rowSlot HO.out)
        have HLK : Hid (Value.agg #[.int .i64 (k : Int), .slice aS nS cS] = (pcM zs tb tq m (v : Int)).getD (.agg #[.int .i64 0, .slice none 0 0]) ∧ true = (pcM zs tb tq m (v : Int)).isSome) := hid (by rw [hpc]; exact ⟨rfl, rfl⟩)
        have hkb : (k : Int) < (m : Int) := by omega
        have hkN : (k < m) = True := eq_true hk1.1
        have HKM := hid hk1.1
        clear hlt hv hvF hr1 hr2 hr3 hkk hk1 hpc hrr hstep hah hq hlen hbq hS hVV hw3 hpb hb3 HNI HB HO HEQ
        go_wp2_with (at_lookup; refine wpList_look2 _ rfl _ _ 80 rfl 3 83 Try.underlying3 Try.underlying80 (.agg #[.int .i64 0, .slice none 0 0]) (by kernel_rfl) M 65536 _ rfl HMPR.out (v : Int) rfl HVB.out _ true HLK.out.1 HLK.out.2 ?_)
        rw [← HW3.out, ← HPB.out]
        clear HMPR
        go_wp2_with fail
        refine HE3.out.mono ?_
        clear HE3
        rintro e w4 ⟨rfl, hb4⟩
        have p0' := (hb4.cell (cell_lt p0)).trans p0
        have p1' := (hb4.cell (cell_lt p1)).trans p1
        have HB4 : Hid (Below g1 w1 w4) := hid (HB3.out.trans (hb4.mono (Nat.le_of_lt (rowSlot HO3.out))))
        have HO4 := hid (own_below16 HO3.out hb4)
        have hcell : w4.cell? ⟨g1, k, none⟩ = some (.int .i64 ((W.getD k 0 : Nat) : Int)) := by
          have h := HO4.out.cells (g := g1) rfl k _ (nvals_get (by rw [HLEN.out]; exact HKM.out))
          rw [Addr.add_lit] at h
          simpa using h
        have hfr := HO4.out.frozenAt k
        have hst := HO4.out.stored k (.int .i64 (q : Int))
        rw [nvals_set16] at hst
        have p2 : (w4.setCell ⟨g1, k, none⟩ (.int .i64 (q : Int))).cell? ⟨pb, 1, none⟩ = some (.slice aS nS cS) := (mvSet (F := fun b => b = g1) (Mv.refl _ w4) (g := g1) (q := k) rfl (.int .i64 (q : Int))).cell p1' (by have := HPG.out; simp only; omega)
        have HST := hid hst.1
        have HBT := hid (HB4.out.setCell (p := ⟨g1, k, none⟩) (Nat.le_refl _) (.int .i64 (q : Int)))
        generalize ((W.getD k 0 : Nat) : Int) = old at *
        have hqi : (q : Int) ≤ 65536 := by omega
        clear p0 p1 hb4 hst HB3 HO3 HB4 HO4 HLK
        cases bq with
        | true =>
          have hN := hcnt.1 rfl
          subst hN
          have hN1 : ((q + 1 : Nat) : Int) - 1 = (q : Int) := by omega
          obtain ⟨N', hN'⟩ : ∃ N', N' = q + 1 := ⟨_, rfl⟩
          have hN2 : (N' : Int) - 1 = (q : Int) := by omega
          have HNN := hid hN'
          have hNb : (N' : Int) ≤ 65537 := by omega
          rw [← hN'] at hN1 ⊢
          clear hcnt hN'
          go_wp2_with fail
          go_roundw
          case rel => exact ⟨j + 1, q + 1, W.set k q, HLT2.out, by go_num, by rw [HNN.out], by rw [HR1.out, HAH.out], by rw [HR1.out]; exact HSTEP.out, HST.out, HBT.out⟩
          case measure => simp [intOf]; have := HLT2.out; omega
        | false =>
          have hN := hcnt.2 rfl
          subst hN
          have hN2 : (N : Int) + 1 - 1 = (N : Int) := by omega
          clear hcnt
          go_wp2_with fail
          go_roundw
          case rel => exact ⟨j + 1, N + 1, W.set k N, HLT2.out, by go_num, by go_num, by rw [HR1.out, HAH.out], by rw [HR1.out]; exact HSTEP.out, HST.out, HBT.out⟩
          case measure => simp [intOf]; have := HLT2.out; omega
      · have hr1 := HRO.out j hlt (by rw [← hv]; exact hvF)
        have HR1 := hid hr1
        have hpc := pcM_none (x := zs) (tb := tb) (tq := tq) (z := v) (by rw [← HF.out]; exact hvF) (k := m) (by rw [← HF.out, ← HM.out]; exact Nat.le_refl _)
        have HLK : Hid (Value.agg #[.int .i64 0, .slice none 0 0] = (pcM zs tb tq m (v : Int)).getD (.agg #[.int .i64 0, .slice none 0 0]) ∧ false = (pcM zs tb tq m (v : Int)).isSome) := hid (by rw [hpc]; exact ⟨rfl, rfl⟩)
        have hb3 : Below wr.heap.size wr (wr.alloc (.cells #[.int .i64 0, .slice none 0 0] 83)) := allocBelow _ _
        have HB3 := hid (HB.out.trans (hb3.mono (Nat.le_of_lt (rowSlot HO.out))))
        have HO3 := hid (own_below16 HO.out hb3)
        rw [← hr1] at HNI ⊢
        clear hlt hv hvF hr1 hpc hb3 HB HO
        obtain ⟨V, hVV⟩ : ∃ V, V = ahV zs tb tq (gsT zs l) (rnT zs l (j + 1)) := ⟨_, rfl⟩
        rw [← hVV]
        have HVV := hid hVV
        clear hVV
        go_wp2_with (at_lookup; refine wpList_look2 _ rfl _ _ 80 rfl 3 83 Try.underlying3 Try.underlying80 (.agg #[.int .i64 0, .slice none 0 0]) (by kernel_rfl) M 65536 _ rfl HMPR.out (v : Int) rfl HVB.out _ false HLK.out.1 HLK.out.2 ?_)
        clear HMPR
        go_wp2_with fail
        go_roundw
        case rel => exact ⟨j + 1, N, W, HLT2.out, by go_num, rfl, HVV.out, HNI.out, HO3.out, HB3.out⟩
        case measure => simp [intOf]; have := HLT2.out; omega
    · have hti : (j < L) = False := eq_false hlt
      obtain rfl : j = L := by omega
      have hni := HNI.out
      rw [HL.out, rn_all] at hni
      have hd := hni.done HAL.out
      have ho := HO.out
      rw [hd.1] at ho
      have HR : Hid (wr.ownsRow w.heap.size 3 1 (.slice (some ⟨g1, 0, none⟩) m m) m (nvals (nmT zs l))) := hid (own_weaken ho (by rw [HG1.out]; exact HB1.out.size))
      have HNC := hid hd.2
      clear hlt hni hd ho
      go_wp2_with fail
      go_ret2
      exact ⟨_, by rw [HNC.out]; rfl, HR.out, HX.out wr HB.out⟩
set_option maxRecDepth 20000 in
set_option maxHeartbeats 2000000 in
theorem ivReduced (ok : Nat → Prop) (w : World) (v : Value) (zs : List Int) (h : So ok w v zs) (hl : zs.length ≤ 65536) (hk : ckT zs = 0) :
    Calls Try.prog 33 #[v] w fun e w' => ∃ u, e = .returned (.tuple #[u, .int .i64 0]) ∧ So (fun g => w.heap.size ≤ g) w' u (rdT zs) ∧ Below w.heap.size w w' := by
  have hI := InT.of hk
  have HF := hid (suFirsts ok w v zs h hl hk)
  have hby := ind_byP hI (isFs_own zs)
  have HIN : Hid (∀ y vf ok2, Below w.heap.size w y → So ok2 y vf (zsN (fsT zs zs.length)) → Calls Try.prog 50 #[v, vf] y fun e w' => ∃ u, e = .returned u ∧ w'.ownsRow y.heap.size 3 1 u zs.length (nvals (indT zs (fsT zs zs.length))) ∧ Below y.heap.size y w') := hid fun y vf ok2 hy hvf =>
    induced_any ok ok2 y v vf zs _ (h.below hy) hvf hl hk (isFs_own zs)
  have HNM : Hid (∀ y vf vo ok2 ok3, Below w.heap.size w y → So ok2 y vf (zsN (fsT zs zs.length)) → So ok3 y vo (zsN (indT zs (fsT zs zs.length))) → Calls Try.prog 49 #[v, vf, vo] y fun e w' => ∃ u, e = .returned (.tuple #[u, .int .i64 ((ncT zs (indT zs (fsT zs zs.length)) : Nat) : Int)]) ∧ w'.ownsRow y.heap.size 3 1 u (fsT zs zs.length).length (nvals (nmT zs (indT zs (fsT zs zs.length)))) ∧ Below y.heap.size y w') := hid fun y vf vo ok2 ok3 hy hvf hvo =>
    names_any ok ok2 ok3 y v vf vo zs _ (h.below hy) hvf hvo hl hk hby.1.allP hby.2 (fun j hj => (hby.1.all j).1 hj)
  obtain ⟨a, c, rfl, -, -, -, -⟩ := h
  have HRD : Hid (rdT zs = zsN (nmT zs (indT zs (fsT zs zs.length)))) := hid rfl
  obtain ⟨R, hR⟩ : ∃ R, R = nmT zs (indT zs (fsT zs zs.length)) := ⟨_, rfl⟩
  obtain ⟨C, hC⟩ : ∃ C, C = ncT zs (indT zs (fsT zs zs.length)) := ⟨_, rfl⟩
  rw [← hR, ← hC] at HNM
  rw [← hR] at HRD
  obtain ⟨F, hF⟩ : ∃ F, F = fsT zs zs.length := ⟨_, rfl⟩
  rw [← hF] at HF HIN HNM
  generalize zs.length = n at *
  clear hl hk hI hby hR hC hF
  go_enter Try.func33, Try.ntmps33
  go_wp2_with fail
  refine HF.out.mono ?_
  clear HF
  rintro e w1 ⟨u, rfl, hu, hb⟩
  have HB1 := hid hb
  have HU := hid hu
  have HI1 := hid (HIN.out w1 u _ hb hu)
  obtain ⟨fa, fc, rfl, -, -, -, -⟩ := hu
  obtain ⟨m, hm⟩ : ∃ m, m = (zsN F).length := ⟨_, rfl⟩
  rw [← hm] at HU HI1 ⊢
  clear HIN hb hm
  go_wp2_with fail
  refine HI1.out.mono ?_
  clear HI1
  rintro e w2 ⟨u2, rfl, hr2, hb⟩
  have HB2 : Hid (Below w.heap.size w w2) := hid (HB1.out.trans (hb.mono HB1.out.size))
  have HN2 := hid (HNM.out w2 _ u2 _ _ HB2.out (HU.out.below hb) (So.ownedN hr2))
  clear hb HB1 HNM HU hr2
  go_wp2_with fail
  refine HN2.out.mono ?_
  clear HN2
  rintro e w3 ⟨u3, rfl, hr, hb⟩
  have HB3 : Hid (Below w.heap.size w w3) := hid (HB2.out.trans (hb.mono HB2.out.size))
  have HR : Hid (So (fun g => w.heap.size ≤ g) w3 u3 (rdT zs)) := hid (by rw [HRD.out]; exact (So.ownedN hr).mono (ok' := fun g => w.heap.size ≤ g) fun b hb _ => Nat.le_trans HB2.out.size hb)
  clear hr hb
  go_wp2_with fail
  go_ret2
  exact ⟨_, rfl, HR.out, HB3.out⟩
theorem ivReducedE (ok : Nat → Prop) (w : World) (v : Value) (zs : List Int) (h : So ok w v zs) (hl : zs.length ≤ 65536) (hz : ∀ z ∈ zs, i64s z) (hk : ckT zs ≠ 0) :
    Calls Try.prog 33 #[v] w fun e w' => ∃ u, e = .returned (.tuple #[u, .int .i64 ((ckT zs : Nat) : Int)]) ∧ Below w.heap.size w w' := by
  have HC := hid (suFirstsE ok w v zs h hl hz hk)
  obtain ⟨k, hkk⟩ : ∃ k, k = ckT zs := ⟨_, rfl⟩
  rw [← hkk] at HC hk ⊢
  have hk0 : ((k : Int) != 0) = true := by rw [bne_iff_ne]; omega
  clear h hl hz hk hkk
  go_enter Try.func33, Try.ntmps33
  go_wp2_with fail
  refine HC.out.mono ?_
  rintro e w' ⟨u, rfl, hb⟩
  have HB := hid hb
  clear hb HC
  go_wp2_with fail
  go_ret2
  exact ⟨_, rfl, HB.out⟩
end Go.Proofs.Ytmllpednaibeeaa
namespace Go.Proofs.Ytmllpednaibeeaa
open Go.RowKit Go.Inc
end Go.Proofs.Ytmllpednaibeeaa
