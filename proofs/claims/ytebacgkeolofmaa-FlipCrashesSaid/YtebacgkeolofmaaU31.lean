/- CONTRACT: keeps, at most thirty, and the document's. -/
import Derived.Test.YtebacgkeolofmaaU29
import Derived.Lib.MinMax
import Derived.Deep.RegionLaw
namespace Go.Proofs.Ytebacgkeolofmaa
open Go.RowKit Go.Inc

/-- 'append' onto a slice of the call's own, as one step of a region that draws. -/
theorem step_append_own {P : Program} {ops : Array Oper} {o : Oper} {a : Act} {w : World} {K : Act → World → Prop} {Q : Exit → Act → World → Prop} {E : Prop}
    (hg : o.guard = none) (s x : Operand) (t : TypeId) (hop : o.op = Op.call { callee := Callee.builtin Builtin.append, args := #[s, x], argTypes := #[t, t] })
    (base : Nat) (e : TypeId) (i : TypeInfo) (z : Value) (size bytes : Nat) (h1 : P.underlying t = some (.slice e)) (h2 : P.info? e = some i) (h3 : i.zero = some z) (h4 : i.size = size) (h5 : i.bytes = bytes) (h6 : z.cells.size = size) (h7 : 0 < size)
    (v : Value) (n : Nat) (xs : List Value) (hs : a.eval s = v) (hown : w.ownsRow base e size v n xs)
    (ad : Addr) (m c : Nat) (news : List Value) (hx : a.eval x = .slice (some ad) m c) (hn : news.length = m * size) (hc : ∀ j u, news[j]? = some u → w.cell? (ad.add j) = some u) (h1c : ∀ u ∈ news, u.oneCell' = true)
    (b1 : n + m ≤ maxLen) (b2 : (n + m) * bytes ≤ 140737488355328) (b3 : base ≤ w.heap.size)
    (hK : ∀ v' w', w'.ownsRow base e size v' (n + m) (xs ++ news) → w.grownBy w' v.ownBlock → K (a.put o.dst v') w') :
    if Region.wanted o (yielded ops a.tmps) = true then Oper.wp P o a w K Q else E := by
  have hw : Region.wanted o (yielded ops a.tmps) = true := by simp [Region.wanted, hg]
  rw [if_pos hw]
  obtain ⟨v', w', hrun, r1, r2, _⟩ := run_append_own (P := P) w base t o.type e i z size bytes h1 h2 h3 h4 h5 h6 h7 v n xs hown ad m c news hn hc h1c b1 b2 b3
  unfold Oper.wp
  simp [execOp, hop, resolve, invoke, builtin, hs, hx, hrun, Result.andThen]
  exact hK v' w' r1 r2
theorem cell_three_new (w : World) (x y z : Value) (t : TypeId) : ∀ j u, [x, y, z][j]? = some u → (w.alloc (.cells #[x, y, z] t)).cell? ((⟨w.heap.size, 0, none⟩ : Addr).add j) = some u := by
  intro j u hj
  have hlt : j < 3 := (List.getElem?_eq_some_iff.1 hj).1
  rw [Addr.add_lit, cell_of_row _ w.heap.size _ _ _ _ (heap_alloc_new w _)]
  match j, hj, hlt with
  | 0, hj, _ => exact hj
  | 1, hj, _ => exact hj
  | 2, hj, _ => exact hj

theorem infoKeep : (Try.prog.info? 105).map (fun i => (i.zero, i.size, i.bytes)) = some (some (.agg #[.int .i64 0, .int .i64 0, .int .i64 0]), 3, 24) := by kernel_rfl
/-- The cells of keeps. -/
def kcells (ks : List Kp) : List Value := ks.flatMap fun k => [.int .i64 k.page, .int .i64 k.N, .int .i64 k.part]
theorem kcells_len (ks : List Kp) : (kcells ks).length = ks.length * 3 := by
  induction ks with
  | nil => rfl
  | cons k r ih => unfold kcells at ih ⊢; rw [List.flatMap_cons, List.length_append, ih, List.length_cons]; simp; omega
theorem kcells_snoc {ks : List Kp} {j : Nat} {k : Kp} (h : ks[j]? = some k) : kcells (ks.take (j + 1)) = kcells (ks.take j) ++ [.int .i64 k.page, .int .i64 k.N, .int .i64 k.part] := by
  obtain ⟨hj, he⟩ := List.getElem?_eq_some_iff.1 h
  rw [List.take_succ_eq_append_getElem hj, he]
  unfold kcells
  rw [List.flatMap_append]
  rfl
theorem kcells_get {ks : List Kp} {i : Nat} {k : Kp} (h : ks[i]? = some k) : (kcells ks)[i * 3]? = some (.int .i64 k.page) ∧ (kcells ks)[i * 3 + 1]? = some (.int .i64 k.N) ∧ (kcells ks)[i * 3 + 2]? = some (.int .i64 k.part) := by
  induction ks generalizing i with
  | nil => cases h
  | cons a r ih =>
    unfold kcells
    rw [List.flatMap_cons]
    cases i with
    | zero => cases h; exact ⟨rfl, rfl, rfl⟩
    | succ i =>
      have h' : r[i]? = some k := h
      have := ih h'
      unfold kcells at this
      refine ⟨?_, ?_, ?_⟩ <;> (rw [List.getElem?_append_right (by simp; omega)])
      · rw [← this.1]; congr 1; simp; omega
      · rw [← this.2.1]; congr 1; simp; omega
      · rw [← this.2.2]; congr 1; simp; omega
theorem keeps_owned {w : World} {B n : Nat} {v : Value} {ks : List Kp} (h : w.ownsRow B 105 3 v n (kcells ks)) (hwf : ∀ k ∈ ks, k.wf) : ∃ a c, v = .slice a ks.length c ∧ KpS (fun b => B ≤ b) w a ks := by
  have hn : n = ks.length := by have := h.1; rw [kcells_len] at this; omega
  subst hn
  rcases h.2 with ⟨rfl, h0⟩ | ⟨g, cap, cur, rfl, hb, hg, hnc, hm, hcs, ht⟩
  · have := List.eq_nil_of_length_eq_zero h0
    subst this
    exact ⟨none, 0, rfl, hwf, .inl rfl⟩
  · refine ⟨_, cap, rfl, hwf, .inr ⟨g, 0, rfl, hb, fun i k hi => ?_⟩⟩
    obtain ⟨q0, q1, q2⟩ := kcells_get hi
    have c0 := h.cells (g := g) rfl _ _ q0
    have c1 := h.cells (g := g) rfl _ _ q1
    have c2 := h.cells (g := g) rfl _ _ q2
    rw [Addr.add_lit] at c0 c1 c2
    simp only [Nat.zero_add] at c0 c1 c2 ⊢
    exact ⟨c0, c1, c2⟩

set_option maxRecDepth 20000 in
set_option maxHeartbeats 1000000 in
theorem keeps_any (ok : Nat → Prop) (a : Option Addr) (n c : Nat) (kh : List Kp) (w : World) (hk : KpS ok w a kh) (hmin : min (n : Int) 30 = (kh.length : Int)) (hnc : n ≤ c) (hcm : c ≤ maxLen) :
    Calls Try.prog 29 #[.slice a n c] w fun e w' => ∃ a' c', e = .returned (.tuple #[.slice a' kh.length c', .slice a kh.length c]) ∧ KpS (fun b => w.heap.size ≤ b) w' a' kh ∧ Below w.heap.size w w' := by
  obtain ⟨i0, hi, hz0, hz1, hz2⟩ := info_parts infoKeep
  have HI := hid (And.intro hi (And.intro hz0 (And.intro hz1 hz2)))
  have HK := hid hk
  unfold maxLen at hcm
  have hm30 : (kh.length : Int) ≤ 30 := by omega
  obtain ⟨m, hm⟩ : ∃ m, m = kh.length := ⟨_, rfl⟩
  rw [← hm] at hmin hm30 ⊢
  have HM := hid hm
  have hmn : (m : Int) ≤ n ∧ (m : Int) ≤ c ∧ (0 : Int) ≤ m := by omega
  clear hi hz0 hz1 hz2 hk hm
  go_enter Try.func29, Try.ntmps29
  go_wp2_with fail
  go_loopw [4, 5] (fun v i wr => ∃ (j : Nat) (u : Value), u = v ∧ j ≤ m ∧ i = .int .i64 (j : Int) ∧ wr.ownsRow w.heap.size 105 3 u j (kcells (kh.take j)) ∧ Below w.heap.size w wr) (fun _ i _ => m - (intOf i).toNat)
  case atStart => exact ⟨0, _, rfl, Nat.zero_le _, rfl, World.ownsRow_nil _ _ _ _, Below.refl _ _⟩
  case round =>
    obtain ⟨j, u4, rfl, hj, rfl, ho, hb⟩ := hrel
    have HO := hid ho
    have HB := hid hb
    clear ho hb
    by_cases hlt : (j : Int) < m
    · obtain ⟨k, hkj⟩ : ∃ k, kh[j]? = some k := ⟨_, List.getElem?_eq_getElem (by rw [← HM.out]; omega)⟩
      rcases HK.out.2 with h0 | ⟨b, o, rfl, hob, hks⟩
      · have := HM.out; rw [h0] at this; simp at this; omega
      obtain ⟨q0, q1, q2⟩ := hks j k hkj
      have r0 := (HB.out.cell (cell_lt q0)).trans q0
      have r1 := (HB.out.cell (cell_lt q1)).trans q1
      have r2 := (HB.out.cell (cell_lt q2)).trans q2
      have HKJ := hid hkj
      obtain ⟨x, N, part⟩ := k
      simp only at r0 r1 r2
      clear hkj q0 q1 q2 hks hob
      have hj0 : (0 : Int) ≤ j := by omega
      have hjs := hid (kcells_snoc HKJ.out)
      have hb0 : Below w.heap.size w wr := HB.out
      obtain ⟨w1, hw1⟩ : ∃ w1, w1 = (wr.alloc (.cells #[.int .i64 x, .int .i64 N, .int .i64 part] 105)).drew := ⟨_, rfl⟩
      have hbx : Below w.heap.size w w1 := by rw [hw1]; exact (HB.out.alloc HB.out.size _).drew
      have hox : w1.ownsRow w.heap.size 105 3 u4 j (kcells (kh.take j)) := owns_mv HO.out (Mv.of_below (F := fun _ => False) (by rw [hw1]; exact ((Below.refl _ _).alloc (Nat.le_refl _) _).drew)) (fun _ _ h => h)
      have HBX := hid hbx
      have HOX := hid hox
      have HW1 := hid hw1
      clear hbx hox hw1
      go_wp2_with fail
      go_region_law (refine step_append_own rfl (.tmp 17) (.tmp 34) 59 rfl w.heap.size 105 i0 (.agg #[.int .i64 0, .int .i64 0, .int .i64 0]) 3 24 Try.underlying59 HI.out.1 HI.out.2.1 HI.out.2.2.1 HI.out.2.2.2 rfl (by decide) _ j (kcells (kh.take j)) rfl (owns_mv HO.out (Mv.of_below (F := fun _ => False) (by repeat (first | exact Below.refl _ _ | apply Below.drew | refine Below.alloc ?_ (by first | exact Nat.le_refl _ | (simp; done)) _))) (fun _ _ h => h)) ⟨wr.heap.size, 0, none⟩ 1 1 [.int .i64 x, .int .i64 N, .int .i64 part] rfl rfl (cell_three_new _ _ _ _ _) (by simp [Value.oneCell']) (by unfold maxLen; omega) (by omega) (by simp; have := hb0.size; omega) ?_; intro v2 w2 ho2 hg2)
      all_goals
        have hb2 : Below w.heap.size w w2 := below_owned HBX.out HOX.out (Nat.le_refl _) (by rw [HW1.out]; exact hg2)
        rw [← hjs.out] at ho2
        have HB2 := hid hb2
        have HO2 := hid ho2
        clear hb2 ho2 hg2
        go_wp2_with fail
        go_roundw
        case rel => exact ⟨j + 1, _, rfl, by omega, by go_num, HO2.out, HB2.out⟩
        case measure => simp [intOf]; omega
    · have hge : (m : Int) ≤ j := by omega
      have hjm : j = m := by omega
      have hfull : Hid (kh.take j = kh) := hid (by rw [hjm, HM.out]; exact List.take_length)
      have HWF := hid HK.out.1
      clear hlt hjm
      have ho := HO.out
      rw [hfull.out] at ho
      obtain ⟨a', c', rfl, hks⟩ := keeps_owned ho HWF.out
      rw [← HM.out]
      have HKS := hid hks
      clear ho hks HO
      go_wp2_with fail
      go_ret2
      exact ⟨a', c', rfl, HKS.out, HB.out⟩
end Go.Proofs.Ytebacgkeolofmaa
