/- WHAT THE LAWS' REGIONS THAT MAKE A NODE LEAVE: no walk. -/
import Derived.Test.YtokeihpmagcneaaNdL2
import Derived.Test.YtokeihpmagcneaaGrow4
import Derived.Maps.AppendAt
namespace Go.Inc
open Go.RowKit
/-- A box of no node; a box of a node, right where Pr. -/
def BoxZ (x : World) (v : Value) (T B : Nat) : Prop := ∃ b, v = .pointer (some ⟨b, 0, none⟩) ∧ B ≤ b ∧ x.heap[b]? = some (.cells #[.bool false, .slice none 0 0] T (0, 0))
def BoxN (x : World) (v : Value) (T B : Nat) (Pr : Prop) (lf : Bool) (es : List Et) : Prop := ∃ b l a n c, v = .pointer (some ⟨b, 0, none⟩) ∧ B ≤ b ∧ x.heap[b]? = some (.cells #[.bool l, .slice a n c] T (0, 0)) ∧ (Pr → l = lf ∧ NdOk x a n c es)
/-- A node beside a number; a node. -/
def AnsT (x : World) (v : Value) (F : Int) (Pr : Prop) (lf : Bool) (es : List Et) : Prop := ∃ l a n c, v = .tuple #[.agg #[.bool l, .slice a n c], .int .i64 F] ∧ (Pr → l = lf ∧ NdOk x a n c es)
def AnsV (x : World) (v : Value) (Pr : Prop) (lf : Bool) (es : List Et) : Prop := ∃ l a n c, v = .agg #[.bool l, .slice a n c] ∧ (Pr → l = lf ∧ NdOk x a n c es)
section
variable {x y : World} {v : Value} {T B : Nat} {Pr : Prop} {lf : Bool} {es : List Et} {F : Int}
theorem BoxZ.grew (hg : Grew x y) (h : BoxZ x v T B) : BoxZ y v T B := by
  obtain ⟨b, h1, h2, h3⟩ := h
  exact ⟨b, h1, h2, row_below h3 hg⟩
theorem BoxN.grew (hg : Grew x y) (h : BoxN x v T B Pr lf es) : BoxN y v T B Pr lf es := by
  obtain ⟨b, l, a, n, c, h1, h2, h3, h4⟩ := h
  exact ⟨b, l, a, n, c, h1, h2, row_below h3 hg, fun hp => ⟨(h4 hp).1, (h4 hp).2.below hg⟩⟩
theorem AnsT.grew (hg : Grew x y) (h : AnsT x v F Pr lf es) : AnsT y v F Pr lf es := by
  obtain ⟨l, a, n, c, h1, h4⟩ := h
  exact ⟨l, a, n, c, h1, fun hp => ⟨(h4 hp).1, (h4 hp).2.below hg⟩⟩
theorem AnsV.grew (hg : Grew x y) (h : AnsV x v Pr lf es) : AnsV y v Pr lf es := by
  obtain ⟨l, a, n, c, h1, h4⟩ := h
  exact ⟨l, a, n, c, h1, fun hp => ⟨(h4 hp).1, (h4 hp).2.below hg⟩⟩
end
/-- A store into a box that holds no number leaves nodes as they were. -/
theorem NdOk.set {x : World} {a : Option Addr} {n c : Nat} {es : List Et} (h : NdOk x a n c es) {b : Nat} {f : Bool} {r : Value} {T : TypeId} (hr : x.heap[b]? = some (.cells #[.bool f, r] T (0, 0))) (hn : ∀ z, r ≠ .int .i64 z) (k : Nat) (u : Value) : NdOk (x.setCell ⟨b, k, none⟩ u) a n c es := by
  refine ⟨h.1, ?_, h.2.2⟩
  rcases h.2.1 with h1 | ⟨b', o, h1, h2, h3⟩
  · exact .inl h1
  · by_cases hb : b' = b
    · left
      apply List.eq_nil_of_length_eq_zero
      apply Nat.eq_zero_of_not_pos
      intro hp
      obtain ⟨q1, -, -⟩ := h3 0 hp
      rw [hb, cell_of_row _ _ _ _ _ _ hr] at q1
      rcases (show o + 0 * 3 = 0 ∨ o + 0 * 3 = 1 ∨ 2 ≤ o + 0 * 3 by omega) with e | e | e
      · rw [e] at q1; simp at q1
      · rw [e] at q1; simp at q1; exact hn _ q1
      · obtain ⟨d, e⟩ : ∃ d, o + 0 * 3 = d + 1 + 1 := ⟨o - 2, by omega⟩
        rw [e] at q1; simp at q1
    · refine .inr ⟨b', o, h1, h2, fun i hi => ?_⟩
      have hne : ∀ q, (⟨b, k, none⟩ : Addr) ≠ ⟨b', q, none⟩ := fun q e => hb (by cases e; rfl)
      obtain ⟨q1, q2, q3⟩ := h3 i hi
      exact ⟨(World.cell?_setCell_other _ _ _ _ (hne _)).trans q1, (World.cell?_setCell_other _ _ _ _ (hne _)).trans q2, (World.cell?_setCell_other _ _ _ _ (hne _)).trans q3⟩
theorem NdOk.over {x y : World} {a : Option Addr} {n c : Nat} {es : List Et} (h : NdOk x a n c es) {b : Nat} {f : Bool} {r : Value} {T : TypeId} (hg : x.grownBy y (some b)) (hr : x.heap[b]? = some (.cells #[.bool f, r] T (0, 0))) (hn : ∀ z, r ≠ .int .i64 z) : NdOk y a n c es := by
  have h0 := h.set hr hn 0 (.bool f)
  refine ⟨h.1, ?_, h.2.2⟩
  rcases h.2.1 with h1 | ⟨b', o, h1, h2, h3⟩
  · exact .inl h1
  · by_cases hb : b' = b
    · rcases h0.2.1 with h1 | ⟨b2, o2, h4, -, h5⟩
      · exact .inl h1
      · left
        apply List.eq_nil_of_length_eq_zero
        apply Nat.eq_zero_of_not_pos
        intro hp
        obtain ⟨q1, -, -⟩ := h3 0 hp
        rw [hb, cell_of_row _ _ _ _ _ _ hr] at q1
        rcases (show o + 0 * 3 = 0 ∨ o + 0 * 3 = 1 ∨ 2 ≤ o + 0 * 3 by omega) with e | e | e
        · rw [e] at q1; simp at q1
        · rw [e] at q1; simp at q1; exact hn _ q1
        · obtain ⟨d, e⟩ : ∃ d, o + 0 * 3 = d + 1 + 1 := ⟨o - 2, by omega⟩
          rw [e] at q1; simp at q1
    · refine .inr ⟨b', o, h1, h2, fun i hi => ?_⟩
      obtain ⟨q1, q2, q3⟩ := h3 i hi
      have key : ∀ q, x.heap[b']? = y.heap[b']? → y.cell? ⟨b', q, none⟩ = x.cell? ⟨b', q, none⟩ := fun q e => by simp [World.cell?, e]
      have e := (hg.block b' (cell_lt q1) (by intro e; cases e; exact hb rfl)).symm
      exact ⟨(key _ e).trans q1, (key _ e).trans q2, (key _ e).trans q3⟩
theorem upon_store_own {P : Program} {o : Oper} {w : World} {ρ : Operand → Value} (ty : TypeId) (x y : Operand) (ho : o.op = .store ty x y)
    (g : Nat) (cells : Array Value) (hx : ρ x = .pointer (some ⟨g, 0, none⟩)) (hy : ρ y = .agg cells)
    (t : TypeId) (old : Array Value) (hg : w.heap[g]? = some (.cells old t (0, 0))) (hi : (P.info? ty).map (·.size) = some cells.size)
    (hold : old.size = cells.size) (h1 : cells.all (·.oneCell') = true) {b : Act} {K : Act → World → Prop} {Q : Exit → Act → World → Prop}
    (hk : ∀ w', w'.heap[g]? = some (.cells cells t (0, 0)) → w.grownBy w' (some g) → K (b.put o.dst undef) w') : o.upon P b K Q ((execOp ρ o).run P w) := by
  unfold execOp
  simp only [ho, hx, hy, Instr.storeAt, Instr.sureAddr, Sem.run_bind, Sem.run_pure, Result.andThen_ok, run_storeVar_row w g t ty old cells hg hi hold h1]
  exact hk _ (setRow_heap _ _ _ _ _ _ hg) ⟨rfl, rfl, rfl, by simp, fun k _ hne => setRow_other _ _ _ _ (by rintro rfl; exact hne rfl)⟩
theorem noPair {pq : List (Nat × Nat × Tmp)} {i : Nat} {K : Nat × Nat × Tmp → Prop} (h : (pq.all fun y => y.2.1 != i) = true) : ∀ y ∈ pq, i = y.2.1 → K y := fun y hy e => by
  have := List.all_eq_true.1 h y hy
  simp [← e] at this
/-- Own rows apart. -/
def Ap (u v : Value) : Prop := ∀ b, u.ownBlock = some b → v.ownBlock ≠ some b
theorem Ap.symm {u v : Value} (h : Ap u v) : Ap v u := fun b h1 h2 => h b h2 h1
theorem own_lt {w : World} {B E s n : Nat} {v : Value} {xs : List Value} (h : w.ownsRow B E s v n xs) : ∀ b, v.ownBlock = some b → b < w.heap.size := by
  intro b hb
  rcases h.2 with ⟨rfl, _⟩ | ⟨g1, cap, cur, rfl, _, hg1, _⟩
  · cases hb
  · have e : g1 = b := by simpa [Value.ownBlock] using hb
    subst e
    exact (Array.getElem?_eq_some_iff.1 hg1).1
theorem Ap.grow {u v v' : Value} {N : Nat} (h : Ap u v) (hv : v'.ownBlock = v.ownBlock ∨ v'.ownBlock = some N) (hl : ∀ b, u.ownBlock = some b → b < N) : Ap u v' := by
  intro b hb
  rcases hv with e | e
  · rw [e]; exact h b hb
  · rw [e]
    intro e2
    cases e2
    exact absurd (hl _ hb) (Nat.lt_irrefl _)
theorem Ap.kept {w w' : World} {B E s n : Nat} {u v : Value} {xs : List Value} (h : Ap u v) (hr : w.ownsRow B E s u n xs) (hg : w.grownBy w' v.ownBlock) : w'.ownsRow B E s u n xs := by
  cases hv : v.ownBlock with
  | none =>
    rw [hv] at hg
    cases hu : u.ownBlock with
    | none => exact hr.kept hg (.inl hu)
    | some b => exact hr.kept hg (.inr (by rw [hu]; simp))
  | some b => rw [hv] at hg; exact hr.kept hg (.inr fun e => h b e hv)
end Go.Inc
