/- WHAT THE REGIONS OF LeafSplits LEAVE: no walk. -/
import Derived.Test.YtokeihpmagcneaaNdT1
import Derived.Test.YtokeihpmagcneaaGrow5
namespace Go.Inc
open Go.RowKit
/-- A box of a node, whatever it is. -/
def BoxA (x : World) (v : Value) (T B : Nat) : Prop := ∃ b f a n c, v = .pointer (some ⟨b, 0, none⟩) ∧ B ≤ b ∧ x.heap[b]? = some (.cells #[.bool f, .slice a n c] T (0, 0))
theorem BoxA.grew {x y : World} {v : Value} {T B : Nat} (hg : Grew x y) (h : BoxA x v T B) : BoxA y v T B := by
  obtain ⟨b, f, a, n, c, h1, h2, h3⟩ := h
  exact ⟨b, f, a, n, c, h1, h2, row_below h3 hg⟩
theorem BoxA.fresh {x : World} {v : Value} {T B : Nat} (h : BoxA x v T B) : Value.pointer (some ⟨x.heap.size, 0, none⟩) ≠ v := by
  obtain ⟨b, f, a, n, c, rfl, h2, h3⟩ := h
  intro e
  have hl := (Array.getElem?_eq_some_iff.1 h3).1
  cases e
  exact absurd hl (Nat.lt_irrefl _)
theorem heap_grown {x y : World} {b g : Nat} {o : Obj} (h : x.heap[b]? = some o) (hg : x.grownBy y (some g)) (hne : b ≠ g) : y.heap[b]? = some o :=
  (hg.block b (Array.getElem?_eq_some_iff.1 h).1 (by intro e; cases e; exact hne rfl)).trans h
theorem BoxA.over {x y : World} {v : Value} {T B g : Nat} {l : Bool} {a : Option Addr} {n c : Nat} (h : BoxA x v T B) (hg : x.grownBy y (some g)) (hr : y.heap[g]? = some (.cells #[.bool l, .slice a n c] T (0, 0))) : BoxA y v T B := by
  obtain ⟨b, f, a', n', c', h1, h2, h3⟩ := h
  by_cases hb : b = g
  · subst hb
    exact ⟨b, l, a, n, c, h1, h2, hr⟩
  · exact ⟨b, f, a', n', c', h1, h2, heap_grown h3 hg hb⟩
theorem BoxN.over {x y : World} {v : Value} {T B g : Nat} {Pr : Prop} {lf : Bool} {es : List Et} {f : Bool} {a : Option Addr} {n c : Nat} {T' : TypeId} (h : BoxN x v T B Pr lf es) (hg : x.grownBy y (some g)) (hr : x.heap[g]? = some (.cells #[.bool f, .slice a n c] T' (0, 0))) (hne : v ≠ .pointer (some ⟨g, 0, none⟩)) : BoxN y v T B Pr lf es := by
  obtain ⟨b, l, a', n', c', rfl, h2, h3, h4⟩ := h
  have hb : b ≠ g := fun e => hne (by rw [e])
  exact ⟨b, l, a', n', c', rfl, h2, heap_grown h3 hg hb, fun hp => ⟨(h4 hp).1, (h4 hp).2.over hg hr (fun z e => by cases e)⟩⟩
theorem AnsV.over {x y : World} {v : Value} {g : Nat} {Pr : Prop} {lf : Bool} {es : List Et} {f : Bool} {a : Option Addr} {n c : Nat} {T' : TypeId} (h : AnsV x v Pr lf es) (hg : x.grownBy y (some g)) (hr : x.heap[g]? = some (.cells #[.bool f, .slice a n c] T' (0, 0))) : AnsV y v Pr lf es := by
  obtain ⟨l, a', n', c', rfl, h4⟩ := h
  exact ⟨l, a', n', c', rfl, fun hp => ⟨(h4 hp).1, (h4 hp).2.over hg hr (fun z e => by cases e)⟩⟩
theorem EtS.cells {ok : Nat → Prop} {w : World} {es : List Et} {ad : Addr} (h : EtS ok w (some ad) es) : ∀ j u, (ecells es)[j]? = some u → w.cell? (ad.add j) = some u := by
  intro j u hu
  rcases h with rfl | ⟨b, o, hb, _, hc⟩
  · simp [ecells] at hu
  · cases hb
    have hj : j < es.length * 3 := by
      have := (List.getElem?_eq_some_iff.1 hu).1
      rwa [ecells_len] at this
    obtain ⟨i, r, rfl, hr⟩ : ∃ i r, j = i * 3 + r ∧ r < 3 := ⟨j / 3, j % 3, by omega, by omega⟩
    have hi : i < es.length := by omega
    obtain ⟨g1, g2, g3⟩ := ecells_get es i hi
    obtain ⟨q1, q2, q3⟩ := hc i hi
    rw [Addr.add_lit]
    rcases (show r = 0 ∨ r = 1 ∨ r = 2 by omega) with rfl | rfl | rfl
    · rw [Nat.add_zero] at hu ⊢
      rw [g1] at hu; cases hu; exact q1
    · rw [g2] at hu; cases hu; rw [← Nat.add_assoc]; exact q2
    · rw [g3] at hu; cases hu; rw [← Nat.add_assoc]; exact q3
theorem ownBelowB {a b : World} {B E s n : Nat} {v : Value} {xs : List Value} (h : a.ownsRow B E s v n xs) (hg : a.grownBy b v.ownBlock) (hB : B ≤ a.heap.size) : Below B a b := by
  refine ⟨hg.os, hg.tape, hg.output, hg.size, fun k hk => hg.block k (by omega) ?_⟩
  intro e
  have := ownBase h e.symm
  omega
theorem ndv_imp {w : World} {l lf : Bool} {a : Option Addr} {n c : Nat} {es : List Et} (h : NdV w (.agg #[.bool l, .slice a n c]) lf es) : l = lf ∧ NdOk w a n c es := by
  obtain ⟨a', n', c', e, h2⟩ := h
  cases e
  exact ⟨rfl, h2⟩
/-- A box of a node whose entries lie in an own row. -/
def BoxW (x : World) (v : Value) (T E B : Nat) (lf : Bool) (n : Nat) (es : List Et) : Prop := ∃ b r, v = .pointer (some ⟨b, 0, none⟩) ∧ B ≤ b ∧ x.heap[b]? = some (.cells #[.bool lf, r] T (0, 0)) ∧ x.ownsRow B E 3 r n (ecells es)
def OwnW (x : World) (v : Value) (E B : Nat) (n : Nat) (es : List Et) : Prop := x.ownsRow B E 3 v n (ecells es)
def AggW (x : World) (v : Value) (E B : Nat) (lf : Bool) (n : Nat) (es : List Et) : Prop := ∃ r, v = .agg #[.bool lf, r] ∧ x.ownsRow B E 3 r n (ecells es)
theorem ownGrew {w w' : World} {B E s n : Nat} {v : Value} {xs : List Value} (h : w.ownsRow B E s v n xs) (hb : Grew w w') : w'.ownsRow B E s v n xs :=
  owns_mv (F := fun _ => False) h (Mv.of_below hb) fun _ _ => id
theorem BoxW.grew {x y : World} {v : Value} {T E B n : Nat} {lf : Bool} {es : List Et} (hg : Grew x y) (h : BoxW x v T E B lf n es) : BoxW y v T E B lf n es := by
  obtain ⟨b, r, h1, h2, h3, h4⟩ := h
  exact ⟨b, r, h1, h2, row_below h3 hg, ownGrew h4 hg⟩
theorem OwnW.grew {x y : World} {v : Value} {E B n : Nat} {es : List Et} (hg : Grew x y) (h : OwnW x v E B n es) : OwnW y v E B n es := ownGrew h hg
theorem AggW.grew {x y : World} {v : Value} {E B n : Nat} {lf : Bool} {es : List Et} (hg : Grew x y) (h : AggW x v E B lf n es) : AggW y v E B lf n es := by
  obtain ⟨r, h1, h2⟩ := h
  exact ⟨r, h1, ownGrew h2 hg⟩
theorem BoxZ.row {x y : World} {v u : Value} {T B E B' s n : Nat} {xs : List Value} (h : BoxZ x v T B) (hr : x.ownsRow B' E s u n xs) (hg : x.grownBy y u.ownBlock) (hne : E ≠ T) : BoxZ y v T B := by
  obtain ⟨b, h1, h2, h3⟩ := h
  exact ⟨b, h1, h2, rowApart hne hr hg h3⟩
theorem mg_a {lf mf : Bool} {xs ys : List Et} (h : chkN lf xs ≠ 0) : mgE lf xs mf ys = chkN lf xs := if_pos h
theorem mg_b {lf mf : Bool} {xs ys : List Et} (h : chkN lf xs = 0) (h2 : chkN mf ys ≠ 0) : mgE lf xs mf ys = chkN mf ys := by
  unfold mgE
  rw [if_neg (by rw [h]; decide), if_pos h2]
theorem mg_c {lf mf : Bool} {xs ys : List Et} (h : chkN lf xs = 0) (h2 : chkN mf ys = 0) (h3 : lf ≠ mf) : mgE lf xs mf ys = 11 := by
  unfold mgE
  rw [if_neg (by rw [h]; decide), if_neg (by rw [h2]; decide), if_pos h3]
theorem mg_d {lf : Bool} {xs ys : List Et} (h : chkN lf xs = 0) (h2 : chkN lf ys = 0) (h3 : 16 < (xs ++ ys).length) : mgE lf xs lf ys = 6 := by
  unfold mgE
  rw [if_neg (by rw [h]; decide), if_neg (by rw [h2]; decide), if_neg (by simp), if_pos h3]
theorem mg_e {lf : Bool} {xs ys : List Et} (h : chkN lf xs = 0) (h2 : chkN lf ys = 0) (h3 : (xs ++ ys).length ≤ 16) : mgE lf xs lf ys = chkN lf (xs ++ ys) := by
  unfold mgE
  rw [if_neg (by rw [h]; decide), if_neg (by rw [h2]; decide), if_neg (by simp), if_neg (by omega)]
theorem sp_a {lf : Bool} {xs : List Et} (h : chkN lf xs ≠ 0) : spE lf xs = chkN lf xs := if_pos h
theorem sp_b {lf : Bool} {xs : List Et} (h : chkN lf xs = 0) (h2 : xs.length < 2) : spE lf xs = 11 := by
  unfold spE
  rw [if_neg (by rw [h]; decide), if_pos h2]
theorem sp_c {lf : Bool} {xs : List Et} (h : chkN lf xs = 0) (h2 : 2 ≤ xs.length) : spE lf xs = 0 := by
  unfold spE
  rw [if_neg (by rw [h]; decide), if_neg (by omega)]
theorem noMk {pq : List (Nat × Nat × Tmp)} {i : Nat} {K : Nat × Nat × Tmp → Prop} (h : (pq.all fun y => y.1 != i) = true) : ∀ y ∈ pq, i = y.1 → K y := fun y hy e => by
  have := List.all_eq_true.1 h y hy
  simp [← e] at this
/-- A node's entries appended onto an own row. -/
theorem run_append_nd {P : Program} (w : World) {B E : Nat} (t ty : TypeId) (i : TypeInfo) (ht : P.underlying t = some (.slice E)) (hi : P.info? E = some i) (hz : i.zero = some (.agg #[.int .i64 0, .int .i64 0, .int .i64 0])) (hs : i.size = 3) (hb : i.bytes = 24)
    {v : Value} {k : Nat} {xs : List Et} (hown : w.ownsRow B E 3 v k (ecells xs)) {a : Option Addr} {n c : Nat} {ys : List Et} (h : NdOk w a n c ys) (hk : k ≤ 1000) (hB : B ≤ w.heap.size) :
    ∃ v' w', (Builtin.append_ #[t, t] ty #[v, .slice a n c]).run P w = .ok v' w' ∧ w'.ownsRow B E 3 v' (k + n) (ecells (xs ++ ys)) ∧ w.grownBy w' v.ownBlock := by
  obtain ⟨h1, h2, h3, -, -, -⟩ := h
  cases a with
  | none =>
    have hy : ys = [] := by
      rcases h2 with h | ⟨b, o, h, _⟩
      · exact h
      · cases h
    subst hy
    obtain rfl : n = 0 := h1
    exact ⟨v, w, run_append_nil_any t ty i ht hi v k c _ hown, by rw [List.append_nil]; exact hown, grown_refl _ _⟩
  | some ad =>
    obtain ⟨v', w', hr, ho, hg, -⟩ := run_append_own (P := P) w B t ty E i (.agg #[.int .i64 0, .int .i64 0, .int .i64 0]) 3 24 ht hi hz hs hb rfl (by decide) v k (ecells xs) hown ad n c (ecells ys) (by rw [ecells_len, h1]) h2.cells (ecells_one _) (by unfold maxLen; omega) (by omega) hB
    exact ⟨v', w', hr, by rw [ecells_app]; exact ho, hg⟩
end Go.Inc
namespace Go.Proofs.Ytokeihpmagcneaa
open Go.RowKit Go.Inc
theorem mg_d' {lf mf : Bool} {xs ys : List Et} (h : chkN lf xs = 0) (h2 : chkN mf ys = 0) (h0 : lf = mf) (h3 : 16 < (xs ++ ys).length) : mgE lf xs mf ys = 6 := by
  subst h0
  exact mg_d h h2 h3
theorem mg_e' {lf mf : Bool} {xs ys : List Et} (h : chkN lf xs = 0) (h2 : chkN mf ys = 0) (h0 : lf = mf) (h3 : (xs ++ ys).length ≤ 16) : mgE lf xs mf ys = chkN lf (xs ++ ys) := by
  subst h0
  exact mg_e h h2 h3
theorem owned_sl' {w : World} {B E n : Nat} {v : Value} {l : List Et} (h : w.ownsRow B E 3 v n (ecells l)) : ∃ a c, v = .slice a n c ∧ n = l.length := by
  obtain ⟨a, c, e1, e2, -⟩ := ownedE h
  rw [← e2] at e1
  exact ⟨a, c, e1, e2⟩
theorem owned_nd' {w : World} {B E n : Nat} {v : Value} {l : List Et} (h : w.ownsRow B E 3 v n (ecells l)) (hl : n ≤ 1000) (hf : ∀ x ∈ l, fitsE x) : ∃ a c, v = .slice a n c ∧ NdOk w a n c l := by
  obtain ⟨a, c, e1, e2, h1, h2, h3, h4⟩ := ownedE h
  rw [← e2] at e1 h2
  exact ⟨a, c, e1, e2, NdOk.mono h1, hl, hf, ⟨h2, h3⟩, h4⟩

end Go.Proofs.Ytokeihpmagcneaa
