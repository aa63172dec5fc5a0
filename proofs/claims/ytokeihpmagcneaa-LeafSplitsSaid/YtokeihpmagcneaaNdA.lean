/- ENTRIES IN MEMORY, nodes; the small contracts: key, entry, Place, Right. -/
import Derived.Test.YtokeihpmagcneaaRows
import Derived.Test.YtokeihpmagcneaaNdMath
import Derived.Test.YtokeihpmagcneaaOpenInts
import Derived.Test.YtokeihpmagcneaaGrowIn
import Derived.Lib.MinMax
import Derived.Deep.QuietTactic
import Derived.BigQuiet
import Derived.BigRegion
namespace Go.Inc
open Go.RowKit

def kyv (k : Ky) : Value := .agg #[.int .i64 k.1, .int .i64 k.2]
def etv (e : Et) : Value := .agg #[.int .i64 e.1.1, .int .i64 e.1.2, .int .i64 e.2]
/-- Entries as cells. -/
def ecells : List Et → List Value
  | [] => []
  | e :: r => .int .i64 e.1.1 :: .int .i64 e.1.2 :: .int .i64 e.2 :: ecells r
theorem ecells_app : ∀ a b, ecells (a ++ b) = ecells a ++ ecells b
  | [], _ => rfl
  | x :: r, b => by simp only [List.cons_append, ecells, ecells_app r b]
theorem ecells_len : ∀ l, (ecells l).length = l.length * 3
  | [] => rfl
  | x :: r => by simp only [ecells, List.length_cons, ecells_len r]; omega
theorem ecells_one : ∀ l, ∀ u ∈ ecells l, u.oneCell' = true
  | [], u, h => by cases h
  | x :: r, u, h => by
    simp only [ecells, List.mem_cons] at h
    rcases h with rfl | rfl | rfl | h
    · rfl
    · rfl
    · rfl
    · exact ecells_one r u h
theorem ecells_get : ∀ (l : List Et) (i : Nat), i < l.length → (ecells l)[i * 3]? = some (.int .i64 (l.getD i et0).1.1) ∧ (ecells l)[i * 3 + 1]? = some (.int .i64 (l.getD i et0).1.2) ∧ (ecells l)[i * 3 + 2]? = some (.int .i64 (l.getD i et0).2)
  | [], i, h => by simp at h
  | x :: r, 0, _ => ⟨rfl, rfl, rfl⟩
  | x :: r, i + 1, h => by
    have := ecells_get r i (by simpa using h)
    rw [show (i + 1) * 3 = i * 3 + 1 + 1 + 1 from by omega]
    simp only [ecells, List.getElem?_cons_succ]
    exact this
/-- A slice's address leads to these entries, in a block that is 'ok'. -/
def EtS (ok : Nat → Prop) (w : World) (a : Option Addr) (es : List Et) : Prop :=
  es = [] ∨ ∃ b o, a = some ⟨b, o, none⟩ ∧ ok b ∧ ∀ i, i < es.length → w.cell? ⟨b, o + i * 3, none⟩ = some (.int .i64 (es.getD i et0).1.1) ∧ w.cell? ⟨b, o + i * 3 + 1, none⟩ = some (.int .i64 (es.getD i et0).1.2) ∧ w.cell? ⟨b, o + i * 3 + 2, none⟩ = some (.int .i64 (es.getD i et0).2)
section
variable {ok ok' : Nat → Prop} {w w' : World} {a : Option Addr} {es : List Et}
theorem EtS.nil (ok : Nat → Prop) (w : World) (a : Option Addr) : EtS ok w a [] := .inl rfl
theorem EtS.mono (h : EtS ok w a es) (hk : ∀ b, ok b → b < w.heap.size → ok' b) : EtS ok' w a es := by
  rcases h with h | ⟨b, o, ha, hb, hc⟩
  · exact .inl h
  · by_cases h0 : es = []
    · exact .inl h0
    · exact .inr ⟨b, o, ha, hk b hb (cell_lt (hc 0 (List.length_pos_iff.2 h0)).1), hc⟩
theorem EtS.kept (h : EtS ok w a es) (hb : ∀ b, ok b → b < w.heap.size → w'.heap[b]? = w.heap[b]?) : EtS ok w' a es := by
  rcases h with h | ⟨b, o, rfl, hk, hc⟩
  · exact .inl h
  · by_cases h0 : es = []
    · exact .inl h0
    · have hbb := hb b hk (cell_lt (hc 0 (List.length_pos_iff.2 h0)).1)
      exact .inr ⟨b, o, rfl, hk, fun i hi => ⟨(World.cell?_of_block hbb).trans (hc i hi).1, (World.cell?_of_block hbb).trans (hc i hi).2.1, (World.cell?_of_block hbb).trans (hc i hi).2.2⟩⟩
theorem EtS.below (h : EtS ok w a es) (hb : Below w.heap.size w w') : EtS ok w' a es := h.kept fun b _ hlt => hb.block b hlt
theorem EtS.old (h : EtS ok w a es) : EtS (fun b => b < w.heap.size) w a es := h.mono fun _ _ hl => hl
theorem EtS.cell (h : EtS ok w a es) {i : Nat} (hi : i < es.length) : ∃ b o, a = some ⟨b, o, none⟩ ∧ w.cell? ⟨b, o + i * 3, none⟩ = some (.int .i64 (es.getD i et0).1.1) ∧ w.cell? ⟨b, o + i * 3 + 1, none⟩ = some (.int .i64 (es.getD i et0).1.2) ∧ w.cell? ⟨b, o + i * 3 + 2, none⟩ = some (.int .i64 (es.getD i et0).2) := by
  rcases h with h | ⟨b, o, h, _, hc⟩
  · rw [h] at hi; simp at hi
  · exact ⟨b, o, h, hc i hi⟩
theorem EtS.front (h : EtS ok w a es) (k : Nat) : EtS ok w a (es.take k) := by
  rcases h with rfl | ⟨b, o, rfl, hk, hc⟩
  · left; simp
  · refine .inr ⟨b, o, rfl, hk, fun i hi => ?_⟩
    simp only [List.length_take] at hi
    rw [getD_take (by omega)]
    exact hc i (by omega)
theorem EtS.back (h : EtS ok w a es) (k : Nat) (a' : Option Addr) (ha : k < es.length → a' = a.map fun x => x.add (k * 3)) : EtS ok w a' (es.drop k) := by
  by_cases hk : k < es.length
  · rcases h with rfl | ⟨b, o, rfl, hok, hc⟩
    · simp at hk
    · refine .inr ⟨b, o + k * 3, by rw [ha hk]; simp [Addr.add], hok, fun i hi => ?_⟩
      simp only [List.length_drop] at hi
      rw [getD_drop, show o + k * 3 + i * 3 = o + (k + i) * 3 by omega]
      exact hc (k + i) (by omega)
  · left
    exact List.drop_eq_nil_of_le (by omega)
/-- What a row of the call's own looks like. -/
theorem ownedE {B n : Nat} {v : Value} {e : TypeId} (h : w.ownsRow B e 3 v n (ecells es)) : ∃ a c, v = .slice a es.length c ∧ n = es.length ∧ EtS (fun b => B ≤ b) w a es ∧ es.length ≤ c ∧ c ≤ maxLen ∧ (a = none → c = 0) := by
  have hn : n = es.length := by have := h.1; rw [ecells_len] at this; omega
  subst hn
  rcases h.2 with ⟨rfl, h0⟩ | ⟨g, cap, cur, rfl, hb, hg, hnc, hm, hcs, ht⟩
  · exact ⟨none, 0, by rw [h0], rfl, .inl (List.eq_nil_of_length_eq_zero h0), by omega, Nat.zero_le _, fun _ => rfl⟩
  · refine ⟨_, cap, rfl, rfl, .inr ⟨g, 0, rfl, hb, fun i hi => ?_⟩, hnc, hm, fun h => by cases h⟩
    obtain ⟨g1, g2, g3⟩ := ecells_get es i hi
    have h1 := h.cells (g := g) rfl (i * 3) _ g1
    have h2 := h.cells (g := g) rfl (i * 3 + 1) _ g2
    have h3 := h.cells (g := g) rfl (i * 3 + 2) _ g3
    rw [Addr.add_lit] at h1 h2 h3
    exact ⟨h1, h2, h3⟩
end
theorem ownsWeaken {W : World} {B B' e s n : Nat} {v : Value} {x : List Value} (h : W.ownsRow B e s v n x) (hb : B' ≤ B) : W.ownsRow B' e s v n x :=
  ⟨h.1, h.2.imp id fun ⟨g, cap, cur, h1, h2, r⟩ => ⟨g, cap, cur, h1, Nat.le_trans hb h2, r⟩⟩
theorem rowApart {E T B n s : Nat} {w w' : World} {v : Value} {xs : List Value} {g : Nat} {cs : Array Value} {fz : Nat × Nat} (hne : E ≠ T) (hr : w.ownsRow B E s v n xs) (hg : w.grownBy w' v.ownBlock) (h : w.heap[g]? = some (.cells cs T fz)) : w'.heap[g]? = some (.cells cs T fz) := by
  refine row_grown h hg ?_
  rcases hr.2 with ⟨rfl, _⟩ | ⟨g1, cap, cur, rfl, _, hg1, _⟩
  · intro e; cases e
  · intro e
    have e' : g1 = g := by simpa [Value.ownBlock] using e
    subst e'
    rw [hg1] at h
    simp at h
    exact hne h.2.1
/-- A node in rows of the call's own, whose entries are of type E. -/
def NodeN (E B : Nat) (w : World) (v : Value) (lf : Bool) (es : List Et) : Prop :=
  ∃ r, v = .agg #[.bool lf, r] ∧ w.ownsRow B E 3 r es.length (ecells es)
/-- A node that is handed in. -/
def NodeI (ok : Nat → Prop) (w : World) (v : Value) (lf : Bool) (es : List Et) : Prop :=
  ∃ a c, v = .agg #[.bool lf, .slice a es.length c] ∧ EtS ok w a es ∧ es.length ≤ c ∧ c ≤ maxLen
theorem NodeN.is {E B : Nat} {w : World} {v : Value} {lf : Bool} {es : List Et} (h : NodeN E B w v lf es) : NodeI (fun b => B ≤ b) w v lf es := by
  obtain ⟨r, rfl, hr⟩ := h
  obtain ⟨a, c, rfl, _, h1, h2, h3, _⟩ := ownedE hr
  exact ⟨a, c, rfl, h1, h2, h3⟩
theorem NodeI.below {ok : Nat → Prop} {w w' : World} {v : Value} {lf : Bool} {es : List Et} (h : NodeI ok w v lf es) (hb : Below w.heap.size w w') : NodeI ok w' v lf es := by
  obtain ⟨a, c, h1, h2, h3⟩ := h
  exact ⟨a, c, h1, h2.below hb, h3⟩
theorem NodeI.old {ok : Nat → Prop} {w : World} {v : Value} {lf : Bool} {es : List Et} (h : NodeI ok w v lf es) : NodeI (fun b => b < w.heap.size) w v lf es := by
  obtain ⟨a, c, h1, h2, h3⟩ := h
  exact ⟨a, c, h1, h2.old, h3⟩
theorem NodeN.below {E B : Nat} {w w' : World} {v : Value} {lf : Bool} {es : List Et} (h : NodeN E B w v lf es) (hb : Below w.heap.size w w') : NodeN E B w' v lf es := by
  obtain ⟨r, h1, hr⟩ := h
  exact ⟨r, h1, owns_mv (F := fun _ => False) hr (Mv.of_below hb) fun _ _ => id⟩
theorem NodeN.weaken {E B B' : Nat} {w : World} {v : Value} {lf : Bool} {es : List Et} (h : NodeN E B w v lf es) (hb : B' ≤ B) : NodeN E B' w v lf es := by
  obtain ⟨r, h1, hr⟩ := h
  exact ⟨r, h1, ownsWeaken hr hb⟩
def fitsK (k : Ky) : Prop := (-9223372036854775808 ≤ k.1 ∧ k.1 ≤ 9223372036854775807) ∧ -9223372036854775808 ≤ k.2 ∧ k.2 ≤ 9223372036854775807
def fitsE (e : Et) : Prop := fitsK e.1 ∧ -9223372036854775808 ≤ e.2 ∧ e.2 ≤ 9223372036854775807
theorem ok_fits {e : Et} (h : okE e = true) : fitsE e := by
  have := okE_iff.1 h
  unfold fitsE fitsK
  omega
end Go.Inc
namespace Go.Proofs.Ytokeihpmagcneaa
open Go.RowKit Go.Inc

theorem infoLE : (Try.prog.info? 57).map (fun i => (i.zero, i.size, i.bytes)) = some (some (.agg #[.int .i64 0, .int .i64 0, .int .i64 0]), 3, 24) := by kernel_rfl
theorem infoRE : (Try.prog.info? 54).map (fun i => (i.zero, i.size, i.bytes)) = some (some (.agg #[.int .i64 0, .int .i64 0, .int .i64 0]), 3, 24) := by kernel_rfl
set_option maxRecDepth 20000 in
set_option maxHeartbeats 1000000 in
theorem key_any (s n : Int) (w : World) : Calls Try.prog 21 #[.agg #[.int .i64 s, .int .i64 n]] w fun e w' => e = .returned (.agg #[.int .i64 s, .int .i64 n]) ∧ Below w.heap.size w w' := by
  go_enter Try.func21, Try.ntmps21
  go_wp2_with fail
  exact bodyPost_ret (v := .agg #[.int .i64 s, .int .i64 n]) (results_cell_row rfl _ _ (w.heap.size + 1) 50 _ (0, 0) _ rfl (heap_alloc2_new w _ _) Try.underlying50 rfl (by kernel_rfl)) rfl ⟨rfl, ((Below.refl _ _).alloc (Nat.le_refl _) _).alloc (by simp) _⟩
set_option maxRecDepth 20000 in
set_option maxHeartbeats 1000000 in
theorem place_any (s n : Int) (w : World) (h : 0 ≤ s ∧ s < 16 ∧ 0 ≤ n ∧ n < 65536) : Calls Try.prog 22 #[.agg #[.int .i64 s, .int .i64 n]] w fun e w' => e = .returned (.int .i64 (65536 * s + n)) ∧ Below w.heap.size w w' := by
  go_enter Try.func22, Try.ntmps22
  go_wp2_with fail
  go_ret
  exact ⟨rfl, allocBelow w _⟩
/-- A key as a number, with whatever goes round. -/
def placeW (s n : Int) : Int := wrap64 (wrap64 (65536 * s) + n)
theorem placeW_ok {k : Ky} (h : okK k = true) : placeW k.1 k.2 = plK k := by
  have := okK_iff.1 h
  unfold placeW plK wrap64
  omega
set_option maxRecDepth 20000 in
set_option maxHeartbeats 1000000 in
theorem place_free (s n : Int) (w : World) : Calls Try.prog 22 #[.agg #[.int .i64 s, .int .i64 n]] w fun e w' => e = .returned (.int .i64 (placeW s n)) ∧ Below w.heap.size w w' := by
  go_enter Try.func22, Try.ntmps22
  go_wp2_with fail
  go_ret
  exact ⟨rfl, allocBelow w _⟩
theorem place_ok (k : Ky) (w : World) (h : okK k = true) : Calls Try.prog 22 #[.agg #[.int .i64 k.1, .int .i64 k.2]] w fun e w' => e = .returned (.int .i64 (plK k)) ∧ Below w.heap.size w w' := by
  rw [← placeW_ok h]
  exact place_free k.1 k.2 w
abbrev EqN (x : Value) : World → Value → Prop := fun _ v => v = x
set_option maxRecDepth 20000 in
set_option maxHeartbeats 1000000 in
theorem entry_any (s n p : Int) (w : World) : Calls Try.prog 27 #[.agg #[.int .i64 s, .int .i64 n, .int .i64 p]] w fun e w' => e = .returned (.agg #[.int .i64 s, .int .i64 n, .int .i64 p]) ∧ Below w.heap.size w w' := by
  obtain ⟨g, hg⟩ : ∃ g, g = w.heap.size := ⟨_, rfl⟩
  obtain ⟨w0, hw0⟩ : ∃ w0, w0 = (w.alloc (.cells #[.int .i64 s, .int .i64 n, .int .i64 p] 54)).alloc (.cells #[.int .i64 0, .int .i64 0, .int .i64 0] 57) := ⟨_, rfl⟩
  have HG := hid hg
  have HW0 := hid hw0
  have HB0 : Hid (Below w.heap.size w w0) := hid (by rw [hw0]; exact ((Below.refl _ _).alloc (Nat.le_refl _) _).alloc (by simp) _)
  have HR1 : Hid (w0.heap[g]? = some (.cells #[.int .i64 s, .int .i64 n, .int .i64 p] 54 (0, 0))) := hid (by rw [hw0, hg]; exact heap_alloc2_old w _ _)
  have HR2 : Hid (w0.heap[g + 1]? = some (.cells #[.int .i64 0, .int .i64 0, .int .i64 0] 57 (0, 0))) := hid (by rw [hw0, hg]; exact heap_alloc2_new w _ _)
  have HC : Hid (∀ x, Grew w0.drew x → x.cell? ⟨g, 0, none⟩ = some (.int .i64 s) ∧ x.cell? ⟨g, 1, none⟩ = some (.int .i64 n) ∧ x.cell? ⟨g, 2, none⟩ = some (.int .i64 p)) := hid fun x hx => by
    have hb : Below w0.heap.size w0 x := ⟨hx.os, hx.tape, hx.output, hx.size, hx.block⟩
    have h := row_below HR1.out hb
    exact ⟨by rw [cell_of_row _ _ _ _ _ _ h]; rfl, by rw [cell_of_row _ _ _ _ _ _ h]; rfl, by rw [cell_of_row _ _ _ _ _ _ h]; rfl⟩
  clear hg hw0
  go_enter Try.func27, Try.ntmps27
  go_wp2_with fail
  rw [← HW0.out, ← HG.out]
  refine wp_region_grows 6 [EqN (.pointer (some ⟨g, 0, none⟩)), EqN (.agg #[.int .i64 s, .int .i64 n]), EqN (.agg #[.int .i64 s, .int .i64 n]), EqN (.pointer (some ⟨g, 2, none⟩)), EqN (.int .i64 p), EqN (.agg #[.int .i64 s, .int .i64 n, .int .i64 p])] (by kernel_rfl) (by decide) (by kernel_rfl) ?_ ?_ ?_
  · repeat' (first | exact List.forall_mem_nil _ | refine List.forall_mem_cons.2 ⟨?_, ?_⟩)
    all_goals
      intro w w' v hw h
      first | exact h | exact h
  · simp only [AllLt]
    refine ⟨⟨⟨⟨⟨⟨trivial, ?_⟩, ?_⟩, ?_⟩, ?_⟩, ?_⟩, ?_⟩
    all_goals
      intro o' ho
      simp at ho
      subst ho
      intro ρ w5 hR hL hS hG
      obtain ⟨hl1, hl2, -⟩ := hL
    · refine plainG rfl ?_
      intro bA K Q' hK
      have e1 := hS 1 (by kernel_rfl)
      change ρ (.tmp 1) = _ at e1
      simp only [execOp]
      go_simp
      exact hK _ _ rfl (Grew.refl _)
    · refine plainG rfl ?_
      intro bA K Q' hK
      have e3 := hG 0 3 (by decide) (by kernel_rfl) (by kernel_rfl)
      change ρ (.tmp 3) = _ at e3
      obtain ⟨y0, y1, y2⟩ := HC.out w5 hR
      simp only [execOp]
      go_simp
      exact hK _ _ rfl (Grew.refl _)
    · refine plainG rfl ?_
      intro bA K Q' hK
      have e4 := hG 1 4 (by decide) (by kernel_rfl) (by kernel_rfl)
      change ρ (.tmp 4) = _ at e4
      simp only [execOp]
      go_simp
      refine (key_any s n w5).mono ?_
      rintro r9 w9 ⟨rfl, hb9⟩
      exact hK _ _ rfl hb9
    · refine plainG rfl ?_
      intro bA K Q' hK
      have e1 := hS 1 (by kernel_rfl)
      change ρ (.tmp 1) = _ at e1
      simp only [execOp]
      go_simp
      exact hK _ _ rfl (Grew.refl _)
    · refine plainG rfl ?_
      intro bA K Q' hK
      have e6 := hG 3 6 (by decide) (by kernel_rfl) (by kernel_rfl)
      change ρ (.tmp 6) = _ at e6
      obtain ⟨y0, y1, y2⟩ := HC.out w5 hR
      simp only [execOp]
      go_simp
      exact hK _ _ rfl (Grew.refl _)
    · refine plainG rfl ?_
      intro bA K Q' hK
      have e5 := hG 2 5 (by decide) (by kernel_rfl) (by kernel_rfl)
      have e7 := hG 4 7 (by decide) (by kernel_rfl) (by kernel_rfl)
      change ρ (.tmp 5) = _ at e5
      change ρ (.tmp 7) = _ at e7
      simp only [execOp]
      go_simp
      exact hK _ _ rfl (Grew.refl _)
  · intro v w3 hR hG
    have h5 : v 5 = .agg #[.int .i64 s, .int .i64 n, .int .i64 p] := hG.2
    have hb : Below w0.heap.size w0 w3 := ⟨hR.os, hR.tape, hR.output, hR.size, hR.block⟩
    have HR3 := hid (row_below HR2.out hb)
    have HB3 : Hid (Below w.heap.size w w3) := hid (HB0.out.trans (hb.mono HB0.out.size))
    clear hG hR hb HC
    simp [stG, stU, dstAt, Act.put, h5]
    clear h5
    go_wp2_with (refine wpList_store_own rfl 57 _ _ rfl (g + 1) #[.int .i64 s, .int .i64 n, .int .i64 p] rfl rfl 57 _ HR3.out (by kernel_rfl) rfl (by simp [Value.oneCell']) ?_)
    intro w9 hr9 hg9
    have HB9 : Hid (Below w.heap.size w w9) := hid (HB3.out.grown hg9 HB3.out.size fun k hk => by have := HG.out; cases hk; omega)
    clear hg9 HR3
    go_wp2_with fail
    exact bodyPost_ret (v := .agg #[.int .i64 s, .int .i64 n, .int .i64 p]) (results_cell_row rfl _ _ (g + 1) 57 _ (0, 0) _ rfl hr9 Try.underlying57 rfl (by kernel_rfl)) rfl ⟨rfl, HB9.out⟩
set_option maxRecDepth 20000 in
set_option maxHeartbeats 2000000 in
theorem refRight_any (s n p : Int) (w : World) : Calls Try.prog 29 #[.agg #[.int .i64 s, .int .i64 n, .int .i64 p]] w fun e w' => e = .returned (.bool (okE ((s, n), p))) ∧ Below w.heap.size w w' := by
  obtain ⟨O, hO⟩ : ∃ O, O = okE ((s, n), p) := ⟨_, rfl⟩
  rw [← hO]
  have HO := hid hO
  have hbad : ¬ ((0 ≤ s ∧ s < 16 ∧ 0 ≤ n ∧ n < 65536) ∧ 1 < p ∧ p < 2048) → O = false := fun h => by
    rw [HO.out]; exact Bool.eq_false_iff.2 fun hh => h (okE_iff.1 hh)
  have HBAD := hid hbad
  clear hbad hO
  by_cases h1 : (0 : Int) ≤ s
  · have d1 : decide ((0 : Int) ≤ s) = true := decide_eq_true h1
    by_cases h2 : s < 16
    · have d2 : decide (s < 16) = true := decide_eq_true h2
      by_cases h3 : (0 : Int) ≤ n
      · have d3 : decide ((0 : Int) ≤ n) = true := decide_eq_true h3
        by_cases h4 : n < 65536
        · have d4 : decide (n < 65536) = true := decide_eq_true h4
          by_cases h5 : (1 : Int) < p
          · have d5 : decide ((1 : Int) < p) = true := decide_eq_true h5
            by_cases h6 : p < 2048
            · have d6 : decide (p < 2048) = true := decide_eq_true h6
              have hT : O = true := by rw [HO.out]; exact okE_iff.2 ⟨⟨h1, h2, h3, h4⟩, h5, h6⟩
              subst hT
              clear h1 h2 h3 h4 h5 h6
              go_enter Try.func29, Try.ntmps29
              go_wp2_with fail
              go_ret
              exact ⟨rfl, allocBelow w _⟩
            · have d6 : decide (p < 2048) = false := decide_eq_false h6
              have hF : O = false := HBAD.out fun hh => h6 hh.2.2
              subst hF
              clear h1 h2 h3 h4 h5 h6
              go_enter Try.func29, Try.ntmps29
              go_wp2_with fail
              go_ret
              exact ⟨rfl, allocBelow w _⟩
          · have d5 : decide ((1 : Int) < p) = false := decide_eq_false h5
            have hF : O = false := HBAD.out fun hh => h5 hh.2.1
            subst hF
            clear h1 h2 h3 h4 h5
            go_enter Try.func29, Try.ntmps29
            go_wp2_with fail
            go_ret
            exact ⟨rfl, allocBelow w _⟩
        · have d4 : decide (n < 65536) = false := decide_eq_false h4
          have hF : O = false := HBAD.out fun hh => h4 hh.1.2.2.2
          subst hF
          clear h1 h2 h3 h4
          go_enter Try.func29, Try.ntmps29
          go_wp2_with fail
          go_ret
          exact ⟨rfl, allocBelow w _⟩
      · have d3 : decide ((0 : Int) ≤ n) = false := decide_eq_false h3
        have hF : O = false := HBAD.out fun hh => h3 hh.1.2.2.1
        subst hF
        clear h1 h2 h3
        go_enter Try.func29, Try.ntmps29
        go_wp2_with fail
        go_ret
        exact ⟨rfl, allocBelow w _⟩
    · have d2 : decide (s < 16) = false := decide_eq_false h2
      have hF : O = false := HBAD.out fun hh => h2 hh.1.2.1
      subst hF
      clear h1 h2
      go_enter Try.func29, Try.ntmps29
      go_wp2_with fail
      go_ret
      exact ⟨rfl, allocBelow w _⟩
  · have d1 : decide ((0 : Int) ≤ s) = false := decide_eq_false h1
    have hF : O = false := HBAD.out fun hh => h1 hh.1.1
    subst hF
    clear h1
    go_enter Try.func29, Try.ntmps29
    go_wp2_with fail
    go_ret
    exact ⟨rfl, allocBelow w _⟩
end Go.Proofs.Ytokeihpmagcneaa
