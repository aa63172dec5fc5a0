/- LAWS FOR THE WALK OF 'PackedPlays': rows of integers of the call's own; what an array's blocks are not. -/
import Derived.Test.YtcgapplblhbdlaaPkT
import Derived.Test.YtcgapplblhbdlaaPkOpen
namespace Go.Inc
open Go.RowKit
def ivals (zs : List Int) : List Value := zs.map fun z => Value.int .i64 z
theorem ivals_len (zs : List Int) : (ivals zs).length = zs.length := by simp [ivals]
theorem ivals_one (zs : List Int) : ∀ u ∈ ivals zs, u.oneCell' = true := by
  intro u hu
  obtain ⟨_, _, rfl⟩ := List.mem_map.1 hu
  rfl
theorem ivals_app (a b : List Int) : ivals (a ++ b) = ivals a ++ ivals b := by simp [ivals]
theorem ivals_get {zs : List Int} {i : Nat} (h : i < zs.length) : (ivals zs)[i]? = some (.int .i64 (zs.getD i 0)) := by
  rw [List.getD_eq_getElem?_getD, List.getElem?_eq_getElem h]
  simp [ivals, h]
theorem ivals_set (ls : List Nat) (i n : Nat) : (ivals (nI ls)).set i (.int .i64 (n : Int)) = ivals (nI (ls.set i n)) := by simp [ivals, nI, List.map_set]
theorem nI_app (a b : List Nat) : nI (a ++ b) = nI a ++ nI b := by simp [nI]
theorem Si.cellsI {ok : Nat → Prop} {w : World} {a : Option Addr} {zs : List Int} (h : Si ok w a zs) : ∀ ad, a = some ad → ∀ j u, (ivals zs)[j]? = some u → w.cell? (ad.add j) = some u := by
  intro ad had j u hu
  rcases h with rfl | ⟨b, off, rfl, _, hc⟩
  · simp [ivals] at hu
  · cases had
    have hj : j < zs.length := by
      have := (List.getElem?_eq_some_iff.1 hu).1
      simpa [ivals] using this
    rw [Addr.add_lit, hc j hj]
    rw [ivals_get hj] at hu
    exact hu
theorem Si.some_lenI {ok : Nat → Prop} {w : World} {a : Option Addr} {zs : List Int} (h : Si ok w a zs) : a = none → zs.length = 0 := by
  rintro rfl
  rcases h with rfl | ⟨_, _, h, _⟩
  · rfl
  · cases h
theorem Si.ownedI {w : World} {B e n : Nat} {v : Value} {zs : List Int} (h : w.ownsRow B e 1 v n (ivals zs)) :
    ∃ a c, v = .slice a zs.length c ∧ n = zs.length ∧ zs.length ≤ c ∧ c ≤ maxLen ∧ Si (fun b => v.ownBlock = some b) w a zs := by
  have hn : n = zs.length := by have := h.1; rw [ivals_len] at this; omega
  subst hn
  rcases h.2 with ⟨rfl, h0⟩ | ⟨g, cap, cur, rfl, hb, hg, hnc, hm, hcs, ht⟩
  · exact ⟨none, 0, by rw [h0], rfl, by omega, Nat.zero_le _, .inl (List.eq_nil_of_length_eq_zero h0)⟩
  · refine ⟨_, cap, rfl, rfl, hnc, hm, .inr ⟨g, 0, rfl, rfl, fun i hi => ?_⟩⟩
    have hc := h.cells (g := g) rfl i _ (ivals_get hi)
    rwa [Addr.add_lit] at hc
end Go.Inc
namespace Go.Proofs.Ytcgapplblhbdlaa
open Go.RowKit Go.Inc
/-- A row of the call's own is no block of an array's. -/
theorem own_apart {z : World} {B E s m b n w B' : Nat} {u v : Value} {xs : List Value} {W : List Nat} (hr : z.ownsRow B E s u m xs) (h : PkR z b v w n W B') (h1 : E ≠ 35) (h2 : E ≠ 56) : ∀ i, Own2 b v i → u.ownBlock ≠ some i := fun i hi hu => by
  rcases hr.2 with ⟨rfl, _⟩ | ⟨g, cap, cur, rfl, _, hg, _⟩
  · cases hu
  · have : g = i := by simpa [Value.ownBlock] using hu
    subst this
    rcases hi with rfl | hi
    · have := h.box
      rw [hg] at this
      simp at this
      exact h2 this.2
    · rcases h.row.2 with ⟨rfl, _⟩ | ⟨g', cap', cur', rfl, _, hg', _⟩
      · cases hi
      · have : g' = g := by simpa [Value.ownBlock] using hi
        subst this
        rw [hg] at hg'
        simp at hg'
        exact h1 hg'.2
theorem own_keep {z z' : World} {B E s m b n w B' : Nat} {u v : Value} {xs : List Value} {W : List Nat} (hr : z.ownsRow B E s u m xs) (h : PkR z b v w n W B') (h1 : E ≠ 35) (h2 : E ≠ 56) (hm : Mv (Own2 b v) z z') : z'.ownsRow B E s u m xs :=
  owns_mv hr hm fun i hi hf => own_apart hr h h1 h2 i hf hi
theorem arr_keep {z z' : World} {B E s m b w B' : Nat} {u v : Value} {xs : List Value} {l W : List Nat} (hr : z.ownsRow B E s u m xs) (h : PkAt z b v w l W B') (h1 : E ≠ 35) (h2 : E ≠ 56) (hm : Mv (fun i => u.ownBlock = some i) z z') : PkAt z' b v w l W B' :=
  h.mv hm (fun hf => own_apart hr h.raw h1 h2 b (.inl rfl) hf) fun g hg hf => own_apart hr h.raw h1 h2 g (.inr hg) hf
theorem kind_lt3 (x : Int) : 0 ≤ (IntKind.u64.wrap x).tmod 3 ∧ (IntKind.u64.wrap x).tmod 3 < 3 := by
  have h0 : 0 ≤ IntKind.u64.wrap x := by rw [IntKind.wrap_u64]; omega
  rw [Int.tmod_eq_emod_of_nonneg h0]
  exact ⟨Int.emod_nonneg _ (by omega), Int.emod_lt_of_pos _ (by decide)⟩
/-- What the loop keeps: the array a with its list l; the copy c with the first list, which go their own ways. -/
structure StP (W0 wr : World) (b : Nat) (v lv : Value) (w : Nat) (ls V : List Nat) (bc : Nat) (vc fv : Value) (fs Vc : List Nat) : Prop where
  bel : Below W0.heap.size W0 wr
  arr : PkAt wr b v w ls V W0.heap.size
  row : wr.ownsRow W0.heap.size 3 1 lv ls.length (ivals (nI ls))
  cop : PkAt wr bc vc w fs Vc W0.heap.size
  fst : wr.ownsRow W0.heap.size 3 1 fv fs.length (ivals (nI fs))
  d1 : ∀ i, Own2 b v i → ¬ Own2 bc vc i
  d2 : lv.ownBlock = none ∨ lv.ownBlock ≠ fv.ownBlock
  ge : W0.heap.size ≤ b
section
variable {W0 wr x : World} {b w bc : Nat} {v lv vc fv : Value} {ls V fs Vc : List Nat}
theorem StP.below (h : StP W0 wr b v lv w ls V bc vc fv fs Vc) (hb : Below wr.heap.size wr x) : StP W0 x b v lv w ls V bc vc fv fs Vc :=
  ⟨h.bel.trans (hb.mono h.bel.size), h.arr.below hb, owns_mv (F := fun _ => False) h.row (Mv.of_below hb) fun _ _ => id, h.cop.below hb, owns_mv (F := fun _ => False) h.fst (Mv.of_below hb) fun _ _ => id, h.d1, h.d2, h.ge⟩
theorem StP.own_ge (h : StP W0 wr b v lv w ls V bc vc fv fs Vc) : ∀ i, Own2 b v i → W0.heap.size ≤ i := fun i hi => by
  rcases hi with rfl | hi
  · exact h.ge
  · exact (h.arr.raw.row.lt i hi).1
/-- The array turned. -/
theorem StP.turn {ls' V' : List Nat} {v' : Value} (h : StP W0 wr b v lv w ls V bc vc fv fs Vc) (ha : PkAt x b v' w ls' V' W0.heap.size) (ho : OwnNew wr v v') (hm : Mv (Own2 b v) wr x) :
    Below W0.heap.size W0 x ∧ x.ownsRow W0.heap.size 3 1 lv ls.length (ivals (nI ls)) ∧ PkAt x bc vc w fs Vc W0.heap.size ∧ x.ownsRow W0.heap.size 3 1 fv fs.length (ivals (nI fs)) ∧ (∀ i, Own2 b v' i → ¬ Own2 bc vc i) := by
  refine ⟨h.bel.trans (hm.below h.bel.size h.own_ge), own_keep h.row h.arr.raw (by decide) (by decide) hm, ?_, own_keep h.fst h.arr.raw (by decide) (by decide) hm, fun i hi hc => ?_⟩
  · exact h.cop.mv hm (fun hf => h.d1 bc hf (.inl rfl)) fun g hg hf => h.d1 g hf (.inr hg)
  · rcases hi with rfl | hi
    · exact h.d1 i (.inl rfl) hc
    · rcases ho i hi with h1 | h1
      · exact h.d1 i (.inr h1) hc
      · have : i < wr.heap.size := by
          rcases hc with rfl | hc
          · exact h.cop.raw.blt
          · exact h.cop.raw.glt i hc
        omega
/-- The list turned too. -/
theorem StP.list {ls' V' : List Nat} {v' lv' : Value} {y : World} (h1 : Below W0.heap.size W0 x) (ha : PkAt x b v' w ls' V' W0.heap.size) (hr : x.ownsRow W0.heap.size 3 1 lv ls.length (ivals (nI ls))) (hc : PkAt x bc vc w fs Vc W0.heap.size) (hf : x.ownsRow W0.heap.size 3 1 fv fs.length (ivals (nI fs)))
    (hd : ∀ i, Own2 b v' i → ¬ Own2 bc vc i) (hd2 : lv.ownBlock = none ∨ lv.ownBlock ≠ fv.ownBlock) (hge : W0.heap.size ≤ b) (hm : x.grownBy y lv.ownBlock) (hn : y.ownsRow W0.heap.size 3 1 lv' ls'.length (ivals (nI ls'))) (hnew : lv'.ownBlock = lv.ownBlock ∨ ∀ g, lv'.ownBlock = some g → x.heap.size ≤ g) :
    StP W0 y b v' lv' w ls' V' bc vc fv fs Vc := by
  have hmv : Mv (fun i => lv.ownBlock = some i) x y := Mv.of_grown hm fun g hg _ => hg
  refine ⟨h1.grown hm h1.size fun g hg => (hr.lt g hg).1, arr_keep hr ha (by decide) (by decide) hmv, hn, arr_keep hr hc (by decide) (by decide) hmv, ?_, hd, ?_, hge⟩
  · refine owns_mv hf hmv fun i hi hu => ?_
    rcases hd2 with h | h
    · rw [h] at hu; cases hu
    · exact h (by rw [hi, hu])
  · rcases hnew with h | h
    · rw [h]; exact hd2
    · cases hl : lv'.ownBlock with
      | none => exact .inl rfl
      | some g =>
        refine .inr fun e => ?_
        have h2 := (hf.lt g e.symm).2
        have h3 := h g hl
        omega
end
end Go.Proofs.Ytcgapplblhbdlaa
