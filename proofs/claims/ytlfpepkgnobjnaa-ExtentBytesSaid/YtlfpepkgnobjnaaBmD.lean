/- CONTRACTS: Add and Drop on none; New. -/
import Derived.Test.YtlfpepkgnobjnaaBmC
namespace Go.Proofs.Ytlfpepkgnobjnaa
open Go.RowKit Go.Inc

theorem infoU64 : (Try.prog.info? 82).map (fun i => (i.zero, i.size, i.bytes)) = some (some (.int .u64 0), 1, 8) := by kernel_rfl
theorem madeU64 (n : Nat) : (madeCells #[Value.int .u64 0] n).toList = wvals (List.replicate n 0) := by
  apply List.ext_getElem?
  intro i
  by_cases h : i < n
  · simp [madeCells, wvals, h, Nat.mod_one]
  · simp [madeCells, wvals, h]
/-- A set is there, new. -/
def NewSet (W0 : Nat) (w' : World) (v : Value) (m : List Bool) : Prop :=
  ∃ b g c W, v = .pointer (some ⟨b, 0, none⟩) ∧ W0 ≤ b ∧ W0 ≤ g ∧ BmAt w' b g c m.length W ∧ ∀ i, wbit W i = inB m i
theorem NewSet.bm {W0 : Nat} {w' : World} {v : Value} {m : List Bool} (h : NewSet W0 w' v m) : Bm (fun b => W0 ≤ b) w' v m := .inr h
theorem NewSet.below {W0 : Nat} {w' w2 : World} {v : Value} {m : List Bool} (h : NewSet W0 w' v m) (hb : Below w'.heap.size w' w2) : NewSet W0 w2 v m := by
  obtain ⟨b, g, c, W, h1, h2, h3, h4, h5⟩ := h
  exact ⟨b, g, c, W, h1, h2, h3, h4.below hb, h5⟩
theorem mv_is_below {w0 a b : World} {g : Nat} (h : Below w0.heap.size w0 a) (k : Mv (fun i => i = g) a b) (hg : w0.heap.size ≤ g) : Below w0.heap.size w0 b :=
  h.trans (k.below h.size fun i hi => by subst hi; exact hg)
/-- Numbers put into an empty set. -/
def newB (size : Nat) (zs : List Int) : List Bool := (putTo true (List.replicate size false) zs zs.length).1
theorem newB_len (size : Nat) (zs : List Int) : (newB size zs).length = size := by unfold newB; rw [putTo_len, List.length_replicate]
set_option maxRecDepth 20000 in
set_option maxHeartbeats 1000000 in
theorem new_any (ok : Nat → Prop) (size : Nat) (a : Option Addr) (cz : Nat) (zs : List Int) (w : World) (hz : Si ok w a zs) (h1 : (1 : Int) ≤ size) (h2 : (size : Int) ≤ 2048) (hl : (zs.length : Int) ≤ 9223372036854775807) :
    Calls Try.prog 37 #[.int .i64 (size : Int), .slice a zs.length cz] w fun e w' => (∃ v, e = .returned (.tuple #[v, .int .i64 0]) ∧ NewSet w.heap.size w' v (newB size zs)) ∧ Below w.heap.size w w' := by
  obtain ⟨i0, hi, hz0, hz1, hz2⟩ := info_parts infoU64
  have HI := hid (And.intro hi (And.intro hz0 (And.intro hz1 hz2)))
  have HZ : Hid (Si (fun b => b < w.heap.size) w a zs) := hid (by
    rcases hz with h | ⟨b, o, h1, _, hc⟩
    · exact .inl h
    · by_cases h0 : zs = []
      · exact .inl h0
      · exact .inr ⟨b, o, h1, cell_lt (hc 0 (List.length_pos_iff.2 h0)), hc⟩)
  obtain ⟨n, hn⟩ : ∃ n, n = zs.length := ⟨_, rfl⟩
  have HN := hid hn
  rw [← hn] at hl ⊢
  obtain ⟨nw, hnw⟩ : ∃ nw, nw = (size + 63) / 64 := ⟨_, rfl⟩
  have HNW := hid hnw
  have hnw32 : (nw : Int) ≤ 32 := by omega
  have HP : Hid (∀ z, Calls Try.prog 48 #[.int .i64 (size : Int), .int .i64 64] z fun e w' => e = .returned (.int .i64 (nw : Int)) ∧ z = w') := hid fun z => by rw [hnw]; exact parts64_any size z (by omega)
  clear hi hz0 hz1 hz2 hz hn hnw
  go_enter Try.func37, Try.ntmps37
  go_wp2_with fail
  refine (HP.out w).mono ?_
  rintro e w0 ⟨rfl, rfl⟩
  go_wp2_with (refine wpList_make_full _ rfl _ _ 88 rfl w.heap.size 82 i0 (.int .u64 0) 1 Try.underlying88 HI.out.1 HI.out.2.1 HI.out.2.2.1 .i64 .i64 _ _ nw rfl rfl rfl rfl (by rw [HI.out.2.2.2]; omega) (by unfold maxLen; omega) (Nat.le_refl _) ?_)
  intro w1 hown hg
  have HR : Hid (w1.ownsRow w.heap.size 82 1 (.slice (some ⟨w.heap.size, 0, none⟩) nw nw) nw (wvals (List.replicate nw 0))) := hid (by rw [madeU64 nw] at hown; exact hown)
  have HB1 : Hid (Below w.heap.size w w1) := hid ⟨hg.os, hg.tape, hg.output, hg.size, fun i hi => hg.block i hi (by simp)⟩
  clear hown hg HI
  have HLT : Hid (w.heap.size < w1.heap.size) := hid (by
    have hc := HR.out.cells (g := w.heap.size) rfl 0 _ (wvals_get (W := List.replicate nw 0) (by rw [List.length_replicate]; have := HNW.out; omega))
    exact cell_lt hc)
  go_wp2_with fail
  have HROW : Hid ((w1.alloc (.cells #[.int .i64 (size : Int), .slice (some ⟨w.heap.size, 0, none⟩) nw nw] 91)).heap[w1.heap.size]? = some (.cells #[.int .i64 (size : Int), .slice (some ⟨w.heap.size, 0, none⟩) nw nw] 91 (0, 0))) := hid (heap_alloc_new w1 _)
  have HB2 : Hid (Below w1.heap.size w1 (w1.alloc (.cells #[.int .i64 (size : Int), .slice (some ⟨w.heap.size, 0, none⟩) nw nw] 91))) := hid ((Below.refl _ _).alloc (Nat.le_refl _) _)
  generalize w1.alloc (.cells #[.int .i64 (size : Int), .slice (some ⟨w.heap.size, 0, none⟩) nw nw] 91) = w2 at *
  have HAT : Hid (BmAt w2 w1.heap.size w.heap.size nw size (List.replicate nw 0)) := hid ⟨cell_of_row w2 _ 0 _ _ _ HROW.out, by rw [List.length_replicate]; exact cell_of_row w2 _ 1 _ _ _ HROW.out, by
    rw [List.length_replicate]
    exact owns_mv (F := fun _ => False) HR.out (Mv.of_below HB2.out) (fun _ _ => id), by have := HLT.out; omega, by omega, by omega, by rw [List.length_replicate]; exact HNW.out, fun x hx => by rw [List.mem_replicate] at hx; omega⟩
  have HBB : Hid (Below w.heap.size w w2) := hid (HB1.out.trans (HB2.out.mono HB1.out.size))
  have hadd := add_any (fun b => b < w.heap.size) w1.heap.size w.heap.size nw (List.replicate size false) (List.replicate nw 0) a cz zs w2 (by rw [List.length_replicate]; exact HAT.out) (fun i => by rw [wbit_zeros, inB_zeros]) ((HZ.out.below HBB.out)) (fun i hi e => by omega) (by rw [← HN.out]; exact hl)
  rw [← HN.out] at hadd
  refine hadd.mono ?_
  rintro e w3 ⟨rfl, ⟨V, hV, hVb⟩, hmv⟩
  have HV := hid (And.intro hV hVb)
  clear hadd
  have HB3 : Hid (Below w.heap.size w w3) := hid (mv_is_below HBB.out hmv (Nat.le_refl _))
  clear hV hVb hmv HAT HROW HR HB2 HBB
  go_wp2_with fail
  go_ret2
  exact ⟨⟨_, rfl, _, _, _, V, rfl, by have := HLT.out; omega, Nat.le_refl _, by rw [newB_len]; have := HV.out.1; rwa [List.length_replicate] at this, by unfold newB; rw [← HN.out]; exact HV.out.2⟩, HB3.out⟩
end Go.Proofs.Ytlfpepkgnobjnaa

