/- CONTRACTS: the node of a body. -/
import Derived.Test.YtokeihpmagcneaaPnF
namespace Go.Inc
open Go.RowKit
/-- A store into a box that holds no number leaves nodes as they were. -/
theorem NdOk.set2 {x : World} {a : Option Addr} {n c : Nat} {es : List Et} (h : NdOk x a n c es) {b : Nat} {f : Bool} {r : Value} {T : TypeId} (hr : x.heap[b]? = some (.cells #[.bool f, r] T (0, 0))) (hn : ∀ z, r ≠ .int .i64 z) (k : Nat) (u : Value) : NdOk (x.setCell ⟨b, k, none⟩ u) a n c es := by
  refine ⟨h.1, ?_, h.2.2⟩
  rcases h.2.1 with h1 | ⟨b', o, h1, h2, h3⟩
  · exact .inl h1
  · by_cases hb : b' = b
    · left
      apply List.eq_nil_of_length_eq_zero
      apply Nat.eq_zero_of_not_pos
      intro hp
      obtain ⟨q1, -, -⟩ := h3 0 hp
      rw [hb, cell_of_row _ _ _ _ _ _ hr] at q1
      rcases (show o + 0 * 3 = 0 ∨ o + 0 * 3 = 1 ∨ 2 ≤ o + 0 * 3 by omega) with e | e | e
      · rw [e] at q1; simp at q1
      · rw [e] at q1; simp at q1; exact hn _ q1
      · obtain ⟨d, e⟩ : ∃ d, o + 0 * 3 = d + 1 + 1 := ⟨o - 2, by omega⟩
        rw [e] at q1; simp at q1
    · refine .inr ⟨b', o, h1, h2, fun i hi => ?_⟩
      have hne : ∀ q, (⟨b, k, none⟩ : Addr) ≠ ⟨b', q, none⟩ := fun q e => hb (by cases e; rfl)
      obtain ⟨q1, q2, q3⟩ := h3 i hi
      exact ⟨(World.cell?_setCell_other _ _ _ _ (hne _)).trans q1, (World.cell?_setCell_other _ _ _ _ (hne _)).trans q2, (World.cell?_setCell_other _ _ _ _ (hne _)).trans q3⟩
theorem NdOk.over2 {x y : World} {a : Option Addr} {n c : Nat} {es : List Et} (h : NdOk x a n c es) {b : Nat} {f : Bool} {r : Value} {T : TypeId} (hg : x.grownBy y (some b)) (hr : x.heap[b]? = some (.cells #[.bool f, r] T (0, 0))) (hn : ∀ z, r ≠ .int .i64 z) : NdOk y a n c es := by
  have h0 := h.set2 hr hn 0 (.bool f)
  refine ⟨h.1, ?_, h.2.2⟩
  rcases h.2.1 with h1 | ⟨b', o, h1, h2, h3⟩
  · exact .inl h1
  · by_cases hb : b' = b
    · rcases h0.2.1 with h1 | ⟨b2, o2, h4, -, h5⟩
      · exact .inl h1
      · left
        apply List.eq_nil_of_length_eq_zero
        apply Nat.eq_zero_of_not_pos
        intro hp
        obtain ⟨q1, -, -⟩ := h3 0 hp
        rw [hb, cell_of_row _ _ _ _ _ _ hr] at q1
        rcases (show o + 0 * 3 = 0 ∨ o + 0 * 3 = 1 ∨ 2 ≤ o + 0 * 3 by omega) with e | e | e
        · rw [e] at q1; simp at q1
        · rw [e] at q1; simp at q1; exact hn _ q1
        · obtain ⟨d, e⟩ : ∃ d, o + 0 * 3 = d + 1 + 1 := ⟨o - 2, by omega⟩
          rw [e] at q1; simp at q1
    · refine .inr ⟨b', o, h1, h2, fun i hi => ?_⟩
      obtain ⟨q1, q2, q3⟩ := h3 i hi
      have key : ∀ q, x.heap[b']? = y.heap[b']? → y.cell? ⟨b', q, none⟩ = x.cell? ⟨b', q, none⟩ := fun q e => by simp [World.cell?, e]
      have e := (hg.block b' (cell_lt q1) (by intro e; cases e; exact hb rfl)).symm
      exact ⟨(key _ e).trans q1, (key _ e).trans q2, (key _ e).trans q3⟩
end Go.Inc
namespace Go.Proofs.Ytokeihpmagcneaa
open Go.RowKit Go.Inc

theorem resND2 (w : World) (g : Nat) (cs : Array Value) (tmps : Array Value) (h2 : tmps.getD 2 undef = .pointer (some ⟨g, 0, none⟩)) (hg : w.heap[g]? = some (.cells cs 27 (0, 0))) (hs : cs.size = 2) :
    (results Try.f15 tmps).run Try.prog w = .ok (.tuple #[.agg cs, tmps.getD 3 undef]) w :=
  res_cell_tmp2 rfl tmps w g 27 cs (0, 0) _ h2 hg Try.underlying27 rfl (by rw [hs]; kernel_rfl)
theorem ndv_none (w : World) : NdV w (.agg #[.bool false, .slice none 0 0]) false [] :=
  ⟨none, 0, 0, rfl, rfl, .inl rfl, by omega, fun e he => (by cases he), ⟨Nat.le_refl _, Nat.zero_le _⟩, fun _ => rfl⟩
set_option maxRecDepth 20000 in
set_option maxHeartbeats 4000000 in
theorem decode_any (ok : Nat → Prop) (a : Option Addr) (n c : Nat) (bs : List Nat) (w : World) (hs : Sl ok w a bs) (hn : n = bs.length) (hc : n ≤ c ∧ c ≤ maxLen) (_ : a = none → c = 0) (hby : Bytes bs) (hl : n ≤ 1000) :
    Calls Try.prog 15 #[.slice a n c] w fun e w' => (∃ v, e = .returned (.tuple #[v, .int .i64 (ndE bs)]) ∧ NdV w' v (ndL bs) (ndS bs)) ∧ Below w.heap.size w w' := by
  obtain ⟨g, hg⟩ : ∃ g, g = w.heap.size := ⟨_, rfl⟩
  have HG := hid hg
  obtain ⟨w0, hw0⟩ : ∃ w0, w0 = w.alloc (.cells #[.bool false, .slice none 0 0] 27) := ⟨_, rfl⟩
  have HW0 := hid hw0
  have HB0 : Hid (Below w.heap.size w w0) := hid (by rw [hw0]; exact allocBelow w _)
  have HX0 : Hid (w0.heap[g]? = some (.cells #[.bool false, .slice none 0 0] 27 (0, 0))) := hid (by rw [hw0, hg]; exact heap_alloc_new w _)
  have HRD := hid (read_any ok a n c bs w0 (hs.below HB0.out) hn hc hby hl)
  have HBY := hid hby
  have HBAD : Hid (¬ decG bs → ∀ y, Below w.heap.size w y → (∃ v, Ending.returned (.tuple #[.agg #[.bool false, .slice none 0 0], .int .i64 3]) = .returned (.tuple #[v, .int .i64 (ndE bs)]) ∧ NdV y v (ndL bs) (ndS bs)) ∧ Below w.heap.size w y) := hid fun h y hy => by
    rw [ndE_bad h, ndL_bad h, ndS_bad h]
    exact ⟨⟨_, rfl, ndv_none y⟩, hy⟩
  have HGOOD : Hid (decG bs → ∀ y v, NdV y v (ndL bs) (ndS bs) → Below w.heap.size w y → (∃ u, Ending.returned (.tuple #[v, .int .i64 0]) = .returned (.tuple #[u, .int .i64 (ndE bs)]) ∧ NdV y u (ndL bs) (ndS bs)) ∧ Below w.heap.size w y) := hid fun h y v hv hy => by
    rw [ndE_good h]
    exact ⟨⟨_, rfl, hv⟩, hy⟩
  obtain ⟨QQ, hQQ⟩ : ∃ QQ : Ending → World → Prop, QQ = fun e w' => (∃ v, e = .returned (.tuple #[v, .int .i64 (ndE bs)]) ∧ NdV w' v (ndL bs) (ndS bs)) ∧ Below w.heap.size w w' := ⟨_, rfl⟩
  have HQ := hid hQQ
  rw [← hQQ]
  clear hs hn hc hby hl hg hw0 hQQ
  go_enter Try.func15, Try.ntmps15
  go_wp2_with fail
  rw [← HW0.out]
  refine HRD.out.mono ?_
  clear HRD
  rintro e w1 ⟨⟨v, lf, es, B, rfl, hv, hyes, hno⟩, hb⟩
  have HB1 : Hid (Below w.heap.size w w1) := hid (HB0.out.trans (hb.mono HB0.out.size))
  have HX1 := hid (row_below HX0.out hb)
  obtain ⟨r, rfl, hr⟩ := hv
  obtain ⟨a9, c9, rfl, -, he9, hc9, hm9, hn9⟩ := ownedE hr
  obtain ⟨m, hm⟩ : ∃ m, m = es.length := ⟨_, rfl⟩
  rw [← hm] at hc9 ⊢
  have HE := hid (And.intro he9 (And.intro hm (And.intro hc9 (And.intro hm9 hn9))))
  obtain ⟨w2, hw2⟩ : ∃ w2, w2 = w1.alloc (.cells #[.bool lf, .slice a9 m c9] 27) := ⟨_, rfl⟩
  have HW2 := hid hw2
  obtain ⟨g2, hg2⟩ : ∃ g2, g2 = w1.heap.size := ⟨_, rfl⟩
  have HG2 := hid hg2
  have hb2 : Below w1.heap.size w1 w2 := by rw [hw2]; exact allocBelow w1 _
  have HB2 : Hid (Below w.heap.size w w2) := hid (HB1.out.trans (hb2.mono HB1.out.size))
  have HX2 := hid (row_below HX1.out hb2)
  have HY2 : Hid (w2.heap[g2]? = some (.cells #[.bool lf, .slice a9 m c9] 27 (0, 0))) := hid (by rw [hw2, hg2]; exact heap_alloc_new w1 _)
  have HE2 := hid (HE.out.1.below hb2)
  have HYES := hid hyes
  have HNO := hid hno
  clear hb hr he9 hm hc9 hm9 hn9 hw2 hg2 hb2 hyes hno HB0 HX0 HW0 HB1 HX1
  cases B with
  | false =>
    go_upto_region 3 with fail
    rw [← HW2.out, ← HG.out]
    go_wp2_with (refine wpList_store_own rfl 27 _ _ rfl g #[.bool false, .slice none 0 0] rfl rfl 27 _ HX2.out (by kernel_rfl) rfl (by simp [Value.oneCell']) ?_)
    intro w3 hr3 hg3
    have HB3 : Hid (Below w.heap.size w w3) := hid (HB2.out.grown hg3 HB2.out.size fun k hk => by have := HG.out; cases hk; omega)
    have HR3 := hid hr3
    clear hr3 hg3
    go_wp2_with fail
    refine bodyPost_ret (v := .tuple #[.agg #[.bool false, .slice none 0 0], .int .i64 3]) (resND2 _ _ #[.bool false, .slice none 0 0] _ rfl HR3.out rfl) rfl ?_
    rw [HQ.out]
    exact HBAD.out (fun h => HNO.out (by trivial) (decG_M HBY.out h).1) _ HB3.out
  | true =>
    have hy := HYES.out (by trivial)
    have hel : es.length ≤ 16 := by rw [hy.2.2, esM_len]; exact hy.1.2.2.1
    have hfit : ∀ e ∈ es, fitsE e := by rw [hy.2.2]; exact esM_fits _ _
    have HND : Hid (∀ y, Below w2.heap.size w2 y → NdOk y a9 m c9 es) := hid fun y hy => ⟨HE.out.2.1, (NdOk.mono HE2.out).below hy, by have := HE.out.2.1; omega, hfit, ⟨HE.out.2.2.1, HE.out.2.2.2.1⟩, HE.out.2.2.2.2⟩
    have HCK := hid (check_any a9 m c9 lf es w2 (HND.out w2 (Below.refl _ _)))
    have hl0 : w2.cell? ⟨g2, 0, none⟩ = some (.bool lf) := by rw [cell_of_row _ _ _ _ _ _ HY2.out]; rfl
    have hl1 : w2.cell? ⟨g2, 1, none⟩ = some (.slice a9 m c9) := by rw [cell_of_row _ _ _ _ _ _ HY2.out]; rfl
    obtain ⟨C, hC⟩ : ∃ C, C = chkN lf es := ⟨_, rfl⟩
    have HC := hid hC
    rw [← hC] at HCK
    clear hy hel hfit hC
    go_upto_region 2 with fail
    rw [← HW2.out, ← HG2.out, ← HG.out]
    go_wp2_with fail
    refine HCK.out.mono ?_
    clear HCK
    rintro e w3 ⟨rfl, hb3⟩
    have HB3 : Hid (Below w.heap.size w w3) := hid (HB2.out.trans (hb3.mono HB2.out.size))
    have HX3 := hid (row_below HX2.out hb3)
    have hy3 := row_below HY2.out hb3
    have HN3 := hid (HND.out w3 hb3)
    clear hb3 hl0 hl1 HND HX2 HY2 HB2 HW2
    have hl0 : w3.cell? ⟨g2, 0, none⟩ = some (.bool lf) := by rw [cell_of_row _ _ _ _ _ _ hy3]; rfl
    have hl1 : w3.cell? ⟨g2, 1, none⟩ = some (.slice a9 m c9) := by rw [cell_of_row _ _ _ _ _ _ hy3]; rfl
    clear hy3
    by_cases hC0 : C = 0
    · have hc1 : ((C : Int) != 0) = false := by simp [hC0]
      have hc2 : (C = 0) = True := eq_true hC0
      have HD : Hid (decG bs ∧ ndL bs = lf ∧ ndS bs = es) := hid (by
        obtain ⟨h1, h2, h3⟩ := HYES.out (by trivial)
        obtain ⟨k1, k2, k3⟩ := decM_G HBY.out h1 (by rw [← h2, ← h3, ← HC.out, hC0])
        exact ⟨k1, by rw [k2, h2], by rw [k3, h3]⟩)
      clear hC0
      go_wp2_with (refine wpList_store_own rfl 27 _ _ rfl g #[.bool lf, .slice a9 m c9] rfl rfl 27 _ HX3.out (by kernel_rfl) rfl (by simp [Value.oneCell']) ?_)
      intro w4 hr4 hg4
      have HB4 : Hid (Below w.heap.size w w4) := hid (HB3.out.grown hg4 HB3.out.size fun k hk => by have := HG.out; cases hk; omega)
      have HR4 := hid hr4
      have HN4 := hid (HN3.out.over2 hg4 HX3.out (fun z e => by cases e))
      clear hr4 hg4
      go_wp2_with fail
      refine bodyPost_ret (v := .tuple #[.agg #[.bool lf, .slice a9 m c9], .int .i64 0]) (resND2 _ _ #[.bool lf, .slice a9 m c9] _ rfl HR4.out rfl) rfl ?_
      rw [HQ.out]
      refine HGOOD.out HD.out.1 _ _ ?_ HB4.out
      rw [HD.out.2.1, HD.out.2.2]
      exact ⟨a9, m, c9, rfl, HN4.out⟩
    · have hc1 : ((C : Int) != 0) = true := by rw [bne_iff_ne]; exact hC0
      have hc2 : (C = 0) = False := eq_false hC0
      have HD : Hid (¬ decG bs) := hid fun h => hC0 (by
        obtain ⟨-, h2, h3⟩ := HYES.out (by trivial)
        obtain ⟨-, k2, k3⟩ := decG_M HBY.out h
        rw [HC.out, h2, h3, k2]
        exact k3)
      clear hC0
      go_wp2_with (refine wpList_store_own rfl 27 _ _ rfl g #[.bool false, .slice none 0 0] rfl rfl 27 _ HX3.out (by kernel_rfl) rfl (by simp [Value.oneCell']) ?_)
      intro w4 hr4 hg4
      have HB4 : Hid (Below w.heap.size w w4) := hid (HB3.out.grown hg4 HB3.out.size fun k hk => by have := HG.out; cases hk; omega)
      have HR4 := hid hr4
      clear hr4 hg4
      go_wp2_with fail
      refine bodyPost_ret (v := .tuple #[.agg #[.bool false, .slice none 0 0], .int .i64 3]) (resND2 _ _ #[.bool false, .slice none 0 0] _ rfl HR4.out rfl) rfl ?_
      rw [HQ.out]
      exact HBAD.out HD.out _ HB4.out
end Go.Proofs.Ytokeihpmagcneaa
