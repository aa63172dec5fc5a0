/- CONTRACTS: nodes copied: the law's To, Of. -/
import Derived.Test.YtokeihpmagcneaaNdA
import Derived.Test.YtokeihpmagcneaaGrowX
namespace Go.Inc
open Go.RowKit
theorem uponAppend {P : Program} {o : Oper} {b : Act} {K : Act → World → Prop} {Q : Exit → Act → World → Prop} {ρ : Operand → Value} {w w' : World} {v u v' : Value} (s x : Operand) (t : TypeId)
    (ho : o.op = .call { callee := .builtin .append, args := #[s, x], argTypes := #[t, t] }) (hs : ρ s = v) (hx : ρ x = u) (hr : (Builtin.append_ #[t, t] o.type #[v, u]).run P w = .ok v' w') (hk : K (b.put o.dst v') w') :
    o.upon P b K Q ((execOp ρ o).run P w) := by
  unfold execOp
  simp only [ho, resolve, invoke, builtin, Sem.run_bind, Sem.run_pure, Result.andThen_ok, List.map_toArray, List.map_cons, List.map_nil, hs, hx, hr]
  exact hk
/-- One entry in a row of its own. -/
def RowE (e : Et) (T : TypeId) (x : World) (v : Value) : Prop := ∃ b, v = .slice (some ⟨b, 0, none⟩) 1 1 ∧ x.heap[b]? = some (.cells #[.int .i64 e.1.1, .int .i64 e.1.2, .int .i64 e.2] T (0, 0))
theorem RowE.kept {e : Et} {T : TypeId} {x y : World} {v : Value} (h : RowE e T x v) (hg : Grew x y) : RowE e T y v := by
  obtain ⟨b, h1, h3⟩ := h
  exact ⟨b, h1, row_below h3 hg⟩
theorem rowE_cells {e : Et} {T : TypeId} {x : World} {b : Nat} (h : x.heap[b]? = some (.cells #[.int .i64 e.1.1, .int .i64 e.1.2, .int .i64 e.2] T (0, 0))) : ∀ j u, (ecells [e])[j]? = some u → x.cell? ((⟨b, 0, none⟩ : Addr).add j) = some u := by
  intro j u hu
  rw [Addr.add_lit, cell_of_row _ _ _ _ _ _ h]
  match j, hu with
  | 0, hu => simpa [ecells] using hu
  | 1, hu => simpa [ecells] using hu
  | 2, hu => simpa [ecells] using hu
  | j + 3, hu => simp [ecells] at hu
/-- A row of entries, being this value. -/
def RowU (T B : Nat) (u : Value) (es : List Et) (x : World) (v : Value) : Prop := v = u ∧ x.ownsRow B T 3 u es.length (ecells es)
theorem RowU.kept {T B : Nat} {u : Value} {es : List Et} {x y : World} {v : Value} (h : RowU T B u es x v) (hg : Grew x y) : RowU T B u es y v :=
  ⟨h.1, owns_mv (F := fun _ => False) h.2 (Mv.of_below hg) fun _ _ => id⟩
/-- A row of entries. -/
def RowV (T B : Nat) (es : List Et) (x : World) (v : Value) : Prop := x.ownsRow B T 3 v es.length (ecells es)
theorem RowV.kept {T B : Nat} {es : List Et} {x y : World} {v : Value} (h : RowV T B es x v) (hg : Grew x y) : RowV T B es y v :=
  owns_mv (F := fun _ => False) h (Mv.of_below hg) fun _ _ => id
theorem owned_one {w : World} {B E s n : Nat} {v : Value} {xs : List Value} (h : w.ownsRow B E s v n xs) : v.oneCell' = true := by
  rcases h.2 with ⟨rfl, _⟩ | ⟨g, cap, cur, rfl, _⟩ <;> rfl
theorem agg_one {lf : Bool} {u : Value} (h : u.oneCell' = true) : (#[Value.bool lf, u] : Array Value).all (·.oneCell') = true := by
  cases u <;> first | (simp [Value.oneCell'] at h; done) | (simp [Value.oneCell'])
/-- What a loop that copies a node keeps: three boxes. -/
def BoxJ (w : World) (g : Nat) (T1 T2 : TypeId) (c1 c2 c3 : Array Value) (x : World) : Prop :=
  Below w.heap.size w x ∧ x.heap[g]? = some (.cells c1 T1 (0, 0)) ∧ x.heap[g + 1]? = some (.cells c2 T2 (0, 0)) ∧ x.heap[g + 1 + 1]? = some (.cells c3 T2 (0, 0))
theorem BoxJ.grew {w : World} {g : Nat} {T1 T2 : TypeId} {c1 c2 c3 : Array Value} {a b : World} (hg : Grew a b) (h : BoxJ w g T1 T2 c1 c2 c3 a) : BoxJ w g T1 T2 c1 c2 c3 b :=
  ⟨h.1.trans (Below.mono hg h.1.size), row_below h.2.1 hg, row_below h.2.2.1 hg, row_below h.2.2.2 hg⟩
theorem BoxJ.row {w : World} {g : Nat} {T1 T2 : TypeId} {c1 c2 c3 : Array Value} {a b : World} {E B s n : Nat} {v : Value} {xs : List Value} (h : BoxJ w g T1 T2 c1 c2 c3 a) (hr : a.ownsRow B E s v n xs) (hg : a.grownBy b v.ownBlock) (hB : w.heap.size ≤ B) (h1 : E ≠ T1) (h2 : E ≠ T2) : BoxJ w g T1 T2 c1 c2 c3 b :=
  ⟨below_owned (w0 := w) h.1 hr hB hg, rowApart h1 hr hg h.2.1, rowApart h2 hr hg h.2.2.1, rowApart h2 hr hg h.2.2.2⟩
theorem rowNot {E T B s n : Nat} {w : World} {v : Value} {xs : List Value} {g : Nat} {cs : Array Value} {fz : Nat × Nat} (hne : E ≠ T) (hr : w.ownsRow B E s v n xs) (h : w.heap[g]? = some (.cells cs T fz)) : v.ownBlock ≠ some g := by
  rcases hr.2 with ⟨rfl, _⟩ | ⟨g1, cap, cur, rfl, _, hg1, _⟩
  · intro e; cases e
  · intro e
    have e' : g1 = g := by simpa [Value.ownBlock] using e
    subst e'
    rw [hg1] at h
    simp at h
    exact hne h.2.1
theorem BoxJ.put {w : World} {g : Nat} {T1 T2 : TypeId} {c1 c2 : Array Value} {x : World} {z u : Value} (h : BoxJ w g T1 T2 c1 c2 #[z, u] x) (hg : g = w.heap.size) (v : Value) : BoxJ w g T1 T2 c1 c2 #[z, v] (x.setCell ⟨g + 1 + 1, 1, none⟩ v) := by
  refine ⟨h.1.setCell (p := ⟨g + 1 + 1, 1, none⟩) (show w.heap.size ≤ g + 1 + 1 by omega) _, ?_, ?_, heap_setCell_same x (g + 1 + 1) 1 _ _ _ h.2.2.2⟩
  · rw [heap_setCell_other _ _ _ _ (show g ≠ g + 1 + 1 by omega)]; exact h.2.1
  · rw [heap_setCell_other _ _ _ _ (show g + 1 ≠ g + 1 + 1 by omega)]; exact h.2.2.1
theorem BoxJ.putRow {w : World} {g : Nat} {T1 T2 : TypeId} {c1 c2 c3 : Array Value} {x : World} {E B s n : Nat} {r : Value} {xs : List Value} (h : BoxJ w g T1 T2 c1 c2 c3 x) (hr : x.ownsRow B E s r n xs) (hne : E ≠ T2) (v : Value) : (x.setCell ⟨g + 1 + 1, 1, none⟩ v).ownsRow B E s r n xs :=
  ownsRow_setCell_other hr (rowNot hne hr h.2.2.2) v
end Go.Inc
namespace Go.Proofs.Ytokeihpmagcneaa
open Go.RowKit Go.Inc

set_option maxRecDepth 20000 in
set_option maxHeartbeats 4000000 in
theorem to_any (ok : Nat → Prop) (a : Option Addr) (c : Nat) (lf : Bool) (es : List Et) (w : World) (hs : EtS ok w a es) :
    Calls Try.prog 8 #[.agg #[.bool lf, .slice a es.length c]] w fun e w' => (∃ v, e = .returned v ∧ NodeN 57 w.heap.size w' v lf (es.take 18)) ∧ Below w.heap.size w w' := by
  obtain ⟨i0, hi, hz0, hz1, hz2⟩ := info_parts infoLE
  have HI := hid (And.intro hi (And.intro hz0 (And.intro hz1 hz2)))
  have HS := hid hs.old
  obtain ⟨n, hn⟩ : ∃ n, n = es.length := ⟨_, rfl⟩
  have HN := hid hn

  obtain ⟨g, hg⟩ : ∃ g, g = w.heap.size := ⟨_, rfl⟩
  have HG := hid hg
  obtain ⟨w0, hw0⟩ : ∃ w0, w0 = ((w.alloc (.cells #[.bool lf, .slice a n c] 24)).alloc (.cells #[.bool false, .slice none 0 0] 27)).alloc (.cells #[.bool lf, .slice none 0 0] 27) := ⟨_, rfl⟩
  have HW0 := hid hw0
  have HJ0 : Hid (BoxJ w g 24 27 #[.bool lf, .slice a n c] #[.bool false, .slice none 0 0] #[.bool lf, .slice none 0 0] w0) := hid (by
    rw [hw0, hg]
    refine ⟨(((Below.refl _ _).alloc (Nat.le_refl _) _).alloc (by simp) _).alloc (by simp; omega) _, ?_, ?_, ?_⟩
    · exact row_below (heap_alloc2_old w _ _) (allocBelow _ _)
    · exact row_below (heap_alloc2_new w _ _) (allocBelow _ _)
    · have h := heap_alloc2_new (w.alloc (.cells #[.bool lf, .slice a n c] 24)) (.cells #[.bool false, .slice none 0 0] 27) (.cells #[.bool lf, .slice none 0 0] 27)
      rw [World.size_alloc] at h
      exact h)
  rw [← hn]
  clear hs hi hz0 hz1 hz2 hn hg hw0
  go_enter Try.func8, Try.ntmps8
  go_wp2_with fail
  rw [← HW0.out, ← HG.out]
  go_loopw [4] (fun i wr => ∃ (k : Nat) (u : Value), k ≤ n ∧ k ≤ 18 ∧ i = .int .i64 (k : Int) ∧ BoxJ w g 24 27 #[.bool lf, .slice a n c] #[.bool false, .slice none 0 0] #[.bool lf, u] wr ∧ wr.ownsRow w.heap.size 57 3 u (es.take k).length (ecells (es.take k))) (fun i _ => n - (intOf i).toNat)
  case atStart => exact ⟨0, _, Nat.zero_le _, Nat.zero_le _, rfl, HJ0.out, World.ownsRow_nil _ _ _ _⟩
  case round =>
    clear HJ0
    obtain ⟨k, u, hk, hk18, rfl, hj, hv⟩ := hrel
    have HJ := hid (And.intro hj hv)
    have hbx := hj.2.1
    have hbo := hj.2.2.2
    have hc1 : wr.cell? ⟨g, 1, none⟩ = some (.slice a n c) := by rw [cell_of_row _ _ _ _ _ _ hbx]; rfl
    clear hj hv hbx
    by_cases hlt : (k : Int) < n
    · have hkn : (k < n) = True := eq_true (by omega)
      by_cases h18 : (k : Int) < 18
      · have hk182 : (k < 18) = True := eq_true (by omega)
        obtain ⟨b, o, rfl, hx1, hx2, hx3⟩ := (HS.out.below HJ.out.1.1).cell (i := k) (by have := HN.out; omega)
        have HSN := hid (takeSnoc (bs := es) (d := et0) (k := k) (by have := HN.out; omega))
        have HKL : Hid ((es.take k).length = k ∧ (k : Int) ≤ 1000000) := hid ⟨by rw [List.length_take]; have := HN.out; omega, by omega⟩
        obtain ⟨⟨⟨s, z⟩, p⟩, hx⟩ : ∃ x, x = es.getD k et0 := ⟨_, rfl⟩
        rw [← hx] at hx1 hx2 hx3 HSN
        simp only at hx1 hx2 hx3
        have HC : Hid (∀ x, BoxJ w g 24 27 #[.bool lf, .slice (some ⟨b, o, none⟩) n c] #[.bool false, .slice none 0 0] #[.bool lf, u] x → x.cell? ⟨g, 1, none⟩ = some (.slice (some ⟨b, o, none⟩) n c) ∧ x.cell? ⟨g, 0, none⟩ = some (.bool lf) ∧ x.cell? ⟨g + 1 + 1, 1, none⟩ = some u ∧ x.cell? ⟨b, o + k * 3, none⟩ = some (.int .i64 s) ∧ x.cell? ⟨b, o + k * 3 + 1, none⟩ = some (.int .i64 z) ∧ x.cell? ⟨b, o + k * 3 + 2, none⟩ = some (.int .i64 p)) := hid fun x hj => by
          obtain ⟨q1, q2, q3⟩ := (HS.out.below hj.1).cell (i := k) (by have := HN.out; omega) |>.choose_spec.choose_spec.2
          have hq := (HS.out.below hj.1).cell (i := k) (by have := HN.out; omega)
          obtain ⟨b', o', hab, q1, q2, q3⟩ := hq
          cases hab
          rw [← hx] at q1 q2 q3
          exact ⟨by rw [cell_of_row _ _ _ _ _ _ hj.2.1]; rfl, by rw [cell_of_row _ _ _ _ _ _ hj.2.1]; rfl, by rw [cell_of_row _ _ _ _ _ _ hj.2.2.2]; rfl, q1, q2, q3⟩
        clear hx hx1 hx2 hx3 hbo
        go_wp2_with fail
        refine wp_region_growsX 11 9 (fun x => BoxJ w g 24 27 #[.bool lf, .slice (some ⟨b, o, none⟩) n c] #[.bool false, .slice none 0 0] #[.bool lf, u] x ∧ x.ownsRow w.heap.size 57 3 u (es.take k).length (ecells (es.take k))) (BoxJ w g 24 27 #[.bool lf, .slice (some ⟨b, o, none⟩) n c] #[.bool false, .slice none 0 0] #[.bool lf, u]) [8] [EqN (.pointer (some ⟨g + 1 + 1, 1, none⟩)), EqN (u), EqN (.pointer (some ⟨g, 1, none⟩)), EqN (.slice (some ⟨b, o, none⟩) n c), EqN (.int .i64 (k : Int)), EqN (.pointer (some ⟨b, o + k * 3, none⟩)), EqN (.agg #[.int .i64 s, .int .i64 z, .int .i64 p]), EqN (.agg #[.int .i64 s, .int .i64 z, .int .i64 p]), RowE ((s, z), p) 57, RowV 57 w.heap.size (es.take (k + 1)), EqN (.pointer (some ⟨g + 1 + 1, 1, none⟩))] (by kernel_rfl) (by decide) (by kernel_rfl) (by kernel_rfl) (by decide) ?_ ?_ ?_ ?_ ?_ ?_
        · exact ⟨BoxJ.grew (belowDrew wr 1) HJ.out.1, owns_mv (F := fun _ => False) HJ.out.2 (Mv.of_below (belowDrew wr 1)) fun _ _ => id⟩
        · exact fun a b hg h => ⟨BoxJ.grew hg h.1, owns_mv (F := fun _ => False) h.2 (Mv.of_below hg) fun _ _ => id⟩
        · exact fun a b => BoxJ.grew
        · repeat' (first | exact List.forall_mem_nil _ | refine List.forall_mem_cons.2 ⟨?_, ?_⟩)
          all_goals
            intro w w' v hw h
            first | exact h | exact RowE.kept h hw | exact RowV.kept h hw
        · simp only [AllLt]
          refine ⟨⟨⟨⟨⟨⟨⟨⟨⟨⟨⟨trivial, ?_⟩, ?_⟩, ?_⟩, ?_⟩, ?_⟩, ?_⟩, ?_⟩, ?_⟩, ?_⟩, ?_⟩, ?_⟩
          all_goals
            intro o' ho
            simp at ho
            subst ho
            intro ρ w5 hR hL hS hG
            obtain ⟨hl1, hl2, -⟩ := hL
          · refine plainG rfl ?_
            intro bA K Q' hK
            have e3 := hS 3 (by kernel_rfl)
            change ρ (.tmp 3) = _ at e3
            simp only [execOp]
            go_simp
            exact hK _ _ rfl (fun _ => Grew.refl _) (fun h => absurd h (by decide))
          · refine plainG rfl ?_
            intro bA K Q' hK
            have e19 := hG 0 19 (by decide) (by kernel_rfl) (by kernel_rfl)
            change ρ (.tmp 19) = _ at e19
            obtain ⟨y0, y1, y2, y3, y4, y5⟩ := HC.out w5 (hR.any.elim (fun h => h.1) id)
            simp only [execOp]
            go_simp
            exact hK _ _ rfl (fun _ => Grew.refl _) (fun h => absurd h (by decide))
          · refine plainG rfl ?_
            intro bA K Q' hK
            have e1 := hS 1 (by kernel_rfl)
            change ρ (.tmp 1) = _ at e1
            simp only [execOp]
            go_simp
            exact hK _ _ rfl (fun _ => Grew.refl _) (fun h => absurd h (by decide))
          · refine plainG rfl ?_
            intro bA K Q' hK
            have e21 := hG 2 21 (by decide) (by kernel_rfl) (by kernel_rfl)
            change ρ (.tmp 21) = _ at e21
            obtain ⟨y0, y1, y2, y3, y4, y5⟩ := HC.out w5 (hR.any.elim (fun h => h.1) id)
            simp only [execOp]
            go_simp
            exact hK _ _ rfl (fun _ => Grew.refl _) (fun h => absurd h (by decide))
          · refine plainG rfl ?_
            intro bA K Q' hK
            have e4 := hS 4 (by kernel_rfl)
            change ρ (.tmp 4) = _ at e4
            simp only [execOp]
            go_simp
            exact hK _ _ rfl (fun _ => Grew.refl _) (fun h => absurd h (by decide))
          · refine plainG rfl ?_
            intro bA K Q' hK
            have e22 := hG 3 22 (by decide) (by kernel_rfl) (by kernel_rfl)
            have e23 := hG 4 23 (by decide) (by kernel_rfl) (by kernel_rfl)
            change ρ (.tmp 22) = _ at e22
            change ρ (.tmp 23) = _ at e23
            simp only [execOp]
            go_simp
            exact hK _ _ rfl (fun _ => Grew.refl _) (fun h => absurd h (by decide))
          · refine plainG rfl ?_
            intro bA K Q' hK
            have e24 := hG 5 24 (by decide) (by kernel_rfl) (by kernel_rfl)
            change ρ (.tmp 24) = _ at e24
            obtain ⟨y0, y1, y2, y3, y4, y5⟩ := HC.out w5 (hR.any.elim (fun h => h.1) id)
            simp only [execOp]
            go_simp
            exact hK _ _ rfl (fun _ => Grew.refl _) (fun h => absurd h (by decide))
          · refine plainG rfl ?_
            intro bA K Q' hK
            have e25 := hG 6 25 (by decide) (by kernel_rfl) (by kernel_rfl)
            change ρ (.tmp 25) = _ at e25
            simp only [execOp]
            go_simp
            refine (entry_any s z p w5).mono ?_
            rintro r9 w9 ⟨rfl, hb9⟩
            exact hK _ _ rfl (fun _ => hb9) (fun h => absurd h (by decide))
          · refine plainG rfl ?_
            intro bA K Q' hK
            have e26 := hG 7 26 (by decide) (by kernel_rfl) (by kernel_rfl)
            change ρ (.tmp 26) = _ at e26
            simp only [execOp]
            go_simp
            exact hK _ _ ⟨_, rfl, heap_alloc_new w5 _⟩ (fun _ => (Grew.refl _).alloc _) (fun h => absurd h (by decide))
          · refine plainG rfl ?_
            intro bA K Q' hK
            have e20 := hG 1 20 (by decide) (by kernel_rfl) (by kernel_rfl)
            have e27 := hG 8 27 (by decide) (by kernel_rfl) (by kernel_rfl)
            change ρ (.tmp 20) = _ at e20
            obtain ⟨bx, h8, hrx⟩ := e27
            obtain ⟨hj1, hj2⟩ := hR.ahead (by decide)
            obtain ⟨v', w6, hr, ho', hgr, -⟩ := run_append_own (P := Try.prog) w5 w.heap.size 25 25 57 i0 (.agg #[.int .i64 0, .int .i64 0, .int .i64 0]) 3 24 Try.underlying25 HI.out.1 HI.out.2.1 HI.out.2.2.1 HI.out.2.2.2 rfl (by decide) u (es.take k).length (ecells (es.take k)) hj2 ⟨bx, 0, none⟩ 1 1 (ecells [((s, z), p)]) rfl (rowE_cells hrx) (ecells_one _) (by have := HKL.out; unfold maxLen; omega) (by have := HKL.out; omega) hj1.1.size
            refine uponAppend (.tmp 20) (.tmp 27) 25 rfl e20 h8 hr ?_
            refine hK _ _ ?_ (fun h => absurd rfl h) (fun _ => ⟨hj1.row hj2 hgr (Nat.le_refl _) (by decide) (by decide), ?_⟩)
            · show w6.ownsRow w.heap.size 57 3 v' (es.take (k + 1)).length (ecells (es.take (k + 1)))
              rw [HSN.out, ecells_app, List.length_append]
              exact ho'
            · simp only [AllLt]
              refine ⟨⟨⟨⟨⟨⟨⟨⟨⟨⟨⟨trivial, ?_⟩, ?_⟩, ?_⟩, ?_⟩, ?_⟩, ?_⟩, ?_⟩, ?_⟩, ?_⟩, ?_⟩, ?_⟩
              · exact fun _ _ y hy => hy
              · exact fun _ _ y hy => hy
              · exact fun _ _ y hy => hy
              · exact fun _ _ y hy => hy
              · exact fun _ _ y hy => hy
              · exact fun _ _ y hy => hy
              · exact fun _ _ y hy => hy
              · exact fun _ _ y hy => hy
              · exact fun _ hl => absurd hl (by decide)
              · exact fun hne _ => absurd rfl hne
              · exact fun _ _ y hy => hy
          · refine plainG rfl ?_
            intro bA K Q' hK
            have e3 := hS 3 (by kernel_rfl)
            change ρ (.tmp 3) = _ at e3
            simp only [execOp]
            go_simp
            exact hK _ _ rfl (fun _ => Grew.refl _) (fun h => absurd h (by decide))
        · intro vv w5 hR hG
          have h1 : vv 10 = .pointer (some ⟨g + 1 + 1, 1, none⟩) := hG.2 (by decide)
          have h2 : RowV 57 w.heap.size (es.take (k + 1)) w5 (vv 9) := hG.1.2 (by decide)
          have HJ5 := hid hR
          have hbx5 := hR.2.2.2
          obtain ⟨v9, hv9⟩ : ∃ v9, v9 = vv 9 := ⟨_, rfl⟩
          rw [← hv9] at h2
          obtain ⟨a9, c9, hs9, -, -, -, -, -⟩ := ownedE h2
          obtain ⟨L1, hL1⟩ : ∃ L1, L1 = (es.take (k + 1)).length := ⟨_, rfl⟩
          have HL1 := hid hL1
          rw [← hL1] at hs9
          subst hs9
          have H2 : Hid (w5.ownsRow w.heap.size 57 3 (.slice a9 L1 c9) L1 (ecells (es.take (k + 1)))) := hid (by rw [hL1]; rw [← hL1]; unfold RowV at h2; rw [← hL1] at h2; exact h2)
          have hco : w5.cell? ⟨g + 1 + 1, 1, none⟩ = some u := (HC.out w5 hR).2.2.1
          have hfo : w5.frozen? ⟨g + 1 + 1, 1, none⟩ = false := frozen_of_row _ _ _ _ _ hbx5
          clear hG hR HC h2 hc1 hL1
          simp [stG, stU, dstAt, Act.put, h1, ← hv9]
          clear h1 hv9
          have HJ9 : Hid (BoxJ w g 24 27 #[.bool lf, .slice (some ⟨b, o, none⟩) n c] #[.bool false, .slice none 0 0] #[.bool lf, .slice a9 L1 c9] (w5.setCell ⟨g + 1 + 1, 1, none⟩ (.slice a9 L1 c9))) := hid (HJ5.out.put HG.out _)
          have HV9 : Hid ((w5.setCell ⟨g + 1 + 1, 1, none⟩ (.slice a9 L1 c9)).ownsRow w.heap.size 57 3 (.slice a9 L1 c9) (es.take (k + 1)).length (ecells (es.take (k + 1)))) := hid (by rw [← HL1.out]; exact HJ5.out.putRow H2.out (by decide) _)
          go_wp2_with fail
          go_roundw
          case rel => exact ⟨k + 1, .slice a9 L1 c9, by omega, by omega, by go_num, HJ9.out, HV9.out⟩
          case measure => simp [intOf]; omega
      · have hk182 : (k < 18) = False := eq_false (by omega)
        have hk183 : decide ((k : Int) < 18) = false := decide_eq_false h18
        have HK18 : Hid (k = 18) := hid (by omega)
        clear h18
        have HU1 : Hid (u.oneCell' = true) := hid (owned_one HJ.out.2)
        have hco1 : wr.cell? ⟨g + 1 + 1, 0, none⟩ = some (.bool lf) := by rw [cell_of_row _ _ _ _ _ _ hbo]; rfl
        have hco2 : wr.cell? ⟨g + 1 + 1, 1, none⟩ = some u := by rw [cell_of_row _ _ _ _ _ _ hbo]; rfl
        go_wp2_with (refine wpList_store_own rfl 27 _ _ rfl (g + 1) #[.bool lf, u] rfl rfl 27 _ HJ.out.1.2.2.1 (by kernel_rfl) rfl (agg_one HU1.out) ?_)
        intro w9 hr9 hg9
        have HB9 : Hid (Below w.heap.size w w9) := hid (HJ.out.1.1.grown hg9 HJ.out.1.1.size fun k hk => by have := HG.out; cases hk; omega)
        have HV9 : Hid (w9.ownsRow w.heap.size 57 3 u (es.take k).length (ecells (es.take k))) := hid (HJ.out.2.kept hg9 (.inr (rowNot (by decide) HJ.out.2 HJ.out.1.2.2.1)))
        clear hg9
        go_wp2_with fail
        exact bodyPost_ret (v := .agg #[.bool lf, u]) (results_cell_row rfl _ _ (g + 1) 27 _ (0, 0) _ rfl hr9 Try.underlying27 rfl (by kernel_rfl)) rfl ⟨⟨_, rfl, u, rfl, by have h := HV9.out; rw [HK18.out] at h; exact h⟩, HB9.out⟩
    · have hkf : (k < n) = False := eq_false (by omega)
      have HKE : Hid (k = n) := hid (by omega)
      clear hlt
      have HU1 : Hid (u.oneCell' = true) := hid (owned_one HJ.out.2)
      have hco1 : wr.cell? ⟨g + 1 + 1, 0, none⟩ = some (.bool lf) := by rw [cell_of_row _ _ _ _ _ _ hbo]; rfl
      have hco2 : wr.cell? ⟨g + 1 + 1, 1, none⟩ = some u := by rw [cell_of_row _ _ _ _ _ _ hbo]; rfl
      go_wp2_with (refine wpList_store_own rfl 27 _ _ rfl (g + 1) #[.bool lf, u] rfl rfl 27 _ HJ.out.1.2.2.1 (by kernel_rfl) rfl (agg_one HU1.out) ?_)
      intro w9 hr9 hg9
      have HB9 : Hid (Below w.heap.size w w9) := hid (HJ.out.1.1.grown hg9 HJ.out.1.1.size fun k hk => by have := HG.out; cases hk; omega)
      have HV9 : Hid (w9.ownsRow w.heap.size 57 3 u (es.take k).length (ecells (es.take k))) := hid (HJ.out.2.kept hg9 (.inr (rowNot (by decide) HJ.out.2 HJ.out.1.2.2.1)))
      clear hg9
      go_wp2_with fail
      exact bodyPost_ret (v := .agg #[.bool lf, u]) (results_cell_row rfl _ _ (g + 1) 27 _ (0, 0) _ rfl hr9 Try.underlying27 rfl (by kernel_rfl)) rfl ⟨⟨_, rfl, u, rfl, by have h := HV9.out; rw [HKE.out, HN.out, List.take_length] at h; rw [List.take_of_length_le (by have := HN.out; have := HKE.out; omega)]; exact h⟩, HB9.out⟩
set_option maxRecDepth 20000 in
set_option maxHeartbeats 4000000 in
theorem of_any (ok : Nat → Prop) (a : Option Addr) (c : Nat) (lf : Bool) (es : List Et) (w : World) (hs : EtS ok w a es) (hl : (es.length : Int) ≤ 1000000) :
    Calls Try.prog 9 #[.agg #[.bool lf, .slice a es.length c]] w fun e w' => (∃ v, e = .returned v ∧ NodeN 54 w.heap.size w' v lf (es)) ∧ Below w.heap.size w w' := by
  obtain ⟨i0, hi, hz0, hz1, hz2⟩ := info_parts infoRE
  have HI := hid (And.intro hi (And.intro hz0 (And.intro hz1 hz2)))
  have HS := hid hs.old
  obtain ⟨n, hn⟩ : ∃ n, n = es.length := ⟨_, rfl⟩
  have HN := hid hn
  rw [← hn] at hl
  obtain ⟨g, hg⟩ : ∃ g, g = w.heap.size := ⟨_, rfl⟩
  have HG := hid hg
  obtain ⟨w0, hw0⟩ : ∃ w0, w0 = ((w.alloc (.cells #[.bool lf, .slice a n c] 27)).alloc (.cells #[.bool false, .slice none 0 0] 24)).alloc (.cells #[.bool lf, .slice none 0 0] 24) := ⟨_, rfl⟩
  have HW0 := hid hw0
  have HJ0 : Hid (BoxJ w g 27 24 #[.bool lf, .slice a n c] #[.bool false, .slice none 0 0] #[.bool lf, .slice none 0 0] w0) := hid (by
    rw [hw0, hg]
    refine ⟨(((Below.refl _ _).alloc (Nat.le_refl _) _).alloc (by simp) _).alloc (by simp; omega) _, ?_, ?_, ?_⟩
    · exact row_below (heap_alloc2_old w _ _) (allocBelow _ _)
    · exact row_below (heap_alloc2_new w _ _) (allocBelow _ _)
    · have h := heap_alloc2_new (w.alloc (.cells #[.bool lf, .slice a n c] 27)) (.cells #[.bool false, .slice none 0 0] 24) (.cells #[.bool lf, .slice none 0 0] 24)
      rw [World.size_alloc] at h
      exact h)
  rw [← hn]
  clear hs hi hz0 hz1 hz2 hn hg hw0
  go_enter Try.func9, Try.ntmps9
  go_wp2_with fail
  rw [← HW0.out, ← HG.out]
  go_loopw [4] (fun i wr => ∃ (k : Nat) (u : Value), k ≤ n ∧ i = .int .i64 (k : Int) ∧ BoxJ w g 27 24 #[.bool lf, .slice a n c] #[.bool false, .slice none 0 0] #[.bool lf, u] wr ∧ wr.ownsRow w.heap.size 54 3 u (es.take k).length (ecells (es.take k))) (fun i _ => n - (intOf i).toNat)
  case atStart => exact ⟨0, _, Nat.zero_le _, rfl, HJ0.out, World.ownsRow_nil _ _ _ _⟩
  case round =>
    clear HJ0
    obtain ⟨k, u, hk, rfl, hj, hv⟩ := hrel
    have HJ := hid (And.intro hj hv)
    have hbx := hj.2.1
    have hbo := hj.2.2.2
    have hc1 : wr.cell? ⟨g, 1, none⟩ = some (.slice a n c) := by rw [cell_of_row _ _ _ _ _ _ hbx]; rfl
    clear hj hv hbx
    by_cases hlt : (k : Int) < n
    · have hkn : (k < n) = True := eq_true (by omega)
      by_cases h0 : True
      · obtain ⟨b, o, rfl, hx1, hx2, hx3⟩ := (HS.out.below HJ.out.1.1).cell (i := k) (by have := HN.out; omega)
        have HSN := hid (takeSnoc (bs := es) (d := et0) (k := k) (by have := HN.out; omega))
        have HKL : Hid ((es.take k).length = k ∧ (k : Int) ≤ 1000000) := hid ⟨by rw [List.length_take]; have := HN.out; omega, by omega⟩
        obtain ⟨⟨⟨s, z⟩, p⟩, hx⟩ : ∃ x, x = es.getD k et0 := ⟨_, rfl⟩
        rw [← hx] at hx1 hx2 hx3 HSN
        simp only at hx1 hx2 hx3
        have HC : Hid (∀ x, BoxJ w g 27 24 #[.bool lf, .slice (some ⟨b, o, none⟩) n c] #[.bool false, .slice none 0 0] #[.bool lf, u] x → x.cell? ⟨g, 1, none⟩ = some (.slice (some ⟨b, o, none⟩) n c) ∧ x.cell? ⟨g, 0, none⟩ = some (.bool lf) ∧ x.cell? ⟨g + 1 + 1, 1, none⟩ = some u ∧ x.cell? ⟨b, o + k * 3, none⟩ = some (.int .i64 s) ∧ x.cell? ⟨b, o + k * 3 + 1, none⟩ = some (.int .i64 z) ∧ x.cell? ⟨b, o + k * 3 + 2, none⟩ = some (.int .i64 p)) := hid fun x hj => by
          obtain ⟨q1, q2, q3⟩ := (HS.out.below hj.1).cell (i := k) (by have := HN.out; omega) |>.choose_spec.choose_spec.2
          have hq := (HS.out.below hj.1).cell (i := k) (by have := HN.out; omega)
          obtain ⟨b', o', hab, q1, q2, q3⟩ := hq
          cases hab
          rw [← hx] at q1 q2 q3
          exact ⟨by rw [cell_of_row _ _ _ _ _ _ hj.2.1]; rfl, by rw [cell_of_row _ _ _ _ _ _ hj.2.1]; rfl, by rw [cell_of_row _ _ _ _ _ _ hj.2.2.2]; rfl, q1, q2, q3⟩
        clear hx hx1 hx2 hx3 hbo
        go_wp2_with fail
        refine wp_region_growsX 27 25 (fun x => BoxJ w g 27 24 #[.bool lf, .slice (some ⟨b, o, none⟩) n c] #[.bool false, .slice none 0 0] #[.bool lf, u] x ∧ x.ownsRow w.heap.size 54 3 u (es.take k).length (ecells (es.take k))) (BoxJ w g 27 24 #[.bool lf, .slice (some ⟨b, o, none⟩) n c] #[.bool false, .slice none 0 0] #[.bool lf, u]) [24] [EqN (.pointer (some ⟨g + 1 + 1, 1, none⟩)), EqN (u), EqN (.pointer (some ⟨g, 1, none⟩)), EqN (.slice (some ⟨b, o, none⟩) n c), EqN (.int .i64 (k : Int)), EqN (.pointer (some ⟨b, o + k * 3, none⟩)), EqN (.pointer (some ⟨b, o + k * 3, none⟩)), EqN (.pointer (some ⟨b, o + k * 3, none⟩)), EqN (.int .i64 s), EqN (.pointer (some ⟨g, 1, none⟩)), EqN (.slice (some ⟨b, o, none⟩) n c), EqN (.int .i64 (k : Int)), EqN (.pointer (some ⟨b, o + k * 3, none⟩)), EqN (.pointer (some ⟨b, o + k * 3, none⟩)), EqN (.pointer (some ⟨b, o + k * 3 + 1, none⟩)), EqN (.int .i64 z), EqN (.agg #[.int .i64 s, .int .i64 z]), EqN (.pointer (some ⟨g, 1, none⟩)), EqN (.slice (some ⟨b, o, none⟩) n c), EqN (.int .i64 (k : Int)), EqN (.pointer (some ⟨b, o + k * 3, none⟩)), EqN (.pointer (some ⟨b, o + k * 3 + 2, none⟩)), EqN (.int .i64 p), EqN (.agg #[.int .i64 s, .int .i64 z, .int .i64 p]), RowE ((s, z), p) 54, RowV 54 w.heap.size (es.take (k + 1)), EqN (.pointer (some ⟨g + 1 + 1, 1, none⟩))] (by kernel_rfl) (by decide) (by kernel_rfl) (by kernel_rfl) (by decide) ?_ ?_ ?_ ?_ ?_ ?_
        · exact ⟨BoxJ.grew (belowDrew wr 1) HJ.out.1, owns_mv (F := fun _ => False) HJ.out.2 (Mv.of_below (belowDrew wr 1)) fun _ _ => id⟩
        · exact fun a b hg h => ⟨BoxJ.grew hg h.1, owns_mv (F := fun _ => False) h.2 (Mv.of_below hg) fun _ _ => id⟩
        · exact fun a b => BoxJ.grew
        · repeat' (first | exact List.forall_mem_nil _ | refine List.forall_mem_cons.2 ⟨?_, ?_⟩)
          all_goals
            intro w w' v hw h
            first | exact h | exact RowE.kept h hw | exact RowV.kept h hw
        · simp only [AllLt]
          refine ⟨⟨⟨⟨⟨⟨⟨⟨⟨⟨⟨⟨⟨⟨⟨⟨⟨⟨⟨⟨⟨⟨⟨⟨⟨⟨⟨trivial, ?_⟩, ?_⟩, ?_⟩, ?_⟩, ?_⟩, ?_⟩, ?_⟩, ?_⟩, ?_⟩, ?_⟩, ?_⟩, ?_⟩, ?_⟩, ?_⟩, ?_⟩, ?_⟩, ?_⟩, ?_⟩, ?_⟩, ?_⟩, ?_⟩, ?_⟩, ?_⟩, ?_⟩, ?_⟩, ?_⟩, ?_⟩
          all_goals
            intro o' ho
            simp at ho
            subst ho
            intro ρ w5 hR hL hS hG
            obtain ⟨hl1, hl2, -⟩ := hL
          · refine plainG rfl ?_
            intro bA K Q' hK
            have e3 := hS 3 (by kernel_rfl)
            change ρ (.tmp 3) = _ at e3
            simp only [execOp]
            go_simp
            exact hK _ _ rfl (fun _ => Grew.refl _) (fun h => absurd h (by decide))
          · refine plainG rfl ?_
            intro bA K Q' hK
            have e15 := hG 0 15 (by decide) (by kernel_rfl) (by kernel_rfl)
            change ρ (.tmp 15) = _ at e15
            obtain ⟨y0, y1, y2, y3, y4, y5⟩ := HC.out w5 (hR.any.elim (fun h => h.1) id)
            simp only [execOp]
            go_simp
            exact hK _ _ rfl (fun _ => Grew.refl _) (fun h => absurd h (by decide))
          · refine plainG rfl ?_
            intro bA K Q' hK
            have e1 := hS 1 (by kernel_rfl)
            change ρ (.tmp 1) = _ at e1
            simp only [execOp]
            go_simp
            exact hK _ _ rfl (fun _ => Grew.refl _) (fun h => absurd h (by decide))
          · refine plainG rfl ?_
            intro bA K Q' hK
            have e17 := hG 2 17 (by decide) (by kernel_rfl) (by kernel_rfl)
            change ρ (.tmp 17) = _ at e17
            obtain ⟨y0, y1, y2, y3, y4, y5⟩ := HC.out w5 (hR.any.elim (fun h => h.1) id)
            simp only [execOp]
            go_simp
            exact hK _ _ rfl (fun _ => Grew.refl _) (fun h => absurd h (by decide))
          · refine plainG rfl ?_
            intro bA K Q' hK
            have e4 := hS 4 (by kernel_rfl)
            change ρ (.tmp 4) = _ at e4
            simp only [execOp]
            go_simp
            exact hK _ _ rfl (fun _ => Grew.refl _) (fun h => absurd h (by decide))
          · refine plainG rfl ?_
            intro bA K Q' hK
            have e18 := hG 3 18 (by decide) (by kernel_rfl) (by kernel_rfl)
            have e19 := hG 4 19 (by decide) (by kernel_rfl) (by kernel_rfl)
            change ρ (.tmp 18) = _ at e18
            change ρ (.tmp 19) = _ at e19
            simp only [execOp]
            go_simp
            exact hK _ _ rfl (fun _ => Grew.refl _) (fun h => absurd h (by decide))
          · refine plainG rfl ?_
            intro bA K Q' hK
            have e20 := hG 5 20 (by decide) (by kernel_rfl) (by kernel_rfl)
            change ρ (.tmp 20) = _ at e20
            simp only [execOp]
            go_simp
            exact hK _ _ rfl (fun _ => Grew.refl _) (fun h => absurd h (by decide))
          · refine plainG rfl ?_
            intro bA K Q' hK
            have e21 := hG 6 21 (by decide) (by kernel_rfl) (by kernel_rfl)
            change ρ (.tmp 21) = _ at e21
            simp only [execOp]
            go_simp
            exact hK _ _ rfl (fun _ => Grew.refl _) (fun h => absurd h (by decide))
          · refine plainG rfl ?_
            intro bA K Q' hK
            have e22 := hG 7 22 (by decide) (by kernel_rfl) (by kernel_rfl)
            change ρ (.tmp 22) = _ at e22
            obtain ⟨y0, y1, y2, y3, y4, y5⟩ := HC.out w5 (hR.any.elim (fun h => h.1) id)
            simp only [execOp]
            go_simp
            exact hK _ _ rfl (fun _ => Grew.refl _) (fun h => absurd h (by decide))
          · refine plainG rfl ?_
            intro bA K Q' hK
            have e1 := hS 1 (by kernel_rfl)
            change ρ (.tmp 1) = _ at e1
            simp only [execOp]
            go_simp
            exact hK _ _ rfl (fun _ => Grew.refl _) (fun h => absurd h (by decide))
          · refine plainG rfl ?_
            intro bA K Q' hK
            have e24 := hG 9 24 (by decide) (by kernel_rfl) (by kernel_rfl)
            change ρ (.tmp 24) = _ at e24
            obtain ⟨y0, y1, y2, y3, y4, y5⟩ := HC.out w5 (hR.any.elim (fun h => h.1) id)
            simp only [execOp]
            go_simp
            exact hK _ _ rfl (fun _ => Grew.refl _) (fun h => absurd h (by decide))
          · refine plainG rfl ?_
            intro bA K Q' hK
            have e4 := hS 4 (by kernel_rfl)
            change ρ (.tmp 4) = _ at e4
            simp only [execOp]
            go_simp
            exact hK _ _ rfl (fun _ => Grew.refl _) (fun h => absurd h (by decide))
          · refine plainG rfl ?_
            intro bA K Q' hK
            have e25 := hG 10 25 (by decide) (by kernel_rfl) (by kernel_rfl)
            have e26 := hG 11 26 (by decide) (by kernel_rfl) (by kernel_rfl)
            change ρ (.tmp 25) = _ at e25
            change ρ (.tmp 26) = _ at e26
            simp only [execOp]
            go_simp
            exact hK _ _ rfl (fun _ => Grew.refl _) (fun h => absurd h (by decide))
          · refine plainG rfl ?_
            intro bA K Q' hK
            have e27 := hG 12 27 (by decide) (by kernel_rfl) (by kernel_rfl)
            change ρ (.tmp 27) = _ at e27
            simp only [execOp]
            go_simp
            exact hK _ _ rfl (fun _ => Grew.refl _) (fun h => absurd h (by decide))
          · refine plainG rfl ?_
            intro bA K Q' hK
            have e28 := hG 13 28 (by decide) (by kernel_rfl) (by kernel_rfl)
            change ρ (.tmp 28) = _ at e28
            simp only [execOp]
            go_simp
            exact hK _ _ rfl (fun _ => Grew.refl _) (fun h => absurd h (by decide))
          · refine plainG rfl ?_
            intro bA K Q' hK
            have e29 := hG 14 29 (by decide) (by kernel_rfl) (by kernel_rfl)
            change ρ (.tmp 29) = _ at e29
            obtain ⟨y0, y1, y2, y3, y4, y5⟩ := HC.out w5 (hR.any.elim (fun h => h.1) id)
            simp only [execOp]
            go_simp
            exact hK _ _ rfl (fun _ => Grew.refl _) (fun h => absurd h (by decide))
          · refine plainG rfl ?_
            intro bA K Q' hK
            have e23 := hG 8 23 (by decide) (by kernel_rfl) (by kernel_rfl)
            have e30 := hG 15 30 (by decide) (by kernel_rfl) (by kernel_rfl)
            change ρ (.tmp 23) = _ at e23
            change ρ (.tmp 30) = _ at e30
            simp only [execOp]
            go_simp
            exact hK _ _ rfl (fun _ => Grew.refl _) (fun h => absurd h (by decide))
          · refine plainG rfl ?_
            intro bA K Q' hK
            have e1 := hS 1 (by kernel_rfl)
            change ρ (.tmp 1) = _ at e1
            simp only [execOp]
            go_simp
            exact hK _ _ rfl (fun _ => Grew.refl _) (fun h => absurd h (by decide))
          · refine plainG rfl ?_
            intro bA K Q' hK
            have e32 := hG 17 32 (by decide) (by kernel_rfl) (by kernel_rfl)
            change ρ (.tmp 32) = _ at e32
            obtain ⟨y0, y1, y2, y3, y4, y5⟩ := HC.out w5 (hR.any.elim (fun h => h.1) id)
            simp only [execOp]
            go_simp
            exact hK _ _ rfl (fun _ => Grew.refl _) (fun h => absurd h (by decide))
          · refine plainG rfl ?_
            intro bA K Q' hK
            have e4 := hS 4 (by kernel_rfl)
            change ρ (.tmp 4) = _ at e4
            simp only [execOp]
            go_simp
            exact hK _ _ rfl (fun _ => Grew.refl _) (fun h => absurd h (by decide))
          · refine plainG rfl ?_
            intro bA K Q' hK
            have e33 := hG 18 33 (by decide) (by kernel_rfl) (by kernel_rfl)
            have e34 := hG 19 34 (by decide) (by kernel_rfl) (by kernel_rfl)
            change ρ (.tmp 33) = _ at e33
            change ρ (.tmp 34) = _ at e34
            simp only [execOp]
            go_simp
            exact hK _ _ rfl (fun _ => Grew.refl _) (fun h => absurd h (by decide))
          · refine plainG rfl ?_
            intro bA K Q' hK
            have e35 := hG 20 35 (by decide) (by kernel_rfl) (by kernel_rfl)
            change ρ (.tmp 35) = _ at e35
            simp only [execOp]
            go_simp
            exact hK _ _ rfl (fun _ => Grew.refl _) (fun h => absurd h (by decide))
          · refine plainG rfl ?_
            intro bA K Q' hK
            have e36 := hG 21 36 (by decide) (by kernel_rfl) (by kernel_rfl)
            change ρ (.tmp 36) = _ at e36
            obtain ⟨y0, y1, y2, y3, y4, y5⟩ := HC.out w5 (hR.any.elim (fun h => h.1) id)
            simp only [execOp]
            go_simp
            exact hK _ _ rfl (fun _ => Grew.refl _) (fun h => absurd h (by decide))
          · refine plainG rfl ?_
            intro bA K Q' hK
            have e31 := hG 16 31 (by decide) (by kernel_rfl) (by kernel_rfl)
            have e37 := hG 22 37 (by decide) (by kernel_rfl) (by kernel_rfl)
            change ρ (.tmp 31) = _ at e31
            change ρ (.tmp 37) = _ at e37
            simp only [execOp]
            go_simp
            exact hK _ _ rfl (fun _ => Grew.refl _) (fun h => absurd h (by decide))
          · refine plainG rfl ?_
            intro bA K Q' hK
            have e38 := hG 23 38 (by decide) (by kernel_rfl) (by kernel_rfl)
            change ρ (.tmp 38) = _ at e38
            simp only [execOp]
            go_simp
            exact hK _ _ ⟨_, rfl, heap_alloc_new w5 _⟩ (fun _ => (Grew.refl _).alloc _) (fun h => absurd h (by decide))
          · refine plainG rfl ?_
            intro bA K Q' hK
            have e16 := hG 1 16 (by decide) (by kernel_rfl) (by kernel_rfl)
            have e39 := hG 24 39 (by decide) (by kernel_rfl) (by kernel_rfl)
            change ρ (.tmp 16) = _ at e16
            obtain ⟨bx, h8, hrx⟩ := e39
            obtain ⟨hj1, hj2⟩ := hR.ahead (by decide)
            obtain ⟨v', w6, hr, ho', hgr, -⟩ := run_append_own (P := Try.prog) w5 w.heap.size 22 22 54 i0 (.agg #[.int .i64 0, .int .i64 0, .int .i64 0]) 3 24 Try.underlying22 HI.out.1 HI.out.2.1 HI.out.2.2.1 HI.out.2.2.2 rfl (by decide) u (es.take k).length (ecells (es.take k)) hj2 ⟨bx, 0, none⟩ 1 1 (ecells [((s, z), p)]) rfl (rowE_cells hrx) (ecells_one _) (by have := HKL.out; unfold maxLen; omega) (by have := HKL.out; omega) hj1.1.size
            refine uponAppend (.tmp 16) (.tmp 39) 22 rfl e16 h8 hr ?_
            refine hK _ _ ?_ (fun h => absurd rfl h) (fun _ => ⟨hj1.row hj2 hgr (Nat.le_refl _) (by decide) (by decide), ?_⟩)
            · show w6.ownsRow w.heap.size 54 3 v' (es.take (k + 1)).length (ecells (es.take (k + 1)))
              rw [HSN.out, ecells_app, List.length_append]
              exact ho'
            · simp only [AllLt]
              refine ⟨⟨⟨⟨⟨⟨⟨⟨⟨⟨⟨⟨⟨⟨⟨⟨⟨⟨⟨⟨⟨⟨⟨⟨⟨⟨⟨trivial, ?_⟩, ?_⟩, ?_⟩, ?_⟩, ?_⟩, ?_⟩, ?_⟩, ?_⟩, ?_⟩, ?_⟩, ?_⟩, ?_⟩, ?_⟩, ?_⟩, ?_⟩, ?_⟩, ?_⟩, ?_⟩, ?_⟩, ?_⟩, ?_⟩, ?_⟩, ?_⟩, ?_⟩, ?_⟩, ?_⟩, ?_⟩
              · exact fun _ _ y hy => hy
              · exact fun _ _ y hy => hy
              · exact fun _ _ y hy => hy
              · exact fun _ _ y hy => hy
              · exact fun _ _ y hy => hy
              · exact fun _ _ y hy => hy
              · exact fun _ _ y hy => hy
              · exact fun _ _ y hy => hy
              · exact fun _ _ y hy => hy
              · exact fun _ _ y hy => hy
              · exact fun _ _ y hy => hy
              · exact fun _ _ y hy => hy
              · exact fun _ _ y hy => hy
              · exact fun _ _ y hy => hy
              · exact fun _ _ y hy => hy
              · exact fun _ _ y hy => hy
              · exact fun _ _ y hy => hy
              · exact fun _ _ y hy => hy
              · exact fun _ _ y hy => hy
              · exact fun _ _ y hy => hy
              · exact fun _ _ y hy => hy
              · exact fun _ _ y hy => hy
              · exact fun _ _ y hy => hy
              · exact fun _ _ y hy => hy
              · exact fun _ hl => absurd hl (by decide)
              · exact fun hne _ => absurd rfl hne
              · exact fun _ _ y hy => hy
          · refine plainG rfl ?_
            intro bA K Q' hK
            have e3 := hS 3 (by kernel_rfl)
            change ρ (.tmp 3) = _ at e3
            simp only [execOp]
            go_simp
            exact hK _ _ rfl (fun _ => Grew.refl _) (fun h => absurd h (by decide))
        · intro vv w5 hR hG
          have h1 : vv 26 = .pointer (some ⟨g + 1 + 1, 1, none⟩) := hG.2 (by decide)
          have h2 : RowV 54 w.heap.size (es.take (k + 1)) w5 (vv 25) := hG.1.2 (by decide)
          have HJ5 := hid hR
          have hbx5 := hR.2.2.2
          obtain ⟨v9, hv9⟩ : ∃ v9, v9 = vv 25 := ⟨_, rfl⟩
          rw [← hv9] at h2
          obtain ⟨a9, c9, hs9, -, -, -, -, -⟩ := ownedE h2
          obtain ⟨L1, hL1⟩ : ∃ L1, L1 = (es.take (k + 1)).length := ⟨_, rfl⟩
          have HL1 := hid hL1
          rw [← hL1] at hs9
          subst hs9
          have H2 : Hid (w5.ownsRow w.heap.size 54 3 (.slice a9 L1 c9) L1 (ecells (es.take (k + 1)))) := hid (by rw [hL1]; rw [← hL1]; unfold RowV at h2; rw [← hL1] at h2; exact h2)
          have hco : w5.cell? ⟨g + 1 + 1, 1, none⟩ = some u := (HC.out w5 hR).2.2.1
          have hfo : w5.frozen? ⟨g + 1 + 1, 1, none⟩ = false := frozen_of_row _ _ _ _ _ hbx5
          clear hG hR HC h2 hc1 hL1
          simp [stG, stU, dstAt, Act.put, h1, ← hv9]
          clear h1 hv9
          have HJ9 : Hid (BoxJ w g 27 24 #[.bool lf, .slice (some ⟨b, o, none⟩) n c] #[.bool false, .slice none 0 0] #[.bool lf, .slice a9 L1 c9] (w5.setCell ⟨g + 1 + 1, 1, none⟩ (.slice a9 L1 c9))) := hid (HJ5.out.put HG.out _)
          have HV9 : Hid ((w5.setCell ⟨g + 1 + 1, 1, none⟩ (.slice a9 L1 c9)).ownsRow w.heap.size 54 3 (.slice a9 L1 c9) (es.take (k + 1)).length (ecells (es.take (k + 1)))) := hid (by rw [← HL1.out]; exact HJ5.out.putRow H2.out (by decide) _)
          go_wp2_with fail
          go_roundw
          case rel => exact ⟨k + 1, .slice a9 L1 c9, by omega, by go_num, HJ9.out, HV9.out⟩
          case measure => simp [intOf]; omega
      · exact absurd trivial h0
    · have hkf : (k < n) = False := eq_false (by omega)
      have HKE : Hid (k = n) := hid (by omega)
      clear hlt
      have HU1 : Hid (u.oneCell' = true) := hid (owned_one HJ.out.2)
      have hco1 : wr.cell? ⟨g + 1 + 1, 0, none⟩ = some (.bool lf) := by rw [cell_of_row _ _ _ _ _ _ hbo]; rfl
      have hco2 : wr.cell? ⟨g + 1 + 1, 1, none⟩ = some u := by rw [cell_of_row _ _ _ _ _ _ hbo]; rfl
      go_wp2_with (refine wpList_store_own rfl 24 _ _ rfl (g + 1) #[.bool lf, u] rfl rfl 24 _ HJ.out.1.2.2.1 (by kernel_rfl) rfl (agg_one HU1.out) ?_)
      intro w9 hr9 hg9
      have HB9 : Hid (Below w.heap.size w w9) := hid (HJ.out.1.1.grown hg9 HJ.out.1.1.size fun k hk => by have := HG.out; cases hk; omega)
      have HV9 : Hid (w9.ownsRow w.heap.size 54 3 u (es.take k).length (ecells (es.take k))) := hid (HJ.out.2.kept hg9 (.inr (rowNot (by decide) HJ.out.2 HJ.out.1.2.2.1)))
      clear hg9
      go_wp2_with fail
      exact bodyPost_ret (v := .agg #[.bool lf, u]) (results_cell_row rfl _ _ (g + 1) 24 _ (0, 0) _ rfl hr9 Try.underlying24 rfl (by kernel_rfl)) rfl ⟨⟨_, rfl, u, rfl, by have h := HV9.out; rw [HKE.out, HN.out, List.take_length] at h; exact h⟩, HB9.out⟩
end Go.Proofs.Ytokeihpmagcneaa
