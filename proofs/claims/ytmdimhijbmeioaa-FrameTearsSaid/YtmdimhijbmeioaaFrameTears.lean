/- STATEMENT: a page of which a beginning is a frame's, and the rest another frame's of another epoch, is one of both, or no frame. For all frames and places; bodies of at most 250 bytes. -/
import Derived.Test.YtmdimhijbmeioaaFrP
import Derived.Test.YtmdimhijbmeioaaFrLib2
import Derived.Test.YtmdimhijbmeioaaDevA
import Derived.Test.YtmdimhijbmeioaaGrow2
import Derived.Test.YtmdimhijbmeioaaGrow3
import Derived.Deep.CutBlock
namespace Go.Proofs.Ytmdimhijbmeioaa
open Go.RowKit Go.Inc

/-- Two blocks of different types. -/
theorem row_apart {E T B n : Nat} {w w' : World} {v : Value} {xs : List Value} {g : Nat} {cs : Array Value} {fz : Nat × Nat} (hne : E ≠ T) (hr : w.ownsRow B E 1 v n xs) (hg : w.grownBy w' v.ownBlock) (h : w.heap[g]? = some (.cells cs T fz)) : w'.heap[g]? = some (.cells cs T fz) := by
  refine row_grown h hg ?_
  rcases hr.2 with ⟨rfl, _⟩ | ⟨g1, cap, cur, rfl, _, hg1, _⟩
  · intro e; cases e
  · intro e
    have e' : g1 = g := by simpa [Value.ownBlock] using e
    subst e'
    rw [hg1] at h
    simp at h
    exact hne h.2.1
theorem own_below {E B n : Nat} {w w' : World} {v : Value} {xs : List Value} (hr : w.ownsRow B E 1 v n xs) (hg : w.grownBy w' v.ownBlock) (hB : B ≤ w.heap.size) : Below B w w' := by
  rcases hr.2 with ⟨rfl, _⟩ | ⟨g1, cap, cur, rfl, hb, hg1, _⟩
  · exact ⟨hg.os, hg.tape, hg.output, hg.size, fun k hk => hg.block k (Nat.lt_of_lt_of_le hk hB) (by intro e; cases e)⟩
  · exact grown_is_below hg hb hB
theorem upon_store_own {P : Program} {o : Oper} {w : World} {ρ : Operand → Value} (ty : TypeId) (x y : Operand) (ho : o.op = .store ty x y)
    (g : Nat) (cells : Array Value) (hx : ρ x = .pointer (some ⟨g, 0, none⟩)) (hy : ρ y = .agg cells)
    (t : TypeId) (old : Array Value) (hg : w.heap[g]? = some (.cells old t (0, 0))) (hi : (P.info? ty).map (·.size) = some cells.size)
    (hold : old.size = cells.size) (h1 : cells.all (·.oneCell') = true) {b : Act} {K : Act → World → Prop} {Q : Exit → Act → World → Prop}
    (hk : ∀ w', w'.heap[g]? = some (.cells cells t (0, 0)) → w.grownBy w' (some g) → K (b.put o.dst undef) w') : o.upon P b K Q ((execOp ρ o).run P w) := by
  unfold execOp
  simp only [ho, hx, hy, Instr.storeAt, Instr.sureAddr, Sem.run_bind, Sem.run_pure, Result.andThen_ok, run_storeVar_row w g t ty old cells hg hi hold h1]
  exact hk _ (setRow_heap _ _ _ _ _ _ hg) ⟨rfl, rfl, rfl, by simp, fun k _ hne => setRow_other _ _ _ _ (by rintro rfl; exact hne rfl)⟩

/-- What a world may have become while two fields of one struct are stored. -/
def R2 (g' : Nat) (k2 E P : Int) (s : Option Addr) (n c : Nat) (T : TypeId) (a b : World) : Prop :=
  a.grownBy b (some g')
  ∧ ((∃ y1 y2, a.heap[g']? = some (.cells #[.int .i64 k2, .int .i64 y1, .int .i64 y2, .slice s n c] T (0, 0))) → ∃ y1 y2, b.heap[g']? = some (.cells #[.int .i64 k2, .int .i64 y1, .int .i64 y2, .slice s n c] T (0, 0)))
  ∧ ((∃ y1, a.heap[g']? = some (.cells #[.int .i64 k2, .int .i64 y1, .int .i64 P, .slice s n c] T (0, 0))) → ∃ y1, b.heap[g']? = some (.cells #[.int .i64 k2, .int .i64 y1, .int .i64 P, .slice s n c] T (0, 0)))
  ∧ ((∃ y2, a.heap[g']? = some (.cells #[.int .i64 k2, .int .i64 E, .int .i64 y2, .slice s n c] T (0, 0))) → ∃ y2, b.heap[g']? = some (.cells #[.int .i64 k2, .int .i64 E, .int .i64 y2, .slice s n c] T (0, 0)))
theorem R2.refl {g' : Nat} {k2 E P : Int} {s : Option Addr} {n c : Nat} {T : TypeId} (a : World) : R2 g' k2 E P s n c T a a := ⟨grown_refl _ _, id, id, id⟩
theorem R2.trans {g' : Nat} {k2 E P : Int} {s : Option Addr} {n c : Nat} {T : TypeId} {x y z : World} (h : R2 g' k2 E P s n c T x y) (k : R2 g' k2 E P s n c T y z) : R2 g' k2 E P s n c T x z :=
  ⟨grown_trans h.1 k.1, fun u => k.2.1 (h.2.1 u), fun u => k.2.2.1 (h.2.2.1 u), fun u => k.2.2.2 (h.2.2.2 u)⟩

/-- A struct's store turns no bytes. -/
theorem sl_struct {w w' : World} {g : Nat} {a : Option Addr} {bs : List Nat} {v1 v2 v3 : Int} {s : Option Addr} {n c : Nat} {T : TypeId} {fz : Nat × Nat} (h : Sl (fun _ => True) w a bs) (hg : w.grownBy w' (some g)) (hr : w.heap[g]? = some (.cells #[.int .i64 v1, .int .i64 v2, .int .i64 v3, .slice s n c] T fz)) : Sl (fun _ => True) w' a bs := by
  rcases h with h | ⟨b, off, rfl, hk, hc⟩
  · exact .inl h
  · by_cases h0 : bs = []
    · exact .inl h0
    · by_cases hb : b = g
      · exfalso
        subst hb
        have := hc 0 (by cases bs <;> simp_all)
        rw [cell_of_row w b (off + 0) _ _ _ hr] at this
        have hlt : off + 0 < 4 := by
          rcases Nat.lt_or_ge (off + 0) 4 with h' | h'
          · exact h'
          · rw [Array.getElem?_eq_none (by simpa using h')] at this; cases this
        have h4 : off + 0 = 0 ∨ off + 0 = 1 ∨ off + 0 = 2 ∨ off + 0 = 3 := by omega
        rcases h4 with h' | h' | h' | h' <;> rw [h'] at this <;> simp at this
      · refine Sl.kept (ok := fun x => x = b) (.inr ⟨b, off, rfl, rfl, hc⟩) (fun x hx hlt => ?_) |>.mono fun _ _ _ => trivial
        subst hx
        exact hg.block x hlt (by intro e; cases e; exact hb rfl)

set_option maxRecDepth 20000 in
set_option maxHeartbeats 8000000 in
theorem frameTears_walk (ok ok2 : Nat → Prop) (k e pg : Int) (a : Option Addr) (c : Nat) (bs : List Nat) (k2 e2 pg2 : Int) (a2 : Option Addr) (c2 : Nat) (bs2 : List Nat) (x : Int) (w : World) (hs : Sl ok w a bs) (hby : Bytes bs) (hc : bs.length ≤ c ∧ c ≤ maxLen) (hn : a = none → c = 0)
    (hs2 : Sl ok2 w a2 bs2) (hby2 : Bytes bs2) (hc2 : bs2.length ≤ c2 ∧ c2 ≤ maxLen) (hn2 : a2 = none → c2 = 0) :
    Calls Try.prog 7 #[.agg #[.int .i64 k, .int .i64 e, .int .i64 pg, .slice a bs.length c], .agg #[.int .i64 k2, .int .i64 e2, .int .i64 pg2, .slice a2 bs2.length c2], .int .i64 x] w fun r w' => r = .returned (.bool true) ∧ Below w.heap.size w w' := by
  obtain ⟨wb, hwb⟩ : ∃ wb, wb = (w.alloc (.cells #[.int .i64 k, .int .i64 e, .int .i64 pg, .slice a bs.length c] 24)).alloc (.cells #[.int .i64 k2, .int .i64 e2, .int .i64 pg2, .slice a2 bs2.length c2] 24) := ⟨_, rfl⟩
  have hb : Below w.heap.size w wb := by rw [hwb]; exact ((Below.refl _ _).alloc (Nat.le_refl _) _).alloc (by simp) _
  have R3 : Hid (wb.heap[w.heap.size]? = some (.cells #[.int .i64 k, .int .i64 e, .int .i64 pg, .slice a bs.length c] 24 (0, 0))) := hid (by rw [hwb]; exact heap_alloc2_old w _ _)
  have R4 : Hid (wb.heap[w.heap.size + 1]? = some (.cells #[.int .i64 k2, .int .i64 e2, .int .i64 pg2, .slice a2 bs2.length c2] 24 (0, 0))) := hid (by rw [hwb]; exact heap_alloc2_new w _ _)
  have HS := hid (hs.below hb)
  have HS2 := hid (hs2.below hb)
  obtain ⟨bh, hbh⟩ : ∃ bh, bh = bs.take 250 := ⟨_, rfl⟩
  obtain ⟨bh2, hbh2⟩ : ∃ bh2, bh2 = bs2.take 250 := ⟨_, rfl⟩
  have HC : Hid (∀ x, Grew wb.drew x → x.heap[w.heap.size]? = some (.cells #[.int .i64 k, .int .i64 e, .int .i64 pg, .slice a bs.length c] 24 (0, 0)) ∧ x.heap[w.heap.size + 1]? = some (.cells #[.int .i64 k2, .int .i64 e2, .int .i64 pg2, .slice a2 bs2.length c2] 24 (0, 0))) := hid fun x hx => ⟨row_below (w := wb.drew) R3.out hx, row_below (w := wb.drew) R4.out hx⟩
  have HT1 : Hid (∀ x, Grew wb.drew x → Calls Try.prog 8 #[.agg #[.int .i64 k, .int .i64 e, .int .i64 pg, .slice a bs.length c]] x fun r w' => ∃ v, r = .returned (.agg #[.int .i64 k, .int .i64 e, .int .i64 pg, v]) ∧ Bb (fun b => x.heap.size ≤ b) w' v bh ∧ Below x.heap.size x w') := hid fun x hx => by
    rw [hbh]; exact to_any ok k e pg a c bs x (Sl.below (w := wb.drew) HS.out hx) hc hn
  have HT2 : Hid (∀ x, Grew wb.drew x → Calls Try.prog 8 #[.agg #[.int .i64 k2, .int .i64 e2, .int .i64 pg2, .slice a2 bs2.length c2]] x fun r w' => ∃ v, r = .returned (.agg #[.int .i64 k2, .int .i64 e2, .int .i64 pg2, v]) ∧ Bb (fun b => x.heap.size ≤ b) w' v bh2 ∧ Below x.heap.size x w') := hid fun x hx => by
    rw [hbh2]; exact to_any ok2 k2 e2 pg2 a2 c2 bs2 x (Sl.below (w := wb.drew) HS2.out hx) hc2 hn2
  have HBY : Hid (Bytes bh ∧ Bytes bh2) := hid (by rw [hbh, hbh2]; exact And.intro (hby.take 250) (hby2.take 250))
  have HB := hid hb
  have HWB := hid hwb
  have hat : (IntKind.u64.wrap x).tmod 257 = (((x % 18446744073709551616) % 257).toNat : Int) := by
    have h0 : 0 ≤ IntKind.u64.wrap x := by rw [IntKind.wrap_u64]; omega
    rw [Int.tmod_eq_emod_of_nonneg h0, IntKind.wrap_u64]
    omega
  have hatl : (((x % 18446744073709551616) % 257).toNat : Int) ≤ 256 := by omega
  generalize ((x % 18446744073709551616) % 257).toNat = M at *
  clear hbh hbh2 hs hs2 hc hn hc2 hn2 hby hby2 hb hwb
  go_enter Try.func7, Try.ntmps7
  go_upto_region 1 with fail
  rw [← HWB.out]
  refine wp_region_growsP 6 4 5 (fun u x => u ≠ x) Grew [Eqv' (.agg #[.int .i64 k, .int .i64 e, .int .i64 pg, .slice a bs.length c]), (fun x v => ∃ a1 c1, v = .agg #[.int .i64 k, .int .i64 e, .int .i64 pg, .slice a1 bh.length c1] ∧ Sl (fun _ => True) x a1 bh ∧ bh.length ≤ c1 ∧ c1 ≤ maxLen ∧ (a1 = none → c1 = 0)), Eqv' (.agg #[.int .i64 k2, .int .i64 e2, .int .i64 pg2, .slice a2 bs2.length c2]), (fun x v => ∃ a1 c1, v = .agg #[.int .i64 k2, .int .i64 e2, .int .i64 pg2, .slice a1 bh2.length c1] ∧ Sl (fun _ => True) x a1 bh2 ∧ bh2.length ≤ c1 ∧ c1 ≤ maxLen ∧ (a1 = none → c1 = 0)), (fun x v => ∃ g, v = .pointer (some ⟨g, 0, none⟩) ∧ wb.drew.heap.size ≤ g ∧ x.heap[g]? = some (.cells #[.int .i64 0, .int .i64 0, .int .i64 0, .slice none 0 0] 25 (0, 0))), (fun x v => ∃ g, v = .pointer (some ⟨g, 0, none⟩) ∧ wb.drew.heap.size ≤ g ∧ x.heap[g]? = some (.cells #[.int .i64 0, .int .i64 0, .int .i64 0, .slice none 0 0] 25 (0, 0)))] (by kernel_rfl) (by decide) (by kernel_rfl) (by decide) (by decide) (by decide) Grew.refl (fun _ _ _ => Grew.trans) ?_ ?_ ?_
  · repeat' (first | exact List.forall_mem_nil _ | refine List.forall_mem_cons.2 ⟨?_, ?_⟩)
    all_goals
      intro w w' v hw h
      first
        | exact h
        | (obtain ⟨a', c', rfl, h1, h2⟩ := h; exact ⟨a', c', rfl, h1.below hw, h2⟩)
        | (obtain ⟨g, rfl, h1, h2⟩ := h; exact ⟨g, rfl, h1, row_below h2 hw⟩)
  · simp only [AllLt]
    refine ⟨⟨⟨⟨⟨⟨trivial, ?_⟩, ?_⟩, ?_⟩, ?_⟩, ?_⟩, ?_⟩
    all_goals
      intro o ho
      simp at ho
      subst ho
      intro ρ w2 hR hL hS hG
      obtain ⟨hl1, hl2, -⟩ := hL
    · refine plainG rfl ?_
      intro bA K Q' hK
      have e3 := hS 3 (by kernel_rfl)
      change ρ (.tmp 3) = _ at e3
      have cr := (HC.out w2 hR).1
      have f0 := cell_of_row w2 (w.heap.size) 0 _ _ _ cr
      have f1 := cell_of_row w2 (w.heap.size) 1 _ _ _ cr
      have f2 := cell_of_row w2 (w.heap.size) 2 _ _ _ cr
      have f3 := cell_of_row w2 (w.heap.size) 3 _ _ _ cr
      simp at f0 f1 f2 f3
      clear cr
      simp only [execOp]
      go_simp
      exact hK _ _ rfl (Grew.refl _) (fun h => absurd h (by decide)) (fun h => absurd h (by decide))
    · refine plainG rfl ?_
      intro bA K Q' hK
      have e15 := hG 0 15 (by decide) (by kernel_rfl) (by kernel_rfl)
      change ρ (.tmp 15) = _ at e15
      simp only [execOp]
      go_simp
      refine (HT1.out w2 hR).mono ?_
      rintro r w3 ⟨v, rfl, ⟨a1, c1, rfl, h1, h2⟩, hb⟩
      exact hK _ _ ⟨a1, c1, rfl, h1.mono fun _ _ _ => trivial, h2⟩ hb (fun h => absurd h (by decide)) (fun h => absurd h (by decide))
    · refine plainG rfl ?_
      intro bA K Q' hK
      have e4 := hS 4 (by kernel_rfl)
      change ρ (.tmp 4) = _ at e4
      have cr := (HC.out w2 hR).2
      have f0 := cell_of_row w2 (w.heap.size + 1) 0 _ _ _ cr
      have f1 := cell_of_row w2 (w.heap.size + 1) 1 _ _ _ cr
      have f2 := cell_of_row w2 (w.heap.size + 1) 2 _ _ _ cr
      have f3 := cell_of_row w2 (w.heap.size + 1) 3 _ _ _ cr
      simp at f0 f1 f2 f3
      clear cr
      simp only [execOp]
      go_simp
      exact hK _ _ rfl (Grew.refl _) (fun h => absurd h (by decide)) (fun h => absurd h (by decide))
    · refine plainG rfl ?_
      intro bA K Q' hK
      have e17 := hG 2 17 (by decide) (by kernel_rfl) (by kernel_rfl)
      change ρ (.tmp 17) = _ at e17
      simp only [execOp]
      go_simp
      refine (HT2.out w2 hR).mono ?_
      rintro r w3 ⟨v, rfl, ⟨a1, c1, rfl, h1, h2⟩, hb⟩
      exact hK _ _ ⟨a1, c1, rfl, h1.mono fun _ _ _ => trivial, h2⟩ hb (fun h => absurd h (by decide)) (fun h => absurd h (by decide))
    · refine plainG rfl ?_
      intro bA K Q' hK
      simp only [execOp]
      go_simp
      refine hK _ _ ⟨w2.heap.size, rfl, hR.size, heap_alloc_new w2 _⟩ ((Grew.refl _).alloc _) (fun _ x hx => ?_) (fun h => absurd h (by decide))
      obtain ⟨g, rfl, _, hg⟩ := hx
      intro he
      cases he
      exact absurd (row_lt hg) (Nat.lt_irrefl _)
    · refine plainG rfl ?_
      intro bA K Q' hK
      simp only [execOp]
      go_simp
      refine hK _ _ ⟨w2.heap.size, rfl, hR.size, heap_alloc_new w2 _⟩ ((Grew.refl _).alloc _) (fun h => absurd h (by decide)) (fun _ x hx => ?_)
      obtain ⟨g, rfl, _, hg⟩ := hx
      intro he
      cases he
      exact absurd (row_lt hg) (Nat.lt_irrefl _)
  · intro v w2 hR hG hD
    simp only [AllLt, List.getD_cons_zero, List.getD_cons_succ] at hG
    obtain ⟨⟨⟨⟨⟨⟨-, -⟩, g1⟩, -⟩, g3⟩, g4⟩, g5⟩ := hG
    obtain ⟨a5, c5, e16, hs5, hl5, hm5, hn5⟩ := g1
    obtain ⟨a6, c6, e18, hs6, hl6, hm6, hn6⟩ := g3
    obtain ⟨g, e7, hg0, hrg⟩ := g4
    obtain ⟨g', e8, hg0', hrg'⟩ := g5
    have hne : g ≠ g' := fun h => hD (by rw [e7, e8, h])
    have HB2 : Hid (Below w.heap.size w w2) := hid (Grew.on HB.out hR)
    have HG : Hid (w.heap.size ≤ g ∧ w.heap.size ≤ g') := hid ⟨Nat.le_trans HB.out.size hg0, Nat.le_trans HB.out.size hg0'⟩
    have HR7 := hid hrg
    have HR8 := hid hrg'
    have HNE := hid hne
    have HS5 := hid hs5
    have HS6 := hid hs6
    have HC5 := hid (And.intro hl5 (And.intro hm5 hn5))
    have HC6 := hid (And.intro hl6 (And.intro hm6 hn6))
    clear hD hR HC HT1 HT2 R3 R4 HS HS2 HB HWB hrg hrg' hne hs5 hs6 hl5 hm5 hn5 hl6 hm6 hn6 hg0 hg0'
    simp [stG, stU, dstAt, Act.put, e16, e18, e7, e8]
    refine wpList_store_own rfl 25 _ _ rfl g #[.int .i64 k, .int .i64 e, .int .i64 pg, .slice a5 bh.length c5] rfl rfl 25 _ HR7.out (by kernel_rfl) rfl (by simp [Value.oneCell']) ?_
    intro w3 hr7 hgr3
    have HR7a := hid hr7
    have HR8a := hid (row_grown HR8.out hgr3 (by intro h; cases h; exact HNE.out rfl))
    have HB3 : Hid (Below w.heap.size w w3) := hid (below_grown HB2.out hgr3 HG.out.1 HB2.out.size)
    have HS5a := hid (sl_struct HS5.out hgr3 HR7.out)
    have HS6a := hid (sl_struct HS6.out hgr3 HR7.out)
    clear hr7 hgr3 HR7 HR8 HB2 HS5 HS6
    refine wpList_store_own rfl 25 _ _ rfl g' #[.int .i64 k2, .int .i64 e2, .int .i64 pg2, .slice a6 bh2.length c6] rfl rfl 25 _ HR8a.out (by kernel_rfl) rfl (by simp [Value.oneCell']) ?_
    intro w4 hr8 hgr4
    have HR8 := hid hr8
    have HR7 := hid (row_grown HR7a.out hgr4 (by intro h; cases h; exact HNE.out rfl))
    have HB4 : Hid (Below w.heap.size w w4) := hid (below_grown HB3.out hgr4 HG.out.2 HB3.out.size)
    have HS5 := hid (sl_struct HS5a.out hgr4 HR8a.out)
    have HS6 := hid (sl_struct HS6a.out hgr4 HR8a.out)
    clear hr8 hgr4 HR7a HR8a HB3 HS5a HS6a
    go_upto_region 2 with fail
    obtain ⟨E, hE⟩ : ∃ E, IntKind.i64.wrap (e + 2) = E := ⟨_, rfl⟩
    have HE := hid hE
    have HW4 : Hid (∀ x, R2 g' k2 E pg a6 bh2.length c6 25 w4.drew x → (∃ y1 y2, x.heap[g']? = some (.cells #[.int .i64 k2, .int .i64 y1, .int .i64 y2, .slice a6 bh2.length c6] 25 (0, 0))) ∧ x.cell? ⟨g, 1, none⟩ = some (.int .i64 e) ∧ x.cell? ⟨g, 2, none⟩ = some (.int .i64 pg)) := hid fun x hx => by
      have hr : x.heap[g]? = _ := row_grown (w := w4.drew) HR7.out hx.1 (by intro h; cases h; exact HNE.out rfl)
      exact ⟨hx.2.1 ⟨_, _, HR8.out⟩, cell_of_row x _ 1 _ _ _ hr, cell_of_row x _ 2 _ _ _ hr⟩
    clear hE
    refine wp_region_growsP 9 0 1 (fun _ _ => True) (R2 g' k2 E pg a6 bh2.length c6 25) [Eqv' (.pointer (some ⟨g, 2, none⟩)), Eqv' (.int .i64 pg), Eqv' (.pointer (some ⟨g, 1, none⟩)), Eqv' (.int .i64 e), Eqv' (.int .i64 E), Eqv' (.pointer (some ⟨g', 2, none⟩)), (fun x _ => ∃ y1, x.heap[g']? = some (.cells #[.int .i64 k2, .int .i64 y1, .int .i64 pg, .slice a6 bh2.length c6] 25 (0, 0))), Eqv' (.pointer (some ⟨g', 1, none⟩)), (fun x _ => ∃ y2, x.heap[g']? = some (.cells #[.int .i64 k2, .int .i64 E, .int .i64 y2, .slice a6 bh2.length c6] 25 (0, 0)))] (by kernel_rfl) (by decide) (by kernel_rfl) (by decide) (by decide) (by decide) R2.refl (fun _ _ _ => R2.trans) ?_ ?_ ?_
    · repeat' (first | exact List.forall_mem_nil _ | refine List.forall_mem_cons.2 ⟨?_, ?_⟩)
      all_goals
        intro w w' v hw h
        first
          | exact h
          | exact hw.2.2.1 h
          | exact hw.2.2.2 h
    · simp only [AllLt]
      refine ⟨⟨⟨⟨⟨⟨⟨⟨⟨trivial, ?_⟩, ?_⟩, ?_⟩, ?_⟩, ?_⟩, ?_⟩, ?_⟩, ?_⟩, ?_⟩
      all_goals
        intro o ho
        simp at ho
        subst ho
        intro ρ w2' hR hL hS hG
        obtain ⟨hl1, hl2, -⟩ := hL
      · refine plainG rfl ?_
        intro bA K Q' hK
        have e7 := hS 7 (by kernel_rfl)
        change ρ (.tmp 7) = _ at e7
        simp only [execOp]
        go_simp
        exact hK _ _ rfl (R2.refl _) (fun _ _ _ => trivial) (fun _ _ _ => trivial)
      · refine plainG rfl ?_
        intro bA K Q' hK
        have e19 := hG 0 19 (by decide) (by kernel_rfl) (by kernel_rfl)
        change ρ (.tmp 19) = _ at e19
        have c0 := (HW4.out w2' hR).2.2
        simp only [execOp]
        go_simp
        exact hK _ _ rfl (R2.refl _) (fun _ _ _ => trivial) (fun _ _ _ => trivial)
      · refine plainG rfl ?_
        intro bA K Q' hK
        have e7 := hS 7 (by kernel_rfl)
        change ρ (.tmp 7) = _ at e7
        simp only [execOp]
        go_simp
        exact hK _ _ rfl (R2.refl _) (fun _ _ _ => trivial) (fun _ _ _ => trivial)
      · refine plainG rfl ?_
        intro bA K Q' hK
        have e21 := hG 2 21 (by decide) (by kernel_rfl) (by kernel_rfl)
        change ρ (.tmp 21) = _ at e21
        have c0 := (HW4.out w2' hR).2.1
        simp only [execOp]
        go_simp
        exact hK _ _ rfl (R2.refl _) (fun _ _ _ => trivial) (fun _ _ _ => trivial)
      · refine plainG rfl ?_
        intro bA K Q' hK
        have e22 := hG 3 22 (by decide) (by kernel_rfl) (by kernel_rfl)
        change ρ (.tmp 22) = _ at e22
        simp only [execOp]
        go_simp
        exact hK _ _ (val_int HE.out) (R2.refl _) (fun _ _ _ => trivial) (fun _ _ _ => trivial)
      · refine plainG rfl ?_
        intro bA K Q' hK
        have e8 := hS 8 (by kernel_rfl)
        change ρ (.tmp 8) = _ at e8
        simp only [execOp]
        go_simp
        exact hK _ _ rfl (R2.refl _) (fun _ _ _ => trivial) (fun _ _ _ => trivial)
      · refine plainG rfl ?_
        intro bA K Q' hK
        have e24 := hG 5 24 (by decide) (by kernel_rfl) (by kernel_rfl)
        have e20 := hG 1 20 (by decide) (by kernel_rfl) (by kernel_rfl)
        change ρ (.tmp 24) = _ at e24
        change ρ (.tmp 20) = _ at e20
        obtain ⟨y1, y2, hi⟩ := (HW4.out w2' hR).1
        have c0 := cell_of_row w2' g' 2 _ _ _ hi
        simp at c0
        have z0 := frozen_of_row w2' g' 2 _ _ hi
        simp only [execOp]
        go_simp
        refine hK undef _ ⟨y1, row_set hi 2 _ (by simp)⟩ ⟨grown_setCell (grown_refl _ _) (.inl rfl) _, fun ⟨z1, z2, hz⟩ => ⟨z1, pg, row_set hz 2 _ (by simp)⟩, fun ⟨z1, hz⟩ => ⟨z1, row_set hz 2 _ (by simp)⟩, fun ⟨z2, hz⟩ => ⟨pg, row_set hz 2 _ (by simp)⟩⟩ (fun _ _ _ => trivial) (fun _ _ _ => trivial)
      · refine plainG rfl ?_
        intro bA K Q' hK
        have e8 := hS 8 (by kernel_rfl)
        change ρ (.tmp 8) = _ at e8
        simp only [execOp]
        go_simp
        exact hK _ _ rfl (R2.refl _) (fun _ _ _ => trivial) (fun _ _ _ => trivial)
      · refine plainG rfl ?_
        intro bA K Q' hK
        have e25 := hG 7 25 (by decide) (by kernel_rfl) (by kernel_rfl)
        have e23 := hG 4 23 (by decide) (by kernel_rfl) (by kernel_rfl)
        change ρ (.tmp 25) = _ at e25
        change ρ (.tmp 23) = _ at e23
        obtain ⟨y1, y2, hi⟩ := (HW4.out w2' hR).1
        have c0 := cell_of_row w2' g' 1 _ _ _ hi
        simp at c0
        have z0 := frozen_of_row w2' g' 1 _ _ hi
        simp only [execOp]
        go_simp
        refine hK undef _ ⟨y2, row_set hi 1 _ (by simp)⟩ ⟨grown_setCell (grown_refl _ _) (.inl rfl) _, fun ⟨z1, z2, hz⟩ => ⟨E, z2, row_set hz 1 _ (by simp)⟩, fun ⟨z1, hz⟩ => ⟨E, row_set hz 1 _ (by simp)⟩, fun ⟨z2, hz⟩ => ⟨z2, row_set hz 1 _ (by simp)⟩⟩ (fun _ _ _ => trivial) (fun _ _ _ => trivial)
    · intro v' w5 hR hG _
      simp only [AllLt, List.getD_cons_zero, List.getD_cons_succ] at hG
      obtain ⟨⟨⟨-, ⟨y1, g6⟩⟩, -⟩, ⟨y2, g8⟩⟩ := hG
      have hr8 : w5.heap[g']? = some (.cells #[.int .i64 k2, .int .i64 E, .int .i64 pg, .slice a6 bh2.length c6] 25 (0, 0)) := by
        rw [g6] at g8 ⊢
        simp at g8 ⊢
        exact g8.1
      have HR8n := hid hr8
      have HR7n : Hid (w5.heap[g]? = some (.cells #[.int .i64 k, .int .i64 e, .int .i64 pg, .slice a5 bh.length c5] 25 (0, 0))) := hid (row_grown (w := w4.drew) HR7.out hR.1 (by intro h; cases h; exact HNE.out rfl))
      have HS5n := hid (sl_struct (w := w4.drew) HS5.out hR.1 HR8.out)
      have HS6n := hid (sl_struct (w := w4.drew) HS6.out hR.1 HR8.out)
      have HB5 : Hid (Below w.heap.size w w5) := hid (below_grown (HB4.out.drew) hR.1 HG.out.2 HB4.out.size)
      have HEX := hid (encode_any (fun _ => True) k e pg a5 c5 bh w5 HS5n.out HBY.out.1 ⟨HC5.out.1, HC5.out.2.1⟩ HC5.out.2.2)
      have q0 := cell_of_row w5 g 0 _ _ _ HR7n.out
      have q1 := cell_of_row w5 g 1 _ _ _ HR7n.out
      have q2 := cell_of_row w5 g 2 _ _ _ HR7n.out
      have q3 := cell_of_row w5 g 3 _ _ _ HR7n.out
      simp at q0 q1 q2 q3
      clear g6 g8 hr8 hR HW4 HR7 HR8 HS5 HS6 HB4
      simp [stG, stU, dstAt, Act.put]
      go_wp2_with fail
      refine HEX.out.mono ?_
      rintro r w6 ⟨⟨v6, rfl, hv6⟩, hb6⟩
      have HV6 := hid hv6
      have HR7 := hid (row_below HR7n.out hb6)
      have HR8 := hid (row_below HR8n.out hb6)
      have HS5 := hid (HS5n.out.below hb6)
      have HS6 := hid (HS6n.out.below hb6)
      have HB6 : Hid (Below w.heap.size w w6) := hid (HB5.out.trans (hb6.mono HB5.out.size))
      have HEY := hid (encode_any (fun _ => True) k2 E pg a6 c6 bh2 w6 HS6.out HBY.out.2 ⟨HC6.out.1, HC6.out.2.1⟩ HC6.out.2.2)
      clear q0 q1 q2 q3 hb6 hv6 HEX HR7n HR8n HS5n HS6n HB5
      have q0 := cell_of_row w6 g' 0 _ _ _ HR8.out
      have q1 := cell_of_row w6 g' 1 _ _ _ HR8.out
      have q2 := cell_of_row w6 g' 2 _ _ _ HR8.out
      have q3 := cell_of_row w6 g' 3 _ _ _ HR8.out
      simp at q0 q1 q2 q3
      go_wp2_with fail
      refine HEY.out.mono ?_
      rintro r w7 ⟨⟨v7, rfl, hv7⟩, hb7⟩
      have HV6a := hid (HV6.out.below hb7)
      have HV7 := hid hv7
      have HR7a := hid (row_below HR7.out hb7)
      have HR8a := hid (row_below HR8.out hb7)
      have HS5a := hid (HS5.out.below hb7)
      have HS6a := hid (HS6.out.below hb7)
      have HB7 : Hid (Below w.heap.size w w7) := hid (HB6.out.trans (hb7.mono HB6.out.size))
      clear q0 q1 q2 q3 hb7 hv7 HEY HR7 HR8 HS5 HS6 HB6 HV6
      by_cases hqx : chk ⟨k, e, pg, bh⟩ = 0
      · by_cases hqy : chk ⟨k2, E, pg, bh2⟩ = 0
        · rw [hqx, hqy]
          have HV6 := HV6a
          have HV7' := HV7
          rw [hqx, if_pos rfl] at HV6
          rw [hqy, if_pos rfl] at HV7'
          have HFX : Hid (Fr.ok ⟨k, e, pg, bh⟩) := hid ((chk_zero _).1 hqx)
          have HFY : Hid (Fr.ok ⟨k2, E, pg, bh2⟩) := hid ((chk_zero _).1 hqy)
          obtain ⟨X, hX⟩ : ∃ X, X = enc ⟨k, e, pg, bh⟩ := ⟨_, rfl⟩
          obtain ⟨Y, hY⟩ : ∃ Y, Y = enc ⟨k2, E, pg, bh2⟩ := ⟨_, rfl⟩
          have HLX : Hid (X.length = 256) := hid (by rw [hX]; exact enc_len HFX.out.2.2.2.2.2.2)
          have HLY : Hid (Y.length = 256) := hid (by rw [hY]; exact enc_len HFY.out.2.2.2.2.2.2)
          rw [← hX] at HV6
          rw [← hY] at HV7'
          have HX := hid hX
          have HY := hid hY
          obtain ⟨a8, c8, rfl, hs8, hl8, hm8, hn8⟩ := HV6.out
          obtain ⟨a9, c9, rfl, hs9, hl9, hm9, hn9⟩ := HV7'.out
          rw [HLX.out] at hl8 ⊢
          rw [HLY.out] at hl9 ⊢
          have HS8 := hid hs8
          have HS9 := hid hs9
          have HC8 := hid (And.intro hm8 hn8)
          have HC9 := hid (And.intro hm9 hn9)
          clear HV6 HV7' HV6a HV7 hX hY hs8 hm8 hn8 hs9 hm9 hn9 hqx hqy
          obtain ⟨ad8, rfl⟩ : ∃ ad, a8 = some ad := by
            cases a8 with
            | none => exact absurd (HC8.out.2 rfl) (by omega)
            | some ad => exact ⟨ad, rfl⟩
          obtain ⟨ad9, rfl⟩ : ∃ ad, a9 = some ad := by
            cases a9 with
            | none => exact absurd (HC9.out.2 rfl) (by omega)
            | some ad => exact ⟨ad, rfl⟩
          have hM8 : (M : Int) ≤ (c8 : Int) := by omega
          have hM9 : (M : Int) ≤ (c9 : Int) := by omega
          obtain ⟨Z, hZ⟩ : ∃ Z, Z = Y.take M ++ X.drop M := ⟨_, rfl⟩
          have HZ := hid hZ
          have HZL : Hid (Z.length = 256) := hid (by rw [hZ, List.length_append, List.length_take, List.length_drop, HLX.out, HLY.out]; omega)
          have HZB : Hid (Bytes Z) := hid (by rw [hZ, HX.out, HY.out]; exact ((enc_bytes (f := ⟨k2, E, pg, bh2⟩) HBY.out.2).take _).append ((enc_bytes (f := ⟨k, e, pg, bh⟩) HBY.out.1).drop _))
          obtain ⟨F, hF⟩ : ∃ F, F = decF Z := ⟨_, rfl⟩
          obtain ⟨D, hD⟩ : ∃ D, D = decE Z := ⟨_, rfl⟩
          have HF := hid hF
          have HD := hid hD
          have HYM : Hid (Sl (fun _ => True) w7 (some ad9) (Y.take M)) := hid ((HS9.out.front M).mono fun _ _ _ => trivial)
          have HYL : Hid ((u8s (Y.take M)).length = M) := hid (by rw [u8s_length, List.length_take, HLY.out]; omega)
          have HXL : Hid ((u8s (X.drop M)).length = 256 - M) := hid (by rw [u8s_length, List.length_drop, HLX.out])
          have HI8 := hid infoU8
          have HX7 : Hid (Sl (fun _ => True) w7 (if c8 = M then some ad8 else (some ad8).map fun x => x.add M) (X.drop M)) := hid ((HS8.out.behind M _ (fun h => by rw [HLX.out] at h; rw [if_neg (by omega)])).mono fun _ _ _ => trivial)
          clear hZ hF hD
          go_upto_region 10 with fail
          refine wp_region_growsL 16 13 14 13 (fun x y => x = y) [(4, 0), (8, 0), (8, 4), (14, 0), (14, 4), (14, 8), (14, 9), (14, 11), (14, 13)] [(fun x v => Row 5 w7.heap.size x v []), Eqv' (.slice (some ad9) 256 c9), Eqv' (.int .i64 M), Eqv' (.slice (some ad9) M c9), (fun x v => Row 5 w7.heap.size x v (Y.take M)), Eqv' (.slice (some ad8) 256 c8), Eqv' (.int .i64 M), (fun _ v => ∃ ad, v = .slice (some ad) (256 - M) (c8 - M) ∧ Sl (fun _ => True) w7 (some ad) (X.drop M)), (fun x v => Row 5 w7.heap.size x v Z), (fun x v => ∃ a c, v = .tuple #[.agg #[.int .i64 F.k, .int .i64 F.e, .int .i64 F.p, .slice a F.b.length c], .int .i64 D] ∧ Sl (fun _ => True) x a F.b), (fun x v => ∃ a c, v = .tuple #[.agg #[.int .i64 F.k, .int .i64 F.e, .int .i64 F.p, .slice a F.b.length c], .int .i64 D] ∧ Sl (fun _ => True) x a F.b), (fun x v => ∃ a c, v = .agg #[.int .i64 F.k, .int .i64 F.e, .int .i64 F.p, .slice a F.b.length c] ∧ Sl (fun _ => True) x a F.b), Eqv' (.int .i64 D), (fun x v => ∃ g, v = .pointer (some ⟨g, 0, none⟩) ∧ w7.heap.size ≤ g ∧ x.heap[g]? = some (.cells #[.int .i64 0, .int .i64 0, .int .i64 0, .slice none 0 0] 25 (0, 0))), (fun x v => ∃ g a c, v = .pointer (some ⟨g, 0, none⟩) ∧ w7.heap.size ≤ g ∧ x.heap[g]? = some (.cells #[.int .i64 F.k, .int .i64 F.e, .int .i64 F.p, .slice a F.b.length c] 25 (0, 0)) ∧ Sl (fun _ => True) x a F.b), Eqv' (.int .i64 D)] (by kernel_rfl) (by decide) (by kernel_rfl) (by kernel_rfl) ?_ (by kernel_rfl) (by decide) (by decide) ?_ ?_ ?_
          · exact List.contains_iff_mem.1 (by kernel_rfl)
          · repeat' (first | exact List.forall_mem_nil _ | refine List.forall_mem_cons.2 ⟨?_, ?_⟩)
            all_goals
              intro w w' v hw h
              first
                | exact h
                | exact Row.kept h hw
                | (obtain ⟨a, c, h1, h2⟩ := h; exact ⟨a, c, h1, h2.below hw⟩)
                | (obtain ⟨g, rfl, h1, h2⟩ := h; exact ⟨g, rfl, h1, row_below h2 hw⟩)
                | (obtain ⟨g, a, c, h0, h1, h2, h3⟩ := h; exact ⟨g, a, c, h0, h1, row_below h2 hw, h3.below hw⟩)
          · simp only [AllLt]
            refine ⟨⟨⟨⟨⟨⟨⟨⟨⟨⟨⟨⟨⟨⟨⟨⟨trivial, ?_⟩, ?_⟩, ?_⟩, ?_⟩, ?_⟩, ?_⟩, ?_⟩, ?_⟩, ?_⟩, ?_⟩, ?_⟩, ?_⟩, ?_⟩, ?_⟩, ?_⟩, ?_⟩
            all_goals
              intro o ho
              simp at ho
              subst ho
              intro ρ w2' hR hL hS hG
              obtain ⟨hl1, hl2, -⟩ := hL
            · refine plainG rfl ?_
              intro bA K Q' hK
              simp only [execOp]
              go_simp
              refine hK _ _ ?_ (.inl ((Grew.refl _).alloc _)) (fun h => absurd h (by decide))
              exact ⟨rfl, .inr ⟨_, 0, #[], rfl, hR.size, heap_alloc_new w2' _, Nat.le_refl _, Nat.zero_le _, rfl, rfl⟩⟩
            · refine plainG rfl ?_
              intro bA K Q' hK
              have e11 := hS 11 (by kernel_rfl)
              change ρ (.tmp 11) = _ at e11
              simp only [execOp]
              go_simp
              exact hK _ _ rfl (.inl (Grew.refl _)) (fun h => absurd h (by decide))
            · refine plainG rfl ?_
              intro bA K Q' hK
              have e2 := hS 2 (by kernel_rfl)
              change ρ (.tmp 2) = _ at e2
              simp only [execOp]
              go_simp
              exact hK _ _ rfl (.inl (Grew.refl _)) (fun h => absurd h (by decide))
            · refine plainG rfl ?_
              intro bA K Q' hK
              have e57 := hG 1 57 (by decide) (by kernel_rfl) (by kernel_rfl)
              have e58 := hG 2 58 (by decide) (by kernel_rfl) (by kernel_rfl)
              change ρ (.tmp 57) = _ at e57
              change ρ (.tmp 58) = _ at e58
              simp only [execOp]
              go_simp
              exact hK _ _ rfl (.inl (Grew.refl _)) (fun h => absurd h (by decide))
            · refine plainG rfl ?_
              intro bA K Q' hK
              have e56 := hG 0 56 (by decide) (by kernel_rfl) (by kernel_rfl)
              have e59 := hG 3 59 (by decide) (by kernel_rfl) (by kernel_rfl)
              change ρ (.tmp 59) = _ at e59
              have hrow : Row 5 w7.heap.size w2' (ρ (.tmp 56)) [] := e56
              have hsz2 : w7.heap.size ≤ w2'.heap.size := hR.size
              obtain ⟨adx, hadx⟩ : ∃ ad, ad = ad9 := ⟨_, rfl⟩
              rw [← hadx] at e59
              have hslx : Sl (fun _ => True) w2' (some adx) (Y.take M) := by rw [hadx]; exact Sl.below (w := w7.drew) HYM.out hR
              obtain ⟨iT, hi0, hi1, hi2, hi3⟩ := info_parts HI8.out
              obtain ⟨v', w3, hr, ho', hgr, -⟩ := run_append_own (P := Try.prog) w2' w7.heap.size 22 22 5 iT (.int .u8 0) 1 1 Try.underlying22 hi0 hi1 hi2 hi3 rfl (by decide) _ 0 ([]) hrow adx (M) _ (u8s (Y.take M)) (by rw [HYL.out]; omega) (hslx.cells adx rfl) (u8s_one _) (by unfold maxLen; omega) (by omega) hsz2
              refine upon_append (.tmp 56) (.tmp 59) 22 rfl rfl e59 hr ?_
              refine hK _ _ ?_ (.inr ⟨own_below hrow hgr hsz2, ?_⟩) (fun h => absurd h (by decide))
              · show Row 5 w7.heap.size w3 v' (Y.take M)
                unfold Row
                rw [show (Y.take M).length = M from by have := HYL.out; rwa [u8s_length] at this]
                simpa using ho'
              · simp only [AllLt]
                refine ⟨⟨⟨⟨⟨⟨⟨⟨⟨⟨⟨⟨⟨⟨⟨⟨trivial, ?_⟩, ?_⟩, ?_⟩, ?_⟩, ?_⟩, ?_⟩, ?_⟩, ?_⟩, ?_⟩, ?_⟩, ?_⟩, ?_⟩, ?_⟩, ?_⟩, ?_⟩, ?_⟩
                · exact nokeep (by kernel_rfl)
                · exact fun _ x hx => hx
                · exact fun _ x hx => hx
                · exact fun _ x hx => hx
                · exact nokeep (by kernel_rfl)
                · exact fun _ x hx => hx
                · exact fun _ x hx => hx
                · exact fun _ x hx => hx
                · exact nokeep (by kernel_rfl)
                · exact nokeep (by kernel_rfl)
                · exact nokeep (by kernel_rfl)
                · exact nokeep (by kernel_rfl)
                · exact nokeep (by kernel_rfl)
                · exact fun _ x hx => by obtain ⟨g1, rfl, h1, h2⟩ := hx; exact ⟨g1, rfl, h1, row_apart (show 5 ≠ 25 by decide) hrow hgr h2⟩
                · exact nokeep (by kernel_rfl)
                · exact nokeep (by kernel_rfl)
            · refine plainG rfl ?_
              intro bA K Q' hK
              have e9 := hS 9 (by kernel_rfl)
              change ρ (.tmp 9) = _ at e9
              simp only [execOp]
              go_simp
              exact hK _ _ rfl (.inl (Grew.refl _)) (fun h => absurd h (by decide))
            · refine plainG rfl ?_
              intro bA K Q' hK
              have e2 := hS 2 (by kernel_rfl)
              change ρ (.tmp 2) = _ at e2
              simp only [execOp]
              go_simp
              exact hK _ _ rfl (.inl (Grew.refl _)) (fun h => absurd h (by decide))
            · refine plainG rfl ?_
              intro bA K Q' hK
              have e61 := hG 5 61 (by decide) (by kernel_rfl) (by kernel_rfl)
              have e62 := hG 6 62 (by decide) (by kernel_rfl) (by kernel_rfl)
              change ρ (.tmp 61) = _ at e61
              change ρ (.tmp 62) = _ at e62
              simp only [execOp]
              go_simp
              refine hK _ _ ?_ (.inl (Grew.refl _)) (fun h => absurd h (by decide))
              have h7 := HX7.out
              split
              · rename_i hc
                rw [if_pos hc] at h7
                exact ⟨_, rfl, h7⟩
              · rename_i hc
                rw [if_neg hc] at h7
                exact ⟨_, rfl, h7⟩
            · refine plainG rfl ?_
              intro bA K Q' hK
              have e60 := hG 4 60 (by decide) (by kernel_rfl) (by kernel_rfl)
              have e63 := hG 7 63 (by decide) (by kernel_rfl) (by kernel_rfl)
              obtain ⟨adx, e63, hx7⟩ := e63
              have hrow0 : Row 5 w7.heap.size w2' (ρ (.tmp 60)) (Y.take M) := e60
              have hrow : w2'.ownsRow w7.heap.size 5 1 (ρ (.tmp 60)) M (u8s (Y.take M)) := by unfold Row at hrow0; rwa [show (Y.take M).length = M from by have := HYL.out; rwa [u8s_length] at this] at hrow0
              have hsz2 : w7.heap.size ≤ w2'.heap.size := hR.size
              have hslx : Sl (fun _ => True) w2' (some adx) (X.drop M) := Sl.below (w := w7.drew) hx7 hR
              obtain ⟨iT, hi0, hi1, hi2, hi3⟩ := info_parts HI8.out
              obtain ⟨v', w3, hr, ho', hgr, -⟩ := run_append_own (P := Try.prog) w2' w7.heap.size 22 22 5 iT (.int .u8 0) 1 1 Try.underlying22 hi0 hi1 hi2 hi3 rfl (by decide) _ M (u8s (Y.take M)) hrow adx (256 - M) _ (u8s (X.drop M)) (by rw [HXL.out]; omega) (hslx.cells adx rfl) (u8s_one _) (by unfold maxLen; omega) (by omega) hsz2
              refine upon_append (.tmp 60) (.tmp 63) 22 rfl rfl e63 hr ?_
              refine hK _ _ ?_ (.inr ⟨own_below hrow hgr hsz2, ?_⟩) (fun h => absurd h (by decide))
              · show Row 5 w7.heap.size w3 v' Z
                unfold Row
                rw [HZL.out, HZ.out, u8s_append]
                rwa [show M + (256 - M) = 256 from by omega] at ho'
              · simp only [AllLt]
                refine ⟨⟨⟨⟨⟨⟨⟨⟨⟨⟨⟨⟨⟨⟨⟨⟨trivial, ?_⟩, ?_⟩, ?_⟩, ?_⟩, ?_⟩, ?_⟩, ?_⟩, ?_⟩, ?_⟩, ?_⟩, ?_⟩, ?_⟩, ?_⟩, ?_⟩, ?_⟩, ?_⟩
                · exact nokeep (by kernel_rfl)
                · exact fun _ x hx => hx
                · exact fun _ x hx => hx
                · exact fun _ x hx => hx
                · exact nokeep (by kernel_rfl)
                · exact fun _ x hx => hx
                · exact fun _ x hx => hx
                · exact fun _ x hx => hx
                · exact nokeep (by kernel_rfl)
                · exact nokeep (by kernel_rfl)
                · exact nokeep (by kernel_rfl)
                · exact nokeep (by kernel_rfl)
                · exact nokeep (by kernel_rfl)
                · exact fun _ x hx => by obtain ⟨g1, rfl, h1, h2⟩ := hx; exact ⟨g1, rfl, h1, row_apart (show 5 ≠ 25 by decide) hrow hgr h2⟩
                · exact nokeep (by kernel_rfl)
                · exact nokeep (by kernel_rfl)
            · refine plainG rfl ?_
              intro bA K Q' hK
              have e64 := hG 8 64 (by decide) (by kernel_rfl) (by kernel_rfl)
              have hrow : Row 5 w7.heap.size w2' (ρ (.tmp 64)) Z := e64
              obtain ⟨a64, c64, e64', hn64, hl64, hm64, hs64⟩ := hrow.sl
              clear e64
              simp only [execOp]
              go_simp
              refine (decode_any _ a64 c64 Z w2' hs64 HZB.out ⟨hl64, hm64⟩).mono ?_
              rintro r w3 ⟨⟨v9, rfl, hv9⟩, hb9⟩
              obtain ⟨a, c, rfl, hs9, -⟩ := hv9
              rw [← HF.out] at hs9
              refine hK _ _ ⟨a, c, ?_, hs9.mono fun _ _ _ => trivial⟩ (.inl hb9) (fun h => absurd h (by decide))
              rw [HF.out, HD.out]
            · refine plainG rfl ?_
              intro bA K Q' hK
              have e65 := hG 9 65 (by decide) (by kernel_rfl) (by kernel_rfl)
              obtain ⟨a, c, e65, hs⟩ := e65
              simp only [execOp]
              go_simp
              exact hK _ _ ⟨a, c, rfl, hs⟩ (.inl (Grew.refl _)) (fun h => absurd h (by decide))
            · refine plainG rfl ?_
              intro bA K Q' hK
              have e55 := hG 10 55 (by decide) (by kernel_rfl) (by kernel_rfl)
              obtain ⟨a, c, e55, hs⟩ := e55
              simp only [execOp]
              go_simp
              exact hK _ _ ⟨a, c, rfl, hs⟩ (.inl (Grew.refl _)) (fun h => absurd h (by decide))
            · refine plainG rfl ?_
              intro bA K Q' hK
              have e55 := hG 10 55 (by decide) (by kernel_rfl) (by kernel_rfl)
              obtain ⟨a, c, e55, hs⟩ := e55
              simp only [execOp]
              go_simp
              exact hK _ _ rfl (.inl (Grew.refl _)) (fun h => absurd h (by decide))
            · refine plainG rfl ?_
              intro bA K Q' hK
              simp only [execOp]
              go_simp
              exact hK _ _ ⟨w2'.heap.size, rfl, hR.size, heap_alloc_new w2' _⟩ (.inl ((Grew.refl _).alloc _)) (fun h => absurd h (by decide))
            · refine plainG rfl ?_
              intro bA K Q' hK
              have e13 := hG 13 13 (by decide) (by kernel_rfl) (by kernel_rfl)
              have e66 := hG 11 66 (by decide) (by kernel_rfl) (by kernel_rfl)
              obtain ⟨gz, e13, hgz, hrz⟩ := e13
              obtain ⟨az, cz, e66, hsz⟩ := e66
              refine upon_store_own 25 (.tmp 13) (.tmp 66) rfl gz #[.int .i64 F.k, .int .i64 F.e, .int .i64 F.p, .slice az F.b.length cz] e13 e66 25 _ hrz (by kernel_rfl) rfl (by simp [Value.oneCell']) ?_
              intro w3 hr3 hg3
              refine hK (.pointer (some ⟨gz, 0, none⟩)) _ ⟨gz, az, cz, rfl, hgz, hr3, sl_struct hsz hg3 hrz⟩ (.inr ⟨grown_is_below hg3 hgz hR.size, ?_⟩) (fun _ => e13)
              simp only [AllLt]
              refine ⟨⟨⟨⟨⟨⟨⟨⟨⟨⟨⟨⟨⟨⟨⟨⟨trivial, ?_⟩, ?_⟩, ?_⟩, ?_⟩, ?_⟩, ?_⟩, ?_⟩, ?_⟩, ?_⟩, ?_⟩, ?_⟩, ?_⟩, ?_⟩, ?_⟩, ?_⟩, ?_⟩
              · exact nokeep (by kernel_rfl)
              · exact fun _ x hx => hx
              · exact fun _ x hx => hx
              · exact fun _ x hx => hx
              · exact nokeep (by kernel_rfl)
              · exact fun _ x hx => hx
              · exact fun _ x hx => hx
              · exact fun _ x hx => hx
              · exact nokeep (by kernel_rfl)
              · exact nokeep (by kernel_rfl)
              · exact fun _ x hx => by obtain ⟨a, c, h1, h2⟩ := hx; exact ⟨a, c, h1, sl_struct h2 hg3 hrz⟩
              · exact nokeep (by kernel_rfl)
              · exact fun _ x hx => hx
              · exact nokeep (by kernel_rfl)
              · exact nokeep (by kernel_rfl)
              · exact nokeep (by kernel_rfl)
            · refine plainG rfl ?_
              intro bA K Q' hK
              have e67 := hG 12 67 (by decide) (by kernel_rfl) (by kernel_rfl)
              change ρ (.tmp 67) = _ at e67
              simp only [execOp]
              go_simp
              exact hK _ _ rfl (.inl (Grew.refl _)) (fun h => absurd h (by decide))
          · intro v10 w8 hB hG hDD
            simp only [AllLt] at hG
            have g15 := hG.2 (by decide)
            have g14 := hG.1.2 (by decide)
            change v10 15 = _ at g15
            obtain ⟨gz, az, cz, e14, hgz, hrz, hsz⟩ := g14
            have e13 : v10 13 = _ := hDD.trans e14
            have hB' : Below w7.heap.size w7 w8 := ((Below.refl w7.heap.size w7).drew).trans hB
            have HR7 := hid (row_below HR7a.out hB')
            have HR8 := hid (row_below HR8a.out hB')
            have HS5 := hid (HS5a.out.below hB')
            have HS6 := hid (HS6a.out.below hB')
            have HB8 : Hid (Below w.heap.size w w8) := hid (HB7.out.trans (hB'.mono HB7.out.size))
            have HRZ := hid hrz
            have HSZ := hid hsz
            have HKN := hid (known_any w8)
            clear hG hDD hB hB' e14 hrz hsz HR7a HR8a HS5a HS6a HB7 HYM HYL HXL HI8 HX7 HS8 HS9 hgz
            simp [stG, stU, dstAt, Act.put, g15, e13]
            go_wp2_with fail
            refine HKN.out.mono ?_
            rintro r w9 ⟨rfl, hb9⟩
            have HB9 : Hid (Below w.heap.size w w9) := hid (HB8.out.trans (hb9.mono HB8.out.size))
            have HR7b := hid (row_below HR7.out hb9)
            have HR8b := hid (row_below HR8.out hb9)
            have HRZb := hid (row_below HRZ.out hb9)
            have HS5b := hid (HS5.out.below hb9)
            have HS6b := hid (HS6.out.below hb9)
            have HSZb := hid (HSZ.out.below hb9)
            clear hb9 HKN HB8 HR7 HR8 HRZ HS5 HS6 HSZ
            by_cases hD0 : D = 0
            · have hdz : decE Z = 0 := by rw [← HD.out]; exact hD0
              have hfz : F = picked Z := by rw [HF.out]; unfold decF; rw [if_pos hdz]
              have hor : F = ⟨k, e, pg, bh⟩ ∨ F = ⟨k2, E, pg, bh2⟩ := by
                have he2 : E = e + 2 := by
                  have h1 := HE.out
                  have h2 := HFX.out.2.2.1
                  have h3 := HFX.out.2.2.2.1
                  dsimp only at h2 h3
                  rw [IntKind.wrap_i64] at h1
                  omega
                rw [hfz, HZ.out, HX.out, HY.out]
                rw [HZ.out, HX.out, HY.out] at hdz
                exact torn (x := ⟨k, e, pg, bh⟩) (y := ⟨k2, E, pg, bh2⟩) HFX.out HFY.out HBY.out.1 HBY.out.2 he2 M (by omega) hdz
              have HFB : Hid (Bytes F.b) := hid (by rw [hfz]; exact picked_bytes HZB.out)
              subst hD0
              by_cases hfx : F = ⟨k, e, pg, bh⟩
              · have h := fsame_is (fun _ => True) (fun _ => True) F ⟨k, e, pg, bh⟩ az a5 cz c5 w9 HSZb.out HS5b.out HFB.out HBY.out.1 true (by simpa using hfx)
                dsimp only at h
                have HSM := hid h
                clear h hfx hor hfz hdz
                have q0 := cell_of_row w9 _ 0 _ _ _ HRZb.out
                have q1 := cell_of_row w9 _ 1 _ _ _ HRZb.out
                have q2 := cell_of_row w9 _ 2 _ _ _ HRZb.out
                have q3 := cell_of_row w9 _ 3 _ _ _ HRZb.out
                have p0 := cell_of_row w9 _ 0 _ _ _ HR7b.out
                have p1 := cell_of_row w9 _ 1 _ _ _ HR7b.out
                have p2 := cell_of_row w9 _ 2 _ _ _ HR7b.out
                have p3 := cell_of_row w9 _ 3 _ _ _ HR7b.out
                simp at q0 q1 q2 q3 p0 p1 p2 p3
                go_wp2_with fail
                refine HSM.out.mono ?_
                rintro r w10 ⟨rfl, hb10⟩
                have HB10 : Hid (Below w.heap.size w w10) := hid (HB9.out.trans (hb10.mono HB9.out.size))
                clear hb10 HSM HB9 q0 q1 q2 q3 p0 p1 p2 p3
                go_wp2_with fail
                go_ret
                exact ⟨rfl, HB10.out⟩
              · have hfy : F = ⟨k2, E, pg, bh2⟩ := hor.resolve_left hfx
                have h := fsame_is (fun _ => True) (fun _ => True) F ⟨k, e, pg, bh⟩ az a5 cz c5 w9 HSZb.out HS5b.out HFB.out HBY.out.1 false (by simpa using hfx)
                dsimp only at h
                have HSM := hid h
                have HFY2 := hid hfy
                clear h hfx hor hfz hdz hfy
                have q0 := cell_of_row w9 _ 0 _ _ _ HRZb.out
                have q1 := cell_of_row w9 _ 1 _ _ _ HRZb.out
                have q2 := cell_of_row w9 _ 2 _ _ _ HRZb.out
                have q3 := cell_of_row w9 _ 3 _ _ _ HRZb.out
                have p0 := cell_of_row w9 _ 0 _ _ _ HR7b.out
                have p1 := cell_of_row w9 _ 1 _ _ _ HR7b.out
                have p2 := cell_of_row w9 _ 2 _ _ _ HR7b.out
                have p3 := cell_of_row w9 _ 3 _ _ _ HR7b.out
                simp at q0 q1 q2 q3 p0 p1 p2 p3
                go_wp2_with fail
                refine HSM.out.mono ?_
                rintro r w10 ⟨rfl, hb10⟩
                have HB10 : Hid (Below w.heap.size w w10) := hid (HB9.out.trans (hb10.mono HB9.out.size))
                have h := fsame_is (fun _ => True) (fun _ => True) F ⟨k2, E, pg, bh2⟩ az a6 cz c6 w10 (HSZb.out.below hb10) (HS6b.out.below hb10) HFB.out HBY.out.2 true (by simpa using HFY2.out)
                dsimp only at h
                have HSM2 := hid h
                have HRZc := hid (row_below HRZb.out hb10)
                have HR8c := hid (row_below HR8b.out hb10)
                clear hb10 HSM HB9 q0 q1 q2 q3 p0 p1 p2 p3 h
                have q0 := cell_of_row w10 _ 0 _ _ _ HRZc.out
                have q1 := cell_of_row w10 _ 1 _ _ _ HRZc.out
                have q2 := cell_of_row w10 _ 2 _ _ _ HRZc.out
                have q3 := cell_of_row w10 _ 3 _ _ _ HRZc.out
                have p0 := cell_of_row w10 _ 0 _ _ _ HR8c.out
                have p1 := cell_of_row w10 _ 1 _ _ _ HR8c.out
                have p2 := cell_of_row w10 _ 2 _ _ _ HR8c.out
                have p3 := cell_of_row w10 _ 3 _ _ _ HR8c.out
                simp at q0 q1 q2 q3 p0 p1 p2 p3
                go_wp2_with fail
                refine HSM2.out.mono ?_
                rintro r w11 ⟨rfl, hb11⟩
                have HB11 : Hid (Below w.heap.size w w11) := hid (HB10.out.trans (hb11.mono HB10.out.size))
                clear hb11 HSM2 HB10 q0 q1 q2 q3 p0 p1 p2 p3
                go_wp2_with fail
                go_ret
                exact ⟨rfl, HB11.out⟩
            · have hq1 : (((D : Nat) : Int) != 0) = true := by rw [bne_iff_ne]; omega
              clear hD0
              go_wp2_with fail
              go_ret
              exact ⟨rfl, HB9.out⟩
        · have hq1 : (((chk ⟨k2, E, pg, bh2⟩ : Nat) : Int) != 0) = true := by rw [bne_iff_ne]; omega
          have HKN := hid (known_any w7)
          rw [hqx]
          clear hqx hqy HV6a HV7
          generalize chk ⟨k2, E, pg, bh2⟩ = q at *
          go_wp2_with fail
          refine HKN.out.mono ?_
          rintro r w9 ⟨rfl, hb9⟩
          have HB9 : Hid (Below w.heap.size w w9) := hid (HB7.out.trans (hb9.mono HB7.out.size))
          clear hb9 HKN
          go_wp2_with fail
          go_ret
          exact ⟨rfl, HB9.out⟩
      · have hq1 : (((chk ⟨k, e, pg, bh⟩ : Nat) : Int) != 0) = true := by rw [bne_iff_ne]; omega
        have HKN := hid (known_any w7)
        clear hqx HV6a HV7
        generalize chk ⟨k, e, pg, bh⟩ = q at *
        generalize chk ⟨k2, E, pg, bh2⟩ = q2 at *
        go_wp2_with fail
        refine HKN.out.mono ?_
        rintro r w9 ⟨rfl, hb9⟩
        have HB9 : Hid (Below w.heap.size w w9) := hid (HB7.out.trans (hb9.mono HB7.out.size))
        clear hb9 HKN
        go_wp2_with fail
        go_ret
        exact ⟨rfl, HB9.out⟩
namespace frameTears
open Go.ChangeShapes Go.WideShapes Go.ChangeAt

theorem own : ownKnob Try.prog.godebug = none := by kernel_rfl
theorem laidOut : laidOutB Try.prog = true := by kernel_rfl

set_option maxRecDepth 100000 in
theorem lifted (os : Os) (started : os.Started) (H : Type) (enc : TypeId × Value → H) :
    ReturnsInHanded {} Try.checked os 7 .any (Rows.frameTearsSpec.pre6 enc Try.prog Try.f7 Rows.frameTearsRow.domain false) (Rows.frameTearsSpec.post enc Try.prog Try.f7 false true false false) := by
  refine returnsInHanded_of_change (C := Try.checked) own started (by kernel_rfl) Try.func7
    (ChangeSpec.witness6 (enc := enc) (C := Try.checked) false ⟨#[], #[.agg #[.int .i64 0, .int .i64 0, .int .i64 0, .slice none 0 0], .agg #[.int .i64 0, .int .i64 0, .int .i64 0, .slice none 0 0], .int .i64 0], []⟩ 8 (by kernel_rfl) (by kernel_rfl) (by kernel_rfl) (by kernel_rfl)) ?_
  intro W base args ds gs before hval0 hW hcnd _
  have hval : ∀ (j : Nat) t v, Try.f7.params[j]? = some t → args[j]? = some v → Value.okWide Try.prog W .any base t v := hval0
  have hW' := hW
  obtain ⟨p, q, hA0, hV, rfl, hfz, hnd⟩ := hW
  have hA : DataW.TrodAll enc Try.prog W 0 (fun _ => true) true Try.f7.params.toList args.toList ds p := hA0
  rw [Try.params7] at hA hval
  obtain ⟨v0, vs0, d0, ds0, p0, q0, hargs, rfl, rfl, h0, r0⟩ := trodAll_cons hA
  obtain ⟨v1, vs1, d1, ds1, p1, q1, rfl, rfl, rfl, h1, r1⟩ := trodAll_cons r0
  obtain ⟨v2, vs2, d2, ds2, p2, q2, rfl, rfl, rfl, h2, r2⟩ := trodAll_cons r1
  obtain ⟨rfl, rfl, rfl⟩ := trodAll_nil r2
  obtain rfl : args = #[v0, v1, v2] := by cases args; simp_all
  obtain ⟨rfl, rfl⟩ := trodVars_none hV
  have k0 := h0
  have lt0 : ∀ x ∈ p0, x.block < W.heap.size := by obtain ⟨m, hm⟩ := k0; exact DataW.trod_lt m _ _ _ hm
  obtain ⟨K0, E0, G0, a0, cap0, bs0, rfl, hKE0, hby0, hsl0, hlc0, hcm0, hn0⟩ := open_fr (hval 0 24 v0 rfl rfl) h0
  have k1 := h1
  have lt1 : ∀ x ∈ p1, x.block < W.heap.size := by obtain ⟨m, hm⟩ := k1; exact DataW.trod_lt m _ _ _ hm
  obtain ⟨K1, E1, G1, a1, cap1, bs1, rfl, hKE1, hby1, hsl1, hlc1, hcm1, hn1⟩ := open_fr (hval 1 24 v1 rfl rfl) h1
  obtain ⟨x2, rfl, rfl, rfl, wf2⟩ := open_int Try.underlying3 (hval 2 3 v2 rfl rfl) h2
  have hx2 := bounds_i64 wf2
  clear hA0 hval0
  refine (frameTears_walk _ _ K0 E0 G0 a0 cap0 bs0 K1 E1 G1 a1 cap1 bs1 x2 W hsl0 hby0 ⟨hlc0, hcm0⟩ hn0 hsl1 hby1 ⟨hlc1, hcm1⟩ hn1).mono fun e W' ⟨he, bel⟩ => ?_
  subst he
  exact ⟨_, rfl, _, _, _, [], _, [], hW', trodAll_mk1 (shut_bool Try.underlying4 _), (trodAll_cons_mk (Below.trod laidOut (by kernel_rfl) (of_decide_eq_true (by kernel_rfl)) k0 bel lt0) (trodAll_cons_mk (Below.trod laidOut (by kernel_rfl) (of_decide_eq_true (by kernel_rfl)) k1 bel lt1) (trodAll_cons_mk (shut_int Try.underlying3 wf2) trodAll_mk0))), rfl, bel.frame _, fun h => by cases h⟩

/-- THE STATEMENT. -/
theorem proved : Rows.FrameTearsSaid :=
  OpenClaim.holds_of_wide 7 Try.f7 rfl rfl rfl rfl rfl rfl rfl ⟨rfl, rfl, rfl, rfl, rfl⟩ rfl rfl rfl rfl rfl (by kernel_rfl) Try.func7 (by kernel_rfl)
    (of_decide_eq_true (by kernel_rfl)) (by unfold Func.isWrapper; first | (rw [if_pos (by decide +kernel)]; kernel_rfl) | (rw [if_neg (by decide +kernel)]; exact ⟨rfl, rfl⟩))
    (fun os started H enc _ => lifted os started H enc)
end frameTears
end Go.Proofs.Ytmdimhijbmeioaa
