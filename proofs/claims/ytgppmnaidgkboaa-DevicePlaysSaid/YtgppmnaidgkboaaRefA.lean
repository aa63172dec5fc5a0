/- CONTRACTS OF THE DOCUMENT's DEVICE: what it is in memory; one more; power; the image. -/
import Derived.Test.YtgppmnaidgkboaaDevS
import Derived.Test.YtgppmnaidgkboaaDevT
namespace Go.Proofs.Ytgppmnaidgkboaa
open Go.RowKit Go.Inc

/-- The cells of what waits. -/
def lcells (L : List (Int × Item)) : List Value := L.flatMap fun e => [.int .i64 e.1, e.2.val]
theorem lcells_len (L : List (Int × Item)) : (lcells L).length = L.length * 2 := by
  induction L with
  | nil => rfl
  | cons k r ih => unfold lcells at ih ⊢; rw [List.flatMap_cons, List.length_append, ih, List.length_cons]; simp; omega
theorem lcells_append (A B : List (Int × Item)) : lcells (A ++ B) = lcells A ++ lcells B := by unfold lcells; rw [List.flatMap_append]
theorem lcells_get {L : List (Int × Item)} {i : Nat} {e : Int × Item} (h : L[i]? = some e) : (lcells L)[i * 2]? = some (.int .i64 e.1) ∧ (lcells L)[i * 2 + 1]? = some e.2.val := by
  induction L generalizing i with
  | nil => cases h
  | cons a r ih =>
    unfold lcells
    rw [List.flatMap_cons]
    cases i with
    | zero => cases h; exact ⟨rfl, rfl⟩
    | succ i =>
      have h' : r[i]? = some e := h
      have := ih h'
      unfold lcells at this
      refine ⟨?_, ?_⟩ <;> (rw [List.getElem?_append_right (by simp; omega)])
      · rw [← this.1]; congr 1; simp; omega
      · rw [← this.2]; congr 1; simp; omega

/-- The document's device's cells. -/
def RefRow (w : World) (h : Nat) (ldv llv : Value) (off : Bool) (left r s t : Int) : Prop := w.heap[h]? = some (.cells #[ldv, llv, .bool off, .int .i64 left, .int .i64 r, .int .i64 s, .int .i64 t] 49 (0, 0))
section
variable {w : World} {h : Nat} {ldv llv : Value} {off : Bool} {left r s t : Int}
theorem RefRow.c0 (H : RefRow w h ldv llv off left r s t) : w.cell? ⟨h, 0, none⟩ = some ldv := cell_of_row w h 0 _ _ _ H
theorem RefRow.c1 (H : RefRow w h ldv llv off left r s t) : w.cell? ⟨h, 1, none⟩ = some llv := cell_of_row w h 1 _ _ _ H
theorem RefRow.c2 (H : RefRow w h ldv llv off left r s t) : w.cell? ⟨h, 2, none⟩ = some (.bool off) := cell_of_row w h 2 _ _ _ H
theorem RefRow.c3 (H : RefRow w h ldv llv off left r s t) : w.cell? ⟨h, 3, none⟩ = some (.int .i64 left) := cell_of_row w h 3 _ _ _ H
theorem RefRow.c4 (H : RefRow w h ldv llv off left r s t) : w.cell? ⟨h, 4, none⟩ = some (.int .i64 r) := cell_of_row w h 4 _ _ _ H
theorem RefRow.c5 (H : RefRow w h ldv llv off left r s t) : w.cell? ⟨h, 5, none⟩ = some (.int .i64 s) := cell_of_row w h 5 _ _ _ H
theorem RefRow.c6 (H : RefRow w h ldv llv off left r s t) : w.cell? ⟨h, 6, none⟩ = some (.int .i64 t) := cell_of_row w h 6 _ _ _ H
theorem RefRow.fz (H : RefRow w h ldv llv off left r s t) (i : Nat) : w.frozen? ⟨h, i, none⟩ = false := frozen_of_row w h i _ _ H
theorem RefRow.s0 (H : RefRow w h ldv llv off left r s t) (v : Value) : RefRow (w.setCell ⟨h, 0, none⟩ v) h v llv off left r s t := row_set H 0 _ (by simp)
theorem RefRow.s1 (H : RefRow w h ldv llv off left r s t) (v : Value) : RefRow (w.setCell ⟨h, 1, none⟩ v) h ldv v off left r s t := row_set H 1 _ (by simp)
theorem RefRow.s2 (H : RefRow w h ldv llv off left r s t) (x : Bool) : RefRow (w.setCell ⟨h, 2, none⟩ (.bool x)) h ldv llv x left r s t := row_set H 2 _ (by simp)
theorem RefRow.s3 (H : RefRow w h ldv llv off left r s t) (x : Int) : RefRow (w.setCell ⟨h, 3, none⟩ (.int .i64 x)) h ldv llv off x r s t := row_set H 3 _ (by simp)
theorem RefRow.s4 (H : RefRow w h ldv llv off left r s t) (x : Int) : RefRow (w.setCell ⟨h, 4, none⟩ (.int .i64 x)) h ldv llv off left x s t := row_set H 4 _ (by simp)
theorem RefRow.s5 (H : RefRow w h ldv llv off left r s t) (x : Int) : RefRow (w.setCell ⟨h, 5, none⟩ (.int .i64 x)) h ldv llv off left r x t := row_set H 5 _ (by simp)
theorem RefRow.s6 (H : RefRow w h ldv llv off left r s t) (x : Int) : RefRow (w.setCell ⟨h, 6, none⟩ (.int .i64 x)) h ldv llv off left r s x := row_set H 6 _ (by simp)
end

/-- The document's state. -/
structure Rs where
  P : List (List Nat)
  L : List (Int × List Nat)
  off : Bool
  left : Int
  r : Int
  s : Int
  t : Int
def Good (K : Nat → Nat) (w : World) (q : Item) : Prop := Sl (fun b => K b = 4) w q.a q.b ∧ q.b.length = 256 ∧ 256 ≤ q.c ∧ q.c ≤ maxLen
/-- .. in memory. -/
structure RefAt (K : Nat → Nat) (w : World) (h : Nat) (ldv llv : Value) (P : List Item) (L : List (Int × Item)) (R : Rs) : Prop where
  row : RefRow w h ldv llv R.off R.left R.r R.s R.t
  ld : w.ownsRow 0 31 1 ldv P.length (P.map Item.val)
  ll : w.ownsRow 0 83 2 llv L.length (lcells L)
  pall : ∀ q ∈ P, Good K w q
  lall : ∀ e ∈ L, Good K w e.2 ∧ 0 ≤ e.1 ∧ e.1 < P.length
  pe : R.P = P.map Item.b
  le : R.L = L.map fun e => (e.1, e.2.b)
  kh : K h = 1
  kp : ∀ b, ldv.ownBlock = some b → K b = 2
  kl : ∀ b, llv.ownBlock = some b → K b = 3
  lt : ∀ b, K b ≠ 0 → b < w.heap.size
  lb : -1 ≤ R.left ∧ R.left ≤ 9223372036854775807
  cnt : 0 ≤ R.r ∧ 0 ≤ R.s ∧ 0 ≤ R.t
def Rf (K : Nat → Nat) (w : World) (h : Nat) (R : Rs) : Prop := ∃ ldv llv P L, RefAt K w h ldv llv P L R

section
variable {K : Nat → Nat} {w w' : World} {h : Nat} {ldv llv : Value} {P : List Item} {L : List (Int × Item)} {R : Rs}
theorem Good.mv {F : Nat → Prop} {q : Item} (hq : Good K w q) (hm : Mv F w w') (hF : ∀ b, F b → K b ≠ 4) : Good K w' q :=
  ⟨hq.1.mv hm fun b hb hf => hF b hf hb, hq.2⟩
theorem RefAt.keep (H : RefAt K w h ldv llv P L R) {F : Nat → Prop} (hm : Mv F w w') (hF : ∀ b, F b → K b = 0) : RefAt K w' h ldv llv P L R := by
  have hn : ∀ b, K b ≠ 0 → ¬ F b := fun b hb hf => hb (hF b hf)
  exact { H with
    row := hm.row H.row (hn h (by rw [H.kh]; decide))
    ld := owns_mv H.ld hm fun b hb => hn b (by rw [H.kp b hb]; decide)
    ll := owns_mv H.ll hm fun b hb => hn b (by rw [H.kl b hb]; decide)
    pall := fun q hq => (H.pall q hq).mv hm fun b hb => by rw [hF b hb]; decide
    lall := fun e he => ⟨(H.lall e he).1.mv hm fun b hb => by rw [hF b hb]; decide, (H.lall e he).2⟩
    lt := fun b hb => Nat.lt_of_lt_of_le (H.lt b hb) hm.size }
/-- Its own row has turned. -/
theorem RefAt.turn (H : RefAt K w h ldv llv P L R) {F : Nat → Prop} (hm : Mv F w w') (hF : ∀ b, F b → b = h) {off : Bool} {left r s t : Int} (hr : RefRow w' h ldv llv off left r s t) (hl : -1 ≤ left ∧ left ≤ 9223372036854775807) (hc : 0 ≤ r ∧ 0 ≤ s ∧ 0 ≤ t) :
    RefAt K w' h ldv llv P L { R with off := off, left := left, r := r, s := s, t := t } := by
  have hn : ∀ b, K b ≠ 1 → ¬ F b := fun b hb hf => hb (by rw [hF b hf]; exact H.kh)
  exact { H with
    row := hr
    ld := owns_mv H.ld hm fun b hb => hn b (by rw [H.kp b hb]; decide)
    ll := owns_mv H.ll hm fun b hb => hn b (by rw [H.kl b hb]; decide)
    pall := fun q hq => (H.pall q hq).mv hm fun b hb => by rw [hF b hb, H.kh]; decide
    lall := fun e he => ⟨(H.lall e he).1.mv hm fun b hb => by rw [hF b hb, H.kh]; decide, (H.lall e he).2⟩
    lt := fun b hb => Nat.lt_of_lt_of_le (H.lt b hb) hm.size
    lb := hl
    cnt := hc }
/-- .. and what waits is gone. -/
theorem RefAt.emptied (H : RefAt K w h ldv llv P L R) {F : Nat → Prop} (hm : Mv F w w') (hF : ∀ b, F b → b = h) {off : Bool} {left r s t : Int} (hr : RefRow w' h ldv (.slice none 0 0) off left r s t) (hl : -1 ≤ left ∧ left ≤ 9223372036854775807) (hc : 0 ≤ r ∧ 0 ≤ s ∧ 0 ≤ t) :
    RefAt K w' h ldv (.slice none 0 0) P [] { R with L := [], off := off, left := left, r := r, s := s, t := t } := by
  have hn : ∀ b, K b ≠ 1 → ¬ F b := fun b hb hf => hb (by rw [hF b hf]; exact H.kh)
  exact { H with
    row := hr
    ld := owns_mv H.ld hm fun b hb => hn b (by rw [H.kp b hb]; decide)
    ll := World.ownsRow_nil _ _ _ _
    pall := fun q hq => (H.pall q hq).mv hm fun b hb => by rw [hF b hb, H.kh]; decide
    lall := fun e he => (by cases he)
    le := rfl
    kl := fun b hb => (by cases hb)
    lt := fun b hb => Nat.lt_of_lt_of_le (H.lt b hb) hm.size
    lb := hl
    cnt := hc }
theorem RefAt.new (H : RefAt K w h ldv llv P L R) {b : Nat} (hb : w.heap.size ≤ b) : K b = 0 := by
  rcases Nat.eq_zero_or_pos (K b) with h0 | h0
  · exact h0
  · have := H.lt b (by omega); omega
theorem RefAt.plen (H : RefAt K w h ldv llv P L R) : R.P.length = P.length := by rw [H.pe, List.length_map]
theorem RefAt.llen (H : RefAt K w h ldv llv P L R) : R.L.length = L.length := by rw [H.le, List.length_map]
/-- What its slices look like. -/
theorem RefAt.lshape (H : RefAt K w h ldv llv P L R) : ∃ a c, llv = .slice a L.length c ∧ L.length ≤ c ∧ c ≤ maxLen ∧ ∀ i e, L[i]? = some e → ∃ b, a = some ⟨b, 0, none⟩ ∧ K b = 3 ∧ w.cell? ⟨b, i * 2, none⟩ = some (.int .i64 e.1) ∧ w.cell? ⟨b, i * 2 + 1, none⟩ = some (.slice e.2.a 256 e.2.c) := by
  rcases H.ll.2 with ⟨h0, h1⟩ | ⟨g, cap, cur, h0, _, hg, hnc, hm, _⟩
  · refine ⟨none, 0, by rw [h0, h1], by omega, by unfold maxLen; omega, fun i e he => ?_⟩
    have := (List.getElem?_eq_some_iff.1 he).1; omega
  · refine ⟨_, cap, h0, hnc, hm, fun i e he => ⟨g, rfl, H.kl g (by rw [h0]; rfl), ?_⟩⟩
    obtain ⟨q0, q1⟩ := lcells_get he
    have c0 := H.ll.cells (g := g) (by rw [h0]; rfl) _ _ q0
    have c1 := H.ll.cells (g := g) (by rw [h0]; rfl) _ _ q1
    rw [Addr.add_lit] at c0 c1
    simp only [Nat.zero_add] at c0 c1
    exact ⟨c0, c1⟩
theorem RefAt.pshape (H : RefAt K w h ldv llv P L R) (hp : 0 < P.length) : ∃ b c, ldv = .slice (some ⟨b, 0, none⟩) P.length c ∧ P.length ≤ c ∧ c ≤ maxLen ∧ K b = 2 ∧ ∀ i q, P[i]? = some q → w.cell? ⟨b, i, none⟩ = some (.slice q.a 256 q.c) := by
  rcases H.ld.2 with ⟨h0, h1⟩ | ⟨g, cap, cur, h0, _, hg, hnc, hm, _⟩
  · omega
  · refine ⟨g, cap, h0, hnc, hm, H.kp g (by rw [h0]; rfl), fun i q hq => ?_⟩
    have c0 := H.ld.cells (g := g) (by rw [h0]; rfl) i (.slice q.a 256 q.c) (by rw [List.getElem?_map, hq]; rfl)
    rw [Addr.add_lit] at c0
    simpa only [Nat.zero_add] using c0
end

/-- Is one more let be done; what is left then. -/
def useLeft (left : Int) : Int := if 0 < left then left - 1 else left
theorem use_any {K w h ldv llv P L R} (H : RefAt K w h ldv llv P L R) :
    Calls Try.prog 33 #[.pointer (some ⟨h, 0, none⟩)] w fun e w' => e = .returned (.bool (decide (R.left ≠ 0))) ∧ RefAt K w' h ldv llv P L { R with off := R.off || decide (R.left = 0), left := useLeft R.left } ∧ Mv (fun b => b = h) w w' := by
  have c2 := H.row.c2
  have c3 := H.row.c3
  have f2 := H.row.fz 2
  have f3 := H.row.fz 3
  have HH := hid H
  have hlb := H.lb
  obtain ⟨left, hl⟩ : ∃ left, left = R.left := ⟨_, rfl⟩
  rw [← hl] at c3 hlb ⊢
  have HL := hid hl
  clear H hl
  go_enter Try.func33, Try.ntmps33
  by_cases h0 : left = 0
  · subst h0
    go_wp2
    go_ret
    have hm : Mv (fun b => b = h) w (w.setCell ⟨h, 2, none⟩ (.bool true)) := Mv.of_grown (r := some h) (grown_setCell (grown_refl _ _) (.inl rfl) _) fun g h _ => by cases h; rfl
    have := HH.out.turn hm (fun _ h => h) (HH.out.row.s2 true) HH.out.lb HH.out.cnt
    refine ⟨rfl, ?_, hm⟩
    rw [← HL.out] at this
    simpa [useLeft] using this
  · have hd : (left == 0) = false := by simpa using h0
    by_cases h1 : 0 < left
    · have h1' : decide (0 < left) = true := decide_eq_true h1
      go_wp2
      go_ret
      have hm : Mv (fun b => b = h) w (w.setCell ⟨h, 3, none⟩ (.int .i64 (left - 1))) := Mv.of_grown (r := some h) (grown_setCell (grown_refl _ _) (.inl rfl) _) fun g h _ => by cases h; rfl
      have := HH.out.turn hm (fun _ h => h) (HH.out.row.s3 (left - 1)) (by omega) HH.out.cnt
      refine ⟨ret_bool (by simp [h0]), ?_, hm⟩
      simpa [useLeft, h0, h1] using this
    · have h1' : decide (0 < left) = false := decide_eq_false h1
      have hu := hid (show useLeft left = left from if_neg h1)
      go_wp2
      go_ret
      refine ⟨rfl, ?_, Mv.refl _ _⟩
      have := HH.out
      obtain ⟨RP, RL, off, l, r, s, t⟩ := R
      have hll : left = l := HL.out
      subst hll
      rw [hu.out]
      simpa [h0] using this

theorem rpower_any {K w h ldv llv P L R} (H : RefAt K w h ldv llv P L R) :
    Calls Try.prog 21 #[.pointer (some ⟨h, 0, none⟩)] w fun e w' => e = .returned (.tuple #[]) ∧ RefAt K w' h ldv (.slice none 0 0) P [] { R with L := [], off := false, left := -1 } ∧ Mv (fun b => b = h) w w' := by
  have c1 := H.row.c1
  have c2 := H.row.c2
  have c3 := H.row.c3
  have f1 := H.row.fz 1
  have f2 := H.row.fz 2
  have f3 := H.row.fz 3
  have HH := hid H
  clear H
  go_enter Try.func21, Try.ntmps21
  go_wp2
  go_end0
  have h1 := HH.out.row.s2 false
  have h2 := h1.s3 (-1)
  have h3 := h2.s1 (.slice none 0 0)
  have g1 : w.grownBy (w.setCell ⟨h, 2, none⟩ (.bool false)) (some h) := grown_setCell (grown_refl _ _) (.inl rfl) _
  have g2 := grown_setCell g1 (p := ⟨h, 3, none⟩) (.inl rfl) (.int .i64 (-1))
  have g3 := grown_setCell g2 (p := ⟨h, 1, none⟩) (.inl rfl) (.slice none 0 0)
  have hm := Mv.of_grown (F := fun b => b = h) g3 fun g h _ => by cases h; rfl
  exact ⟨rfl, HH.out.emptied hm (fun _ h => h) h3 (by decide) HH.out.cnt, hm⟩
end Go.Proofs.Ytgppmnaidgkboaa
