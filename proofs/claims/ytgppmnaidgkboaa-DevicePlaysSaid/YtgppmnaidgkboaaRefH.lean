/- CONTRACTS OF THE DOCUMENT's DEVICE: a crash. -/
import Derived.Test.YtgppmnaidgkboaaRefG
namespace Go.Proofs.Ytgppmnaidgkboaa
open Go.RowKit Go.Inc

/-- A block more for bytes. -/
theorem RefAt.recol {K w h ldv llv P L R} (H : RefAt K w h ldv llv P L R) {w4 : World} (hb : Below w.heap.size w w4) {g : Nat} (hg : w.heap.size ≤ g ∧ g < w4.heap.size) : RefAt (fun b => if b = g then 4 else K b) w4 h ldv llv P L R := by
  have H' := H.keep (Mv.of_below (F := fun _ => False) hb) fun _ h => h.elim
  have hK : ∀ b, K b ≠ 0 → b ≠ g := fun b h0 e => by have := H.lt b h0; omega
  have hG : ∀ q : Item, Good K w4 q → Good (fun b => if b = g then 4 else K b) w4 q := fun q hq => ⟨hq.1.mono fun b h4 _ => by
    show (if b = g then 4 else K b) = 4
    split
    · rfl
    · exact h4, hq.2⟩
  have hs : ∀ b, K b ≠ 0 → (if b = g then 4 else K b) = K b := fun b h0 => if_neg (hK b h0)
  exact { H' with
    pall := fun q hq => hG q (H'.pall q hq)
    lall := fun e he => ⟨hG _ (H'.lall e he).1, (H'.lall e he).2⟩
    kh := by show (if h = g then 4 else K h) = 1; rw [hs h (by rw [H.kh]; decide)]; exact H.kh
    kp := fun b hb => by show (if b = g then 4 else K b) = 2; have := H.kp b hb; rw [hs b (by rw [this]; decide)]; exact this
    kl := fun b hb => by show (if b = g then 4 else K b) = 3; have := H.kl b hb; rw [hs b (by rw [this]; decide)]; exact this
    lt := fun b hb => by
      have hb' : (if b = g then 4 else K b) ≠ 0 := hb
      split at hb'
      · rename_i e; rw [e]; exact hg.2
      · exact H'.lt b hb' }

/-- In the midst of a crash: the pages are F's. -/
def CrAt (K : Nat → Nat) (w wr : World) (h : Nat) (ldv llv : Value) (p : Nat) (L : List (Int × Item)) (R : Rs) (F : Nat → List Nat) : Prop :=
  ∃ K2 P2, RefAt K2 wr h ldv llv P2 L { R with P := P2.map Item.b } ∧ (∀ b, b < w.heap.size → K2 b = K b) ∧ P2.length = p ∧ (∀ k, k < p → (P2.map Item.b).getD k [] = F k) ∧ Mv (fun b => K b ≠ 0) w wr
section
variable {K K1 : Nat → Nat} {w w0 w1 w3 wr : World} {h p : Nat} {ldv llv : Value} {P : List Item} {L : List (Int × Item)} {R : Rs} {F : Nat → List Nat}
theorem RefAt.cr (H : RefAt K w h ldv llv P L R) : CrAt K w w h ldv llv P.length L R fun k => R.P.getD k [] :=
  ⟨K, P, by rw [← H.pe]; exact H, fun _ _ => rfl, rfl, fun k _ => by rw [H.pe], Mv.refl _ _⟩
theorem RefAt.cr' (H : RefAt K w h ldv llv P L { R with P := P.map Item.b }) (hl : P.length = p) : CrAt K w w h ldv llv p L R fun k => (P.map Item.b).getD k [] :=
  ⟨K, P, H, fun _ _ => rfl, hl, fun _ _ => rfl, Mv.refl _ _⟩
theorem CrAt.row (H : CrAt K w wr h ldv llv p L R F) : RefRow wr h ldv llv R.off R.left R.r R.s R.t := let ⟨_, _, h, _⟩ := H; h.row
theorem CrAt.same (H : CrAt K w wr h ldv llv p L R F) {G : Nat → List Nat} (hG : ∀ k, k < p → F k = G k) : CrAt K w wr h ldv llv p L R G :=
  let ⟨K2, P2, h1, h2, h3, h4, h5⟩ := H
  ⟨K2, P2, h1, h2, h3, fun k hk => (h4 k hk).trans (hG k hk), h5⟩
theorem CrAt.mv (H : CrAt K w wr h ldv llv p L R F) : Mv (fun b => K b ≠ 0) w wr := let ⟨_, _, _, _, _, _, h⟩ := H; h
theorem CrAt.below (H : CrAt K w wr h ldv llv p L R F) (hb : Below wr.heap.size wr w3) : CrAt K w w3 h ldv llv p L R F :=
  let ⟨K2, P2, h1, h2, h3, h4, h5⟩ := H
  ⟨K2, P2, h1.keep (Mv.of_below (F := fun _ => False) hb) (fun _ h => h.elim), h2, h3, h4, h5.trans (Mv.of_below hb)⟩
theorem CrAt.join (hm : Mv (fun b => K b ≠ 0) w w0) (he : ∀ b, b < w.heap.size → K1 b = K b) (hb : Below w0.heap.size w0 w3) (H : CrAt K1 w3 wr h ldv llv p L R F) : CrAt K w wr h ldv llv p L R F := by
  obtain ⟨K2, P2, h1, h2, h3, h4, h5⟩ := H
  have hs : w.heap.size ≤ w3.heap.size := Nat.le_trans hm.size hb.size
  refine ⟨K2, P2, h1, fun b hlt => (h2 b (Nat.lt_of_lt_of_le hlt hs)).trans (he b hlt), h3, h4, ?_⟩
  exact (hm.trans (Mv.of_below hb)).trans' h5 fun b hlt hf => by rw [he b hlt] at hf; exact hf
theorem CrAt.setOld {b c : Nat} (H : CrAt K w wr h (.slice (some ⟨b, 0, none⟩) p c) llv p L R F) (hKb : K b ≠ 0) (hbw : b < w.heap.size) {j no : Nat} {e : Int × Item} (he : L[j]? = some e) (hno : no < p) :
    CrAt K w (wr.setCell ⟨b, no, none⟩ (.slice e.2.a 256 e.2.c)) h (.slice (some ⟨b, 0, none⟩) p c) llv p L R fun k => if k = no then e.2.b else F k := by
  obtain ⟨K2, P2, h1, h2, h3, h4, h5⟩ := H
  obtain ⟨r1, r2⟩ := h1.setP h3.symm (no := no) (h1.lall e (List.mem_of_getElem? he)).1
  refine ⟨K2, P2.set no e.2, ?_, h2, by rw [List.length_set]; exact h3, fun k hk => ?_, h5.trans (r2.sub fun x _ e => by subst e; exact hKb)⟩
  · rw [List.map_set]; exact r1
  · rw [List.map_set, List.getD_eq_getElem?_getD]
    by_cases hkn : k = no
    · subst hkn
      rw [List.getElem?_set_self (by rw [List.length_map]; omega)]
      exact (if_pos rfl).symm
    · rw [List.getElem?_set_ne (fun e => hkn e.symm), ← List.getD_eq_getElem?_getD]
      exact (h4 k hk).trans (if_neg hkn).symm
theorem CrAt.setNew {b c : Nat} (H : CrAt K w wr h (.slice (some ⟨b, 0, none⟩) p c) llv p L R F) (hKb : K b ≠ 0) {no : Nat} (hno : no < p) {w4 : World} (hb : Below wr.heap.size wr w4) {g cg : Nat} {bs : List Nat} (hs : Row 5 wr.heap.size w4 (.slice (some ⟨g, 0, none⟩) 256 cg) bs) (hl : bs.length = 256) :
    CrAt K w (w4.setCell ⟨b, no, none⟩ (.slice (some ⟨g, 0, none⟩) 256 cg)) h (.slice (some ⟨b, 0, none⟩) p c) llv p L R fun k => if k = no then bs else F k := by
  obtain ⟨K2, P2, h1, h2, h3, h4, h5⟩ := H
  obtain ⟨a', c', hv, _, _, hs'⟩ := Sl.owned hs
  simp only [Value.slice.injEq] at hv
  obtain ⟨rfl, _, rfl⟩ := hv
  have hcap := own_cap hs
  have hg : wr.heap.size ≤ g ∧ g < w4.heap.size := by
    rcases hs' with h0 | ⟨b', o, e, hok, hc⟩
    · rw [h0] at hl; simp at hl
    · cases e
      exact ⟨hok.1, cell_lt (hc 0 (by omega))⟩
  have h1' := h1.recol hb hg
  have hgood : Good (fun b => if b = g then 4 else K2 b) w4 ⟨some ⟨g, 0, none⟩, cg, bs⟩ := ⟨hs'.mono fun x hx _ => by
    have : g = x := by simpa [Value.ownBlock] using hx.2
    show (if x = g then 4 else K2 x) = 4
    rw [if_pos this.symm], hl, hcap.1, hcap.2⟩
  obtain ⟨r1, r2⟩ := h1'.setP h3.symm (no := no) hgood
  refine ⟨fun b => if b = g then 4 else K2 b, P2.set no ⟨some ⟨g, 0, none⟩, cg, bs⟩, ?_, fun x hx => ?_, by rw [List.length_set]; exact h3, fun k hk => ?_, (h5.trans (Mv.of_below hb)).trans (r2.sub fun x _ e => by subst e; exact hKb)⟩
  · rw [List.map_set]; exact r1
  · show (if x = g then 4 else K2 x) = K x
    have := h5.size
    rw [if_neg (by omega)]
    exact h2 x hx
  · rw [List.map_set, List.getD_eq_getElem?_getD]
    by_cases hkn : k = no
    · subst hkn
      rw [List.getElem?_set_self (by rw [List.length_map]; omega)]
      exact (if_pos rfl).symm
    · rw [List.getElem?_set_ne (fun e => hkn e.symm), ← List.getD_eq_getElem?_getD]
      exact (h4 k hk).trans (if_neg hkn).symm
end

/-- The keep that the document finds. -/
def kpv (ks : List Kp) (no : Nat) : Kp := (first ks no).getD ⟨-1, 0, 0⟩
theorem kpv_nil (no : Nat) : kpv [] no = ⟨-1, 0, 0⟩ := rfl
theorem kpv_cons (q : Kp) (r : List Kp) (no : Nat) : kpv (q :: r) no = if q.page = (no : Int) then q else kpv r no := by
  unfold kpv first
  rw [List.find?_cons]
  by_cases h : q.page = (no : Int) <;> simp [h]
theorem kpv_drop {ks : List Kp} {i : Nat} {q : Kp} (h : ks[i]? = some q) (no : Nat) : kpv (ks.drop i) no = if q.page = (no : Int) then q else kpv (ks.drop (i + 1)) no := by
  obtain ⟨hi, he⟩ := List.getElem?_eq_some_iff.1 h
  rw [← kpv_cons, List.drop_eq_getElem_cons hi, he]
def rpg (R : Rs) (ks : List Kp) (k : Nat) : List Nat := match first ks k with
  | some q => keptPg (R.P.getD k []) (vsOf R.L k) q.N q.part
  | none => R.P.getD k []
def rcnt (R : Rs) (ks : List Kp) (k : Nat) : Nat := match first ks k with
  | some q => keptN (vsOf R.L k).length q.N
  | none => 0
theorem kept_end {q : List Nat} {vs : List (List Nat)} {N part : Int} (h : keptN vs.length N = vs.length) : keptPg q vs N part = lastOr q vs := by
  unfold keptPg lastOr
  simp only [h, Nat.lt_irrefl, if_false]
  by_cases h0 : vs = []
  · subst h0; rfl
  · have := List.length_pos_iff.2 h0
    rw [if_pos this, if_neg h0]
theorem kept_step {c : Nat} {N : Int} (h : (c : Int) < N) : keptN (c + 1) N = c + 1 := by unfold keptN; omega
theorem kept_break {q b : List Nat} {vs r : List (List Nat)} {N part : Int} (h : keptN vs.length N = vs.length) (h2 : ¬ (vs.length : Int) < N) :
    keptN (vs ++ b :: r).length N = vs.length ∧ keptPg q (vs ++ b :: r) N part = b.take (max 0 (min part 256)).toNat ++ (lastOr q vs).drop (max 0 (min part 256)).toNat := by
  have h1 : keptN (vs ++ b :: r).length N = vs.length := by unfold keptN at h ⊢; simp only [List.length_append, List.length_cons]; omega
  refine ⟨h1, ?_⟩
  unfold keptPg
  simp only [h1]
  have hb : (vs ++ b :: r).getD vs.length [] = b := by rw [List.getD_eq_getElem?_getD]; simp
  rw [if_pos (by simp), hb]
  congr 2
  unfold lastOr
  by_cases h0 : vs = []
  · subst h0; rfl
  · have hpos := List.length_pos_iff.2 h0
    rw [if_pos hpos, if_neg h0, List.getD_eq_getElem?_getD, List.getD_eq_getElem?_getD, List.getElem?_append_left (by omega)]

theorem vsOf_append (A B : List (Int × List Nat)) (x : Int) : vsOf (A ++ B) x = vsOf A x ++ vsOf B x := by unfold vsOf; rw [List.filter_append, List.map_append]
theorem vs_next {L : List (Int × List Nat)} {j : Nat} {e : Int × List Nat} (h : L[j]? = some e) (x : Int) : vsOf (L.take (j + 1)) x = if e.1 = x then vsOf (L.take j) x ++ [e.2] else vsOf (L.take j) x := by
  obtain ⟨hj, he⟩ := List.getElem?_eq_some_iff.1 h
  rw [List.take_succ_eq_append_getElem hj, he]
  exact vsOf_snoc _ _ _ _
theorem vs_split {L : List (Int × List Nat)} {j : Nat} {e : Int × List Nat} (h : L[j]? = some e) {x : Int} (he : e.1 = x) : vsOf L x = vsOf (L.take j) x ++ e.2 :: vsOf (L.drop (j + 1)) x := by
  obtain ⟨hj, hje⟩ := List.getElem?_eq_some_iff.1 h
  have h1 : L = L.take j ++ e :: L.drop (j + 1) := by rw [← hje, ← List.drop_eq_getElem_cons hj, List.take_append_drop]
  have h2 : vsOf (e :: L.drop (j + 1)) x = e.2 :: vsOf (L.drop (j + 1)) x := by
    unfold vsOf
    rw [List.filter_cons_of_pos (by simpa using he)]
    rfl
  rw [← h2, ← vsOf_append, ← h1]
theorem vs_len (L : List (Int × List Nat)) (x : Int) : (vsOf L x).length ≤ L.length := by unfold vsOf; rw [List.length_map]; exact List.length_filter_le _ _
section
variable {K : Nat → Nat} {w wr : World} {h b c p m lc : Nat} {la : Option Addr} {llv : Value} {L : List (Int × Item)} {R : Rs} {F : Nat → List Nat}
theorem CrAt.page (H : CrAt K w wr h (.slice (some ⟨b, 0, none⟩) p c) llv p L R F) {no : Nat} (hno : no < p) :
    ∃ q : Item, wr.cell? ⟨b, no, none⟩ = some (.slice q.a 256 q.c) ∧ wr.frozen? ⟨b, no, none⟩ = false ∧ Sl (fun _ => True) wr q.a q.b ∧ q.b.length = 256 ∧ q.b = F no := by
  obtain ⟨K2, P2, h1, h2, h3, h4, h5⟩ := H
  obtain ⟨q, hq⟩ : ∃ q, P2[no]? = some q := ⟨_, List.getElem?_eq_getElem (by omega)⟩
  obtain ⟨b', c', he, _, _, _, hc⟩ := h1.pshape (by omega)
  simp only [Value.slice.injEq, Option.some.injEq, Addr.mk.injEq, and_true] at he
  have he1 := he.1
  subst he1
  have hg := h1.pall q (List.mem_of_getElem? hq)
  refine ⟨q, hc no q hq, (by have h := h1.ld; rw [h3] at h; exact h.frozenAt no), hg.1.mono (fun _ _ _ => trivial), hg.2.1, ?_⟩
  rw [← h4 no hno, List.getD_eq_getElem?_getD, List.getElem?_map, hq]
  rfl
theorem CrAt.item (H : CrAt K w wr h (.slice (some ⟨b, 0, none⟩) p c) (.slice la m lc) p L R F) {j : Nat} {e : Int × Item} (he : L[j]? = some e) :
    (∃ b', la = some ⟨b', 0, none⟩ ∧ wr.cell? ⟨b', j * 2, none⟩ = some (.int .i64 e.1) ∧ wr.cell? ⟨b', j * 2 + 1, none⟩ = some (.slice e.2.a 256 e.2.c)) ∧ Sl (fun _ => True) wr e.2.a e.2.b ∧ e.2.b.length = 256 ∧ 256 ≤ e.2.c ∧ e.2.c ≤ maxLen := by
  obtain ⟨K2, P2, h1, h2, h3, h4, h5⟩ := H
  obtain ⟨la', lc', hle, _, _, hc⟩ := h1.lshape
  simp only [Value.slice.injEq] at hle
  obtain ⟨rfl, _, rfl⟩ := hle
  obtain ⟨b', r1, r2, r3, r4⟩ := hc j e he
  have hg := (h1.lall e (List.mem_of_getElem? he)).1
  exact ⟨⟨b', r1, r3, r4⟩, hg.1.mono (fun _ _ _ => trivial), hg.2⟩
end
theorem mix_set {e q : List Nat} {t : Nat} (he : e.length = 256) (hq : q.length = 256) (ht : t < 256) : (e.take t ++ q.drop t).set t (e.getD t 0) = e.take (t + 1) ++ q.drop (t + 1) := by
  apply List.ext_getElem?
  intro i
  by_cases hi : i = t
  · subst hi
    rw [List.getElem?_set_self (by simp; omega), List.getElem?_append_left (by simp; omega), List.getElem?_take, if_pos (by omega), List.getD_eq_getElem?_getD, List.getElem?_eq_getElem (by omega)]
    rfl
  · rw [List.getElem?_set_ne (fun h => hi h.symm)]
    simp only [List.getElem?_append, List.length_take, List.getElem?_take, List.getElem?_drop]
    by_cases h1 : i < t
    · rw [if_pos (by omega), if_pos h1, if_pos (by omega), if_pos (by omega)]
    · rw [if_neg (by omega), if_neg (by omega)]
      congr 1
      omega
theorem mix_len {e q : List Nat} {t : Nat} (he : e.length = 256) (hq : q.length = 256) (ht : t ≤ 256) : (e.take t ++ q.drop t).length = 256 := by simp; omega
end Go.Proofs.Ytgppmnaidgkboaa
