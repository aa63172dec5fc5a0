/- A REGION THAT DRAWS ITS ORDER, as Grow; of two of its operations' values something is known of both together (two blocks that are apart). No program is named here. -/
import Derived.Test.YtmdimhijbmeioaaGrow
namespace Go.Inc
open Go Go.RowKit

section
variable {P : Program} {ops : Array Oper} {Q : Exit → Act → World → Prop} {a0 : Act} {R : World → World → Prop} {G : Nat → World → Value → Prop} {p q : Nat} {D : Value → Value → Prop}
theorem wpAny_growP {m : Nat} (hpq : p ≠ q) (hpm : p < m) (hqm : q < m) (hok : GrowOk ops a0.tmps.size m) (hms : m ≤ ops.size) (w1 : World) (Rr : ∀ a, R a a) (Rt : ∀ a b c, R a b → R b c → R a c) (Gs : ∀ i w w' v, R w w' → G i w v → G i w' v)
    (step : ∀ (i : Nat) (o : Oper), i < m → ops[i]? = some o → ∀ (s : Act) w, R w1 w → (∀ d, outB ops m d = true → s.eval (.tmp d) = a0.eval (.tmp d)) → (∀ j d, j < m → dstAt ops j = some d → readsB ops i j = true → G j w (s.eval (.tmp d))) →
      (Wants ops s.eval o = true → ∀ b (K : Act → World → Prop) (Q' : Exit → Act → World → Prop), (∀ u w', G i w' u → R w w' → (i = p → ∀ x, G q w x → D u x) → (i = q → ∀ x, G p w x → D x u) → K (b.put o.dst u) w') → o.upon P b K Q' ((execOp s.eval o).run P w)) ∧ (Wants ops s.eval o = false → G i w undef ∧ i ≠ p ∧ i ≠ q))
    (fin : ∀ v w, R w1 w → (∀ j, j < m → G j w (v j)) → D (v p) (v q) → wpList P ops Q (ops.toList.drop m) (stG ops a0 v m) w) :
    ∀ fuel (listed : Array Bool) v w, listed.size = ops.size → (∀ i, m ≤ i → listed.getD i false = false) → (∀ i, listed.getD i false = true → ∀ e ∈ direct ops i, listed.getD e false = true) → R w1 w → (∀ j, j < m → listed.getD j false = true → G j w (v j)) → (listed.getD p false = true → listed.getD q false = true → D (v p) (v q)) → cntU (fun j => !listed.getD j false) m + (ops.size - m) ≤ fuel →
      wpAny P .any ops Q fuel listed (stU ops a0 v (fun j => listed.getD j false) m) w := by
  intro fuel
  induction fuel with
  | zero =>
    intro listed v w hsz htl hdc hR hG hD hc
    have hall := cntU_zero m (by omega : cntU (fun j => !listed.getD j false) m = 0)
    have hl : ∀ i, i < m → listed.getD i false = true := fun i hi => by have := hall i hi; cases hx : listed.getD i false <;> rw [hx] at this <;> simp_all
    have hf := fin v w hR (fun j hj => hG j hj (hl j hj)) (hD (hl p hpm) (hl q hqm))
    unfold stG at hf
    rw [stU_congr (v' := v) (L' := fun j => listed.getD j false) m (fun j hj => ⟨rfl, (hl j hj).symm⟩)] at hf
    exact wpAny_tail hok 0 m listed _ w hsz (fun i => ⟨fun h => (by
      rcases Nat.lt_or_ge i m with h' | h'
      · exact h'
      · rw [htl i h'] at h; cases h), hl i⟩) (Nat.le_refl _) hms (by omega) hf
  | succ fuel ih =>
    intro listed v w hsz htl hdc hR hG hD hc
    by_cases hz : cntU (fun j => !listed.getD j false) m = 0
    · have hall := cntU_zero m hz
      have hl : ∀ i, i < m → listed.getD i false = true := fun i hi => by have := hall i hi; cases hx : listed.getD i false <;> rw [hx] at this <;> simp_all
      have hf := fin v w hR (fun j hj => hG j hj (hl j hj)) (hD (hl p hpm) (hl q hqm))
      unfold stG at hf
      rw [stU_congr (v' := v) (L' := fun j => listed.getD j false) m (fun j hj => ⟨rfl, (hl j hj).symm⟩)] at hf
      exact wpAny_tail hok _ m listed _ w hsz (fun i => ⟨fun h => (by
        rcases Nat.lt_or_ge i m with h' | h'
        · exact h'
        · rw [htl i h'] at h; cases h), hl i⟩) (Nat.le_refl _) hms (by omega) hf
    · -- one of the first is not listed: the least of them may come up
      have hex : ∃ x, x < m ∧ listed.getD x false = false ∧ ∀ y, y < x → listed.getD y false = true := by
        have key : ∀ n, n ≤ m → (∀ i, i < n → listed.getD i false = true) ∨ ∃ x, x < m ∧ listed.getD x false = false ∧ ∀ y, y < x → listed.getD y false = true := by
          intro n
          induction n with
          | zero => intro _; exact .inl fun i hi => by omega
          | succ n ihn =>
            intro hn
            rcases ihn (by omega) with h | h
            · cases hx : listed.getD n false with
              | false => exact .inr ⟨n, by omega, hx, h⟩
              | true =>
                refine .inl fun i hi => ?_
                by_cases hin : i = n
                · rw [hin]; exact hx
                · exact h i (by omega)
            · exact .inr h
        rcases key m (Nat.le_refl _) with h | h
        · exfalso
          apply hz
          have key2 : ∀ n, n ≤ m → cntU (fun j => !listed.getD j false) n = 0 := by
            intro n
            induction n with
            | zero => intro _; rfl
            | succ n ihn => intro hn; unfold cntU; rw [ihn (by omega), h n (by omega)]; rfl
          exact key2 m (Nat.le_refl _)
        · exact h
      obtain ⟨x, hxm, hx0, hxl⟩ := hex
      have hxr : x ∈ Region.ready .any ops listed := by
        obtain ⟨o, ho⟩ : ∃ o, ops[x]? = some o := ⟨_, Array.getElem?_eq_getElem (by omega)⟩
        exact mem_ready.2 ⟨by
          have hj' : x < listed.size := by omega
          simpa [hj'] using hx0, o, ho, fun e he hb => hxl e.on (hok.back x e.on (direct_mem.2 ⟨o, ho, e, he, hb, rfl⟩))⟩
      refine ⟨fun h0 => (by rw [h0] at hxr; cases hxr), fun i hi => ?_⟩
      obtain ⟨h0, o, ho, hdeps⟩ := mem_ready.1 hi
      have his : i < ops.size := (Array.getElem?_eq_some_iff.1 ho).1
      have hun : listed.getD i false = false := by
        have hj' : i < listed.size := by omega
        simpa [hj'] using h0
      have hdir : ∀ e ∈ direct ops i, listed.getD e false = true := fun e he => by
        obtain ⟨o', ho', y, hy, hb, rfl⟩ := direct_mem.1 he
        rw [ho] at ho'
        cases ho'
        exact hdeps y hy hb
      have him : i < m := by
        rcases Nat.lt_or_ge i m with h' | h'
        · exact h'
        · have := tabs_listed hok (fun i => listed.getD i false) hdc i hdir x (hok.tail i x h' his (by omega))
          rw [hx0] at this
          cases this
      have hreads : ∀ j, j < m → readsB ops i j = true → listed.getD j false = true := fun j hjm hj => hdir j (hok.reads i j him hjm hj).2
      unfold wpOp
      simp only [ho]
      obtain ⟨hyes, hno⟩ := step i o him ho (stU ops a0 v (fun j => listed.getD j false) m) w hR (fun d hd => stU_out _ fun j hj _ d' hd' he => by
        cases he
        have := List.all_eq_true.1 hd j (List.mem_range.2 hj)
        rw [hd'] at this
        simp at this) (fun j d hjm hjd hj => by
        rw [stU_in hok hjd (hreads j hjm hj) (hok.size j d hjm hjd) _ hjm (Nat.le_refl _)]
        exact hG j hjm (hreads j hjm hj))
      have hwe : Region.wanted o (yielded ops (stU ops a0 v (fun j => listed.getD j false) m).tmps) = Wants ops (stU ops a0 v (fun j => listed.getD j false) m).eval o := wants_eq fun j want d hgd hjd => by
        rw [stU_size]
        have hjm : j < m := hok.gm i o him ho j want hgd
        exact hok.size j d hjm hjd
      have next : ∀ u w', G i w' u → R w w' → (i = p → ∀ x, G q w x → D u x) → (i = q → ∀ x, G p w x → D x u) → wpAny P .any ops Q fuel (listed.setIfInBounds i true) ((stU ops a0 v (fun j => listed.getD j false) m).put o.dst u) w' := by
        intro u w' hGu hRw hDp hDq
        have hdst : o.dst = dstAt ops i := by simp [dstAt, ho]
        rw [hdst, stU_put hok hun m him (Nat.le_refl _)]
        have hL : ∀ j, (if j = i then true else listed.getD j false) = (listed.setIfInBounds i true).getD j false := by
          intro j
          by_cases hji : j = i
          · subst hji
            have : j < listed.size := by omega
            simp [this]
          · rw [if_neg hji, getD_set_ne false (Ne.symm hji)]
        rw [stU_congr (v' := fun j => if j = i then u else v j) (L' := fun j => (listed.setIfInBounds i true).getD j false) m (fun j _ => ⟨rfl, hL j⟩)]
        refine ih (listed.setIfInBounds i true) _ w' (by simpa using hsz) (fun k hk => ?_) (fun k hk e he => ?_) (Rt _ _ _ hR hRw) (fun j hj hl => ?_) (fun hp hq => ?_) ?_
        · rw [getD_set_ne false (by omega)]; exact htl k hk
        · have : listed.getD e false = true := by
            by_cases hki : k = i
            · subst hki; exact hdir e he
            · rw [getD_set_ne false (Ne.symm hki)] at hk
              exact hdc k hk e he
          rw [← hL e]
          by_cases hei : e = i
          · simp [hei]
          · rw [if_neg hei]; exact this
        · by_cases hji : j = i
          · subst hji; simpa using hGu
          · simp only [hji, if_false]
            rw [getD_set_ne false (Ne.symm hji)] at hl
            exact Gs j w w' _ hRw (hG j hj hl)
        · rw [← hL p] at hp
          rw [← hL q] at hq
          show D (if p = i then u else v p) (if q = i then u else v q)
          by_cases hpi : p = i
          · have hqi : q ≠ i := fun h => hpq (hpi.trans h.symm)
            rw [if_neg hqi] at hq
            rw [if_pos hpi, if_neg hqi]
            exact hDp hpi.symm _ (hG q hqm hq)
          · rw [if_neg hpi] at hp
            by_cases hqi : q = i
            · rw [if_neg hpi, if_pos hqi]
              exact hDq hqi.symm _ (hG p hpm hp)
            · rw [if_neg hqi] at hq
              rw [if_neg hpi, if_neg hqi]
              exact hD hp hq
        · have h1 := cntU_upd (f := fun j => !listed.getD j false) (i := i) (by simp [hun]) m him
          have h2 : cntU (fun j => !(listed.setIfInBounds i true).getD j false) m = cntU (fun j => if j = i then false else !listed.getD j false) m := by
            congr 1
            funext j
            rw [← hL j]
            by_cases hji : j = i <;> simp [hji]
          omega
      rw [hwe]
      split
      · rename_i hy
        left
        unfold Oper.wp
        exact hyes hy _ _ _ next
      · rename_i hy
        exact next undef w (hno (by simpa using hy)).1 (Rr w) (fun h => absurd h (hno (by simpa using hy)).2.1) (fun h => absurd h (hno (by simpa using hy)).2.2)


/-- What is asked of operation i. -/
def StepP (P : Program) (ops : Array Oper) (m : Nat) (a0 : Act) (w1 : World) (R : World → World → Prop) (G : Nat → World → Value → Prop) (p q : Nat) (D : Value → Value → Prop) (i : Nat) : Prop :=
  ∀ (o : Oper), ops[i]? = some o → ∀ (ρ : Operand → Value) w', R w1 w' → LitR ρ → (∀ d, outB ops m d = true → ρ (.tmp d) = a0.eval (.tmp d)) → (∀ j d, j < m → dstAt ops j = some d → readsB ops i j = true → G j w' (ρ (.tmp d))) →
      (Wants ops ρ o = true → ∀ b (K : Act → World → Prop) (Q' : Exit → Act → World → Prop), (∀ u w'', G i w'' u → R w' w'' → (i = p → ∀ x, G q w' x → D u x) → (i = q → ∀ x, G p w' x → D x u) → K (b.put o.dst u) w'') → o.upon P b K Q' ((execOp ρ o).run P w')) ∧ (Wants ops ρ o = false → G i w' undef ∧ i ≠ p ∧ i ≠ q)
theorem wp_region_growP {id m : Nat} {w : World} (hm : P.follows .mixedOrders = true) (hms : m ≤ ops.size) (hok : growOk ops a0.tmps.size m = true) (hpq : p ≠ q) (hpm : p < m) (hqm : q < m) (Rr : ∀ a, R a a) (Rt : ∀ a b c, R a b → R b c → R a c) (Gs : ∀ i w w' v, R w w' → G i w v → G i w' v)
    (step : ∀ i, i < m → StepP P ops m a0 w.drew R G p q D i)
    (fin : ∀ v w', R w.drew w' → (∀ j, j < m → G j w' (v j)) → D (v p) (v q) → wpList P ops Q (ops.toList.drop m) (stG ops a0 v m) w') :
    (Code.region id ops true).wp P Q a0 w := by
  refine wp_region_any hm ?_
  have h := wpAny_growP (P := P) (Q := Q) (p := p) (q := q) (D := D) hpq hpm hqm (growOk_spec hok) hms w.drew Rr Rt Gs (fun i o him ho s w' hR hS hG => step i him o ho s.eval w' hR ⟨fun _ => rfl, fun _ => rfl, fun _ => rfl⟩ hS hG) fin ops.size (Array.replicate ops.size false) (fun _ => undef) w.drew (by simp) (fun i _ => by
      by_cases hi : i < ops.size <;> simp [hi]) (fun i hi => by by_cases hi' : i < ops.size <;> simp [hi'] at hi) (Rr _) (fun j hj hl => by
      have hj' : j < ops.size := by omega
      simp [hj'] at hl) (fun hl => by
      have hj' : p < ops.size := by omega
      simp [hj'] at hl) (by
    have : cntU (fun j => !(Array.replicate ops.size false).getD j false) m ≤ m := by
      have key : ∀ (f : Nat → Bool) n, cntU f n ≤ n := by
        intro f n
        induction n with
        | zero => exact Nat.le_refl _
        | succ n ih => unfold cntU; split <;> omega
      exact key _ _
    omega)
  have e : stU ops a0 (fun _ => undef) (fun j => (Array.replicate ops.size false).getD j false) m = a0 := by
    have key : ∀ n, n ≤ m → stU ops a0 (fun _ => undef) (fun j => (Array.replicate ops.size false).getD j false) n = a0 := by
      intro n
      induction n with
      | zero => intro _; rfl
      | succ n ih =>
        intro hn
        unfold stU
        rw [ih (by omega)]
        have hn' : n < ops.size := by omega
        rw [if_neg (by simp [hn'])]
    exact key _ (Nat.le_refl _)
  rw [e] at h
  exact h
/-- The facts in one list. -/
theorem wp_region_growsP {id : Nat} {w : World} (m p q : Nat) (D : Value → Value → Prop) (Rm : World → World → Prop) (Gl : List (World → Value → Prop)) (hm : P.follows .mixedOrders = true) (hms : m ≤ ops.size) (hok : growOk ops a0.tmps.size m = true) (hpq : p ≠ q) (hpm : p < m) (hqm : q < m) (Rr : ∀ a, Rm a a) (Rt : ∀ a b c, Rm a b → Rm b c → Rm a c) (hst : ∀ g ∈ Gl, ∀ w w' v, Rm w w' → g w v → g w' v)
    (step : AllLt (StepP P ops m a0 w.drew Rm (fun i => Gl.getD i fun _ _ => False) p q D) m)
    (fin : ∀ v w', Rm w.drew w' → AllLt (fun j => (Gl.getD j fun _ _ => False) w' (v j)) m → D (v p) (v q) → wpList P ops Q (ops.toList.drop m) (stG ops a0 v m) w') :
    (Code.region id ops true).wp P Q a0 w := by
  refine wp_region_growP (R := Rm) (G := fun i => Gl.getD i fun _ _ => False) (p := p) (q := q) (D := D) hm hms hok hpq hpm hqm Rr Rt (fun i a b v hab h => ?_) (fun i hi => AllLt.all _ step i hi) (fun v w' hR hG hD => fin v w' hR ?_ hD)
  · by_cases hi : i < Gl.length
    · have e : (Gl.getD i fun _ _ => False) = Gl[i] := by rw [List.getD_eq_getElem?_getD, List.getElem?_eq_getElem hi]; rfl
      rw [e] at h ⊢
      exact hst _ (List.getElem_mem hi) _ _ _ hab h
    · have e : (Gl.getD i fun _ _ => False) = fun _ _ => False := by rw [List.getD_eq_getElem?_getD, List.getElem?_eq_none (by omega)]; rfl
      rw [e] at h
      exact h.elim
  · have key : ∀ n, n ≤ m → AllLt (fun j => (Gl.getD j fun _ _ => False) w' (v j)) n := by
      intro n
      induction n with
      | zero => intro _; trivial
      | succ n ih => intro hn; exact ⟨ih (by omega), hG n (by omega)⟩
    exact key _ (Nat.le_refl _)
end
end Go.Inc
