/- A REGION THAT DRAWS ITS ORDER, as Grow; an operation may write what others left, if none but itself looks at it or what follows it. No program is named here. -/
import Derived.Test.YtbhpfdpcafdeaaaGrow
namespace Go.Inc
open Go Go.RowKit

/-- Behind operation i what j left is as it was: j is another one, not behind i, and not given up by i. -/
def keepB (ops : Array Oper) (lose : Nat → Nat → Bool) (i j : Nat) : Bool := j != i && !((tabs ops (j + 1)).getD j []).contains i && !lose i j
section
variable {P : Program} {ops : Array Oper} {Q : Exit → Act → World → Prop} {a0 : Act} {R : World → World → Prop} {G : Nat → World → Value → Prop} {p q : Nat} {dp : Tmp} {D : Value → Value → Prop} {lose : Nat → Nat → Bool}
theorem wpAny_growL {m : Nat} (hlose : ∀ i j k, lose i j = true → k < m → readsB ops k j = true → k = i ∨ k ∈ (tabs ops (i + 1)).getD i []) (hqp : p ∈ direct ops q) (hdp : dstAt ops p = some dp) (hpm : p < m) (hqm : q < m) (hok : GrowOk ops a0.tmps.size m) (hms : m ≤ ops.size) (w1 : World) (_Rr : ∀ a, R a a) (Rt : ∀ a b c, R a b → R b c → R a c)
    (step : ∀ (i : Nat) (o : Oper), i < m → ops[i]? = some o → ∀ (s : Act) w, R w1 w → (∀ d, outB ops m d = true → s.eval (.tmp d) = a0.eval (.tmp d)) → (∀ j d, j < m → dstAt ops j = some d → readsB ops i j = true → G j w (s.eval (.tmp d))) →
      (Wants ops s.eval o = true → ∀ b (K : Act → World → Prop) (Q' : Exit → Act → World → Prop), (∀ u w', G i w' u → R w w' → (∀ j, j < m → keepB ops lose i j = true → ∀ x, G j w x → G j w' x) → (i = q → D (s.eval (.tmp dp)) u) → K (b.put o.dst u) w') → o.upon P b K Q' ((execOp s.eval o).run P w)) ∧ (Wants ops s.eval o = false → False))
    (fin : ∀ v w, R w1 w → (∀ j, j < m → (∀ i, i < m → lose i j = false) → G j w (v j)) → D (v p) (v q) → wpList P ops Q (ops.toList.drop m) (stG ops a0 v m) w) :
    ∀ fuel (listed : Array Bool) v w, listed.size = ops.size → (∀ i, m ≤ i → listed.getD i false = false) → (∀ i, listed.getD i false = true → ∀ e ∈ direct ops i, listed.getD e false = true) → R w1 w → (∀ j, j < m → listed.getD j false = true → (∀ i, listed.getD i false = true → lose i j = false) → G j w (v j)) → (listed.getD q false = true → D (v p) (v q)) → cntU (fun j => !listed.getD j false) m + (ops.size - m) ≤ fuel →
      wpAny P .any ops Q fuel listed (stU ops a0 v (fun j => listed.getD j false) m) w := by
  intro fuel
  induction fuel with
  | zero =>
    intro listed v w hsz htl hdc hR hG hD hc
    have hall := cntU_zero m (by omega : cntU (fun j => !listed.getD j false) m = 0)
    have hl : ∀ i, i < m → listed.getD i false = true := fun i hi => by have := hall i hi; cases hx : listed.getD i false <;> rw [hx] at this <;> simp_all
    have hf := fin v w hR (fun j hj hlo => hG j hj (hl j hj) fun i hi => by
      rcases Nat.lt_or_ge i m with h' | h'
      · exact hlo i h'
      · rw [htl i h'] at hi; cases hi) (hD (hl q hqm))
    unfold stG at hf
    rw [stU_congr (v' := v) (L' := fun j => listed.getD j false) m (fun j hj => ⟨rfl, (hl j hj).symm⟩)] at hf
    exact wpAny_tail hok 0 m listed _ w hsz (fun i => ⟨fun h => (by
      rcases Nat.lt_or_ge i m with h' | h'
      · exact h'
      · rw [htl i h'] at h; cases h), hl i⟩) (Nat.le_refl _) hms (by omega) hf
  | succ fuel ih =>
    intro listed v w hsz htl hdc hR hG hD hc
    by_cases hz : cntU (fun j => !listed.getD j false) m = 0
    · have hall := cntU_zero m hz
      have hl : ∀ i, i < m → listed.getD i false = true := fun i hi => by have := hall i hi; cases hx : listed.getD i false <;> rw [hx] at this <;> simp_all
      have hf := fin v w hR (fun j hj hlo => hG j hj (hl j hj) fun i hi => by
      rcases Nat.lt_or_ge i m with h' | h'
      · exact hlo i h'
      · rw [htl i h'] at hi; cases hi) (hD (hl q hqm))
      unfold stG at hf
      rw [stU_congr (v' := v) (L' := fun j => listed.getD j false) m (fun j hj => ⟨rfl, (hl j hj).symm⟩)] at hf
      exact wpAny_tail hok _ m listed _ w hsz (fun i => ⟨fun h => (by
        rcases Nat.lt_or_ge i m with h' | h'
        · exact h'
        · rw [htl i h'] at h; cases h), hl i⟩) (Nat.le_refl _) hms (by omega) hf
    · -- one of the first is not listed: the least of them may come up
      have hex : ∃ x, x < m ∧ listed.getD x false = false ∧ ∀ y, y < x → listed.getD y false = true := by
        have key : ∀ n, n ≤ m → (∀ i, i < n → listed.getD i false = true) ∨ ∃ x, x < m ∧ listed.getD x false = false ∧ ∀ y, y < x → listed.getD y false = true := by
          intro n
          induction n with
          | zero => intro _; exact .inl fun i hi => by omega
          | succ n ihn =>
            intro hn
            rcases ihn (by omega) with h | h
            · cases hx : listed.getD n false with
              | false => exact .inr ⟨n, by omega, hx, h⟩
              | true =>
                refine .inl fun i hi => ?_
                by_cases hin : i = n
                · rw [hin]; exact hx
                · exact h i (by omega)
            · exact .inr h
        rcases key m (Nat.le_refl _) with h | h
        · exfalso
          apply hz
          have key2 : ∀ n, n ≤ m → cntU (fun j => !listed.getD j false) n = 0 := by
            intro n
            induction n with
            | zero => intro _; rfl
            | succ n ihn => intro hn; unfold cntU; rw [ihn (by omega), h n (by omega)]; rfl
          exact key2 m (Nat.le_refl _)
        · exact h
      obtain ⟨x, hxm, hx0, hxl⟩ := hex
      have hxr : x ∈ Region.ready .any ops listed := by
        obtain ⟨o, ho⟩ : ∃ o, ops[x]? = some o := ⟨_, Array.getElem?_eq_getElem (by omega)⟩
        exact mem_ready.2 ⟨by
          have hj' : x < listed.size := by omega
          simpa [hj'] using hx0, o, ho, fun e he hb => hxl e.on (hok.back x e.on (direct_mem.2 ⟨o, ho, e, he, hb, rfl⟩))⟩
      refine ⟨fun h0 => (by rw [h0] at hxr; cases hxr), fun i hi => ?_⟩
      obtain ⟨h0, o, ho, hdeps⟩ := mem_ready.1 hi
      have his : i < ops.size := (Array.getElem?_eq_some_iff.1 ho).1
      have hun : listed.getD i false = false := by
        have hj' : i < listed.size := by omega
        simpa [hj'] using h0
      have hdir : ∀ e ∈ direct ops i, listed.getD e false = true := fun e he => by
        obtain ⟨o', ho', y, hy, hb, rfl⟩ := direct_mem.1 he
        rw [ho] at ho'
        cases ho'
        exact hdeps y hy hb
      have him : i < m := by
        rcases Nat.lt_or_ge i m with h' | h'
        · exact h'
        · have := tabs_listed hok (fun i => listed.getD i false) hdc i hdir x (hok.tail i x h' his (by omega))
          rw [hx0] at this
          cases this
      have hreads : ∀ j, j < m → readsB ops i j = true → listed.getD j false = true := fun j hjm hj => hdir j (hok.reads i j him hjm hj).2
      unfold wpOp
      simp only [ho]
      obtain ⟨hyes, hno⟩ := step i o him ho (stU ops a0 v (fun j => listed.getD j false) m) w hR (fun d hd => stU_out _ fun j hj _ d' hd' he => by
        cases he
        have := List.all_eq_true.1 hd j (List.mem_range.2 hj)
        rw [hd'] at this
        simp at this) (fun j d hjm hjd hj => by
        rw [stU_in hok hjd (hreads j hjm hj) (hok.size j d hjm hjd) _ hjm (Nat.le_refl _)]
        exact hG j hjm (hreads j hjm hj) fun i' hi' => by
          cases hc' : lose i' j with
          | false => rfl
          | true =>
            rcases hlose i' j i hc' him hj with this | this
            · rw [← this, hun] at hi'
              cases hi'
            · have h3 := tabs_listed hok (fun i => listed.getD i false) hdc i' (hdc i' hi') i this
              rw [hun] at h3
              cases h3)
      have hwe : Region.wanted o (yielded ops (stU ops a0 v (fun j => listed.getD j false) m).tmps) = Wants ops (stU ops a0 v (fun j => listed.getD j false) m).eval o := wants_eq fun j want d hgd hjd => by
        rw [stU_size]
        have hjm : j < m := hok.gm i o him ho j want hgd
        exact hok.size j d hjm hjd
      have next : ∀ u w', G i w' u → R w w' → (∀ j, j < m → keepB ops lose i j = true → ∀ x, G j w x → G j w' x) → (i = q → D ((stU ops a0 v (fun j => listed.getD j false) m).eval (.tmp dp)) u) → wpAny P .any ops Q fuel (listed.setIfInBounds i true) ((stU ops a0 v (fun j => listed.getD j false) m).put o.dst u) w' := by
        intro u w' hGu hRw hKw hDw
        have hdst : o.dst = dstAt ops i := by simp [dstAt, ho]
        rw [hdst, stU_put hok hun m him (Nat.le_refl _)]
        have hL : ∀ j, (if j = i then true else listed.getD j false) = (listed.setIfInBounds i true).getD j false := by
          intro j
          by_cases hji : j = i
          · subst hji
            have : j < listed.size := by omega
            simp [this]
          · rw [if_neg hji, getD_set_ne false (Ne.symm hji)]
        rw [stU_congr (v' := fun j => if j = i then u else v j) (L' := fun j => (listed.setIfInBounds i true).getD j false) m (fun j _ => ⟨rfl, hL j⟩)]
        refine ih (listed.setIfInBounds i true) _ w' (by simpa using hsz) (fun k hk => ?_) (fun k hk e he => ?_) (Rt _ _ _ hR hRw) (fun j hj hl hlo => ?_) (fun hq => ?_) ?_
        · rw [getD_set_ne false (by omega)]; exact htl k hk
        · have : listed.getD e false = true := by
            by_cases hki : k = i
            · subst hki; exact hdir e he
            · rw [getD_set_ne false (Ne.symm hki)] at hk
              exact hdc k hk e he
          rw [← hL e]
          by_cases hei : e = i
          · simp [hei]
          · rw [if_neg hei]; exact this
        · by_cases hji : j = i
          · subst hji; simpa using hGu
          · simp only [hji, if_false]
            rw [getD_set_ne false (Ne.symm hji)] at hl
            have hki : listed.getD i false = true → False := fun h => by rw [hun] at h; cases h
            refine hKw j hj ?_ _ (hG j hj hl fun i' hi' => hlo i' (by rw [← hL i']; by_cases h : i' = i <;> simp [h, hi']))
            have h1 : lose i j = false := hlo i (by rw [← hL i]; simp)
            have h2 : ((tabs ops (j + 1)).getD j []).contains i = false := by
              cases hc' : ((tabs ops (j + 1)).getD j []).contains i with
              | false => rfl
              | true => exact (hki (tabs_listed hok (fun i => listed.getD i false) hdc j (hdc j hl) i (by simpa using hc'))).elim
            unfold keepB
            rw [h1, h2]
            simpa using hji
        · rw [← hL q] at hq
          have hplt : p < q := hok.back q p hqp
          show D (if p = i then u else v p) (if q = i then u else v q)
          by_cases hqi : q = i
          · rw [if_neg (by omega), if_pos hqi]
            have hpl : listed.getD p false = true := hdir p (by rw [← hqi]; exact hqp)
            have := hDw hqi.symm
            rwa [stU_in hok hdp hpl (hok.size p dp hpm hdp) _ hpm (Nat.le_refl _)] at this
          · rw [if_neg hqi] at hq
            have hpl : listed.getD p false = true := hdc q hq p hqp
            have hpi : p ≠ i := fun h => by rw [h, hun] at hpl; cases hpl
            rw [if_neg hpi, if_neg hqi]
            exact hD hq
        · have h1 := cntU_upd (f := fun j => !listed.getD j false) (i := i) (by simp [hun]) m him
          have h2 : cntU (fun j => !(listed.setIfInBounds i true).getD j false) m = cntU (fun j => if j = i then false else !listed.getD j false) m := by
            congr 1
            funext j
            rw [← hL j]
            by_cases hji : j = i <;> simp [hji]
          omega
      rw [hwe]
      split
      · rename_i hy
        left
        unfold Oper.wp
        exact hyes hy _ _ _ next
      · rename_i hy
        exact (hno (by simpa using hy)).elim


/-- What is asked of operation i. -/
def StepL (P : Program) (ops : Array Oper) (m : Nat) (a0 : Act) (w1 : World) (B : Nat) (G : Nat → World → Value → Prop) (q : Nat) (dp : Tmp) (D : Value → Value → Prop) (lose : Nat → Nat → Bool) (i : Nat) : Prop :=
  ∀ (o : Oper), ops[i]? = some o → ∀ (ρ : Operand → Value) w', Below B w1 w' → LitR ρ → (∀ d, outB ops m d = true → ρ (.tmp d) = a0.eval (.tmp d)) → (∀ j d, j < m → dstAt ops j = some d → readsB ops i j = true → G j w' (ρ (.tmp d))) →
      (Wants ops ρ o = true → ∀ b (K : Act → World → Prop) (Q' : Exit → Act → World → Prop), (∀ u w'', G i w'' u → (Grew w' w'' ∨ (Below B w' w'' ∧ AllLt (fun j => keepB ops lose i j = true → ∀ x, G j w' x → G j w'' x) m)) → (i = q → D (ρ (.tmp dp)) u) → K (b.put o.dst u) w'') → o.upon P b K Q' ((execOp ρ o).run P w')) ∧ (Wants ops ρ o = false → False)
theorem nokeep {b : Bool} {r : Prop} (h : b = false) : b = true → r := fun h' => by rw [h] at h'; cases h'
def loseOk (ops : Array Oper) (lose : List (Nat × Nat)) (m : Nat) : Bool := lose.all fun x => (List.range m).all fun k => !readsB ops k x.2 || k == x.1 || ((tabs ops (x.1 + 1)).getD x.1 []).contains k
/-- The facts in one list. -/
theorem wp_region_growsL {id : Nat} {w : World} (m p q : Nat) (dp : Tmp) (D : Value → Value → Prop) (lose : List (Nat × Nat)) (Gl : List (World → Value → Prop)) (hm : P.follows .mixedOrders = true) (hms : m ≤ ops.size) (hok : growOk ops a0.tmps.size m = true) (hlo : loseOk ops lose m = true) (hqp : p ∈ direct ops q) (hdp : dstAt ops p = some dp) (hpm : p < m) (hqm : q < m)
    (hst : ∀ g ∈ Gl, ∀ w w' v, Grew w w' → g w v → g w' v)
    (step : AllLt (StepL P ops m a0 w.drew w.heap.size (fun i => Gl.getD i fun _ _ => False) q dp D (fun i j => lose.contains (i, j))) m)
    (fin : ∀ v w', Below w.heap.size w.drew w' → AllLt (fun j => lose.all (fun x => x.2 != j) = true → (Gl.getD j fun _ _ => False) w' (v j)) m → D (v p) (v q) → wpList P ops Q (ops.toList.drop m) (stG ops a0 v m) w') :
    (Code.region id ops true).wp P Q a0 w := by
  refine wp_region_any hm ?_
  have h := wpAny_growL (P := P) (Q := Q) (R := fun a b => a.heap.size ≤ b.heap.size ∧ (w.heap.size ≤ a.heap.size → Below w.heap.size a b)) (G := fun i => Gl.getD i fun _ _ => False) (p := p) (q := q) (dp := dp) (D := D) (lose := fun i j => lose.contains (i, j)) (fun i j k hl hk hr => by
      have h1 := List.all_eq_true.1 hlo (i, j) (by simpa using hl)
      have h2 := List.all_eq_true.1 h1 k (List.mem_range.2 hk)
      simp only [hr, Bool.not_true, Bool.false_or, Bool.or_eq_true] at h2
      rcases h2 with h2 | h2
      · exact .inl (by simpa using h2)
      · exact .inr (by simpa using h2)) hqp hdp hpm hqm (growOk_spec hok) hms w.drew (fun a => ⟨Nat.le_refl _, fun _ => Below.refl _ _⟩) (fun a b c hab hbc => ⟨Nat.le_trans hab.1 hbc.1, fun hh => (hab.2 hh).trans (hbc.2 (Nat.le_trans hh hab.1))⟩)
    (fun i o him ho s w' hR hS hG => by
      have hB := hR.2 (Nat.le_refl _)
      obtain ⟨h1, h2⟩ := AllLt.all _ step i him o ho s.eval w' hB ⟨fun _ => rfl, fun _ => rfl, fun _ => rfl⟩ hS hG
      refine ⟨fun hw b K Q' hK => h1 hw b K Q' fun u w'' hu hg hd => ?_, h2⟩
      rcases hg with hg | ⟨hb, hg⟩
      · refine hK u w'' hu ⟨hg.size, fun hh => Below.mono hg hh⟩ (fun j hj _ x hx => ?_) hd
        by_cases hi : j < Gl.length
        · have e : (Gl.getD j fun _ _ => False) = Gl[j] := by rw [List.getD_eq_getElem?_getD, List.getElem?_eq_getElem hi]; rfl
          simp only [e] at hx ⊢
          exact hst _ (List.getElem_mem hi) _ _ _ hg hx
        · have e : (Gl.getD j fun _ _ => False) = fun _ _ => False := by rw [List.getD_eq_getElem?_getD, List.getElem?_eq_none (by omega)]; rfl
          simp only [e] at hx
      · exact hK u w'' hu ⟨hb.size, fun _ => hb⟩ (fun j hj => AllLt.all _ hg j hj) hd)
    (fun v w' hR hG hD => fin v w' (hR.2 (Nat.le_refl _)) (by
      have key : ∀ n, n ≤ m → AllLt (fun j => lose.all (fun x => x.2 != j) = true → (Gl.getD j fun _ _ => False) w' (v j)) n := by
        intro n
        induction n with
        | zero => intro _; trivial
        | succ n ih => exact fun hn => ⟨ih (by omega), fun hl => hG n (by omega) fun i _ => by
            cases hc : lose.contains (i, n) with
            | false => rfl
            | true =>
              have := List.all_eq_true.1 hl (i, n) (by simpa using hc)
              simp at this⟩
      exact key _ (Nat.le_refl _)) hD) ops.size (Array.replicate ops.size false) (fun _ => undef) w.drew (by simp) (fun i _ => by
      by_cases hi : i < ops.size <;> simp [hi]) (fun i hi => by by_cases hi' : i < ops.size <;> simp [hi'] at hi) ⟨Nat.le_refl _, fun _ => Below.refl _ _⟩ (fun j hj hl => by
      have hj' : j < ops.size := by omega
      simp [hj'] at hl) (fun hl => by
      have hj' : q < ops.size := by omega
      simp [hj'] at hl) (by
    have : cntU (fun j => !(Array.replicate ops.size false).getD j false) m ≤ m := by
      have key : ∀ (f : Nat → Bool) n, cntU f n ≤ n := by
        intro f n
        induction n with
        | zero => exact Nat.le_refl _
        | succ n ih => unfold cntU; split <;> omega
      exact key _ _
    omega)
  have e : stU ops a0 (fun _ => undef) (fun j => (Array.replicate ops.size false).getD j false) m = a0 := by
    have key : ∀ n, n ≤ m → stU ops a0 (fun _ => undef) (fun j => (Array.replicate ops.size false).getD j false) n = a0 := by
      intro n
      induction n with
      | zero => intro _; rfl
      | succ n ih =>
        intro hn
        unfold stU
        rw [ih (by omega)]
        have hn' : n < ops.size := by omega
        rw [if_neg (by simp [hn'])]
    exact key _ (Nat.le_refl _)
  rw [e] at h
  exact h
end
end Go.Inc
