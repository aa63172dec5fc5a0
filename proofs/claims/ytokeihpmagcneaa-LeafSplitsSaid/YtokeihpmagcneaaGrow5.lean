/- A REGION THAT DRAWS ITS ORDER, as Grow4; what the makers made is apart. No program is named here. -/
import Derived.Test.YtokeihpmagcneaaGrow4
namespace Go.Inc
open Go Go.RowKit

/-- The makers are apart, none of them is given up. -/
def mkOk (pq : List (Nat × Nat × Tmp)) (lose : List (Nat × Nat)) : Bool := (pq.all fun y => pq.all fun z => y.1 != z.1 || y.2.1 == z.2.1) && lose.all fun x => pq.all fun y => x.2 != y.1
theorem mkOk_apart {pq : List (Nat × Nat × Tmp)} {lose : List (Nat × Nat)} (h : mkOk pq lose = true) {y z : Nat × Nat × Tmp} (hy : y ∈ pq) (hz : z ∈ pq) (hne : y.2.1 ≠ z.2.1) : y.1 ≠ z.1 := by
  unfold mkOk at h
  rw [Bool.and_eq_true] at h
  have h1 := List.all_eq_true.1 (List.all_eq_true.1 h.1 y hy) z hz
  simp only [Bool.or_eq_true, bne_iff_ne, beq_iff_eq] at h1
  rcases h1 with h1 | h1
  · exact h1
  · exact absurd h1 hne
theorem mkOk_keeps {pq : List (Nat × Nat × Tmp)} {lose : List (Nat × Nat)} (h : mkOk pq lose = true) {y : Nat × Nat × Tmp} (hy : y ∈ pq) (i : Nat) : lose.contains (i, y.1) = false := by
  unfold mkOk at h
  rw [Bool.and_eq_true] at h
  cases hc : lose.contains (i, y.1) with
  | false => rfl
  | true =>
    have h1 := List.all_eq_true.1 (List.all_eq_true.1 h.2 (i, y.1) (by simpa using hc)) y hy
    simp at h1
section
variable {P : Program} {ops : Array Oper} {Q : Exit → Act → World → Prop} {a0 : Act} {R : World → World → Prop} {G : Nat → World → Value → Prop} {pq : List (Nat × Nat × Tmp)} {lose : Nat → Nat → Bool}
theorem wpAny_growN {m : Nat} (hlose : ∀ i j k, lose i j = true → k < m → readsB ops k j = true → k = i ∨ k ∈ (tabs ops (i + 1)).getD i []) (hap : ∀ y ∈ pq, ∀ z ∈ pq, y.2.1 ≠ z.2.1 → y.1 ≠ z.1) (hkm : ∀ y ∈ pq, ∀ i, lose i y.1 = false) (hpq : ∀ y ∈ pq, y.1 ∈ direct ops y.2.1 ∧ dstAt ops y.1 = some y.2.2 ∧ y.1 < m ∧ y.2.1 < m) (hok : GrowOk ops a0.tmps.size m) (hms : m ≤ ops.size) (w1 : World) (_Rr : ∀ a, R a a) (Rt : ∀ a b c, R a b → R b c → R a c)
    (step : ∀ (i : Nat) (o : Oper), i < m → ops[i]? = some o → ∀ (s : Act) w, R w1 w → (∀ d, outB ops m d = true → s.eval (.tmp d) = a0.eval (.tmp d)) → (∀ j d, j < m → dstAt ops j = some d → readsB ops i j = true → G j w (s.eval (.tmp d))) →
      (Wants ops s.eval o = true → ∀ b (K : Act → World → Prop) (Q' : Exit → Act → World → Prop), (∀ u w', G i w' u → R w w' → (∀ j, j < m → keepB ops lose i j = true → ∀ x, (∀ y ∈ pq, i = y.2.1 → ∀ z ∈ pq, j = z.2.1 → x ≠ s.eval (.tmp y.2.2)) → G j w x → G j w' x) → (∀ y ∈ pq, i = y.1 → ∀ z ∈ pq, z.1 ≠ i → ∀ x, G z.1 w x → u ≠ x) → (∀ y ∈ pq, i = y.2.1 → s.eval (.tmp y.2.2) = u) → K (b.put o.dst u) w') → o.upon P b K Q' ((execOp s.eval o).run P w)) ∧ (Wants ops s.eval o = false → False))
    (fin : ∀ v w, R w1 w → (∀ j, j < m → (∀ i, i < m → lose i j = false) → G j w (v j)) → (∀ y ∈ pq, v y.1 = v y.2.1) → wpList P ops Q (ops.toList.drop m) (stG ops a0 v m) w) :
    ∀ fuel (listed : Array Bool) v w, listed.size = ops.size → (∀ i, m ≤ i → listed.getD i false = false) → (∀ i, listed.getD i false = true → ∀ e ∈ direct ops i, listed.getD e false = true) → R w1 w → (∀ j, j < m → listed.getD j false = true → (∀ i, listed.getD i false = true → lose i j = false) → G j w (v j)) → (∀ y ∈ pq, listed.getD y.2.1 false = true → v y.1 = v y.2.1) → (∀ y ∈ pq, ∀ z ∈ pq, y.1 ≠ z.1 → listed.getD y.1 false = true → listed.getD z.1 false = true → v y.1 ≠ v z.1) → cntU (fun j => !listed.getD j false) m + (ops.size - m) ≤ fuel →
      wpAny P .any ops Q fuel listed (stU ops a0 v (fun j => listed.getD j false) m) w := by
  intro fuel
  induction fuel with
  | zero =>
    intro listed v w hsz htl hdc hR hG hD hA hc
    have hall := cntU_zero m (by omega : cntU (fun j => !listed.getD j false) m = 0)
    have hl : ∀ i, i < m → listed.getD i false = true := fun i hi => by have := hall i hi; cases hx : listed.getD i false <;> rw [hx] at this <;> simp_all
    have hf := fin v w hR (fun j hj hlo => hG j hj (hl j hj) fun i hi => by
      rcases Nat.lt_or_ge i m with h' | h'
      · exact hlo i h'
      · rw [htl i h'] at hi; cases hi) (fun y hy => hD y hy (hl y.2.1 (hpq y hy).2.2.2))
    unfold stG at hf
    rw [stU_congr (v' := v) (L' := fun j => listed.getD j false) m (fun j hj => ⟨rfl, (hl j hj).symm⟩)] at hf
    exact wpAny_tail hok 0 m listed _ w hsz (fun i => ⟨fun h => (by
      rcases Nat.lt_or_ge i m with h' | h'
      · exact h'
      · rw [htl i h'] at h; cases h), hl i⟩) (Nat.le_refl _) hms (by omega) hf
  | succ fuel ih =>
    intro listed v w hsz htl hdc hR hG hD hA hc
    by_cases hz : cntU (fun j => !listed.getD j false) m = 0
    · have hall := cntU_zero m hz
      have hl : ∀ i, i < m → listed.getD i false = true := fun i hi => by have := hall i hi; cases hx : listed.getD i false <;> rw [hx] at this <;> simp_all
      have hf := fin v w hR (fun j hj hlo => hG j hj (hl j hj) fun i hi => by
      rcases Nat.lt_or_ge i m with h' | h'
      · exact hlo i h'
      · rw [htl i h'] at hi; cases hi) (fun y hy => hD y hy (hl y.2.1 (hpq y hy).2.2.2))
      unfold stG at hf
      rw [stU_congr (v' := v) (L' := fun j => listed.getD j false) m (fun j hj => ⟨rfl, (hl j hj).symm⟩)] at hf
      exact wpAny_tail hok _ m listed _ w hsz (fun i => ⟨fun h => (by
        rcases Nat.lt_or_ge i m with h' | h'
        · exact h'
        · rw [htl i h'] at h; cases h), hl i⟩) (Nat.le_refl _) hms (by omega) hf
    · -- one of the first is not listed: the least of them may come up
      have hex : ∃ x, x < m ∧ listed.getD x false = false ∧ ∀ y, y < x → listed.getD y false = true := by
        have key : ∀ n, n ≤ m → (∀ i, i < n → listed.getD i false = true) ∨ ∃ x, x < m ∧ listed.getD x false = false ∧ ∀ y, y < x → listed.getD y false = true := by
          intro n
          induction n with
          | zero => intro _; exact .inl fun i hi => by omega
          | succ n ihn =>
            intro hn
            rcases ihn (by omega) with h | h
            · cases hx : listed.getD n false with
              | false => exact .inr ⟨n, by omega, hx, h⟩
              | true =>
                refine .inl fun i hi => ?_
                by_cases hin : i = n
                · rw [hin]; exact hx
                · exact h i (by omega)
            · exact .inr h
        rcases key m (Nat.le_refl _) with h | h
        · exfalso
          apply hz
          have key2 : ∀ n, n ≤ m → cntU (fun j => !listed.getD j false) n = 0 := by
            intro n
            induction n with
            | zero => intro _; rfl
            | succ n ihn => intro hn; unfold cntU; rw [ihn (by omega), h n (by omega)]; rfl
          exact key2 m (Nat.le_refl _)
        · exact h
      obtain ⟨x, hxm, hx0, hxl⟩ := hex
      have hxr : x ∈ Region.ready .any ops listed := by
        obtain ⟨o, ho⟩ : ∃ o, ops[x]? = some o := ⟨_, Array.getElem?_eq_getElem (by omega)⟩
        exact mem_ready.2 ⟨by
          have hj' : x < listed.size := by omega
          simpa [hj'] using hx0, o, ho, fun e he hb => hxl e.on (hok.back x e.on (direct_mem.2 ⟨o, ho, e, he, hb, rfl⟩))⟩
      refine ⟨fun h0 => (by rw [h0] at hxr; cases hxr), fun i hi => ?_⟩
      obtain ⟨h0, o, ho, hdeps⟩ := mem_ready.1 hi
      have his : i < ops.size := (Array.getElem?_eq_some_iff.1 ho).1
      have hun : listed.getD i false = false := by
        have hj' : i < listed.size := by omega
        simpa [hj'] using h0
      have hdir : ∀ e ∈ direct ops i, listed.getD e false = true := fun e he => by
        obtain ⟨o', ho', y, hy, hb, rfl⟩ := direct_mem.1 he
        rw [ho] at ho'
        cases ho'
        exact hdeps y hy hb
      have him : i < m := by
        rcases Nat.lt_or_ge i m with h' | h'
        · exact h'
        · have := tabs_listed hok (fun i => listed.getD i false) hdc i hdir x (hok.tail i x h' his (by omega))
          rw [hx0] at this
          cases this
      have hreads : ∀ j, j < m → readsB ops i j = true → listed.getD j false = true := fun j hjm hj => hdir j (hok.reads i j him hjm hj).2
      unfold wpOp
      simp only [ho]
      obtain ⟨hyes, hno⟩ := step i o him ho (stU ops a0 v (fun j => listed.getD j false) m) w hR (fun d hd => stU_out _ fun j hj _ d' hd' he => by
        cases he
        have := List.all_eq_true.1 hd j (List.mem_range.2 hj)
        rw [hd'] at this
        simp at this) (fun j d hjm hjd hj => by
        rw [stU_in hok hjd (hreads j hjm hj) (hok.size j d hjm hjd) _ hjm (Nat.le_refl _)]
        exact hG j hjm (hreads j hjm hj) fun i' hi' => by
          cases hc' : lose i' j with
          | false => rfl
          | true =>
            rcases hlose i' j i hc' him hj with this | this
            · rw [← this, hun] at hi'
              cases hi'
            · have h3 := tabs_listed hok (fun i => listed.getD i false) hdc i' (hdc i' hi') i this
              rw [hun] at h3
              cases h3)
      have hwe : Region.wanted o (yielded ops (stU ops a0 v (fun j => listed.getD j false) m).tmps) = Wants ops (stU ops a0 v (fun j => listed.getD j false) m).eval o := wants_eq fun j want d hgd hjd => by
        rw [stU_size]
        have hjm : j < m := hok.gm i o him ho j want hgd
        exact hok.size j d hjm hjd
      have next : ∀ u w', G i w' u → R w w' → (∀ j, j < m → keepB ops lose i j = true → ∀ x, (∀ y ∈ pq, i = y.2.1 → ∀ z ∈ pq, j = z.2.1 → x ≠ (stU ops a0 v (fun j => listed.getD j false) m).eval (.tmp y.2.2)) → G j w x → G j w' x) → (∀ y ∈ pq, i = y.1 → ∀ z ∈ pq, z.1 ≠ i → ∀ x, G z.1 w x → u ≠ x) → (∀ y ∈ pq, i = y.2.1 → (stU ops a0 v (fun j => listed.getD j false) m).eval (.tmp y.2.2) = u) → wpAny P .any ops Q fuel (listed.setIfInBounds i true) ((stU ops a0 v (fun j => listed.getD j false) m).put o.dst u) w' := by
        intro u w' hGu hRw hKw hFw hDw
        have hdst : o.dst = dstAt ops i := by simp [dstAt, ho]
        rw [hdst, stU_put hok hun m him (Nat.le_refl _)]
        have hL : ∀ j, (if j = i then true else listed.getD j false) = (listed.setIfInBounds i true).getD j false := by
          intro j
          by_cases hji : j = i
          · subst hji
            have : j < listed.size := by omega
            simp [this]
          · rw [if_neg hji, getD_set_ne false (Ne.symm hji)]
        rw [stU_congr (v' := fun j => if j = i then u else v j) (L' := fun j => (listed.setIfInBounds i true).getD j false) m (fun j _ => ⟨rfl, hL j⟩)]
        refine ih (listed.setIfInBounds i true) _ w' (by simpa using hsz) (fun k hk => ?_) (fun k hk e he => ?_) (Rt _ _ _ hR hRw) (fun j hj hl hlo => ?_) (fun y hy hq => ?_) (fun y hy z hz hyz hly hlz => ?_) ?_
        · rw [getD_set_ne false (by omega)]; exact htl k hk
        · have : listed.getD e false = true := by
            by_cases hki : k = i
            · subst hki; exact hdir e he
            · rw [getD_set_ne false (Ne.symm hki)] at hk
              exact hdc k hk e he
          rw [← hL e]
          by_cases hei : e = i
          · simp [hei]
          · rw [if_neg hei]; exact this
        · by_cases hji : j = i
          · subst hji; simpa using hGu
          · simp only [hji, if_false]
            rw [getD_set_ne false (Ne.symm hji)] at hl
            have hki : listed.getD i false = true → False := fun h => by rw [hun] at h; cases h
            refine hKw j hj ?_ _ ?_ (hG j hj hl fun i' hi' => hlo i' (by rw [← hL i']; by_cases h : i' = i <;> simp [h, hi']))
            have h1 : lose i j = false := hlo i (by rw [← hL i]; simp)
            have h2 : ((tabs ops (j + 1)).getD j []).contains i = false := by
              cases hc' : ((tabs ops (j + 1)).getD j []).contains i with
              | false => rfl
              | true => exact (hki (tabs_listed hok (fun i => listed.getD i false) hdc j (hdc j hl) i (by simpa using hc'))).elim
            unfold keepB
            · rw [h1, h2]
              simpa using hji
            · intro y hy hiy z hz hjz
              obtain ⟨hyp, hyd, hym, -⟩ := hpq y hy
              obtain ⟨hzp, -, -, -⟩ := hpq z hz
              have hyl : listed.getD y.1 false = true := hdir y.1 (by rw [hiy]; exact hyp)
              have hzl : listed.getD z.1 false = true := hdc j hl z.1 (by rw [hjz]; exact hzp)
              rw [stU_in hok hyd hyl (hok.size y.1 y.2.2 hym hyd) _ hym (Nat.le_refl _), hjz, ← hD z hz (by rw [← hjz]; exact hl)]
              exact hA z hz y hy (hap z hz y hy (by rw [← hjz, ← hiy]; exact hji)) hzl hyl
        · obtain ⟨p, q, dp⟩ := y
          obtain ⟨hqp, hdp, hpm, hqm⟩ := hpq _ hy
          simp only at hq hqp hdp hpm hqm ⊢
          rw [← hL q] at hq
          have hplt : p < q := hok.back q p hqp
          show (if p = i then u else v p) = (if q = i then u else v q)
          by_cases hqi : q = i
          · rw [if_neg (by omega), if_pos hqi]
            have hpl : listed.getD p false = true := hdir p (by rw [← hqi]; exact hqp)
            have := hDw _ hy hqi.symm
            rwa [stU_in hok hdp hpl (hok.size p dp hpm hdp) _ hpm (Nat.le_refl _)] at this
          · rw [if_neg hqi] at hq
            have hpl : listed.getD p false = true := hdc q hq p hqp
            have hpi : p ≠ i := fun h => by rw [h, hun] at hpl; cases hpl
            rw [if_neg hpi, if_neg hqi]
            exact hD _ hy hq
        · rw [← hL y.1] at hly
          rw [← hL z.1] at hlz
          show (if y.1 = i then u else v y.1) ≠ (if z.1 = i then u else v z.1)
          by_cases h1 : y.1 = i
          · rw [if_pos h1, if_neg (fun h => hyz (h1.trans h.symm))]
            rw [if_neg (fun h => hyz (h1.trans h.symm))] at hlz
            exact hFw y hy h1.symm z hz (fun h => hyz (h1.trans h.symm)) _ (hG z.1 (hpq z hz).2.2.1 hlz fun i' _ => hkm z hz i')
          · rw [if_neg h1]
            rw [if_neg h1] at hly
            by_cases h2 : z.1 = i
            · rw [if_pos h2]
              exact (hFw z hz h2.symm y hy h1 _ (hG y.1 (hpq y hy).2.2.1 hly fun i' _ => hkm y hy i')).symm
            · rw [if_neg h2]
              rw [if_neg h2] at hlz
              exact hA y hy z hz hyz hly hlz
        · have h1 := cntU_upd (f := fun j => !listed.getD j false) (i := i) (by simp [hun]) m him
          have h2 : cntU (fun j => !(listed.setIfInBounds i true).getD j false) m = cntU (fun j => if j = i then false else !listed.getD j false) m := by
            congr 1
            funext j
            rw [← hL j]
            by_cases hji : j = i <;> simp [hji]
          omega
      rw [hwe]
      split
      · rename_i hy
        left
        unfold Oper.wp
        exact hyes hy _ _ _ next
      · rename_i hy
        exact (hno (by simpa using hy)).elim


/-- What is asked of operation i. -/
def StepN (P : Program) (ops : Array Oper) (m : Nat) (a0 : Act) (w1 : World) (B : Nat) (G : Nat → World → Value → Prop) (pq : List (Nat × Nat × Tmp)) (lose : Nat → Nat → Bool) (i : Nat) : Prop :=
  ∀ (o : Oper), ops[i]? = some o → ∀ (ρ : Operand → Value) w', Below B w1 w' → LitR ρ → (∀ d, outB ops m d = true → ρ (.tmp d) = a0.eval (.tmp d)) → (∀ j d, j < m → dstAt ops j = some d → readsB ops i j = true → G j w' (ρ (.tmp d))) →
      (Wants ops ρ o = true → ∀ b (K : Act → World → Prop) (Q' : Exit → Act → World → Prop), (∀ u w'', G i w'' u → (Grew w' w'' ∨ (Below B w' w'' ∧ AllLt (fun j => keepB ops lose i j = true → ∀ x, (∀ y ∈ pq, i = y.2.1 → ∀ z ∈ pq, j = z.2.1 → x ≠ ρ (.tmp y.2.2)) → G j w' x → G j w'' x) m)) → (∀ y ∈ pq, i = y.1 → ∀ z ∈ pq, z.1 ≠ i → ∀ x, G z.1 w' x → u ≠ x) → (∀ y ∈ pq, i = y.2.1 → ρ (.tmp y.2.2) = u) → K (b.put o.dst u) w'') → o.upon P b K Q' ((execOp ρ o).run P w')) ∧ (Wants ops ρ o = false → False)
/-- The facts in one list. -/
theorem wp_region_growsN {id : Nat} {w : World} (m : Nat) (pq : List (Nat × Nat × Tmp)) (lose : List (Nat × Nat)) (Gl : List (World → Value → Prop)) (hm : P.follows .mixedOrders = true) (hms : m ≤ ops.size) (hok : growOk ops a0.tmps.size m = true) (hlo : loseOk ops lose m = true) (hpq0 : pqOk ops pq m = true) (hmk : mkOk pq lose = true)
    (hst : ∀ g ∈ Gl, ∀ w w' v, Grew w w' → g w v → g w' v)
    (step : AllLt (StepN P ops m a0 w.drew w.heap.size (fun i => Gl.getD i fun _ _ => False) pq (fun i j => lose.contains (i, j))) m)
    (fin : ∀ v w', Below w.heap.size w.drew w' → AllLt (fun j => lose.all (fun x => x.2 != j) = true → (Gl.getD j fun _ _ => False) w' (v j)) m → (∀ y ∈ pq, v y.1 = v y.2.1) → wpList P ops Q (ops.toList.drop m) (stG ops a0 v m) w') :
    (Code.region id ops true).wp P Q a0 w := by
  refine wp_region_any hm ?_
  have h := wpAny_growN (P := P) (Q := Q) (R := fun a b => a.heap.size ≤ b.heap.size ∧ (w.heap.size ≤ a.heap.size → Below w.heap.size a b)) (G := fun i => Gl.getD i fun _ _ => False) (pq := pq) (lose := fun i j => lose.contains (i, j)) (fun i j k hl hk hr => by
      have h1 := List.all_eq_true.1 hlo (i, j) (by simpa using hl)
      have h2 := List.all_eq_true.1 h1 k (List.mem_range.2 hk)
      simp only [hr, Bool.not_true, Bool.false_or, Bool.or_eq_true] at h2
      rcases h2 with h2 | h2
      · exact .inl (by simpa using h2)
      · exact .inr (by simpa using h2)) (fun y hy z hz => mkOk_apart hmk hy hz) (fun y hy i => mkOk_keeps hmk hy i) (pqOk_spec hpq0) (growOk_spec hok) hms w.drew (fun a => ⟨Nat.le_refl _, fun _ => Below.refl _ _⟩) (fun a b c hab hbc => ⟨Nat.le_trans hab.1 hbc.1, fun hh => (hab.2 hh).trans (hbc.2 (Nat.le_trans hh hab.1))⟩)
    (fun i o him ho s w' hR hS hG => by
      have hB := hR.2 (Nat.le_refl _)
      obtain ⟨h1, h2⟩ := AllLt.all _ step i him o ho s.eval w' hB ⟨fun _ => rfl, fun _ => rfl, fun _ => rfl⟩ hS hG
      refine ⟨fun hw b K Q' hK => h1 hw b K Q' fun u w'' hu hg hf hd => ?_, h2⟩
      rcases hg with hg | ⟨hb, hg⟩
      · refine hK u w'' hu ⟨hg.size, fun hh => Below.mono hg hh⟩ (fun j hj _ x _ hx => ?_) hf hd
        by_cases hi : j < Gl.length
        · have e : (Gl.getD j fun _ _ => False) = Gl[j] := by rw [List.getD_eq_getElem?_getD, List.getElem?_eq_getElem hi]; rfl
          simp only [e] at hx ⊢
          exact hst _ (List.getElem_mem hi) _ _ _ hg hx
        · have e : (Gl.getD j fun _ _ => False) = fun _ _ => False := by rw [List.getD_eq_getElem?_getD, List.getElem?_eq_none (by omega)]; rfl
          simp only [e] at hx
      · exact hK u w'' hu ⟨hb.size, fun _ => hb⟩ (fun j hj => AllLt.all _ hg j hj) hf hd)
    (fun v w' hR hG hD => fin v w' (hR.2 (Nat.le_refl _)) (by
      have key : ∀ n, n ≤ m → AllLt (fun j => lose.all (fun x => x.2 != j) = true → (Gl.getD j fun _ _ => False) w' (v j)) n := by
        intro n
        induction n with
        | zero => intro _; trivial
        | succ n ih => exact fun hn => ⟨ih (by omega), fun hl => hG n (by omega) fun i _ => by
            cases hc : lose.contains (i, n) with
            | false => rfl
            | true =>
              have := List.all_eq_true.1 hl (i, n) (by simpa using hc)
              simp at this⟩
      exact key _ (Nat.le_refl _)) hD) ops.size (Array.replicate ops.size false) (fun _ => undef) w.drew (by simp) (fun i _ => by
      by_cases hi : i < ops.size <;> simp [hi]) (fun i hi => by by_cases hi' : i < ops.size <;> simp [hi'] at hi) ⟨Nat.le_refl _, fun _ => Below.refl _ _⟩ (fun j hj hl => by
      have hj' : j < ops.size := by omega
      simp [hj'] at hl) (fun y hy hl => by
      have hj' : y.2.1 < ops.size := by have := (pqOk_spec hpq0 y hy).2.2.2; omega
      simp [hj'] at hl) (fun y hy z hz _ hl => by
      have hj' : y.1 < ops.size := by have := (pqOk_spec hpq0 y hy).2.2.1; omega
      simp [hj'] at hl) (by
    have : cntU (fun j => !(Array.replicate ops.size false).getD j false) m ≤ m := by
      have key : ∀ (f : Nat → Bool) n, cntU f n ≤ n := by
        intro f n
        induction n with
        | zero => exact Nat.le_refl _
        | succ n ih => unfold cntU; split <;> omega
      exact key _ _
    omega)
  have e : stU ops a0 (fun _ => undef) (fun j => (Array.replicate ops.size false).getD j false) m = a0 := by
    have key : ∀ n, n ≤ m → stU ops a0 (fun _ => undef) (fun j => (Array.replicate ops.size false).getD j false) n = a0 := by
      intro n
      induction n with
      | zero => intro _; rfl
      | succ n ih =>
        intro hn
        unfold stU
        rw [ih (by omega)]
        have hn' : n < ops.size := by omega
        rw [if_neg (by simp [hn'])]
    exact key _ (Nat.le_refl _)
  rw [e] at h
  exact h
end
end Go.Inc
