/- A REGION THAT DRAWS ITS ORDER, IN WHICH ONE OPERATION WRITES: what all worlds ahead of it keep is J0, behind it J1; the others only add. No program is named here. -/
import Derived.Test.YtbhpfdpcafdeaaaGrow3
namespace Go.Inc
open Go Go.RowKit
/-- Operation i is x, or x comes behind it; it comes behind x. -/
def aheadB (ops : Array Oper) (x i : Nat) : Bool := i == x || ((tabs ops (x + 1)).getD x []).contains i
def behindB (ops : Array Oper) (x i : Nat) : Bool := ((tabs ops (i + 1)).getD i []).contains x
def PhX (ops : Array Oper) (x : Nat) (J0 J1 : World → Prop) (i : Nat) (w : World) : Prop := if aheadB ops x i = true then J0 w else if behindB ops x i = true then J1 w else J0 w ∨ J1 w
theorem PhX.ahead {ops : Array Oper} {x : Nat} {J0 J1 : World → Prop} {i : Nat} {w : World} (h : PhX ops x J0 J1 i w) (ha : aheadB ops x i = true) : J0 w := by
  unfold PhX at h
  rwa [if_pos ha] at h
theorem PhX.any {ops : Array Oper} {x : Nat} {J0 J1 : World → Prop} {i : Nat} {w : World} (h : PhX ops x J0 J1 i w) : J0 w ∨ J1 w := by
  unfold PhX at h
  split at h
  · exact .inl h
  · split at h
    · exact .inr h
    · exact h
section
variable {P : Program} {ops : Array Oper} {Q : Exit → Act → World → Prop} {a0 : Act} {J0 J1 : World → Prop} {G : Nat → World → Value → Prop} {lose : Nat → Bool}
theorem wpAny_growX {m x : Nat} (hxm0 : x < m) (hlose : ∀ j k, lose j = true → k < m → readsB ops k j = true → k = x ∨ k ∈ (tabs ops (x + 1)).getD x []) (hok : GrowOk ops a0.tmps.size m) (hms : m ≤ ops.size)
    (hJ0 : ∀ a b, Grew a b → J0 a → J0 b) (hJ1 : ∀ a b, Grew a b → J1 a → J1 b) (hst : ∀ j a b y, Grew a b → G j a y → G j b y)
    (step : ∀ (i : Nat) (o : Oper), i < m → ops[i]? = some o → ∀ (s : Act) w, PhX ops x J0 J1 i w → (∀ d, outB ops m d = true → s.eval (.tmp d) = a0.eval (.tmp d)) → (∀ j d, j < m → dstAt ops j = some d → readsB ops i j = true → G j w (s.eval (.tmp d))) →
      (Wants ops s.eval o = true → ∀ b (K : Act → World → Prop) (Q' : Exit → Act → World → Prop), (∀ u w', G i w' u → (i ≠ x → Grew w w') → (i = x → J1 w' ∧ ∀ j, j < m → j ≠ x → lose j = false → ∀ y, G j w y → G j w' y) → K (b.put o.dst u) w') → o.upon P b K Q' ((execOp s.eval o).run P w)) ∧ (Wants ops s.eval o = false → False))
    (fin : ∀ v w, J1 w → (∀ j, j < m → lose j = false → G j w (v j)) → wpList P ops Q (ops.toList.drop m) (stG ops a0 v m) w) :
    ∀ fuel (listed : Array Bool) v w, listed.size = ops.size → (∀ i, m ≤ i → listed.getD i false = false) → (∀ i, listed.getD i false = true → ∀ e ∈ direct ops i, listed.getD e false = true) → ((listed.getD x false = false → J0 w) ∧ (listed.getD x false = true → J1 w)) → (∀ j, j < m → listed.getD j false = true → (listed.getD x false = true → lose j = false) → G j w (v j)) → cntU (fun j => !listed.getD j false) m + (ops.size - m) ≤ fuel →
      wpAny P .any ops Q fuel listed (stU ops a0 v (fun j => listed.getD j false) m) w := by
  intro fuel
  induction fuel with
  | zero =>
    intro listed v w hsz htl hdc hR hG hc
    have hall := cntU_zero m (by omega : cntU (fun j => !listed.getD j false) m = 0)
    have hl : ∀ i, i < m → listed.getD i false = true := fun i hi => by have := hall i hi; cases hx : listed.getD i false <;> rw [hx] at this <;> simp_all
    have hf := fin v w (hR.2 (hl x hxm0)) (fun j hj hlo => hG j hj (hl j hj) fun _ => hlo)
    unfold stG at hf
    rw [stU_congr (v' := v) (L' := fun j => listed.getD j false) m (fun j hj => ⟨rfl, (hl j hj).symm⟩)] at hf
    exact wpAny_tail hok 0 m listed _ w hsz (fun i => ⟨fun h => (by
      rcases Nat.lt_or_ge i m with h' | h'
      · exact h'
      · rw [htl i h'] at h; cases h), hl i⟩) (Nat.le_refl _) hms (by omega) hf
  | succ fuel ih =>
    intro listed v w hsz htl hdc hR hG hc
    by_cases hz : cntU (fun j => !listed.getD j false) m = 0
    · have hall := cntU_zero m hz
      have hl : ∀ i, i < m → listed.getD i false = true := fun i hi => by have := hall i hi; cases hx : listed.getD i false <;> rw [hx] at this <;> simp_all
      have hf := fin v w (hR.2 (hl x hxm0)) (fun j hj hlo => hG j hj (hl j hj) fun _ => hlo)
      unfold stG at hf
      rw [stU_congr (v' := v) (L' := fun j => listed.getD j false) m (fun j hj => ⟨rfl, (hl j hj).symm⟩)] at hf
      exact wpAny_tail hok _ m listed _ w hsz (fun i => ⟨fun h => (by
        rcases Nat.lt_or_ge i m with h' | h'
        · exact h'
        · rw [htl i h'] at h; cases h), hl i⟩) (Nat.le_refl _) hms (by omega) hf
    · -- one of the first is not listed: the least of them may come up
      have hex : ∃ x, x < m ∧ listed.getD x false = false ∧ ∀ y, y < x → listed.getD y false = true := by
        have key : ∀ n, n ≤ m → (∀ i, i < n → listed.getD i false = true) ∨ ∃ x, x < m ∧ listed.getD x false = false ∧ ∀ y, y < x → listed.getD y false = true := by
          intro n
          induction n with
          | zero => intro _; exact .inl fun i hi => by omega
          | succ n ihn =>
            intro hn
            rcases ihn (by omega) with h | h
            · cases hx : listed.getD n false with
              | false => exact .inr ⟨n, by omega, hx, h⟩
              | true =>
                refine .inl fun i hi => ?_
                by_cases hin : i = n
                · rw [hin]; exact hx
                · exact h i (by omega)
            · exact .inr h
        rcases key m (Nat.le_refl _) with h | h
        · exfalso
          apply hz
          have key2 : ∀ n, n ≤ m → cntU (fun j => !listed.getD j false) n = 0 := by
            intro n
            induction n with
            | zero => intro _; rfl
            | succ n ihn => intro hn; unfold cntU; rw [ihn (by omega), h n (by omega)]; rfl
          exact key2 m (Nat.le_refl _)
        · exact h
      obtain ⟨z, hxm, hx0, hxl⟩ := hex
      have hxr : z ∈ Region.ready .any ops listed := by
        obtain ⟨o, ho⟩ : ∃ o, ops[z]? = some o := ⟨_, Array.getElem?_eq_getElem (by omega)⟩
        exact mem_ready.2 ⟨by
          have hj' : z < listed.size := by omega
          simpa [hj'] using hx0, o, ho, fun e he hb => hxl e.on (hok.back z e.on (direct_mem.2 ⟨o, ho, e, he, hb, rfl⟩))⟩
      refine ⟨fun h0 => (by rw [h0] at hxr; cases hxr), fun i hi => ?_⟩
      obtain ⟨h0, o, ho, hdeps⟩ := mem_ready.1 hi
      have his : i < ops.size := (Array.getElem?_eq_some_iff.1 ho).1
      have hun : listed.getD i false = false := by
        have hj' : i < listed.size := by omega
        simpa [hj'] using h0
      have hdir : ∀ e ∈ direct ops i, listed.getD e false = true := fun e he => by
        obtain ⟨o', ho', y, hy, hb, rfl⟩ := direct_mem.1 he
        rw [ho] at ho'
        cases ho'
        exact hdeps y hy hb
      have him : i < m := by
        rcases Nat.lt_or_ge i m with h' | h'
        · exact h'
        · have := tabs_listed hok (fun i => listed.getD i false) hdc i hdir z (hok.tail i z h' his (by omega))
          rw [hx0] at this
          cases this
      have hreads : ∀ j, j < m → readsB ops i j = true → listed.getD j false = true := fun j hjm hj => hdir j (hok.reads i j him hjm hj).2
      have hahead : aheadB ops x i = true → listed.getD x false = false := fun ha => by
        cases hx' : listed.getD x false with
        | false => rfl
        | true =>
          unfold aheadB at ha
          rw [Bool.or_eq_true] at ha
          rcases ha with h1 | h1
          · have h2 : i = x := by simpa using h1
            rw [h2, hx'] at hun
            cases hun
          · have h2 := tabs_listed hok (fun i => listed.getD i false) hdc x (hdc x hx') i (by simpa using h1)
            rw [hun] at h2
            cases h2
      have hPh : PhX ops x J0 J1 i w := by
        unfold PhX
        by_cases ha : aheadB ops x i = true
        · rw [if_pos ha]
          exact hR.1 (hahead ha)
        · rw [if_neg ha]
          by_cases hbh : behindB ops x i = true
          · rw [if_pos hbh]
            refine hR.2 ?_
            unfold behindB at hbh
            exact tabs_listed hok (fun i => listed.getD i false) hdc i hdir x (by simpa using hbh)
          · rw [if_neg hbh]
            cases hx' : listed.getD x false with
            | false => exact .inl (hR.1 hx')
            | true => exact .inr (hR.2 hx')
      unfold wpOp
      simp only [ho]
      obtain ⟨hyes, hno⟩ := step i o him ho (stU ops a0 v (fun j => listed.getD j false) m) w hPh (fun d hd => stU_out _ fun j hj _ d' hd' he => by
        cases he
        have := List.all_eq_true.1 hd j (List.mem_range.2 hj)
        rw [hd'] at this
        simp at this) (fun j d hjm hjd hj => by
        rw [stU_in hok hjd (hreads j hjm hj) (hok.size j d hjm hjd) _ hjm (Nat.le_refl _)]
        exact hG j hjm (hreads j hjm hj) fun hi' => by
          cases hc' : lose j with
          | false => rfl
          | true =>
            rcases hlose j i hc' him hj with this | this
            · rw [← this, hun] at hi'
              cases hi'
            · have h3 := tabs_listed hok (fun i => listed.getD i false) hdc x (hdc x hi') i this
              rw [hun] at h3
              cases h3)
      have hwe : Region.wanted o (yielded ops (stU ops a0 v (fun j => listed.getD j false) m).tmps) = Wants ops (stU ops a0 v (fun j => listed.getD j false) m).eval o := wants_eq fun j want d hgd hjd => by
        rw [stU_size]
        have hjm : j < m := hok.gm i o him ho j want hgd
        exact hok.size j d hjm hjd
      have next : ∀ u w', G i w' u → (i ≠ x → Grew w w') → (i = x → J1 w' ∧ ∀ j, j < m → j ≠ x → lose j = false → ∀ y, G j w y → G j w' y) → wpAny P .any ops Q fuel (listed.setIfInBounds i true) ((stU ops a0 v (fun j => listed.getD j false) m).put o.dst u) w' := by
        intro u w' hGu hRw hKw
        have hdst : o.dst = dstAt ops i := by simp [dstAt, ho]
        rw [hdst, stU_put hok hun m him (Nat.le_refl _)]
        have hL : ∀ j, (if j = i then true else listed.getD j false) = (listed.setIfInBounds i true).getD j false := by
          intro j
          by_cases hji : j = i
          · subst hji
            have : j < listed.size := by omega
            simp [this]
          · rw [if_neg hji, getD_set_ne false (Ne.symm hji)]
        rw [stU_congr (v' := fun j => if j = i then u else v j) (L' := fun j => (listed.setIfInBounds i true).getD j false) m (fun j _ => ⟨rfl, hL j⟩)]
        refine ih (listed.setIfInBounds i true) _ w' (by simpa using hsz) (fun k hk => ?_) (fun k hk e he => ?_) ⟨fun hx' => ?_, fun hx' => ?_⟩ (fun j hj hl hlo => ?_) ?_
        · rw [getD_set_ne false (by omega)]; exact htl k hk
        · have : listed.getD e false = true := by
            by_cases hki : k = i
            · subst hki; exact hdir e he
            · rw [getD_set_ne false (Ne.symm hki)] at hk
              exact hdc k hk e he
          rw [← hL e]
          by_cases hei : e = i
          · simp [hei]
          · rw [if_neg hei]; exact this
        · rw [← hL x] at hx'
          by_cases hxi : x = i
          · rw [if_pos hxi] at hx'; cases hx'
          · rw [if_neg hxi] at hx'
            exact hJ0 _ _ (hRw (Ne.symm hxi)) (hR.1 hx')
        · rw [← hL x] at hx'
          by_cases hxi : x = i
          · exact (hKw hxi.symm).1
          · rw [if_neg hxi] at hx'
            exact hJ1 _ _ (hRw (Ne.symm hxi)) (hR.2 hx')
        · by_cases hji : j = i
          · subst hji; simpa using hGu
          · simp only [hji, if_false]
            rw [getD_set_ne false (Ne.symm hji)] at hl
            by_cases hix : i = x
            · have hlj : lose j = false := hlo (by rw [← hL x, if_pos hix.symm])
              refine (hKw hix).2 j hj (fun e => hji (e.trans hix.symm)) hlj _ (hG j hj hl fun _ => hlj)
            · refine hst j _ _ _ (hRw hix) (hG j hj hl fun hx' => hlo ?_)
              rw [← hL x, if_neg (Ne.symm hix)]
              exact hx'
        · have h1 := cntU_upd (f := fun j => !listed.getD j false) (i := i) (by simp [hun]) m him
          have h2 : cntU (fun j => !(listed.setIfInBounds i true).getD j false) m = cntU (fun j => if j = i then false else !listed.getD j false) m := by
            congr 1
            funext j
            rw [← hL j]
            by_cases hji : j = i <;> simp [hji]
          omega
      rw [hwe]
      split
      · rename_i hy
        left
        unfold Oper.wp
        exact hyes hy _ _ _ next
      · rename_i hy
        exact (hno (by simpa using hy)).elim
/-- What is asked of operation i. -/
def StepX (P : Program) (ops : Array Oper) (m : Nat) (a0 : Act) (x : Nat) (J0 J1 : World → Prop) (G : Nat → World → Value → Prop) (lose : Nat → Bool) (i : Nat) : Prop :=
  ∀ (o : Oper), ops[i]? = some o → ∀ (ρ : Operand → Value) w', PhX ops x J0 J1 i w' → LitR ρ → (∀ d, outB ops m d = true → ρ (.tmp d) = a0.eval (.tmp d)) → (∀ j d, j < m → dstAt ops j = some d → readsB ops i j = true → G j w' (ρ (.tmp d))) →
      (Wants ops ρ o = true → ∀ b (K : Act → World → Prop) (Q' : Exit → Act → World → Prop), (∀ u w'', G i w'' u → (i ≠ x → Grew w' w'') → (i = x → J1 w'' ∧ AllLt (fun j => j ≠ x → lose j = false → ∀ y, G j w' y → G j w'' y) m) → K (b.put o.dst u) w'') → o.upon P b K Q' ((execOp ρ o).run P w')) ∧ (Wants ops ρ o = false → False)
def loseX (ops : Array Oper) (lose : List Nat) (x m : Nat) : Bool := lose.all fun j => (List.range m).all fun k => !readsB ops k j || k == x || ((tabs ops (x + 1)).getD x []).contains k
/-- THE LAW: operation x writes; the others of the first m only add; what follows comes behind all. -/
theorem wp_region_growsX {id : Nat} {w : World} (m x : Nat) (J0 J1 : World → Prop) (lose : List Nat) (Gl : List (World → Value → Prop)) (hm : P.follows .mixedOrders = true) (hms : m ≤ ops.size) (hok : growOk ops a0.tmps.size m = true) (hlo : loseX ops lose x m = true) (hxm : x < m)
    (h0 : J0 w.drew) (hJ0 : ∀ a b, Grew a b → J0 a → J0 b) (hJ1 : ∀ a b, Grew a b → J1 a → J1 b) (hst : ∀ g ∈ Gl, ∀ w w' v, Grew w w' → g w v → g w' v)
    (step : AllLt (StepX P ops m a0 x J0 J1 (fun i => Gl.getD i fun _ _ => False) (fun j => lose.contains j)) m)
    (fin : ∀ v w', J1 w' → AllLt (fun j => lose.contains j = false → (Gl.getD j fun _ _ => False) w' (v j)) m → wpList P ops Q (ops.toList.drop m) (stG ops a0 v m) w') :
    (Code.region id ops true).wp P Q a0 w := by
  refine wp_region_any hm ?_
  have h := wpAny_growX (P := P) (Q := Q) (J0 := J0) (J1 := J1) (G := fun i => Gl.getD i fun _ _ => False) (lose := fun j => lose.contains j) hxm (fun j k hl hk hr => by
      have h1 := List.all_eq_true.1 hlo j (by simpa using hl)
      have h2 := List.all_eq_true.1 h1 k (List.mem_range.2 hk)
      simp only [hr, Bool.not_true, Bool.false_or, Bool.or_eq_true] at h2
      rcases h2 with h2 | h2
      · exact .inl (by simpa using h2)
      · exact .inr (by simpa using h2)) (growOk_spec hok) hms hJ0 hJ1 (fun j a b y hg hy => by
        by_cases hi : j < Gl.length
        · have e : (Gl.getD j fun _ _ => False) = Gl[j] := by rw [List.getD_eq_getElem?_getD, List.getElem?_eq_getElem hi]; rfl
          simp only [e] at hy ⊢
          exact hst _ (List.getElem_mem hi) _ _ _ hg hy
        · have e : (Gl.getD j fun _ _ => False) = fun _ _ => False := by rw [List.getD_eq_getElem?_getD, List.getElem?_eq_none (by omega)]; rfl
          simp only [e] at hy)
    (fun i o him ho s w' hR hS hG => by
      obtain ⟨h1, h2⟩ := AllLt.all _ step i him o ho s.eval w' hR ⟨fun _ => rfl, fun _ => rfl, fun _ => rfl⟩ hS hG
      exact ⟨fun hw b K Q' hK => h1 hw b K Q' fun u w'' hu hg hx => hK u w'' hu hg fun e => ⟨(hx e).1, fun j hj hne hlj y hy => AllLt.all _ (hx e).2 j hj hne hlj y hy⟩, h2⟩)
    (fun v w' hR hG => fin v w' hR (by
      have key : ∀ n, n ≤ m → AllLt (fun j => lose.contains j = false → (Gl.getD j fun _ _ => False) w' (v j)) n := by
        intro n
        induction n with
        | zero => intro _; trivial
        | succ n ih => exact fun hn => ⟨ih (by omega), fun hl => hG n (by omega) hl⟩
      exact key _ (Nat.le_refl _))) ops.size (Array.replicate ops.size false) (fun _ => undef) w.drew (by simp) (fun i _ => by
      by_cases hi : i < ops.size <;> simp [hi]) (fun i hi => by by_cases hi' : i < ops.size <;> simp [hi'] at hi) ⟨fun _ => h0, fun hx' => by
      have hj' : x < ops.size := by omega
      simp [hj'] at hx'⟩ (fun j hj hl => by
      have hj' : j < ops.size := by omega
      simp [hj'] at hl) (by
    have : cntU (fun j => !(Array.replicate ops.size false).getD j false) m ≤ m := by
      have key : ∀ (f : Nat → Bool) n, cntU f n ≤ n := by
        intro f n
        induction n with
        | zero => exact Nat.le_refl _
        | succ n ih => unfold cntU; split <;> omega
      exact key _ _
    omega)
  have e : stU ops a0 (fun _ => undef) (fun j => (Array.replicate ops.size false).getD j false) m = a0 := by
    have key : ∀ n, n ≤ m → stU ops a0 (fun _ => undef) (fun j => (Array.replicate ops.size false).getD j false) n = a0 := by
      intro n
      induction n with
      | zero => intro _; rfl
      | succ n ih =>
        intro hn
        unfold stU
        rw [ih (by omega)]
        have hn' : n < ops.size := by omega
        rw [if_neg (by simp [hn'])]
    exact key _ (Nat.le_refl _)
  rw [e] at h
  exact h
end
end Go.Inc
