/- A REGION THAT DRAWS ITS ORDER, WHOSE OPERATIONS ONLY ADD TO THE MEMORY: one walk, in the order of the text, serves every order. No program is named here. A REGION THAT DRAWS ITS ORDER, as Grow; an operation may write what others left, if none but itself looks at it or what follows it. No program is named here. A REGION THAT DRAWS ITS ORDER, IN WHICH ONE OPERATION WRITES: what all worlds ahead of it keep is J0, behind it J1; the others only add. No program is named here. -/
import Derived.Test.YtmllpednaibeeaaU0
import Derived.Orders
namespace Go.Inc
open Go Go.RowKit

def dstAt (ops : Array Oper) (i : Nat) : Option Tmp := (ops[i]?).bind (·.dst)
/-- Operation i looks at what operation j leaves. -/
def readsB (ops : Array Oper) (i j : Nat) : Bool :=
  match ops[i]?, dstAt ops j with
  | some o, some d => (o.looksAt ops).contains d
  | _, _ => false
def notSelect : Op → Bool
  | .select .. => false
  | _ => true
/-- What operation j comes behind, directly or by others. -/
def direct (ops : Array Oper) (j : Nat) : List Nat :=
  match ops[j]? with
  | some o => (o.after.toList.filter fun e => Region.binds .any e).map (·.on)
  | none => []
def tabs (ops : Array Oper) : Nat → List (List Nat)
  | 0 => []
  | n + 1 => tabs ops n ++ [direct ops n ++ (direct ops n).flatMap fun e => (tabs ops n).getD e []]
/-- Of the first m: no guards; every one writes a slot of its own; what it looks at, it comes behind. What follows them comes behind all that stands ahead of it. -/
def growOk (ops : Array Oper) (n m : Nat) : Bool :=
  (List.range ops.size).all fun i =>
    match ops[i]? with
    | none => true
    | some o =>
      ((direct ops i).all fun e => decide (e < i)) &&
      (if i < m then
        notSelect o.op && (match o.guard with | some (j, _) => decide (j < m) | none => true) && (match o.dst with | some d => decide (d < n) | none => true) &&
        (List.range m).all fun j =>
          (match o.dst, dstAt ops j with | some d, some e => d != e || i == j | _, _ => true) &&
          (!readsB ops i j || (decide (j < i) && (direct ops i).contains j))
      else (List.range i).all fun j => ((tabs ops (i + 1)).getD i []).contains j)
/-- Is the operation carried out? -/
def Wants (ops : Array Oper) (ρ : Operand → Value) (o : Oper) : Bool :=
  match o.guard with
  | none => true
  | some (j, want) => match dstAt ops j with
    | some d => match ρ (.tmp d) with
      | .bool b => b == want
      | _ => false
    | none => false
/-- A slot that no operation of the region writes. -/
def outB (ops : Array Oper) (m : Nat) (d : Tmp) : Bool := (List.range m).all fun j => dstAt ops j != some d
/-- The state: of the operations below n those that are listed have left their values. -/
def stU (ops : Array Oper) (a0 : Act) (v : Nat → Value) (L : Nat → Bool) : Nat → Act
  | 0 => a0
  | n + 1 => if L n then (stU ops a0 v L n).put (dstAt ops n) (v n) else stU ops a0 v L n
def stG (ops : Array Oper) (a0 : Act) (v : Nat → Value) (n : Nat) : Act := stU ops a0 v (fun _ => true) n
def cntU (f : Nat → Bool) : Nat → Nat
  | 0 => 0
  | n + 1 => cntU f n + (if f n then 1 else 0)

section
variable {P : Program} {ops : Array Oper} {Q : Exit → Act → World → Prop} {a0 : Act}
structure GrowOk (ops : Array Oper) (n m : Nat) : Prop where
  sel : ∀ (i : Nat) (o : Oper), i < m → ops[i]? = some o → ∀ cs b, o.op ≠ .select cs b
  size : ∀ (i : Nat) d, i < m → dstAt ops i = some d → d < n
  back : ∀ (i : Nat), ∀ e ∈ direct ops i, e < i
  apart : ∀ (i j : Nat) d, i < m → j < m → dstAt ops i = some d → dstAt ops j = some d → i = j
  reads : ∀ (i j : Nat), i < m → j < m → readsB ops i j = true → j < i ∧ j ∈ direct ops i
  gm : ∀ (i : Nat) (o : Oper), i < m → ops[i]? = some o → ∀ j want, o.guard = some (j, want) → j < m
  tail : ∀ (i j : Nat), m ≤ i → i < ops.size → j < i → j ∈ (tabs ops (i + 1)).getD i []
theorem dstAt_lt {i : Nat} {d : Tmp} (h : dstAt ops i = some d) : i < ops.size := by
  rcases Nat.lt_or_ge i ops.size with h' | h'
  · exact h'
  · simp [dstAt, Array.getElem?_eq_none h'] at h
theorem direct_mem {i e : Nat} : e ∈ direct ops i ↔ ∃ o, ops[i]? = some o ∧ ∃ x ∈ o.after, Region.binds .any x = true ∧ x.on = e := by
  unfold direct
  cases ho : ops[i]? with
  | none => simp
  | some o => simp [and_assoc]
theorem growOk_spec {n m : Nat} (h : growOk ops n m = true) : GrowOk ops n m := by
  have key : ∀ (i : Nat) (o : Oper), ops[i]? = some o → (((direct ops i).all fun e => decide (e < i)) &&
      (if i < m then
        notSelect o.op && (match o.guard with | some (j, _) => decide (j < m) | none => true) && (match o.dst with | some d => decide (d < n) | none => true) &&
        (List.range m).all fun j =>
          (match o.dst, dstAt ops j with | some d, some e => d != e || i == j | _, _ => true) &&
          (!readsB ops i j || (decide (j < i) && (direct ops i).contains j))
      else (List.range i).all fun j => ((tabs ops (i + 1)).getD i []).contains j)) = true := by
    intro i o ho
    have hi : i < ops.size := (Array.getElem?_eq_some_iff.1 ho).1
    have := List.all_eq_true.1 h i (List.mem_range.2 hi)
    simpa only [ho] using this
  have get : ∀ {i : Nat}, i < ops.size → ∃ o, ops[i]? = some o := fun hi => ⟨_, Array.getElem?_eq_getElem hi⟩
  refine ⟨fun i o him ho cs b hs => ?_, fun i d him hd => ?_, fun i e he => ?_, fun i j d him hjm hi hj => ?_, fun i j him hjm hr => ?_, fun i o him ho j want hg => ?_, fun i j hi his hj => ?_⟩
  · have := key i o ho
    rw [if_pos him] at this
    simp only [Bool.and_eq_true] at this
    rw [hs] at this
    exact absurd this.2.1.1.1 (by simp [notSelect])
  · obtain ⟨o, ho⟩ := get (dstAt_lt hd)
    have := key i o ho
    rw [if_pos him] at this
    simp only [Bool.and_eq_true] at this
    have hd' : o.dst = some d := by simpa [dstAt, ho] using hd
    have h2 := this.2.1.2
    rw [hd'] at h2
    exact of_decide_eq_true h2
  · obtain ⟨o, ho, _⟩ := direct_mem.1 he
    have := key i o ho
    simp only [Bool.and_eq_true] at this
    exact of_decide_eq_true (List.all_eq_true.1 this.1 e he)
  · obtain ⟨o, ho⟩ := get (dstAt_lt hi)
    have := key i o ho
    rw [if_pos him] at this
    simp only [Bool.and_eq_true] at this
    have h2 := List.all_eq_true.1 this.2.2 j (List.mem_range.2 hjm)
    have hd' : o.dst = some d := by simpa [dstAt, ho] using hi
    simp only [Bool.and_eq_true] at h2
    have h3 := h2.1
    rw [hd', hj] at h3
    simpa using h3
  · have his : i < ops.size := by
      rcases Nat.lt_or_ge i ops.size with h' | h'
      · exact h'
      · simp [readsB, Array.getElem?_eq_none h'] at hr
    obtain ⟨o, ho⟩ := get his
    have := key i o ho
    rw [if_pos him] at this
    simp only [Bool.and_eq_true] at this
    have h2 := List.all_eq_true.1 this.2.2 j (List.mem_range.2 hjm)
    simp only [Bool.and_eq_true, Bool.or_eq_true, Bool.not_eq_true'] at h2
    rcases h2.2 with h3 | h3
    · rw [hr] at h3; cases h3
    · exact ⟨of_decide_eq_true h3.1, by simpa using h3.2⟩
  · have := key i o ho
    rw [if_pos him] at this
    simp only [Bool.and_eq_true] at this
    have h2 := this.2.1.1.2
    rw [hg] at h2
    exact of_decide_eq_true h2
  · obtain ⟨o, ho⟩ := get his
    have := key i o ho
    rw [if_neg (by omega)] at this
    simp only [Bool.and_eq_true] at this
    have h2 := List.all_eq_true.1 this.2 j (List.mem_range.2 hj)
    simpa using h2
theorem tabs_len (n : Nat) : (tabs ops n).length = n := by
  induction n with
  | zero => rfl
  | succ n ih => unfold tabs; simp [ih]
theorem tabs_get {n i : Nat} (h : i < n) : (tabs ops n).getD i [] = (tabs ops (i + 1)).getD i [] := by
  induction n with
  | zero => omega
  | succ n ih =>
    by_cases hi : i = n
    · subst hi; rfl
    · conv => lhs; unfold tabs
      rw [List.getD_eq_getElem?_getD, List.getElem?_append_left (by rw [tabs_len]; omega), ← List.getD_eq_getElem?_getD]
      exact ih (by omega)
theorem tabs_self (i : Nat) : (tabs ops (i + 1)).getD i [] = direct ops i ++ (direct ops i).flatMap fun e => (tabs ops i).getD e [] := by
  conv => lhs; unfold tabs
  rw [List.getD_eq_getElem?_getD, List.getElem?_append_right (by rw [tabs_len]; exact Nat.le_refl _), tabs_len]
  simp
/-- All that stands in j's list has come up, where all that it directly comes behind has. -/
theorem tabs_listed {n m : Nat} (hok : GrowOk ops n m) (L : Nat → Bool) (hdc : ∀ i, L i = true → ∀ e ∈ direct ops i, L e = true) : ∀ j, (∀ e ∈ direct ops j, L e = true) → ∀ x ∈ (tabs ops (j + 1)).getD j [], L x = true := by
  intro j
  induction j using Nat.strongRecOn with
  | _ j ih =>
    intro hd x hx
    rw [tabs_self, List.mem_append] at hx
    rcases hx with hx | hx
    · exact hd x hx
    · obtain ⟨e, he, hx⟩ := List.mem_flatMap.1 hx
      have hej := hok.back j e he
      rw [tabs_get hej] at hx
      exact ih e hej (fun y hy => hdc e (hd e he) y hy) x hx

theorem wants_eq {o : Oper} {a : Act} (hg : ∀ j w d, o.guard = some (j, w) → dstAt ops j = some d → d < a.tmps.size) : Region.wanted o (yielded ops a.tmps) = Wants ops a.eval o := by
  unfold Region.wanted Wants
  cases hgd : o.guard with
  | none => rfl
  | some g =>
    obtain ⟨j, want⟩ := g
    show (yielded ops a.tmps j == some want) = _
    have hy : yielded ops a.tmps j = match (dstAt ops j).bind (a.tmps[·]?) with | some (.bool b) => some b | _ => none := rfl
    rw [hy]
    cases hd : dstAt ops j with
    | none => simp only [hd]; rfl
    | some d =>
      have hlt := hg j want d hgd hd
      have he : a.tmps[d]? = some (a.eval (.tmp d)) := by simp [Act.eval, hlt]
      simp only [hd, Option.bind_some, he]
      cases a.eval (.tmp d) <;> rfl
theorem stU_congr {v v' : Nat → Value} {L L' : Nat → Bool} : ∀ n, (∀ j, j < n → v j = v' j ∧ L j = L' j) → stU ops a0 v L n = stU ops a0 v' L' n
  | 0, _ => rfl
  | n + 1, h => by
    unfold stU
    rw [stU_congr n fun j hj => h j (by omega), (h n (by omega)).1, (h n (by omega)).2]
theorem stU_size (v : Nat → Value) (L : Nat → Bool) : ∀ n, (stU ops a0 v L n).tmps.size = a0.tmps.size
  | 0 => rfl
  | n + 1 => by
    unfold stU
    split
    · unfold Act.put
      split
      · simp [stU_size v L n]
      · exact stU_size v L n
    · exact stU_size v L n
theorem stU_out {v : Nat → Value} {L : Nat → Bool} {x : Operand} : ∀ n, (∀ j, j < n → L j = true → ∀ d, dstAt ops j = some d → x ≠ .tmp d) → (stU ops a0 v L n).eval x = a0.eval x
  | 0, _ => rfl
  | n + 1, h => by
    unfold stU
    split
    · rename_i hl
      rw [Act.eval_put fun d hd => h n (by omega) hl d hd]
      exact stU_out n fun j hj => h j (by omega)
    · exact stU_out n fun j hj => h j (by omega)
theorem stU_in {N m : Nat} (hok : GrowOk ops N m) {v : Nat → Value} {L : Nat → Bool} {j : Nat} {d : Tmp} (hj : dstAt ops j = some d) (hL : L j = true) (hd : d < a0.tmps.size) : ∀ n, j < n → n ≤ m → (stU ops a0 v L n).eval (.tmp d) = v j
  | 0, h, _ => by omega
  | n + 1, h, hm => by
    unfold stU
    by_cases hn : j = n
    · subst hn
      rw [if_pos hL, hj]
      have := stU_size (ops := ops) (a0 := a0) v L j
      simp [Act.put, Act.eval, this, hd]
    · have ih := stU_in hok hj hL hd n (by omega) (by omega) (v := v)
      split
      · rw [Act.eval_put (fun d' hd' he => by cases he; exact hn (hok.apart j n d (by omega) (by omega) hj hd'))]
        exact ih
      · exact ih
theorem stU_put {N m : Nat} (hok : GrowOk ops N m) {v : Nat → Value} {L : Nat → Bool} {i : Nat} {u : Value} (hL : L i = false) : ∀ n, i < n → n ≤ m →
    (stU ops a0 v L n).put (dstAt ops i) u = stU ops a0 (fun j => if j = i then u else v j) (fun j => if j = i then true else L j) n
  | 0, h, _ => by omega
  | n + 1, h, hm => by
    by_cases hn : n = i
    · subst hn
      unfold stU
      rw [if_neg (by rw [hL]; simp), if_pos (by simp)]
      rw [stU_congr (v := fun j => if j = n then u else v j) (v' := v) (L := fun j => if j = n then true else L j) (L' := L) n (fun j hj => by simp [show j ≠ n by omega])]
      simp
    · have ih := stU_put hok hL n (by omega) (by omega) (v := v) (u := u)
      unfold stU
      simp only [hn, if_false]
      split
      · rw [Act.put_comm _ _ _ (fun d hd hd' => hn (hok.apart n i d (by omega) (by omega) hd hd')), ih]
      · exact ih
theorem cntU_upd {f : Nat → Bool} {i : Nat} (hf : f i = true) : ∀ n, i < n → cntU (fun j => if j = i then false else f j) n + 1 = cntU f n
  | 0, h => by omega
  | n + 1, h => by
    unfold cntU
    by_cases hn : n = i
    · subst hn
      have : cntU (fun j => if j = n then false else f j) n = cntU f n := by
        have key : ∀ m, m ≤ n → cntU (fun j => if j = n then false else f j) m = cntU f m := by
          intro m
          induction m with
          | zero => intro _; rfl
          | succ m ih => intro hm; unfold cntU; rw [ih (by omega)]; simp [show m ≠ n by omega]
        exact key n (Nat.le_refl _)
      rw [this, hf, if_pos rfl]
      rfl
    · have ih := cntU_upd hf n (by omega)
      rw [if_neg hn]
      omega
theorem cntU_zero {f : Nat → Bool} : ∀ n, cntU f n = 0 → ∀ j, j < n → f j = false
  | 0, _, j, hj => by omega
  | n + 1, h, j, hj => by
    unfold cntU at h
    by_cases hn : j = n
    · subst hn
      cases hf : f j
      · rfl
      · rw [hf] at h; simp at h
    · exact cntU_zero n (by omega) j (by omega)
theorem cntU_all (n : Nat) : cntU (fun _ => true) n = n := by
  induction n with
  | zero => rfl
  | succ n ih => unfold cntU; rw [ih]; rfl

variable {R : World → World → Prop} {G : Nat → World → Value → Prop}
/-- What follows the first ones comes up in the order of the text. -/
theorem wpAny_tail {N m : Nat} (hok : GrowOk ops N m) : ∀ (fuel j : Nat) (listed : Array Bool) (a : Act) (w : World), listed.size = ops.size → (∀ i, listed.getD i false = true ↔ i < j) → m ≤ j → j ≤ ops.size → ops.size - j ≤ fuel →
    wpList P ops Q (ops.toList.drop j) a w → wpAny P .any ops Q fuel listed a w := by
  intro fuel
  induction fuel with
  | zero =>
    intro j listed a w hsz hl hm hj hf h
    have hje : j = ops.size := by omega
    subst hje
    rw [List.drop_eq_nil_of_le (by simp)] at h
    refine ⟨?_, h⟩
    rw [List.eq_nil_iff_forall_not_mem]
    intro i hi
    obtain ⟨h0, o, ho, _⟩ := mem_ready.1 hi
    have his : i < ops.size := (Array.getElem?_eq_some_iff.1 ho).1
    have h1 := (hl i).2 his
    have hi' : i < listed.size := by omega
    simp [hi'] at h0 h1
    rw [h0] at h1
    cases h1
  | succ fuel ih =>
    intro j listed a w hsz hl hm hj hf h
    by_cases hje : j = ops.size
    · subst hje
      rw [List.drop_eq_nil_of_le (by simp)] at h
      have hr : Region.ready .any ops listed = [] := by
        rw [List.eq_nil_iff_forall_not_mem]
        intro i hi
        obtain ⟨h0, o, ho, _⟩ := mem_ready.1 hi
        have his : i < ops.size := (Array.getElem?_eq_some_iff.1 ho).1
        have h1 := (hl i).2 his
        have hi' : i < listed.size := by omega
        simp [hi'] at h0 h1
        rw [h0] at h1
        cases h1
      exact ⟨fun _ => h, by rw [hr]; simp⟩
    · have hjs : j < ops.size := by omega
      obtain ⟨oj, hoj⟩ : ∃ o, ops[j]? = some o := ⟨_, Array.getElem?_eq_getElem hjs⟩
      have hdc : ∀ i, listed.getD i false = true → ∀ e ∈ direct ops i, listed.getD e false = true := fun i hi e he => (hl e).2 (Nat.lt_trans (hok.back i e he) ((hl i).1 hi))
      have hjr : j ∈ Region.ready .any ops listed := mem_ready.2 ⟨by
        have hj' : j < listed.size := by omega
        have h1 : listed.getD j false = false := by
          cases hx : listed.getD j false with
          | false => rfl
          | true => exact absurd ((hl j).1 hx) (by omega)
        simpa [hj'] using h1, oj, hoj, fun e he hb => (hl e.on).2 (hok.back j e.on (direct_mem.2 ⟨oj, hoj, e, he, hb, rfl⟩))⟩
      refine ⟨fun h0 => (by rw [h0] at hjr; cases hjr), fun i hi => ?_⟩
      obtain ⟨h0, o, ho, hdeps⟩ := mem_ready.1 hi
      have his : i < ops.size := (Array.getElem?_eq_some_iff.1 ho).1
      have hun : listed.getD i false = false := by
        have hj' : i < listed.size := by omega
        simpa [hj'] using h0
      have hij : i = j := by
        rcases Nat.lt_trichotomy i j with h1 | h1 | h1
        · rw [(hl i).2 h1] at hun; cases hun
        · exact h1
        · have := tabs_listed hok (fun i => listed.getD i false) hdc i (fun e he => by
            obtain ⟨o', ho', x, hx, hb, rfl⟩ := direct_mem.1 he
            rw [ho] at ho'
            cases ho'
            exact hdeps x hx hb) j (hok.tail i j (by omega) his h1)
          exact absurd ((hl j).1 this) (by omega)
      subst hij
      have hdrop : ops.toList.drop i = o :: ops.toList.drop (i + 1) := by
        rw [List.drop_eq_getElem_cons (by simpa using his)]
        congr 1
        have : ops[i]'his = o := by rw [Array.getElem?_eq_getElem his] at ho; exact Option.some.inj ho
        simpa using this
      rw [hdrop] at h
      have hop : wpOp P ops Q i (wpList P ops Q (ops.toList.drop (i + 1))) a w := by
        unfold wpOp
        simp only [ho]
        exact h
      refine wpOp_mono (fun a' w' h' => ih (i + 1) (listed.setIfInBounds i true) a' w' (by simpa using hsz) (fun k => ?_) (by omega) (by omega) (by omega) h') hop
      by_cases hki : k = i
      · subst hki
        have : k < listed.size := by omega
        simp [this]
      · rw [getD_set_ne false (Ne.symm hki), hl k]
        omega
theorem wpAny_grow {m : Nat} (hok : GrowOk ops a0.tmps.size m) (hms : m ≤ ops.size) (w1 : World) (Rr : ∀ a, R a a) (Rt : ∀ a b c, R a b → R b c → R a c) (Gs : ∀ i w w' v, R w w' → G i w v → G i w' v)
    (step : ∀ (i : Nat) (o : Oper), i < m → ops[i]? = some o → ∀ (s : Act) w, R w1 w → (∀ d, outB ops m d = true → s.eval (.tmp d) = a0.eval (.tmp d)) → (∀ j d, j < m → dstAt ops j = some d → readsB ops i j = true → G j w (s.eval (.tmp d))) →
      (Wants ops s.eval o = true → ∀ b (K : Act → World → Prop) (Q' : Exit → Act → World → Prop), (∀ u w', G i w' u → R w w' → K (b.put o.dst u) w') → o.upon P b K Q' ((execOp s.eval o).run P w)) ∧ (Wants ops s.eval o = false → G i w undef))
    (fin : ∀ v w, R w1 w → (∀ j, j < m → G j w (v j)) → wpList P ops Q (ops.toList.drop m) (stG ops a0 v m) w) :
    ∀ fuel (listed : Array Bool) v w, listed.size = ops.size → (∀ i, m ≤ i → listed.getD i false = false) → (∀ i, listed.getD i false = true → ∀ e ∈ direct ops i, listed.getD e false = true) → R w1 w → (∀ j, j < m → listed.getD j false = true → G j w (v j)) → cntU (fun j => !listed.getD j false) m + (ops.size - m) ≤ fuel →
      wpAny P .any ops Q fuel listed (stU ops a0 v (fun j => listed.getD j false) m) w := by
  intro fuel
  induction fuel with
  | zero =>
    intro listed v w hsz htl hdc hR hG hc
    have hall := cntU_zero m (by omega : cntU (fun j => !listed.getD j false) m = 0)
    have hl : ∀ i, i < m → listed.getD i false = true := fun i hi => by have := hall i hi; cases hx : listed.getD i false <;> rw [hx] at this <;> simp_all
    have hf := fin v w hR fun j hj => hG j hj (hl j hj)
    unfold stG at hf
    rw [stU_congr (v' := v) (L' := fun j => listed.getD j false) m (fun j hj => ⟨rfl, (hl j hj).symm⟩)] at hf
    exact wpAny_tail hok 0 m listed _ w hsz (fun i => ⟨fun h => (by
      rcases Nat.lt_or_ge i m with h' | h'
      · exact h'
      · rw [htl i h'] at h; cases h), hl i⟩) (Nat.le_refl _) hms (by omega) hf
  | succ fuel ih =>
    intro listed v w hsz htl hdc hR hG hc
    by_cases hz : cntU (fun j => !listed.getD j false) m = 0
    · have hall := cntU_zero m hz
      have hl : ∀ i, i < m → listed.getD i false = true := fun i hi => by have := hall i hi; cases hx : listed.getD i false <;> rw [hx] at this <;> simp_all
      have hf := fin v w hR fun j hj => hG j hj (hl j hj)
      unfold stG at hf
      rw [stU_congr (v' := v) (L' := fun j => listed.getD j false) m (fun j hj => ⟨rfl, (hl j hj).symm⟩)] at hf
      exact wpAny_tail hok _ m listed _ w hsz (fun i => ⟨fun h => (by
        rcases Nat.lt_or_ge i m with h' | h'
        · exact h'
        · rw [htl i h'] at h; cases h), hl i⟩) (Nat.le_refl _) hms (by omega) hf
    · -- one of the first is not listed: the least of them may come up
      have hex : ∃ x, x < m ∧ listed.getD x false = false ∧ ∀ y, y < x → listed.getD y false = true := by
        have key : ∀ n, n ≤ m → (∀ i, i < n → listed.getD i false = true) ∨ ∃ x, x < m ∧ listed.getD x false = false ∧ ∀ y, y < x → listed.getD y false = true := by
          intro n
          induction n with
          | zero => intro _; exact .inl fun i hi => by omega
          | succ n ihn =>
            intro hn
            rcases ihn (by omega) with h | h
            · cases hx : listed.getD n false with
              | false => exact .inr ⟨n, by omega, hx, h⟩
              | true =>
                refine .inl fun i hi => ?_
                by_cases hin : i = n
                · rw [hin]; exact hx
                · exact h i (by omega)
            · exact .inr h
        rcases key m (Nat.le_refl _) with h | h
        · exfalso
          apply hz
          have key2 : ∀ n, n ≤ m → cntU (fun j => !listed.getD j false) n = 0 := by
            intro n
            induction n with
            | zero => intro _; rfl
            | succ n ihn => intro hn; unfold cntU; rw [ihn (by omega), h n (by omega)]; rfl
          exact key2 m (Nat.le_refl _)
        · exact h
      obtain ⟨x, hxm, hx0, hxl⟩ := hex
      have hxr : x ∈ Region.ready .any ops listed := by
        obtain ⟨o, ho⟩ : ∃ o, ops[x]? = some o := ⟨_, Array.getElem?_eq_getElem (by omega)⟩
        exact mem_ready.2 ⟨by
          have hj' : x < listed.size := by omega
          simpa [hj'] using hx0, o, ho, fun e he hb => hxl e.on (hok.back x e.on (direct_mem.2 ⟨o, ho, e, he, hb, rfl⟩))⟩
      refine ⟨fun h0 => (by rw [h0] at hxr; cases hxr), fun i hi => ?_⟩
      obtain ⟨h0, o, ho, hdeps⟩ := mem_ready.1 hi
      have his : i < ops.size := (Array.getElem?_eq_some_iff.1 ho).1
      have hun : listed.getD i false = false := by
        have hj' : i < listed.size := by omega
        simpa [hj'] using h0
      have hdir : ∀ e ∈ direct ops i, listed.getD e false = true := fun e he => by
        obtain ⟨o', ho', y, hy, hb, rfl⟩ := direct_mem.1 he
        rw [ho] at ho'
        cases ho'
        exact hdeps y hy hb
      have him : i < m := by
        rcases Nat.lt_or_ge i m with h' | h'
        · exact h'
        · have := tabs_listed hok (fun i => listed.getD i false) hdc i hdir x (hok.tail i x h' his (by omega))
          rw [hx0] at this
          cases this
      have hreads : ∀ j, j < m → readsB ops i j = true → listed.getD j false = true := fun j hjm hj => hdir j (hok.reads i j him hjm hj).2
      unfold wpOp
      simp only [ho]
      obtain ⟨hyes, hno⟩ := step i o him ho (stU ops a0 v (fun j => listed.getD j false) m) w hR (fun d hd => stU_out _ fun j hj _ d' hd' he => by
        cases he
        have := List.all_eq_true.1 hd j (List.mem_range.2 hj)
        rw [hd'] at this
        simp at this) (fun j d hjm hjd hj => by
        rw [stU_in hok hjd (hreads j hjm hj) (hok.size j d hjm hjd) _ hjm (Nat.le_refl _)]
        exact hG j hjm (hreads j hjm hj))
      have hwe : Region.wanted o (yielded ops (stU ops a0 v (fun j => listed.getD j false) m).tmps) = Wants ops (stU ops a0 v (fun j => listed.getD j false) m).eval o := wants_eq fun j want d hgd hjd => by
        rw [stU_size]
        have hjm : j < m := hok.gm i o him ho j want hgd
        exact hok.size j d hjm hjd
      have next : ∀ u w', G i w' u → R w w' → wpAny P .any ops Q fuel (listed.setIfInBounds i true) ((stU ops a0 v (fun j => listed.getD j false) m).put o.dst u) w' := by
        intro u w' hGu hRw
        have hdst : o.dst = dstAt ops i := by simp [dstAt, ho]
        rw [hdst, stU_put hok hun m him (Nat.le_refl _)]
        have hL : ∀ j, (if j = i then true else listed.getD j false) = (listed.setIfInBounds i true).getD j false := by
          intro j
          by_cases hji : j = i
          · subst hji
            have : j < listed.size := by omega
            simp [this]
          · rw [if_neg hji, getD_set_ne false (Ne.symm hji)]
        rw [stU_congr (v' := fun j => if j = i then u else v j) (L' := fun j => (listed.setIfInBounds i true).getD j false) m (fun j _ => ⟨rfl, hL j⟩)]
        refine ih (listed.setIfInBounds i true) _ w' (by simpa using hsz) (fun k hk => ?_) (fun k hk e he => ?_) (Rt _ _ _ hR hRw) (fun j hj hl => ?_) ?_
        · rw [getD_set_ne false (by omega)]; exact htl k hk
        · have : listed.getD e false = true := by
            by_cases hki : k = i
            · subst hki; exact hdir e he
            · rw [getD_set_ne false (Ne.symm hki)] at hk
              exact hdc k hk e he
          rw [← hL e]
          by_cases hei : e = i
          · simp [hei]
          · rw [if_neg hei]; exact this
        · by_cases hji : j = i
          · subst hji; simpa using hGu
          · simp only [hji, if_false]
            rw [getD_set_ne false (Ne.symm hji)] at hl
            exact Gs j w w' _ hRw (hG j hj hl)
        · have h1 := cntU_upd (f := fun j => !listed.getD j false) (i := i) (by simp [hun]) m him
          have h2 : cntU (fun j => !(listed.setIfInBounds i true).getD j false) m = cntU (fun j => if j = i then false else !listed.getD j false) m := by
            congr 1
            funext j
            rw [← hL j]
            by_cases hji : j = i <;> simp [hji]
          omega
      rw [hwe]
      split
      · rename_i hy
        left
        unfold Oper.wp
        exact hyes hy _ _ _ next
      · rename_i hy
        exact next undef w (hno (by simpa using hy)) (Rr w)

def AllLt (p : Nat → Prop) : Nat → Prop
  | 0 => True
  | n + 1 => AllLt p n ∧ p n
theorem AllLt.all {p : Nat → Prop} : ∀ n, AllLt p n → ∀ i, i < n → p i
  | 0, _, i, hi => by omega
  | n + 1, h, i, hi => by
    by_cases hn : i = n
    · subst hn; exact h.2
    · exact AllLt.all n h.1 i (by omega)
/-- What is asked of operation i: whatever state it is met in that has what it looks at. -/
def LitR (ρ : Operand → Value) : Prop := (∀ v, ρ (.const v) = v) ∧ (∀ f, ρ (.func f) = .func (.func f) #[] #[]) ∧ ∀ g, ρ (.global g) = .pointer (some ⟨g, 0, none⟩)
def StepG (P : Program) (ops : Array Oper) (m : Nat) (a0 : Act) (w1 : World) (R : World → World → Prop) (G : Nat → World → Value → Prop) (i : Nat) : Prop :=
  ∀ (o : Oper), ops[i]? = some o → ∀ (ρ : Operand → Value) w', R w1 w' → LitR ρ → (∀ d, outB ops m d = true → ρ (.tmp d) = a0.eval (.tmp d)) → (∀ j d, j < m → dstAt ops j = some d → readsB ops i j = true → G j w' (ρ (.tmp d))) →
      (Wants ops ρ o = true → ∀ b (K : Act → World → Prop) (Q' : Exit → Act → World → Prop), (∀ u w'', G i w'' u → R w' w'' → K (b.put o.dst u) w'') → o.upon P b K Q' ((execOp ρ o).run P w')) ∧ (Wants ops ρ o = false → G i w' undef)
section
variable {ρ : Operand → Value} {o : Oper} {p q : Prop}
theorem plainG (hg : o.guard = none) (h : p) : (Wants ops ρ o = true → p) ∧ (Wants ops ρ o = false → q) := by
  unfold Wants
  rw [hg]
  exact ⟨fun _ => h, fun h => by cases h⟩
theorem onG {j : Nat} {want : Bool} {d : Tmp} (hg : o.guard = some (j, want)) (hd : dstAt ops j = some d) (hv : ρ (.tmp d) = .bool want) (h : p) : (Wants ops ρ o = true → p) ∧ (Wants ops ρ o = false → q) := by
  unfold Wants
  simp only [hg, hd, hv]
  exact ⟨fun _ => h, fun h => by simp at h⟩
theorem offG {j : Nat} {want b : Bool} {d : Tmp} (hg : o.guard = some (j, want)) (hd : dstAt ops j = some d) (hv : ρ (.tmp d) = .bool b) (hb : (b == want) = false) (h : q) : (Wants ops ρ o = true → p) ∧ (Wants ops ρ o = false → q) := by
  unfold Wants
  simp only [hg, hd, hv]
  exact ⟨fun h => (by rw [hb] at h; cases h), fun _ => h⟩
end
/-- THE LAW: a region that draws its order, of which the first m operations add to the memory, in whatever order, and the others follow in the order of the text. -/
theorem wp_region_grow {id m : Nat} {w : World} (hm : P.follows .mixedOrders = true) (hms : m ≤ ops.size) (hok : growOk ops a0.tmps.size m = true) (Rr : ∀ a, R a a) (Rt : ∀ a b c, R a b → R b c → R a c) (Gs : ∀ i w w' v, R w w' → G i w v → G i w' v)
    (step : ∀ i, i < m → StepG P ops m a0 w.drew R G i)
    (fin : ∀ v w', R w.drew w' → (∀ j, j < m → G j w' (v j)) → wpList P ops Q (ops.toList.drop m) (stG ops a0 v m) w') :
    (Code.region id ops true).wp P Q a0 w := by
  refine wp_region_any hm ?_
  have h := wpAny_grow (P := P) (Q := Q) (growOk_spec hok) hms w.drew Rr Rt Gs (fun i o him ho s w' hR hS hG => step i him o ho s.eval w' hR ⟨fun _ => rfl, fun _ => rfl, fun _ => rfl⟩ hS hG) fin ops.size (Array.replicate ops.size false) (fun _ => undef) w.drew (by simp) (fun i _ => by
      by_cases hi : i < ops.size <;> simp [hi]) (fun i hi => by by_cases hi' : i < ops.size <;> simp [hi'] at hi) (Rr _) (fun j hj hl => by
      have hj' : j < ops.size := by omega
      simp [hj'] at hl) (by
    have : cntU (fun j => !(Array.replicate ops.size false).getD j false) m ≤ m := by
      have key : ∀ (f : Nat → Bool) n, cntU f n ≤ n := by
        intro f n
        induction n with
        | zero => exact Nat.le_refl _
        | succ n ih => unfold cntU; split <;> omega
      exact key _ _
    omega)
  have e : stU ops a0 (fun _ => undef) (fun j => (Array.replicate ops.size false).getD j false) m = a0 := by
    have key : ∀ n, n ≤ m → stU ops a0 (fun _ => undef) (fun j => (Array.replicate ops.size false).getD j false) n = a0 := by
      intro n
      induction n with
      | zero => intro _; rfl
      | succ n ih =>
        intro hn
        unfold stU
        rw [ih (by omega)]
        have hn' : n < ops.size := by omega
        rw [if_neg (by simp [hn'])]
    exact key _ (Nat.le_refl _)
  rw [e] at h
  exact h
def Grew (a b : World) : Prop := Below a.heap.size a b
theorem Grew.refl (a : World) : Grew a a := Below.refl _ _
theorem Grew.trans {a b c : World} (h : Grew a b) (k : Grew b c) : Grew a c := Below.trans h (k.mono h.size)
theorem Grew.alloc {a b : World} (h : Grew a b) (o : Obj) : Grew a (b.alloc o) := Below.alloc h h.size o
theorem Grew.on {w a b : World} (h : Below w.heap.size w a) (k : Grew a.drew b) : Below w.heap.size w b := (h.drew).trans (Below.mono k h.size)
/-- The same, all that is asked in one list; what is added to the memory leaves the old as it was. -/
theorem wp_region_grows {id : Nat} {w : World} (m : Nat) (Gl : List (World → Value → Prop)) (hm : P.follows .mixedOrders = true) (hms : m ≤ ops.size) (hok : growOk ops a0.tmps.size m = true) (hst : ∀ g ∈ Gl, ∀ w w' v, Grew w w' → g w v → g w' v)
    (step : AllLt (StepG P ops m a0 w.drew Grew (fun i => Gl.getD i fun _ _ => False)) m)
    (fin : ∀ v w', Grew w.drew w' → AllLt (fun j => (Gl.getD j fun _ _ => False) w' (v j)) m → wpList P ops Q (ops.toList.drop m) (stG ops a0 v m) w') :
    (Code.region id ops true).wp P Q a0 w := by
  refine wp_region_grow (R := Grew) (G := fun i => Gl.getD i fun _ _ => False) hm hms hok Grew.refl (fun _ _ _ => Grew.trans) (fun i a b v hab h => ?_) (fun i hi => AllLt.all _ step i hi) (fun v w' hR hG => fin v w' hR ?_)
  · by_cases hi : i < Gl.length
    · have e : (Gl.getD i fun _ _ => False) = Gl[i] := by rw [List.getD_eq_getElem?_getD, List.getElem?_eq_getElem hi]; rfl
      rw [e] at h ⊢
      exact hst _ (List.getElem_mem hi) _ _ _ hab h
    · have e : (Gl.getD i fun _ _ => False) = fun _ _ => False := by rw [List.getD_eq_getElem?_getD, List.getElem?_eq_none (by omega)]; rfl
      rw [e] at h
      exact h.elim
  · have key : ∀ n, n ≤ m → AllLt (fun j => (Gl.getD j fun _ _ => False) w' (v j)) n := by
      intro n
      induction n with
      | zero => intro _; trivial
      | succ n ih => intro hn; exact ⟨ih (by omega), hG n (by omega)⟩
    exact key _ (Nat.le_refl _)
end
end Go.Inc
namespace Go.Inc
open Go Go.RowKit

/-- Behind operation i what j left is as it was: j is another one, not behind i, and not given up by i. -/
def keepB (ops : Array Oper) (lose : Nat → Nat → Bool) (i j : Nat) : Bool := j != i && !((tabs ops (j + 1)).getD j []).contains i && !lose i j
section
variable {P : Program} {ops : Array Oper} {Q : Exit → Act → World → Prop} {a0 : Act} {R : World → World → Prop} {G : Nat → World → Value → Prop} {p q : Nat} {dp : Tmp} {D : Value → Value → Prop} {lose : Nat → Nat → Bool}
theorem wpAny_growL {m : Nat} (hlose : ∀ i j k, lose i j = true → k < m → readsB ops k j = true → k = i ∨ k ∈ (tabs ops (i + 1)).getD i []) (hqp : p ∈ direct ops q) (hdp : dstAt ops p = some dp) (hpm : p < m) (hqm : q < m) (hok : GrowOk ops a0.tmps.size m) (hms : m ≤ ops.size) (w1 : World) (_Rr : ∀ a, R a a) (Rt : ∀ a b c, R a b → R b c → R a c)
    (step : ∀ (i : Nat) (o : Oper), i < m → ops[i]? = some o → ∀ (s : Act) w, R w1 w → (∀ d, outB ops m d = true → s.eval (.tmp d) = a0.eval (.tmp d)) → (∀ j d, j < m → dstAt ops j = some d → readsB ops i j = true → G j w (s.eval (.tmp d))) →
      (Wants ops s.eval o = true → ∀ b (K : Act → World → Prop) (Q' : Exit → Act → World → Prop), (∀ u w', G i w' u → R w w' → (∀ j, j < m → keepB ops lose i j = true → ∀ x, G j w x → G j w' x) → (i = q → D (s.eval (.tmp dp)) u) → K (b.put o.dst u) w') → o.upon P b K Q' ((execOp s.eval o).run P w)) ∧ (Wants ops s.eval o = false → False))
    (fin : ∀ v w, R w1 w → (∀ j, j < m → (∀ i, i < m → lose i j = false) → G j w (v j)) → D (v p) (v q) → wpList P ops Q (ops.toList.drop m) (stG ops a0 v m) w) :
    ∀ fuel (listed : Array Bool) v w, listed.size = ops.size → (∀ i, m ≤ i → listed.getD i false = false) → (∀ i, listed.getD i false = true → ∀ e ∈ direct ops i, listed.getD e false = true) → R w1 w → (∀ j, j < m → listed.getD j false = true → (∀ i, listed.getD i false = true → lose i j = false) → G j w (v j)) → (listed.getD q false = true → D (v p) (v q)) → cntU (fun j => !listed.getD j false) m + (ops.size - m) ≤ fuel →
      wpAny P .any ops Q fuel listed (stU ops a0 v (fun j => listed.getD j false) m) w := by
  intro fuel
  induction fuel with
  | zero =>
    intro listed v w hsz htl hdc hR hG hD hc
    have hall := cntU_zero m (by omega : cntU (fun j => !listed.getD j false) m = 0)
    have hl : ∀ i, i < m → listed.getD i false = true := fun i hi => by have := hall i hi; cases hx : listed.getD i false <;> rw [hx] at this <;> simp_all
    have hf := fin v w hR (fun j hj hlo => hG j hj (hl j hj) fun i hi => by
      rcases Nat.lt_or_ge i m with h' | h'
      · exact hlo i h'
      · rw [htl i h'] at hi; cases hi) (hD (hl q hqm))
    unfold stG at hf
    rw [stU_congr (v' := v) (L' := fun j => listed.getD j false) m (fun j hj => ⟨rfl, (hl j hj).symm⟩)] at hf
    exact wpAny_tail hok 0 m listed _ w hsz (fun i => ⟨fun h => (by
      rcases Nat.lt_or_ge i m with h' | h'
      · exact h'
      · rw [htl i h'] at h; cases h), hl i⟩) (Nat.le_refl _) hms (by omega) hf
  | succ fuel ih =>
    intro listed v w hsz htl hdc hR hG hD hc
    by_cases hz : cntU (fun j => !listed.getD j false) m = 0
    · have hall := cntU_zero m hz
      have hl : ∀ i, i < m → listed.getD i false = true := fun i hi => by have := hall i hi; cases hx : listed.getD i false <;> rw [hx] at this <;> simp_all
      have hf := fin v w hR (fun j hj hlo => hG j hj (hl j hj) fun i hi => by
      rcases Nat.lt_or_ge i m with h' | h'
      · exact hlo i h'
      · rw [htl i h'] at hi; cases hi) (hD (hl q hqm))
      unfold stG at hf
      rw [stU_congr (v' := v) (L' := fun j => listed.getD j false) m (fun j hj => ⟨rfl, (hl j hj).symm⟩)] at hf
      exact wpAny_tail hok _ m listed _ w hsz (fun i => ⟨fun h => (by
        rcases Nat.lt_or_ge i m with h' | h'
        · exact h'
        · rw [htl i h'] at h; cases h), hl i⟩) (Nat.le_refl _) hms (by omega) hf
    · -- one of the first is not listed: the least of them may come up
      have hex : ∃ x, x < m ∧ listed.getD x false = false ∧ ∀ y, y < x → listed.getD y false = true := by
        have key : ∀ n, n ≤ m → (∀ i, i < n → listed.getD i false = true) ∨ ∃ x, x < m ∧ listed.getD x false = false ∧ ∀ y, y < x → listed.getD y false = true := by
          intro n
          induction n with
          | zero => intro _; exact .inl fun i hi => by omega
          | succ n ihn =>
            intro hn
            rcases ihn (by omega) with h | h
            · cases hx : listed.getD n false with
              | false => exact .inr ⟨n, by omega, hx, h⟩
              | true =>
                refine .inl fun i hi => ?_
                by_cases hin : i = n
                · rw [hin]; exact hx
                · exact h i (by omega)
            · exact .inr h
        rcases key m (Nat.le_refl _) with h | h
        · exfalso
          apply hz
          have key2 : ∀ n, n ≤ m → cntU (fun j => !listed.getD j false) n = 0 := by
            intro n
            induction n with
            | zero => intro _; rfl
            | succ n ihn => intro hn; unfold cntU; rw [ihn (by omega), h n (by omega)]; rfl
          exact key2 m (Nat.le_refl _)
        · exact h
      obtain ⟨x, hxm, hx0, hxl⟩ := hex
      have hxr : x ∈ Region.ready .any ops listed := by
        obtain ⟨o, ho⟩ : ∃ o, ops[x]? = some o := ⟨_, Array.getElem?_eq_getElem (by omega)⟩
        exact mem_ready.2 ⟨by
          have hj' : x < listed.size := by omega
          simpa [hj'] using hx0, o, ho, fun e he hb => hxl e.on (hok.back x e.on (direct_mem.2 ⟨o, ho, e, he, hb, rfl⟩))⟩
      refine ⟨fun h0 => (by rw [h0] at hxr; cases hxr), fun i hi => ?_⟩
      obtain ⟨h0, o, ho, hdeps⟩ := mem_ready.1 hi
      have his : i < ops.size := (Array.getElem?_eq_some_iff.1 ho).1
      have hun : listed.getD i false = false := by
        have hj' : i < listed.size := by omega
        simpa [hj'] using h0
      have hdir : ∀ e ∈ direct ops i, listed.getD e false = true := fun e he => by
        obtain ⟨o', ho', y, hy, hb, rfl⟩ := direct_mem.1 he
        rw [ho] at ho'
        cases ho'
        exact hdeps y hy hb
      have him : i < m := by
        rcases Nat.lt_or_ge i m with h' | h'
        · exact h'
        · have := tabs_listed hok (fun i => listed.getD i false) hdc i hdir x (hok.tail i x h' his (by omega))
          rw [hx0] at this
          cases this
      have hreads : ∀ j, j < m → readsB ops i j = true → listed.getD j false = true := fun j hjm hj => hdir j (hok.reads i j him hjm hj).2
      unfold wpOp
      simp only [ho]
      obtain ⟨hyes, hno⟩ := step i o him ho (stU ops a0 v (fun j => listed.getD j false) m) w hR (fun d hd => stU_out _ fun j hj _ d' hd' he => by
        cases he
        have := List.all_eq_true.1 hd j (List.mem_range.2 hj)
        rw [hd'] at this
        simp at this) (fun j d hjm hjd hj => by
        rw [stU_in hok hjd (hreads j hjm hj) (hok.size j d hjm hjd) _ hjm (Nat.le_refl _)]
        exact hG j hjm (hreads j hjm hj) fun i' hi' => by
          cases hc' : lose i' j with
          | false => rfl
          | true =>
            rcases hlose i' j i hc' him hj with this | this
            · rw [← this, hun] at hi'
              cases hi'
            · have h3 := tabs_listed hok (fun i => listed.getD i false) hdc i' (hdc i' hi') i this
              rw [hun] at h3
              cases h3)
      have hwe : Region.wanted o (yielded ops (stU ops a0 v (fun j => listed.getD j false) m).tmps) = Wants ops (stU ops a0 v (fun j => listed.getD j false) m).eval o := wants_eq fun j want d hgd hjd => by
        rw [stU_size]
        have hjm : j < m := hok.gm i o him ho j want hgd
        exact hok.size j d hjm hjd
      have next : ∀ u w', G i w' u → R w w' → (∀ j, j < m → keepB ops lose i j = true → ∀ x, G j w x → G j w' x) → (i = q → D ((stU ops a0 v (fun j => listed.getD j false) m).eval (.tmp dp)) u) → wpAny P .any ops Q fuel (listed.setIfInBounds i true) ((stU ops a0 v (fun j => listed.getD j false) m).put o.dst u) w' := by
        intro u w' hGu hRw hKw hDw
        have hdst : o.dst = dstAt ops i := by simp [dstAt, ho]
        rw [hdst, stU_put hok hun m him (Nat.le_refl _)]
        have hL : ∀ j, (if j = i then true else listed.getD j false) = (listed.setIfInBounds i true).getD j false := by
          intro j
          by_cases hji : j = i
          · subst hji
            have : j < listed.size := by omega
            simp [this]
          · rw [if_neg hji, getD_set_ne false (Ne.symm hji)]
        rw [stU_congr (v' := fun j => if j = i then u else v j) (L' := fun j => (listed.setIfInBounds i true).getD j false) m (fun j _ => ⟨rfl, hL j⟩)]
        refine ih (listed.setIfInBounds i true) _ w' (by simpa using hsz) (fun k hk => ?_) (fun k hk e he => ?_) (Rt _ _ _ hR hRw) (fun j hj hl hlo => ?_) (fun hq => ?_) ?_
        · rw [getD_set_ne false (by omega)]; exact htl k hk
        · have : listed.getD e false = true := by
            by_cases hki : k = i
            · subst hki; exact hdir e he
            · rw [getD_set_ne false (Ne.symm hki)] at hk
              exact hdc k hk e he
          rw [← hL e]
          by_cases hei : e = i
          · simp [hei]
          · rw [if_neg hei]; exact this
        · by_cases hji : j = i
          · subst hji; simpa using hGu
          · simp only [hji, if_false]
            rw [getD_set_ne false (Ne.symm hji)] at hl
            have hki : listed.getD i false = true → False := fun h => by rw [hun] at h; cases h
            refine hKw j hj ?_ _ (hG j hj hl fun i' hi' => hlo i' (by rw [← hL i']; by_cases h : i' = i <;> simp [h, hi']))
            have h1 : lose i j = false := hlo i (by rw [← hL i]; simp)
            have h2 : ((tabs ops (j + 1)).getD j []).contains i = false := by
              cases hc' : ((tabs ops (j + 1)).getD j []).contains i with
              | false => rfl
              | true => exact (hki (tabs_listed hok (fun i => listed.getD i false) hdc j (hdc j hl) i (by simpa using hc'))).elim
            unfold keepB
            rw [h1, h2]
            simpa using hji
        · rw [← hL q] at hq
          have hplt : p < q := hok.back q p hqp
          show D (if p = i then u else v p) (if q = i then u else v q)
          by_cases hqi : q = i
          · rw [if_neg (by omega), if_pos hqi]
            have hpl : listed.getD p false = true := hdir p (by rw [← hqi]; exact hqp)
            have := hDw hqi.symm
            rwa [stU_in hok hdp hpl (hok.size p dp hpm hdp) _ hpm (Nat.le_refl _)] at this
          · rw [if_neg hqi] at hq
            have hpl : listed.getD p false = true := hdc q hq p hqp
            have hpi : p ≠ i := fun h => by rw [h, hun] at hpl; cases hpl
            rw [if_neg hpi, if_neg hqi]
            exact hD hq
        · have h1 := cntU_upd (f := fun j => !listed.getD j false) (i := i) (by simp [hun]) m him
          have h2 : cntU (fun j => !(listed.setIfInBounds i true).getD j false) m = cntU (fun j => if j = i then false else !listed.getD j false) m := by
            congr 1
            funext j
            rw [← hL j]
            by_cases hji : j = i <;> simp [hji]
          omega
      rw [hwe]
      split
      · rename_i hy
        left
        unfold Oper.wp
        exact hyes hy _ _ _ next
      · rename_i hy
        exact (hno (by simpa using hy)).elim


/-- What is asked of operation i. -/
def StepL (P : Program) (ops : Array Oper) (m : Nat) (a0 : Act) (w1 : World) (B : Nat) (G : Nat → World → Value → Prop) (q : Nat) (dp : Tmp) (D : Value → Value → Prop) (lose : Nat → Nat → Bool) (i : Nat) : Prop :=
  ∀ (o : Oper), ops[i]? = some o → ∀ (ρ : Operand → Value) w', Below B w1 w' → LitR ρ → (∀ d, outB ops m d = true → ρ (.tmp d) = a0.eval (.tmp d)) → (∀ j d, j < m → dstAt ops j = some d → readsB ops i j = true → G j w' (ρ (.tmp d))) →
      (Wants ops ρ o = true → ∀ b (K : Act → World → Prop) (Q' : Exit → Act → World → Prop), (∀ u w'', G i w'' u → (Grew w' w'' ∨ (Below B w' w'' ∧ AllLt (fun j => keepB ops lose i j = true → ∀ x, G j w' x → G j w'' x) m)) → (i = q → D (ρ (.tmp dp)) u) → K (b.put o.dst u) w'') → o.upon P b K Q' ((execOp ρ o).run P w')) ∧ (Wants ops ρ o = false → False)
theorem nokeep {b : Bool} {r : Prop} (h : b = false) : b = true → r := fun h' => by rw [h] at h'; cases h'
def loseOk (ops : Array Oper) (lose : List (Nat × Nat)) (m : Nat) : Bool := lose.all fun x => (List.range m).all fun k => !readsB ops k x.2 || k == x.1 || ((tabs ops (x.1 + 1)).getD x.1 []).contains k
/-- The facts in one list. -/
theorem wp_region_growsL {id : Nat} {w : World} (m p q : Nat) (dp : Tmp) (D : Value → Value → Prop) (lose : List (Nat × Nat)) (Gl : List (World → Value → Prop)) (hm : P.follows .mixedOrders = true) (hms : m ≤ ops.size) (hok : growOk ops a0.tmps.size m = true) (hlo : loseOk ops lose m = true) (hqp : p ∈ direct ops q) (hdp : dstAt ops p = some dp) (hpm : p < m) (hqm : q < m)
    (hst : ∀ g ∈ Gl, ∀ w w' v, Grew w w' → g w v → g w' v)
    (step : AllLt (StepL P ops m a0 w.drew w.heap.size (fun i => Gl.getD i fun _ _ => False) q dp D (fun i j => lose.contains (i, j))) m)
    (fin : ∀ v w', Below w.heap.size w.drew w' → AllLt (fun j => lose.all (fun x => x.2 != j) = true → (Gl.getD j fun _ _ => False) w' (v j)) m → D (v p) (v q) → wpList P ops Q (ops.toList.drop m) (stG ops a0 v m) w') :
    (Code.region id ops true).wp P Q a0 w := by
  refine wp_region_any hm ?_
  have h := wpAny_growL (P := P) (Q := Q) (R := fun a b => a.heap.size ≤ b.heap.size ∧ (w.heap.size ≤ a.heap.size → Below w.heap.size a b)) (G := fun i => Gl.getD i fun _ _ => False) (p := p) (q := q) (dp := dp) (D := D) (lose := fun i j => lose.contains (i, j)) (fun i j k hl hk hr => by
      have h1 := List.all_eq_true.1 hlo (i, j) (by simpa using hl)
      have h2 := List.all_eq_true.1 h1 k (List.mem_range.2 hk)
      simp only [hr, Bool.not_true, Bool.false_or, Bool.or_eq_true] at h2
      rcases h2 with h2 | h2
      · exact .inl (by simpa using h2)
      · exact .inr (by simpa using h2)) hqp hdp hpm hqm (growOk_spec hok) hms w.drew (fun a => ⟨Nat.le_refl _, fun _ => Below.refl _ _⟩) (fun a b c hab hbc => ⟨Nat.le_trans hab.1 hbc.1, fun hh => (hab.2 hh).trans (hbc.2 (Nat.le_trans hh hab.1))⟩)
    (fun i o him ho s w' hR hS hG => by
      have hB := hR.2 (Nat.le_refl _)
      obtain ⟨h1, h2⟩ := AllLt.all _ step i him o ho s.eval w' hB ⟨fun _ => rfl, fun _ => rfl, fun _ => rfl⟩ hS hG
      refine ⟨fun hw b K Q' hK => h1 hw b K Q' fun u w'' hu hg hd => ?_, h2⟩
      rcases hg with hg | ⟨hb, hg⟩
      · refine hK u w'' hu ⟨hg.size, fun hh => Below.mono hg hh⟩ (fun j hj _ x hx => ?_) hd
        by_cases hi : j < Gl.length
        · have e : (Gl.getD j fun _ _ => False) = Gl[j] := by rw [List.getD_eq_getElem?_getD, List.getElem?_eq_getElem hi]; rfl
          simp only [e] at hx ⊢
          exact hst _ (List.getElem_mem hi) _ _ _ hg hx
        · have e : (Gl.getD j fun _ _ => False) = fun _ _ => False := by rw [List.getD_eq_getElem?_getD, List.getElem?_eq_none (by omega)]; rfl
          simp only [e] at hx
      · exact hK u w'' hu ⟨hb.size, fun _ => hb⟩ (fun j hj => AllLt.all _ hg j hj) hd)
    (fun v w' hR hG hD => fin v w' (hR.2 (Nat.le_refl _)) (by
      have key : ∀ n, n ≤ m → AllLt (fun j => lose.all (fun x => x.2 != j) = true → (Gl.getD j fun _ _ => False) w' (v j)) n := by
        intro n
        induction n with
        | zero => intro _; trivial
        | succ n ih => exact fun hn => ⟨ih (by omega), fun hl => hG n (by omega) fun i _ => by
            cases hc : lose.contains (i, n) with
            | false => rfl
            | true =>
              have := List.all_eq_true.1 hl (i, n) (by simpa using hc)
              simp at this⟩
      exact key _ (Nat.le_refl _)) hD) ops.size (Array.replicate ops.size false) (fun _ => undef) w.drew (by simp) (fun i _ => by
      by_cases hi : i < ops.size <;> simp [hi]) (fun i hi => by by_cases hi' : i < ops.size <;> simp [hi'] at hi) ⟨Nat.le_refl _, fun _ => Below.refl _ _⟩ (fun j hj hl => by
      have hj' : j < ops.size := by omega
      simp [hj'] at hl) (fun hl => by
      have hj' : q < ops.size := by omega
      simp [hj'] at hl) (by
    have : cntU (fun j => !(Array.replicate ops.size false).getD j false) m ≤ m := by
      have key : ∀ (f : Nat → Bool) n, cntU f n ≤ n := by
        intro f n
        induction n with
        | zero => exact Nat.le_refl _
        | succ n ih => unfold cntU; split <;> omega
      exact key _ _
    omega)
  have e : stU ops a0 (fun _ => undef) (fun j => (Array.replicate ops.size false).getD j false) m = a0 := by
    have key : ∀ n, n ≤ m → stU ops a0 (fun _ => undef) (fun j => (Array.replicate ops.size false).getD j false) n = a0 := by
      intro n
      induction n with
      | zero => intro _; rfl
      | succ n ih =>
        intro hn
        unfold stU
        rw [ih (by omega)]
        have hn' : n < ops.size := by omega
        rw [if_neg (by simp [hn'])]
    exact key _ (Nat.le_refl _)
  rw [e] at h
  exact h
end
end Go.Inc
namespace Go.Inc
open Go Go.RowKit
/-- Operation i is x, or x comes behind it; it comes behind x. -/
def aheadB (ops : Array Oper) (x i : Nat) : Bool := i == x || ((tabs ops (x + 1)).getD x []).contains i
def behindB (ops : Array Oper) (x i : Nat) : Bool := ((tabs ops (i + 1)).getD i []).contains x
def PhX (ops : Array Oper) (x : Nat) (J0 J1 : World → Prop) (i : Nat) (w : World) : Prop := if aheadB ops x i = true then J0 w else if behindB ops x i = true then J1 w else J0 w ∨ J1 w
theorem PhX.ahead {ops : Array Oper} {x : Nat} {J0 J1 : World → Prop} {i : Nat} {w : World} (h : PhX ops x J0 J1 i w) (ha : aheadB ops x i = true) : J0 w := by
  unfold PhX at h
  rwa [if_pos ha] at h
theorem PhX.any {ops : Array Oper} {x : Nat} {J0 J1 : World → Prop} {i : Nat} {w : World} (h : PhX ops x J0 J1 i w) : J0 w ∨ J1 w := by
  unfold PhX at h
  split at h
  · exact .inl h
  · split at h
    · exact .inr h
    · exact h
section
variable {P : Program} {ops : Array Oper} {Q : Exit → Act → World → Prop} {a0 : Act} {J0 J1 : World → Prop} {G : Nat → World → Value → Prop} {lose : Nat → Bool}
theorem wpAny_growX {m x : Nat} (hxm0 : x < m) (hlose : ∀ j k, lose j = true → k < m → readsB ops k j = true → k = x ∨ k ∈ (tabs ops (x + 1)).getD x []) (hok : GrowOk ops a0.tmps.size m) (hms : m ≤ ops.size)
    (hJ0 : ∀ a b, Grew a b → J0 a → J0 b) (hJ1 : ∀ a b, Grew a b → J1 a → J1 b) (hst : ∀ j a b y, Grew a b → G j a y → G j b y)
    (step : ∀ (i : Nat) (o : Oper), i < m → ops[i]? = some o → ∀ (s : Act) w, PhX ops x J0 J1 i w → (∀ d, outB ops m d = true → s.eval (.tmp d) = a0.eval (.tmp d)) → (∀ j d, j < m → dstAt ops j = some d → readsB ops i j = true → G j w (s.eval (.tmp d))) →
      (Wants ops s.eval o = true → ∀ b (K : Act → World → Prop) (Q' : Exit → Act → World → Prop), (∀ u w', G i w' u → (i ≠ x → Grew w w') → (i = x → J1 w' ∧ ∀ j, j < m → j ≠ x → lose j = false → ∀ y, G j w y → G j w' y) → K (b.put o.dst u) w') → o.upon P b K Q' ((execOp s.eval o).run P w)) ∧ (Wants ops s.eval o = false → False))
    (fin : ∀ v w, J1 w → (∀ j, j < m → lose j = false → G j w (v j)) → wpList P ops Q (ops.toList.drop m) (stG ops a0 v m) w) :
    ∀ fuel (listed : Array Bool) v w, listed.size = ops.size → (∀ i, m ≤ i → listed.getD i false = false) → (∀ i, listed.getD i false = true → ∀ e ∈ direct ops i, listed.getD e false = true) → ((listed.getD x false = false → J0 w) ∧ (listed.getD x false = true → J1 w)) → (∀ j, j < m → listed.getD j false = true → (listed.getD x false = true → lose j = false) → G j w (v j)) → cntU (fun j => !listed.getD j false) m + (ops.size - m) ≤ fuel →
      wpAny P .any ops Q fuel listed (stU ops a0 v (fun j => listed.getD j false) m) w := by
  intro fuel
  induction fuel with
  | zero =>
    intro listed v w hsz htl hdc hR hG hc
    have hall := cntU_zero m (by omega : cntU (fun j => !listed.getD j false) m = 0)
    have hl : ∀ i, i < m → listed.getD i false = true := fun i hi => by have := hall i hi; cases hx : listed.getD i false <;> rw [hx] at this <;> simp_all
    have hf := fin v w (hR.2 (hl x hxm0)) (fun j hj hlo => hG j hj (hl j hj) fun _ => hlo)
    unfold stG at hf
    rw [stU_congr (v' := v) (L' := fun j => listed.getD j false) m (fun j hj => ⟨rfl, (hl j hj).symm⟩)] at hf
    exact wpAny_tail hok 0 m listed _ w hsz (fun i => ⟨fun h => (by
      rcases Nat.lt_or_ge i m with h' | h'
      · exact h'
      · rw [htl i h'] at h; cases h), hl i⟩) (Nat.le_refl _) hms (by omega) hf
  | succ fuel ih =>
    intro listed v w hsz htl hdc hR hG hc
    by_cases hz : cntU (fun j => !listed.getD j false) m = 0
    · have hall := cntU_zero m hz
      have hl : ∀ i, i < m → listed.getD i false = true := fun i hi => by have := hall i hi; cases hx : listed.getD i false <;> rw [hx] at this <;> simp_all
      have hf := fin v w (hR.2 (hl x hxm0)) (fun j hj hlo => hG j hj (hl j hj) fun _ => hlo)
      unfold stG at hf
      rw [stU_congr (v' := v) (L' := fun j => listed.getD j false) m (fun j hj => ⟨rfl, (hl j hj).symm⟩)] at hf
      exact wpAny_tail hok _ m listed _ w hsz (fun i => ⟨fun h => (by
        rcases Nat.lt_or_ge i m with h' | h'
        · exact h'
        · rw [htl i h'] at h; cases h), hl i⟩) (Nat.le_refl _) hms (by omega) hf
    · -- one of the first is not listed: the least of them may come up
      have hex : ∃ x, x < m ∧ listed.getD x false = false ∧ ∀ y, y < x → listed.getD y false = true := by
        have key : ∀ n, n ≤ m → (∀ i, i < n → listed.getD i false = true) ∨ ∃ x, x < m ∧ listed.getD x false = false ∧ ∀ y, y < x → listed.getD y false = true := by
          intro n
          induction n with
          | zero => intro _; exact .inl fun i hi => by omega
          | succ n ihn =>
            intro hn
            rcases ihn (by omega) with h | h
            · cases hx : listed.getD n false with
              | false => exact .inr ⟨n, by omega, hx, h⟩
              | true =>
                refine .inl fun i hi => ?_
                by_cases hin : i = n
                · rw [hin]; exact hx
                · exact h i (by omega)
            · exact .inr h
        rcases key m (Nat.le_refl _) with h | h
        · exfalso
          apply hz
          have key2 : ∀ n, n ≤ m → cntU (fun j => !listed.getD j false) n = 0 := by
            intro n
            induction n with
            | zero => intro _; rfl
            | succ n ihn => intro hn; unfold cntU; rw [ihn (by omega), h n (by omega)]; rfl
          exact key2 m (Nat.le_refl _)
        · exact h
      obtain ⟨z, hxm, hx0, hxl⟩ := hex
      have hxr : z ∈ Region.ready .any ops listed := by
        obtain ⟨o, ho⟩ : ∃ o, ops[z]? = some o := ⟨_, Array.getElem?_eq_getElem (by omega)⟩
        exact mem_ready.2 ⟨by
          have hj' : z < listed.size := by omega
          simpa [hj'] using hx0, o, ho, fun e he hb => hxl e.on (hok.back z e.on (direct_mem.2 ⟨o, ho, e, he, hb, rfl⟩))⟩
      refine ⟨fun h0 => (by rw [h0] at hxr; cases hxr), fun i hi => ?_⟩
      obtain ⟨h0, o, ho, hdeps⟩ := mem_ready.1 hi
      have his : i < ops.size := (Array.getElem?_eq_some_iff.1 ho).1
      have hun : listed.getD i false = false := by
        have hj' : i < listed.size := by omega
        simpa [hj'] using h0
      have hdir : ∀ e ∈ direct ops i, listed.getD e false = true := fun e he => by
        obtain ⟨o', ho', y, hy, hb, rfl⟩ := direct_mem.1 he
        rw [ho] at ho'
        cases ho'
        exact hdeps y hy hb
      have him : i < m := by
        rcases Nat.lt_or_ge i m with h' | h'
        · exact h'
        · have := tabs_listed hok (fun i => listed.getD i false) hdc i hdir z (hok.tail i z h' his (by omega))
          rw [hx0] at this
          cases this
      have hreads : ∀ j, j < m → readsB ops i j = true → listed.getD j false = true := fun j hjm hj => hdir j (hok.reads i j him hjm hj).2
      have hahead : aheadB ops x i = true → listed.getD x false = false := fun ha => by
        cases hx' : listed.getD x false with
        | false => rfl
        | true =>
          unfold aheadB at ha
          rw [Bool.or_eq_true] at ha
          rcases ha with h1 | h1
          · have h2 : i = x := by simpa using h1
            rw [h2, hx'] at hun
            cases hun
          · have h2 := tabs_listed hok (fun i => listed.getD i false) hdc x (hdc x hx') i (by simpa using h1)
            rw [hun] at h2
            cases h2
      have hPh : PhX ops x J0 J1 i w := by
        unfold PhX
        by_cases ha : aheadB ops x i = true
        · rw [if_pos ha]
          exact hR.1 (hahead ha)
        · rw [if_neg ha]
          by_cases hbh : behindB ops x i = true
          · rw [if_pos hbh]
            refine hR.2 ?_
            unfold behindB at hbh
            exact tabs_listed hok (fun i => listed.getD i false) hdc i hdir x (by simpa using hbh)
          · rw [if_neg hbh]
            cases hx' : listed.getD x false with
            | false => exact .inl (hR.1 hx')
            | true => exact .inr (hR.2 hx')
      unfold wpOp
      simp only [ho]
      obtain ⟨hyes, hno⟩ := step i o him ho (stU ops a0 v (fun j => listed.getD j false) m) w hPh (fun d hd => stU_out _ fun j hj _ d' hd' he => by
        cases he
        have := List.all_eq_true.1 hd j (List.mem_range.2 hj)
        rw [hd'] at this
        simp at this) (fun j d hjm hjd hj => by
        rw [stU_in hok hjd (hreads j hjm hj) (hok.size j d hjm hjd) _ hjm (Nat.le_refl _)]
        exact hG j hjm (hreads j hjm hj) fun hi' => by
          cases hc' : lose j with
          | false => rfl
          | true =>
            rcases hlose j i hc' him hj with this | this
            · rw [← this, hun] at hi'
              cases hi'
            · have h3 := tabs_listed hok (fun i => listed.getD i false) hdc x (hdc x hi') i this
              rw [hun] at h3
              cases h3)
      have hwe : Region.wanted o (yielded ops (stU ops a0 v (fun j => listed.getD j false) m).tmps) = Wants ops (stU ops a0 v (fun j => listed.getD j false) m).eval o := wants_eq fun j want d hgd hjd => by
        rw [stU_size]
        have hjm : j < m := hok.gm i o him ho j want hgd
        exact hok.size j d hjm hjd
      have next : ∀ u w', G i w' u → (i ≠ x → Grew w w') → (i = x → J1 w' ∧ ∀ j, j < m → j ≠ x → lose j = false → ∀ y, G j w y → G j w' y) → wpAny P .any ops Q fuel (listed.setIfInBounds i true) ((stU ops a0 v (fun j => listed.getD j false) m).put o.dst u) w' := by
        intro u w' hGu hRw hKw
        have hdst : o.dst = dstAt ops i := by simp [dstAt, ho]
        rw [hdst, stU_put hok hun m him (Nat.le_refl _)]
        have hL : ∀ j, (if j = i then true else listed.getD j false) = (listed.setIfInBounds i true).getD j false := by
          intro j
          by_cases hji : j = i
          · subst hji
            have : j < listed.size := by omega
            simp [this]
          · rw [if_neg hji, getD_set_ne false (Ne.symm hji)]
        rw [stU_congr (v' := fun j => if j = i then u else v j) (L' := fun j => (listed.setIfInBounds i true).getD j false) m (fun j _ => ⟨rfl, hL j⟩)]
        refine ih (listed.setIfInBounds i true) _ w' (by simpa using hsz) (fun k hk => ?_) (fun k hk e he => ?_) ⟨fun hx' => ?_, fun hx' => ?_⟩ (fun j hj hl hlo => ?_) ?_
        · rw [getD_set_ne false (by omega)]; exact htl k hk
        · have : listed.getD e false = true := by
            by_cases hki : k = i
            · subst hki; exact hdir e he
            · rw [getD_set_ne false (Ne.symm hki)] at hk
              exact hdc k hk e he
          rw [← hL e]
          by_cases hei : e = i
          · simp [hei]
          · rw [if_neg hei]; exact this
        · rw [← hL x] at hx'
          by_cases hxi : x = i
          · rw [if_pos hxi] at hx'; cases hx'
          · rw [if_neg hxi] at hx'
            exact hJ0 _ _ (hRw (Ne.symm hxi)) (hR.1 hx')
        · rw [← hL x] at hx'
          by_cases hxi : x = i
          · exact (hKw hxi.symm).1
          · rw [if_neg hxi] at hx'
            exact hJ1 _ _ (hRw (Ne.symm hxi)) (hR.2 hx')
        · by_cases hji : j = i
          · subst hji; simpa using hGu
          · simp only [hji, if_false]
            rw [getD_set_ne false (Ne.symm hji)] at hl
            by_cases hix : i = x
            · have hlj : lose j = false := hlo (by rw [← hL x, if_pos hix.symm])
              refine (hKw hix).2 j hj (fun e => hji (e.trans hix.symm)) hlj _ (hG j hj hl fun _ => hlj)
            · refine hst j _ _ _ (hRw hix) (hG j hj hl fun hx' => hlo ?_)
              rw [← hL x, if_neg (Ne.symm hix)]
              exact hx'
        · have h1 := cntU_upd (f := fun j => !listed.getD j false) (i := i) (by simp [hun]) m him
          have h2 : cntU (fun j => !(listed.setIfInBounds i true).getD j false) m = cntU (fun j => if j = i then false else !listed.getD j false) m := by
            congr 1
            funext j
            rw [← hL j]
            by_cases hji : j = i <;> simp [hji]
          omega
      rw [hwe]
      split
      · rename_i hy
        left
        unfold Oper.wp
        exact hyes hy _ _ _ next
      · rename_i hy
        exact (hno (by simpa using hy)).elim
/-- What is asked of operation i. -/
def StepX (P : Program) (ops : Array Oper) (m : Nat) (a0 : Act) (x : Nat) (J0 J1 : World → Prop) (G : Nat → World → Value → Prop) (lose : Nat → Bool) (i : Nat) : Prop :=
  ∀ (o : Oper), ops[i]? = some o → ∀ (ρ : Operand → Value) w', PhX ops x J0 J1 i w' → LitR ρ → (∀ d, outB ops m d = true → ρ (.tmp d) = a0.eval (.tmp d)) → (∀ j d, j < m → dstAt ops j = some d → readsB ops i j = true → G j w' (ρ (.tmp d))) →
      (Wants ops ρ o = true → ∀ b (K : Act → World → Prop) (Q' : Exit → Act → World → Prop), (∀ u w'', G i w'' u → (i ≠ x → Grew w' w'') → (i = x → J1 w'' ∧ AllLt (fun j => j ≠ x → lose j = false → ∀ y, G j w' y → G j w'' y) m) → K (b.put o.dst u) w'') → o.upon P b K Q' ((execOp ρ o).run P w')) ∧ (Wants ops ρ o = false → False)
def loseX (ops : Array Oper) (lose : List Nat) (x m : Nat) : Bool := lose.all fun j => (List.range m).all fun k => !readsB ops k j || k == x || ((tabs ops (x + 1)).getD x []).contains k
/-- THE LAW: operation x writes; the others of the first m only add; what follows comes behind all. -/
theorem wp_region_growsX {id : Nat} {w : World} (m x : Nat) (J0 J1 : World → Prop) (lose : List Nat) (Gl : List (World → Value → Prop)) (hm : P.follows .mixedOrders = true) (hms : m ≤ ops.size) (hok : growOk ops a0.tmps.size m = true) (hlo : loseX ops lose x m = true) (hxm : x < m)
    (h0 : J0 w.drew) (hJ0 : ∀ a b, Grew a b → J0 a → J0 b) (hJ1 : ∀ a b, Grew a b → J1 a → J1 b) (hst : ∀ g ∈ Gl, ∀ w w' v, Grew w w' → g w v → g w' v)
    (step : AllLt (StepX P ops m a0 x J0 J1 (fun i => Gl.getD i fun _ _ => False) (fun j => lose.contains j)) m)
    (fin : ∀ v w', J1 w' → AllLt (fun j => lose.contains j = false → (Gl.getD j fun _ _ => False) w' (v j)) m → wpList P ops Q (ops.toList.drop m) (stG ops a0 v m) w') :
    (Code.region id ops true).wp P Q a0 w := by
  refine wp_region_any hm ?_
  have h := wpAny_growX (P := P) (Q := Q) (J0 := J0) (J1 := J1) (G := fun i => Gl.getD i fun _ _ => False) (lose := fun j => lose.contains j) hxm (fun j k hl hk hr => by
      have h1 := List.all_eq_true.1 hlo j (by simpa using hl)
      have h2 := List.all_eq_true.1 h1 k (List.mem_range.2 hk)
      simp only [hr, Bool.not_true, Bool.false_or, Bool.or_eq_true] at h2
      rcases h2 with h2 | h2
      · exact .inl (by simpa using h2)
      · exact .inr (by simpa using h2)) (growOk_spec hok) hms hJ0 hJ1 (fun j a b y hg hy => by
        by_cases hi : j < Gl.length
        · have e : (Gl.getD j fun _ _ => False) = Gl[j] := by rw [List.getD_eq_getElem?_getD, List.getElem?_eq_getElem hi]; rfl
          simp only [e] at hy ⊢
          exact hst _ (List.getElem_mem hi) _ _ _ hg hy
        · have e : (Gl.getD j fun _ _ => False) = fun _ _ => False := by rw [List.getD_eq_getElem?_getD, List.getElem?_eq_none (by omega)]; rfl
          simp only [e] at hy)
    (fun i o him ho s w' hR hS hG => by
      obtain ⟨h1, h2⟩ := AllLt.all _ step i him o ho s.eval w' hR ⟨fun _ => rfl, fun _ => rfl, fun _ => rfl⟩ hS hG
      exact ⟨fun hw b K Q' hK => h1 hw b K Q' fun u w'' hu hg hx => hK u w'' hu hg fun e => ⟨(hx e).1, fun j hj hne hlj y hy => AllLt.all _ (hx e).2 j hj hne hlj y hy⟩, h2⟩)
    (fun v w' hR hG => fin v w' hR (by
      have key : ∀ n, n ≤ m → AllLt (fun j => lose.contains j = false → (Gl.getD j fun _ _ => False) w' (v j)) n := by
        intro n
        induction n with
        | zero => intro _; trivial
        | succ n ih => exact fun hn => ⟨ih (by omega), fun hl => hG n (by omega) hl⟩
      exact key _ (Nat.le_refl _))) ops.size (Array.replicate ops.size false) (fun _ => undef) w.drew (by simp) (fun i _ => by
      by_cases hi : i < ops.size <;> simp [hi]) (fun i hi => by by_cases hi' : i < ops.size <;> simp [hi'] at hi) ⟨fun _ => h0, fun hx' => by
      have hj' : x < ops.size := by omega
      simp [hj'] at hx'⟩ (fun j hj hl => by
      have hj' : j < ops.size := by omega
      simp [hj'] at hl) (by
    have : cntU (fun j => !(Array.replicate ops.size false).getD j false) m ≤ m := by
      have key : ∀ (f : Nat → Bool) n, cntU f n ≤ n := by
        intro f n
        induction n with
        | zero => exact Nat.le_refl _
        | succ n ih => unfold cntU; split <;> omega
      exact key _ _
    omega)
  have e : stU ops a0 (fun _ => undef) (fun j => (Array.replicate ops.size false).getD j false) m = a0 := by
    have key : ∀ n, n ≤ m → stU ops a0 (fun _ => undef) (fun j => (Array.replicate ops.size false).getD j false) n = a0 := by
      intro n
      induction n with
      | zero => intro _; rfl
      | succ n ih =>
        intro hn
        unfold stU
        rw [ih (by omega)]
        have hn' : n < ops.size := by omega
        rw [if_neg (by simp [hn'])]
    exact key _ (Nat.le_refl _)
  rw [e] at h
  exact h
end
end Go.Inc
