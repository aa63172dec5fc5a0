/- PLAIN FACTS OF NODES: keys, entries, what is wrong with a node, where a key stands, one entry more or fewer. No program is named here. -/
import Derived.Test.YtokeihpmagcneaaGen
import Derived.Test.YtokeihpmagcneaaVarMath
namespace Go.Inc
open Go.RowKit

/-- A key: its section, its number; an entry: a key, a page. -/
abbrev Ky := Int × Int
abbrev Et := Ky × Int
abbrev et0 : Et := ((0, 0), 0)
def plK (k : Ky) : Int := 65536 * k.1 + k.2
def okK (k : Ky) : Bool := decide (0 ≤ k.1) && decide (k.1 < 16) && decide (0 ≤ k.2) && decide (k.2 < 65536)
def okE (e : Et) : Bool := okK e.1 && decide (1 < e.2) && decide (e.2 < 2048)
theorem okK_iff {k : Ky} : okK k = true ↔ 0 ≤ k.1 ∧ k.1 < 16 ∧ 0 ≤ k.2 ∧ k.2 < 65536 := by
  unfold okK
  simp only [Bool.and_eq_true, decide_eq_true_eq]
  constructor
  · rintro ⟨⟨⟨h1, h2⟩, h3⟩, h4⟩; exact ⟨h1, h2, h3, h4⟩
  · rintro ⟨h1, h2, h3, h4⟩; exact ⟨⟨⟨h1, h2⟩, h3⟩, h4⟩
theorem okE_iff {e : Et} : okE e = true ↔ (0 ≤ e.1.1 ∧ e.1.1 < 16 ∧ 0 ≤ e.1.2 ∧ e.1.2 < 65536) ∧ 1 < e.2 ∧ e.2 < 2048 := by
  unfold okE
  simp only [Bool.and_eq_true, decide_eq_true_eq, okK_iff]
  constructor
  · rintro ⟨⟨h1, h2⟩, h3⟩; exact ⟨h1, h2, h3⟩
  · rintro ⟨h1, h2, h3⟩; exact ⟨⟨h1, h2⟩, h3⟩
theorem okE_key {e : Et} (h : okE e = true) : okK e.1 = true := okK_iff.2 (okE_iff.1 h).1
theorem pl_inj {a b : Ky} (ha : okK a = true) (hb : okK b = true) (h : plK a = plK b) : a = b := by
  have h1 := okK_iff.1 ha
  have h2 := okK_iff.1 hb
  unfold plK at h
  have e1 : a.1 = b.1 := by omega
  have e2 : a.2 = b.2 := by omega
  exact Prod.ext e1 e2
def lessK (a b : Ky) : Bool := decide (a.1 < b.1) || (decide (a.1 = b.1) && decide (a.2 < b.2))
theorem less_pl {a b : Ky} (ha : okK a = true) (hb : okK b = true) : lessK a b = decide (plK a < plK b) := by
  have h1 := okK_iff.1 ha
  have h2 := okK_iff.1 hb
  unfold lessK plK
  rw [Bool.eq_iff_iff, Bool.or_eq_true, Bool.and_eq_true, decide_eq_true_eq, decide_eq_true_eq, decide_eq_true_eq, decide_eq_true_eq]
  omega
/-- What is wrong with a node. -/
def badN (es : List Et) : Bool := es.any fun e => !okE e
def riseAt (es : List Et) (i : Nat) : Bool := decide (plK (es.getD (i - 1) et0).1 < plK (es.getD i et0).1)
def fallN (es : List Et) : Bool := (List.range es.length).any fun i => decide (0 < i) && !riseAt es i
def chkN (lf : Bool) (es : List Et) : Int := if 16 < es.length then 2 else if badN es = true then 10 else if fallN es = true then 3 else if lf = false ∧ es = [] then 3 else 0
theorem badN_true {es : List Et} {e : Et} (he : e ∈ es) (h : okE e = false) : badN es = true := by
  unfold badN
  rw [List.any_eq_true]
  exact ⟨e, he, by rw [h]; rfl⟩
theorem badN_false {es : List Et} : badN es = false ↔ ∀ e ∈ es, okE e = true := by
  unfold badN
  rw [List.any_eq_false]
  constructor
  · intro h e he
    have := h e he
    simpa using this
  · intro h e he
    rw [h e he]; decide
theorem fallN_true {es : List Et} {i : Nat} (h : i < es.length) (h0 : 0 < i) (hr : riseAt es i = false) : fallN es = true := by
  unfold fallN
  rw [List.any_eq_true]
  exact ⟨i, List.mem_range.2 h, by rw [hr, decide_eq_true h0]; rfl⟩
theorem fallN_false {es : List Et} : fallN es = false ↔ ∀ i, 0 < i → i < es.length → riseAt es i = true := by
  unfold fallN
  rw [List.any_eq_false]
  constructor
  · intro h i h0 hi
    have := h i (List.mem_range.2 hi)
    simpa [h0] using this
  · intro h i hi
    by_cases h0 : 0 < i
    · rw [h i h0 (List.mem_range.1 hi)]; simp
    · simp [h0]
theorem chkN_long {lf : Bool} {es : List Et} (h : 16 < es.length) : chkN lf es = 2 := if_pos h
theorem chkN_bad {lf : Bool} {es : List Et} (h : es.length ≤ 16) (h1 : badN es = true) : chkN lf es = 10 := by
  unfold chkN
  rw [if_neg (by omega), if_pos h1]
theorem chkN_fall {lf : Bool} {es : List Et} (h : es.length ≤ 16) (h1 : badN es = false) (h2 : fallN es = true) : chkN lf es = 3 := by
  unfold chkN
  rw [if_neg (by omega), if_neg (by rw [h1]; decide), if_pos h2]
theorem chkN_none {lf : Bool} {es : List Et} (h : es.length ≤ 16) (h1 : badN es = false) (h2 : fallN es = false) (h3 : lf = false ∧ es = []) : chkN lf es = 3 := by
  unfold chkN
  rw [if_neg (by omega), if_neg (by rw [h1]; decide), if_neg (by rw [h2]; decide), if_pos h3]
theorem chkN_ok {lf : Bool} {es : List Et} (h : es.length ≤ 16) (h1 : badN es = false) (h2 : fallN es = false) (h3 : ¬ (lf = false ∧ es = [])) : chkN lf es = 0 := by
  unfold chkN
  rw [if_neg (by omega), if_neg (by rw [h1]; decide), if_neg (by rw [h2]; decide), if_neg h3]
theorem chkN_zero {lf : Bool} {es : List Et} (h : chkN lf es = 0) : es.length ≤ 16 ∧ badN es = false ∧ fallN es = false ∧ ¬ (lf = false ∧ es = []) := by
  unfold chkN at h
  split at h
  · cases h
  · rename_i h1
    split at h
    · cases h
    · rename_i h2
      split at h
      · cases h
      · rename_i h3
        split at h
        · cases h
        · rename_i h4
          exact ⟨by omega, by simpa using h2, by simpa using h3, h4⟩
theorem chkN_bnd (lf : Bool) (es : List Et) : 0 ≤ chkN lf es ∧ chkN lf es ≤ 10 := by
  unfold chkN
  split
  · decide
  · split
    · decide
    · split
      · decide
      · split <;> decide
/-- Keys that rise: every two of them. -/
theorem rise_all {es : List Et} (h : fallN es = false) : ∀ d i, i + d + 1 < es.length → plK (es.getD i et0).1 < plK (es.getD (i + d + 1) et0).1
  | 0, i, hi => by
    have := fallN_false.1 h (i + 1) (by omega) (by omega)
    unfold riseAt at this
    rw [Nat.add_sub_cancel] at this
    exact of_decide_eq_true this
  | d + 1, i, hi => by
    have h1 := rise_all h d i (by omega)
    have := fallN_false.1 h (i + d + 1 + 1) (by omega) (by omega)
    unfold riseAt at this
    rw [Nat.add_sub_cancel] at this
    have h2 := of_decide_eq_true this
    rw [show i + (d + 1) + 1 = i + d + 1 + 1 by omega]
    omega
theorem rise_two {es : List Et} (h : fallN es = false) {i j : Nat} (hij : i < j) (hj : j < es.length) : plK (es.getD i et0).1 < plK (es.getD j et0).1 := by
  obtain ⟨d, rfl⟩ : ∃ d, j = i + d + 1 := ⟨j - i - 1, by omega⟩
  exact rise_all h d i hj
/-- Where a key stands, or would: how many are less. -/
def atK (es : List Et) (k : Ky) : Nat := (es.takeWhile fun e => decide (plK e.1 < plK k)).length
theorem atK_le (es : List Et) (k : Ky) : atK es k ≤ es.length := by
  unfold atK
  exact (List.takeWhile_prefix _).length_le
theorem atK_lt {k : Ky} : ∀ {es : List Et} {i : Nat}, i < atK es k → plK (es.getD i et0).1 < plK k
  | [], i, h => by simp [atK] at h
  | e :: r, i, h => by
    unfold atK at h
    by_cases he : plK e.1 < plK k
    · rw [List.takeWhile_cons, if_pos (decide_eq_true he), List.length_cons] at h
      cases i with
      | zero => exact he
      | succ i => exact atK_lt (es := r) (by unfold atK; omega)
    · rw [List.takeWhile_cons, if_neg (by simpa using he)] at h
      simp at h
theorem atK_at {k : Ky} : ∀ {es : List Et}, atK es k < es.length → ¬ plK (es.getD (atK es k) et0).1 < plK k
  | [], h => by simp [atK] at h
  | e :: r, h => by
    by_cases he : plK e.1 < plK k
    · have e1 : atK (e :: r) k = atK r k + 1 := by
        unfold atK
        rw [List.takeWhile_cons, if_pos (decide_eq_true he), List.length_cons]
      rw [e1] at h ⊢
      exact atK_at (es := r) (by simpa using h)
    · have e1 : atK (e :: r) k = 0 := by
        unfold atK
        rw [List.takeWhile_cons, if_neg (by simpa using he)]
        rfl
      rw [e1]
      exact he
theorem atK_ge {es : List Et} {k : Ky} (h : fallN es = false) {i : Nat} (h1 : atK es k ≤ i) (h2 : i < es.length) : plK k ≤ plK (es.getD i et0).1 := by
  have h3 := atK_at (es := es) (k := k) (by omega)
  by_cases e : i = atK es k
  · rw [e]; omega
  · have := rise_two h (i := atK es k) (j := i) (by omega) h2
    omega
/-- It is the place with less ahead and none less behind. -/
theorem atK_is {es : List Et} {k : Ky} {p : Nat} (hp : p ≤ es.length) (h1 : ∀ i, i < p → plK (es.getD i et0).1 < plK k) (h2 : p < es.length → ¬ plK (es.getD p et0).1 < plK k) : atK es k = p := by
  rcases Nat.lt_trichotomy (atK es k) p with h | h | h
  · exact absurd (h1 _ h) (atK_at (by omega))
  · exact h
  · exact absurd (atK_lt h) (h2 (by have := atK_le es k; omega))
/-- Is it there? -/
def inK (es : List Et) (k : Ky) : Bool := decide (atK es k < es.length) && decide ((es.getD (atK es k) et0).1 = k)
theorem inK_lt {es : List Et} {k : Ky} (h : inK es k = true) : atK es k < es.length ∧ (es.getD (atK es k) et0).1 = k := by
  unfold inK at h
  simpa using h
theorem key_at {es : List Et} {k : Ky} (hf : fallN es = false) {i : Nat} (hi : i < es.length) (he : (es.getD i et0).1 = k) : i = atK es k ∧ inK es k = true := by
  have h1 : ¬ i < atK es k := fun h => by have := atK_lt h; rw [he] at this; omega
  have h2 : ¬ atK es k < i := fun h => by
    have h3 := rise_two hf h hi
    have h4 := atK_at (es := es) (k := k) (by omega)
    rw [he] at h3
    omega
  have h3 : i = atK es k := by omega
  refine ⟨h3, ?_⟩
  unfold inK
  rw [← h3, he]
  simp [hi]
theorem key_not {es : List Et} {k : Ky} (hf : fallN es = false) {i : Nat} (hi : i < es.length) (he : i ≠ atK es k ∨ inK es k = false) : (es.getD i et0).1 ≠ k := fun h => by
  have := key_at hf hi h
  rcases he with h1 | h1
  · exact h1 this.1
  · rw [this.2] at h1; cases h1
/-- Which entry a key is behind. -/
def childK (es : List Et) (k : Ky) : Nat := if inK es k = true then atK es k else atK es k - 1
/-- One entry more; without a key's. -/
def insE (es : List Et) (e : Et) : List Et := es.take (atK es e.1) ++ [e] ++ es.drop (if inK es e.1 = true then atK es e.1 + 1 else atK es e.1)
def remE (es : List Et) (k : Ky) : List Et := es.take (atK es k) ++ es.drop (atK es k + 1)
theorem insE_len (es : List Et) (e : Et) : (insE es e).length = if inK es e.1 = true then es.length else es.length + 1 := by
  have := atK_le es e.1
  unfold insE
  rw [List.length_append, List.length_append, List.length_take, List.length_drop]
  split
  · rename_i h
    have := (inK_lt h).1
    simp; omega
  · simp; omega
/-- What the errors are. -/
def wiE (lf : Bool) (es : List Et) (e : Et) : Int := if chkN lf es ≠ 0 then chkN lf es else if okE e = false then 10 else if inK es e.1 = false ∧ 16 ≤ es.length then 6 else 0
def woE (lf : Bool) (es : List Et) (k : Ky) : Int := if chkN lf es ≠ 0 then chkN lf es else if inK es k = false then 7 else 0
def spE (lf : Bool) (es : List Et) : Int := if chkN lf es ≠ 0 then chkN lf es else if es.length < 2 then 11 else 0
def mgE (l1 : Bool) (e1 : List Et) (l2 : Bool) (e2 : List Et) : Int := if chkN l1 e1 ≠ 0 then chkN l1 e1 else if chkN l2 e2 ≠ 0 then chkN l2 e2 else if l1 ≠ l2 then 11 else if 16 < (e1 ++ e2).length then 6 else chkN l1 (e1 ++ e2)
/-- The loop that puts an entry in: pe is the entry's key as a number. -/
def withTo (es : List Et) (e : Et) (pe : Int) : Nat → List Et × Bool
  | 0 => ([], false)
  | k + 1 =>
    let s := withTo es e pe k
    let p := !s.2 && decide (pe ≤ plK (es.getD k et0).1)
    let l := if p = true then s.1 ++ [e] else s.1
    (if (es.getD k et0).1 = e.1 then l else l ++ [es.getD k et0], s.2 || p)
theorem withTo_len (es : List Et) (e : Et) (pe : Int) : ∀ k, (withTo es e pe k).1.length ≤ k + 1 ∧ ((withTo es e pe k).2 = false → (withTo es e pe k).1.length ≤ k)
  | 0 => by simp [withTo]
  | k + 1 => by
    have ih := withTo_len es e pe k
    unfold withTo
    simp only
    generalize withTo es e pe k = s at ih
    generalize es.getD k et0 = y
    by_cases hp : (!s.2 && decide (pe ≤ plK y.1)) = true
    · have hs : s.2 = false := by rw [Bool.and_eq_true] at hp; simpa using hp.1
      have h2 := ih.2 hs
      rw [if_pos hp]
      refine ⟨by split <;> (try simp) <;> omega, fun h => ?_⟩
      rw [hp, Bool.or_true] at h
      cases h
    · rw [if_neg hp]
      have h1 := ih.1
      refine ⟨by split <;> (try simp) <;> omega, fun h => ?_⟩
      have hs : s.2 = false := by rw [Bool.or_eq_false_iff] at h; exact h.1
      have h2 := ih.2 hs
      split <;> (try simp) <;> omega
def withX (es : List Et) (e : Et) (pe : Int) : List Et := if (withTo es e pe es.length).2 = true then (withTo es e pe es.length).1 else (withTo es e pe es.length).1 ++ [e]
theorem withX_len (es : List Et) (e : Et) (pe : Int) : (withX es e pe).length ≤ es.length + 1 := by
  have h := withTo_len es e pe es.length
  unfold withX
  split
  · exact h.1
  · rename_i h1
    have := h.2 (by simpa using h1)
    simp; omega
theorem withTo_at {es : List Et} {e : Et} (hf : fallN es = false) : ∀ k, k ≤ es.length → withTo es e (plK e.1) k = if k ≤ atK es e.1 then (es.take k, false) else (es.take (atK es e.1) ++ [e] ++ (es.take k).drop (if inK es e.1 = true then atK es e.1 + 1 else atK es e.1), true)
  | 0, _ => by simp [withTo]
  | k + 1, hk => by
    have ih := withTo_at (e := e) hf k (by omega)
    have hts := takeSnoc (bs := es) (d := et0) (k := k) (by omega)
    unfold withTo
    simp only
    rw [ih]
    by_cases h1 : k + 1 ≤ atK es e.1
    · rw [if_pos h1, if_pos (show k ≤ atK es e.1 by omega)]
      have h2 := atK_lt (es := es) (k := e.1) (i := k) (by omega)
      have h3 : (es.getD k et0).1 ≠ e.1 := key_not hf (by omega) (.inl (by omega))
      simp only [Bool.not_false, Bool.true_and, decide_eq_false (show ¬ plK e.1 ≤ plK (es.getD k et0).1 by omega), Bool.or_false, if_neg h3, Bool.false_eq_true, if_false]
      rw [hts]
    · rw [if_neg h1]
      by_cases h2 : k = atK es e.1
      · have h3 := atK_ge hf (k := e.1) (i := k) (by omega) (by omega)
        rw [if_pos (show k ≤ atK es e.1 by omega)]
        simp only [Bool.not_false, Bool.true_and, decide_eq_true h3, Bool.or_true, if_true]
        by_cases h4 : inK es e.1 = true
        · have h5 := (inK_lt h4).2
          rw [← h2] at h5
          rw [if_pos h4, if_pos h5, ← h2]
          rw [List.drop_eq_nil_of_le (by rw [List.length_take]; omega)]
          simp
        · have h5 : (es.getD k et0).1 ≠ e.1 := key_not hf (by omega) (.inr (by simpa using h4))
          rw [if_neg h4, if_neg h5, ← h2, hts, List.drop_append_of_le_length (by rw [List.length_take]; omega), List.drop_eq_nil_of_le (by rw [List.length_take]; omega)]
          simp
      · rw [if_neg (show ¬ k ≤ atK es e.1 by omega)]
        have h5 : (es.getD k et0).1 ≠ e.1 := key_not hf (by omega) (.inl h2)
        simp only [Bool.not_true, Bool.false_and, Bool.false_eq_true, if_false, if_neg h5, Bool.or_false]
        rw [hts, List.drop_append_of_le_length (by rw [List.length_take]; split <;> omega)]
        simp
theorem withX_is {es : List Et} {e : Et} (hf : fallN es = false) : withX es e (plK e.1) = insE es e := by
  have h := withTo_at (e := e) hf es.length (Nat.le_refl _)
  unfold withX insE
  rw [h]
  by_cases h1 : es.length ≤ atK es e.1
  · have h2 := atK_le es e.1
    have h3 : atK es e.1 = es.length := by omega
    have h4 : inK es e.1 = false := by
      cases hh : inK es e.1
      · rfl
      · have := (inK_lt hh).1; omega
    rw [if_pos h1, h4, h3]
    simp
  · rw [if_neg h1]
    simp
/-- The loop that takes a key's entry out. -/
def outTo (es : List Et) (k : Ky) (n : Nat) : List Et := (es.take n).filter fun e => decide (e.1 ≠ k)
def isTo (es : List Et) (k : Ky) (n : Nat) : Bool := (es.take n).any fun e => decide (e.1 = k)
theorem outTo_next {es : List Et} {k : Ky} {n : Nat} (h : n < es.length) : outTo es k (n + 1) = if (es.getD n et0).1 = k then outTo es k n else outTo es k n ++ [es.getD n et0] := by
  unfold outTo
  rw [takeSnoc (d := et0) h, List.filter_append]
  generalize es.getD n et0 = y
  split
  · rename_i h1; simp [h1]
  · rename_i h1; simp [h1]
theorem isTo_next {es : List Et} {k : Ky} {n : Nat} (h : n < es.length) : isTo es k (n + 1) = (isTo es k n || decide ((es.getD n et0).1 = k)) := by
  unfold isTo
  rw [takeSnoc (d := et0) h, List.any_append]
  simp
theorem outTo_len (es : List Et) (k : Ky) (n : Nat) : (outTo es k n).length ≤ n := by
  unfold outTo
  refine Nat.le_trans (List.length_filter_le _ _) ?_
  rw [List.length_take]; omega
theorem out_at {es : List Et} {k : Ky} (hf : fallN es = false) : ∀ n, n ≤ es.length → outTo es k n = (if n ≤ atK es k then es.take n else if inK es k = true then es.take (atK es k) ++ (es.take n).drop (atK es k + 1) else es.take n) ∧ isTo es k n = (inK es k && decide (atK es k < n))
  | 0, _ => by simp [outTo, isTo]
  | n + 1, hn => by
    obtain ⟨i1, i2⟩ := out_at (k := k) hf n (by omega)
    have hts := takeSnoc (bs := es) (d := et0) (k := n) (by omega)
    rw [outTo_next (by omega), isTo_next (by omega), i1, i2]
    by_cases h1 : n + 1 ≤ atK es k
    · have h3 : (es.getD n et0).1 ≠ k := key_not hf (by omega) (.inl (by omega))
      rw [if_neg h3, if_pos (show n ≤ atK es k by omega), if_pos h1, hts, decide_eq_false h3, decide_eq_false (show ¬ atK es k < n by omega), decide_eq_false (show ¬ atK es k < n + 1 by omega)]
      simp
    · rw [if_neg h1]
      by_cases h2 : n = atK es k
      · rw [if_pos (show n ≤ atK es k by omega)]
        by_cases h4 : inK es k = true
        · have h5 := (inK_lt h4).2
          rw [← h2] at h5
          rw [if_pos h5, h4, if_pos rfl, ← h2, decide_eq_true h5, List.drop_eq_nil_of_le (by rw [List.length_take]; omega)]
          simp
        · have h5 : (es.getD n et0).1 ≠ k := key_not hf (by omega) (.inr (by simpa using h4))
          rw [if_neg h5, if_neg h4, hts, decide_eq_false h5]
          simp [h4]
      · have h5 : (es.getD n et0).1 ≠ k := key_not hf (by omega) (.inl h2)
        rw [if_neg h5, if_neg (show ¬ n ≤ atK es k by omega), decide_eq_false h5, decide_eq_true (show atK es k < n by omega), decide_eq_true (show atK es k < n + 1 by omega)]
        split
        · rename_i h4
          rw [hts, List.drop_append_of_le_length (by rw [List.length_take]; omega)]
          simp
        · rw [hts]; simp
theorem out_all {es : List Et} {k : Ky} (hf : fallN es = false) (h : inK es k = true) : outTo es k es.length = remE es k := by
  rw [(out_at hf es.length (Nat.le_refl _)).1, if_neg (by have := (inK_lt h).1; omega), if_pos h]
  unfold remE
  rw [List.take_length]
theorem is_all {es : List Et} {k : Ky} (hf : fallN es = false) : isTo es k es.length = inK es k := by
  rw [(out_at hf es.length (Nat.le_refl _)).2]
  cases h : inK es k
  · rfl
  · rw [decide_eq_true (inK_lt h).1]; rfl
/-- The loop that finds. -/
def fdTo (es : List Et) (k : Ky) (n : Nat) : Nat := min n (atK es k)
def lastTo (es : List Et) (k : Ky) (n : Nat) : Nat := min n (atK es k + (if inK es k = true then 1 else 0)) - 1
theorem fd_next {es : List Et} {k : Ky} (hf : fallN es = false) {n : Nat} (h : n < es.length) : fdTo es k (n + 1) = if plK (es.getD n et0).1 < plK k then n + 1 else fdTo es k n := by
  unfold fdTo
  by_cases h1 : n < atK es k
  · rw [if_pos (atK_lt h1)]; omega
  · have := atK_ge hf (k := k) (i := n) (by omega) h
    rw [if_neg (by omega)]; omega
theorem last_next {es : List Et} {k : Ky} (hf : fallN es = false) (hg : ∀ e ∈ es, okE e = true) (hk : okK k = true) {n : Nat} (h : n < es.length) : lastTo es k (n + 1) = if plK (es.getD n et0).1 ≤ plK k then n else lastTo es k n := by
  unfold lastTo
  by_cases h1 : n < atK es k
  · have h2 := atK_lt h1
    have hc : plK (es.getD n et0).1 ≤ plK k := by omega
    rw [if_pos hc]
    split <;> omega
  · have h2 := atK_ge hf (k := k) (i := n) (by omega) h
    by_cases h3 : n = atK es k
    · by_cases h4 : inK es k = true
      · have h5 := (inK_lt h4).2
        rw [← h3] at h5
        have hc : plK (es.getD n et0).1 ≤ plK k := by rw [h5]; omega
        rw [if_pos hc, if_pos h4]
        omega
      · have h5 : (es.getD n et0).1 ≠ k := key_not hf h (.inr (by simpa using h4))
        have h6 : ¬ plK (es.getD n et0).1 ≤ plK k := fun hh => h5 (pl_inj (okE_key (hg _ (memGetD h))) hk (by omega))
        rw [if_neg h6, if_neg h4]
        omega
    · have h7 := rise_two hf (i := atK es k) (j := n) (by omega) h
      have h8 := atK_at (es := es) (k := k) (by omega)
      have h9 : ¬ plK (es.getD n et0).1 ≤ plK k := by omega
      rw [if_neg h9]
      split <;> omega
theorem last_all {es : List Et} {k : Ky} : lastTo es k es.length = childK es k := by
  have := atK_le es k
  unfold lastTo childK
  split
  · rename_i h
    have := (inK_lt h).1
    omega
  · omega
theorem fd_all {es : List Et} {k : Ky} : fdTo es k es.length = atK es k := by
  have := atK_le es k
  unfold fdTo
  omega
/-- Parts of a right node. -/
theorem getD_take {es : List Et} {n i : Nat} (h : i < n) : (es.take n).getD i et0 = es.getD i et0 := by
  rw [List.getD_eq_getElem?_getD, List.getD_eq_getElem?_getD, List.getElem?_take, if_pos h]
theorem getD_drop {es : List Et} {n i : Nat} : (es.drop n).getD i et0 = es.getD (n + i) et0 := by
  rw [List.getD_eq_getElem?_getD, List.getD_eq_getElem?_getD, List.getElem?_drop]
theorem chk_take {lf : Bool} {es : List Et} {n : Nat} (h : chkN lf es = 0) (h1 : 0 < n) (h2 : n ≤ es.length) : chkN lf (es.take n) = 0 := by
  obtain ⟨c1, c2, c3, c4⟩ := chkN_zero h
  refine chkN_ok (by rw [List.length_take]; omega) (badN_false.2 fun e he => badN_false.1 c2 e (List.mem_of_mem_take he)) (fallN_false.2 fun i h0 hi => ?_) (fun hh => ?_)
  · rw [List.length_take] at hi
    have := fallN_false.1 c3 i h0 (by omega)
    unfold riseAt at this ⊢
    rw [getD_take (by omega), getD_take (by omega)]
    exact this
  · have h5 : (es.take n).length = 0 := by rw [hh.2]; rfl
    rw [List.length_take] at h5
    omega
theorem chk_drop {lf : Bool} {es : List Et} {n : Nat} (h : chkN lf es = 0) (h2 : n < es.length) : chkN lf (es.drop n) = 0 := by
  obtain ⟨c1, c2, c3, c4⟩ := chkN_zero h
  refine chkN_ok (by rw [List.length_drop]; omega) (badN_false.2 fun e he => badN_false.1 c2 e (List.mem_of_mem_drop he)) (fallN_false.2 fun i h0 hi => ?_) (fun hh => ?_)
  · rw [List.length_drop] at hi
    have := fallN_false.1 c3 (n + i) (by omega) (by omega)
    unfold riseAt at this ⊢
    rw [getD_drop, getD_drop, show n + (i - 1) = n + i - 1 by omega]
    exact this
  · have h5 : (es.drop n).length = 0 := by rw [hh.2]; rfl
    rw [List.length_drop] at h5
    omega
theorem merge_back {lf : Bool} {es : List Et} {n : Nat} (h : chkN lf es = 0) (h1 : 0 < n) (h2 : n < es.length) : mgE lf (es.take n) lf (es.drop n) = 0 := by
  obtain ⟨c1, _⟩ := chkN_zero h
  unfold mgE
  rw [List.take_append_drop, if_neg (by rw [chk_take h h1 (by omega)]; decide), if_neg (by rw [chk_drop h h2]; decide), if_neg (by simp), if_neg (by omega)]
  exact h
end Go.Inc
