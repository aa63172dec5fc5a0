/- PLAIN FACTS OF ORDERS: all numbers from 0 on, each once; turned; turned twice. No program is named here. -/
import Derived.Test.YtdobjlaggdnphaaSfMath
namespace Go.Inc
open Go.RowKit
/-- All numbers from 0 on are there (then each is once: there is room for no more). -/
def okT (l : List Int) : Prop := ∀ n, n < l.length → ((n : Nat) : Int) ∈ l
instance (l : List Int) : Decidable (okT l) := inferInstanceAs (Decidable (∀ n, n < l.length → ((n : Nat) : Int) ∈ l))
/-- Where each number stands. -/
def tnT (l : List Int) : List Nat := (List.range l.length).map fun n => l.idxOf ((n : Nat) : Int)
theorem tnT_len (l : List Int) : (tnT l).length = l.length := by simp [tnT]
theorem tnT_get {l : List Int} {n : Nat} (h : n < l.length) : (tnT l).getD n 0 = l.idxOf (n : Int) := by
  unfold tnT
  rw [List.getD_eq_getElem?_getD, List.getElem?_map, List.getElem?_range h]; rfl
theorem room_perm : ∀ {r l : List Int}, r.Nodup → (∀ z ∈ r, z ∈ l) → l.length ≤ r.length → l.Perm r
  | [], l, _, _, h => by
    have : l = [] := List.eq_nil_of_length_eq_zero (by simpa using h)
    rw [this]
  | a :: r, l, hn, hs, h => by
    rw [List.nodup_cons] at hn
    have ha := hs a (by simp)
    have h1 := List.perm_cons_erase ha
    have hl := List.length_erase_of_mem ha
    have h0 : 0 < l.length := List.length_pos_of_mem ha
    refine h1.trans ((room_perm (l := l.erase a) hn.2 (fun z hz => ?_) ?_).cons a)
    · exact (List.mem_erase_of_ne (fun e => hn.1 (by rw [← e]; exact hz))).2 (hs z (List.mem_cons_of_mem _ hz))
    · rw [hl]; simp at h; omega
theorem range_nodup (n : Nat) : ((List.range n).map fun k : Nat => (k : Int)).Nodup := by
  refine List.Pairwise.map (R := fun a b : Nat => a ≠ b) _ (fun a b hab e => hab ?_) List.nodup_range
  exact Int.ofNat.inj e
theorem okT_perm {l : List Int} (h : okT l) : l.Perm ((List.range l.length).map fun n : Nat => (n : Int)) := by
  refine room_perm (l := l) (range_nodup _) ?_ (by simp)
  intro z hz
  obtain ⟨n, hn, rfl⟩ := List.mem_map.1 hz
  exact h n (List.mem_range.1 hn)
theorem okT_nodup {l : List Int} (h : okT l) : l.Nodup := by
  rw [(okT_perm h).nodup_iff]
  exact range_nodup _
theorem okT_in {l : List Int} (h : okT l) {z : Int} (hz : z ∈ l) : 0 ≤ z ∧ z < l.length := by
  obtain ⟨n, hn, rfl⟩ := List.mem_map.1 ((okT_perm h).mem_iff.1 hz)
  have := List.mem_range.1 hn
  omega
theorem getD_mem {l : List Int} {i : Nat} (h : i < l.length) : l.getD i 0 ∈ l := by
  rw [List.getD_eq_getElem?_getD, List.getElem?_eq_getElem h]; exact List.getElem_mem _
/-- Where a number stands, if each is once. -/
theorem at_is {l : List Int} (hn : l.Nodup) {i : Nat} (h : i < l.length) {z : Int} (hz : l.getD i 0 = z) : l.idxOf z = i := by
  rw [List.getD_eq_getElem?_getD, List.getElem?_eq_getElem h] at hz
  have hz' : l[i] = z := hz
  rw [← hz']
  exact hn.idxOf_getElem i h
theorem at_get {l : List Int} {z : Int} (h : z ∈ l) : l.idxOf z < l.length ∧ l.getD (l.idxOf z) 0 = z := by
  have h1 := List.idxOf_lt_length_of_mem h
  refine ⟨h1, ?_⟩
  rw [List.getD_eq_getElem?_getD, List.getElem?_eq_getElem h1]
  exact List.getElem_idxOf h1
/-- What was found is where each stands. -/
theorem tnT_is {l : List Int} {W : List Nat} (h0 : W.length = l.length) (h : ∀ j, j < l.length → W.getD j 0 < l.length ∧ l.getD (W.getD j 0) 0 = (j : Int)) : okT l ∧ W = tnT l := by
  have hok : okT l := fun n hn => by
    have := getD_mem (h n hn).1
    rw [(h n hn).2] at this; exact this
  refine ⟨hok, ?_⟩
  apply List.ext_getElem (by rw [h0, tnT_len])
  intro i h1 h2
  have hi : i < l.length := by omega
  have h3 := at_is (okT_nodup hok) (h i hi).1 (h i hi).2
  have h4 := tnT_get (l := l) hi
  rw [h3] at h4
  rw [List.getD_eq_getElem?_getD, List.getElem?_eq_getElem h2, List.getD_eq_getElem?_getD, List.getElem?_eq_getElem h1] at h4
  exact h4.symm
def zsN (l : List Nat) : List Int := l.map fun x : Nat => (x : Int)
theorem zsN_len (l : List Nat) : (zsN l).length = l.length := by simp [zsN]
theorem zsN_get {l : List Nat} (i : Nat) : (zsN l).getD i 0 = ((l.getD i 0 : Nat) : Int) := by
  unfold zsN
  rw [List.getD_eq_getElem?_getD, List.getElem?_map, List.getD_eq_getElem?_getD]
  cases l[i]? <;> rfl
/-- An order that is turned twice is itself. -/
theorem turn_twice {l : List Int} (h : okT l) : okT (zsN (tnT l)) ∧ zsN (tnT (zsN (tnT l))) = l := by
  have hnd := okT_nodup h
  have hW : ∀ j, j < (zsN (tnT l)).length → (l.map Int.toNat).getD j 0 < (zsN (tnT l)).length ∧ (zsN (tnT l)).getD ((l.map Int.toNat).getD j 0) 0 = (j : Int) := by
    intro j hj
    rw [zsN_len, tnT_len] at hj ⊢
    have hz := okT_in h (getD_mem hj)
    have e1 : (l.map Int.toNat).getD j 0 = (l.getD j 0).toNat := by
      rw [List.getD_eq_getElem?_getD, List.getElem?_map, List.getD_eq_getElem?_getD, List.getElem?_eq_getElem hj]; rfl
    rw [e1]
    have h1 : (l.getD j 0).toNat < l.length := by omega
    refine ⟨h1, ?_⟩
    rw [zsN_get, tnT_get h1, at_is hnd hj (by omega)]
  obtain ⟨h1, h2⟩ := tnT_is (l := zsN (tnT l)) (W := l.map Int.toNat) (by rw [List.length_map, zsN_len, tnT_len]) hW
  refine ⟨h1, ?_⟩
  rw [← h2]
  apply List.ext_getElem (by simp [zsN])
  intro i h3 h4
  have hz := okT_in h (List.getElem_mem h4)
  simp only [zsN, List.getElem_map]
  omega
end Go.Inc
