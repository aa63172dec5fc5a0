/- CONTRACTS IN THE LAWS' WORDS: texts, read one by one. -/
import Derived.Test.YtpipgbehpppjbaaVarR
import Derived.Test.YtpipgbehpppjbaaVarFixed
namespace Go.Proofs.Ytpipgbehpppjbaa
open Go.RowKit Go.Inc

theorem bs_mid {w : World} {ok : Nat → Prop} {a : Option Addr} {c P Q V : Nat} {bs : List Nat} (h : Sl ok w a bs) (hc : bs.length ≤ c ∧ c ≤ maxLen) (hn : a = none → c = 0) (hQ : Q = P + V) (hb : Q ≤ bs.length) :
    Bs w (.slice (if c = P then a else a.map fun x => x.add P) (Q - P) (c - P)) ((bs.drop P).take V) := by
  obtain ⟨a', c', he, h1, h2, h3, h4⟩ := bs_drop h hc hn P (by omega)
  simp only [Value.slice.injEq] at he
  obtain ⟨rfl, _, rfl⟩ := he
  have hl : ((bs.drop P).take V).length = Q - P := by rw [List.length_take, List.length_drop]; omega
  refine ⟨_, c - P, by rw [hl], h1.front V, by omega, h3, h4⟩
theorem texts_add (l : List (List Nat)) (p : List Nat) : texts (l ++ [p]) = texts l ++ Var.put p.length ++ p := by
  simp [texts]
theorem texts_cons (p : List Nat) (l : List (List Nat)) : texts (p :: l) = Var.put p.length ++ (p ++ texts l) := by
  simp [texts]
theorem text_first (p r : List Nat) (hl : p.length ≤ 9223372036854775807) : textErr (Var.put p.length ++ (p ++ r)) = 0 ∧ textVal (Var.put p.length ++ (p ++ r)) = p ∧ textRest (Var.put p.length ++ (p ++ r)) = r := by
  have hf : p.length < 18446744073709551616 := by omega
  have e1 : Var.val 9223372036854775807 (Var.put p.length ++ (p ++ r)) = p.length := Var.val_put hl hf _
  have e2 : Var.err 9223372036854775807 (Var.put p.length ++ (p ++ r)) = 0 := Var.err_put hl hf _
  have e3 : bodyOf (Var.put p.length ++ (p ++ r)) = p ++ r := by
    unfold bodyOf
    rw [Var.pos_put hl hf]
    exact List.drop_left
  have h0 : textErr (Var.put p.length ++ (p ++ r)) = 0 := by
    unfold textErr
    rw [e2, e3, e1]
    simp
  refine ⟨h0, ?_, ?_⟩
  · unfold textVal
    rw [if_pos h0, e1, e3]; simp
  · unfold textRest
    rw [if_pos h0, e1, e3]; simp

theorem texts_drop (l : List (List Nat)) (j : Nat) : (texts (l.drop j)).length ≤ (texts l).length := by
  have h4 : texts l = texts (l.take j) ++ texts (l.drop j) := by
    conv => lhs; rw [← List.take_append_drop j l]
    unfold texts
    rw [List.map_append, List.flatten_append]
  rw [h4, List.length_append]
  omega
/-- At most so many texts, of at most 200 bytes. -/
def cutT (ps : List (List Nat)) (k : Nat) : List (List Nat) := (ps.take k).map (List.take 200)
def allT (ps : List (List Nat)) (k : Nat) : List Nat := texts (cutT ps k)
def valsT (ps : List (List Nat)) (A : Nat → Option Addr) (C : Nat → Nat) (k : Nat) : List Value := (List.range k).map fun j => .slice (A j) (min (ps.getD j []).length 200) (C j)
theorem valsT_succ (ps : List (List Nat)) (A : Nat → Option Addr) (C : Nat → Nat) (k : Nat) : valsT ps A C (k + 1) = valsT ps A C k ++ [.slice (A k) (min (ps.getD k []).length 200) (C k)] := by
  simp [valsT, List.range_succ]
theorem valsT_len (ps : List (List Nat)) (A : Nat → Option Addr) (C : Nat → Nat) (k : Nat) : (valsT ps A C k).length = k := by simp [valsT]
theorem cutT_succ {ps : List (List Nat)} {k : Nat} (h : k < ps.length) : cutT ps (k + 1) = cutT ps k ++ [(ps.getD k []).take 200] := by
  unfold cutT
  rw [List.take_succ_eq_append_getElem h, List.getD_eq_getElem?_getD, List.getElem?_eq_getElem h]
  simp only [List.map_append, List.map_cons, List.map_nil, Option.getD_some]
theorem allT_succ {ps : List (List Nat)} {k : Nat} (h : k < ps.length) : allT ps (k + 1) = allT ps k ++ Var.put ((ps.getD k []).take 200).length ++ (ps.getD k []).take 200 := by
  unfold allT
  rw [cutT_succ h, texts_add]
theorem allT_len (ps : List (List Nat)) (k : Nat) : (allT ps k).length ≤ 210 * k := by
  induction k with
  | zero => simp [allT, cutT, texts]
  | succ k ih =>
    by_cases h : k < ps.length
    · rw [allT_succ h, List.length_append, List.length_append]
      have h1 := Var.put_ten (n := ((ps.getD k []).take 200).length) (by rw [List.length_take]; omega)
      have h2 : ((ps.getD k []).take 200).length ≤ 200 := by rw [List.length_take]; omega
      omega
    · have : allT ps (k + 1) = allT ps k := by
        unfold allT cutT
        rw [List.take_of_length_le (by omega), List.take_of_length_le (by omega)]
      rw [this]; omega
theorem cutT_len (ps : List (List Nat)) (k : Nat) (h : k ≤ ps.length) : (cutT ps k).length = k := by unfold cutT; rw [List.length_map, List.length_take]; omega
theorem cutT_getD (ps : List (List Nat)) (k i : Nat) (hi : i < k) (hk : k ≤ ps.length) : (cutT ps k).getD i [] = (ps.getD i []).take 200 := by
  rw [List.getD_eq_getElem?_getD, List.getD_eq_getElem?_getD]
  unfold cutT
  rw [List.getElem?_map, List.getElem?_take, if_pos hi, List.getElem?_eq_getElem (by omega)]
  rfl
theorem cutT_bytes {ps : List (List Nat)} (h : ∀ p ∈ ps, Bytes p) (k : Nat) : ∀ p ∈ cutT ps k, Bytes p := by
  intro p hp
  obtain ⟨q, hq, rfl⟩ := List.mem_map.1 hp
  exact (h q (List.mem_of_mem_take hq)).take 200
theorem texts_bytes {ps : List (List Nat)} (h : ∀ p ∈ ps, Bytes p) : Bytes (texts ps) := by
  intro x hx
  unfold texts at hx
  obtain ⟨l, hl, hx⟩ := List.mem_flatten.1 hx
  obtain ⟨p, hp, rfl⟩ := List.mem_map.1 hl
  exact (Bytes.append (Var.put_bytes _) (h p hp)) x hx

/-- The slice of the cut texts, and each of them. -/
theorem cut_parts {ok : Nat → Prop} {w w' : World} {B E k : Nat} {ps : List (List Nat)} {A : Nat → Option Addr} {C : Nat → Nat} {v : Value} (hps : ∀ i, i < ps.length → Sl ok w (A i) (ps.getD i [])) (hpc : ∀ i, i < ps.length → (ps.getD i []).length ≤ C i ∧ C i ≤ maxLen) (hby : ∀ p ∈ ps, Bytes p) (hbel : Below w.heap.size w w') (hk : k ≤ ps.length)
    (hv : w'.ownsRow B E 1 v k (valsT ps A C k)) : ∃ a c, v = .slice a k c ∧ Pt (fun _ => True) w' a (cutT ps k) ∧
      ∀ i, i < k → ∃ b' o', a = some ⟨b', o', none⟩ ∧ w'.cell? ⟨b', o' + i, none⟩ = some (.slice (A i) ((cutT ps k).getD i []).length (C i)) ∧ Sl (fun _ => True) w' (A i) ((cutT ps k).getD i []) := by
  rcases hv.2 with ⟨rfl, h0⟩ | ⟨g, c, cur, rfl, hg, hh, h1, h2, _, _⟩
  · subst h0
    refine ⟨none, 0, rfl, ?_, fun i hi => by omega⟩
    have : cutT ps 0 = [] := rfl
    rw [this]
    exact Pt.nil _ _ _
  · have hcell : ∀ i, i < k → w'.cell? ⟨g, 0 + i, none⟩ = some (.slice (A i) ((cutT ps k).getD i []).length (C i)) := by
      intro i hi
      have hc := hv.cells (g := g) rfl i (.slice (A i) (min (ps.getD i []).length 200) (C i)) (by simp [valsT, hi])
      rw [Addr.add_lit] at hc
      rw [hc, cutT_getD ps k i hi hk, List.length_take, Nat.min_comm]
    have hsl : ∀ i, i < k → Sl ok w' (A i) ((cutT ps k).getD i []) := by
      intro i hi
      rw [cutT_getD ps k i hi hk]
      exact ((hps i (by omega)).below hbel).front 200
    have hcap : ∀ i, i < k → ((cutT ps k).getD i []).length ≤ C i ∧ C i ≤ maxLen := by
      intro i hi
      have := hpc i (by omega)
      rw [cutT_getD ps k i hi hk, List.length_take]
      omega
    refine ⟨_, c, rfl, ⟨cutT_bytes hby k, .inr ⟨g, 0, A, C, rfl, trivial, fun i hi => hcell i (by rw [cutT_len ps k hk] at hi; exact hi), fun i hi => ?_, fun i hi => hcap i (by rw [cutT_len ps k hk] at hi; exact hi)⟩⟩, fun i hi => ⟨g, 0, rfl, hcell i hi, ?_⟩⟩
    · exact (hsl i (by rw [cutT_len ps k hk] at hi; exact hi)).mono fun _ _ _ => trivial
    · exact (hsl i hi).mono fun _ _ _ => trivial
end Go.Proofs.Ytpipgbehpppjbaa
