/- PLAIN FACTS OF TEXTS OF DOCUMENTS: reading one; there and back. No program is named here. -/
import Derived.Test.YtbhpfdpcafdeaaaAfC
namespace Go.Inc
open Go.RowKit
def nZ (l : List Nat) : List Int := l.map fun x : Nat => (x : Int)
/-- The documents of a text: what is left, those that are read, the one that is open. -/
def docsR : List Int → List (List Nat) → List Nat → Option (List (List Nat))
  | [], _, _ => none
  | z :: zs, out, doc => if z = 0 then (if zs = [] ∧ doc = [] then some out else none) else if z = 1 then docsR zs (out ++ [doc]) [] else if 2 ≤ z ∧ z ≤ 257 then docsR zs out (doc ++ [(z - 2).toNat]) else none
theorem docsR_zero (zs : List Int) (out : List (List Nat)) (doc : List Nat) : docsR (0 :: zs) out doc = if zs = [] ∧ doc = [] then some out else none := by
  show (if (0 : Int) = 0 then _ else _) = _
  rw [if_pos rfl]
theorem docsR_one (zs : List Int) (out : List (List Nat)) (doc : List Nat) : docsR (1 :: zs) out doc = docsR zs (out ++ [doc]) [] := by
  show (if (1 : Int) = 0 then _ else if (1 : Int) = 1 then _ else _) = _
  rw [if_neg (by decide), if_pos rfl]
theorem docsR_sym {z : Int} (zs : List Int) (out : List (List Nat)) (doc : List Nat) (h1 : 2 ≤ z) (h2 : z ≤ 257) : docsR (z :: zs) out doc = docsR zs out (doc ++ [(z - 2).toNat]) := by
  show (if z = 0 then _ else if z = 1 then _ else if 2 ≤ z ∧ z ≤ 257 then _ else _) = _
  rw [if_neg (by omega), if_neg (by omega), if_pos ⟨h1, h2⟩]
theorem docsR_bad {z : Int} (zs : List Int) (out : List (List Nat)) (doc : List Nat) (h : z < 0 ∨ 257 < z) : docsR (z :: zs) out doc = none := by
  show (if z = 0 then _ else if z = 1 then _ else if 2 ≤ z ∧ z ≤ 257 then _ else _) = _
  rw [if_neg (by omega), if_neg (by omega), if_neg (by omega)]
theorem nZ_app (a b : List Nat) : nZ (a ++ b) = nZ a ++ nZ b := by unfold nZ; rw [List.map_append]
theorem nZ_len (a : List Nat) : (nZ a).length = a.length := by simp [nZ]
theorem docsR_doc : ∀ (d : List Nat) (rest : List Int) (out : List (List Nat)) (doc : List Nat), Bytes d → docsR (nZ (d.map (· + 2)) ++ 1 :: rest) out doc = docsR rest (out ++ [doc ++ d]) []
  | [], rest, out, doc, _ => by
    show docsR (1 :: rest) out doc = _
    rw [docsR_one, List.append_nil]
  | y :: d, rest, out, doc, h => by
    have hy : y < 256 := h y (by simp)
    show docsR (((y + 2 : Nat) : Int) :: (nZ (d.map (· + 2)) ++ 1 :: rest)) out doc = _
    rw [docsR_sym _ _ _ (by omega) (by omega), docsR_doc d rest out _ (fun x hx => h x (List.mem_cons_of_mem _ hx)), show (((y + 2 : Nat) : Int) - 2).toNat = y from by omega, List.append_assoc]
    rfl
theorem docsR_docs : ∀ (ds out : List (List Nat)), (∀ d ∈ ds, Bytes d) → docsR (nZ (txtD ds ++ [0])) out [] = some (out ++ ds)
  | [], out, _ => by
    show docsR [0] out [] = _
    rw [docsR_zero, if_pos ⟨rfl, rfl⟩, List.append_nil]
  | d :: ds, out, h => by
    show docsR (nZ ((d.map (· + 2) ++ 1 :: txtD ds) ++ [0])) out [] = _
    rw [List.append_assoc, nZ_app]
    show docsR (nZ (d.map (· + 2)) ++ 1 :: nZ (txtD ds ++ [0])) out [] = _
    rw [docsR_doc d _ out [] (h d (by simp)), List.nil_append, docsR_docs ds _ (fun x hx => h x (List.mem_cons_of_mem _ hx)), List.append_assoc]
    rfl
/-- The documents of documents' text. -/
theorem docsR_txt {ds : List (List Nat)} (h : ∀ d ∈ ds, Bytes d) : docsR (nZ (txtD ds ++ [0])) [] [] = some ds := docsR_docs ds [] h
theorem docsR_back : ∀ (zs : List Int) (out : List (List Nat)) (doc : List Nat) (ds : List (List Nat)), (∀ d ∈ out, Bytes d) → Bytes doc → docsR zs out doc = some ds →
    (∀ d ∈ ds, Bytes d) ∧ nZ (txtD out ++ doc.map (· + 2)) ++ zs = nZ (txtD ds ++ [0])
  | [], out, doc, ds, _, _, h => by cases h
  | z :: zs, out, doc, ds, ho, hd, h => by
    by_cases h0 : z = 0
    · subst h0
      rw [docsR_zero] at h
      split at h
      · rename_i hh
        obtain ⟨rfl, rfl⟩ := hh
        obtain rfl : out = ds := by simpa using h
        refine ⟨ho, ?_⟩
        rw [List.map_nil, List.append_nil, nZ_app]; rfl
      · cases h
    · by_cases h1 : z = 1
      · subst h1
        rw [docsR_one] at h
        obtain ⟨h2, h3⟩ := docsR_back zs _ _ ds (fun d hx => by
          rcases List.mem_append.1 hx with h | h
          · exact ho d h
          · obtain rfl : d = doc := by simpa using h
            exact hd) Bytes.nil h
        refine ⟨h2, ?_⟩
        rw [← h3, txtD_append, List.map_nil, List.append_nil]
        show nZ (txtD out ++ doc.map (· + 2)) ++ 1 :: zs = nZ (txtD out ++ (doc.map (· + 2) ++ 1 :: [])) ++ zs
        rw [← List.append_assoc, nZ_app (txtD out ++ doc.map (· + 2)) [1], List.append_assoc]
        rfl
      · by_cases h2 : 2 ≤ z ∧ z ≤ 257
        · rw [docsR_sym _ _ _ h2.1 h2.2] at h
          obtain ⟨h3, h4⟩ := docsR_back zs _ _ ds ho (fun x hx => by
            rcases List.mem_append.1 hx with h | h
            · exact hd x h
            · obtain rfl : x = (z - 2).toNat := by simpa using h
              omega) h
          refine ⟨h3, ?_⟩
          rw [← h4, List.map_append, ← List.append_assoc, nZ_app _ ([(z - 2).toNat].map (· + 2)), List.append_assoc]
          show _ ++ z :: zs = _ ++ ((((z - 2).toNat + 2 : Nat) : Int) :: zs)
          rw [show (((z - 2).toNat + 2 : Nat) : Int) = z from by omega]
        · rw [docsR_bad _ _ _ (by omega)] at h; cases h
/-- A text that has documents is theirs. -/
theorem docsR_some {zs : List Int} {ds : List (List Nat)} (h : docsR zs [] [] = some ds) : (∀ d ∈ ds, Bytes d) ∧ zs = nZ (txtD ds ++ [0]) := by
  obtain ⟨h1, h2⟩ := docsR_back zs [] [] ds (fun _ h => by cases h) Bytes.nil h
  exact ⟨h1, h2⟩
theorem docs_le : ∀ ds : List (List Nat), ds.length ≤ (txtD ds).length
  | [] => Nat.le_refl _
  | d :: ds => by
    have := docs_le ds
    show ds.length + 1 ≤ (d.map (· + 2) ++ 1 :: txtD ds).length
    simp only [List.length_append, List.length_cons]
    omega
theorem txt_short {ds : List (List Nat)} {k m : Nat} (h1 : ds.length ≤ k) (h2 : ∀ d ∈ ds, d.length ≤ m) : (txtD ds).length ≤ k * (m + 1) := by
  induction ds generalizing k with
  | nil => exact Nat.zero_le _
  | cons d ds ih =>
    cases k with
    | zero => simp at h1
    | succ k =>
      have h3 := ih (k := k) (by simpa using h1) (fun x hx => h2 x (List.mem_cons_of_mem _ hx))
      have h4 := h2 d (by simp)
      show (d.map (· + 2) ++ 1 :: txtD ds).length ≤ _
      simp only [List.length_append, List.length_map, List.length_cons, Nat.add_mul]
      omega
end Go.Inc
