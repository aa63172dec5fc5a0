/- PLAIN FACTS: what the calls on a list answer: pages, places, parts. No walk of the program. -/
import Derived.Test.YtlfpepkgnobjnaaExDec
import Derived.Test.YtlfpepkgnobjnaaBmRf
namespace Go.Inc
/-- The pages of a list: none of a wrong one. -/
def pgX (xs : List Xt) : List Int := if chkX xs = 0 then pagesX xs else []
theorem pgX_good {xs : List Xt} (h : chkX xs = 0) : pgX xs = pagesX xs := if_pos h
theorem pgX_bad {xs : List Xt} (h : chkX xs ≠ 0) : pgX xs = [] := if_neg h
theorem pages_cnt {xs : List Xt} (h : chkX xs = 0) : (pagesX xs).length ≤ 1024 := by
  have hz := chkX_zero h
  have := pagesX_len xs (badX_false.1 hz.1)
  omega
theorem pgX_cnt (xs : List Xt) : (pgX xs).length ≤ 1024 := by
  by_cases h : chkX xs = 0
  · rw [pgX_good h]; exact pages_cnt h
  · rw [pgX_bad h]; exact Nat.zero_le _
/-- Which page stands at a place: its error. -/
def atE (xs : List Xt) (i : Int) : Int := if chkX xs ≠ 0 then chkX xs else if i < 0 ∨ ((pagesX xs).length : Int) ≤ i then 10 else 0
theorem atE_bad {xs : List Xt} {i : Int} (h : chkX xs ≠ 0) : atE xs i = chkX xs := if_pos h
theorem atE_out {xs : List Xt} {i : Int} (h : chkX xs = 0) (h1 : i < 0 ∨ ((pagesX xs).length : Int) ≤ i) : atE xs i = 10 := by
  unfold atE; rw [if_neg (by rw [h]; decide), if_pos h1]
theorem atE_in {xs : List Xt} {i : Int} (h : chkX xs = 0) (h1 : 0 ≤ i) (h2 : i < (pagesX xs).length) : atE xs i = 0 := by
  unfold atE; rw [if_neg (by rw [h]; decide), if_neg (by omega)]
/-- Where a page stands: its error. -/
def fdE (xs : List Xt) (page : Int) : Int := if chkX xs ≠ 0 then chkX xs else if page ∈ pagesX xs then 0 else 7
theorem fdE_bad {xs : List Xt} {z : Int} (h : chkX xs ≠ 0) : fdE xs z = chkX xs := if_pos h
theorem fdE_in {xs : List Xt} {z : Int} (h : chkX xs = 0) (h1 : z ∈ pagesX xs) : fdE xs z = 0 := by
  unfold fdE; rw [if_neg (by rw [h]; decide), if_pos h1]
theorem fdE_out {xs : List Xt} {z : Int} (h : chkX xs = 0) (h1 : z ∉ pagesX xs) : fdE xs z = 7 := by
  unfold fdE; rw [if_neg (by rw [h]; decide), if_neg h1]
/-- A part of a list: its error, its pages, its extents. -/
def ptE (xs : List Xt) (a b : Int) : Int := if chkX xs ≠ 0 then chkX xs else if a < 0 ∨ ((pagesX xs).length : Int) < b ∨ b < a then 10 else 0
theorem ptE_bad {xs : List Xt} {a b : Int} (h : chkX xs ≠ 0) : ptE xs a b = chkX xs := if_pos h
theorem ptE_out {xs : List Xt} {a b : Int} (h : chkX xs = 0) (h1 : a < 0 ∨ ((pagesX xs).length : Int) < b ∨ b < a) : ptE xs a b = 10 := by
  unfold ptE; rw [if_neg (by rw [h]; decide), if_pos h1]
theorem ptE_in {xs : List Xt} {a b : Int} (h : chkX xs = 0) (h1 : 0 ≤ a) (h2 : b ≤ (pagesX xs).length) (h3 : a ≤ b) : ptE xs a b = 0 := by
  unfold ptE; rw [if_neg (by rw [h]; decide), if_neg (by omega)]
def ptP (xs : List Xt) (a b : Int) : List Int := ((pagesX xs).take b.toNat).drop a.toNat
def ptX (xs : List Xt) (a b : Int) : List Xt := if ptE xs a b = 0 then ofX (ptP xs a b) else []
theorem ptX_good {xs : List Xt} {a b : Int} (h : ptE xs a b = 0) : ptX xs a b = ofX (ptP xs a b) := if_pos h
theorem ptP_len {xs : List Xt} {a b : Int} (h1 : 0 ≤ a) (h2 : b ≤ (pagesX xs).length) (h3 : a ≤ b) : ((ptP xs a b).length : Int) = b - a := by
  unfold ptP
  rw [List.length_drop, List.length_take]
  omega
theorem ptP_mem {xs : List Xt} {a b : Int} {z : Int} (h : z ∈ ptP xs a b) : z ∈ pagesX xs := List.mem_of_mem_take (List.mem_of_mem_drop h)
/-- A part of a right list is right. -/
theorem ptP_ok {xs : List Xt} {a b : Int} (h : chkX xs = 0) : ofE (ptP xs a b) = 0 := by
  have hz := chkX_zero h
  have hc := pages_cnt h
  refine ofE_ok (outP_false.2 fun z hm => pagesX_in (badX_false.1 hz.1) z (ptP_mem hm)) ?_ ?_
  · unfold ptP
    rw [List.length_drop, List.length_take]
    omega
  · exact hz.2.2.1.sublist (.trans (List.drop_sublist _ _) (List.take_sublist _ _))
/-- What stands from lo to hi; of nothing the address is free. -/
theorem siCut {ok : Nat → Prop} {w : World} {a : Option Addr} {zs : List Int} (h : Si ok w a zs) (lo hi : Nat) (a' : Option Addr) (ha : lo < hi → a' = a.map fun x => x.add lo) : Si ok w a' ((zs.take hi).drop lo) := by
  by_cases hlt : lo < hi ∧ lo < zs.length
  · rcases h with rfl | ⟨b, off, rfl, hok, hc⟩
    · simp at hlt
    · refine .inr ⟨b, off + lo, by rw [ha hlt.1]; simp [Addr.add], hok, fun i hi2 => ?_⟩
      simp only [List.length_drop, List.length_take] at hi2
      rw [Nat.add_assoc, hc (lo + i) (by omega), List.getD_eq_getElem?_getD, List.getD_eq_getElem?_getD, List.getElem?_drop, List.getElem?_take, if_pos (by omega)]
  · left
    refine List.drop_eq_nil_of_le ?_
    rw [List.length_take]
    omega
/-- The place of a page among the first k (-1: none). -/
def seekP (zs : List Int) (page : Int) : Nat → Int
  | 0 => -1
  | k + 1 => if zs.getD k 0 = page then (k : Int) else seekP zs page k
theorem seekP_bnd (zs : List Int) (page : Int) : ∀ k : Nat, -1 ≤ seekP zs page k ∧ seekP zs page k < k
  | 0 => by simp [seekP]
  | k + 1 => by
    have := seekP_bnd zs page k
    unfold seekP
    split <;> omega
theorem seekP_out {zs : List Int} {page : Int} : ∀ k : Nat, k ≤ zs.length → page ∉ zs → seekP zs page k = -1
  | 0, _, _ => rfl
  | k + 1, hk, h => by
    unfold seekP
    rw [if_neg (fun e => h (by rw [← e]; exact memGetD (by omega)))]
    exact seekP_out k (by omega) h
theorem seekP_in {zs : List Int} {page : Int} (hn : zs.Nodup) (h : page ∈ zs) : seekP zs page zs.length = (zs.idxOf page : Int) := by
  have hi := List.idxOf_lt_length_iff.2 h
  have hg : zs.getD (zs.idxOf page) 0 = page := by
    rw [List.getD_eq_getElem?_getD, List.getElem?_eq_getElem hi]
    exact List.getElem_idxOf hi
  have : ∀ k, zs.idxOf page < k → k ≤ zs.length → seekP zs page k = (zs.idxOf page : Int) := by
    intro k
    induction k with
    | zero => intro h1; omega
    | succ k ih =>
      intro h1 h2
      unfold seekP
      by_cases e : k = zs.idxOf page
      · rw [e, if_pos hg]
      · rw [if_neg (fun e2 => e (by
          have h3 : zs[k]'(by omega) = zs[zs.idxOf page]'hi := by
            rw [List.getElem_idxOf hi, ← e2, List.getD_eq_getElem?_getD, List.getElem?_eq_getElem (by omega)]; rfl
          exact (List.getElem_inj hn).1 h3))]
        exact ih (by omega) (by omega)
  exact this _ hi (Nat.le_refl _)
end Go.Inc
namespace Go.Proofs.Ytlfpepkgnobjnaa
open Go.RowKit Go.Inc
theorem zSame_eq {ok ok' : Nat → Prop} {a b : Option Addr} (n c d : Nat) (zs : List Int) {w : World} (ha : Si ok w a zs) (hb : Si ok' w b zs) (hn : n = zs.length) (hm : (n : Int) ≤ 9223372036854775807) :
    Calls Try.prog 12 #[.slice a n c, .slice b n d] w fun e w' => e = .returned (.bool true) ∧ Below w.heap.size w w' := by
  subst hn
  refine (refSame_any ok ok' a b c d zs zs w ha hb hm).mono ?_
  rintro e w' ⟨rfl, h2⟩
  exact ⟨by simp, h2⟩
end Go.Proofs.Ytlfpepkgnobjnaa
