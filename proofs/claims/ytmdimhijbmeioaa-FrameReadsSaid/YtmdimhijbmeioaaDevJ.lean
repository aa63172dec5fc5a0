/- CONTRACTS: writing. -/
import Derived.Test.YtmdimhijbmeioaaDevI
import Derived.Deep.RegionHeld3
namespace Go.Proofs.Ytmdimhijbmeioaa
open Go.RowKit Go.Inc

/-- One version more of a page. -/
def addW (W : Int → List (List Nat)) (k : Nat) (bs : List Nat) : Int → List (List Nat) := fun y => if y = (k : Int) then W y ++ [bs] else W y

theorem DevAt.added {C w1 g L c M f I p n S} (h : DevAt C w1 g L c M f I p n S) {k : Nat} (hk : k < p) {wc w3 : World} {a : Option Addr} {c' : Nat} {bs : List Nat} {v0 v' : Value} (hv0 : (f k).getD (.slice none 0 0) = v0)
    (hb : Below w1.heap.size w1 wc) (hs : Sl (fun b => w1.heap.size ≤ b) wc a bs) (hl : bs.length = 256) (hc : 256 ≤ c' ∧ c' ≤ maxLen) (hM : Mp Try.prog 3 w3 M (n + 1) (put f k v'))
    (hown : w3.ownsRow 0 22 1 v' ((I k).length + 1) ((I k).map Item.val ++ [.slice a 256 c'])) (hat : v'.ownBlock = v0.ownBlock ∨ v'.ownBlock = some wc.heap.size ∨ v'.ownBlock = some (wc.heap.size + 1))
    (hmv : Mv (fun b => b = M ∨ v0.ownBlock = some b) wc w3) :
    ∃ C', DevAt C' w3 g L c M (put f k v') (fun x => if x = (k : Int) then I x ++ [⟨a, c', bs⟩] else I x) p (n + 1) { S with W := addW S.W k bs } ∧ ∀ b, b < w1.heap.size → C' b = C b := by
  have hF0 : ∀ b, v0.ownBlock = some b → C b = 5 + k := by
    intro b hb
    cases hf : f k with
    | none => rw [hf] at hv0; subst hv0; cases hb
    | some v =>
      rw [hf] at hv0
      subst hv0
      exact (h.ver _ _ hf).col b hb
  have hFlt : ∀ b, (b = M ∨ v0.ownBlock = some b) → b < w1.heap.size := by
    rintro b (rfl | hb)
    · exact h.lt _ (by rw [h.cM]; decide)
    · exact h.lt _ (by rw [hF0 b hb]; omega)
  have hFc : ∀ b, C b ≠ 3 → C b ≠ 5 + k → ¬ (b = M ∨ v0.ownBlock = some b) := by
    rintro b h3 h5 (rfl | hb)
    · exact h3 h.cM
    · exact h5 (hF0 b hb)
  have hm : Mv (fun b => b = M ∨ v0.ownBlock = some b) w1 w3 := (Mv.of_below hb).trans' hmv fun _ _ h => h
  have hne : ∀ b, v'.ownBlock = some b → w1.heap.size ≤ b → wc.heap.size ≤ b := by
    intro b hb1 hb2
    rcases hat with h1 | h1 | h1
    · rw [h1] at hb1; have := hFlt b (.inr hb1); omega
    · rw [h1] at hb1; cases hb1; omega
    · rw [h1] at hb1; cases hb1; omega
  obtain ⟨C', hC'⟩ : ∃ C' : Nat → Nat, C' = fun b => if b < w1.heap.size then C b else if v'.ownBlock = some b then 5 + k else if b < wc.heap.size then 4 else 0 := ⟨_, rfl⟩
  have hold : ∀ b, b < w1.heap.size → C' b = C b := fun b hb => by rw [hC']; simp [hb]
  have hkeep : ∀ b, C b ≠ 0 → C' b = C b := fun b hb => hold b (h.lt b hb)
  have hsl : ∀ (a : Option Addr) (bs : List Nat), Sl (fun b => C b = 4) w1 a bs → Sl (fun b => C' b = 4) w3 a bs := fun a bs hs =>
    (hs.mv hm fun b hb => hFc b (by rw [hb]; decide) (by rw [hb]; omega)).mono fun b hb _ => by rw [hkeep b (by rw [hb]; decide)]; exact hb
  refine ⟨C', ⟨hm.row h.row (hFc g (by rw [h.cg]; decide) (by rw [h.cg]; omega)), owns_mv h.laid hm (fun b hb => ?_), hM, fun x v hv => ?_, fun x hx => ?_, fun x v hv => ?_, fun x => ?_, fun x => ?_, (hkeep g (by rw [h.cg]; decide)).trans h.cg, (hkeep L (by rw [h.cL]; decide)).trans h.cL, (hkeep M (by rw [h.cM]; decide)).trans h.cM, fun b hb => ?_, h.pp, h.lb, h.cnt⟩, hold⟩
  · cases hb
    exact hFc L (by rw [h.cL]; decide) (by rw [h.cL]; omega)
  · by_cases hx : x = (k : Int)
    · subst hx
      unfold put at hv
      rw [if_pos rfl] at hv
      cases hv
      simp only [if_true]
      refine ⟨?_, fun R hR => ?_, by simp, fun q hq => ?_⟩
      · simpa [Item.val] using hown
      · by_cases hRl : R < w1.heap.size
        · rw [hold R hRl]
          rcases hat with h1 | h1 | h1
          · rw [h1] at hR; rw [hF0 R hR]; simp
          · rw [h1] at hR; cases hR; have := hb.size; omega
          · rw [h1] at hR; cases hR; have := hb.size; omega
        · rw [hC']; simp [hRl, hR]
      · rcases List.mem_append.1 hq with hq | hq
        · have hne : I k ≠ [] := by intro e; rw [e] at hq; cases hq
          obtain ⟨v1, hv1, hV⟩ := look_some h hne
          obtain ⟨h1, h2⟩ := hV.all q hq
          exact ⟨hsl _ _ h1, h2⟩
        · rw [List.mem_singleton] at hq
          subst hq
          refine ⟨?_, hl, hc⟩
          have hs' : Sl (fun b => w1.heap.size ≤ b ∧ b < wc.heap.size) wc a bs := hs.mono fun b h1 h2 => ⟨h1, h2⟩
          refine (hs'.mv hmv fun b hb hF => ?_).mono fun b hb _ => ?_
          · have := hFlt b hF; omega
          · have h1 : ¬ b < w1.heap.size := by omega
            have h2 : ¬ v'.ownBlock = some b := fun e => by have := hne b e hb.1; omega
            rw [hC']; simp [h1, h2, hb.2]
    · unfold put at hv
      rw [if_neg hx] at hv
      simp only [if_neg hx]
      have hV := h.ver x v hv
      have hd := h.dom x v hv
      refine ⟨owns_mv hV.own hm fun b hb => hFc b (by rw [hV.col b hb]; omega) (by rw [hV.col b hb]; omega), fun R hR => ?_, hV.full, fun q hq => ?_⟩
      · rw [hkeep R (by rw [hV.col R hR]; omega)]; exact hV.col R hR
      · obtain ⟨h1, h2⟩ := hV.all q hq
        exact ⟨hsl _ _ h1, h2⟩
  · by_cases hxk : x = (k : Int)
    · unfold put at hx; rw [if_pos hxk] at hx; cases hx
    · unfold put at hx; rw [if_neg hxk] at hx
      simp only [if_neg hxk]
      exact h.non x hx
  · by_cases hxk : x = (k : Int)
    · subst hxk; omega
    · unfold put at hv; rw [if_neg hxk] at hv
      exact h.dom x v hv
  · have := h.few x
    split <;> simp <;> omega
  · show addW S.W k bs x = _
    unfold addW
    split
    · rw [h.wait x]; simp
    · exact h.wait x
  · rw [hC'] at hb
    simp only at hb
    have := hm.size
    have hws := hmv.size
    split at hb
    · omega
    · split at hb
      · rename_i hvb
        rcases hown.2 with ⟨h0, _⟩ | ⟨R, cap, cur, hv, _, hg, _⟩
        · rw [h0] at hvb; cases hvb
        · rw [hv] at hvb; cases hvb
          exact row_lt hg
      · split at hb
        · omega
        · exact absurd rfl hb
end Go.Proofs.Ytmdimhijbmeioaa

