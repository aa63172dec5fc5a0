/- WHAT A CRASH KEEPS, PAGE BY PAGE. -/
import Derived.Test.YtgppmnaidgkboaaDevR
namespace Go.Proofs.Ytgppmnaidgkboaa
open Go.RowKit Go.Inc

/-- What is laid of a page behind a crash that keeps N versions of it, and a part of the next one. -/
def keptPg (q : List Nat) (vs : List (List Nat)) (N part : Int) : List Nat :=
  let k := keptN vs.length N
  let q1 := if 0 < k then vs.getD (k - 1) [] else q
  if k < vs.length then (vs.getD k []).take (max 0 (min part 256)).toNat ++ q1.drop (max 0 (min part 256)).toNat else q1
theorem keptPg_nil (q : List Nat) (N part : Int) : keptPg q [] N part = q := by
  unfold keptPg
  simp [keptN_zero]
theorem splice_len {L cs : List Nat} {o : Nat} (h : o + cs.length ≤ L.length) : (splice L o cs).length = L.length := length_splice L o cs h
theorem mem_getD {vs : List (List Nat)} {i : Nat} (h : i < vs.length) : vs.getD i [] ∈ vs := by
  rw [List.getD_eq_getElem?_getD, List.getElem?_eq_getElem h]
  exact List.getElem_mem h
theorem keptB_len {B : List Nat} {p x : Nat} {vs : List (List Nat)} {N part : Int} (hB : B.length = 256 * p) (hx : vs ≠ [] → x < p) (hv : ∀ b ∈ vs, b.length = 256) : (keptB B x vs N part).length = 256 * p := by
  by_cases h0 : vs = []
  · subst h0; rw [keptB_nil]; exact hB
  · have hxp := hx h0
    have hle := keptN_le vs.length N
    have hpos := List.length_pos_iff.2 h0
    unfold keptB
    simp only
    have h1 : (if 0 < keptN vs.length N then splice B (256 * x) (vs.getD (keptN vs.length N - 1) []) else B).length = 256 * p := by
      split
      · have := hv _ (mem_getD (vs := vs) (i := keptN vs.length N - 1) (by omega))
        rw [splice_len (by omega)]; exact hB
      · exact hB
    split
    · have := hv _ (mem_getD (vs := vs) (i := keptN vs.length N) (by omega))
      rw [splice_len (by rw [List.length_take]; omega)]; exact h1
    · exact h1
theorem pg_keptB {B : List Nat} {p x k : Nat} {vs : List (List Nat)} {N part : Int} (hB : B.length = 256 * p) (hx : vs ≠ [] → x < p) (hv : ∀ b ∈ vs, b.length = 256) :
    pg (keptB B x vs N part) k = if k = x then keptPg (pg B x) vs N part else pg B k := by
  by_cases h0 : vs = []
  · subst h0
    rw [keptB_nil, keptPg_nil]
    split
    · rename_i h; rw [h]
    · rfl
  · have hxp := hx h0
    have hle := keptN_le vs.length N
    have hpos := List.length_pos_iff.2 h0
    unfold keptB keptPg
    simp only
    generalize hk : keptN vs.length N = m at *
    have hq : ∀ i, i < vs.length → (vs.getD i []).length = 256 := fun i hi => hv _ (mem_getD hi)
    generalize hpt : (max 0 (min part 256)).toNat = pt
    have hpt2 : pt ≤ 256 := by omega
    have hB1 : (if 0 < m then splice B (256 * x) (vs.getD (m - 1) []) else B).length = 256 * p ∧ ∀ j, pg (if 0 < m then splice B (256 * x) (vs.getD (m - 1) []) else B) j = if j = x then (if 0 < m then vs.getD (m - 1) [] else pg B x) else pg B j := by
      split
      · have := hq (m - 1) (by omega)
        refine ⟨by rw [splice_len (by omega)]; exact hB, fun j => ?_⟩
        split
        · rename_i hj; rw [hj, pg_splice_whole (by omega) this]
        · rename_i hj; rw [pg_splice_other (by omega) (by omega) hj]
      · refine ⟨hB, fun j => ?_⟩
        split
        · rename_i hj; rw [hj]
        · rfl
    obtain ⟨hl, hj⟩ := hB1
    by_cases hm : m < vs.length
    · rw [if_pos hm, if_pos hm]
      have h256 := hq m hm
      have htl : ((vs.getD m []).take pt).length = pt := by rw [List.length_take]; omega
      by_cases hkx : k = x
      · rw [if_pos hkx, hkx, pg_splice_same (by omega) (by omega), htl, hj x, if_pos rfl]
      · rw [if_neg hkx, pg_splice_other (by omega) (by omega) hkx, hj k, if_neg hkx]
    · rw [if_neg hm, if_neg hm, hj k]

/-- What a crash's state must be. -/
structure Sound (p : Nat) (s : (Int → List (List Nat)) × List Nat × Nat) : Prop where
  len : s.2.1.length = 256 * p
  dom : ∀ x, s.1 x ≠ [] → 0 ≤ x ∧ x < (p : Int)
  wl : ∀ x b, b ∈ s.1 x → b.length = 256
theorem Sound.step {p : Nat} {s : (Int → List (List Nat)) × List Nat × Nat} (h : Sound p s) (q : Kp) : Sound p (crash1 s q) := by
  refine ⟨keptB_len h.len (fun hne => by have := h.dom _ hne; omega) (h.wl _), fun x hx => ?_, fun x b hb => ?_⟩
  · unfold crash1 at hx
    simp only at hx
    split at hx
    · exact absurd rfl hx
    · exact h.dom x hx
  · unfold crash1 at hb
    simp only at hb
    split at hb
    · cases hb
    · exact h.wl x b hb
/-- The first keep of a page. -/
def first (ks : List Kp) (k : Nat) : Option Kp := ks.find? fun q => q.page = (k : Int)
def pgOf (s : (Int → List (List Nat)) × List Nat × Nat) (ks : List Kp) (k : Nat) : List Nat := match first ks k with
  | some q => keptPg (pg s.2.1 k) (s.1 k) q.N q.part
  | none => pg s.2.1 k
def cntOf (s : (Int → List (List Nat)) × List Nat × Nat) (ks : List Kp) (k : Nat) : Nat := match first ks k with
  | some q => keptN (s.1 k).length q.N
  | none => 0
theorem crash_pages {p : Nat} : ∀ (ks : List Kp) (s : (Int → List (List Nat)) × List Nat × Nat), Sound p s →
    (ks.foldl crash1 s).2.1.length = 256 * p ∧ (∀ k, k < p → pg (ks.foldl crash1 s).2.1 k = pgOf s ks k) ∧ (ks.foldl crash1 s).2.2 = s.2.2 + tot (cntOf s ks) p
  | [], s, h => ⟨h.len, fun k _ => rfl, by
      show s.2.2 = s.2.2 + tot (cntOf s []) p
      rw [tot_zero (F := cntOf s []) fun i _ => rfl]; rfl⟩
  | q :: r, s, h => by
    obtain ⟨h1, h2, h3⟩ := crash_pages r (crash1 s q) (h.step q)
    refine ⟨h1, fun k hk => ?_, ?_⟩
    · show pg (r.foldl crash1 (crash1 s q)).2.1 k = _
      rw [h2 k hk]
      unfold pgOf first
      rw [List.find?_cons]
      by_cases hq : q.page = (k : Int)
      · have hW : (crash1 s q).1 k = [] := by unfold crash1; simp [hq]
        have hP : pg (crash1 s q).2.1 k = keptPg (pg s.2.1 k) (s.1 k) q.N q.part := by
          unfold crash1
          simp only [hq]
          rw [pg_keptB h.len (fun hne => by have := h.dom _ hne; omega) (h.wl _)]
          simp
        simp only [hq, decide_true, hW, keptPg_nil, hP]
        split <;> rfl
      · have hW : (crash1 s q).1 k = s.1 k := by
          unfold crash1
          simp only
          rw [if_neg (fun e => hq e.symm)]
        have hP : pg (crash1 s q).2.1 k = pg s.2.1 k := by
          unfold crash1
          simp only
          rw [pg_keptB h.len (fun hne => by have := h.dom _ hne; omega) (h.wl _)]
          by_cases hkx : k = q.page.toNat
          · have hn : s.1 q.page = [] := by
              rcases Decidable.em (s.1 q.page = []) with h0 | h0
              · exact h0
              · have := h.dom _ h0; omega
            rw [if_pos hkx, hn, keptPg_nil, hkx]
          · rw [if_neg hkx]
        simp only [hq, decide_false, hW, hP]
    · show (r.foldl crash1 (crash1 s q)).2.2 = _
      rw [h3]
      have e1 : (crash1 s q).2.2 = s.2.2 + keptN (s.1 q.page).length q.N := rfl
      rw [e1]
      by_cases hin : 0 ≤ q.page ∧ q.page < (p : Int)
      · obtain ⟨i, hi⟩ := Int.eq_ofNat_of_zero_le hin.1
        have hip : i < p := by omega
        have h0 : cntOf (crash1 s q) r i = 0 := by
          unfold cntOf
          have hW : (crash1 s q).1 i = [] := by unfold crash1; simp [hi]
          rw [hW]
          split
          · exact keptN_zero _
          · rfl
        rw [tot_point (F := cntOf (crash1 s q) r) (G := cntOf s (q :: r)) hip (fun j hj => ?_) h0]
        · have e2 : cntOf s (q :: r) i = keptN (s.1 q.page).length q.N := by
            unfold cntOf first
            rw [List.find?_cons]
            simp [hi]
          rw [e2]; omega
        · unfold cntOf first
          rw [List.find?_cons]
          have hq : ¬ q.page = (j : Int) := by omega
          have hW : (crash1 s q).1 j = s.1 j := by unfold crash1; simp only; rw [if_neg (fun e => hq e.symm)]
          simp only [hq, decide_false, hW]
      · have hn : s.1 q.page = [] := by
          rcases Decidable.em (s.1 q.page = []) with h0 | h0
          · exact h0
          · exact absurd (h.dom _ h0) hin
        rw [hn]
        have e2 : tot (cntOf (crash1 s q) r) p = tot (cntOf s (q :: r)) p := tot_congr fun j hj => by
          unfold cntOf first
          rw [List.find?_cons]
          have hq : ¬ q.page = (j : Int) := by omega
          have hW : (crash1 s q).1 j = s.1 j := by unfold crash1; simp only; rw [if_neg (fun e => hq e.symm)]
          simp only [hq, decide_false, hW]
        rw [e2, show ([] : List (List Nat)).length = 0 from rfl, keptN_zero]
        omega
theorem Dv.sound {C w g p n S} (h : Dv C w g p n S) : Sound p (S.W, S.B, 0) := ⟨h.len, fun _ hx => h.dom hx, fun _ _ hb => h.wl hb⟩
theorem crash_pg {C w g p n S} (h : Dv C w g p n S) (ks : List Kp) {k : Nat} (hk : k < p) : pg (crashAll S ks).2.1 k = pgOf (S.W, S.B, 0) ks k := (crash_pages ks _ h.sound).2.1 k hk
theorem crash_cnt {C w g p n S} (h : Dv C w g p n S) (ks : List Kp) : (crashAll S ks).2.2 = tot (cntOf (S.W, S.B, 0) ks) p := by
  have := (crash_pages ks _ h.sound).2.2
  rw [Nat.zero_add] at this
  exact this
theorem crash_dry {C w g p n S} (h : Dv C w g p n S) (ks : List Kp) {k : Nat} (hk : k < p) (hW : S.W k = []) : pg (crashAll S ks).2.1 k = pg S.B k := by
  rw [crash_pg h ks hk]
  unfold pgOf
  split
  · show keptPg (pg S.B k) (S.W k) _ _ = _
    rw [hW, keptPg_nil]
  · rfl
end Go.Proofs.Ytgppmnaidgkboaa
