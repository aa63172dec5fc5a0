/- PLAIN: which lists hold the first Ss, told by counting. -/
import Derived.Test.YtdobjlaggdnphaaInP
namespace Go.Inc
open Go.RowKit
theorem perm_of_all {A : List Int} (hA : A.Nodup) : ∀ {B : List Int}, (∀ a ∈ A, a ∈ B) → B.length ≤ A.length → B.Perm A := by
  induction A with
  | nil => intro B _ hl; rw [List.eq_nil_of_length_eq_zero (Nat.le_zero.1 hl)]
  | cons a A ih =>
    intro B hm hl
    obtain ⟨h1, h2⟩ := List.nodup_cons.1 hA
    have hB := hm a (List.mem_cons_self ..)
    refine (List.perm_cons_erase hB).trans (List.Perm.cons a (ih h2 (fun c hc => ?_) ?_))
    · exact (List.mem_erase_of_ne (fun (e : c = a) => h1 (e ▸ hc))).2 (hm c (List.mem_cons_of_mem _ hc))
    · rw [List.length_erase_of_mem hB]; simp only [List.length_cons] at hl; omega
theorem zsN_nodup {l : List Nat} : (zsN l).Nodup ↔ l.Nodup := by
  unfold zsN List.Nodup
  rw [List.pairwise_map]
  constructor <;> intro h <;> refine h.imp ?_ <;> intro a b hab e
  · exact hab (by rw [e])
  · exact hab (by omega)
theorem zsN_mem {l : List Nat} {n : Nat} : (n : Int) ∈ zsN l ↔ n ∈ l := by
  unfold zsN
  rw [List.mem_map]
  constructor
  · rintro ⟨a, h, e⟩
    rw [show n = a by omega]; exact h
  · intro h; exact ⟨n, h, rfl⟩
theorem zsN_back {L : List Int} (h : ∀ z ∈ L, 0 ≤ z) : L = zsN (L.map Int.toNat) := by
  unfold zsN
  rw [List.map_map]
  conv => lhs; rw [← List.map_id L]
  refine List.map_congr_left fun z hz => ?_
  have := h z hz
  show z = ((z.toNat : Nat) : Int)
  omega
theorem isFsI_iff {x L : List Int} : isFsI x L ↔ L.length = (fsT x x.length).length ∧ ∀ i, i < (fsT x x.length).length → L.count (((fsT x x.length).getD i 0 : Nat) : Int) = 1 := by
  have hF : (fsT x x.length).Nodup := fs_nodup x
  constructor
  · rintro ⟨fs, rfl, hn, hm⟩
    have hp : fs.Perm (fsT x x.length) := (List.perm_ext_iff_of_nodup hn hF).2 hm
    refine ⟨by rw [zsN_len]; exact hp.length_eq, fun i hi => ?_⟩
    rw [(zsN_nodup.2 hn).count, if_pos]
    exact zsN_mem.2 ((hm _).2 (getD_inN hi))
  · rintro ⟨hl, hc⟩
    have hp : L.Perm (zsN (fsT x x.length)) := perm_of_all (zsN_nodup.2 hF) (fun a ha => by
      obtain ⟨n, hn, rfl⟩ := List.mem_map.1 ha
      obtain ⟨i, hi, e⟩ := List.getElem_of_mem hn
      have := hc i hi
      rw [List.getD_eq_getElem?_getD, List.getElem?_eq_getElem hi, Option.getD_some, e] at this
      exact List.count_pos_iff.1 (by rw [this]; decide)) (by rw [zsN_len, hl]; exact Nat.le_refl _)
    have h0 : ∀ z ∈ L, 0 ≤ z := fun z hz => by
      obtain ⟨n, _, e⟩ := List.mem_map.1 (hp.mem_iff.1 hz)
      omega
    have hb := zsN_back h0
    refine ⟨L.map Int.toNat, hb, zsN_nodup.1 (by rw [← hb]; exact hp.nodup_iff.2 (zsN_nodup.2 hF)), fun j => ?_⟩
    rw [← zsN_mem, ← hb, hp.mem_iff, zsN_mem]
theorem isFs_perm {x : List Int} {fs : List Nat} (h : fs.Perm (fsT x x.length)) : isFs x fs :=
  ⟨h.nodup_iff.2 (fs_nodup x), fun _ => h.mem_iff⟩
/-- How often z stands among the first m. -/
def cnL (L : List Int) (z : Int) (m : Nat) : Nat := (L.take m).count z
theorem cnL_zero (L : List Int) (z : Int) : cnL L z 0 = 0 := by simp [cnL]
theorem cnL_all (L : List Int) (z : Int) : cnL L z L.length = L.count z := by simp [cnL]
theorem cnL_le (L : List Int) (z : Int) (m : Nat) : cnL L z m ≤ m := by
  unfold cnL
  have h1 := List.count_le_length (a := z) (l := L.take m)
  rw [List.length_take] at h1
  omega
theorem cnL_succ {L : List Int} {z : Int} {m : Nat} (h : m < L.length) : cnL L z (m + 1) = if L.getD m 0 = z then cnL L z m + 1 else cnL L z m := by
  unfold cnL
  rw [List.take_succ_eq_append_getElem h, List.count_append, List.count_singleton, List.getD_eq_getElem?_getD, List.getElem?_eq_getElem h, Option.getD_some]
  by_cases e : L[m] = z
  · simp [e]
  · simp [e]
/-- As many as the first Ss, and each of the first k of them once. -/
def alT (x L : List Int) (k : Nat) : Prop := L.length = (fsT x x.length).length ∧ ∀ i, i < k → L.count (((fsT x x.length).getD i 0 : Nat) : Int) = 1
theorem alT_zero (x L : List Int) : alT x L 0 ↔ L.length = (fsT x x.length).length := ⟨fun h => h.1, fun h => ⟨h, fun i hi => by omega⟩⟩
theorem alT_succ (x L : List Int) (k : Nat) : alT x L (k + 1) ↔ alT x L k ∧ L.count (((fsT x x.length).getD k 0 : Nat) : Int) = 1 := by
  constructor
  · rintro ⟨h1, h2⟩
    exact ⟨⟨h1, fun i hi => h2 i (by omega)⟩, h2 k (by omega)⟩
  · rintro ⟨⟨h1, h2⟩, h3⟩
    refine ⟨h1, fun i hi => ?_⟩
    rcases Nat.lt_or_ge i k with h | h
    · exact h2 i h
    · rw [show i = k by omega]; exact h3
theorem alT_all (x L : List Int) : alT x L (fsT x x.length).length ↔ isFsI x L := isFsI_iff.symm
noncomputable instance (x L : List Int) (k : Nat) : Decidable (alT x L k) := Classical.propDecidable _
noncomputable instance (x L : List Int) : Decidable (isFsI x L) := Classical.propDecidable _
theorem okT_nat {L : List Int} (h : okT L) : ∃ l, L = zsN l := by
  have hp : L.Perm (zsN (List.range L.length)) := perm_of_all (zsN_nodup.2 List.nodup_range) (fun a ha => by
    obtain ⟨n, hn, rfl⟩ := List.mem_map.1 ha
    exact h n (List.mem_range.1 hn)) (by rw [zsN_len, List.length_range]; exact Nat.le_refl _)
  exact ⟨_, zsN_back fun z hz => by
    obtain ⟨n, _, e⟩ := List.mem_map.1 (hp.mem_iff.1 hz)
    omega⟩
end Go.Inc
