/- CONTRACTS: a frame is written to a new device: all that may come of it; what is read then. -/
import Derived.Test.YtmdimhijbmeioaaFrO
namespace Go.Proofs.Ytmdimhijbmeioaa
open Go.RowKit Go.Inc

/-- What Write answers on a device of p pages. -/
def wrE (f : Fr) (p : Nat) : Nat := if chk f = 0 ∧ (p : Int) ≤ f.p then 10 else chk f
/-- What stands in page j then. -/
def wrP (f : Fr) (j : Nat) : List Nat := if chk f = 0 ∧ f.p = (j : Int) then enc f else List.replicate 256 0
theorem pg_zeros (p k : Nat) (h : k < p) : pg (List.replicate (256 * p) 0) k = List.replicate 256 0 := by
  unfold pg
  rw [List.drop_replicate, List.take_replicate]
  congr 1
  omega
theorem rd_fresh (p k : Nat) (h : k < p) : rd (fresh (List.replicate (256 * p) 0)) k = List.replicate 256 0 := by
  unfold rd fresh
  rw [if_pos rfl]
  exact pg_zeros p k h
theorem rd_wrote (p k j : Nat) (bs : List Nat) (h : j < p) : rd (wrote (fresh (List.replicate (256 * p) 0)) k bs) j = if k = j then bs else List.replicate 256 0 := by
  unfold rd wrote fresh addW
  by_cases hkj : k = j
  · subst hkj
    simp
  · have : ¬ ((j : Int) = (k : Int)) := by omega
    simp only [this, if_false, if_true, if_neg hkj]
    exact pg_zeros p j h
def WrAns (C : Nat → Nat) (w : World) (g p : Nat) (f : Fr) (r : Ending) (w' : World) : Prop :=
  r = .returned (.int .i64 (wrE f p : Nat)) ∧ (∃ C' n' S', Dv C' w' g p n' S' ∧ n' ≤ 1 ∧ S'.on = true ∧ S'.r = 0 ∧ (∀ j, j < p → rd S' j = wrP f j) ∧ Ext w C C') ∧ Mv (fun b => C b ≠ 0) w w'
theorem write_all {C : Nat → Nat} {w : World} {g p : Nat} (h : Dv C w g p 0 (fresh (List.replicate (256 * p) 0))) (ok : Nat → Prop) (k e pg : Int) (a : Option Addr) (c : Nat) (bs : List Nat) (hs : Sl ok w a bs) (hby : Bytes bs) (hc : bs.length ≤ c ∧ c ≤ maxLen) (hn : a = none → c = 0) :
    Calls Try.prog 26 #[.pointer (some ⟨g, 0, none⟩), .agg #[.int .i64 k, .int .i64 e, .int .i64 pg, .slice a bs.length c]] w (WrAns C w g p ⟨k, e, pg, bs⟩) := by
  by_cases h0 : chk ⟨k, e, pg, bs⟩ = 0
  · obtain ⟨_, _, _, _, h5, h6, _⟩ := (chk_zero _).1 h0
    dsimp only at h5 h6
    by_cases hp : pg < p
    · obtain ⟨P, rfl⟩ := Int.eq_ofNat_of_zero_le h5
      refine (write_good h ok k e P a c bs hs hby hc hn h0 rfl (by omega) rfl (by decide) (by show (0 : Int) ≤ 1000000; decide)).mono ?_
      rintro r w' ⟨rfl, ⟨C', hd, hx⟩, hm⟩
      refine ⟨?_, ⟨C', _, _, hd, Nat.le_refl _, rfl, rfl, fun j hj => ?_, hx⟩, hm⟩
      · unfold wrE
        rw [if_neg (fun h => by have := h.2; dsimp only at this; omega), h0]
        rfl
      · rw [rd_wrote p P j _ hj]
        unfold wrP
        by_cases hPj : P = j
        · rw [if_pos hPj, if_pos ⟨h0, by dsimp only; omega⟩]
        · rw [if_neg hPj, if_neg (fun h => by have := h.2; dsimp only at this; omega)]
    · refine (write_far h ok k e pg a c bs hs hby hc hn h0 rfl (by omega)).mono ?_
      rintro r w' ⟨rfl, hb⟩
      refine ⟨?_, ⟨C, 0, _, h.below hb, Nat.zero_le _, rfl, rfl, fun j hj => ?_, fun _ _ => rfl⟩, Mv.of_below hb⟩
      · unfold wrE
        rw [if_pos ⟨h0, by dsimp only; omega⟩]
        rfl
      · rw [rd_fresh p j hj]
        unfold wrP
        rw [if_neg (fun h => by have := h.2; dsimp only at this; omega)]
  · refine (write_bad ok k e pg a c bs hs hby hc hn h0).mono ?_
    rintro r w' ⟨rfl, hb⟩
    refine ⟨?_, ⟨C, 0, _, h.below hb, Nat.zero_le _, rfl, rfl, fun j hj => ?_, fun _ _ => rfl⟩, Mv.of_below hb⟩
    · unfold wrE
      rw [if_neg (fun h => h0 h.1)]
    · rw [rd_fresh p j hj]
      unfold wrP
      rw [if_neg (fun h => h0 h.1)]
theorem wrP_bytes {f : Fr} (hb : Bytes f.b) (j : Nat) : Bytes (wrP f j) := by
  unfold wrP
  split
  · exact enc_bytes hb
  · intro x hx; rw [List.mem_replicate] at hx; omega
/-- A page that no frame was written to. -/
theorem opnE_zeros (page : Int) (kinds : List Int) : opnE (List.replicate 256 0) page kinds = 5 := by
  unfold opnE
  rw [decE_zeros, if_pos (by decide)]
end Go.Proofs.Ytmdimhijbmeioaa
