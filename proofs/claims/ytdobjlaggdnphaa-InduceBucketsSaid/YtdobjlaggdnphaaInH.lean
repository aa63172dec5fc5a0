/- CONTRACTS (layer 16): the greatest code, a bucket. Rows of places of which some are empty. -/
import Derived.Test.YtdobjlaggdnphaaInG
import Derived.Test.YtdobjlaggdnphaaSfL
import Derived.Lib.MinMax
import Derived.BigRegion
import Derived.Deep.OwnRows
namespace Go.Inc
open Go.RowKit
/-- The greatest code of the first t. -/
def grT (x : List Int) : Nat → Nat
  | 0 => 0
  | t + 1 => max (grT x t) (cdT x t)
theorem grT_le (x : List Int) : ∀ t i, i < t → cdT x i ≤ grT x t
  | 0, i, h => by omega
  | t + 1, i, h => by
    show _ ≤ max (grT x t) (cdT x t)
    by_cases e : i = t
    · subst e; omega
    · have := grT_le x t i (by omega); omega
theorem grT_bd {x : List Int} {b : Nat} (h : ∀ i, i < x.length → cdT x i ≤ b) : ∀ t, t ≤ x.length → grT x t ≤ b
  | 0, _ => Nat.zero_le _
  | t + 1, ht => by
    have h1 := grT_bd h t (by omega)
    have h2 := h t (by omega)
    show max (grT x t) (cdT x t) ≤ b
    omega
theorem ck_cd {x : List Int} (h : ckT x = 0) {i : Nat} (hi : i < x.length) : cdT x i ≤ 65535 := by
  obtain ⟨-, h2, -⟩ := ckT_zero h
  have := h2 _ (in_cell hi)
  unfold cdT; omega
theorem hdC_step (n : Nat) (c : Nat → Nat) (s : Nat) : hdC (n + 1) c s = hdC n c s + (if c n < s then 1 else 0) := by
  unfold hdC
  rw [List.range_succ, List.filter_append, List.length_append]
  by_cases h : c n < s <;> simp [h]
theorem szC_step (n : Nat) (c : Nat → Nat) (s : Nat) : szC (n + 1) c s = szC n c s + (if c n = s then 1 else 0) := by
  unfold szC
  rw [List.range_succ, List.filter_append, List.length_append]
  by_cases h : c n = s <;> simp [h]
/-- A place, or none. -/
def ov : Option Nat → Int
  | none => -1
  | some i => (i : Int)
/-- A row of places, of which some are empty. -/
def ivl (a : Nat → Option Nat) (n : Nat) : List Value := (List.range n).map fun p => Value.int .i64 (ov (a p))
theorem ivl_len (a : Nat → Option Nat) (n : Nat) : (ivl a n).length = n := by simp [ivl]
theorem ivl_get {a : Nat → Option Nat} {n p : Nat} (h : p < n) : (ivl a n)[p]? = some (.int .i64 (ov (a p))) := by
  unfold ivl
  rw [List.getElem?_map, List.getElem?_range h]; rfl
theorem ivl_set (a : Nat → Option Nat) (n p : Nat) (v : Option Nat) : (ivl a n).set p (.int .i64 (ov v)) = ivl (updF a p v) n := by
  apply List.ext_getElem?
  intro i
  rw [List.getElem?_set, ivl_len]
  by_cases hi : i < n
  · rw [ivl_get hi, ivl_get hi]
    by_cases e : p = i
    · subst e; rw [if_pos rfl, if_pos hi, updF_at]
    · rw [if_neg e, updF_ne _ _ (fun h => e h.symm)]
  · have h1 : (ivl a n)[i]? = none := List.getElem?_eq_none (by rw [ivl_len]; omega)
    have h2 : (ivl (updF a p v) n)[i]? = none := List.getElem?_eq_none (by rw [ivl_len]; omega)
    rw [h1, h2]
    by_cases e : p = i
    · subst e; rw [if_pos rfl, if_neg hi]
    · rw [if_neg e]
theorem ivl_congr {a b : Nat → Option Nat} {n : Nat} (h : ∀ p, p < n → a p = b p) : ivl a n = ivl b n := by
  unfold ivl
  apply List.map_congr_left
  intro p hp
  rw [h p (List.mem_range.1 hp)]
/-- A row of counts. -/
def qvl (q : Nat → Nat) (n : Nat) : List Value := nvals ((List.range n).map q)
theorem qvl_len (q : Nat → Nat) (n : Nat) : (qvl q n).length = n := by simp [qvl, nvals]
theorem qvl_get {q : Nat → Nat} {n p : Nat} (h : p < n) : (qvl q n)[p]? = some (.int .i64 ((q p : Nat) : Int)) := by
  unfold qvl nvals
  rw [List.getElem?_map, List.getElem?_map, List.getElem?_range h]; rfl
theorem qvl_set (q : Nat → Nat) (n p v : Nat) : (qvl q n).set p (.int .i64 ((v : Nat) : Int)) = qvl (updF q p v) n := by
  apply List.ext_getElem?
  intro i
  rw [List.getElem?_set, qvl_len]
  by_cases hi : i < n
  · rw [qvl_get hi, qvl_get hi]
    by_cases e : p = i
    · subst e; rw [if_pos rfl, if_pos hi, updF_at]
    · rw [if_neg e, updF_ne _ _ (fun h => e h.symm)]
  · have h1 : (qvl q n)[i]? = none := List.getElem?_eq_none (by rw [qvl_len]; omega)
    have h2 : (qvl (updF q p v) n)[i]? = none := List.getElem?_eq_none (by rw [qvl_len]; omega)
    rw [h1, h2]
    by_cases e : p = i
    · subst e; rw [if_pos rfl, if_neg hi]
    · rw [if_neg e]
theorem zero_cells (n : Nat) : (madeCells #[Value.int .i64 0] n).toList = qvl (fun _ => 0) n := by
  apply List.ext_getElem?
  intro i
  by_cases h : i < n
  · rw [qvl_get h]; simp [madeCells, h, Nat.mod_one]
  · have h2 : (qvl (fun _ => 0) n)[i]? = none := List.getElem?_eq_none (by rw [qvl_len]; omega)
    rw [h2]; simp [madeCells, h]
end Go.Inc
namespace Go.Proofs.Ytdobjlaggdnphaa
open Go.RowKit Go.Inc
set_option maxHeartbeats 1000000 in
theorem refGreatest_any (ok : Nat → Prop) (x : World) (a : Option Addr) (c : Nat) (zs : List Int) (hs : Si ok x a zs) (hi : InT zs) (hl : (zs.length : Int) ≤ 65536) :
    Calls Try.prog 11 #[.slice a zs.length c] x fun e w' => e = .returned (.int .i64 ((grT zs zs.length : Nat) : Int)) ∧ x = w' := by
  have HS := hid hs
  have HI := hid hi
  obtain ⟨n, hn⟩ : ∃ n, n = zs.length := ⟨_, rfl⟩
  have HN := hid hn
  rw [← hn] at hl ⊢
  clear hs hi hn
  go_enter Try.func11, Try.ntmps11
  go_wp2_with fail
  go_loop [3, 4] (fun g i => ∃ t : Nat, t ≤ n ∧ i = .int .i64 (t : Int) ∧ g = .int .i64 ((grT zs t : Nat) : Int)) (fun _ i => n - (intOf i).toNat)
  case atStart => exact ⟨0, Nat.zero_le _, rfl, rfl⟩
  case round =>
    obtain ⟨t, ht, rfl, rfl⟩ := hrel
    by_cases hlt : t < n
    · have hti : (t < n) = True := eq_true hlt
      have HLT := hid hlt
      obtain ⟨b, o, rfl, hc⟩ : ∃ b o, a = some ⟨b, o, none⟩ ∧ x.cell? ⟨b, o + t, none⟩ = some (.int .i64 ((cdT zs t : Nat) : Int)) := by
        rcases HS.out with h | ⟨b, o, h, _, hc⟩
        · have := HN.out; rw [h] at this; simp at this; omega
        · exact ⟨b, o, h, by rw [hc t (by rw [← HN.out]; exact hlt), HI.out.cd (by rw [← HN.out]; exact hlt)]⟩
      obtain ⟨m, hm⟩ : ∃ m, m = grT zs (t + 1) := ⟨_, rfl⟩
      have hmx : max ((grT zs t : Nat) : Int) ((cdT zs t : Nat) : Int) = (m : Int) := by
        rw [hm]; show _ = ((max (grT zs t) (cdT zs t) : Nat) : Int); omega
      have HM := hid hm
      generalize grT zs t = g0 at *
      generalize cdT zs t = y at *
      clear hlt hm
      go_wp2_with fail
      go_round
      case rel => exact ⟨t + 1, HLT.out, by go_num, by rw [HM.out]⟩
      case measure => simp [intOf]; have := HLT.out; omega
    · have hti : (t < n) = False := eq_false hlt
      obtain rfl : t = n := by omega
      clear hlt
      go_wp2_with fail
      go_ret
      exact ⟨rfl, rfl⟩
set_option maxHeartbeats 1000000 in
theorem refBucket_any (ok : Nat → Prop) (x : World) (a : Option Addr) (c : Nat) (zs : List Int) (s : Nat) (hs : Si ok x a zs) (hi : InT zs) (hl : (zs.length : Int) ≤ 65536) :
    Calls Try.prog 12 #[.slice a zs.length c, .int .i64 (s : Int)] x fun e w' => e = .returned (.tuple #[.int .i64 ((hdC zs.length (cdT zs) s : Nat) : Int), .int .i64 ((hdC zs.length (cdT zs) (s + 1) : Nat) : Int)]) ∧ x = w' := by
  have HS := hid hs
  have HI := hid hi
  rw [hdC_succ]
  obtain ⟨n, hn⟩ : ∃ n, n = zs.length := ⟨_, rfl⟩
  have HN := hid hn
  rw [← hn] at hl ⊢
  clear hs hi hn
  go_enter Try.func12, Try.ntmps12
  go_wp2_with fail
  go_loop [6, 7, 8] (fun h m i => ∃ t : Nat, t ≤ n ∧ i = .int .i64 (t : Int) ∧ h = .int .i64 ((hdC t (cdT zs) s : Nat) : Int) ∧ m = .int .i64 ((szC t (cdT zs) s : Nat) : Int)) (fun _ _ i => n - (intOf i).toNat)
  case atStart => exact ⟨0, Nat.zero_le _, rfl, rfl, rfl⟩
  case round =>
    obtain ⟨t, ht, rfl, rfl, rfl⟩ := hrel
    have h8 := hdC_le t (cdT zs) s
    have h9 : hdC t (cdT zs) s + szC t (cdT zs) s ≤ t := by rw [← hdC_succ]; exact hdC_le _ _ _
    by_cases hlt : t < n
    · have hti : (t < n) = True := eq_true hlt
      have HLT := hid hlt
      obtain ⟨b, o, rfl, hc⟩ : ∃ b o, a = some ⟨b, o, none⟩ ∧ x.cell? ⟨b, o + t, none⟩ = some (.int .i64 ((cdT zs t : Nat) : Int)) := by
        rcases HS.out with h | ⟨b, o, h, _, hc⟩
        · have := HN.out; rw [h] at this; simp at this; omega
        · exact ⟨b, o, h, by rw [hc t (by rw [← HN.out]; exact hlt), HI.out.cd (by rw [← HN.out]; exact hlt)]⟩
      have HH := hid (hdC_step t (cdT zs) s)
      have HZ := hid (szC_step t (cdT zs) s)
      generalize hdC t (cdT zs) s = h0 at *
      generalize szC t (cdT zs) s = z0 at *
      generalize cdT zs t = y at *
      have h8b : (h0 : Int) ≤ 65536 := by omega
      have h9b : (z0 : Int) ≤ 65536 := by omega
      rcases Nat.lt_trichotomy y s with h1 | h1 | h1
      · have h1n : (y < s) = True := eq_true h1
        have h1b : ((y : Int) == (s : Int)) = false := by rw [beq_eq_false_iff_ne]; omega
        rw [if_pos h1] at HH
        rw [if_neg (by omega)] at HZ
        clear hlt h1 h8 h9
        go_wp2_with fail
        go_round
        case rel => exact ⟨t + 1, HLT.out, by go_num, by rw [HH.out] <;> go_num, by rw [HZ.out] <;> rfl⟩
        case measure => simp [intOf]; have := HLT.out; omega
      · subst h1
        rw [if_neg (Nat.lt_irrefl _)] at HH
        rw [if_pos rfl] at HZ
        clear hlt h8 h9
        go_wp2_with fail
        go_round
        case rel => exact ⟨t + 1, HLT.out, by go_num, by rw [HH.out] <;> rfl, by rw [HZ.out] <;> go_num⟩
        case measure => simp [intOf]; have := HLT.out; omega
      · have h1n : (y < s) = False := eq_false (by omega)
        have h1b : ((y : Int) == (s : Int)) = false := by rw [beq_eq_false_iff_ne]; omega
        rw [if_neg (by omega)] at HH
        rw [if_neg (by omega)] at HZ
        clear hlt h1 h8 h9
        go_wp2_with fail
        go_round
        case rel => exact ⟨t + 1, HLT.out, by go_num, by rw [HH.out] <;> rfl, by rw [HZ.out] <;> rfl⟩
        case measure => simp [intOf]; have := HLT.out; omega
    · have hti : (t < n) = False := eq_false hlt
      obtain rfl : t = n := by omega
      obtain ⟨h0, hh0⟩ : ∃ h0, h0 = hdC t (cdT zs) s := ⟨_, rfl⟩
      obtain ⟨z0, hz0⟩ : ∃ z0, z0 = szC t (cdT zs) s := ⟨_, rfl⟩
      have HH := hid hh0
      have HZ := hid hz0
      rw [← hh0, ← hz0] at h9 ⊢
      have h9b : (h0 : Int) + (z0 : Int) ≤ 65536 := by omega
      clear hlt h8 h9 hh0 hz0
      go_wp2_with fail
      go_ret2
      exact ⟨by rw [← HH.out, ← HZ.out] <;> go_num, rfl⟩
end Go.Proofs.Ytdobjlaggdnphaa
