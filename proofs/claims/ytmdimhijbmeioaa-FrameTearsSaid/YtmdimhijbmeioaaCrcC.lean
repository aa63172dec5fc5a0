/- CONTRACTS: a sum's four bytes, the same bytes, a copy, one behind the other. -/
import Derived.Test.YtmdimhijbmeioaaCrcFew
import Derived.Test.YtmdimhijbmeioaaClone
import Derived.Test.YtmdimhijbmeioaaSame
namespace Go.Proofs.Ytmdimhijbmeioaa
open Go.RowKit Go.Inc

/-- A number's four bytes, the lowest first. -/
def low (n : Nat) : List Nat := [n % 256, n / 256 % 256, n / 65536 % 256, n / 16777216]
theorem low_bytes {n : Nat} (h : n < 4294967296) : Bytes (low n) := by
  intro x hx
  simp only [low, List.mem_cons, List.not_mem_nil, or_false] at hx
  omega
theorem low_inj {m n : Nat} (h : low m = low n) : m = n := by
  simp only [low, List.cons.injEq, and_true] at h
  omega

theorem ending_any (n : Nat) (w : World) (h : n < 4294967296) :
    Calls Try.prog 34 #[.int .u32 (n : Int)] w fun e w' => e = .returned (.agg (u8s (low n)).toArray) ∧ Below w.heap.size w w' := by
  go_enter Try.func34, Try.ntmps34
  go_wp2
  simp [bodyPost, results, Try.results34, go_sem]
  exact ⟨rfl, (Below.refl _ _).alloc (Nat.le_refl _) _⟩

theorem low_any (n : Nat) (w : World) (h : n < 4294967296) :
    Calls Try.prog 32 #[.int .u32 (n : Int)] w fun e w' => e = .returned (.slice (some ⟨w.heap.size, 0, none⟩) 4 4) ∧ Sl (fun b => b = w.heap.size) w' (some ⟨w.heap.size, 0, none⟩) (low n) ∧ Below w.heap.size w w' := by
  go_enter Try.func32, Try.ntmps32
  go_wp2
  go_ret
  exact ⟨rfl, Sl.row (low n) (heap_alloc_new w _), (Below.refl _ _).alloc (Nat.le_refl _) _⟩

theorem grow_zero (w : World) : Calls Try.prog 47 #[.slice none 0 0, .int .i64 0] w fun e w' => e = .returned (.slice none 0 0) ∧ w = w' := by
  go_enter Try.func47, Try.ntmps47
  go_wp2
  go_ret
  exact ⟨rfl, rfl⟩

theorem grow_some (n : Nat) (w : World) (h0 : (0 : Int) < n) (h1 : (n : Int) ≤ 140737488355328) :
    Calls Try.prog 47 #[.slice none 0 0, .int .i64 (n : Int)] w fun e w' => ∃ v, e = .returned v ∧ w'.ownsRow w.heap.size 5 1 v 0 (u8s []) ∧ Below w.heap.size w w' := by
  go_enter Try.func47, Try.ntmps47
  go_wp2_with (refine wpList_append_zeros rfl (.tmp 20) (.tmp 21) 22 3 rfl 5 (.int .u8 0) 1 Try.underlying22 .i64 .i64 Try.underlying3 infoU8 rfl n rfl rfl (by omega) (by unfold maxLen; omega) (by omega) ?_)
  intro w1 cur hrow hnc hm hb
  have HROW := hid hrow
  have hnN : (n : Int) ≤ cur.size := by omega
  go_wp2_with fail
  go_ret
  exact ⟨_, rfl, ⟨rfl, .inr ⟨w.heap.size, cur.size, cur, rfl, Nat.le_refl _, HROW.out, Nat.zero_le _, hm, by rw [Nat.mul_one], rfl⟩⟩, hb⟩

theorem grow_any (n : Nat) (w : World) (h1 : n ≤ 140737488355328) :
    Calls Try.prog 47 #[.slice none 0 0, .int .i64 (n : Int)] w fun e w' => ∃ v, e = .returned v ∧ w'.ownsRow w.heap.size 5 1 v 0 (u8s []) ∧ Below w.heap.size w w' := by
  by_cases h : n = 0
  · subst h
    refine (grow_zero w).mono ?_
    rintro e w' ⟨rfl, rfl⟩
    exact ⟨_, rfl, World.ownsRow_nil _ _ _ _, Below.refl _ _⟩
  · exact grow_some n w (by omega) (by omega)

/-- The first k parts' bytes. -/
def flatTo (ps : List (List Nat)) (k : Nat) : List Nat := (ps.take k).flatten
theorem flatTo_succ {ps : List (List Nat)} {k : Nat} (h : k < ps.length) : flatTo ps (k + 1) = flatTo ps k ++ ps.getD k [] := flat_snoc h
theorem flatTo_le (ps : List (List Nat)) (k : Nat) : (flatTo ps k).length ≤ totC ps := flat_le ps k
theorem flatTo_all (ps : List (List Nat)) : flatTo ps ps.length = ps.flatten := by unfold flatTo; rw [List.take_of_length_le (Nat.le_refl _)]
set_option maxHeartbeats 2000000 in
theorem concat_some (ok : Nat → Prop) (b o cap : Nat) (ps : List (List Nat)) (A : Nat → Option Addr) (C : Nat → Nat) (w : World) (hp : Parts ok w b o ps A C) (hl : (ps.length : Int) ≤ 9223372036854775807) (ht : totC ps ≤ 140737488355328) :
    Calls Try.prog 36 #[.slice (some ⟨b, o, none⟩) ps.length cap] w fun e w' => ∃ v, e = .returned v ∧ w'.ownsRow w.heap.size 5 1 v (totC ps) (u8s ps.flatten) ∧ Below w.heap.size w w' := by
  have HP := hid hp
  clear hp
  go_enter Try.func36, Try.ntmps36
  go_wp2
  go_loop [3, 11] (fun n i => ∃ k : Nat, k ≤ ps.length ∧ i = .int .i64 k ∧ n = .int .i64 (flatTo ps k).length) (fun _ i => ps.length - (intOf i).toNat)
  case atStart => exact ⟨0, Nat.zero_le _, rfl, rfl⟩
  case round =>
    obtain ⟨k, hk, rfl, rfl⟩ := hrel
    have hle := flatTo_le ps k
    by_cases hlt : (k : Int) < ps.length
    · have hcell := HP.out.cell k (by omega)
      have hs : Hid ((flatTo ps (k + 1)).length = (flatTo ps k).length + (ps.getD k []).length) := hid (by rw [flatTo_succ (by omega), List.length_append])
      have hle2 : (flatTo ps k).length + (ps.getD k []).length ≤ 140737488355328 := by
        have := flatTo_le ps (k + 1)
        have := hs.out
        omega
      generalize ps.getD k [] = p at *
      have hz : (0 : Int) ≤ (flatTo ps k).length + p.length := by omega
      have hle3 : ((flatTo ps k).length : Int) + p.length ≤ 140737488355328 := by omega
      go_wp2_with fail
      go_round
      case rel => exact ⟨k + 1, by omega, by go_num, by rw [hs.out]; rfl⟩
      case measure => simp [intOf]; omega
    · have hge : (ps.length : Int) ≤ k := by omega
      have hall : Hid ((flatTo ps k).length = totC ps) := hid (by
        have : k = ps.length := by omega
        rw [this, flatTo_all]; rfl)
      clear hlt
      have H := hid (grow_any (flatTo ps k).length w (by have := hall.out; omega))
      go_wp2_with fail
      refine H.out.mono ?_
      clear H
      rintro e w1 ⟨v, rfl, hown, hb⟩
      have HOWN := hid hown
      clear hown
      go_wp2_with fail
      go_loopw [6, 27] (fun v i wr => ∃ k : Nat, k ≤ ps.length ∧ i = .int .i64 k ∧ wr.ownsRow w.heap.size 5 1 v (flatTo ps k).length (u8s (flatTo ps k)) ∧ Below w.heap.size w wr) (fun _ i _ => ps.length - (intOf i).toNat)
      case atStart => exact ⟨0, Nat.zero_le _, rfl, HOWN.out, hb⟩
      case round =>
        clear hk hle hge hall HOWN hb
        obtain ⟨q, hk, rfl, hown, hbel⟩ := hrel
        have HOWN := hid hown
        clear hown
        by_cases hlt : (q : Int) < ps.length
        · have hcell : wr.cell? ⟨b, o + q, none⟩ = some (.slice (A q) (ps.getD q []).length (C q)) := by
            rw [hbel.cell (cell_lt (HP.out.cell q (by omega)))]; exact HP.out.cell q (by omega)
          have HS := hid ((HP.out.sl q (by omega)).below hbel)
          have hs := hid (flatTo_succ (ps := ps) (k := q) (by omega))
          have hle2 : Hid ((flatTo ps q).length + (ps.getD q []).length ≤ 140737488355328) := hid (by
            have h1 := flatTo_le ps (q + 1)
            rw [hs.out, List.length_append] at h1
            omega)
          have hbz := hid hbel.size
          generalize ps.getD q [] = p at *
          generalize A q = ak at *
          generalize C q = ck at *
          go_wp2_with (refine wpList_append_any rfl (.tmp 31) (.tmp 32) 22 rfl w.heap.size 5 (.int .u8 0) 1 Try.underlying22 infoU8 rfl _ _ _ rfl HOWN.out ak _ _ (u8s p) rfl (u8s_length _) HS.out.some_len HS.out.cells (u8s_one _) (by have := hle2.out; unfold maxLen; omega) (by have := hle2.out; omega) hbz.out ?_)
          intro v2 w2 hv2 hg2 _
          have hb2 := below_owned hbel HOWN.out (Nat.le_refl _) hg2
          have HV2 := hid (owns_step hv2 rfl rfl)
          clear hv2 hg2
          go_wp2_with fail
          go_roundw
          case rel => exact ⟨q + 1, by omega, by go_num, by rw [hs.out]; exact HV2.out, hb2⟩
          case measure => simp [intOf]; omega
        · have hge : (ps.length : Int) ≤ q := by omega
          have hall : Hid (flatTo ps q = ps.flatten) := hid (by
            have : q = ps.length := by omega
            rw [this, flatTo_all])
          clear hlt
          go_wp2_with fail
          go_ret
          exact ⟨_, rfl, by have h := HOWN.out; rw [hall.out] at h; exact h, hbel⟩
end Go.Proofs.Ytmdimhijbmeioaa

