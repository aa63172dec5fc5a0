/- CONTRACTS: is one of the numbers below 0; the numbers' bytes; a number's size. -/
import Derived.Test.YtbhpfdpcafdeaaaVarC
import Derived.Test.YtbhpfdpcafdeaaaVarSize
import Derived.Lib.MinMax
namespace Go.Proofs.Ytbhpfdpcafdeaaa
open Go.RowKit Go.Inc

/-- One of them is below 0. -/
def anyNeg (zs : List Int) : Bool := zs.any fun z => decide (z < 0)
def Idx (zs : List Int) (w : World) (e : Ending) (w' : World) : Prop := ∃ r : Int, e = .returned (.int .i64 r) ∧ decide (0 ≤ r) = anyNeg zs ∧ w = w'

theorem index_none (a : Option Addr) (c : Nat) (w : World) (F : Value) : Calls Try.prog 57 #[.slice a 0 c, F] w (Idx [] w) := by
  go_enter Try.func57, Try.ntmps57
  go_wp2_with fail
  go_loop [8] (fun i => i = .int .i64 0) (fun _ => 0)
  case atStart => rfl
  case round =>
    subst hrel
    go_wp2_with fail
    go_ret
    exact ⟨-1, rfl, by decide, rfl⟩
theorem anyNeg_snoc {zs : List Int} {k : Nat} (h : k < zs.length) : anyNeg (zs.take (k + 1)) = (anyNeg (zs.take k) || decide (zs.getD k 0 < 0)) := by
  unfold anyNeg
  rw [List.take_succ_eq_append_getElem h, List.getD_eq_getElem?_getD, List.getElem?_eq_getElem h]
  simp only [List.any_append, List.any_cons, List.any_nil, Bool.or_false, Option.getD_some]
theorem anyNeg_mono {zs : List Int} {k : Nat} (h : anyNeg (zs.take k) = true) : anyNeg zs = true := by
  unfold anyNeg at *
  rw [List.any_eq_true] at *
  obtain ⟨x, hx, h2⟩ := h
  exact ⟨x, List.mem_of_mem_take hx, h2⟩
set_option maxHeartbeats 1000000 in
theorem index_some (b off c : Nat) (zs : List Int) (w : World) (hc : ∀ i, i < zs.length → w.cell? ⟨b, off + i, none⟩ = some (.int .i64 (zs.getD i 0))) (hl : zs.length ≤ 9223372036854775807) :
    Calls Try.prog 57 #[.slice (some ⟨b, off, none⟩) zs.length c, .func (Fn.func 58) #[] #[]] w (Idx zs w) := by
  have HC := hid hc
  have hl' : (zs.length : Int) ≤ 9223372036854775807 := by omega
  clear hc hl
  go_enter Try.func57, Try.ntmps57
  go_wp2_with fail
  go_loop [8] (fun i => ∃ k : Nat, k ≤ zs.length ∧ i = .int .i64 (k : Int) ∧ anyNeg (zs.take k) = false) (fun i => zs.length - (intOf i).toNat)
  case atStart => exact ⟨0, Nat.zero_le _, rfl, rfl⟩
  case round =>
    obtain ⟨k, hk, rfl, hn⟩ := hrel
    have HN := hid hn
    clear hn
    by_cases hlt : (k : Int) < zs.length
    · have hcell := HC.out k (by omega)
      have hs := hid (anyNeg_snoc (zs := zs) (k := k) (by omega))
      have hm := hid (anyNeg_mono (zs := zs) (k := k + 1))
      generalize zs.getD k 0 = z at *
      by_cases hz : z < 0
      · go_wp2_with fail
        refine (below_any _ _).mono ?_
        rintro e w' ⟨rfl, rfl⟩
        go_wp2_with fail
        go_ret
        refine ⟨_, rfl, ?_, rfl⟩
        rw [hm.out (by rw [hs.out]; simp [hz])]
        simp
      · go_wp2_with fail
        refine (below_any _ _).mono ?_
        rintro e w' ⟨rfl, rfl⟩
        go_wp2_with fail
        go_round
        case rel => exact ⟨k + 1, by omega, by go_num, by rw [hs.out, HN.out]; simp [hz]⟩
        case measure => simp [intOf]; omega
    · have hlt' : (zs.length : Int) ≤ k := by omega
      clear hlt
      go_wp2_with fail
      go_ret
      refine ⟨-1, rfl, ?_, rfl⟩
      have := HN.out
      rw [List.take_of_length_le (by omega)] at this
      rw [this]; decide
theorem index_any (ok : Nat → Prop) (a : Option Addr) (c : Nat) (zs : List Int) (w : World) (hs : Si ok w a zs) (hl : zs.length ≤ 9223372036854775807) :
    Calls Try.prog 57 #[.slice a zs.length c, .func (Fn.func 58) #[] #[]] w (Idx zs w) := by
  rcases hs with rfl | ⟨b, off, rfl, _, hc⟩
  · exact index_none a c w _
  · exact index_some b off c zs w hc hl
theorem contains_any (ok : Nat → Prop) (a : Option Addr) (c : Nat) (zs : List Int) (w : World) (hs : Si ok w a zs) (hl : zs.length ≤ 9223372036854775807) :
    Calls Try.prog 36 #[.slice a zs.length c, .func (Fn.func 58) #[] #[]] w fun e w' => e = .returned (.bool (anyNeg zs)) ∧ w = w' := by
  have H := hid (index_any ok a c zs w hs hl)
  clear hs hl
  go_enter Try.func36, Try.ntmps36
  go_wp2_with fail
  refine H.out.mono ?_
  rintro e w' ⟨r, rfl, hr, rfl⟩
  have HR := hid hr
  clear hr
  go_wp2_with fail
  go_ret
  exact ⟨ret_bool HR.out, rfl⟩

/-- The numbers' bytes, one behind the other. -/
def puts (zs : List Int) : List Nat := (zs.map fun z => Var.put z.toNat).flatten
theorem puts_snoc {zs : List Int} {k : Nat} (h : k < zs.length) : puts (zs.take (k + 1)) = puts (zs.take k) ++ Var.put (zs.getD k 0).toNat := by
  unfold puts
  rw [List.take_succ_eq_append_getElem h, List.getD_eq_getElem?_getD, List.getElem?_eq_getElem h]
  simp only [List.map_append, List.map_cons, List.map_nil, List.flatten_append, List.flatten_cons, List.flatten_nil, List.append_nil, Option.getD_some]
theorem puts_len (zs : List Int) (h : ∀ z ∈ zs, z ≤ 9223372036854775807) : (puts zs).length ≤ 10 * zs.length := by
  induction zs with
  | nil => simp [puts]
  | cons z zs ih =>
    have h1 := ih (fun x hx => h x (List.mem_cons_of_mem _ hx))
    have h2 := Var.put_ten (n := z.toNat) (by have := h z (by simp); omega)
    simp only [puts, List.map_cons, List.flatten_cons, List.length_append, List.length_cons] at *
    omega
theorem anyNeg_get {zs : List Int} (h : anyNeg zs = false) {k : Nat} (hk : k < zs.length) : 0 ≤ zs.getD k 0 := by
  unfold anyNeg at h
  rw [List.any_eq_false] at h
  rw [List.getD_eq_getElem?_getD, List.getElem?_eq_getElem hk]
  have := h _ (List.getElem_mem hk)
  simpa using this
end Go.Proofs.Ytbhpfdpcafdeaaa

