/- CONTRACTS: numbers added; an array made; a number set. -/
import Derived.Test.YtcgapplblhbdlaaPkD
import Derived.Test.YtcgapplblhbdlaaVarD
namespace Go.Inc
open Go.RowKit
def nI (l : List Nat) : List Int := l.map fun x : Nat => (x : Int)
theorem nI_len (l : List Nat) : (nI l).length = l.length := by simp [nI]
theorem nI_get (l : List Nat) (i : Nat) : (nI l).getD i 0 = ((l.getD i 0 : Nat) : Int) := by
  unfold nI
  simp only [List.getD_eq_getElem?_getD, List.getElem?_map]
  cases l[i]? <;> rfl
theorem lay_set (l ms : List Nat) (i k : Nat) (hi : i < ms.length) (hk : k = ms.length - i) :
    (l ++ (ms.take i ++ List.replicate k 0)).set (l.length + i) (ms.getD i 0) = l ++ (ms.take (i + 1) ++ List.replicate (k - 1) 0) := by
  rw [List.set_append_right _ _ (by omega), Nat.add_sub_cancel_left]
  congr 1
  have h1 : (ms.take i).length = i := by rw [List.length_take]; omega
  rw [List.set_append_right _ _ (by omega), h1, Nat.sub_self]
  obtain ⟨k', rfl⟩ : ∃ k', k = k' + 1 := ⟨k - 1, by omega⟩
  have e : ms.take (i + 1) = ms.take i ++ [ms.getD i 0] := by rw [List.take_succ_eq_append_getElem hi, List.getD_eq_getElem?_getD, List.getElem?_eq_getElem hi]; rfl
  rw [List.replicate_succ, List.set_cons_zero, e, List.append_assoc]
  rfl
end Go.Inc
namespace Go.Proofs.Ytcgapplblhbdlaa
open Go.RowKit Go.Inc

/-- Do all of them fit? -/
def allF (w : Nat) (zs : List Int) : Bool := zs.all (fitsZ w)
theorem allF_nat {w : Nat} {zs : List Int} (h : allF w zs = true) : ∃ ms, zs = nI ms ∧ FitsP w ms := by
  refine ⟨zs.map Int.toNat, ?_, ?_⟩
  · unfold nI
    rw [List.map_map]
    conv => lhs; rw [← List.map_id zs]
    apply List.map_congr_left
    intro z hz
    have := List.all_eq_true.1 h z hz
    unfold fitsZ at this
    rw [decide_eq_true_iff] at this
    simp
    omega
  · intro x hx
    obtain ⟨z, hz, rfl⟩ := List.mem_map.1 hx
    have := List.all_eq_true.1 h z hz
    unfold fitsZ at this
    rw [decide_eq_true_iff] at this
    omega
theorem allF_of {w : Nat} {ms : List Nat} (h : FitsP w ms) : allF w (nI ms) = true := by
  unfold allF nI
  rw [List.all_eq_true]
  intro z hz
  obtain ⟨x, hx, rfl⟩ := List.mem_map.1 hz
  have := h x hx
  unfold fitsZ
  rw [decide_eq_true_iff]
  omega
/-- One of them does not fit. -/
def anyBad (w : Nat) (zs : List Int) : Bool := zs.any fun z => !fitsZ w z
theorem anyBad_is (w : Nat) (zs : List Int) : anyBad w zs = !allF w zs := by
  unfold anyBad allF
  rw [← Bool.not_eq_not, Bool.not_not]
  simp [List.all_eq_not_any_not]
theorem anyBad_snoc {w : Nat} {zs : List Int} {k : Nat} (h : k < zs.length) : anyBad w (zs.take (k + 1)) = (anyBad w (zs.take k) || !fitsZ w (zs.getD k 0)) := by
  unfold anyBad
  rw [List.take_succ_eq_append_getElem h, List.getD_eq_getElem?_getD, List.getElem?_eq_getElem h]
  simp only [List.any_append, List.any_cons, List.any_nil, Bool.or_false, Option.getD_some]
theorem anyBad_mono {w : Nat} {zs : List Int} {k : Nat} (h : anyBad w (zs.take k) = true) : anyBad w zs = true := by
  unfold anyBad at *
  rw [List.any_eq_true] at *
  obtain ⟨x, hx, h2⟩ := h
  exact ⟨x, List.mem_of_mem_take hx, h2⟩
def IdxB (w : Nat) (zs : List Int) (x : World) (e : Ending) (w' : World) : Prop := ∃ r : Int, e = .returned (.int .i64 r) ∧ decide (0 ≤ r) = anyBad w zs ∧ x = w'

/-- What the look for a number that does not fit asks of each. -/
theorem pkBad_any (x : World) (bx b w : Nat) (z : Int) (hb : x.cell? ⟨bx, 0, none⟩ = some (.pointer (some ⟨b, 0, none⟩))) (hc : x.cell? ⟨b, 0, none⟩ = some (.int .i64 (w : Int))) (h1 : 1 ≤ w) (h2 : w ≤ 31) :
    Calls Try.prog 34 #[.int .i64 z, .pointer (some ⟨bx, 0, none⟩)] x fun e w' => e = .returned (.bool (!fitsZ w z)) ∧ x = w' := by
  have H := hid (pkFits_any x b w z hc h1 h2)
  clear hc h1 h2
  go_enter Try.func34, Try.ntmps34
  go_wp2_with fail
  refine H.out.mono ?_
  rintro e w1 ⟨rfl, rfl⟩
  go_wp2_with fail
  go_ret
  exact ⟨rfl, rfl⟩
set_option maxHeartbeats 1000000 in
theorem indexB_some (b off c : Nat) (zs : List Int) (x : World) (w bx : Nat) (hc : ∀ i, i < zs.length → x.cell? ⟨b, off + i, none⟩ = some (.int .i64 (zs.getD i 0))) (hl : zs.length ≤ 9223372036854775807)
    (hf : ∀ z, Calls Try.prog 34 #[.int .i64 z, .pointer (some ⟨bx, 0, none⟩)] x fun e w' => e = .returned (.bool (!fitsZ w z)) ∧ x = w') :
    Calls Try.prog 45 #[.slice (some ⟨b, off, none⟩) zs.length c, .func (Fn.func 34) #[] #[.pointer (some ⟨bx, 0, none⟩)]] x (IdxB w zs x) := by
  have HC := hid hc
  have HF := hid hf
  have hl' : (zs.length : Int) ≤ 9223372036854775807 := by omega
  clear hc hl hf
  go_enter Try.func45, Try.ntmps45
  go_wp2_with fail
  go_loop [8] (fun i => ∃ k : Nat, k ≤ zs.length ∧ i = .int .i64 (k : Int) ∧ anyBad w (zs.take k) = false) (fun i => zs.length - (intOf i).toNat)
  case atStart => exact ⟨0, Nat.zero_le _, rfl, rfl⟩
  case round =>
    obtain ⟨k, hk, rfl, hn⟩ := hrel
    have HN := hid hn
    clear hn
    by_cases hlt : (k : Int) < zs.length
    · have hcell := HC.out k (by omega)
      have hs := hid (anyBad_snoc (w := w) (zs := zs) (k := k) (by omega))
      have hm := hid (anyBad_mono (w := w) (zs := zs) (k := k + 1))
      generalize zs.getD k 0 = z at *
      have HZ := hid (HF.out z)
      cases hz : fitsZ w z with
      | false =>
        rw [hz] at HZ
        go_wp2_with fail
        refine HZ.out.mono ?_
        rintro e w' ⟨rfl, rfl⟩
        go_wp2_with fail
        go_ret
        refine ⟨_, rfl, ?_, rfl⟩
        rw [hm.out (by rw [hs.out, hz]; simp)]
        simp
      | true =>
        rw [hz] at HZ
        go_wp2_with fail
        refine HZ.out.mono ?_
        rintro e w' ⟨rfl, rfl⟩
        go_wp2_with fail
        go_round
        case rel => exact ⟨k + 1, by omega, by go_num, by rw [hs.out, HN.out, hz]; rfl⟩
        case measure => simp [intOf]; omega
    · have hlt' : (zs.length : Int) ≤ k := by omega
      clear hlt
      go_wp2_with fail
      go_ret
      refine ⟨-1, rfl, ?_, rfl⟩
      have := HN.out
      rw [List.take_of_length_le (by omega)] at this
      rw [this]; decide
theorem containsB_any (ok : Nat → Prop) (a : Option Addr) (c : Nat) (zs : List Int) (x : World) (w bx : Nat) (hs : Si ok x a zs) (hl : zs.length ≤ 9223372036854775807)
    (hf : ∀ z, Calls Try.prog 34 #[.int .i64 z, .pointer (some ⟨bx, 0, none⟩)] x fun e w' => e = .returned (.bool (!fitsZ w z)) ∧ x = w') :
    Calls Try.prog 33 #[.slice a zs.length c, .func (Fn.func 34) #[] #[.pointer (some ⟨bx, 0, none⟩)]] x fun e w' => e = .returned (.bool (!allF w zs)) ∧ x = w' := by
  have H : Hid (Calls Try.prog 45 #[.slice a zs.length c, .func (Fn.func 34) #[] #[.pointer (some ⟨bx, 0, none⟩)]] x (IdxB w zs x)) := hid (by
    rcases hs with rfl | ⟨b, off, rfl, _, hc⟩
    · refine (index_none a c x _).mono ?_
      rintro e w' ⟨r, h1, h2, h3⟩
      exact ⟨r, h1, h2, h3⟩
    · exact indexB_some b off c zs x w bx hc hl hf)
  rw [← anyBad_is]
  clear hs hl hf
  go_enter Try.func33, Try.ntmps33
  go_wp2_with fail
  refine H.out.mono ?_
  rintro e w' ⟨r, rfl, hr, rfl⟩
  have HR := hid hr
  clear hr
  go_wp2_with fail
  go_ret
  exact ⟨ret_bool HR.out, rfl⟩

/-- None is added, if one of them does not fit. -/
theorem pkAdd_bad (ok : Nat → Prop) (x : World) (b B : Nat) (v : Value) (w : Nat) (l W : List Nat) (a : Option Addr) (c : Nat) (zs : List Int) (h : PkAt x b v w l W B) (hs : Si ok x a zs) (hl : zs.length ≤ 9223372036854775807) (hbad : allF w zs = false) :
    Calls Try.prog 13 #[.pointer (some ⟨b, 0, none⟩), .slice a zs.length c] x fun e w' => e = .returned (.int .i64 10) ∧ Below x.heap.size x w' := by
  have hb1 : Below x.heap.size x (x.alloc (.cells #[.pointer (some ⟨b, 0, none⟩)] 24)) := (Below.refl _ _).alloc (Nat.le_refl _) _
  have hbx := heap_alloc_new x (.cells #[.pointer (some ⟨b, 0, none⟩)] 24)
  have HC := hid (containsB_any ok a c zs (x.alloc (.cells #[.pointer (some ⟨b, 0, none⟩)] 24)) w x.heap.size (hs.below hb1) hl (fun z => pkBad_any _ x.heap.size b w z (by rw [cell_of_row _ _ _ _ _ _ hbx]; rfl) (h.below hb1).raw.c0 h.w1 h.w2))
  rw [hbad] at HC
  have HB := hid hb1
  have hl' : (zs.length : Int) ≤ 9223372036854775807 := by omega
  clear h hs hl hbad hb1 hbx
  go_enter Try.func13, Try.ntmps13
  go_wp2_with fail
  refine HC.out.mono ?_
  rintro e w1 ⟨rfl, rfl⟩
  go_wp2_with fail
  go_ret
  exact ⟨rfl, HB.out⟩
theorem pkAdd_nil (x : World) (s : Value) : Calls Try.prog 13 #[.pointer none, s] x fun e w' => e = .returned (.int .i64 11) ∧ Below x.heap.size x w' := by
  have HB : Hid (Below x.heap.size x (x.alloc (.cells #[.pointer none] 24))) := hid ((Below.refl _ _).alloc (Nat.le_refl _) _)
  go_enter Try.func13, Try.ntmps13
  go_wp2_with fail
  go_ret
  exact ⟨rfl, HB.out⟩
end Go.Proofs.Ytcgapplblhbdlaa
