/- CONTRACTS OF THE DOCUMENT's DEVICE: its image. -/
import Derived.Test.YtgppmnaidgkboaaRefF
namespace Go.Proofs.Ytgppmnaidgkboaa
open Go.RowKit Go.Inc

theorem flat_len {K : Nat → Nat} {w : World} : ∀ {P : List Item}, (∀ q ∈ P, Good K w q) → (P.map Item.b).flatten.length = 256 * P.length
  | [], _ => rfl
  | q :: r, h => by
    have h1 := (h q List.mem_cons_self).2.1
    have h2 := flat_len (P := r) fun x hx => h x (List.mem_cons_of_mem _ hx)
    simp only [List.map_cons, List.flatten_cons, List.length_append, List.length_cons, h1, h2]
    omega
/-- The image of the first pages. -/
def imgTo (P : List Item) (j : Nat) : List Nat := ((P.take j).map Item.b).flatten
theorem imgTo_snoc {P : List Item} {j : Nat} {q : Item} (h : P[j]? = some q) : imgTo P (j + 1) = imgTo P j ++ q.b := by
  obtain ⟨hj, he⟩ := List.getElem?_eq_some_iff.1 h
  unfold imgTo
  rw [List.take_succ_eq_append_getElem hj, he]
  simp
theorem imgTo_len {K : Nat → Nat} {w : World} {P : List Item} (h : ∀ q ∈ P, Good K w q) {j : Nat} (hj : j ≤ P.length) : (imgTo P j).length = 256 * j := by
  unfold imgTo
  rw [flat_len (K := K) (w := w) fun q hq => h q (List.mem_of_mem_take hq), List.length_take]
  omega

theorem rimage_any {K w h ldv llv P L R} (H : RefAt K w h ldv llv P L R) (hp : 0 < P.length) (hpl : P.length ≤ 20) :
    Calls Try.prog 29 #[.pointer (some ⟨h, 0, none⟩)] w fun e w' => ∃ v, e = .returned v ∧ Row 5 w.heap.size w' v R.P.flatten ∧ Below w.heap.size w w' := by
  obtain ⟨pb, pc, rfl, hpc, hpm, hKp, _⟩ := H.pshape hp
  have HH := hid H
  have HP := hid hp
  have hpl' : (P.length : Int) ≤ 20 := by omega
  obtain ⟨p, hpP⟩ : ∃ p, p = P.length := ⟨_, rfl⟩
  have HPP := hid hpP
  rw [← hpP] at hpc hpl hpl' HH
  clear H hp hpm hKp hpP
  go_enter Try.func29, Try.ntmps29
  go_wp2_with fail
  go_loopw [3, 4] (fun v i wr => ∃ j : Nat, j ≤ p ∧ i = .int .i64 (j : Int) ∧ Row 5 w.heap.size wr v (imgTo P j) ∧ Below w.heap.size w wr) (fun _ i _ => p - (intOf i).toNat)
  case atStart => exact ⟨0, Nat.zero_le _, rfl, Row.nil _ _ _, Below.refl _ _⟩
  case round =>
    obtain ⟨j, hj, rfl, hr, hb⟩ := hrel
    have HR := hid hr
    have HB := hid hb
    have HK := hid (HH.out.keep (Mv.of_below (F := fun _ => False) hb) fun _ h => h.elim)
    have c0 := HK.out.row.c0
    clear hr hb
    by_cases hlt : (j : Int) < p
    · obtain ⟨q, hq⟩ : ∃ q, P[j]? = some q := ⟨_, List.getElem?_eq_getElem (by rw [← HPP.out]; omega)⟩
      obtain ⟨pb', pc', hpe', -, -, -, hpcell⟩ := HK.out.pshape HP.out
      simp only [Value.slice.injEq, Option.some.injEq, Addr.mk.injEq, and_true] at hpe'
      have hpe1 := hpe'.1
      clear hpe'
      subst hpe1
      have hold := hpcell j q hq
      have hgood := HK.out.pall q (List.mem_of_getElem? hq)
      have hj0 : (0 : Int) ≤ j := by omega
      have hsn := hid (imgTo_snoc hq)
      have hlen := hid (imgTo_len (K := K) (w := wr) HK.out.pall (j := j) (by rw [← HPP.out]; exact hj))
      have HG := hid hgood
      clear hq hpcell hgood
      go_wp2_with (refine wpList_append_any rfl (.tmp 14) (.tmp 21) 31 rfl w.heap.size 5 (.int .u8 0) 1 Try.underlying31 infoU8 rfl _ _ _ rfl HR.out q.a _ _ (u8s q.b) rfl (by rw [u8s_length]; exact HG.out.2.1) (fun h => absurd (HG.out.1.some_len h) (by rw [HG.out.2.1]; decide)) HG.out.1.cells (u8s_one _) (by rw [hlen.out]; unfold maxLen; omega) (by rw [hlen.out]; omega) HB.out.size ?_)
      intro v' w2 hv' hg _
      have hb2 := below_owned HB.out HR.out (Nat.le_refl _) hg
      have HV := hid hv'
      have HB2 := hid hb2
      have HGG := hid hg
      clear hv' hg hb2
      go_wp2_with fail
      go_roundw
      case rel =>
        refine ⟨j + 1, by omega, by go_num, ?_, HB2.out⟩
        have := HV.out
        unfold Row
        rw [hsn.out, List.length_append, HG.out.2.1, u8s_append]
        exact this
      case measure => simp [intOf]; omega
    · have hjp : Hid (j = p) := hid (by omega)
      have hge : (p : Int) ≤ j := by omega
      have hge2 : (j < p) = False := by simp; omega
      clear hlt
      go_wp2_with fail
      go_ret
      refine ⟨_, rfl, ?_, HB.out⟩
      have := HR.out
      have he : imgTo P j = R.P.flatten := by rw [hjp.out, HPP.out, HH.out.pe]; unfold imgTo; rw [List.take_length]
      rw [he] at this
      exact this
end Go.Proofs.Ytgppmnaidgkboaa
