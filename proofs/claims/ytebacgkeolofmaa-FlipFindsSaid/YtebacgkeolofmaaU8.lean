/- CONTRACTS IN THE LAWS' WORDS: what is put is got; the same bytes; one number put. CONTRACTS: a text at the beginning of any bytes, and the rest. -/
import Derived.Test.YtebacgkeolofmaaU6
import Derived.Test.YtebacgkeolofmaaRows
import Derived.Test.YtebacgkeolofmaaU0
import Derived.Lib.BitFns
import Derived.Lib.Strings
import Derived.Lib.Slices
import Derived.Lib.Small
import Derived.Lib.Walk
import Derived.Lib.MinMax
import Derived.Test.YtebacgkeolofmaaU7
namespace Go.Proofs.Ytebacgkeolofmaa
open Go.RowKit Go.Inc

/-- A slice of bytes, wherever it lies. -/
def Bs (w : World) (v : Value) (bs : List Nat) : Prop := ∃ a c, v = .slice a bs.length c ∧ Sl (fun _ => True) w a bs ∧ bs.length ≤ c ∧ c ≤ maxLen ∧ (a = none → c = 0)
section
variable {w w' : World} {v : Value} {bs : List Nat} {E B : Nat}
theorem held (h : Row E B w v bs) : Bs w v bs := by
  obtain ⟨a, c, rfl, h1, h2, h3, h4⟩ := h.sl
  exact ⟨a, c, rfl, h4.mono fun _ _ _ => trivial, h2, h3, h1⟩
theorem Bs.below (h : Bs w v bs) (hb : Below w.heap.size w w') : Bs w' v bs := by
  obtain ⟨a, c, rfl, h1, h2⟩ := h
  exact ⟨a, c, rfl, h1.below hb, h2⟩
end

end Go.Proofs.Ytebacgkeolofmaa
namespace Go.Proofs.Ytebacgkeolofmaa
open Go.RowKit Go.Inc

theorem Rd.fault {ok : Nat → Prop} {w : World} {g f : Nat} {bs : List Nat} (hr : Rd ok w g bs f) (hg : ∀ b, ok b → b ≠ g) (f' : Nat) : Rd ok (w.setCell ⟨g, 1, none⟩ (.int .i64 (f' : Int))) g bs f' := by
  obtain ⟨a, c, hrow, hs, r⟩ := hr
  exact ⟨a, c, heap_setCell_same w g 1 _ _ _ hrow, hs.grown (grown_setCell (grown_refl _ _) (.inl rfl) _) hg, r⟩
theorem Rd.c1 {ok : Nat → Prop} {w : World} {g f : Nat} {bs : List Nat} (hr : Rd ok w g bs f) : w.cell? ⟨g, 1, none⟩ = some (.int .i64 (f : Int)) ∧ w.frozen? ⟨g, 1, none⟩ = false := by
  obtain ⟨a, c, hrow, _⟩ := hr
  exact ⟨cell_of_row w g 1 _ _ _ hrow, frozen_of_row w g 1 _ _ hrow⟩

theorem whole_yes (ok : Nat → Prop) (g k f : Nat) (bs : List Nat) (w : World) (hr : Rd ok w g bs f) (hg : ∀ b, ok b → b ≠ g) (hk : k ≤ bs.length) :
    Calls Try.prog 90 #[.pointer (some ⟨g, 0, none⟩), .int .i64 (k : Int)] w fun e w' => ∃ a' c', e = .returned (.slice a' k c') ∧ Sl ok w' a' (bs.take k) ∧ (a' = none → c' = 0) ∧ k ≤ c' ∧ c' ≤ maxLen ∧ Rd ok w' g (bs.drop k) f ∧ w.grownBy w' (some g) := by
  have H := hid (take_yes ok g k f bs w hr hg hk _ rfl)
  clear hr hg hk
  go_enter Try.func90, Try.ntmps90
  go_wp2_with fail
  refine H.out.mono ?_
  rintro e w' ⟨a', c', rfl, hs, hn, hk, hm, hr, hg⟩
  have R := hid (And.intro hs (And.intro hn (And.intro hk (And.intro hm (And.intro hr hg)))))
  clear hs hn hk hm hr hg H
  go_wp2_with fail
  go_ret
  exact ⟨_, _, rfl, R.out⟩
theorem whole_no (ok : Nat → Prop) (g f : Nat) (k : Int) (bs : List Nat) (w : World) (hr : Rd ok w g bs f) (hg : ∀ b, ok b → b ≠ g) (hk : (bs.length : Int) < k) :
    Calls Try.prog 90 #[.pointer (some ⟨g, 0, none⟩), .int .i64 k] w fun e w' => e = .returned (.slice none 0 0) ∧ Rd ok w' g bs 4 ∧ w.grownBy w' (some g) := by
  have H := hid (take_no ok g f k bs w hr hk)
  have HR := hid (hr.fault hg 4)
  obtain ⟨c1, fz⟩ := hr.c1
  clear hr hg hk
  go_enter Try.func90, Try.ntmps90
  go_wp2_with fail
  refine H.out.mono ?_
  rintro e w' ⟨rfl, rfl⟩
  clear H
  go_wp2_with fail
  go_ret
  exact ⟨rfl, HR.out, grown_setCell (grown_refl _ _) (.inl rfl) _⟩

end Go.Proofs.Ytebacgkeolofmaa
