/- CONTRACT: the chapter's example. -/
import Derived.Test.YtmdimhijbmeioaaDevQ
namespace Go.Proofs.Ytmdimhijbmeioaa
open Go.RowKit Go.Inc

/-- A page filled up, in new memory. -/
theorem full_sl (ok : Nat → Prop) (a : Option Addr) (c : Nat) (bs : List Nat) (w : World) (hs : Sl ok w a bs) (hl : bs.length ≤ 9223372036854775807) :
    Calls Try.prog 19 #[.slice a bs.length c] w fun e w' => ∃ G, e = .returned (.slice (some ⟨G, 0, none⟩) 256 256) ∧ Sl (fun b => w.heap.size ≤ b) w' (some ⟨G, 0, none⟩) (fill bs) ∧ Below w.heap.size w w' := by
  refine (full_any ok a c bs w hs hl).mono ?_
  rintro e w' ⟨rfl, ho, hb⟩
  have hr : Row 5 w.heap.size w' (.slice (some ⟨w.heap.size, 0, none⟩) 256 256) (fill bs) := by unfold Row; rw [fill_len]; exact ho
  obtain ⟨a', c', he, _, _, _, hsl⟩ := hr.sl
  simp only [Value.slice.injEq] at he
  rw [← he.1] at hsl
  exact ⟨_, rfl, hsl, hb⟩
end Go.Proofs.Ytmdimhijbmeioaa

