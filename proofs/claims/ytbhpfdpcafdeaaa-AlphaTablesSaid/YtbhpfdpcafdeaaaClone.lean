/- CONTRACT: a copy of bytes. -/
import Derived.Test.YtbhpfdpcafdeaaaRows
import Derived.Test.YtbhpfdpcafdeaaaRow
import Derived.Deep.QuietTactic
import Derived.BigQuiet
namespace Go.Proofs.Ytbhpfdpcafdeaaa
open Go.RowKit Go.Inc

theorem infoU8 : (Try.prog.info? 5).map (fun i => (i.zero, i.size, i.bytes)) = some (some (.int .u8 0), 1, 1) := by kernel_rfl

theorem clone_nil (w : World) : Calls Try.prog 63 #[.slice none 0 0] w fun e w' => e = .returned (.slice none 0 0) ∧ w = w' := by
  have hq := fun w a l c => Go.Lib.run_eql_slice_nil (P := Try.prog) w 49 5 a l c 0 0 Try.underlying49
  go_enter Try.func63, Try.ntmps63
  go_wp2
  go_ret
  exact ⟨rfl, rfl⟩

theorem clone_some (ok : Nat → Prop) (ad : Addr) (c : Nat) (bs : List Nat) (w : World) (hs : Sl ok w (some ad) bs) (hbb : bs.length ≤ 140737488355328) :
    Calls Try.prog 63 #[.slice (some ad) bs.length c] w fun e w' => ∃ v, e = .returned v ∧ w'.ownsRow w.heap.size 5 1 v bs.length (u8s bs) ∧ Below w.heap.size w w' := by
  have HS := hid hs
  clear hs
  have hq := fun w a l c => Go.Lib.run_eql_slice_nil (P := Try.prog) w 49 5 a l c 0 0 Try.underlying49
  go_enter Try.func63, Try.ntmps63
  have hown : Hid ((w.alloc (.cells #[] 5)).ownsRow w.heap.size 5 1 (.slice (some ⟨w.heap.size, 0, none⟩) 0 0) 0 (u8s [])) := hid (World.ownsRow_lit w #[] 0 (Nat.le_refl _) (Nat.zero_le _) rfl)
  have hb1 : Below w.heap.size w (w.alloc (.cells #[] 5)) := (Below.refl _ _).alloc (Nat.le_refl _) _
  have HS1 := hid (HS.out.below hb1)
  have HB1 := hid hb1
  clear hb1 HS
  go_wp2_with (refine wpList_append_any rfl (.tmp 5) (.tmp 6) 49 rfl w.heap.size 5 (.int .u8 0) 1 Try.underlying49 infoU8 rfl _ _ _ rfl hown.out (some ad) _ _ (u8s bs) rfl (u8s_length _) (by intro h; cases h) HS1.out.cells (u8s_one _) (by unfold maxLen; omega) (by omega) (by simp) ?_)
  intro v w2 hv hg _
  have hb2 := below_owned HB1.out hown.out (Nat.le_refl _) hg
  have HV := hid hv
  clear hv hg
  go_wp2_with fail
  go_ret
  refine ⟨_, rfl, ?_, hb2⟩
  have := HV.out
  simpa [u8s] using this

theorem clone_any (ok : Nat → Prop) (a : Option Addr) (c : Nat) (bs : List Nat) (w : World) (hs : Sl ok w a bs) (hbb : bs.length ≤ 140737488355328) (hn : a = none → c = 0) :
    Calls Try.prog 63 #[.slice a bs.length c] w fun e w' => ∃ v, e = .returned v ∧ w'.ownsRow w.heap.size 5 1 v bs.length (u8s bs) ∧ Below w.heap.size w w' := by
  cases a with
  | none =>
    have h0 := hs.some_len rfl
    have hbs : bs = [] := List.eq_nil_of_length_eq_zero h0
    subst hbs
    rw [hn rfl]
    refine (clone_nil w).mono ?_
    rintro e w' ⟨rfl, rfl⟩
    exact ⟨_, rfl, World.ownsRow_nil _ _ _ _, Below.refl _ _⟩
  | some ad => exact clone_some ok ad c bs w hs hbb

end Go.Proofs.Ytbhpfdpcafdeaaa

