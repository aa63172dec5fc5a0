/- THE LAW BitmapNil: the walk. -/
import Derived.Test.YtjgnnofpilmgoaaDoorBmLaid
namespace Go.Proofs.YtjgnnofpilmgoaaDoor
open Go.RowKit Go.Inc

theorem copy_post_nil {B : Nat} {v x : Value} {w : World} {m : List Bool} (hm : m.length = 0) (h : CopyPost B v m w x) : x = .pointer none := by
  rcases h with ⟨_, _, h⟩ | ⟨b, g, c, W, _, _, _, h, _⟩
  · exact h
  · have := h.s1; omega
theorem copy_post_some {B : Nat} {v x : Value} {w : World} {m : List Bool} (hm : 0 < m.length) (h : CopyPost B v m w x) : NewSet B w x m := by
  rcases h with ⟨_, h, _⟩ | h
  · rw [h] at hm; simp at hm
  · exact h
theorem si_one (w : World) (z : Int) (T : TypeId) : Si (fun b => b = w.heap.size) (w.alloc (.cells #[.int .i64 z] T)) (some ⟨w.heap.size, 0, none⟩) [z] :=
  .inr ⟨_, _, rfl, rfl, fun i hi => by
    have h0 : i = 0 := by simp at hi; omega
    subst h0
    rw [cell_of_row _ w.heap.size _ _ _ _ (heap_alloc_new w _)]; rfl⟩
theorem bms_one {ok : Nat → Prop} {w : World} {v : Value} {m : List Bool} (h : Bm ok w v m) (T : TypeId) : BmS (fun _ => True) (w.alloc (.cells #[v] T)) (some ⟨w.heap.size, 0, none⟩) 1 (fun _ => m) := fun i hi => by
  have h0 : i = 0 := by omega
  subst h0
  exact ⟨_, 0, v, rfl, trivial, by rw [cell_of_row _ w.heap.size _ _ _ _ (heap_alloc_new w _)]; rfl, (h.below ((Below.refl _ _).alloc (Nat.le_refl _) _)).mono fun _ _ _ => trivial⟩
theorem alloc_below (w : World) (o : Obj) : Below w.heap.size w (w.alloc o) := (Below.refl _ _).alloc (Nat.le_refl _) _
/-- Both chains go on: from the start, and from where the set was made. -/
def Two2 (W w1 z : World) : Prop := Below W.heap.size W z ∧ Below w1.heap.size w1 z
theorem Two2.on {W w1 z z' : World} (h : Two2 W w1 z) (hb : Below z.heap.size z z') : Two2 W w1 z' := ⟨h.1.trans (hb.mono h.1.size), h.2.trans (hb.mono h.2.size)⟩
end Go.Proofs.YtjgnnofpilmgoaaDoor

