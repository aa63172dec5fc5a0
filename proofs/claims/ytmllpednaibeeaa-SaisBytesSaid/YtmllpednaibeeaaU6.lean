/- CONTRACTS: Copy. -/
import Derived.Test.YtmllpednaibeeaaU5
import Derived.Laws.CopyOwn
import Derived.Deep.OwnRows
namespace Go.Inc
open Go.RowKit
end Go.Inc
namespace Go.Proofs.Ytmllpednaibeeaa
open Go.RowKit Go.Inc

def Mk9 (B nw : Nat) (x : World) (v : Value) : Prop := ∃ g2, v = .slice (some ⟨g2, 0, none⟩) nw nw ∧ B ≤ g2 ∧ g2 < x.heap.size ∧ x.ownsRow g2 33 1 (.slice (some ⟨g2, 0, none⟩) nw nw) nw (wvals (List.replicate nw 0))
def Mk10 (B nw size : Nat) (x : World) (v : Value) : Prop := ∃ g2, v = .agg #[.int .i64 (size : Int), .slice (some ⟨g2, 0, none⟩) nw nw] ∧ B ≤ g2 ∧ g2 < x.heap.size ∧ x.ownsRow g2 33 1 (.slice (some ⟨g2, 0, none⟩) nw nw) nw (wvals (List.replicate nw 0))
def Mk11 (B nw size : Nat) (x : World) (v : Value) : Prop := ∃ b2 g2, v = .pointer (some ⟨b2, 0, none⟩) ∧ B ≤ b2 ∧ B ≤ g2 ∧ BmAt x b2 g2 nw size (List.replicate nw 0)
theorem Mk9.kept {B nw : Nat} {x y : World} {v : Value} (h : Mk9 B nw x v) (hg : Grew x y) : Mk9 B nw y v := by
  obtain ⟨g2, h1, h2, h3, h4⟩ := h
  exact ⟨g2, h1, h2, Nat.lt_of_lt_of_le h3 hg.size, owns_mv (F := fun _ => False) h4 (Mv.of_below hg) (fun _ _ => id)⟩
theorem Mk10.kept {B nw size : Nat} {x y : World} {v : Value} (h : Mk10 B nw size x v) (hg : Grew x y) : Mk10 B nw size y v := by
  obtain ⟨g2, h1, h2, h3, h4⟩ := h
  exact ⟨g2, h1, h2, Nat.lt_of_lt_of_le h3 hg.size, owns_mv (F := fun _ => False) h4 (Mv.of_below hg) (fun _ _ => id)⟩
theorem Mk11.kept {B nw size : Nat} {x y : World} {v : Value} (h : Mk11 B nw size x v) (hg : Grew x y) : Mk11 B nw size y v := by
  obtain ⟨b2, g2, h1, h2, h3, h4⟩ := h
  exact ⟨b2, g2, h1, h2, h3, h4.below hg⟩
end Go.Proofs.Ytmllpednaibeeaa
