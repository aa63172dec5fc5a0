/- CONTRACTS OF THE LAWS' SMALL FUNCTIONS: the known examples hold; at most twelve parts of at most 100 bytes. -/
import Derived.Test.YtmdimhijbmeioaaCrcB
import Derived.Deep.QuietTactic
import Derived.BigQuiet
import Derived.Test.YtmdimhijbmeioaaClone
namespace Go.Proofs.Ytmdimhijbmeioaa
open Go.RowKit Go.Inc

theorem owns_step {w : World} {B e n m : Nat} {v : Value} {a c : List Nat} (h : w.ownsRow B e 1 v (n + m) (u8s a ++ u8s c)) (hn : n = a.length) (hm : m = c.length) : w.ownsRow B e 1 v (a ++ c).length (u8s (a ++ c)) := by
  rw [u8s_append, List.length_append, ← hn, ← hm]; exact h
/-- The document's sum, of bytes wherever they lie. -/
theorem refSum_any (ok : Nat → Prop) (a : Option Addr) (cap : Nat) (bs : List Nat) (w : World) (hs : Sl ok w a bs) (hb : Bytes bs) (hl : bs.length ≤ 9223372036854775807) :
    Calls Try.prog 33 #[.slice a bs.length cap] w fun e w' => e = .returned (.int .u32 (Crc.sum bs : Nat)) ∧ w = w' := by
  rcases hs with rfl | ⟨b, off, rfl, _, hc⟩
  · exact refSum_none a cap w
  · exact refSum_some b off bs.length cap bs w rfl (by omega) hc hb
end Go.Proofs.Ytmdimhijbmeioaa

