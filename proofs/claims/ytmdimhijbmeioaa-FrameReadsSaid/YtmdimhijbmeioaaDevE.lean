/- CONTRACT: what survives of a page. -/
import Derived.Test.YtmdimhijbmeioaaDevD
import Derived.StillTailTactics
namespace Go.Inc
open Go.RowKit Go.Maps

end Go.Inc
namespace Go.Proofs.Ytmdimhijbmeioaa
open Go.RowKit Go.Inc

/-- Nothing that the device owns has turned. -/
theorem DevAt.keep {C w w' g L c M f I p n S} {F : Nat → Prop} (h : DevAt C w g L c M f I p n S) (hm : Mv F w w') (hF : ∀ b, F b → C b = 0) : DevAt C w' g L c M f I p n S := by
  have hn : ∀ b, C b ≠ 0 → ¬ F b := fun b hb hf => hb (hF b hf)
  refine ⟨hm.row h.row (hn g (by rw [h.cg]; decide)), owns_mv h.laid hm (fun b hb => ?_), h.map.mv hm (hn M (by rw [h.cM]; decide)), fun x v hv => ?_, h.non, h.dom, h.few, h.wait, h.cg, h.cL, h.cM, fun b hb => Nat.lt_of_lt_of_le (h.lt b hb) hm.size, h.pp, h.lb, h.cnt⟩
  · cases hb
    exact hn L (by rw [h.cL]; decide)
  · have hV := h.ver x v hv
    refine ⟨owns_mv hV.own hm fun b hb => hn b (by rw [hV.col b hb]; omega), hV.col, hV.full, fun q hq => ?_⟩
    obtain ⟨h1, h2⟩ := hV.all q hq
    exact ⟨h1.mv hm fun b hb => hn b (by rw [hb]; decide), h2⟩

end Go.Proofs.Ytmdimhijbmeioaa

