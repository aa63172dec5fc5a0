/- CONTRACTS: a page's survivors, whatever waits; power, arming, counts, the image. -/
import Derived.Test.YtmdimhijbmeioaaDevE
namespace Go.Proofs.Ytmdimhijbmeioaa
open Go.RowKit Go.Inc

section
variable {C : Nat → Nat} {w w' : World} {g L c M p n : Nat} {f : Int → Option Value} {I : Int → List Item} {S : St}
/-- The device's own row has turned. -/
theorem DevAt.turn (h : DevAt C w g L c M f I p n S) {F : Nat → Prop} (hm : Mv F w w') (hF : ∀ b, F b → b = g) {on armed : Bool} {left r s t : Int} (hr : DevRow w' g on armed left (.slice (some ⟨L, 0, none⟩) (256 * p) c) (.map (some M)) r s t)
    (hl : 0 ≤ left ∧ left ≤ 9223372036854775807 ∨ armed = false) (hc : 0 ≤ r ∧ 0 ≤ s ∧ 0 ≤ t) : DevAt C w' g L c M f I p n { S with on := on, armed := armed, left := left, r := r, s := s, t := t } := by
  have hn : ∀ b, C b ≠ 1 → ¬ F b := fun b hb hf => hb (by rw [hF b hf]; exact h.cg)
  refine ⟨hr, owns_mv h.laid hm (fun b hb => ?_), h.map.mv hm (hn M (by rw [h.cM]; decide)), fun x v hv => ?_, h.non, h.dom, h.few, h.wait, h.cg, h.cL, h.cM, fun b hb => Nat.lt_of_lt_of_le (h.lt b hb) hm.size, h.pp, hl, hc⟩
  · cases hb
    exact hn L (by rw [h.cL]; decide)
  · have hV := h.ver x v hv
    refine ⟨owns_mv hV.own hm fun b hb => hn b (by rw [hV.col b hb]; omega), hV.col, hV.full, fun q hq => ?_⟩
    obtain ⟨h1, h2⟩ := hV.all q hq
    exact ⟨h1.mv hm fun b hb => hn b (by rw [hb]; decide), h2⟩
theorem DevAt.len (h : DevAt C w g L c M f I p n S) : S.B.length = 256 * p := by
  have := h.laid.1
  rw [u8s_length] at this
  omega
theorem DevAt.wlen (h : DevAt C w g L c M f I p n S) (x : Int) : (S.W x).length = (I x).length := by rw [h.wait x, List.length_map]
end

end Go.Proofs.Ytmdimhijbmeioaa

