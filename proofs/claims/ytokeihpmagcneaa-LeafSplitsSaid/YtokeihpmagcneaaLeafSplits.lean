/- LeafSplits: the two halves of a node, and one node of two, or what is wrong, are the document's; what is split is merged as it was (every input; nothing is asked of it). -/
import Derived.Test.YtokeihpmagcneaaPnP
import Derived.Test.YtokeihpmagcneaaNdS1
import Derived.Test.YtokeihpmagcneaaNdS2
import Derived.Test.YtokeihpmagcneaaNdOpen
namespace Go.Proofs.Ytokeihpmagcneaa
open Go.RowKit Go.Inc
theorem leafSplits_walk (P : PN) (a : Option Addr) (n c : Nat) (lf : Bool) (es : List Et) (b : Option Addr) (m d : Nat) (mf : Bool) (fs : List Et) (W : World) (hs : EtS (fun _ => True) W a es) (hn : n = es.length) (hf : ∀ e ∈ es, fitsE e) (hs2 : EtS (fun _ => True) W b fs) (hm : m = fs.length) (hf2 : ∀ e ∈ fs, fitsE e) :
    Calls Try.prog 7 #[.agg #[.bool lf, .slice a n c], .agg #[.bool mf, .slice b m d]] W fun e w' => e = .returned (.bool true) ∧ Below W.heap.size W w' := by
  by_cases h : chkN lf (es.take 18) = 0 ∧ chkN mf (fs.take 18) = 0 ∧ lf = mf
  · exact splits_two P a n c lf es b m d mf fs W hs hn hf hs2 hm hf2 h
  · exact splits_one P a n c lf es b m d mf fs W hs hn hf hs2 hm hf2 h
namespace leafSplits
open Go.ChangeShapes Go.WideShapes Go.ChangeAt

theorem own : ownKnob Try.prog.godebug = none := by kernel_rfl
theorem laidOut : laidOutB Try.prog = true := by kernel_rfl

set_option maxRecDepth 100000 in
theorem lifted (os : Os) (started : os.Started) (H : Type) (enc : TypeId × Value → H) :
    ReturnsInHanded {} Try.checked os 7 .any (Rows.leafSplitsSpec.pre6 enc Try.prog Try.f7 Rows.leafSplitsRow.domain false) (Rows.leafSplitsSpec.post enc Try.prog Try.f7 false true false false) := by
  refine returnsInHanded_of_change (C := Try.checked) own started (by kernel_rfl) Try.func7
    (ChangeSpec.witness6 (enc := enc) (C := Try.checked) false ⟨#[], #[.agg #[.bool false, .slice none 0 0], .agg #[.bool false, .slice none 0 0]], []⟩ 8 (by kernel_rfl) (by kernel_rfl) (by kernel_rfl) (by kernel_rfl)) ?_
  intro W base args ds gs before hval0 hW hcnd _
  have hval : ∀ (j : Nat) t v, Try.f7.params[j]? = some t → args[j]? = some v → Value.okWide Try.prog W .any base t v := hval0
  have hW' := hW
  obtain ⟨p, q, hA0, hV, rfl, hfz, hnd⟩ := hW
  have hA : DataW.TrodAll enc Try.prog W 0 (fun _ => true) true Try.f7.params.toList args.toList ds p := hA0
  rw [Try.params7] at hA hval
  obtain ⟨v0, vs0, d0, ds0, p0, q0, hargs, rfl, rfl, h0, r0⟩ := trodAll_cons hA
  obtain ⟨v1, vs1, d1, ds1, p1, q1, rfl, rfl, rfl, h1, r1⟩ := trodAll_cons r0
  obtain ⟨rfl, rfl, rfl⟩ := trodAll_nil r1
  obtain rfl : args = #[v0, v1] := by cases args; simp_all
  obtain ⟨rfl, rfl⟩ := trodVars_none hV
  have k0 := h0
  have lt0 : ∀ x ∈ p0, x.block < W.heap.size := by obtain ⟨m, hm⟩ := k0; exact DataW.trod_lt m _ _ _ hm
  obtain ⟨lf0, a0, n0, cap0, es0, rfl, hs0, hn0, hf0⟩ := open_node (hval 0 24 v0 rfl rfl) h0
  have k1 := h1
  have lt1 : ∀ x ∈ p1, x.block < W.heap.size := by obtain ⟨m, hm⟩ := k1; exact DataW.trod_lt m _ _ _ hm
  obtain ⟨lf1, a1, n1, cap1, es1, rfl, hs1, hn1, hf1⟩ := open_node (hval 1 24 v1 rfl rfl) h1
  clear hA0 hval0
  refine (leafSplits_walk pn a0 n0 cap0 lf0 es0 a1 n1 cap1 lf1 es1 W hs0 hn0 hf0 hs1 hn1 hf1).mono fun e W' ⟨he, bel⟩ => ?_
  subst he
  exact ⟨_, rfl, _, _, _, [], _, [], hW', trodAll_mk1 (shut_bool Try.underlying4 _), (trodAll_cons_mk (Below.trod laidOut (by kernel_rfl) (of_decide_eq_true (by kernel_rfl)) k0 bel lt0) (trodAll_cons_mk (Below.trod laidOut (by kernel_rfl) (of_decide_eq_true (by kernel_rfl)) k1 bel lt1) trodAll_mk0)), rfl, bel.frame _, fun h => by cases h⟩

/-- THE STATEMENT. -/
theorem proved : Rows.LeafSplitsSaid :=
  OpenClaim.holds_of_wide 7 Try.f7 rfl rfl rfl rfl rfl rfl rfl ⟨rfl, rfl, rfl, rfl, rfl⟩ rfl rfl rfl rfl rfl (by kernel_rfl) Try.func7 (by kernel_rfl)
    (of_decide_eq_true (by kernel_rfl)) (by unfold Func.isWrapper; first | (rw [if_pos (by decide +kernel)]; kernel_rfl) | (rw [if_neg (by decide +kernel)]; exact ⟨rfl, rfl⟩))
    (fun os started H enc _ => lifted os started H enc)
end leafSplits
end Go.Proofs.Ytokeihpmagcneaa
