/- ExtentBytes: a list's bytes, and the list of any bytes, or what is wrong, are the document's (every input; nothing is asked of it). -/
import Derived.Test.YtlfpepkgnobjnaaExPx
import Derived.Test.YtlfpepkgnobjnaaExByW
import Derived.Test.YtlfpepkgnobjnaaExOpen
import Derived.Test.YtlfpepkgnobjnaaOpen
namespace Go.Proofs.Ytlfpepkgnobjnaa
open Go.RowKit Go.Inc
theorem extentBytes_walk (P : PX) (a : Option Addr) (c : Nat) (xs : List Xt) (ab : Option Addr) (cb : Nat) (bs : List Nat) (W : World) (hx : XtS (fun _ => True) W a xs) (hf : ∀ x ∈ xs, fitsX x) (hlc : xs.length ≤ c) (hcm : c ≤ maxLen) (hs : Sl (fun _ => True) W ab bs) (hby : Bytes bs) (hcb : bs.length ≤ cb) (hcb2 : cb ≤ maxLen) (hn0 : ab = none → cb = 0) :
    Calls Try.prog 5 #[.slice a xs.length c, .slice ab bs.length cb] W fun e w' => e = .returned (.bool true) ∧ Below W.heap.size W w' := by
  by_cases h : chkX (xs.take 30) = 0
  · exact bytes_good P a c xs ab cb bs W hx hf (by unfold maxLen at hcm; omega) hs hby ⟨hcb, hcb2⟩ hn0 h
  · exact bytes_bad P a c xs ab cb bs W hx hf (by unfold maxLen at hcm; omega) hs hby ⟨hcb, hcb2⟩ hn0 h
namespace ExtentBytes
open Go.ChangeShapes Go.WideShapes Go.ChangeAt

theorem own : ownKnob Try.prog.godebug = none := by kernel_rfl
theorem laidOut : laidOutB Try.prog = true := by kernel_rfl

set_option maxRecDepth 100000 in
theorem lifted (os : Os) (started : os.Started) (H : Type) (enc : TypeId × Value → H) :
    ReturnsInHanded {} Try.checked os 5 .any (Rows.extentBytesSpec.pre6 enc Try.prog Try.f5 Rows.extentBytesRow.domain false) (Rows.extentBytesSpec.post enc Try.prog Try.f5 false true false false) := by
  refine returnsInHanded_of_change (C := Try.checked) own started (by kernel_rfl) Try.func5
    (ChangeSpec.witness6 (enc := enc) (C := Try.checked) false ⟨#[], #[.slice none 0 0, .slice none 0 0], []⟩ 8 (by kernel_rfl) (by kernel_rfl) (by kernel_rfl) (by kernel_rfl)) ?_
  intro W base args ds gs before hval0 hW hcnd _
  have hval : ∀ (j : Nat) t v, Try.f5.params[j]? = some t → args[j]? = some v → Value.okWide Try.prog W .any base t v := hval0
  have hW' := hW
  obtain ⟨p, q, hA0, hV, rfl, hfz, hnd⟩ := hW
  have hA : DataW.TrodAll enc Try.prog W 0 (fun _ => true) true Try.f5.params.toList args.toList ds p := hA0
  rw [Try.params5] at hA hval
  obtain ⟨v0, vs0, d0, ds0, p0, q0, hargs, rfl, rfl, h0, r0⟩ := trodAll_cons hA
  obtain ⟨v1, vs1, d1, ds1, p1, q1, rfl, rfl, rfl, h1, r1⟩ := trodAll_cons r0
  obtain ⟨rfl, rfl, rfl⟩ := trodAll_nil r1
  obtain rfl : args = #[v0, v1] := by cases args; simp_all
  obtain ⟨rfl, rfl⟩ := trodVars_none hV
  obtain ⟨a0, len0, cap0, rfl⟩ := okWide_slice Try.underlying27 (hval 0 27 v0 rfl rfl)
  have k0 := h0
  have lt0 : ∀ x ∈ p0, x.block < W.heap.size := by obtain ⟨m, hm⟩ := k0; exact DataW.trod_lt m _ _ _ hm
  obtain ⟨a, c, ts0, hv, hts0, hf0, hlc0, hcm0⟩ : ∃ a c ts, Value.slice a0 len0 cap0 = .slice a (List.length ts) c ∧ XtS (fun _ => True) W a ts ∧ (∀ x ∈ ts, fitsX x) ∧ ts.length ≤ c ∧ c ≤ maxLen := by
    obtain ⟨fuel, hf⟩ := h0
    exact open_rexts hf
  simp only [Value.slice.injEq] at hv
  obtain ⟨rfl, rfl, rfl⟩ := hv
  obtain ⟨a1, len1, cap1, rfl⟩ := okWide_slice Try.underlying45 (hval 1 45 v1 rfl rfl)
  have k1 := h1
  have lt1 : ∀ x ∈ p1, x.block < W.heap.size := by obtain ⟨m, hm⟩ := k1; exact DataW.trod_lt m _ _ _ hm
  obtain ⟨a, c, bs1, hv, hby1, hsl1, hlc1, hcm1, hn1⟩ : ∃ a c bs, Value.slice a1 len1 cap1 = .slice a (List.length bs) c ∧ Bytes bs ∧ Sl (fun _ => True) W a bs ∧ bs.length ≤ c ∧ c ≤ maxLen ∧ (a = none → c = 0) := by
    obtain ⟨fuel, hf⟩ := h1
    exact open_sl Try.underlying45 Try.underlying5 (by kernel_rfl) hf
  simp only [Value.slice.injEq] at hv
  obtain ⟨rfl, rfl, rfl⟩ := hv
  clear hA0 hval0
  refine (extentBytes_walk px a0 cap0 ts0 a1 cap1 bs1 W hts0 hf0 hlc0 hcm0 hsl1 hby1 hlc1 hcm1 hn1).mono fun e W' ⟨he, bel⟩ => ?_
  subst he
  exact ⟨_, rfl, _, _, _, [], _, [], hW', trodAll_mk1 (shut_bool Try.underlying4 _), (trodAll_cons_mk (Below.trod laidOut (by kernel_rfl) (of_decide_eq_true (by kernel_rfl)) k0 bel lt0) (trodAll_cons_mk (Below.trod laidOut (by kernel_rfl) (of_decide_eq_true (by kernel_rfl)) k1 bel lt1) trodAll_mk0)), rfl, bel.frame _, fun h => by cases h⟩

/-- THE STATEMENT. -/
theorem proved : Rows.ExtentBytesSaid :=
  OpenClaim.holds_of_wide 5 Try.f5 rfl rfl rfl rfl rfl rfl rfl ⟨rfl, rfl, rfl, rfl, rfl⟩ rfl rfl rfl rfl rfl (by kernel_rfl) Try.func5 (by kernel_rfl)
    (of_decide_eq_true (by kernel_rfl)) (by unfold Func.isWrapper; first | (rw [if_pos (by decide +kernel)]; kernel_rfl) | (rw [if_neg (by decide +kernel)]; exact ⟨rfl, rfl⟩))
    (fun os started H enc _ => lifted os started H enc)
end ExtentBytes
end Go.Proofs.Ytlfpepkgnobjnaa
