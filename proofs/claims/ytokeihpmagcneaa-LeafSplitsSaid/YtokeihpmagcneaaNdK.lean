/- IN FEWER WORDS: the law's and the document's calls on nodes; the law's known. -/
import Derived.Test.YtokeihpmagcneaaNdP
import Derived.Test.YtokeihpmagcneaaSame
namespace Go.Proofs.Ytokeihpmagcneaa
open Go.RowKit Go.Inc
theorem to_x {a : Option Addr} (n c : Nat) (lf : Bool) {es : List Et} {w : World} (hs : EtS (fun _ => True) w a es) (hn : n = es.length) (hf : ∀ e ∈ es, fitsE e) :
    Calls Try.prog 8 #[.agg #[.bool lf, .slice a n c]] w fun e w' => (∃ a' n' c', e = .returned (.agg #[.bool lf, .slice a' n' c']) ∧ NdOk w' a' n' c' (es.take 18)) ∧ Below w.heap.size w w' := by
  subst hn
  refine (to_any _ a c lf es w hs).mono ?_
  rintro e w' ⟨⟨v, rfl, hv⟩, hb⟩
  obtain ⟨a', n', c', rfl, h⟩ := hv.nd (by rw [List.length_take]; omega) fun e he => hf e (List.mem_of_mem_take he)
  exact ⟨⟨a', n', c', rfl, h⟩, hb⟩
theorem of_x {a : Option Addr} {n c : Nat} (lf : Bool) {es : List Et} {w : World} (h : NdOk w a n c es) :
    Calls Try.prog 9 #[.agg #[.bool lf, .slice a n c]] w fun e w' => (∃ a' n' c', e = .returned (.agg #[.bool lf, .slice a' n' c']) ∧ NdOk w' a' n' c' es) ∧ Below w.heap.size w w' := by
  obtain ⟨rfl, h1, h2, h3, h4, h5⟩ := h
  refine (of_any _ a c lf es w h1 (by omega)).mono ?_
  rintro e w' ⟨⟨v, rfl, hv⟩, hb⟩
  obtain ⟨a', n', c', rfl, h⟩ := hv.nd h2 h3
  exact ⟨⟨a', n', c', rfl, h⟩, hb⟩
theorem chk_x {a : Option Addr} {n c : Nat} (lf : Bool) {es : List Et} {w : World} (h : NdOk w a n c es) :
    Calls Try.prog 11 #[.agg #[.bool lf, .slice a n c]] w fun e w' => e = .returned (.int .i64 (chkN lf es)) ∧ Below w.heap.size w w' := by
  obtain ⟨rfl, h1, h2, h3, h4, h5⟩ := h
  exact rCheck_any _ a c lf es w h1 (by omega)
theorem same_x {a b : Option Addr} {n m c d : Nat} (lf : Bool) {es : List Et} {w : World} (h : NdOk w a n c es) (k : NdOk w b m d es) :
    Calls Try.prog 19 #[.agg #[.bool lf, .slice a n c], .agg #[.bool lf, .slice b m d]] w fun e w' => e = .returned (.bool true) ∧ Below w.heap.size w w' := by
  obtain ⟨rfl, h1, h2, h3, h4, h5⟩ := h
  obtain ⟨rfl, k1, k2, k3, k4, k5⟩ := k
  exact rSame_eq es.length c d lf es h1 k1 rfl (by omega)
theorem enc_x {a : Option Addr} {n c : Nat} (lf : Bool) {es : List Et} {w : World} (h : NdOk w a n c es) (hc : chkN lf es = 0) :
    Calls Try.prog 17 #[.agg #[.bool lf, .slice a n c]] w fun e w' => ∃ v, e = .returned v ∧ Row 5 w.heap.size w' v (encN lf es) ∧ Below w.heap.size w w' := by
  obtain ⟨rfl, h1, h2, h3, h4, h5⟩ := h
  obtain ⟨c1, c2, -, -⟩ := chkN_zero hc
  exact rEncode_any _ a c lf es w h1 (by omega) (badN_false.1 c2)
theorem dec_x {ok : Nat → Prop} {a : Option Addr} {n c : Nat} {bs : List Nat} {w : World} (hs : Sl ok w a bs) (hn : n = bs.length) (hby : Bytes bs) (hm : n ≤ 1000) :
    Calls Try.prog 18 #[.slice a n c] w fun e w' => (∃ a' n' c', e = .returned (.tuple #[.agg #[.bool (ndL bs), .slice a' n' c'], .int .i64 (ndE bs)]) ∧ NdOk w' a' n' c' (ndS bs)) ∧ Below w.heap.size w w' := by
  subst hn
  refine (rDecode_any ok a c bs w hs hby (by omega)).mono ?_
  rintro e w' ⟨⟨v, rfl, hv⟩, hb⟩
  obtain ⟨f1, f2⟩ := ndS_facts bs
  obtain ⟨a', n', c', rfl, h⟩ := hv.nd (by omega) f2
  exact ⟨⟨a', n', c', rfl, h⟩, hb⟩
theorem bSame_eq {ok ok' : Nat → Prop} {a b : Option Addr} (n c d : Nat) (bs : List Nat) {w : World} (ha : Sl ok w a bs) (hb : Sl ok' w b bs) (hn : n = bs.length) (hm : (n : Int) ≤ 9223372036854775807) :
    Calls Try.prog 16 #[.slice a n c, .slice b n d] w fun e w' => e = .returned (.bool true) ∧ Below w.heap.size w w' := by
  subst hn
  refine (same_any ok ok' a b c d bs bs w ha hb (by omega)).mono ?_
  rintro e w' ⟨rfl, h2⟩
  exact ⟨by simp, h2⟩
theorem encN_known : chkN true [((1, 5), 9)] = 0 ∧ encN true [((1, 5), 9)] = [1, 1, 1, 5, 9] := by
  refine ⟨by decide, ?_⟩
  unfold encN ebytes ebyte
  simp only [List.flatMap_cons, List.flatMap_nil, List.append_nil]
  rw [Var.put_low (by decide), Var.put_low (by decide), Var.put_low (by decide)]
  rfl
set_option maxRecDepth 20000 in
set_option maxHeartbeats 4000000 in
theorem known_any (P : PN) (w : World) :
    Calls Try.prog 14 #[] w fun e w' => e = .returned (.bool true) ∧ Below w.heap.size w w' := by
  obtain ⟨w1, hw1⟩ : ∃ w1, w1 = w.alloc (.cells #[.int .i64 1, .int .i64 5, .int .i64 9] 57) := ⟨_, rfl⟩
  have HW1 := hid hw1
  have HA : Hid (Below w.heap.size w w1) := hid (by rw [hw1]; exact allocBelow w _)
  have HEN : Hid (Calls Try.prog 10 #[.agg #[.bool true, .slice (some ⟨w.heap.size, 0, none⟩) 1 1]] w1 fun e w' => (∃ v, e = .returned (.tuple #[v, .int .i64 0]) ∧ Row 5 w1.heap.size w' v [1, 1, 1, 5, 9]) ∧ Below w1.heap.size w1 w') := hid (by
    have hr : w1.heap[w.heap.size]? = some (.cells #[.int .i64 1, .int .i64 5, .int .i64 9] 57 (0, 0)) := by rw [hw1]; exact heap_alloc_new w _
    have h := P.nEncode (some ⟨w.heap.size, 0, none⟩) 1 1 true [((1, 5), 9)] w1 ⟨rfl, .inr ⟨_, _, rfl, trivial, fun i hi => by
      have h0 := newCells w [.int .i64 1, .int .i64 5, .int .i64 9] 57
      rw [← hw1] at h0
      match i, hi with
      | 0, _ => exact ⟨h0 0 _ rfl, h0 1 _ rfl, h0 2 _ rfl⟩
      | i + 1, hi => simp at hi⟩, by decide, by intro e he; simp at he; subst he; unfold fitsE fitsK; decide, ⟨by decide, by unfold maxLen; decide⟩, fun h => by cases h⟩
    rw [encN_known.1, if_pos rfl, encN_known.2] at h
    exact h)
  clear hw1 P
  go_enter Try.func14, Try.ntmps14
  go_wp2_with fail
  rw [← HW1.out]
  refine HEN.out.mono ?_
  clear HEN
  rintro e w2 ⟨⟨v, rfl, hv⟩, hb⟩
  obtain ⟨a5, c5, rfl, -, -, -, hs5⟩ := hv.sl
  have HB2 := hid (HA.out.trans (hb.mono HA.out.size))
  have HBA := hid (allocBelow w2 (.cells #[.int .u8 1, .int .u8 1, .int .u8 1, .int .u8 5, .int .u8 9] 5))
  have HSB : Hid (Calls Try.prog 16 #[.slice a5 5 c5, .slice (some ⟨w2.heap.size, 0, none⟩) 5 5] (w2.alloc (.cells #[.int .u8 1, .int .u8 1, .int .u8 1, .int .u8 5, .int .u8 9] 5)) fun e w' => e = .returned (.bool true) ∧ Below w2.heap.size w2 w') := hid (by
    refine (bSame_eq 5 c5 5 [1, 1, 1, 5, 9] (hs5.below HBA.out) (Sl.row [1, 1, 1, 5, 9] (heap_alloc_new w2 (.cells #[.int .u8 1, .int .u8 1, .int .u8 1, .int .u8 5, .int .u8 9] 5))) rfl (by decide)).mono ?_
    rintro e w' ⟨rfl, hb⟩
    exact ⟨rfl, HBA.out.trans (hb.mono HBA.out.size)⟩)
  clear hv hb hs5 HA HBA HW1
  simp only [List.length_cons, List.length_nil]
  go_wp2_with fail
  refine HSB.out.mono ?_
  clear HSB
  rintro e w5 ⟨rfl, hb5⟩
  have HB5 := hid (HB2.out.trans (hb5.mono HB2.out.size))
  clear hb5 HB2
  go_wp2_with fail
  go_ret
  exact ⟨rfl, HB5.out⟩
end Go.Proofs.Ytokeihpmagcneaa
