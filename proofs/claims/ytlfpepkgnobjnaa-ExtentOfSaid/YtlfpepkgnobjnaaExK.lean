/- THE LAW'S known. -/
import Derived.Test.YtlfpepkgnobjnaaExP
import Derived.Test.YtlfpepkgnobjnaaSame
namespace Go.Proofs.Ytlfpepkgnobjnaa
open Go.RowKit Go.Inc

theorem cells4 (w : World) (a b c d : Int) (T : TypeId) : Si (fun q => q = w.heap.size) (w.alloc (.cells #[.int .i64 a, .int .i64 b, .int .i64 c, .int .i64 d] T)) (some ⟨w.heap.size, 0, none⟩) [a, b, c, d] :=
  .inr ⟨_, _, rfl, rfl, fun i hi => by
    have h0 := newCells w [.int .i64 a, .int .i64 b, .int .i64 c, .int .i64 d] T
    match i, hi with
    | 0, _ => exact h0 0 _ rfl
    | 1, _ => exact h0 1 _ rfl
    | 2, _ => exact h0 2 _ rfl
    | 3, _ => exact h0 3 _ rfl
    | i + 4, hi => simp only [List.length_cons, List.length_nil] at hi; omega⟩
theorem ofX_known : ofE [5, 6, 7, 2] = 0 ∧ ofX [5, 6, 7, 2] = [(5, 3), (2, 1)] ∧ chkX [(5, 3), (2, 1)] = 0 ∧ encX [(5, 3), (2, 1)] = [4, 5, 3, 2, 1] := by
  refine ⟨by decide, by decide, by decide, ?_⟩
  unfold encX
  rw [show flatX [(5, 3), (2, 1)] = [5, 3, 2, 1] from rfl]
  unfold puts
  simp only [List.map_cons, List.map_nil, List.flatten_cons, List.flatten_nil, List.length_cons, List.length_nil]
  rw [Var.put_low (by decide), Var.put_low (by decide), Var.put_low (by decide), Var.put_low (by decide), Var.put_low (by decide)]
  rfl
theorem xts2 (w : World) (a b c d : Int) (T : TypeId) : XtS (fun q => q = w.heap.size) (w.alloc (.cells #[.int .i64 a, .int .i64 b, .int .i64 c, .int .i64 d] T)) (some ⟨w.heap.size, 0, none⟩) [(a, b), (c, d)] :=
  .inr ⟨_, _, rfl, rfl, fun i hi => by
    have h0 := newCells w [.int .i64 a, .int .i64 b, .int .i64 c, .int .i64 d] T
    match i, hi with
    | 0, _ => exact ⟨h0 0 _ rfl, h0 1 _ rfl⟩
    | 1, _ => exact ⟨h0 2 _ rfl, h0 3 _ rfl⟩
    | i + 2, hi => simp only [List.length_cons, List.length_nil] at hi; omega⟩
theorem bSame_eq {ok ok' : Nat → Prop} {a b : Option Addr} (n c d : Nat) (bs : List Nat) {w : World} (ha : Sl ok w a bs) (hb : Sl ok' w b bs) (hn : n = bs.length) (hm : (n : Int) ≤ 9223372036854775807) :
    Calls Try.prog 23 #[.slice a n c, .slice b n d] w fun e w' => e = .returned (.bool true) ∧ Below w.heap.size w w' := by
  subst hn
  refine (same_any ok ok' a b c d bs bs w ha hb (by omega)).mono ?_
  rintro e w' ⟨rfl, h2⟩
  exact ⟨by simp, h2⟩
/-- In fewer words: what a call hands out is a slice of extents (of numbers) made behind w. -/
abbrev Up (B : Nat) : Nat → Prop := fun b => B ≤ b
theorem of_x (P : PX) {ok : Nat → Prop} {a : Option Addr} (c : Nat) {ps : List Int} {w : World} (hs : Si ok w a ps) (hl : (ps.length : Int) ≤ 65536) (hb : ∀ z ∈ ps, -9223372036854775808 ≤ z ∧ z ≤ 9223372036854775807) :
    Calls Try.prog 6 #[.slice a ps.length c] w fun e w' => (∃ a' c', e = .returned (.tuple #[.slice a' (ofX ps).length c', .int .i64 (ofE ps)]) ∧ XtS (Up w.heap.size) w' a' (ofX ps)) ∧ Below w.heap.size w w' := by
  refine (P.pOf ok a c ps w hs hl hb).mono ?_
  rintro e w' ⟨⟨v, rfl, hv⟩, hb⟩
  obtain ⟨a', c', rfl, -, hx, -⟩ := ownedX hv
  exact ⟨⟨a', c', rfl, hx⟩, hb⟩
theorem part_x (P : PX) {ok : Nat → Prop} {a : Option Addr} (c : Nat) {xs : List Xt} {i j : Int} {w : World} (hs : XtS ok w a xs) (hl : (xs.length : Int) ≤ 65536) (hbx : ∀ x ∈ xs, fitsX x) (hi : -9223372036854775808 ≤ i ∧ i ≤ 9223372036854775807) (hj : -9223372036854775808 ≤ j ∧ j ≤ 9223372036854775807) :
    Calls Try.prog 19 #[.slice a xs.length c, .int .i64 i, .int .i64 j] w fun e w' => (∃ a' c', e = .returned (.tuple #[.slice a' (ptX xs i j).length c', .int .i64 (ptE xs i j)]) ∧ XtS (Up w.heap.size) w' a' (ptX xs i j)) ∧ Below w.heap.size w w' := by
  refine (P.pPart ok a c xs i j w hs hl hbx hi hj).mono ?_
  rintro e w' ⟨⟨v, rfl, hv⟩, hb⟩
  obtain ⟨a', c', rfl, -, hx, -⟩ := ownedX hv
  exact ⟨⟨a', c', rfl, hx⟩, hb⟩
theorem dec_x (P : PX) {ok : Nat → Prop} {a : Option Addr} (c : Nat) {bs : List Nat} {w : World} (hs : Sl ok w a bs) (hc : bs.length ≤ c ∧ c ≤ maxLen) (hn : a = none → c = 0) (hby : Bytes bs) (hl : bs.length ≤ 65536) :
    Calls Try.prog 22 #[.slice a bs.length c] w fun e w' => (∃ a' c' u, e = .returned (.tuple #[.slice a' (decX bs).length c', u, .int .i64 (decE bs)]) ∧ XtS (Up w.heap.size) w' a' (decX bs) ∧ Row 5 w.heap.size w' u (decR bs)) ∧ Below w.heap.size w w' := by
  refine (P.pDecode ok a c bs w hs hc hn hby hl).mono ?_
  rintro e w' ⟨⟨v, u, rfl, hv, hu⟩, hb⟩
  obtain ⟨a', c', rfl, -, hx, -⟩ := ownedX hv
  exact ⟨⟨a', c', u, rfl, hx, hu⟩, hb⟩
theorem pages_z (P : PX) {ok : Nat → Prop} {a : Option Addr} (c : Nat) {xs : List Xt} {w : World} (hs : XtS ok w a xs) (hl : (xs.length : Int) ≤ 65536) (hbx : ∀ x ∈ xs, fitsX x) :
    Calls Try.prog 13 #[.slice a xs.length c] w fun e w' => (∃ a' c', e = .returned (.slice a' (pgX xs).length c') ∧ Si (Up w.heap.size) w' a' (pgX xs)) ∧ Below w.heap.size w w' := by
  refine (P.pPages ok a c xs w hs hl hbx).mono ?_
  rintro e w' ⟨⟨v, rfl, hv⟩, hb⟩
  obtain ⟨a', c', rfl, -, hx, -⟩ := ownedZ hv
  exact ⟨⟨a', c', rfl, hx⟩, hb⟩
theorem refOf_x {ok : Nat → Prop} {a : Option Addr} (c : Nat) {ps : List Int} {w : World} (hs : Si ok w a ps) (hl : (ps.length : Int) ≤ 65536) :
    Calls Try.prog 7 #[.slice a ps.length c] w fun e w' => (∃ a' c', e = .returned (.tuple #[.slice a' (ofX ps).length c', .int .i64 (ofE ps)]) ∧ XtS (Up w.heap.size) w' a' (ofX ps)) ∧ Below w.heap.size w w' := by
  refine (rOf_any ok a c ps w hs hl).mono ?_
  rintro e w' ⟨⟨v, rfl, hv⟩, hb⟩
  obtain ⟨a', c', rfl, -, hx, -⟩ := ownedX hv
  exact ⟨⟨a', c', rfl, hx⟩, hb⟩
theorem lawOf_x {ok : Nat → Prop} {a : Option Addr} (c : Nat) {xs : List Xt} {w : World} (hs : XtS ok w a xs) (hl : (xs.length : Int) ≤ 65536) :
    Calls Try.prog 9 #[.slice a xs.length c] w fun e w' => (∃ a' c', e = .returned (.slice a' xs.length c') ∧ XtS (Up w.heap.size) w' a' xs) ∧ Below w.heap.size w w' := by
  refine (xOf_any ok a c xs w hs (by omega)).mono ?_
  rintro e w' ⟨⟨v, rfl, hv⟩, hb⟩
  obtain ⟨a', c', rfl, -, hx, -⟩ := ownedX hv
  exact ⟨⟨a', c', rfl, hx⟩, hb⟩
theorem lawTo_x {ok : Nat → Prop} {a : Option Addr} (c : Nat) {xs : List Xt} {w : World} (hs : XtS ok w a xs) (hl : (xs.length : Int) ≤ 9223372036854775807) :
    Calls Try.prog 15 #[.slice a xs.length c] w fun e w' => (∃ a' c', e = .returned (.slice a' (xs.take 30).length c') ∧ XtS (Up w.heap.size) w' a' (xs.take 30)) ∧ Below w.heap.size w w' := by
  refine (xTo_any ok a c xs w hs hl).mono ?_
  rintro e w' ⟨⟨v, rfl, hv⟩, hb⟩
  obtain ⟨a', c', rfl, -, hx, -⟩ := ownedX hv
  exact ⟨⟨a', c', rfl, hx⟩, hb⟩
theorem all_z {ok : Nat → Prop} {a : Option Addr} (c : Nat) {xs : List Xt} {w : World} (hs : XtS ok w a xs) (hok : ∀ x ∈ xs, okX x = true) (hl : (xs.length : Int) ≤ 65536) :
    Calls Try.prog 20 #[.slice a xs.length c] w fun e w' => (∃ a' c', e = .returned (.slice a' (pagesX xs).length c') ∧ Si (Up w.heap.size) w' a' (pagesX xs) ∧ (pagesX xs).length ≤ c' ∧ c' ≤ maxLen ∧ (a' = none → c' = 0)) ∧ Below w.heap.size w w' := by
  refine (rAll_any ok a c xs w hs hok hl).mono ?_
  rintro e w' ⟨⟨v, rfl, hv⟩, hb⟩
  obtain ⟨a', c', rfl, -, hx⟩ := ownedZ hv
  exact ⟨⟨a', c', rfl, hx⟩, hb⟩
set_option maxRecDepth 20000 in
set_option maxHeartbeats 4000000 in
theorem known_any (P : PX) (w : World) :
    Calls Try.prog 10 #[] w fun e w' => e = .returned (.bool true) ∧ Below w.heap.size w w' := by
  have HP := hid P
  have HA := hid (allocBelow w (.cells #[.int .i64 5, .int .i64 6, .int .i64 7, .int .i64 2] 3))
  have HK := hid ofX_known
  have HOF : Hid (Calls Try.prog 6 #[.slice (some ⟨w.heap.size, 0, none⟩) 4 4] (w.alloc (.cells #[.int .i64 5, .int .i64 6, .int .i64 7, .int .i64 2] 3)) fun e w' => (∃ a c, e = .returned (.tuple #[.slice a 2 c, .int .i64 0]) ∧ XtS (fun _ => True) w' a [(5, 3), (2, 1)]) ∧ Below w.heap.size w w') := hid (by
    refine (of_x P 4 (ps := [5, 6, 7, 2]) (cells4 w 5 6 7 2 3) (by decide) (by decide)).mono ?_
    rintro e w' ⟨⟨a, c, rfl, hv⟩, hb⟩
    rw [ofX_known.1, ofX_known.2.1] at *
    exact ⟨⟨a, c, rfl, hv.mono fun _ _ _ => trivial⟩, HA.out.trans (hb.mono HA.out.size)⟩)
  have HEN : Hid (∀ y a c, XtS (fun _ => True) y a [(5, 3), (2, 1)] → Calls Try.prog 21 #[.slice a 2 c] y fun e w' => (∃ v, e = .returned (.tuple #[v, .int .i64 0]) ∧ Row 5 y.heap.size w' v [4, 5, 3, 2, 1]) ∧ Below y.heap.size y w') := hid fun y a c h => by
    have := P.pEncode _ a c [(5, 3), (2, 1)] y h (by decide) (by
      intro x hx
      simp at hx
      rcases hx with rfl | rfl <;> (unfold fitsX; decide))
    rw [ofX_known.2.2.1, if_pos rfl, ofX_known.2.2.2] at this
    exact this
  clear P HA
  go_enter Try.func10, Try.ntmps10
  go_wp2_with fail
  refine HOF.out.mono ?_
  clear HOF
  rintro e w1 ⟨⟨a1, c1, rfl, hx1⟩, hb1⟩
  have HX1 := hid hx1
  have HB1 := hid hb1
  clear hx1 hb1
  go_wp2_with fail
  refine (HEN.out w1 a1 c1 HX1.out).mono ?_
  clear HEN
  rintro e w2 ⟨⟨v, rfl, hv⟩, hb2⟩
  have HV := hid hv
  have HX2 := hid (HX1.out.below hb2)
  have HB2 := hid (HB1.out.trans (hb2.mono HB1.out.size))
  clear hv hb2 HX1 HB1
  go_wp2_with fail
  refine (lawOf_x c1 (xs := [(5, 3), (2, 1)]) HX2.out (by decide)).mono ?_
  rintro e w3 ⟨⟨a3, c3, rfl, hx3⟩, hb3⟩
  have HV3 := hid (HV.out.kept hb3)
  have HB3 := hid (HB2.out.trans (hb3.mono HB2.out.size))
  have HBA := hid (allocBelow w3 (.cells #[.int .i64 5, .int .i64 3, .int .i64 2, .int .i64 1] 55))
  have HSA : Hid (Calls Try.prog 8 #[.slice a3 2 c3, .slice (some ⟨w3.heap.size, 0, none⟩) 2 2] (w3.alloc (.cells #[.int .i64 5, .int .i64 3, .int .i64 2, .int .i64 1] 55)) fun e w' => e = .returned (.bool true) ∧ Below w3.heap.size w3 w') := hid (by
    refine (rSame_eq 2 c3 2 [(5, 3), (2, 1)] (hx3.below HBA.out) (xts2 w3 5 3 2 1 55) rfl (by decide)).mono ?_
    rintro e w' ⟨rfl, hb⟩
    exact ⟨rfl, HBA.out.trans (hb.mono HBA.out.size)⟩)
  clear hx3 hb3 HX2 HV HB2 HBA
  simp only [List.length_cons, List.length_nil]
  go_wp2_with fail
  refine HSA.out.mono ?_
  clear HSA
  rintro e w4 ⟨rfl, hb4⟩
  have HV4 := hid (HV3.out.kept hb4)
  have HB4 := hid (HB3.out.trans (hb4.mono HB3.out.size))
  clear hb4 HV3 HB3
  obtain ⟨a5, c5, rfl, -, -, -, hs5⟩ := HV4.out.sl
  have HBA := hid (allocBelow w4 (.cells #[.int .u8 4, .int .u8 5, .int .u8 3, .int .u8 2, .int .u8 1] 5))
  have HSB : Hid (Calls Try.prog 23 #[.slice a5 5 c5, .slice (some ⟨w4.heap.size, 0, none⟩) 5 5] (w4.alloc (.cells #[.int .u8 4, .int .u8 5, .int .u8 3, .int .u8 2, .int .u8 1] 5)) fun e w' => e = .returned (.bool true) ∧ Below w4.heap.size w4 w') := hid (by
    refine (bSame_eq 5 c5 5 [4, 5, 3, 2, 1] (hs5.below HBA.out) (Sl.row [4, 5, 3, 2, 1] (heap_alloc_new w4 (.cells #[.int .u8 4, .int .u8 5, .int .u8 3, .int .u8 2, .int .u8 1] 5))) rfl (by decide)).mono ?_
    rintro e w' ⟨rfl, hb⟩
    exact ⟨rfl, HBA.out.trans (hb.mono HBA.out.size)⟩)
  clear hs5 HV4 HBA
  simp only [List.length_cons, List.length_nil]
  go_wp2_with fail
  refine HSB.out.mono ?_
  clear HSB
  rintro e w5 ⟨rfl, hb5⟩
  have HB5 := hid (HB4.out.trans (hb5.mono HB4.out.size))
  clear hb5 HB4
  go_wp2_with fail
  go_ret
  exact ⟨rfl, HB5.out⟩
end Go.Proofs.Ytlfpepkgnobjnaa
