/- CONTRACTS: Text, the known examples. -/
import Derived.Test.YtpipgbehpppjbaaVarF
namespace Go.Proofs.Ytpipgbehpppjbaa
open Go.RowKit Go.Inc

/-- The texts' bytes, one behind the other. -/
def texts (ps : List (List Nat)) : List Nat := (ps.map fun p => Var.put p.length ++ p).flatten
theorem texts_snoc {ps : List (List Nat)} {k : Nat} (h : k < ps.length) : texts (ps.take (k + 1)) = texts (ps.take k) ++ Var.put (ps.getD k []).length ++ ps.getD k [] := by
  unfold texts
  rw [List.take_succ_eq_append_getElem h, List.getD_eq_getElem?_getD, List.getElem?_eq_getElem h]
  simp only [List.map_append, List.map_cons, List.map_nil, List.flatten_append, List.flatten_cons, List.flatten_nil, List.append_nil, Option.getD_some, List.append_assoc]
theorem texts_le (ps : List (List Nat)) (k : Nat) : (texts (ps.take k)).length ≤ (texts ps).length := by
  conv => rhs; rw [← List.take_append_drop k ps]
  unfold texts
  rw [List.map_append, List.flatten_append, List.length_append]
  omega
theorem parts_len {ok : Nat → Prop} {w : World} {b o : Nat} {ps : List (List Nat)} {A : Nat → Option Addr} {C : Nat → Nat} (h : Parts ok w b o ps A C) (k : Nat) (hk : k < ps.length) : (ps.getD k []).length ≤ C k ∧ C k ≤ 9223372036854775807 := by
  have := h.cap k hk
  unfold maxLen at this
  omega

set_option maxHeartbeats 1000000 in
theorem text_some (ok : Nat → Prop) (b o cap : Nat) (ps : List (List Nat)) (A : Nat → Option Addr) (C : Nat → Nat) (w : World)
    (hp : Parts ok w b o ps A C) (hl : (ps.length : Int) ≤ 9223372036854775807) (ht : (texts ps).length ≤ 1099511627776) :
    Calls Try.prog 20 #[.slice (some ⟨b, o, none⟩) ps.length cap] w fun e w' => ∃ v, e = .returned v ∧ Row 5 w.heap.size w' v (texts ps) ∧ Below w.heap.size w w' := by
  have HP := hid hp
  have HT := hid ht
  clear hp ht
  go_enter Try.func20, Try.ntmps20
  go_wp2_with fail
  go_loopw [3, 8] (fun v i wr => ∃ k : Nat, k ≤ ps.length ∧ i = .int .i64 (k : Int) ∧ Row 5 w.heap.size wr v (texts (ps.take k)) ∧ Below w.heap.size w wr) (fun _ i _ => ps.length - (intOf i).toNat)
  case atStart => exact ⟨0, Nat.zero_le _, rfl, Row.nil _ _ _, Below.refl _ _⟩
  case round =>
    obtain ⟨k, hk, rfl, hr, hb⟩ := hrel
    have HR := hid hr
    clear hr
    by_cases hlt : (k : Int) < ps.length
    · have hcell : wr.cell? ⟨b, o + k, none⟩ = some (.slice (A k) (ps.getD k []).length (C k)) := by
        rw [hb.cell (cell_lt (HP.out.cell k (by omega)))]; exact HP.out.cell k (by omega)
      have hsl := hid (HP.out.sl k (by omega))
      have hs := hid (texts_snoc (ps := ps) (k := k) (by omega))
      have hcap := parts_len HP.out k (by omega)
      have hlen : Hid ((texts (ps.take k)).length + (Var.put (ps.getD k []).length).length + (ps.getD k []).length ≤ 1099511627776) := hid (by
        have h1 := texts_le ps (k + 1)
        have h2 := HT.out
        rw [hs.out] at h1
        simp only [List.length_append] at h1
        omega)
      generalize ps.getD k [] = p at *
      generalize A k = ak at *
      generalize C k = ck at *
      have hpl : (p.length : Int) ≤ 9223372036854775807 := by omega
      clear hcap
      have HL := hid (lay_any w.heap.size u3 (texts (ps.take k)) p.length wr HR.out hb.size (by omega) (by have := hlen.out; omega))
      go_wp2_with fail
      refine HL.out.mono ?_
      rintro e w2 ⟨v2, rfl, hr2, hb2⟩
      have HR2 := hid hr2
      have HB2 := hid (hb.trans hb2)
      have HS2 : Hid (Sl ok w2 ak p) := hid (hsl.out.below HB2.out)
      clear hr2 hb2 hb
      go_wp2_with (refine wpList_append_any rfl (.tmp 17) (.tmp 18) 23 rfl w.heap.size 5 (.int .u8 0) 1 Try.underlying23 infoU8 rfl _ _ _ rfl HR2.out ak _ _ (u8s p) rfl (u8s_length _) (HS2.out.some_len) HS2.out.cells (u8s_one _) (by have := hlen.out; rw [List.length_append]; unfold maxLen; omega) (by have := hlen.out; rw [List.length_append]; omega) (by have := HB2.out.size; omega) ?_)
      intro v4 w4 hv4 hg4 _
      have hb4 := below_owned HB2.out HR2.out (Nat.le_refl _) hg4
      have HV4 := hid (row_more hv4 (by rw [List.length_append]) rfl)
      clear hv4 hg4
      go_wp2_with fail
      go_roundw
      case rel => exact ⟨k + 1, by omega, by go_num, by rw [hs.out]; exact HV4.out, hb4⟩
      case measure => simp [intOf]; omega
    · have hlt' : (ps.length : Int) ≤ k := by omega
      clear hlt
      have hR2 := HR.out
      rw [List.take_of_length_le (by omega)] at hR2
      have HR2 := hid hR2
      clear hR2
      go_wp2_with fail
      go_ret
      exact ⟨_, rfl, HR2.out, hb⟩
theorem text_none (a : Option Addr) (c : Nat) (w : World) :
    Calls Try.prog 20 #[.slice a 0 c] w fun e w' => e = .returned (.slice none 0 0) ∧ w = w' := by
  go_enter Try.func20, Try.ntmps20
  go_wp2_with fail
  go_loop [3, 8] (fun v i => v = .slice none 0 0 ∧ i = .int .i64 0) (fun _ _ => 0)
  case atStart => exact ⟨rfl, rfl⟩
  case round =>
    obtain ⟨rfl, rfl⟩ := hrel
    go_wp2_with fail
    go_ret
    exact ⟨rfl, rfl⟩
theorem text_any (ok : Nat → Prop) (a : Option Addr) (c : Nat) (ps : List (List Nat)) (w : World) (hp : Pt ok w a ps) (hl : ps.length ≤ 9223372036854775807) (ht : (texts ps).length ≤ 1099511627776) :
    Calls Try.prog 20 #[.slice a ps.length c] w fun e w' => ∃ v, e = .returned v ∧ Row 5 w.heap.size w' v (texts ps) ∧ Below w.heap.size w w' := by
  rcases hp.2 with rfl | ⟨b, o, A, C, rfl, hb, hp⟩
  · refine (text_none a c w).mono ?_
    rintro e w' ⟨rfl, rfl⟩
    exact ⟨_, rfl, Row.nil _ _ _, Below.refl _ _⟩
  · exact text_some ok b o c ps A C w hp (by omega) ht

theorem same_yes (ok ok' : Nat → Prop) (a b : Option Addr) (c d : Nat) (xs ys : List Nat) (w : World) (ha : Sl ok w a xs) (hb : Sl ok' w b ys) (hm : xs.length ≤ 9223372036854775807) (h : xs = ys) :
    Calls Try.prog 9 #[.slice a xs.length c, .slice b ys.length d] w fun e w' => e = .returned (.bool true) ∧ Below w.heap.size w w' := by
  refine (same_any ok ok' a b c d xs ys w ha hb hm).mono ?_
  rintro e w' ⟨rfl, h2⟩
  exact ⟨ret_bool (decide_eq_true h), h2⟩
set_option maxHeartbeats 1000000 in
theorem known_any (w : World) : Calls Try.prog 15 #[] w fun e w' => e = .returned (.bool true) ∧ Below w.heap.size w w' := by
  have hb1 : Below w.heap.size w (w.alloc (.cells #[.int .u8 128, .int .u8 0] 5)) := (Below.refl _ _).alloc (Nat.le_refl _) _
  have H1 := hid (get_any _ _ 2 [128, 0] _ (Sl.row [128, 0] (heap_alloc_new w (.cells #[.int .u8 128, .int .u8 0] 5))) (by decide) (by simp) (by intro x hx; simp at hx; omega) (by decide))
  have e1 : Hid (Var.err 9223372036854775807 [128, 0] = 3) := hid (by decide +kernel)
  have e2 : Hid (Var.val 9223372036854775807 [128, 0] = 0) := hid (by decide +kernel)
  have e3 : Hid (tailOf 9223372036854775807 [128, 0] = []) := hid (by decide +kernel)
  have HB1 := hid hb1
  clear hb1
  go_enter Try.func15, Try.ntmps15
  go_wp2_with fail
  refine H1.out.mono ?_
  rintro e w1 ⟨⟨u1, rfl, hu1⟩, hb2⟩
  rw [e1.out, e2.out]
  have HB2 := hid (HB1.out.trans (hb2.mono HB1.out.size))
  clear hu1 hb2 H1 HB1 e1 e2 e3
  have hbx := HB2.out.alloc HB2.out.size (.cells #[.int .i64 300] 3)
  have e4 : putOf [(300 : Int)] = [172, 2] := by decide +kernel
  have H2 := put_any _ _ 1 [(300 : Int)] _ (Si.one w1 300 3) (by decide) (by simp)
  rw [e4] at H2
  have H2 := hid H2
  have HBX := hid hbx
  clear hbx e4
  go_wp2_with fail
  refine H2.out.mono ?_
  rintro e w2 ⟨v2, rfl, hr2, hb2⟩
  have HB3 := hid (HBX.out.trans (hb2.mono HBX.out.size))
  obtain ⟨a2, c2, rfl, hn2, hc2, hm2, hs2⟩ := hr2.sl
  have hb3 : Below w2.heap.size w2 (w2.alloc (.cells #[.int .u8 172, .int .u8 2] 5)) := (Below.refl _ _).alloc (Nat.le_refl _) _
  have H3 := hid (same_yes _ _ a2 _ c2 2 [172, 2] [172, 2] _ (hs2.below hb3) (Sl.row [172, 2] (heap_alloc_new w2 (.cells #[.int .u8 172, .int .u8 2] 5))) (by decide) rfl)
  have HB4 := hid (HB3.out.trans (hb3.mono HB3.out.size))
  clear hr2 hb2 hs2 hb3 HBX H2 hc2 hm2 hn2
  go_wp2_with fail
  refine H3.out.mono ?_
  rintro e w3 ⟨rfl, hb5⟩
  have HB5 := hid (HB4.out.trans (hb5.mono HB4.out.size))
  have H4 := hid (signed_any (-1) w3 (by decide) (by decide))
  clear hb5 H3
  go_wp2_with fail
  refine H4.out.mono ?_
  rintro e w4 ⟨v4, rfl, hr4, hb6⟩
  rw [show Var.put (Var.fold (-1)) = [1] from by decide +kernel] at hr4
  have HB6 := hid (HB5.out.trans (hb6.mono HB5.out.size))
  obtain ⟨a4, c4, rfl, hn4, hc4, hm4, hs4⟩ := hr4.sl
  have hb7 : Below w4.heap.size w4 (w4.alloc (.cells #[.int .u8 1] 5)) := (Below.refl _ _).alloc (Nat.le_refl _) _
  have H5 := hid (same_yes _ _ a4 _ c4 1 [1] [1] _ (hs4.below hb7) (Sl.row [1] (heap_alloc_new w4 (.cells #[.int .u8 1] 5))) (by decide) rfl)
  have HB7 := hid (HB6.out.trans (hb7.mono HB6.out.size))
  clear hr4 hb6 hs4 hb7 H4 hc4 hm4 hn4
  go_wp2_with fail
  refine H5.out.mono ?_
  rintro e w5 ⟨rfl, hb8⟩
  have HB8 := hid (HB7.out.trans (hb8.mono HB7.out.size))
  clear hb8 H5
  go_wp2_with fail
  go_ret
  exact ⟨rfl, HB8.out⟩
end Go.Proofs.Ytpipgbehpppjbaa
