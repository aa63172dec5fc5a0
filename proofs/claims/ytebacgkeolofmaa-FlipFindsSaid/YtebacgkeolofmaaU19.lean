/- CONTRACTS: a superblock's body, laid and read. -/
import Derived.Test.YtebacgkeolofmaaU16
import Derived.Test.YtebacgkeolofmaaU12
import Derived.Test.YtebacgkeolofmaaU9
import Derived.Test.YtebacgkeolofmaaU18
namespace Go.Proofs.Ytebacgkeolofmaa
open Go.RowKit Go.Inc

theorem sizes_any (w : World) : Calls Try.prog 57 #[] w fun x w' => x = .returned (.agg #[.int .i64 2, .int .i64 2, .int .i64 4]) ∧ Below w.heap.size w w' := by
  go_enter Try.func57, Try.ntmps57
  go_wp2_with fail
  exact bodyPost_ret (v := .agg #[.int .i64 2, .int .i64 2, .int .i64 4]) (results_cell_row rfl _ _ w.heap.size 71 _ (0, 0) _ rfl (heap_alloc_new w _) Try.underlying71 rfl (by kernel_rfl)) rfl ⟨rfl, (Below.refl _ _).alloc (Nat.le_refl _) _⟩

theorem ix_any (k : Nat) (z : Int) (w : World) (h : k = 0 ∧ z = 2 ∨ k = 1 ∧ z = 2 ∨ k = 2 ∧ z = 4) : (Instr.index 71 (.agg #[.int .i64 2, .int .i64 2, .int .i64 4]) (.int .i64 (k : Int))).run Try.prog w = .ok (.int .i64 z) w := by
  rcases h with ⟨rfl, rfl⟩ | ⟨rfl, rfl⟩ | ⟨rfl, rfl⟩ <;> kernel_rfl
/-- The body, so many numbers of it. -/
def bodyTo (r s t : Int) (k : Nat) : List Nat := match k with
  | 0 => []
  | 1 => fr2 r.toNat
  | 2 => fr2 r.toNat ++ fr2 s.toNat
  | _ => fr2 r.toNat ++ fr2 s.toNat ++ fr4 t.toNat
theorem bodyTo_len0 (r s t : Int) : (bodyTo r s t 0).length = 0 := rfl
theorem bodyTo_len1 (r s t : Int) : (bodyTo r s t 1).length = 2 := rfl
theorem bodyTo_len2 (r s t : Int) : (bodyTo r s t 2).length = 4 := rfl
set_option maxRecDepth 20000 in
set_option maxHeartbeats 4000000 in
theorem flay_any (e r s t : Int) (w : World) (h0 : 0 ≤ r) (h1 : r ≤ 4294967295) (h2 : 0 ≤ s) (h3 : s ≤ 4294967295) (h4 : 0 ≤ t) (h5 : t ≤ 4294967295) :
    Calls Try.prog 33 #[.agg #[.int .i64 e, .int .i64 r, .int .i64 s, .int .i64 t]] w fun x w' => ∃ v, x = .returned v ∧ Row 5 w.heap.size w' v (body ⟨e, r, s, t⟩) ∧ Below w.heap.size w w' := by
  have HF0 : Hid (∀ w : World, _) := hid fun w => fixed2 r w h0 h1
  have HF1 : Hid (∀ w : World, _) := hid fun w => fixed2 s w h2 h3
  have HF2 : Hid (∀ w : World, _) := hid fun w => fixed4 t w h4 h5
  clear h0 h1 h2 h3 h4 h5
  go_enter Try.func33, Try.ntmps33
  go_upto_region 3 with fail
  obtain ⟨w2, hw2⟩ : ∃ w2, w2 = (w.alloc (.cells #[.int .i64 e, .int .i64 r, .int .i64 s, .int .i64 t] 24)).alloc (.cells #[.int .i64 r, .int .i64 s, .int .i64 t] 71) := ⟨_, rfl⟩
  have HB2 : Hid (Below w.heap.size w w2) := hid (by rw [hw2]; exact ((Below.refl _ _).alloc (Nat.le_refl _) _).alloc (by simp) _)
  have HR2 : Hid (w2.heap[w.heap.size + 1]? = some (.cells #[.int .i64 r, .int .i64 s, .int .i64 t] 71 (0, 0))) := hid (by rw [hw2]; exact heap_alloc2_new w _ _)
  rw [← hw2]
  clear hw2
  go_wp2_with fail
  refine (sizes_any w2).mono ?_
  rintro x w3 ⟨rfl, hb3⟩
  have HR3 := hid (row_below HR2.out hb3)
  have HB3 : Hid (Below w.heap.size w w3) := hid (HB2.out.trans (hb3.mono HB2.out.size))
  clear hb3 HR2 HB2
  go_wp2_with fail
  go_loopw [3, 15] (fun v c wr => ∃ k : Nat, k ≤ 3 ∧ c = .int .i64 (k : Int) ∧ Row 5 w3.heap.size wr v (bodyTo r s t k) ∧ Below w3.heap.size w3 wr) (fun _ c _ => 3 - (intOf c).toNat)
  case atStart => exact ⟨0, by omega, rfl, Row.nil _ _ _, Below.refl _ _⟩
  case round =>
    obtain ⟨k, hk, rfl, hv, hb⟩ := hrel
    have hrow : wr.heap[w.heap.size + 1]? = _ := row_below HR3.out hb
    have q0 := cell_of_row wr _ 0 _ _ _ hrow
    have q1 := cell_of_row wr _ 1 _ _ _ hrow
    have q2 := cell_of_row wr _ 2 _ _ _ hrow
    have HV := hid hv
    have HB := hid hb
    clear hv hb hrow
    have hk4 : k = 0 ∨ k = 1 ∨ k = 2 ∨ k = 3 := by omega
    clear hk
    rcases hk4 with rfl | rfl | rfl | rfl
    · have hix : (Instr.index 71 (.agg #[.int .i64 2, .int .i64 2, .int .i64 4]) (.int .i64 0)).run Try.prog wr = .ok (.int .i64 2) wr := ix_any 0 2 wr (by omega)
      go_wp2_with fail
      refine (HF0.out wr).mono ?_
      rintro x w4 ⟨v4, rfl, hv4, hb4⟩
      obtain ⟨a4, c4, rfl, hn4, hc4, hm4, hs4⟩ := hv4.sl
      have HV4 := hid (HV.out.kept hb4)
      have HB4 : Hid (Below w3.heap.size w3 w4) := hid (HB.out.trans (hb4.mono HB.out.size))
      have HS4 := hid hs4
      have HN4 := hid hn4
      clear HV HB hv4 hb4 hn4 hc4 hm4 hs4 q0 q1 q2 hix
      go_wp2_with (refine wpList_append_any rfl (.tmp 19) (.tmp 24) 26 rfl w3.heap.size 5 (.int .u8 0) 1 Try.underlying26 infoU8 rfl _ _ _ rfl HV4.out a4 2 c4 (u8s (fr2 r.toNat)) rfl rfl (fun h => absurd (HS4.out.some_len h) (by show ¬ 2 = 0; decide)) HS4.out.cells (u8s_one _) (by rw [bodyTo_len0]; unfold maxLen; omega) (by rw [bodyTo_len0]; omega) HB4.out.size ?_)
      intro v5 w5 hv5 hg5 _
      have hv5' : Row 5 w3.heap.size w5 v5 (bodyTo r s t 1) := by
        unfold Row
        rw [show u8s (bodyTo r s t 1) = u8s (bodyTo r s t 0) ++ u8s (fr2 r.toNat) from by rw [← u8s_append]; rfl]
        exact hv5
      have HB5 : Hid (Below w3.heap.size w3 w5) := hid (below_owned (w0 := w3) HB4.out HV4.out (Nat.le_refl _) hg5)
      have HV5 := hid hv5'
      clear hv5 hg5 hv5' HV4 HB4 HS4 HN4
      go_wp2_with fail
      go_roundw
      case rel => exact ⟨1, by omega, rfl, HV5.out, HB5.out⟩
      case measure => simp [intOf]
    · have hix : (Instr.index 71 (.agg #[.int .i64 2, .int .i64 2, .int .i64 4]) (.int .i64 1)).run Try.prog wr = .ok (.int .i64 2) wr := ix_any 1 2 wr (by omega)
      go_wp2_with fail
      refine (HF1.out wr).mono ?_
      rintro x w4 ⟨v4, rfl, hv4, hb4⟩
      obtain ⟨a4, c4, rfl, hn4, hc4, hm4, hs4⟩ := hv4.sl
      have HV4 := hid (HV.out.kept hb4)
      have HB4 : Hid (Below w3.heap.size w3 w4) := hid (HB.out.trans (hb4.mono HB.out.size))
      have HS4 := hid hs4
      have HN4 := hid hn4
      clear HV HB hv4 hb4 hn4 hc4 hm4 hs4 q0 q1 q2 hix
      go_wp2_with (refine wpList_append_any rfl (.tmp 19) (.tmp 24) 26 rfl w3.heap.size 5 (.int .u8 0) 1 Try.underlying26 infoU8 rfl _ _ _ rfl HV4.out a4 2 c4 (u8s (fr2 s.toNat)) rfl rfl (fun h => absurd (HS4.out.some_len h) (by show ¬ 2 = 0; decide)) HS4.out.cells (u8s_one _) (by rw [bodyTo_len1]; unfold maxLen; omega) (by rw [bodyTo_len1]; omega) HB4.out.size ?_)
      intro v5 w5 hv5 hg5 _
      have hv5' : Row 5 w3.heap.size w5 v5 (bodyTo r s t 2) := by
        unfold Row
        rw [show u8s (bodyTo r s t 2) = u8s (bodyTo r s t 1) ++ u8s (fr2 s.toNat) from by rw [← u8s_append]; rfl]
        exact hv5
      have HB5 : Hid (Below w3.heap.size w3 w5) := hid (below_owned (w0 := w3) HB4.out HV4.out (Nat.le_refl _) hg5)
      have HV5 := hid hv5'
      clear hv5 hg5 hv5' HV4 HB4 HS4 HN4
      go_wp2_with fail
      go_roundw
      case rel => exact ⟨2, by omega, rfl, HV5.out, HB5.out⟩
      case measure => simp [intOf]
    · have hix : (Instr.index 71 (.agg #[.int .i64 2, .int .i64 2, .int .i64 4]) (.int .i64 2)).run Try.prog wr = .ok (.int .i64 4) wr := ix_any 2 4 wr (by omega)
      go_wp2_with fail
      refine (HF2.out wr).mono ?_
      rintro x w4 ⟨v4, rfl, hv4, hb4⟩
      obtain ⟨a4, c4, rfl, hn4, hc4, hm4, hs4⟩ := hv4.sl
      have HV4 := hid (HV.out.kept hb4)
      have HB4 : Hid (Below w3.heap.size w3 w4) := hid (HB.out.trans (hb4.mono HB.out.size))
      have HS4 := hid hs4
      have HN4 := hid hn4
      clear HV HB hv4 hb4 hn4 hc4 hm4 hs4 q0 q1 q2 hix
      go_wp2_with (refine wpList_append_any rfl (.tmp 19) (.tmp 24) 26 rfl w3.heap.size 5 (.int .u8 0) 1 Try.underlying26 infoU8 rfl _ _ _ rfl HV4.out a4 4 c4 (u8s (fr4 t.toNat)) rfl rfl (fun h => absurd (HS4.out.some_len h) (by show ¬ 4 = 0; decide)) HS4.out.cells (u8s_one _) (by rw [bodyTo_len2]; unfold maxLen; omega) (by rw [bodyTo_len2]; omega) HB4.out.size ?_)
      intro v5 w5 hv5 hg5 _
      have hv5' : Row 5 w3.heap.size w5 v5 (bodyTo r s t 3) := by
        unfold Row
        rw [show u8s (bodyTo r s t 3) = u8s (bodyTo r s t 2) ++ u8s (fr4 t.toNat) from by rw [← u8s_append]; rfl]
        exact hv5
      have HB5 : Hid (Below w3.heap.size w3 w5) := hid (below_owned (w0 := w3) HB4.out HV4.out (Nat.le_refl _) hg5)
      have HV5 := hid hv5'
      clear hv5 hg5 hv5' HV4 HB4 HS4 HN4
      go_wp2_with fail
      go_roundw
      case rel => exact ⟨3, by omega, rfl, HV5.out, HB5.out⟩
      case measure => simp [intOf]
    · go_wp2_with fail
      obtain ⟨a4, c4, rfl, hn4, hc4, hm4, hs4⟩ := HV.out.sl
      go_ret
      exact ⟨_, rfl, HV.out.weaken HB3.out.size, HB3.out.trans (HB.out.mono HB3.out.size)⟩

/-- How far the numbers are read, behind so many rounds. -/
def offN (k : Nat) : Nat := match k with | 0 => 0 | 1 => 2 | 2 => 4 | _ => 8
/-- What lies in the array behind so many rounds. -/
def arrN (bs : List Nat) (k : Nat) : Array Value := match k with
  | 0 => #[.int .i64 0, .int .i64 0, .int .i64 0]
  | 1 => #[.int .i64 (Var.num (frAt bs 0 2) : Nat), .int .i64 0, .int .i64 0]
  | 2 => #[.int .i64 (Var.num (frAt bs 0 2) : Nat), .int .i64 (Var.num (frAt bs 2 2) : Nat), .int .i64 0]
  | _ => #[.int .i64 (Var.num (frAt bs 0 2) : Nat), .int .i64 (Var.num (frAt bs 2 2) : Nat), .int .i64 (Var.num (frAt bs 4 4) : Nat)]
theorem fixErr_few {size : Nat} {bs : List Nat} (h : bs.length < size) : fixErr size bs = 4 := by unfold fixErr; rw [if_pos h]
theorem fixErr_two {bs : List Nat} (hb : Bytes bs) (h : 2 ≤ bs.length) : fixErr 2 bs = 0 := by
  unfold fixErr
  rw [if_neg (by omega), if_neg]
  have := num_lt2 (l := bs.take 2) (by rw [List.length_take]; omega) (hb.take 2)
  omega
theorem fixErr_four {bs : List Nat} (hb : Bytes bs) (h : 4 ≤ bs.length) : fixErr 4 bs = 0 := by
  unfold fixErr
  rw [if_neg (by omega), if_neg]
  have := num_lt4 (l := bs.take 4) (by rw [List.length_take]; omega) (hb.take 4)
  omega
theorem res37 (w : World) (g : Nat) (cs : Array Value) (tmps : Array Value) (h2 : tmps.getD 2 undef = .pointer (some ⟨g, 0, none⟩)) (hg : w.heap[g]? = some (.cells cs 71 (0, 0))) (hs : cs.size = 3) :
    (results Try.f37 tmps).run Try.prog w = .ok (.tuple #[.agg cs, tmps.getD 3 undef]) w :=
  res_cell_tmp rfl tmps w g 71 cs (0, 0) _ h2 hg Try.underlying71 rfl (by rw [hs]; kernel_rfl)
def NumAns (bs : List Nat) (x : Ending) : Prop := ∃ z0 z1 z2 : Int, x = .returned (.tuple #[.agg #[.int .i64 z0, .int .i64 z1, .int .i64 z2], .bool (decide (bs.length = 8))]) ∧
  (bs.length = 8 → z0 = (Var.num (frAt bs 0 2) : Nat) ∧ z1 = (Var.num (frAt bs 2 2) : Nat) ∧ z2 = (Var.num (frAt bs 4 4) : Nat))
theorem NumAns.few {bs : List Nat} (h : bs.length < 8) : NumAns bs (.returned (.tuple #[.agg #[.int .i64 0, .int .i64 0, .int .i64 0], .bool false])) :=
  ⟨0, 0, 0, by rw [decide_eq_false (by omega)], fun h8 => by omega⟩
set_option maxRecDepth 20000 in
set_option maxHeartbeats 4000000 in
theorem numbers_any (ok : Nat → Prop) (a : Option Addr) (c : Nat) (bs : List Nat) (w : World) (hs : Sl ok w a bs) (hby : Bytes bs) (hc : bs.length ≤ c ∧ c ≤ maxLen) (hn : a = none → c = 0) (hl : bs.length ≤ 1000) :
    Calls Try.prog 37 #[.slice a bs.length c] w fun x w' => NumAns bs x ∧ Below w.heap.size w w' := by
  obtain ⟨w2, hw2⟩ : ∃ w2, w2 = (w.alloc (.cells #[.int .i64 0, .int .i64 0, .int .i64 0] 71)).alloc (.cells #[.int .i64 0, .int .i64 0, .int .i64 0] 71) := ⟨_, rfl⟩
  have hb2 : Below w.heap.size w w2 := by rw [hw2]; exact ((Below.refl _ _).alloc (Nat.le_refl _) _).alloc (by simp) _
  have HR2 : Hid (w2.heap[w.heap.size]? = some (.cells (arrN bs 0) 71 (0, 0))) := hid (by rw [hw2]; exact heap_alloc2_old w _ _)
  have HL2 : Hid (w2.heap[w.heap.size + 1]? = some (.cells (arrN bs 0) 71 (0, 0))) := hid (by rw [hw2]; exact heap_alloc2_new w _ _)
  have HS2 : Hid (Bb (fun b => b < w.heap.size) w2 (.slice a bs.length c) bs) := hid ⟨a, c, rfl, (hs.mono fun b _ h => h).below hb2, hc.1, hc.2, hn⟩
  have HB2 := hid hb2
  have HW2 := hid hw2
  have HBY := hid hby
  have HLL := hid hl
  clear hs hby hc hn hl hb2 hw2
  go_enter Try.func37, Try.ntmps37
  go_upto_region 2 with fail
  rw [← HW2.out]
  go_wp2_with fail
  refine (sizes_any w2).mono ?_
  rintro x w3 ⟨rfl, hb3⟩
  have HR3 := hid (row_below HR2.out hb3)
  have HL3 := hid (row_below HL2.out hb3)
  have HS3 := hid (HS2.out.below hb3)
  have HB3 : Hid (Below w.heap.size w w3) := hid (HB2.out.trans (hb3.mono HB2.out.size))
  clear hb3 HR2 HL2 HS2 HB2 HW2
  go_wp2_with fail
  go_loopw [0, 11] (fun b i wr => ∃ k : Nat, k ≤ 3 ∧ i = .int .i64 (k : Int) ∧ offN k ≤ bs.length ∧ Bb (fun _ => True) wr b (bs.drop (offN k)) ∧ wr.heap[w.heap.size]? = some (.cells (arrN bs 0) 71 (0, 0)) ∧ wr.heap[w.heap.size + 1]? = some (.cells (arrN bs k) 71 (0, 0)) ∧ Below w.heap.size w wr) (fun _ i _ => 3 - (intOf i).toNat)
  case atStart => exact ⟨0, by omega, rfl, Nat.zero_le _, HS3.out.mono fun _ _ _ => trivial, HR3.out, HL3.out, HB3.out⟩
  case round =>
    obtain ⟨k, hk, rfl, hoff, hbb, hr, hl, hb⟩ := hrel
    have HR := hid hr
    have HLW := hid hl
    have HB := hid hb
    clear hr hl hb HR3 HL3 HS3 HB3
    have hk4 : k = 0 ∨ k = 1 ∨ k = 2 ∨ k = 3 := by omega
    clear hk
    rcases hk4 with rfl | rfl | rfl | rfl
    · obtain ⟨x0, hx0⟩ : ∃ x0, x0 = bs.drop (offN 0) := ⟨_, rfl⟩
      obtain ⟨x1, hx1⟩ : ∃ x1, x1 = bs.drop (offN 1) := ⟨_, rfl⟩
      rw [← hx0] at hbb
      obtain ⟨a', c', rfl, hs', hc1, hc2, hn'⟩ := hbb
      have hlo : 0 ≤ bs.length := hoff
      have hdl : x0.length = bs.length - 0 := by rw [hx0, List.length_drop]; rfl
      have hby0 : Bytes x0 := by rw [hx0]; exact HBY.out.drop _
      have HG : Hid (Calls Try.prog 61 #[.slice a' x0.length c', .int .i64 2] wr fun e w' => Ans (.int .i64 (fixVal 2 x0 : Nat)) (fixErr 2 x0) (fixRest 2 x0) wr.heap.size e w' ∧ Below wr.heap.size wr w') :=
        hid (getFixed_good _ a' c' 2 x0 wr hs' ⟨hc1, hc2⟩ hn' hby0 (by have := HLL.out; omega) (by decide) (by decide))
      have hix : (Instr.index 71 (.agg #[.int .i64 2, .int .i64 2, .int .i64 4]) (.int .i64 0)).run Try.prog wr = .ok (.int .i64 2) wr := ix_any 0 2 wr (by omega)
      have HLT : Hid (w.heap.size + 1 < wr.heap.size) := hid (row_lt HLW.out)
      have HFE : Hid (if bs.length < 0 + 2 then fixErr 2 x0 = 4 ∧ bs.length < 8 else fixErr 2 x0 = 0 ∧ fixVal 2 x0 = Var.num (frAt bs 0 2) ∧ fixRest 2 x0 = x1 ∧ offN 1 ≤ bs.length) := hid (by
        split
        · exact ⟨fixErr_few (by omega), by omega⟩
        · have hE : fixErr 2 x0 = 0 := fixErr_two hby0 (by omega)
          refine ⟨hE, ?_, ?_, show 2 ≤ bs.length by omega⟩
          · unfold fixVal; rw [if_pos hE, hx0]; rfl
          · unfold fixRest; rw [if_pos hE, hx0, hx1, List.drop_drop]; rfl)
      have HX1 := hid hx1
      clear hs' hc1 hc2 hn' hoff hlo hdl hby0 hx0 hx1
      go_wp2_with fail
      refine HG.out.mono ?_
      clear HG hix
      rintro x w4 ⟨⟨v4, rfl, hv4⟩, hb4⟩
      have HR4 := hid (row_below HR.out hb4)
      have hl4 : w4.heap[w.heap.size + 1]? = some (.cells (arrN bs 0) 71 (0, 0)) := row_below HLW.out hb4
      have HB4 : Hid (Below w.heap.size w w4) := hid (HB.out.trans (hb4.mono HB.out.size))
      clear hb4 HR HLW HB
      by_cases hfew : bs.length < 0 + 2
      · have hE : fixErr 2 x0 = 4 ∧ bs.length < 8 := by have h := HFE.out; rwa [if_pos hfew] at h
        rw [hE.1]
        have HFEW := hid hE.2
        clear hl4 hv4 hfew hE HFE
        go_upto_region 7 with fail
        refine wp_region_lit ?_
        refine wpList_plain rfl fun K hK => ?_
        go_simp
        refine hK _ _ ?_
        refine wpList_store_own rfl 71 _ _ rfl w.heap.size #[.int .i64 0, .int .i64 0, .int .i64 0] rfl rfl 71 _ HR4.out (by kernel_rfl) rfl (by simp [Value.oneCell']) ?_
        intro w9 hr9 hg9
        have HR9 := hid hr9
        have HB9 : Hid (Below w.heap.size w w9) := hid (below_grown HB4.out hg9 (Nat.le_refl _) HB4.out.size)
        clear hr9 hg9
        go_wp2_with fail
        exact bodyPost_ret (v := .tuple #[.agg #[.int .i64 0, .int .i64 0, .int .i64 0], .bool false]) (res37 _ _ _ _ rfl HR9.out rfl) rfl ⟨NumAns.few HFEW.out, HB9.out⟩
      · have hE : fixErr 2 x0 = 0 ∧ fixVal 2 x0 = Var.num (frAt bs 0 2) ∧ fixRest 2 x0 = x1 ∧ offN 1 ≤ bs.length := by have h := HFE.out; rwa [if_neg hfew] at h
        rw [hE.1, hE.2.1]
        rw [hE.2.2.1] at hv4
        have HOFF := hid hE.2.2.2
        have hfz := frozen_of_row w4 (w.heap.size + 1) 0 _ _ hl4
        have q0 : w4.cell? ⟨w.heap.size + 1, 0, none⟩ = some (.int .i64 0) := cell_of_row w4 _ 0 _ _ _ hl4
        have HW5 : Hid (∀ n : Nat, n = Var.num (frAt bs 0 2) → Bb (fun _ => True) (w4.setCell ⟨w.heap.size + 1, 0, none⟩ (.int .i64 (n : Int))) v4 x1 ∧ (w4.setCell ⟨w.heap.size + 1, 0, none⟩ (.int .i64 (n : Int))).heap[w.heap.size]? = some (.cells (arrN bs 0) 71 (0, 0)) ∧ (w4.setCell ⟨w.heap.size + 1, 0, none⟩ (.int .i64 (n : Int))).heap[w.heap.size + 1]? = some (.cells (arrN bs 1) 71 (0, 0)) ∧ Below w.heap.size w (w4.setCell ⟨w.heap.size + 1, 0, none⟩ (.int .i64 (n : Int)))) := hid fun n hn => by
          subst hn
          have hg5 : w4.grownBy (w4.setCell ⟨w.heap.size + 1, 0, none⟩ (.int .i64 (Var.num (frAt bs 0 2) : Nat))) (some (w.heap.size + 1)) := grown_setCell (grown_refl _ _) (.inl rfl) _
          obtain ⟨a5, c5, rfl, hn5, hc5, hm5, hs5⟩ := hv4.sl
          have hlt : w.heap.size + 1 < wr.heap.size := HLT.out
          refine ⟨⟨a5, c5, rfl, (hs5.grown hg5 (fun b hb => by omega)).mono fun _ _ _ => trivial, hc5, hm5, hn5⟩, row_grown HR4.out hg5 (by simp), row_set hl4 0 _ (by simp [arrN]), below_grown HB4.out hg5 (by omega) HB4.out.size⟩
        obtain ⟨a5, c5, rfl, hn5, hc5, hm5, hs5⟩ := hv4.sl
        clear hl4 hfew hE hn5 hc5 hm5 hs5 HR4 HB4 HFE hv4 HLT
        obtain ⟨N, hN⟩ : ∃ N, N = Var.num (frAt bs 0 2) := ⟨_, rfl⟩
        rw [← hN]
        have HW6 := hid (HW5.out N hN)
        clear hN HW5
        go_wp2_with fail
        go_roundw
        case rel => exact ⟨1, by omega, rfl, HOFF.out, by rw [← HX1.out]; exact HW6.out.1, HW6.out.2.1, HW6.out.2.2.1, HW6.out.2.2.2⟩
        case measure => simp [intOf]
    · obtain ⟨x0, hx0⟩ : ∃ x0, x0 = bs.drop (offN 1) := ⟨_, rfl⟩
      obtain ⟨x1, hx1⟩ : ∃ x1, x1 = bs.drop (offN 2) := ⟨_, rfl⟩
      rw [← hx0] at hbb
      obtain ⟨a', c', rfl, hs', hc1, hc2, hn'⟩ := hbb
      have hlo : 2 ≤ bs.length := hoff
      have hdl : x0.length = bs.length - 2 := by rw [hx0, List.length_drop]; rfl
      have hby0 : Bytes x0 := by rw [hx0]; exact HBY.out.drop _
      have HG : Hid (Calls Try.prog 61 #[.slice a' x0.length c', .int .i64 2] wr fun e w' => Ans (.int .i64 (fixVal 2 x0 : Nat)) (fixErr 2 x0) (fixRest 2 x0) wr.heap.size e w' ∧ Below wr.heap.size wr w') :=
        hid (getFixed_good _ a' c' 2 x0 wr hs' ⟨hc1, hc2⟩ hn' hby0 (by have := HLL.out; omega) (by decide) (by decide))
      have hix : (Instr.index 71 (.agg #[.int .i64 2, .int .i64 2, .int .i64 4]) (.int .i64 1)).run Try.prog wr = .ok (.int .i64 2) wr := ix_any 1 2 wr (by omega)
      have HLT : Hid (w.heap.size + 1 < wr.heap.size) := hid (row_lt HLW.out)
      have HFE : Hid (if bs.length < 2 + 2 then fixErr 2 x0 = 4 ∧ bs.length < 8 else fixErr 2 x0 = 0 ∧ fixVal 2 x0 = Var.num (frAt bs 2 2) ∧ fixRest 2 x0 = x1 ∧ offN 2 ≤ bs.length) := hid (by
        split
        · exact ⟨fixErr_few (by omega), by omega⟩
        · have hE : fixErr 2 x0 = 0 := fixErr_two hby0 (by omega)
          refine ⟨hE, ?_, ?_, show 4 ≤ bs.length by omega⟩
          · unfold fixVal; rw [if_pos hE, hx0]; rfl
          · unfold fixRest; rw [if_pos hE, hx0, hx1, List.drop_drop]; rfl)
      have HX1 := hid hx1
      clear hs' hc1 hc2 hn' hoff hlo hdl hby0 hx0 hx1
      go_wp2_with fail
      refine HG.out.mono ?_
      clear HG hix
      rintro x w4 ⟨⟨v4, rfl, hv4⟩, hb4⟩
      have HR4 := hid (row_below HR.out hb4)
      have hl4 : w4.heap[w.heap.size + 1]? = some (.cells (arrN bs 1) 71 (0, 0)) := row_below HLW.out hb4
      have HB4 : Hid (Below w.heap.size w w4) := hid (HB.out.trans (hb4.mono HB.out.size))
      clear hb4 HR HLW HB
      by_cases hfew : bs.length < 2 + 2
      · have hE : fixErr 2 x0 = 4 ∧ bs.length < 8 := by have h := HFE.out; rwa [if_pos hfew] at h
        rw [hE.1]
        have HFEW := hid hE.2
        clear hl4 hv4 hfew hE HFE
        go_upto_region 7 with fail
        refine wp_region_lit ?_
        refine wpList_plain rfl fun K hK => ?_
        go_simp
        refine hK _ _ ?_
        refine wpList_store_own rfl 71 _ _ rfl w.heap.size #[.int .i64 0, .int .i64 0, .int .i64 0] rfl rfl 71 _ HR4.out (by kernel_rfl) rfl (by simp [Value.oneCell']) ?_
        intro w9 hr9 hg9
        have HR9 := hid hr9
        have HB9 : Hid (Below w.heap.size w w9) := hid (below_grown HB4.out hg9 (Nat.le_refl _) HB4.out.size)
        clear hr9 hg9
        go_wp2_with fail
        exact bodyPost_ret (v := .tuple #[.agg #[.int .i64 0, .int .i64 0, .int .i64 0], .bool false]) (res37 _ _ _ _ rfl HR9.out rfl) rfl ⟨NumAns.few HFEW.out, HB9.out⟩
      · have hE : fixErr 2 x0 = 0 ∧ fixVal 2 x0 = Var.num (frAt bs 2 2) ∧ fixRest 2 x0 = x1 ∧ offN 2 ≤ bs.length := by have h := HFE.out; rwa [if_neg hfew] at h
        rw [hE.1, hE.2.1]
        rw [hE.2.2.1] at hv4
        have HOFF := hid hE.2.2.2
        have hfz := frozen_of_row w4 (w.heap.size + 1) 1 _ _ hl4
        have q0 : w4.cell? ⟨w.heap.size + 1, 1, none⟩ = some (.int .i64 0) := cell_of_row w4 _ 1 _ _ _ hl4
        have HW5 : Hid (∀ n : Nat, n = Var.num (frAt bs 2 2) → Bb (fun _ => True) (w4.setCell ⟨w.heap.size + 1, 1, none⟩ (.int .i64 (n : Int))) v4 x1 ∧ (w4.setCell ⟨w.heap.size + 1, 1, none⟩ (.int .i64 (n : Int))).heap[w.heap.size]? = some (.cells (arrN bs 0) 71 (0, 0)) ∧ (w4.setCell ⟨w.heap.size + 1, 1, none⟩ (.int .i64 (n : Int))).heap[w.heap.size + 1]? = some (.cells (arrN bs 2) 71 (0, 0)) ∧ Below w.heap.size w (w4.setCell ⟨w.heap.size + 1, 1, none⟩ (.int .i64 (n : Int)))) := hid fun n hn => by
          subst hn
          have hg5 : w4.grownBy (w4.setCell ⟨w.heap.size + 1, 1, none⟩ (.int .i64 (Var.num (frAt bs 2 2) : Nat))) (some (w.heap.size + 1)) := grown_setCell (grown_refl _ _) (.inl rfl) _
          obtain ⟨a5, c5, rfl, hn5, hc5, hm5, hs5⟩ := hv4.sl
          have hlt : w.heap.size + 1 < wr.heap.size := HLT.out
          refine ⟨⟨a5, c5, rfl, (hs5.grown hg5 (fun b hb => by omega)).mono fun _ _ _ => trivial, hc5, hm5, hn5⟩, row_grown HR4.out hg5 (by simp), row_set hl4 1 _ (by simp [arrN]), below_grown HB4.out hg5 (by omega) HB4.out.size⟩
        obtain ⟨a5, c5, rfl, hn5, hc5, hm5, hs5⟩ := hv4.sl
        clear hl4 hfew hE hn5 hc5 hm5 hs5 HR4 HB4 HFE hv4 HLT
        obtain ⟨N, hN⟩ : ∃ N, N = Var.num (frAt bs 2 2) := ⟨_, rfl⟩
        rw [← hN]
        have HW6 := hid (HW5.out N hN)
        clear hN HW5
        go_wp2_with fail
        go_roundw
        case rel => exact ⟨2, by omega, rfl, HOFF.out, by rw [← HX1.out]; exact HW6.out.1, HW6.out.2.1, HW6.out.2.2.1, HW6.out.2.2.2⟩
        case measure => simp [intOf]
    · obtain ⟨x0, hx0⟩ : ∃ x0, x0 = bs.drop (offN 2) := ⟨_, rfl⟩
      obtain ⟨x1, hx1⟩ : ∃ x1, x1 = bs.drop (offN 3) := ⟨_, rfl⟩
      rw [← hx0] at hbb
      obtain ⟨a', c', rfl, hs', hc1, hc2, hn'⟩ := hbb
      have hlo : 4 ≤ bs.length := hoff
      have hdl : x0.length = bs.length - 4 := by rw [hx0, List.length_drop]; rfl
      have hby0 : Bytes x0 := by rw [hx0]; exact HBY.out.drop _
      have HG : Hid (Calls Try.prog 61 #[.slice a' x0.length c', .int .i64 4] wr fun e w' => Ans (.int .i64 (fixVal 4 x0 : Nat)) (fixErr 4 x0) (fixRest 4 x0) wr.heap.size e w' ∧ Below wr.heap.size wr w') :=
        hid (getFixed_good _ a' c' 4 x0 wr hs' ⟨hc1, hc2⟩ hn' hby0 (by have := HLL.out; omega) (by decide) (by decide))
      have hix : (Instr.index 71 (.agg #[.int .i64 2, .int .i64 2, .int .i64 4]) (.int .i64 2)).run Try.prog wr = .ok (.int .i64 4) wr := ix_any 2 4 wr (by omega)
      have HLT : Hid (w.heap.size + 1 < wr.heap.size) := hid (row_lt HLW.out)
      have HFE : Hid (if bs.length < 4 + 4 then fixErr 4 x0 = 4 ∧ bs.length < 8 else fixErr 4 x0 = 0 ∧ fixVal 4 x0 = Var.num (frAt bs 4 4) ∧ fixRest 4 x0 = x1 ∧ offN 3 ≤ bs.length) := hid (by
        split
        · exact ⟨fixErr_few (by omega), by omega⟩
        · have hE : fixErr 4 x0 = 0 := fixErr_four hby0 (by omega)
          refine ⟨hE, ?_, ?_, show 8 ≤ bs.length by omega⟩
          · unfold fixVal; rw [if_pos hE, hx0]; rfl
          · unfold fixRest; rw [if_pos hE, hx0, hx1, List.drop_drop]; rfl)
      have HX1 := hid hx1
      clear hs' hc1 hc2 hn' hoff hlo hdl hby0 hx0 hx1
      go_wp2_with fail
      refine HG.out.mono ?_
      clear HG hix
      rintro x w4 ⟨⟨v4, rfl, hv4⟩, hb4⟩
      have HR4 := hid (row_below HR.out hb4)
      have hl4 : w4.heap[w.heap.size + 1]? = some (.cells (arrN bs 2) 71 (0, 0)) := row_below HLW.out hb4
      have HB4 : Hid (Below w.heap.size w w4) := hid (HB.out.trans (hb4.mono HB.out.size))
      clear hb4 HR HLW HB
      by_cases hfew : bs.length < 4 + 4
      · have hE : fixErr 4 x0 = 4 ∧ bs.length < 8 := by have h := HFE.out; rwa [if_pos hfew] at h
        rw [hE.1]
        have HFEW := hid hE.2
        clear hl4 hv4 hfew hE HFE
        go_upto_region 7 with fail
        refine wp_region_lit ?_
        refine wpList_plain rfl fun K hK => ?_
        go_simp
        refine hK _ _ ?_
        refine wpList_store_own rfl 71 _ _ rfl w.heap.size #[.int .i64 0, .int .i64 0, .int .i64 0] rfl rfl 71 _ HR4.out (by kernel_rfl) rfl (by simp [Value.oneCell']) ?_
        intro w9 hr9 hg9
        have HR9 := hid hr9
        have HB9 : Hid (Below w.heap.size w w9) := hid (below_grown HB4.out hg9 (Nat.le_refl _) HB4.out.size)
        clear hr9 hg9
        go_wp2_with fail
        exact bodyPost_ret (v := .tuple #[.agg #[.int .i64 0, .int .i64 0, .int .i64 0], .bool false]) (res37 _ _ _ _ rfl HR9.out rfl) rfl ⟨NumAns.few HFEW.out, HB9.out⟩
      · have hE : fixErr 4 x0 = 0 ∧ fixVal 4 x0 = Var.num (frAt bs 4 4) ∧ fixRest 4 x0 = x1 ∧ offN 3 ≤ bs.length := by have h := HFE.out; rwa [if_neg hfew] at h
        rw [hE.1, hE.2.1]
        rw [hE.2.2.1] at hv4
        have HOFF := hid hE.2.2.2
        have hfz := frozen_of_row w4 (w.heap.size + 1) 2 _ _ hl4
        have q0 : w4.cell? ⟨w.heap.size + 1, 2, none⟩ = some (.int .i64 0) := cell_of_row w4 _ 2 _ _ _ hl4
        have HW5 : Hid (∀ n : Nat, n = Var.num (frAt bs 4 4) → Bb (fun _ => True) (w4.setCell ⟨w.heap.size + 1, 2, none⟩ (.int .i64 (n : Int))) v4 x1 ∧ (w4.setCell ⟨w.heap.size + 1, 2, none⟩ (.int .i64 (n : Int))).heap[w.heap.size]? = some (.cells (arrN bs 0) 71 (0, 0)) ∧ (w4.setCell ⟨w.heap.size + 1, 2, none⟩ (.int .i64 (n : Int))).heap[w.heap.size + 1]? = some (.cells (arrN bs 3) 71 (0, 0)) ∧ Below w.heap.size w (w4.setCell ⟨w.heap.size + 1, 2, none⟩ (.int .i64 (n : Int)))) := hid fun n hn => by
          subst hn
          have hg5 : w4.grownBy (w4.setCell ⟨w.heap.size + 1, 2, none⟩ (.int .i64 (Var.num (frAt bs 4 4) : Nat))) (some (w.heap.size + 1)) := grown_setCell (grown_refl _ _) (.inl rfl) _
          obtain ⟨a5, c5, rfl, hn5, hc5, hm5, hs5⟩ := hv4.sl
          have hlt : w.heap.size + 1 < wr.heap.size := HLT.out
          refine ⟨⟨a5, c5, rfl, (hs5.grown hg5 (fun b hb => by omega)).mono fun _ _ _ => trivial, hc5, hm5, hn5⟩, row_grown HR4.out hg5 (by simp), row_set hl4 2 _ (by simp [arrN]), below_grown HB4.out hg5 (by omega) HB4.out.size⟩
        obtain ⟨a5, c5, rfl, hn5, hc5, hm5, hs5⟩ := hv4.sl
        clear hl4 hfew hE hn5 hc5 hm5 hs5 HR4 HB4 HFE hv4 HLT
        obtain ⟨N, hN⟩ : ∃ N, N = Var.num (frAt bs 4 4) := ⟨_, rfl⟩
        rw [← hN]
        have HW6 := hid (HW5.out N hN)
        clear hN HW5
        go_wp2_with fail
        go_roundw
        case rel => exact ⟨3, by omega, rfl, HOFF.out, by rw [← HX1.out]; exact HW6.out.1, HW6.out.2.1, HW6.out.2.2.1, HW6.out.2.2.2⟩
        case measure => simp [intOf]
    · obtain ⟨x0, hx0⟩ : ∃ x0, x0 = bs.drop (offN 3) := ⟨_, rfl⟩
      rw [← hx0] at hbb
      obtain ⟨a', c', rfl, hs', hc1, hc2, hn'⟩ := hbb
      have hdl : x0.length = bs.length - 8 := by rw [hx0, List.length_drop]; rfl
      have h8' : 8 ≤ bs.length := hoff
      have HBL : Hid ((((x0.length : Nat) : Int) == 0) = decide (bs.length = 8)) := hid (by
        by_cases h : bs.length = 8
        · rw [decide_eq_true h, beq_iff_eq]; omega
        · rw [decide_eq_false h, beq_eq_false_iff_ne]; omega)
      clear hs' hc1 hc2 hn' hoff hdl hx0 h8'
      generalize x0.length = m at *
      go_upto_region 10 with fail
      refine wp_region_lit ?_
      refine wpList_load_row rfl 71 _ rfl (w.heap.size + 1) rfl 71 _ _ _ HLW.out Try.underlying71 rfl (by kernel_rfl) ?_
      refine wpList_plain rfl fun K hK => ?_
      go_simp
      refine hK _ _ ?_
      refine wpList_plain rfl fun K hK => ?_
      go_simp
      refine hK _ _ ?_
      refine wpList_plain rfl fun K hK => ?_
      go_simp
      refine hK _ _ ?_
      refine wpList_store_own rfl 71 _ _ rfl w.heap.size (arrN bs 3) rfl rfl 71 _ HR.out (by kernel_rfl) rfl (by simp [Value.oneCell', arrN]) ?_
      intro w9 hr9 hg9
      have HR9 := hid hr9
      have HB9 : Hid (Below w.heap.size w w9) := hid (below_grown HB.out hg9 (Nat.le_refl _) HB.out.size)
      clear hr9 hg9
      go_wp2_with fail
      refine bodyPost_ret (v := .tuple #[.agg (arrN bs 3), .bool ((m : Int) == 0)]) (res37 _ _ _ _ rfl HR9.out rfl) rfl ⟨?_, HB9.out⟩
      rw [HBL.out]
      exact ⟨_, _, _, rfl, fun _ => ⟨rfl, rfl, rfl⟩⟩
end Go.Proofs.Ytebacgkeolofmaa
