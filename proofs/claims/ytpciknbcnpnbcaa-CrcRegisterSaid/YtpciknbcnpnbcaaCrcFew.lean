/- CONTRACTS OF THE LAWS' SMALL FUNCTIONS: the known examples hold; at most twelve parts of at most 100 bytes. -/
import Derived.Test.YtpciknbcnpnbcaaCrcB
import Derived.Deep.QuietTactic
import Derived.BigQuiet
namespace Go.Proofs.Ytpciknbcnpnbcaa
open Go.RowKit Go.Inc

set_option maxHeartbeats 1000000 in
theorem known_any (w : World) : Calls Try.prog 8 #[] w fun e w' => e = .returned (.bool true) ∧ Below w.heap.size w w' := by
  go_enter Try.func8, Try.ntmps8
  go_wp2_with (refine wpList_convert_bytes rfl 23 5 _ rfl Try.underlying23 Try.underlying5 w.heap.size 9 9 rfl _ 5 (heap_alloc_new w _) ?_)
  intro w1 f1 f2 hrow hg1
  have hs1 := Sl.row [49, 50, 51, 52, 53, 54, 55, 56, 57] hrow
  have hb1 : Below w.heap.size w w1 := below_grown ((Below.refl w.heap.size w).alloc (Nat.le_refl _) _) hg1 (Nat.le_refl _) (by simp)
  have hpt := Pt.one hs1 (by intro x hx; simp at hx; omega) 9 (by decide) 23
  have H := hid (sum_any _ 1 _ _ _ hpt (by decide) (by decide))
  have hb2 : Below w.heap.size w (w1.alloc (.cells #[.slice (some ⟨w.heap.size, 0, none⟩) 9 9] 23)) := hb1.alloc hb1.size _
  have HB2 := hid hb2
  have HZ := hid hb2.size
  have e1 : Hid (Crc.sum [[49, 50, 51, 52, 53, 54, 55, 56, 57]].flatten = 3808858755) := hid (by decide +kernel)
  have e2 : Hid (Crc.sum (List.flatten []) = 0) := hid (by decide +kernel)
  clear hs1 hrow hg1 hpt hb1 hb2
  go_wp2_with fail
  refine H.out.mono ?_
  rintro e w2 ⟨rfl, hb3⟩
  rw [e1.out]
  have hb4 := HB2.out.trans (hb3.mono HZ.out)
  have H2 := hid (sum_any (fun _ => True) 0 none [] w2 (Pt.nil _ _ _) (by decide) (by decide))
  go_wp2_with fail
  refine H2.out.mono ?_
  rintro e w3 ⟨rfl, hb5⟩
  rw [e2.out]
  have hb6 := hb4.trans (hb5.mono hb4.size)
  go_wp2_with fail
  go_ret
  exact ⟨rfl, hb6⟩
theorem infoSl : (Try.prog.info? 23).map (fun i => (i.zero, i.size, i.bytes)) = some (some (.slice none 0 0), 1, 24) := by kernel_rfl
theorem infoU8 : (Try.prog.info? 5).map (fun i => (i.zero, i.size, i.bytes)) = some (some (.int .u8 0), 1, 1) := by kernel_rfl

/-- The law's parts: at most twelve, of at most 100 bytes. -/
def cutParts (ps : List (List Nat)) : List (List Nat) := (ps.take 12).map (List.take 100)
def fewTo (ps : List (List Nat)) (k : Nat) : List (List Nat) := (ps.take k).map (List.take 100)
def fewVals (ps : List (List Nat)) (A : Nat → Option Addr) (C : Nat → Nat) (k : Nat) : List Value := (List.range k).map fun j => .slice (A j) (min (ps.getD j []).length 100) (C j)
/-- All their bytes. -/
def fewAll (ps : List (List Nat)) (k : Nat) : List Nat := (fewTo ps k).flatten
theorem fewVals_succ (ps : List (List Nat)) (A : Nat → Option Addr) (C : Nat → Nat) (k : Nat) : fewVals ps A C (k + 1) = fewVals ps A C k ++ [.slice (A k) (min (ps.getD k []).length 100) (C k)] := by
  simp [fewVals, List.range_succ]
theorem fewTo_succ {ps : List (List Nat)} {k : Nat} (h : k < ps.length) : (fewAll ps (k + 1)) = (fewAll ps k) ++ (ps.getD k []).take 100 := by
  simp only [fewAll, fewTo]
  rw [List.take_succ_eq_append_getElem h, List.getD_eq_getElem?_getD, List.getElem?_eq_getElem h, List.map_append, List.flatten_append]
  simp
theorem fewTo_len (ps : List (List Nat)) (k : Nat) : (fewAll ps k).length ≤ 100 * k := by
  induction k with
  | zero => simp [fewAll, fewTo]
  | succ k ih =>
    by_cases h : k < ps.length
    · rw [fewTo_succ h, List.length_append, List.length_take]; omega
    · have : fewAll ps (k + 1) = fewAll ps k := by
        unfold fewAll fewTo
        rw [List.take_of_length_le (by omega), List.take_of_length_le (by omega)]
      rw [this]; omega
theorem owns_step {w : World} {B e n m : Nat} {v : Value} {a c : List Nat} (h : w.ownsRow B e 1 v (n + m) (u8s a ++ u8s c)) (hn : n = a.length) (hm : m = c.length) : w.ownsRow B e 1 v (a ++ c).length (u8s (a ++ c)) := by
  rw [u8s_append, List.length_append, ← hn, ← hm]; exact h
set_option maxHeartbeats 2000000 in
theorem few_some (ok : Nat → Prop) (b o cap : Nat) (ps : List (List Nat)) (A : Nat → Option Addr) (C : Nat → Nat) (w : World)
    (hp : Parts ok w b o ps A C) (hl : (ps.length : Int) ≤ 9223372036854775807) :
    Calls Try.prog 7 #[.slice (some ⟨b, o, none⟩) ps.length cap] w fun e w' => ∃ v4 v5 k, k ≤ 12 ∧ k ≤ ps.length ∧ (k < 12 → k = ps.length) ∧ e = .returned (.tuple #[v4, v5]) ∧ Below w.heap.size w w' ∧
      w'.ownsRow w.heap.size 23 1 v4 k (fewVals ps A C k) ∧ w'.ownsRow w.heap.size 5 1 v5 (fewAll ps k).length (u8s (fewAll ps k)) := by
  have HP := hid hp
  clear hp
  go_enter Try.func7, Try.ntmps7
  go_wp2
  go_loopw [4, 5, 6] (fun v4 v5 i wr => ∃ k : Nat, k ≤ ps.length ∧ k ≤ 12 ∧ i = .int .i64 k ∧ Below w.heap.size w wr ∧
     wr.ownsRow w.heap.size 23 1 v4 k (fewVals ps A C k) ∧ wr.ownsRow w.heap.size 5 1 v5 (fewAll ps k).length (u8s (fewAll ps k))) (fun _ _ i _ => ps.length - (intOf i).toNat)
  case atStart => exact ⟨0, by omega, by omega, rfl, Below.refl _ _, World.ownsRow_nil _ _ _ _, World.ownsRow_nil _ _ _ _⟩
  case round =>
    obtain ⟨k, hk, hk12, rfl, hbel, ho4, ho5⟩ := hrel
    have HO4 := hid ho4
    have HO5 := hid ho5
    clear ho4 ho5
    by_cases hlt : (k : Int) < ps.length
    · by_cases h12 : (k : Int) < 12
      · have hcell : wr.cell? ⟨b, o + k, none⟩ = some (.slice (A k) (ps.getD k []).length (C k)) := by
          rw [hbel.cell (cell_lt (HP.out.cell k (by omega)))]; exact HP.out.cell k (by omega)
        have hLC := HP.out.cap k (by omega)
        have hLC1 : ((ps.getD k []).length : Int) ≤ C k := by omega
        have hS4 := hid (fewVals_succ ps A C k)
        have hS5 := hid (fewTo_succ (ps := ps) (k := k) (by omega))
        have hT5 := fewTo_len ps k
        have hsl : Hid (Sl ok w (A k) ((ps.getD k []).take 100)) := hid ((HP.out.sl k (by omega)).front 100)
        have hM : Hid (((ps.getD k []).take 100).length = min (ps.getD k []).length 100) := hid (by rw [List.length_take, Nat.min_comm])
        generalize ps.getD k [] = p at *
        generalize hL : p.length = L at *
        have HL := hid hL
        clear hL hLC
        generalize p.take 100 = p' at *
        generalize A k = ak at *
        generalize C k = ck at *
        rcases (show ((L : Int) ≤ 100 ∧ Hid (p'.length = L ∧ min L 100 = L)) ∨ ((100 : Int) < L ∧ Hid (p'.length = 100 ∧ min L 100 = 100)) by
          have := hM.out
          by_cases h : L ≤ 100
          · exact .inl ⟨by omega, hid ⟨by omega, by omega⟩⟩
          · exact .inr ⟨by omega, hid ⟨by omega, by omega⟩⟩) with ⟨h100, HM⟩ | ⟨h100, HM⟩
        all_goals
          go_wp2_with fail
          go_quiet (fail)
          have HO4q : Hid ((wr.drewN nq).ownsRow w.heap.size 23 1 u4 k (fewVals ps A C k)) := HO4.out
          have HO5q : Hid ((wr.drewN nq).ownsRow w.heap.size 5 1 u5 (fewAll ps k).length (u8s (fewAll ps k))) := HO5.out
          have hbelq : Below w.heap.size w (wr.drewN nq) := ⟨hbel.os, hbel.tape, hbel.output, hbel.size, hbel.block⟩
          generalize wr.drewN nq = wq at *
          clear HO4 HO5 hbel hcell
          have hbz := hid hbelq.size
          go_wp2_with (refine wpList_append_any rfl (.tmp 29) (.tmp 31) 22 rfl w.heap.size 23 (.slice none 0 0) 24 Try.underlying22 infoSl rfl _ _ _ rfl (HO4q.out.alloc _) (some ⟨wq.heap.size, 0, none⟩) 1 1 _ rfl rfl (by intro h; cases h) (one_new wq _ _) (by simp [Value.oneCell']) (by unfold maxLen; omega) (by omega) (by have := hbz.out; simp; omega) ?_)
          intro v4 w2 hv4 hg4 _
          have hb2 : Below w.heap.size w w2 := below_owned (hbelq.alloc hbelq.size _) (HO4q.out.alloc _) (Nat.le_refl _) hg4
          have HO5x := hid ((HO5q.out.alloc _).kept hg4 (owns_apart HO5q.out HO4q.out (by decide)))
          have HS2 := hid (hsl.out.below hb2)
          have HV4 := hid hv4
          clear HO4q HO5q hg4 hbelq hbz hv4
          have hbz := hid hb2.size
          go_wp2_with (refine wpList_append_any rfl (.tmp 33) (.tmp 34) 23 rfl w.heap.size 5 (.int .u8 0) 1 Try.underlying23 infoU8 rfl _ _ _ rfl HO5x.out ak _ _ (u8s p') rfl (by rw [u8s_length]; exact HM.out.1) (by intro h; have := HS2.out.some_len h; have := HM.out.1; omega) HS2.out.cells (u8s_one _) (by have := HM.out.1; unfold maxLen; omega) (by have := HM.out.1; omega) hbz.out ?_)
          intro v5 w3 hv5 hg5 _
          have hb3 := below_owned hb2 HO5x.out (Nat.le_refl _) hg5
          have HV4x := HV4.out.kept hg5 (owns_apart HV4.out HO5x.out (by decide))
          have HV5x := hid (owns_step hv5 rfl HM.out.1.symm)
          have HV4y := hid HV4x
          clear HO5x HS2 HV4 HV4x hv5 hg5 hb2 hbz
          go_wp2_with fail
          go_roundw
          case rel =>
            refine ⟨k + 1, by omega, by omega, by go_num, hb3, ?_, ?_⟩
            · rw [hS4.out, HM.out.2]; exact HV4y.out
            · rw [hS5.out]; exact HV5x.out
          case measure => simp [intOf]; omega
      · have h12' : (12 : Int) ≤ k := by omega
        clear h12
        go_wp2_with fail
        go_ret2
        exact ⟨_, _, k, hk12, hk, by omega, rfl, hbel, HO4.out, HO5.out⟩
    · have hlt' : (ps.length : Int) ≤ k := by omega
      clear hlt
      go_wp2_with fail
      go_ret2
      exact ⟨_, _, k, hk12, hk, by omega, rfl, hbel, HO4.out, HO5.out⟩

theorem few_none (a : Option Addr) (cap : Nat) (w : World) :
    Calls Try.prog 7 #[.slice a 0 cap] w fun e w' => e = .returned (.tuple #[.slice none 0 0, .slice none 0 0]) ∧ w = w' := by
  go_enter Try.func7, Try.ntmps7
  go_wp2
  go_loop [4, 5, 6] (fun v4 v5 i => v4 = .slice none 0 0 ∧ v5 = .slice none 0 0 ∧ i = .int .i64 0) (fun _ _ i => 0)
  case atStart => exact ⟨rfl, rfl, rfl⟩
  case round =>
    obtain ⟨rfl, rfl, rfl⟩ := hrel
    go_wp2
    go_ret2
    exact ⟨rfl, rfl⟩

theorem cutParts_getD (ps : List (List Nat)) (i : Nat) (hi : i < (cutParts ps).length) : (cutParts ps).getD i [] = (ps.getD i []).take 100 := by
  simp only [cutParts, List.length_map, List.length_take] at hi
  rw [List.getD_eq_getElem?_getD, List.getD_eq_getElem?_getD]
  simp only [cutParts, List.getElem?_map, List.getElem?_take]
  rw [if_pos (by omega), List.getElem?_eq_getElem (by omega)]
  rfl
theorem cutParts_bytes {ps : List (List Nat)} (h : ∀ p ∈ ps, Bytes p) : ∀ p ∈ cutParts ps, Bytes p := by
  intro p hp
  obtain ⟨q, hq, rfl⟩ := List.mem_map.1 hp
  exact (h q (List.mem_of_mem_take hq)).take 100
theorem flat_bytes {ps : List (List Nat)} (h : ∀ p ∈ ps, Bytes p) : Bytes ps.flatten := by
  intro x hx
  obtain ⟨l, hl1, hl2⟩ := List.mem_flatten.1 hx
  exact h l hl1 x hl2
theorem cutParts_len (ps : List (List Nat)) : (cutParts ps).flatten.length ≤ 1200 := by
  have h := fewTo_len ps 12
  exact h

theorem few_any (ok : Nat → Prop) (a : Option Addr) (cap : Nat) (ps : List (List Nat)) (w : World) (hp : Pt ok w a ps) (hl : ps.length ≤ 9223372036854775807) :
    Calls Try.prog 7 #[.slice a ps.length cap] w fun e w' => ∃ a4 c4 a5 c5, e = .returned (.tuple #[.slice a4 (cutParts ps).length c4, .slice a5 (cutParts ps).flatten.length c5]) ∧
      Pt (fun b => ok b ∨ w.heap.size ≤ b) w' a4 (cutParts ps) ∧ Sl (fun b => w.heap.size ≤ b) w' a5 (cutParts ps).flatten ∧ Below w.heap.size w w' ∧
      (cutParts ps).length ≤ c4 ∧ c4 ≤ maxLen ∧ (cutParts ps).flatten.length ≤ c5 ∧ c5 ≤ maxLen := by
  obtain ⟨hby, hp⟩ := hp
  rcases hp with rfl | ⟨b, o, A, C, rfl, hb, hp⟩
  · refine (few_none a cap w).mono ?_
    rintro e w' ⟨rfl, rfl⟩
    exact ⟨none, 0, none, 0, rfl, Pt.nil _ _ _, Sl.nil _ _ _, Below.refl _ _, Nat.le_refl _, Nat.zero_le _, Nat.le_refl _, Nat.zero_le _⟩
  · refine (few_some ok b o cap ps A C w hp (by omega)).mono ?_
    rintro e w' ⟨v4, v5, k, hk1, hk2, hk3, rfl, hbel, h4, h5⟩
    have hcut : cutParts ps = fewTo ps k := by
      unfold cutParts fewTo
      rcases Nat.lt_or_ge k 12 with h | h
      · have := hk3 h
        rw [List.take_of_length_le (by omega), List.take_of_length_le (by omega)]
      · have : k = 12 := by omega
        rw [this]
    have hlen : (cutParts ps).length = k := by rw [hcut]; unfold fewTo; rw [List.length_map, List.length_take]; omega
    have h5' : fewAll ps k = (cutParts ps).flatten := by rw [hcut]; rfl
    rw [h5'] at h5
    obtain ⟨a5, c5, rfl, _, _, hs5⟩ := Sl.owned h5
    have hc5 : (cutParts ps).flatten.length ≤ c5 ∧ c5 ≤ maxLen := by
      rcases h5.2 with ⟨h, _⟩ | ⟨g, cap', cur, h, _, _, h1, h2, _⟩
      · simp only [Value.slice.injEq] at h
        unfold maxLen
        omega
      · simp only [Value.slice.injEq] at h
        omega
    rcases h4.2 with ⟨rfl, h0⟩ | ⟨g, c4, cur, rfl, hg, hh, h1, h2, _, _⟩
    · subst h0
      have h00 : cutParts ps = [] := List.eq_nil_of_length_eq_zero hlen
      refine ⟨none, 0, a5, c5, by rw [hlen], ?_, hs5.mono fun _ h _ => h.1, hbel, by omega, Nat.zero_le _, hc5.1, hc5.2⟩
      rw [h00]; exact Pt.nil _ _ _
    · refine ⟨_, c4, a5, c5, by rw [hlen], ⟨cutParts_bytes hby, .inr ⟨g, 0, A, C, rfl, .inr hg, fun i hi => ?_, fun i hi => ?_, fun i hi => ?_⟩⟩, hs5.mono fun _ h _ => h.1, hbel, by omega, h2, hc5.1, hc5.2⟩
      · have hik : i < k := by rw [hlen] at hi; exact hi
        have hc := h4.cells (g := g) rfl i (.slice (A i) (min (ps.getD i []).length 100) (C i)) (by simp [fewVals, hik])
        rw [Addr.add_lit] at hc
        rw [hc, cutParts_getD ps i hi, List.length_take, Nat.min_comm]
      · rw [cutParts_getD ps i hi]
        exact (((hp.sl i (by omega)).below hbel).front 100).mono fun _ h _ => .inl h
      · have := hp.cap i (by omega)
        rw [cutParts_getD ps i hi, List.length_take]; omega

/-- The document's sum, of bytes wherever they lie. -/
theorem refSum_any (ok : Nat → Prop) (a : Option Addr) (cap : Nat) (bs : List Nat) (w : World) (hs : Sl ok w a bs) (hb : Bytes bs) (hl : bs.length ≤ 9223372036854775807) :
    Calls Try.prog 10 #[.slice a bs.length cap] w fun e w' => e = .returned (.int .u32 (Crc.sum bs : Nat)) ∧ w = w' := by
  rcases hs with rfl | ⟨b, off, rfl, _, hc⟩
  · exact refSum_none a cap w
  · exact refSum_some b off bs.length cap bs w rfl (by omega) hc hb
end Go.Proofs.Ytpciknbcnpnbcaa
