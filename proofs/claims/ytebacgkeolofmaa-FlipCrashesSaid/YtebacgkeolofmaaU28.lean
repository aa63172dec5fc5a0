/- CONTRACT: the superblock that counts, of a device. CONTRACT: one flip. PLAIN FACTS OF TWO PAGES: which one counts behind a flip, and behind a crash in the midst of it. PLAIN FACTS OF A CRASH: whatever it keeps of a flip, the one ahead counts, or the new one. CONTRACTS: a device on which all is synced: find and flip; the known example. -/
import Derived.Test.YtebacgkeolofmaaU22
import Derived.Test.YtebacgkeolofmaaU27
namespace Go.Proofs.Ytebacgkeolofmaa
open Go.RowKit Go.Inc

theorem infoSp : (Try.prog.info? 24).map (fun i => (i.zero, i.size, i.bytes)) = some (some (.agg #[.int .i64 0, .int .i64 0, .int .i64 0, .int .i64 0]), 4, 32) := by kernel_rfl
theorem scells_one (l : List Sp) : ∀ u ∈ scells l, u.oneCell' = true := by
  intro u hu
  unfold scells at hu
  obtain ⟨x, _, hx⟩ := List.mem_flatMap.1 hu
  simp only [List.mem_cons, List.not_mem_nil, or_false] at hx
  rcases hx with rfl | rfl | rfl | rfl <;> rfl
theorem cells_new (w : World) (x : Sp) (T : TypeId) : ∀ j u, (scells [x])[j]? = some u → (w.alloc (.cells #[.int .i64 (x).e, .int .i64 (x).r, .int .i64 (x).s, .int .i64 (x).t] T)).cell? ((⟨w.heap.size, 0, none⟩ : Addr).add j) = some u := by
  intro j u hj
  have hlt : j < 4 := (List.getElem?_eq_some_iff.1 hj).1
  rw [Addr.add_lit, cell_of_row _ w.heap.size _ _ _ _ (heap_alloc_new w _)]
  match j, hj, hlt with
  | 0, hj, _ => exact hj
  | 1, hj, _ => exact hj
  | 2, hj, _ => exact hj
  | 3, hj, _ => exact hj
/-- The right ones, of so many pages. -/
def rightOf (A B : List Nat) : Nat → List Sp
  | 0 => []
  | 1 => if flE A 0 = 0 then [flS A 0] else []
  | _ => (if flE A 0 = 0 then [flS A 0] else []) ++ if flE B 1 = 0 then [flS B 1] else []
theorem right_choose (A B : List Nat) : (chE (rightOf A B 2) = 0 ↔ fiE A B = 0) ∧ (chE (rightOf A B 2) = 0 → chS (rightOf A B 2) = fiS A B) ∧ (chE (rightOf A B 2) = 0 ∨ chE (rightOf A B 2) = 7) := by
  unfold fiE fiS rightOf
  by_cases ha : flE A 0 = 0
  · by_cases hb : flE B 1 = 0
    · rw [if_pos ha, if_pos hb, if_neg (by omega), if_neg (by omega)]
      refine ⟨by unfold chE; simp, fun _ => ?_, .inl (by unfold chE; simp)⟩
      unfold chS
      rw [if_neg (by simp)]
      show (if (flS A 0).e < (flS B 1).e then flS B 1 else flS A 0) = _
      by_cases h : (flS A 0).e < (flS B 1).e
      · rw [if_pos h, if_pos (.inr ⟨hb, h⟩)]
      · rw [if_neg h, if_neg (by omega)]
    · rw [if_pos ha, if_neg hb, if_neg (by omega), if_neg (by omega)]
      refine ⟨by unfold chE; simp, fun _ => ?_, .inl (by unfold chE; simp)⟩
      rw [if_neg (by omega)]
      rfl
  · by_cases hb : flE B 1 = 0
    · rw [if_neg ha, if_pos hb, if_neg (by omega), if_neg (by omega)]
      refine ⟨by unfold chE; simp, fun _ => ?_, .inl (by unfold chE; simp)⟩
      rw [if_pos (by omega)]
      rfl
    · rw [if_neg ha, if_neg hb, if_pos ⟨ha, hb⟩]
      refine ⟨by unfold chE; simp, fun h => ?_, .inr rfl⟩
      cases h
theorem right_len (A B : List Nat) (k : Nat) : (rightOf A B k).length ≤ 2 := by
  unfold rightOf
  split
  · simp
  · split <;> simp
  · split <;> split <;> simp
theorem resFind (w : World) (g : Nat) (cs : Array Value) (tmps : Array Value) (h2 : tmps.getD 2 undef = .pointer (some ⟨g, 0, none⟩)) (hg : w.heap[g]? = some (.cells cs 24 (0, 0))) (hs : cs.size = 4) :
    (results Try.f23 tmps).run Try.prog w = .ok (.tuple #[.agg cs, tmps.getD 3 undef]) w :=
  res_cell_tmp rfl tmps w g 24 cs (0, 0) _ h2 hg Try.underlying24 rfl (by rw [hs]; kernel_rfl)
section
variable {C : Nat → Nat} {w : World} {g n : Nat} {S : St}
theorem dv_plus {k : Nat} (h : Dv C w g 2 n { S with r := S.r + (k : Int) + 1 }) : Dv C w g 2 n { S with r := S.r + ((k + 1 : Nat) : Int) } := by
  have e : S.r + ((k + 1 : Nat) : Int) = S.r + (k : Int) + 1 := by omega
  rw [e]
  exact h
set_option maxRecDepth 20000 in
set_option maxHeartbeats 4000000 in
theorem find_any (h : Dv C w g 2 n S) (A B : List Nat) (hA : A = rd S 0) (hB : B = rd S 1) (hbA : Bytes A) (hbB : Bytes B) (ho : S.on = true) (hn : n ≤ 1000000) (hrr : S.r ≤ 999000) :
    Calls Try.prog 23 #[.pointer (some ⟨g, 0, none⟩)] w fun r w' => r = .returned (.tuple #[.agg #[.int .i64 (fiS A B).e, .int .i64 (fiS A B).r, .int .i64 (fiS A B).s, .int .i64 (fiS A B).t], .int .i64 (fiE A B : Nat)]) ∧ Dv C w' g 2 n { S with r := S.r + 2 } ∧ Mv (fun b => C b ≠ 0) w w' := by
  obtain ⟨wb, hwb⟩ : ∃ wb, wb = w.alloc (.cells #[.int .i64 0, .int .i64 0, .int .i64 0, .int .i64 0] 24) := ⟨_, rfl⟩
  have hb : Below w.heap.size w wb := by rw [hwb]; exact (Below.refl _ _).alloc (Nat.le_refl _) _
  have hr : wb.heap[w.heap.size]? = some (.cells #[.int .i64 0, .int .i64 0, .int .i64 0, .int .i64 0] 24 (0, 0)) := by rw [hwb]; exact heap_alloc_new w _
  have hsz : wb.heap.size = w.heap.size + 1 := by rw [hwb]; simp
  have HNEW : Hid (∀ b, w.heap.size ≤ b → C b = 0) := hid fun b hb => h.new hb
  have HDV := hid (h.below hb)
  have HMV : Hid (Mv (fun b => C b ≠ 0) w wb) := hid (Mv.of_below hb)
  have HR := hid hr
  have HWB := hid hwb
  have HSZ : Hid (w.heap.size + 1 ≤ wb.heap.size) := hid (by rw [hsz]; exact Nat.le_refl _)
  have HLA : Hid (A.length = 256) := hid (by rw [hA]; exact rd_len h (by decide))
  have HLB : Hid (B.length = 256) := hid (by rw [hB]; exact rd_len h (by decide))
  have HA := hid hA
  have HB := hid hB
  have HBA := hid hbA
  have HBB := hid hbB
  have HON := hid ho
  have HN := hid hn
  have HRR := hid hrr
  clear hb hr hwb hsz h hA hB hbA hbB ho hn hrr
  go_enter Try.func23, Try.ntmps23
  go_upto_region 2 with fail
  rw [← HWB.out]
  go_wp2_with fail
  go_step3
  go_wp2_with fail
  go_step3
  go_wp2_with fail
  go_loopw [4, 11] (fun v i wr => ∃ k : Nat, k ≤ 2 ∧ i = .int .i64 (k : Int) ∧ wr.ownsRow (w.heap.size + 1) 24 4 v (rightOf A B k).length (scells (rightOf A B k)) ∧ Dv C wr g 2 n { S with r := S.r + k } ∧ Mv (fun b => C b ≠ 0) w wr ∧ wr.heap[w.heap.size]? = some (.cells #[.int .i64 0, .int .i64 0, .int .i64 0, .int .i64 0] 24 (0, 0)) ∧ w.heap.size + 1 ≤ wr.heap.size) (fun _ i _ => 2 - (intOf i).toNat)
  case atStart => exact ⟨0, by omega, rfl, World.ownsRow_nil _ _ _ _, by simpa using HDV.out, HMV.out, HR.out, HSZ.out⟩
  case round =>
    obtain ⟨k, hk, rfl, hv, hd, hm, hr, hsz⟩ := hrel
    have HV := hid hv
    have HD := hid hd
    have HM := hid hm
    have HR1 := hid hr
    have HS1 := hid hsz
    clear hv hd hm hr hsz HDV HMV HR HWB HSZ
    have hk3 : k = 0 ∨ k = 1 ∨ k = 2 := by omega
    clear hk
    rcases hk3 with rfl | rfl | rfl
    · go_wp2_with fail
      refine (dv_read HD.out 0 (by decide) HON.out HN.out (by have := HRR.out; simp only; omega)).mono ?_
      rintro r w1 ⟨v1, rfl, hv1, hd1, hm1⟩
      have hv1' : Row 5 wr.heap.size w1 v1 A := by rw [HA.out]; exact hv1
      obtain ⟨a1, c1, rfl, hn1, hlc1, hmm1, hs1⟩ := hv1'.sl
      have HDEC := hid (fdec_any _ a1 c1 A 0 w1 hs1 HBA.out ⟨hlc1, hmm1⟩)
      rw [HLA.out] at HDEC ⊢
      have HD1 := hid hd1
      have HM1 : Hid (Mv (fun b => C b ≠ 0) w w1) := hid (HM.out.trans' hm1 (fun _ _ h => h))
      have HV1 := hid (owns_mv HV.out hm1 (fun i hi h => h (HNEW.out i (Nat.le_trans (Nat.le_succ _) (HV.out.lt i hi).1))))
      have HR2 : Hid (w1.heap[w.heap.size]? = _) := hid (hm1.row HR1.out (fun h => h (HNEW.out _ (Nat.le_refl _))))
      have HS2 : Hid (w.heap.size + 1 ≤ w1.heap.size) := hid (Nat.le_trans HS1.out hm1.size)
      clear hv1 hv1' hn1 hlc1 hmm1 hs1 hd1 hm1 HV HD HM HR1 HS1
      go_wp2_with fail
      refine HDEC.out.mono ?_
      clear HDEC
      rintro r w2 ⟨hx, hb2⟩
      unfold FlAns at hx
      subst hx
      have HD2 := hid (HD1.out.below hb2)
      have HM2 : Hid (Mv (fun b => C b ≠ 0) w w2) := hid (HM1.out.trans' (Mv.of_below hb2) (fun _ _ h => h))
      have HV2 := hid (owns_mv HV1.out (Mv.of_below (F := fun _ => False) hb2) (fun _ _ h => h))
      have HR3 : Hid (w2.heap[w.heap.size]? = _) := hid (row_below HR2.out hb2)
      have HS3 : Hid (w.heap.size + 1 ≤ w2.heap.size) := hid (Nat.le_trans HS2.out hb2.size)
      clear hb2 HD1 HM1 HV1 HR2 HS2
      obtain ⟨x, hx⟩ : ∃ x, x = flS A 0 := ⟨_, rfl⟩
      obtain ⟨q, hq⟩ : ∃ q, q = flE A 0 := ⟨_, rfl⟩
      obtain ⟨w3, hw3⟩ : ∃ w3, w3 = w2.alloc (.cells #[.int .i64 (x).e, .int .i64 (x).r, .int .i64 (x).s, .int .i64 (x).t] 24) := ⟨_, rfl⟩
      have hb3 : Below w2.heap.size w2 w3 := by rw [hw3]; exact (Below.refl _ _).alloc (Nat.le_refl _) _
      have hx3 : w3.heap[w2.heap.size]? = some (.cells #[.int .i64 (x).e, .int .i64 (x).r, .int .i64 (x).s, .int .i64 (x).t] 24 (0, 0)) := by rw [hw3]; exact heap_alloc_new w2 _
      have HD3 := hid (HD2.out.below hb3)
      have HM3 : Hid (Mv (fun b => C b ≠ 0) w w3) := hid (HM2.out.trans' (Mv.of_below hb3) (fun _ _ h => h))
      have HV3 := hid (owns_mv HV2.out (Mv.of_below (F := fun _ => False) hb3) (fun _ _ h => h))
      have HR4 : Hid (w3.heap[w.heap.size]? = _) := hid (row_below HR3.out hb3)
      have HS4 : Hid (w.heap.size + 1 ≤ w3.heap.size) := hid (Nat.le_trans HS3.out hb3.size)
      have x0 := cell_of_row w3 _ 0 _ _ _ hx3
      have x1 := cell_of_row w3 _ 1 _ _ _ hx3
      have x2 := cell_of_row w3 _ 2 _ _ _ hx3
      have x3 := cell_of_row w3 _ 3 _ _ _ hx3
      have HX := hid hx
      have HQ := hid hq
      have HW3 := hid hw3
      rw [← hx, ← hq]
      clear hx hq hb3 hx3 hw3 HD2 HM2 HV2 HR3 HS3
      by_cases h0 : q = 0
      · have HL : Hid (rightOf A B 1 = rightOf A B 0 ++ [x]) := hid (by
          have : flE A 0 = 0 := by rw [← HQ.out]; exact h0
          simp [rightOf, this, HX.out])
        rw [h0]
        clear h0 HQ HX
        go_upto_region 10 with fail
        rw [← HW3.out]
        clear HW3
        obtain ⟨i0, hi0, hz0, hz1, hz2⟩ := info_parts infoSp
        have HI := hid (And.intro hi0 (And.intro hz0 (And.intro hz1 hz2)))
        clear hi0 hz0 hz1 hz2
        go_wp2_with (refine wpList_append_own _ rfl (.tmp 32) (.tmp 34) 50 rfl (w.heap.size + 1) 24 i0 (.agg #[.int .i64 0, .int .i64 0, .int .i64 0, .int .i64 0]) 4 32 Try.underlying50 HI.out.1 HI.out.2.1 HI.out.2.2.1 HI.out.2.2.2 rfl (by decide) _ _ _ rfl (HV3.out.alloc _) ⟨w3.heap.size, 0, none⟩ 1 1 (scells [x]) rfl (by rw [scells_len]; rfl) (cells_new w3 x _) (scells_one _) (by have := right_len A B 0; unfold maxLen; omega) (by have := right_len A B 0; omega) (by have := HS4.out; simp; omega) ?_)
        intro v5 w5 hv5 hg5 _
        have hm5 : Mv (fun b => w.heap.size + 1 ≤ b) (w3.alloc (.cells #[.int .i64 (x).e, .int .i64 (x).r, .int .i64 (x).s, .int .i64 (x).t] 24)) w5 := Mv.of_grown hg5 fun i hi _ => (HV3.out.lt i hi).1
        have hm6 : Mv (fun b => w.heap.size + 1 ≤ b) w3 w5 := (Mv.of_below ((Below.refl _ _).alloc (Nat.le_refl _) _)).trans' hm5 (fun _ _ h => h)
        have HD5 := hid (HD3.out.keep hm6 fun b hb => HNEW.out b (by omega))
        have HM5 : Hid (Mv (fun b => C b ≠ 0) w w5) := hid (HM3.out.trans' hm6 (fun i hi hf => by omega))
        have HR5 : Hid (w5.heap[w.heap.size]? = _) := hid (hm6.row HR4.out (by omega))
        have HS5 : Hid (w.heap.size + 1 ≤ w5.heap.size) := hid (Nat.le_trans HS4.out hm6.size)
        have HV5 : Hid (w5.ownsRow (w.heap.size + 1) 24 4 v5 (rightOf A B 1).length (scells (rightOf A B 1))) := hid (by rw [HL.out, scells_append, List.length_append]; exact hv5)
        clear hv5 hg5 hm5 hm6 HD3 HM3 HR4 HS4 HV3 HI HL x0 x1 x2 x3
        go_wp2_with fail
        go_roundw
        case rel => exact ⟨1, by omega, rfl, HV5.out, dv_plus HD5.out, HM5.out, HR5.out, HS5.out⟩
        case measure => simp [intOf]
      · have HL : Hid (rightOf A B 1 = rightOf A B 0) := hid (by
          have : ¬ flE A 0 = 0 := by rw [← HQ.out]; exact h0
          simp [rightOf, this])
        have h0' : ((q : Int) != 0) = true := by rw [bne_iff_ne]; omega
        clear h0 HQ HX
        go_upto_region 9 with fail
        rw [← HW3.out]
        clear HW3
        go_wp2_with fail
        go_roundw
        case rel => exact ⟨1, by omega, rfl, by rw [HL.out]; exact HV3.out, dv_plus HD3.out, HM3.out, HR4.out, HS4.out⟩
        case measure => simp [intOf]
    · go_wp2_with fail
      refine (dv_read HD.out 1 (by decide) HON.out HN.out (by have := HRR.out; simp only; omega)).mono ?_
      rintro r w1 ⟨v1, rfl, hv1, hd1, hm1⟩
      have hv1' : Row 5 wr.heap.size w1 v1 B := by rw [HB.out]; exact hv1
      obtain ⟨a1, c1, rfl, hn1, hlc1, hmm1, hs1⟩ := hv1'.sl
      have HDEC := hid (fdec_any _ a1 c1 B 1 w1 hs1 HBB.out ⟨hlc1, hmm1⟩)
      rw [HLB.out] at HDEC ⊢
      have HD1 := hid hd1
      have HM1 : Hid (Mv (fun b => C b ≠ 0) w w1) := hid (HM.out.trans' hm1 (fun _ _ h => h))
      have HV1 := hid (owns_mv HV.out hm1 (fun i hi h => h (HNEW.out i (Nat.le_trans (Nat.le_succ _) (HV.out.lt i hi).1))))
      have HR2 : Hid (w1.heap[w.heap.size]? = _) := hid (hm1.row HR1.out (fun h => h (HNEW.out _ (Nat.le_refl _))))
      have HS2 : Hid (w.heap.size + 1 ≤ w1.heap.size) := hid (Nat.le_trans HS1.out hm1.size)
      clear hv1 hv1' hn1 hlc1 hmm1 hs1 hd1 hm1 HV HD HM HR1 HS1
      go_wp2_with fail
      refine HDEC.out.mono ?_
      clear HDEC
      rintro r w2 ⟨hx, hb2⟩
      unfold FlAns at hx
      subst hx
      have HD2 := hid (HD1.out.below hb2)
      have HM2 : Hid (Mv (fun b => C b ≠ 0) w w2) := hid (HM1.out.trans' (Mv.of_below hb2) (fun _ _ h => h))
      have HV2 := hid (owns_mv HV1.out (Mv.of_below (F := fun _ => False) hb2) (fun _ _ h => h))
      have HR3 : Hid (w2.heap[w.heap.size]? = _) := hid (row_below HR2.out hb2)
      have HS3 : Hid (w.heap.size + 1 ≤ w2.heap.size) := hid (Nat.le_trans HS2.out hb2.size)
      clear hb2 HD1 HM1 HV1 HR2 HS2
      obtain ⟨x, hx⟩ : ∃ x, x = flS B 1 := ⟨_, rfl⟩
      obtain ⟨q, hq⟩ : ∃ q, q = flE B 1 := ⟨_, rfl⟩
      obtain ⟨w3, hw3⟩ : ∃ w3, w3 = w2.alloc (.cells #[.int .i64 (x).e, .int .i64 (x).r, .int .i64 (x).s, .int .i64 (x).t] 24) := ⟨_, rfl⟩
      have hb3 : Below w2.heap.size w2 w3 := by rw [hw3]; exact (Below.refl _ _).alloc (Nat.le_refl _) _
      have hx3 : w3.heap[w2.heap.size]? = some (.cells #[.int .i64 (x).e, .int .i64 (x).r, .int .i64 (x).s, .int .i64 (x).t] 24 (0, 0)) := by rw [hw3]; exact heap_alloc_new w2 _
      have HD3 := hid (HD2.out.below hb3)
      have HM3 : Hid (Mv (fun b => C b ≠ 0) w w3) := hid (HM2.out.trans' (Mv.of_below hb3) (fun _ _ h => h))
      have HV3 := hid (owns_mv HV2.out (Mv.of_below (F := fun _ => False) hb3) (fun _ _ h => h))
      have HR4 : Hid (w3.heap[w.heap.size]? = _) := hid (row_below HR3.out hb3)
      have HS4 : Hid (w.heap.size + 1 ≤ w3.heap.size) := hid (Nat.le_trans HS3.out hb3.size)
      have x0 := cell_of_row w3 _ 0 _ _ _ hx3
      have x1 := cell_of_row w3 _ 1 _ _ _ hx3
      have x2 := cell_of_row w3 _ 2 _ _ _ hx3
      have x3 := cell_of_row w3 _ 3 _ _ _ hx3
      have HX := hid hx
      have HQ := hid hq
      have HW3 := hid hw3
      rw [← hx, ← hq]
      clear hx hq hb3 hx3 hw3 HD2 HM2 HV2 HR3 HS3
      by_cases h0 : q = 0
      · have HL : Hid (rightOf A B 2 = rightOf A B 1 ++ [x]) := hid (by
          have : flE B 1 = 0 := by rw [← HQ.out]; exact h0
          simp [rightOf, this, HX.out])
        rw [h0]
        clear h0 HQ HX
        go_upto_region 10 with fail
        rw [← HW3.out]
        clear HW3
        obtain ⟨i0, hi0, hz0, hz1, hz2⟩ := info_parts infoSp
        have HI := hid (And.intro hi0 (And.intro hz0 (And.intro hz1 hz2)))
        clear hi0 hz0 hz1 hz2
        go_wp2_with (refine wpList_append_own _ rfl (.tmp 32) (.tmp 34) 50 rfl (w.heap.size + 1) 24 i0 (.agg #[.int .i64 0, .int .i64 0, .int .i64 0, .int .i64 0]) 4 32 Try.underlying50 HI.out.1 HI.out.2.1 HI.out.2.2.1 HI.out.2.2.2 rfl (by decide) _ _ _ rfl (HV3.out.alloc _) ⟨w3.heap.size, 0, none⟩ 1 1 (scells [x]) rfl (by rw [scells_len]; rfl) (cells_new w3 x _) (scells_one _) (by have := right_len A B 1; unfold maxLen; omega) (by have := right_len A B 1; omega) (by have := HS4.out; simp; omega) ?_)
        intro v5 w5 hv5 hg5 _
        have hm5 : Mv (fun b => w.heap.size + 1 ≤ b) (w3.alloc (.cells #[.int .i64 (x).e, .int .i64 (x).r, .int .i64 (x).s, .int .i64 (x).t] 24)) w5 := Mv.of_grown hg5 fun i hi _ => (HV3.out.lt i hi).1
        have hm6 : Mv (fun b => w.heap.size + 1 ≤ b) w3 w5 := (Mv.of_below ((Below.refl _ _).alloc (Nat.le_refl _) _)).trans' hm5 (fun _ _ h => h)
        have HD5 := hid (HD3.out.keep hm6 fun b hb => HNEW.out b (by omega))
        have HM5 : Hid (Mv (fun b => C b ≠ 0) w w5) := hid (HM3.out.trans' hm6 (fun i hi hf => by omega))
        have HR5 : Hid (w5.heap[w.heap.size]? = _) := hid (hm6.row HR4.out (by omega))
        have HS5 : Hid (w.heap.size + 1 ≤ w5.heap.size) := hid (Nat.le_trans HS4.out hm6.size)
        have HV5 : Hid (w5.ownsRow (w.heap.size + 1) 24 4 v5 (rightOf A B 2).length (scells (rightOf A B 2))) := hid (by rw [HL.out, scells_append, List.length_append]; exact hv5)
        clear hv5 hg5 hm5 hm6 HD3 HM3 HR4 HS4 HV3 HI HL x0 x1 x2 x3
        go_wp2_with fail
        go_roundw
        case rel => exact ⟨2, by omega, rfl, HV5.out, dv_plus HD5.out, HM5.out, HR5.out, HS5.out⟩
        case measure => simp [intOf]
      · have HL : Hid (rightOf A B 2 = rightOf A B 1) := hid (by
          have : ¬ flE B 1 = 0 := by rw [← HQ.out]; exact h0
          simp [rightOf, this])
        have h0' : ((q : Int) != 0) = true := by rw [bne_iff_ne]; omega
        clear h0 HQ HX
        go_upto_region 9 with fail
        rw [← HW3.out]
        clear HW3
        go_wp2_with fail
        go_roundw
        case rel => exact ⟨2, by omega, rfl, by rw [HL.out]; exact HV3.out, dv_plus HD3.out, HM3.out, HR4.out, HS4.out⟩
        case measure => simp [intOf]
    · obtain ⟨a1, c1, rfl, hsp, hc1, hc2⟩ := SpS.owned HV.out
      have HCH := hid (choose_any _ a1 c1 (rightOf A B 2) wr hsp ⟨hc1, hc2⟩)
      clear hsp hc1 hc2 HV
      generalize (rightOf A B 2).length = len at *
      go_wp2_with fail
      refine HCH.out.mono ?_
      clear HCH
      rintro r w2 ⟨rfl, hb2⟩
      have HD2 : Hid (Dv C w2 g 2 n { S with r := S.r + 2 }) := hid (HD.out.below hb2)
      have HM2 : Hid (Mv (fun b => C b ≠ 0) w w2) := hid (HM.out.trans' (Mv.of_below hb2) (fun _ _ h => h))
      have HR2 : Hid (w2.heap[w.heap.size]? = _) := hid (row_below HR1.out hb2)
      clear hb2 HD HM HR1 HS1
      obtain ⟨e1, e2, e3⟩ := right_choose A B
      obtain ⟨w3, hw3⟩ : ∃ w3, w3 = w2.alloc (.cells #[.int .i64 (chS (rightOf A B 2)).e, .int .i64 (chS (rightOf A B 2)).r, .int .i64 (chS (rightOf A B 2)).s, .int .i64 (chS (rightOf A B 2)).t] 24) := ⟨_, rfl⟩
      have hb3 : Below w2.heap.size w2 w3 := by rw [hw3]; exact (Below.refl _ _).alloc (Nat.le_refl _) _
      have HX3 : Hid (w3.heap[w2.heap.size]? = some (.cells #[.int .i64 (chS (rightOf A B 2)).e, .int .i64 (chS (rightOf A B 2)).r, .int .i64 (chS (rightOf A B 2)).s, .int .i64 (chS (rightOf A B 2)).t] 24 (0, 0))) := hid (by rw [hw3]; exact heap_alloc_new w2 _)
      have HD3 := hid (HD2.out.below hb3)
      have HM3 : Hid (Mv (fun b => C b ≠ 0) w w3) := hid (HM2.out.trans' (Mv.of_below hb3) (fun _ _ h => h))
      have HR3 : Hid (w3.heap[w.heap.size]? = _) := hid (row_below HR2.out hb3)
      have HW3 := hid hw3
      clear hb3 hw3 HD2 HM2 HR2
      rcases e3 with h0 | h7
      · have HE : Hid (fiE A B = 0 ∧ chS (rightOf A B 2) = fiS A B) := hid ⟨e1.1 h0, e2 h0⟩
        rw [h0]
        clear h0 e1 e2
        go_upto_region 15 with fail
        rw [← HW3.out]
        refine wp_region_lit ?_
        refine wpList_load_row rfl 24 _ rfl w2.heap.size rfl 24 _ _ _ HX3.out Try.underlying24 rfl (by kernel_rfl) ?_
        refine wpList_store_own rfl 24 _ _ rfl w.heap.size #[.int .i64 (chS (rightOf A B 2)).e, .int .i64 (chS (rightOf A B 2)).r, .int .i64 (chS (rightOf A B 2)).s, .int .i64 (chS (rightOf A B 2)).t] rfl rfl 24 _ HR3.out (by kernel_rfl) rfl (by simp [Value.oneCell']) ?_
        intro w9 hr9 hg9
        have HR9 := hid hr9
        have hm9 : Mv (fun b => b = w.heap.size) w3 w9 := Mv.of_grown hg9 fun g h _ => by cases h; rfl
        have HD9 := hid (HD3.out.keep hm9 fun b hb => HNEW.out b (by omega))
        have HM9 : Hid (Mv (fun b => C b ≠ 0) w w9) := hid (HM3.out.trans' hm9 (fun i hi hf => by omega))
        clear hr9 hg9 hm9
        go_wp2_with fail
        rw [Exit.noGoto_ret]
        exact bodyPost_ret (v := .tuple #[.agg #[.int .i64 (chS (rightOf A B 2)).e, .int .i64 (chS (rightOf A B 2)).r, .int .i64 (chS (rightOf A B 2)).s, .int .i64 (chS (rightOf A B 2)).t], .int .i64 0]) (resFind _ _ _ _ rfl HR9.out rfl) rfl ⟨by rw [HE.out.1, HE.out.2]; rfl, HD9.out, HM9.out⟩
      · have h5 : fiE A B ≠ 0 := fun h => by have := e1.2 h; omega
        have HE : Hid (fiE A B = 5 ∧ fiS A B = zeroSp) := hid ⟨by have := fiE_cases A B; omega, fiS_bad h5⟩
        rw [h7]
        clear h7 e1 e2 h5
        go_upto_region 14 with fail
        rw [← HW3.out]
        refine wp_region_lit ?_
        refine wpList_plain rfl fun K hK => ?_
        go_simp
        refine hK _ _ ?_
        refine wpList_store_own rfl 24 _ _ rfl w.heap.size #[.int .i64 0, .int .i64 0, .int .i64 0, .int .i64 0] rfl rfl 24 _ HR3.out (by kernel_rfl) rfl (by simp [Value.oneCell']) ?_
        intro w9 hr9 hg9
        have HR9 := hid hr9
        have hm9 : Mv (fun b => b = w.heap.size) w3 w9 := Mv.of_grown hg9 fun g h _ => by cases h; rfl
        have HD9 := hid (HD3.out.keep hm9 fun b hb => HNEW.out b (by omega))
        have HM9 : Hid (Mv (fun b => C b ≠ 0) w w9) := hid (HM3.out.trans' hm9 (fun i hi hf => by omega))
        clear hr9 hg9 hm9
        go_wp2_with fail
        rw [Exit.noGoto_ret]
        exact bodyPost_ret (v := .tuple #[.agg #[.int .i64 0, .int .i64 0, .int .i64 0, .int .i64 0], .int .i64 5]) (resFind _ _ _ _ rfl HR9.out rfl) rfl ⟨by rw [HE.out.1, HE.out.2]; rfl, HD9.out, HM9.out⟩
end
end Go.Proofs.Ytebacgkeolofmaa
namespace Go.Proofs.Ytebacgkeolofmaa
open Go.RowKit Go.Inc

theorem resFlip (w : World) (g : Nat) (cs : Array Value) (tmps : Array Value) (h2 : tmps.getD 4 undef = .pointer (some ⟨g, 0, none⟩)) (hg : w.heap[g]? = some (.cells cs 24 (0, 0))) (hs : cs.size = 4) :
    (results Try.f27 tmps).run Try.prog w = .ok (.tuple #[.agg cs, tmps.getD 5 undef]) w :=
  res_cell_tmp rfl tmps w g 24 cs (0, 0) _ h2 hg Try.underlying24 rfl (by rw [hs]; kernel_rfl)
theorem fiS_e (A B : List Nat) : 0 ≤ (fiS A B).e ∧ (fiS A B).e ≤ 4294967295 := by
  by_cases h : fiE A B = 0
  · have := (spOk_iff _).1 (fiS_ok h)
    omega
  · rw [fiS_bad h]
    exact ⟨by decide, by decide⟩
/-- What is behind a flip. -/
def FlipEnd (S2 : St) (nx : Sp) (r : Ending) (S' : St) (n' : Nat) : Prop :=
  (nx.ok = false ∧ r = .returned (.tuple #[.agg #[.int .i64 0, .int .i64 0, .int .i64 0, .int .i64 0], .int .i64 10]) ∧ S' = S2 ∧ n' = 0) ∨
  (nx.ok = true ∧ spendOk S2.armed S2.left = false ∧ r = .returned (.tuple #[.agg #[.int .i64 0, .int .i64 0, .int .i64 0, .int .i64 0], .int .i64 9]) ∧ S' = { S2 with on := false, left := spendLeft S2.armed S2.left } ∧ n' = 0) ∨
  (nx.ok = true ∧ spendOk S2.armed S2.left = true ∧ spendOk S2.armed (spendLeft S2.armed S2.left) = false ∧ r = .returned (.tuple #[.agg #[.int .i64 0, .int .i64 0, .int .i64 0, .int .i64 0], .int .i64 9]) ∧
    S' = { wrote S2 (slot nx.e) (spEnc nx) with on := false, left := spendLeft (wrote S2 (slot nx.e) (spEnc nx)).armed (wrote S2 (slot nx.e) (spEnc nx)).left } ∧ n' = 1) ∨
  (nx.ok = true ∧ spendOk S2.armed S2.left = true ∧ spendOk S2.armed (spendLeft S2.armed S2.left) = true ∧ r = .returned (.tuple #[.agg #[.int .i64 (nx).e, .int .i64 (nx).r, .int .i64 (nx).s, .int .i64 (nx).t], .int .i64 0]) ∧ n' = 0 ∧
    ∃ L, S' = synced (wrote S2 (slot nx.e) (spEnc nx)) L ∧ ∀ k, k < 2 → pg L k = rd (wrote S2 (slot nx.e) (spEnc nx)) k)
def FlipPost (C : Nat → Nat) (w : World) (g : Nat) (S2 : St) (nx : Sp) (r : Ending) (w' : World) : Prop :=
  Mv (fun b => C b ≠ 0) w w' ∧ ∃ C' n' S', Dv C' w' g 2 n' S' ∧ Ext w C C' ∧ FlipEnd S2 nx r S' n'
section
variable {C : Nat → Nat} {w : World} {g : Nat} {S : St}
set_option maxRecDepth 20000 in
set_option maxHeartbeats 4000000 in
theorem flip_any (h : Dv C w g 2 0 S) (A B : List Nat) (e r s t : Int) (hA : A = rd S 0) (hB : B = rd S 1) (hbA : Bytes A) (hbB : Bytes B) (ho : S.on = true) (hrr : S.r ≤ 999000) (hss : S.s ≤ 999000) (htt : S.t ≤ 999000) :
    Calls Try.prog 27 #[.pointer (some ⟨g, 0, none⟩), .agg #[.int .i64 e, .int .i64 r, .int .i64 s, .int .i64 t]] w fun x w' => FlipPost C w g { S with r := S.r + 2 } ⟨(fiS A B).e + 1, r, s, t⟩ x w' := by
  obtain ⟨wb, hwb⟩ : ∃ wb, wb = (w.alloc (.cells #[.int .i64 e, .int .i64 r, .int .i64 s, .int .i64 t] 24)).alloc (.cells #[.int .i64 0, .int .i64 0, .int .i64 0, .int .i64 0] 24) := ⟨_, rfl⟩
  have hb : Below w.heap.size w wb := by rw [hwb]; exact ((Below.refl _ _).alloc (Nat.le_refl _) _).alloc (by simp) _
  have hx : wb.heap[w.heap.size]? = some (.cells #[.int .i64 e, .int .i64 r, .int .i64 s, .int .i64 t] 24 (0, 0)) := by rw [hwb]; exact heap_alloc2_old w _ _
  have hr : wb.heap[w.heap.size + 1]? = some (.cells #[.int .i64 0, .int .i64 0, .int .i64 0, .int .i64 0] 24 (0, 0)) := by rw [hwb]; exact heap_alloc2_new w _ _
  have HNEW : Hid (∀ b, w.heap.size ≤ b → C b = 0) := hid fun b hb => h.new hb
  have HF := hid (find_any (h.below hb) A B hA hB hbA hbB ho (by decide) hrr)
  have HMB : Hid (Mv (fun b => C b ≠ 0) w wb) := hid (Mv.of_below hb)
  have HXB := hid hx
  have HRB := hid hr
  have HWB := hid hwb
  obtain ⟨S2, hS2⟩ : ∃ S2 : St, S2 = { S with r := S.r + 2 } := ⟨_, rfl⟩
  have HON : Hid (S2.on = true) := hid (by rw [hS2]; exact ho)
  have HSS : Hid (S2.s ≤ 999000) := hid (by rw [hS2]; exact hss)
  have HTT : Hid (S2.t ≤ 999000) := hid (by rw [hS2]; exact htt)
  rw [← hS2] at HF ⊢
  obtain ⟨hE0, hE1⟩ := fiS_e A B
  have hq := fiE_cases A B
  obtain ⟨X, hX⟩ : ∃ X, X = fiS A B := ⟨_, rfl⟩
  obtain ⟨q, hqq⟩ : ∃ q, q = fiE A B := ⟨_, rfl⟩
  rw [← hX] at hE0 hE1 HF ⊢
  rw [← hqq] at hq HF
  clear hb hx hr hwb h hA hB hbA hbB ho hrr hss htt hS2 hX hqq
  obtain ⟨nx, hnx⟩ : ∃ nx : Sp, nx = ⟨X.e + 1, r, s, t⟩ := ⟨_, rfl⟩
  have HNX := hid hnx
  have HNE : Hid (slot nx.e = slot (X.e + 1)) := hid (by rw [hnx])
  rw [← hnx]
  clear hnx
  go_enter Try.func27, Try.ntmps27
  go_wp2_with fail
  rw [← HWB.out]
  refine HF.out.mono ?_
  clear HF HWB
  rintro x w1 ⟨rfl, hd1, hm1⟩
  obtain ⟨w2, hw2⟩ : ∃ w2, w2 = w1.alloc (.cells #[.int .i64 (X).e, .int .i64 (X).r, .int .i64 (X).s, .int .i64 (X).t] 24) := ⟨_, rfl⟩
  have hb2 : Below w1.heap.size w1 w2 := by rw [hw2]; exact (Below.refl _ _).alloc (Nat.le_refl _) _
  have hf2 : w2.heap[w1.heap.size]? = some (.cells #[.int .i64 (X).e, .int .i64 (X).r, .int .i64 (X).s, .int .i64 (X).t] 24 (0, 0)) := by rw [hw2]; exact heap_alloc_new w1 _
  have HD2 := hid (hd1.below hb2)
  have HM2 : Hid (Mv (fun b => C b ≠ 0) w w2) := hid ((HMB.out.trans' hm1 (fun _ _ h => h)).trans' (Mv.of_below hb2) (fun _ _ h => h))
  have hx2 : w2.heap[w.heap.size]? = _ := row_below (hm1.row HXB.out (fun h => h (HNEW.out _ (Nat.le_refl _)))) hb2
  have HR2 : Hid (w2.heap[w.heap.size + 1]? = _) := hid (row_below (hm1.row HRB.out (fun h => h (HNEW.out _ (Nat.le_succ _)))) hb2)
  have k0 := cell_of_row w2 _ 0 _ _ _ hf2
  have q0 := cell_of_row w2 _ 0 _ _ _ hx2
  have qf := frozen_of_row w2 w.heap.size 0 _ _ hx2
  obtain ⟨w3, hw3⟩ : ∃ w3, w3 = w2.setCell ⟨w.heap.size, 0, none⟩ (.int .i64 (X.e + 1)) := ⟨_, rfl⟩
  have hg3 : w2.grownBy w3 (some w.heap.size) := by rw [hw3]; exact grown_setCell (grown_refl _ _) (.inl rfl) _
  have hm3 : Mv (fun b => b = w.heap.size) w2 w3 := Mv.of_grown hg3 fun g h _ => by cases h; rfl
  have hx3 : w3.heap[w.heap.size]? = some (.cells #[.int .i64 (X.e + 1), .int .i64 r, .int .i64 s, .int .i64 t] 24 (0, 0)) := by rw [hw3]; exact row_set hx2 0 _ (by simp)
  have HD3 := hid (HD2.out.keep hm3 fun b hb => HNEW.out b (by omega))
  have HM3 : Hid (Mv (fun b => C b ≠ 0) w w3) := hid (HM2.out.trans' hm3 (fun i hi hf => by omega))
  have HR3 : Hid (w3.heap[w.heap.size + 1]? = _) := hid (hm3.row HR2.out (by omega))
  have HX3 := hid hx3
  have HW2 := hid hw2
  have HW3 := hid hw3
  have p0 := cell_of_row w3 _ 0 _ _ _ hx3
  have p1 := cell_of_row w3 _ 1 _ _ _ hx3
  have p2 := cell_of_row w3 _ 2 _ _ _ hx3
  have p3 := cell_of_row w3 _ 3 _ _ _ hx3
  clear hd1 hm1 hb2 hf2 hx2 hg3 hm3 hx3 HD2 HM2 HR2 HMB HXB HRB hw2 hw3
  have HENC : Hid (Calls Try.prog 9 #[.agg #[.int .i64 (X.e + 1), .int .i64 r, .int .i64 s, .int .i64 t]] w3 fun x w' => FEncAns nx w3.heap.size x w' ∧ Below w3.heap.size w3 w') := hid (by rw [HNX.out]; exact fenc_any (X.e + 1) r s t w3)
  rcases hq with rfl | rfl
  all_goals
    go_upto_region 4 with fail
    rw [← HW2.out]
    go_upto_region 5 with fail
    rw [← HW3.out]
    go_wp2_with fail
    refine HENC.out.mono ?_
    clear HENC HW2 HW3
    rintro x w4 ⟨⟨v, rfl, hv⟩, hb4⟩
    have HV4 := hid hv
    have HD4 := hid (HD3.out.below hb4)
    have HM4 : Hid (Mv (fun b => C b ≠ 0) w w4) := hid (HM3.out.trans' (Mv.of_below hb4) (fun _ _ h => h))
    have HR4 : Hid (w4.heap[w.heap.size + 1]? = _) := hid (row_below HR3.out hb4)
    have hx4 : w4.heap[w.heap.size]? = _ := row_below HX3.out hb4
    have HX4 := hid hx4
    have HLT : Hid (w.heap.size + 1 < w3.heap.size) := hid (row_lt HR3.out)
    clear hv hb4 HD3 HM3 HR3 HX3 k0 q0 qf p0 p1 p2 p3
    cases hok : nx.ok
    · rw [spChk_no hok]
      have HOK := hid hok
      clear hok hx4
      go_upto_region 7 with fail
      refine wp_region_lit ?_
      refine wpList_plain rfl fun K hK => ?_
      go_simp
      refine hK _ _ ?_
      refine wpList_plain rfl fun K hK => ?_
      go_simp
      refine hK _ _ ?_
      refine wpList_store_own rfl 24 _ _ rfl (w.heap.size + 1) #[.int .i64 0, .int .i64 0, .int .i64 0, .int .i64 0] rfl rfl 24 _ HR4.out (by kernel_rfl) rfl (by simp [Value.oneCell']) ?_
      intro w9 hr9 hg9
      have HR9 := hid hr9
      have hm9 : Mv (fun b => b = w.heap.size + 1) w4 w9 := Mv.of_grown hg9 fun g h _ => by cases h; rfl
      have HD9 := hid (HD4.out.keep hm9 fun b hb => by subst hb; exact HNEW.out _ (Nat.le_succ _))
      have HM9 : Hid (Mv (fun b => C b ≠ 0) w w9) := hid (HM4.out.trans' hm9 (fun i hi hf => by omega))
      clear hr9 hg9 hm9
      go_wp2_with fail
      exact bodyPost_ret (v := .tuple #[.agg #[.int .i64 0, .int .i64 0, .int .i64 0, .int .i64 0], .int .i64 10]) (resFlip _ _ _ _ rfl HR9.out rfl) rfl ⟨HM9.out, _, 0, _, HD9.out, fun _ _ => rfl, .inl ⟨HOK.out, rfl, rfl, rfl⟩⟩
    · rw [spChk_ok hok]
      have HOK := hid hok
      obtain ⟨a5, c5, rfl, hs5, hl5, hm5, hn5⟩ := (by have h := HV4.out; rwa [spChk_ok hok, if_pos rfl] at h : Bb (fun b => w3.heap.size ≤ b) w4 v (spEnc nx))
      rw [spEnc_len] at hl5 ⊢
      have HS5 := hid hs5
      have p0 := cell_of_row w4 _ 0 _ _ _ hx4
      clear hok hx4 HV4 hs5 hl5 hm5 hn5
      go_wp2_with fail
      refine (slot_any (X.e + 1) w4).mono ?_
      rintro x w4' ⟨rfl, rfl⟩
      have hsl : slot (X.e + 1) < 2 := slot_lt _
      cases hsp : spendOk S2.armed S2.left
      · have HW := hid (dv_write_spent HD4.out (slot (X.e + 1) : Nat) a5 c5 HON.out (by omega) hsp)
        have HSP := hid hsp
        clear hsp p0 HS5
        go_wp2_with fail
        refine HW.out.mono ?_
        clear HW
        rintro x w5 ⟨rfl, hd5, hm5⟩
        have HD5 := hid hd5
        have HM5 : Hid (Mv (fun b => C b ≠ 0) w w5) := hid (HM4.out.trans' hm5 (fun _ _ h => h))
        have HR5 : Hid (w5.heap[w.heap.size + 1]? = _) := hid (hm5.row HR4.out (fun h => h (HNEW.out _ (Nat.le_succ _))))
        clear hd5 hm5 HD4 HM4 HR4 HX4
        go_upto_region 10 with fail
        refine wp_region_lit ?_
        refine wpList_plain rfl fun K hK => ?_
        go_simp
        refine hK _ _ ?_
        refine wpList_plain rfl fun K hK => ?_
        go_simp
        refine hK _ _ ?_
        refine wpList_store_own rfl 24 _ _ rfl (w.heap.size + 1) #[.int .i64 0, .int .i64 0, .int .i64 0, .int .i64 0] rfl rfl 24 _ HR5.out (by kernel_rfl) rfl (by simp [Value.oneCell']) ?_
        intro w9 hr9 hg9
        have HR9 := hid hr9
        have hm9 : Mv (fun b => b = w.heap.size + 1) w5 w9 := Mv.of_grown hg9 fun g h _ => by cases h; rfl
        have HD9 := hid (HD5.out.keep hm9 fun b hb => by subst hb; exact HNEW.out _ (Nat.le_succ _))
        have HM9 : Hid (Mv (fun b => C b ≠ 0) w w9) := hid (HM5.out.trans' hm9 (fun i hi hf => by omega))
        clear hr9 hg9 hm9
        go_wp2_with fail
        exact bodyPost_ret (v := .tuple #[.agg #[.int .i64 0, .int .i64 0, .int .i64 0, .int .i64 0], .int .i64 9]) (resFlip _ _ _ _ rfl HR9.out rfl) rfl ⟨HM9.out, _, 0, _, HD9.out, fun _ _ => rfl, .inr (.inl ⟨HOK.out, HSP.out, rfl, rfl, rfl⟩)⟩
      · have HW := hid (dv_write HD4.out (slot (X.e + 1)) hsl _ a5 c5 (spEnc nx) HS5.out (fun b hb => HNEW.out b (by have := HLT.out; omega)) (spEnc_len nx) HON.out hsp (by decide) (by have := HSS.out; omega))
        have HSP := hid hsp
        clear hsp p0 HS5
        go_wp2_with fail
        refine HW.out.mono ?_
        clear HW
        rintro x w5 ⟨rfl, ⟨C', hd5, hext⟩, hm5⟩
        have HD5 := hid hd5
        have HEX := hid hext
        have HLT5 : Hid (w.heap.size ≤ w4.heap.size) := hid HM4.out.size
        have HEXT : Hid (Ext w C C') := hid fun b hb => hext b (by have := HLT5.out; omega)
        have HLT4 : Hid (w.heap.size + 1 < w4.heap.size) := hid (row_lt HR4.out)
        have HM5 : Hid (Mv (fun b => C b ≠ 0) w w5) := hid (HM4.out.trans' hm5 (fun _ _ h => h))
        have HR5 : Hid (w5.heap[w.heap.size + 1]? = _) := hid (hm5.row HR4.out (fun h => h (HNEW.out _ (Nat.le_succ _))))
        have HX5 : Hid (w5.heap[w.heap.size]? = _) := hid (hm5.row HX4.out (fun h => h (HNEW.out _ (Nat.le_refl _))))
        have HC0 : Hid (C' (w.heap.size + 1) = 0 ∧ C' w.heap.size = 0) := hid ⟨by rw [hext _ HLT4.out]; exact HNEW.out _ (Nat.le_succ _), by rw [hext _ (by have := HLT4.out; omega)]; exact HNEW.out _ (Nat.le_refl _)⟩
        rw [← HNE.out] at HD5
        clear hd5 hm5 hext HD4 HM4 HR4 HX4
        obtain ⟨S3, hS3⟩ : ∃ S3, S3 = wrote S2 (slot nx.e) (spEnc nx) := ⟨_, rfl⟩
        have HS3 := hid hS3
        have HON3 : Hid (S3.on = true ∧ S3.armed = S2.armed ∧ S3.left = spendLeft S2.armed S2.left ∧ S3.t ≤ 999000) := hid (by rw [hS3]; exact ⟨HON.out, rfl, rfl, HTT.out⟩)
        rw [← hS3] at HD5
        clear hS3
        cases hsp2 : spendOk S2.armed (spendLeft S2.armed S2.left)
        · have HW := hid (dv_sync_spent HD5.out HON3.out.1 (by rw [HON3.out.2.1, HON3.out.2.2.1]; exact hsp2))
          have HSP2 := hid hsp2
          clear hsp2
          go_wp2_with fail
          refine HW.out.mono ?_
          clear HW
          rintro x w6 ⟨rfl, hd6, hm6⟩
          have HD6 := hid hd6
          have HM6 : Hid (Mv (fun b => C b ≠ 0) w w6) := hid (HM5.out.trans' hm6 (fun i hi h => by rw [← HEXT.out i hi]; exact h))
          have HR6 : Hid (w6.heap[w.heap.size + 1]? = _) := hid (hm6.row HR5.out (fun h => h HC0.out.1))
          clear hd6 hm6 HD5 HM5 HR5
          go_upto_region 13 with fail
          refine wp_region_lit ?_
          refine wpList_plain rfl fun K hK => ?_
          go_simp
          refine hK _ _ ?_
          refine wpList_plain rfl fun K hK => ?_
          go_simp
          refine hK _ _ ?_
          refine wpList_store_own rfl 24 _ _ rfl (w.heap.size + 1) #[.int .i64 0, .int .i64 0, .int .i64 0, .int .i64 0] rfl rfl 24 _ HR6.out (by kernel_rfl) rfl (by simp [Value.oneCell']) ?_
          intro w9 hr9 hg9
          have HR9 := hid hr9
          have hm9 : Mv (fun b => b = w.heap.size + 1) w6 w9 := Mv.of_grown hg9 fun g h _ => by cases h; rfl
          have HD9 := hid (HD6.out.keep hm9 fun b hb => by subst hb; exact HC0.out.1)
          have HM9 : Hid (Mv (fun b => C b ≠ 0) w w9) := hid (HM6.out.trans' hm9 (fun i hi hf => by omega))
          clear hr9 hg9 hm9
          go_wp2_with fail
          exact bodyPost_ret (v := .tuple #[.agg #[.int .i64 0, .int .i64 0, .int .i64 0, .int .i64 0], .int .i64 9]) (resFlip _ _ _ _ rfl HR9.out rfl) rfl ⟨HM9.out, _, 1, _, HD9.out, HEXT.out, .inr (.inr (.inl ⟨HOK.out, HSP.out, HSP2.out, rfl, by rw [← HS3.out], rfl⟩))⟩
        · have HW := hid (dv_sync HD5.out HON3.out.1 (by rw [HON3.out.2.1, HON3.out.2.2.1]; exact hsp2) (by decide) (by have := HON3.out.2.2.2; omega))
          have HSP2 := hid hsp2
          clear hsp2
          go_wp2_with fail
          refine HW.out.mono ?_
          clear HW
          rintro x w6 ⟨rfl, ⟨L, hd6, hL⟩, hm6⟩
          have HD6 := hid hd6
          have HL := hid hL
          have HM6 : Hid (Mv (fun b => C b ≠ 0) w w6) := hid (HM5.out.trans' hm6 (fun i hi h => by rw [← HEXT.out i hi]; exact h))
          have HR6 : Hid (w6.heap[w.heap.size + 1]? = _) := hid (hm6.row HR5.out (fun h => h HC0.out.1))
          have HX6 : Hid (w6.heap[w.heap.size]? = _) := hid (hm6.row HX5.out (fun h => h HC0.out.2))
          clear hd6 hm6 hL HD5 HM5 HR5 HX5
          go_upto_region 14 with fail
          refine wp_region_lit ?_
          refine wpList_load_row rfl 24 _ rfl w.heap.size rfl 24 _ _ _ HX6.out Try.underlying24 rfl (by kernel_rfl) ?_
          refine wpList_store_own rfl 24 _ _ rfl (w.heap.size + 1) #[.int .i64 (X.e + 1), .int .i64 r, .int .i64 s, .int .i64 t] rfl rfl 24 _ HR6.out (by kernel_rfl) rfl (by simp [Value.oneCell']) ?_
          intro w9 hr9 hg9
          have HR9 := hid hr9
          have hm9 : Mv (fun b => b = w.heap.size + 1) w6 w9 := Mv.of_grown hg9 fun g h _ => by cases h; rfl
          have HD9 := hid (HD6.out.keep hm9 fun b hb => by subst hb; exact HC0.out.1)
          have HM9 : Hid (Mv (fun b => C b ≠ 0) w w9) := hid (HM6.out.trans' hm9 (fun i hi hf => by omega))
          clear hr9 hg9 hm9
          go_wp2_with fail
          exact bodyPost_ret (v := .tuple #[.agg #[.int .i64 (X.e + 1), .int .i64 r, .int .i64 s, .int .i64 t], .int .i64 0]) (resFlip _ _ _ _ rfl HR9.out rfl) rfl ⟨HM9.out, _, 0, _, HD9.out, HEXT.out, .inr (.inr (.inr ⟨HOK.out, HSP.out, HSP2.out, by rw [HNX.out], rfl, L, by rw [← HS3.out], by rw [← HS3.out]; exact HL.out⟩))⟩
end
end Go.Proofs.Ytebacgkeolofmaa
namespace Go.Proofs.Ytebacgkeolofmaa
open Go.RowKit Go.Inc

def zeros256 : List Nat := List.replicate 256 0
theorem zeros_bytes : Bytes zeros256 := by
  intro x hx
  unfold zeros256 at hx
  rw [List.mem_replicate] at hx
  omega
theorem flE_zeros (page : Int) : flE zeros256 page ≠ 0 := by
  unfold flE
  split
  · have h : opnE zeros256 page [1] = 5 := by
      unfold opnE
      have hz : decE zeros256 = 5 := decE_zeros
      rw [hz, if_pos (by decide)]
    rw [h, if_pos (by decide)]
    decide
  · decide
/-- No right one has a higher epoch than the one that counts. -/
theorem fi_max0 {A B : List Nat} (h : flE A 0 = 0) : fiE A B = 0 ∧ (flS A 0).e ≤ (fiS A B).e := by
  unfold fiE fiS
  rw [if_neg (by omega), if_neg (by omega)]
  refine ⟨rfl, ?_⟩
  split
  · omega
  · exact Int.le_refl _
theorem fi_max1 {A B : List Nat} (h : flE B 1 = 0) : fiE A B = 0 ∧ (flS B 1).e ≤ (fiS A B).e := by
  unfold fiE fiS
  rw [if_neg (by omega), if_neg (by omega)]
  refine ⟨rfl, ?_⟩
  split
  · exact Int.le_refl _
  · omega
theorem fi_only0 {A B : List Nat} (h : flE A 0 = 0) (h1 : flE B 1 = 0 → (flS B 1).e ≤ (flS A 0).e) : fiE A B = 0 ∧ fiS A B = flS A 0 := by
  unfold fiE fiS
  rw [if_neg (by omega), if_neg (by omega), if_neg (by omega)]
  exact ⟨rfl, rfl⟩
theorem fi_only1 {A B : List Nat} (h : flE B 1 = 0) (h1 : flE A 0 = 0 → (flS A 0).e < (flS B 1).e) : fiE A B = 0 ∧ fiS A B = flS B 1 := by
  unfold fiE fiS
  rw [if_neg (by omega), if_neg (by omega), if_pos (by omega)]
  exact ⟨rfl, rfl⟩
theorem fi_none {A B : List Nat} (h : flE A 0 ≠ 0) (h1 : flE B 1 ≠ 0) : fiE A B = 5 ∧ fiS A B = zeroSp := by
  unfold fiE fiS
  rw [if_pos ⟨h, h1⟩, if_pos ⟨h, h1⟩]
  exact ⟨rfl, rfl⟩
/-- The two pages behind a flip. -/
def newA (nx : Sp) (A : List Nat) : List Nat := if slot nx.e = 0 then spEnc nx else A
def newB (nx : Sp) (B : List Nat) : List Nat := if slot nx.e = 0 then B else spEnc nx
theorem slot_cases (e : Int) : slot e = 0 ∨ slot e = 1 := by have := slot_lt e; omega
theorem find_new {A B : List Nat} {nx : Sp} (hok : nx.ok = true) (he : nx.e = (fiS A B).e + 1) : fiE (newA nx A) (newB nx B) = 0 ∧ fiS (newA nx A) (newB nx B) = nx := by
  have h0 := flE_enc hok
  have h1 := flS_enc hok
  unfold newA newB
  rcases slot_cases nx.e with hs | hs
  · rw [hs] at h0 h1
    rw [if_pos hs, if_pos hs]
    have := fi_only0 (A := spEnc nx) (B := B) h0 (fun hb => by
      have := (fi_max1 (A := A) hb).2
      have e1 : (flS (spEnc nx) 0).e = nx.e := congrArg Sp.e h1
      omega)
    exact ⟨this.1, this.2.trans h1⟩
  · rw [hs] at h0 h1
    rw [if_neg (by omega), if_neg (by omega)]
    have := fi_only1 (A := A) (B := spEnc nx) h0 (fun ha => by
      have := (fi_max0 (B := B) ha).2
      have e1 : (flS (spEnc nx) 1).e = nx.e := congrArg Sp.e h1
      omega)
    exact ⟨this.1, this.2.trans h1⟩
theorem newA_bytes {nx : Sp} {A : List Nat} (h : Bytes A) : Bytes (newA nx A) := by
  unfold newA
  split
  · exact spEnc_bytes nx
  · exact h
theorem newB_bytes {nx : Sp} {B : List Nat} (h : Bytes B) : Bytes (newB nx B) := by
  unfold newB
  split
  · exact h
  · exact spEnc_bytes nx

/-- A page that holds the superblock of an epoch, or none yet. -/
def Holds (X : List Nat) (j : Int) : Prop := (j ≤ 0 ∧ X = zeros256) ∨ ∃ y : Sp, y.ok = true ∧ y.e = j ∧ X = spEnc y
def pgs (A B : List Nat) (j : Nat) : List Nat := if j = 0 then A else B
/-- Two pages behind k flips. -/
def Flips (A B : List Nat) (k : Int) : Prop := 0 ≤ k ∧ Holds (pgs A B (slot k)) k ∧ Holds (pgs A B (slot (k + 1))) (k - 1)
theorem Holds.bytes {X : List Nat} {j : Int} (h : Holds X j) : Bytes X ∧ X.length = 256 := by
  rcases h with ⟨_, rfl⟩ | ⟨y, _, _, rfl⟩
  · exact ⟨zeros_bytes, List.length_replicate⟩
  · exact ⟨spEnc_bytes y, spEnc_len y⟩
theorem Flips.start : Flips zeros256 zeros256 0 := by
  refine ⟨Int.le_refl _, ?_, ?_⟩ <;> unfold pgs
  · exact .inl ⟨by decide, by split <;> rfl⟩
  · exact .inl ⟨by decide, by split <;> rfl⟩
theorem slot_next (k : Int) : slot (k + 1) = 1 - slot k := by unfold slot; omega
theorem slot_next2 (k : Int) : slot (k + 1 + 1) = slot k := by unfold slot; omega
theorem Flips.bytes {A B : List Nat} {k : Int} (h : Flips A B k) : Bytes A ∧ Bytes B := by
  obtain ⟨_, h1, h2⟩ := h
  have := slot_next k
  rcases slot_cases k with hs | hs
  · rw [hs] at h1; rw [this, hs] at h2
    exact ⟨h1.bytes.1, h2.bytes.1⟩
  · rw [hs] at h1; rw [this, hs] at h2
    exact ⟨h2.bytes.1, h1.bytes.1⟩
theorem Flips.next {A B : List Nat} {k : Int} {nx : Sp} (h : Flips A B k) (hok : nx.ok = true) (he : nx.e = k + 1) : Flips (newA nx A) (newB nx B) (k + 1) := by
  obtain ⟨h0, h1, h2⟩ := h
  have hsn := slot_next k
  have e : slot nx.e = slot (k + 1) := by rw [he]
  refine ⟨by omega, ?_, ?_⟩
  · refine .inr ⟨nx, hok, he, ?_⟩
    unfold pgs newA newB
    rw [e]
    rcases slot_cases (k + 1) with hs | hs
    · rw [if_pos hs, if_pos hs]
    · rw [if_neg (by omega), if_neg (by omega)]
  · rw [slot_next2, Int.add_sub_cancel]
    have : pgs (newA nx A) (newB nx B) (slot k) = pgs A B (slot k) := by
      unfold pgs newA newB
      rw [e]
      rcases slot_cases k with hs | hs
      · simp [hsn, hs]
      · simp [hsn, hs]
    rw [this]
    exact h1
/-- What counts: the page of the last flip, whatever stands on the other one, if its epoch is lower. -/
theorem find_last {A B : List Nat} {k : Int} {y : Sp} (hy : y.ok = true) (he : y.e = k) (hX : pgs A B (slot k) = spEnc y) (hl : flE (pgs A B (slot (k + 1))) (slot (k + 1) : Nat) = 0 → (flS (pgs A B (slot (k + 1))) (slot (k + 1) : Nat)).e < k) : fiE A B = 0 ∧ fiS A B = y := by
  have h0 := flE_enc hy
  have h1 := flS_enc hy
  have hsn := slot_next k
  have hs' : slot y.e = slot k := by rw [he]
  rcases slot_cases k with hs | hs
  · rw [hs', hs] at h0 h1
    rw [hs] at hX
    rw [hsn, hs] at hl
    have hA : A = spEnc y := hX
    subst hA
    have := fi_only0 (A := spEnc y) (B := B) h0 (fun hb => by
      have h2 := hl hb
      have e1 : (flS (spEnc y) 0).e = y.e := congrArg Sp.e h1
      have e2 : (flS B 1).e < k := h2
      omega)
    exact ⟨this.1, this.2.trans h1⟩
  · rw [hs', hs] at h0 h1
    rw [hs] at hX
    rw [hsn, hs] at hl
    have hB : B = spEnc y := hX
    subst hB
    have := fi_only1 (A := A) (B := spEnc y) h0 (fun ha => by
      have h2 := hl ha
      have e1 : (flS (spEnc y) 1).e = y.e := congrArg Sp.e h1
      have e2 : (flS A 0).e < k := h2
      omega)
    exact ⟨this.1, this.2.trans h1⟩
end Go.Proofs.Ytebacgkeolofmaa
namespace Go.Proofs.Ytebacgkeolofmaa
open Go.RowKit Go.Inc

theorem flE_parts {T : List Nat} {page : Int} (h : flE T page = 0) : decE T = 0 ∧ flS T page = spOf (picked T).e (picked T).b := by
  have h1 : opnE T page [1] = 0 := by
    unfold flE at h
    split at h
    · split at h
      · rename_i h2; exact absurd h h2
      · rename_i h2; omega
    · cases h
  have h2 := opnE_dec h1
  refine ⟨h2, ?_⟩
  unfold flS
  rw [if_pos h, decF_ok h2]
theorem four_len {l : List Nat} (h : l.length = 4) : l = [l.getD 0 0, l.getD 1 0, l.getD 2 0, l.getD 3 0] := by
  match l, h with
  | [a, b, c, d], _ => rfl
theorem zeros_get (i : Nat) : zeros256.getD i 0 = 0 := by
  unfold zeros256
  rw [List.getD_eq_getElem?_getD, List.getElem?_replicate]
  split <;> rfl
/-- A beginning of a superblock's page, the rest of the page of the epoch two ahead, or of none. -/
theorem torn_sp {X : List Nat} {nx : Sp} {page : Int} {m : Nat} (hok : nx.ok = true) (hX : Holds X (nx.e - 2)) (hm : m ≤ 256) (h : flE ((spEnc nx).take m ++ X.drop m) page = 0) :
    flS ((spEnc nx).take m ++ X.drop m) page = nx ∨ (flS ((spEnc nx).take m ++ X.drop m) page).e = nx.e - 2 := by
  obtain ⟨hd, hS⟩ := flE_parts h
  have hso := (flS_ok h).1
  rcases hX with ⟨hj, rfl⟩ | ⟨y, hy, he, rfl⟩
  · have hn := (spOk_iff _).1 hok
    have lx := spEnc_len nx
    have lz : zeros256.length = 256 := List.length_replicate
    obtain ⟨hl, hh, hpk, hld⟩ := decE_zero hd
    have lt : ((spEnc nx).take m).length = m := by rw [List.length_take]; omega
    by_cases h248 : 248 < m
    · left
      have e : ((spEnc nx).take m ++ zeros256.drop m).take 248 = (spEnc nx).take 248 := by
        rw [List.take_append_of_le_length (by omega), List.take_take, Nat.min_eq_left (by omega)]
      have hp : picked (spEnc nx) = spFr nx := picked_enc (spFr_ok hok)
      rw [hS, picked_248 e, hp]
      exact spOf_body hok
    · exfalso
      by_cases h3 : 3 ≤ m
      · have hby : Bytes ((spEnc nx).take m ++ zeros256.drop m) := ((spEnc_bytes nx).take _).append (zeros_bytes.drop _)
        have hf := (form_laid hl hby).1 hld
        have h4 := congrArg (fun l => l.getD 0 0) hf.2.2.2
        rw [frAt_get (by omega), frAt_get (by omega), getD_append_right (by omega), getD_append_left (by omega), getD_drop, getD_take (by omega), lt, zeros_get] at h4
        rw [show 2 + 0 = 2 from rfl] at h4
        have h5 : (spEnc nx).getD 2 0 = nx.e.toNat % 256 := enc_2 (spFr nx)
        rw [h5] at h4
        omega
      · have hz : ∀ i, i < 4 → (frAt ((spEnc nx).take m ++ zeros256.drop m) 2 4).getD i 0 = 0 := fun i hi => by
          rw [frAt_get hi, getD_append_right (by omega), getD_drop, zeros_get]
        have h4 := four_len (l := frAt ((spEnc nx).take m ++ zeros256.drop m) 2 4) (frAt_len (by omega))
        rw [hz 0 (by omega), hz 1 (by omega), hz 2 (by omega), hz 3 (by omega)] at h4
        have he : (flS ((spEnc nx).take m ++ zeros256.drop m) page).e = 0 := by
          rw [hS]
          show ((Var.num (frAt ((spEnc nx).take m ++ zeros256.drop m) 2 4) : Nat) : Int) = 0
          rw [h4, num4]
          rfl
        have := (spOk_iff _).1 hso
        omega
  · have ht := torn (x := spFr y) (y := spFr nx) (spFr_ok hy) (spFr_ok hok) (body_bytes y) (body_bytes nx) (by show nx.e = y.e + 2; omega) m hm hd
    rcases ht with ht | ht
    · right
      have hp : picked ((spEnc nx).take m ++ (spEnc y).drop m) = spFr y := ht
      rw [hS, hp]
      exact he
    · left
      have hp : picked ((spEnc nx).take m ++ (spEnc y).drop m) = spFr nx := ht
      rw [hS, hp]
      exact spOf_body hok
theorem keptN_one (N : Int) : keptN 1 N = 0 ∨ keptN 1 N = 1 := by have := keptN_le 1 N; omega
/-- What a crash keeps of a page of which one version waits. -/
theorem kept_one (X Y : List Nat) (N part : Int) : keptPg X [Y] N part = Y ∨ ∃ m, m ≤ 256 ∧ keptPg X [Y] N part = Y.take m ++ X.drop m := by
  unfold keptPg
  rcases keptN_one N with h | h
  · right
    refine ⟨(max 0 (min part 256)).toNat, by omega, ?_⟩
    simp [h]
  · left
    simp [h]
theorem find_next {A B : List Nat} {k : Int} {nx : Sp} (he : nx.e = k + 1) (hT : flE (pgs A B (slot (k + 1))) (slot (k + 1) : Nat) = 0) (hS : flS (pgs A B (slot (k + 1))) (slot (k + 1) : Nat) = nx) (hl : flE (pgs A B (slot k)) (slot k : Nat) = 0 → (flS (pgs A B (slot k)) (slot k : Nat)).e ≤ k) : fiE A B = 0 ∧ fiS A B = nx := by
  have hsn := slot_next k
  rcases slot_cases k with hs | hs
  · rw [hsn, hs] at hT hS
    rw [hs] at hl
    have e1 : (flS B 1).e = nx.e := congrArg Sp.e hS
    have := fi_only1 (A := A) (B := B) hT (fun ha => by
      have h2 : (flS A 0).e ≤ k := hl ha
      omega)
    exact ⟨this.1, this.2.trans hS⟩
  · rw [hsn, hs] at hT hS
    rw [hs] at hl
    have e1 : (flS A 0).e = nx.e := congrArg Sp.e hS
    have := fi_only0 (A := A) (B := B) hT (fun hb => by
      have h2 : (flS B 1).e ≤ k := hl hb
      omega)
    exact ⟨this.1, this.2.trans hS⟩
theorem find_no {A B : List Nat} {k : Int} (h1 : flE (pgs A B (slot k)) (slot k : Nat) ≠ 0) (h2 : flE (pgs A B (slot (k + 1))) (slot (k + 1) : Nat) ≠ 0) : fiE A B = 5 ∧ fiS A B = zeroSp := by
  have hsn := slot_next k
  rw [hsn] at h2
  rcases slot_cases k with hs | hs
  · rw [hs] at h1 h2
    exact fi_none h1 h2
  · rw [hs] at h1 h2
    exact fi_none h2 h1
theorem Holds.low {X : List Nat} {j : Int} {p : Nat} (h : Holds X j) (hp : slot j = p) (hr : flE X (p : Int) = 0) : (flS X (p : Int)).e = j := by
  rcases h with ⟨_, rfl⟩ | ⟨y, hy, he, rfl⟩
  · exact absurd hr (flE_zeros _)
  · have : slot y.e = p := by rw [he]; exact hp
    have h1 := flS_enc hy
    rw [this] at h1
    rw [h1]
    exact he
theorem slot_back (k : Int) : slot (k - 1) = slot (k + 1) := by unfold slot; omega
/-- What counts behind k flips. -/
theorem find_flips {A B : List Nat} {k : Int} (h : Flips A B k) : (k = 0 ∧ fiE A B = 5 ∧ fiS A B = zeroSp) ∨ (1 ≤ k ∧ fiE A B = 0 ∧ (fiS A B).e = k ∧ pgs A B (slot k) = spEnc (fiS A B) ∧ (fiS A B).ok = true) := by
  obtain ⟨h0, h1, h2⟩ := h
  have hlow : flE (pgs A B (slot (k + 1))) (slot (k + 1) : Nat) = 0 → (flS (pgs A B (slot (k + 1))) (slot (k + 1) : Nat)).e < k := fun hr => by
    have := h2.low (slot_back k) hr
    omega
  rcases h1 with ⟨hk, hz⟩ | ⟨y, hy, he, hX⟩
  · left
    refine ⟨by omega, find_no (k := k) (by rw [hz]; exact flE_zeros _) ?_⟩
    rcases h2 with ⟨_, hz2⟩ | ⟨y, hy, he, _⟩
    · rw [hz2]; exact flE_zeros _
    · have := (spOk_iff _).1 hy
      omega
  · right
    have := (spOk_iff _).1 hy
    obtain ⟨f1, f2⟩ := find_last hy he hX hlow
    refine ⟨by omega, f1, by rw [f2]; exact he, by rw [f2]; exact hX, by rw [f2]; exact hy⟩
/-- A crash in the midst of a flip. -/
theorem find_crash {A B A2 B2 : List Nat} {k : Int} {nx : Sp} (h : Flips A B k) (hok : nx.ok = true) (he : nx.e = k + 1) (h1 : pgs A2 B2 (slot k) = pgs A B (slot k))
    (h2 : pgs A2 B2 (slot (k + 1)) = pgs A B (slot (k + 1)) ∨ pgs A2 B2 (slot (k + 1)) = spEnc nx ∨ ∃ m, m ≤ 256 ∧ pgs A2 B2 (slot (k + 1)) = (spEnc nx).take m ++ (pgs A B (slot (k + 1))).drop m) :
    (fiE A2 B2 = fiE A B ∧ fiS A2 B2 = fiS A B) ∨ (fiE A2 B2 = 0 ∧ fiS A2 B2 = nx) := by
  have hff := find_flips h
  obtain ⟨h0, hc, hp⟩ := h
  have hcur : flE (pgs A2 B2 (slot k)) (slot k : Nat) = 0 → (flS (pgs A2 B2 (slot k)) (slot k : Nat)).e ≤ k := fun hr => by
    rw [h1] at hr ⊢
    have := hc.low rfl hr
    omega
  have hse : slot nx.e = slot (k + 1) := by rw [he]
  -- what the page that was written tells: nothing, the new one, or one of an epoch below that of the last
  have hT : flE (pgs A2 B2 (slot (k + 1))) (slot (k + 1) : Nat) = 0 → flS (pgs A2 B2 (slot (k + 1))) (slot (k + 1) : Nat) = nx ∨ (flS (pgs A2 B2 (slot (k + 1))) (slot (k + 1) : Nat)).e < k := fun hr => by
    rcases h2 with h2 | h2 | ⟨m, hm, h2⟩
    · right
      rw [h2] at hr ⊢
      have := hp.low (slot_back k) hr
      omega
    · left
      rw [h2, ← hse]
      exact flS_enc hok
    · rw [h2] at hr ⊢
      rcases torn_sp hok (by rw [show nx.e - 2 = k - 1 from by omega]; exact hp) hm hr with h | h
      · exact .inl h
      · exact .inr (by omega)
  by_cases hr : flE (pgs A2 B2 (slot (k + 1))) (slot (k + 1) : Nat) = 0 ∧ flS (pgs A2 B2 (slot (k + 1))) (slot (k + 1) : Nat) = nx
  · exact .inr (find_next he hr.1 hr.2 hcur)
  · left
    have hlow : flE (pgs A2 B2 (slot (k + 1))) (slot (k + 1) : Nat) = 0 → (flS (pgs A2 B2 (slot (k + 1))) (slot (k + 1) : Nat)).e < k := fun hh => by
      rcases hT hh with h | h
      · exact absurd ⟨hh, h⟩ hr
      · exact h
    rcases hff with ⟨hk0, f1, f2⟩ | ⟨hk1, f1, f2, f3, f4⟩
    · rw [f1, f2]
      refine find_no (k := k) ?_ ?_
      · rw [h1]
        intro hh
        have e1 := hc.low rfl hh
        have e2 := (spOk_iff _).1 (flS_ok hh).1
        omega
      · intro hh
        have e1 := hlow hh
        have e2 := (spOk_iff _).1 (flS_ok hh).1
        omega
    · rw [f1]
      have := find_last (A := A2) (B := B2) f4 f2 (by rw [h1]; exact f3) hlow
      exact this
end Go.Proofs.Ytebacgkeolofmaa
namespace Go.Proofs.Ytebacgkeolofmaa
open Go.RowKit Go.Inc

theorem rd_dry {S : St} {k : Nat} (h : S.W k = []) : rd S k = pg S.B k := by unfold rd; rw [if_pos h]
theorem rd_wrote1 {S : St} (hW : ∀ x, S.W x = []) (k j : Nat) (bs : List Nat) : rd (wrote S k bs) j = if k = j then bs else pg S.B j := by
  unfold rd wrote addW
  by_cases hkj : k = j
  · subst hkj
    simp [hW]
  · have : ¬ ((j : Int) = (k : Int)) := by omega
    simp only [this, if_false, if_neg hkj, hW, if_true]
/-- All is synced, the two pages are these; at most m calls of a kind were counted. -/
structure Idle (S : St) (P Q : List Nat) (m : Int) : Prop where
  on : S.on = true
  arm : S.armed = false
  W : ∀ x, S.W x = []
  pa : pg S.B 0 = P
  pb : pg S.B 1 = Q
  r : S.r ≤ m
  s : S.s ≤ m
  t : S.t ≤ m
theorem Idle.fresh2 : Idle (fresh (List.replicate (256 * 2) 0)) zeros256 zeros256 0 :=
  ⟨rfl, rfl, fun _ => rfl, by decide +kernel, by decide +kernel, Int.le_refl _, Int.le_refl _, Int.le_refl _⟩
theorem Idle.rds {S : St} {P Q : List Nat} {m : Int} (h : Idle S P Q m) : P = rd S 0 ∧ Q = rd S 1 := ⟨by rw [rd_dry (h.W _), h.pa], by rw [rd_dry (h.W _), h.pb]⟩
theorem Idle.found {S : St} {P Q : List Nat} {m : Int} (h : Idle S P Q m) : Idle { S with r := S.r + 2 } P Q (m + 2) :=
  ⟨h.on, h.arm, h.W, h.pa, h.pb, by have := h.r; show S.r + 2 ≤ _; omega, by have := h.s; show S.s ≤ _; omega, by have := h.t; show S.t ≤ _; omega⟩
theorem Idle.flipped {S S' : St} {P Q : List Nat} {m : Int} {nx : Sp} {x : Ending} {n : Nat} (h : Idle S P Q m) (he : FlipEnd { S with r := S.r + 2 } nx x S' n) :
    n = 0 ∧ ((nx.ok = false ∧ x = .returned (.tuple #[.agg #[.int .i64 0, .int .i64 0, .int .i64 0, .int .i64 0], .int .i64 10]) ∧ Idle S' P Q (m + 2)) ∨ (nx.ok = true ∧ x = .returned (.tuple #[.agg #[.int .i64 (nx).e, .int .i64 (nx).r, .int .i64 (nx).s, .int .i64 (nx).t], .int .i64 0]) ∧ Idle S' (newA nx P) (newB nx Q) (m + 2))) := by
  have hs : ∀ l, spendOk S.armed l = true := fun l => by rw [h.arm]; rfl
  rcases he with ⟨h1, h2, rfl, hn⟩ | ⟨h1, h2, _⟩ | ⟨h1, h2, h3, _⟩ | ⟨h1, h2, h3, h4, hn, L, rfl, hL⟩
  · exact ⟨hn, .inl ⟨h1, h2, h.found⟩⟩
  · have h2' : spendOk S.armed S.left = false := h2
    rw [hs] at h2'; cases h2'
  · have h3' : spendOk S.armed (spendLeft S.armed S.left) = false := h3
    rw [hs] at h3'; cases h3'
  · refine ⟨hn, .inr ⟨h1, h4, h.on, h.arm, fun _ => rfl, ?_, ?_, ?_, ?_, ?_⟩⟩
    · show pg L 0 = _
      rw [hL 0 (by decide), rd_wrote1 (S := { S with r := S.r + 2 }) h.W]
      unfold newA
      by_cases h0 : slot nx.e = 0
      · rw [if_pos h0, if_pos h0]
      · rw [if_neg h0, if_neg h0]; exact h.pa
    · show pg L 1 = _
      rw [hL 1 (by decide), rd_wrote1 (S := { S with r := S.r + 2 }) h.W]
      unfold newB
      have := slot_cases nx.e
      by_cases h0 : slot nx.e = 0
      · rw [if_neg (by omega), if_pos h0]; exact h.pb
      · rw [if_pos (by omega), if_neg h0]
    · have := h.r; show S.r + 2 ≤ _; omega
    · have := h.s; show S.s + 1 ≤ _; omega
    · have := h.t; show S.t + 1 ≤ _; omega
/-- Such a device at g, its blocks from B0 on. -/
structure Dd (B0 : Nat) (C : Nat → Nat) (w : World) (g : Nat) (S : St) (P Q : List Nat) (m : Int) : Prop where
  dv : Dv C w g 2 0 S
  idle : Idle S P Q m
  pb : Bytes P
  qb : Bytes Q
  hi : ∀ b, C b ≠ 0 → B0 ≤ b
section
variable {B0 : Nat} {C : Nat → Nat} {w w' : World} {g : Nat} {S : St} {P Q : List Nat} {m : Int}
theorem Dd.below (h : Dd B0 C w g S P Q m) (hb : Below w.heap.size w w') : Dd B0 C w' g S P Q m := ⟨h.dv.below hb, h.idle, h.pb, h.qb, h.hi⟩
theorem Dd.keep {F : Nat → Prop} (h : Dd B0 C w g S P Q m) (hm : Mv F w w') (hF : ∀ b, F b → C b = 0) : Dd B0 C w' g S P Q m := ⟨h.dv.keep hm hF, h.idle, h.pb, h.qb, h.hi⟩
theorem new_dd (w : World) : Calls Try.prog 26 #[.int .i64 2] w fun e w' => ∃ C g S, e = .returned (.tuple #[.pointer (some ⟨g, 0, none⟩), .int .i64 0]) ∧ Dd w.heap.size C w' g S zeros256 zeros256 0 ∧ Below w.heap.size w w' := by
  refine (dv_new w 2 (by decide)).mono ?_
  rintro e w' ⟨C, g, rfl, hd, hb, hc⟩
  exact ⟨C, g, _, rfl, ⟨hd, Idle.fresh2, zeros_bytes, zeros_bytes, hc⟩, hb⟩
theorem find_dd (h : Dd B0 C w g S P Q m) (hm : m ≤ 900000) :
    Calls Try.prog 23 #[.pointer (some ⟨g, 0, none⟩)] w fun x w' => ∃ S', x = .returned (.tuple #[.agg #[.int .i64 (fiS P Q).e, .int .i64 (fiS P Q).r, .int .i64 (fiS P Q).s, .int .i64 (fiS P Q).t], .int .i64 (fiE P Q : Nat)]) ∧ Dd B0 C w' g S' P Q (m + 2) ∧ Mv (fun b => C b ≠ 0) w w' := by
  obtain ⟨h1, h2⟩ := h.idle.rds
  refine (find_any h.dv P Q h1 h2 h.pb h.qb h.idle.on (by decide) (by have := h.idle.r; omega)).mono ?_
  rintro x w' ⟨rfl, hd, hm⟩
  exact ⟨_, rfl, ⟨hd, h.idle.found, h.pb, h.qb, h.hi⟩, hm⟩
def FlipDd (B0 : Nat) (C : Nat → Nat) (w : World) (g : Nat) (P Q : List Nat) (m : Int) (nx : Sp) (x : Ending) (w' : World) : Prop :=
  Mv (fun b => C b ≠ 0) w w' ∧ ∃ C' S', Ext w C C' ∧
      ((nx.ok = false ∧ x = .returned (.tuple #[.agg #[.int .i64 0, .int .i64 0, .int .i64 0, .int .i64 0], .int .i64 10]) ∧ Dd B0 C' w' g S' P Q (m + 2)) ∨ (nx.ok = true ∧ x = .returned (.tuple #[.agg #[.int .i64 (nx).e, .int .i64 (nx).r, .int .i64 (nx).s, .int .i64 (nx).t], .int .i64 0]) ∧ Dd B0 C' w' g S' (newA nx P) (newB nx Q) (m + 2)))
theorem flip_dd (h : Dd B0 C w g S P Q m) (hm : m ≤ 900000) (hB : B0 ≤ w.heap.size) (e r s t : Int) :
    Calls Try.prog 27 #[.pointer (some ⟨g, 0, none⟩), .agg #[.int .i64 e, .int .i64 r, .int .i64 s, .int .i64 t]] w (FlipDd B0 C w g P Q m ⟨(fiS P Q).e + 1, r, s, t⟩) := by
  obtain ⟨h1, h2⟩ := h.idle.rds
  refine (flip_any h.dv P Q e r s t h1 h2 h.pb h.qb h.idle.on (by have := h.idle.r; omega) (by have := h.idle.s; omega) (by have := h.idle.t; omega)).mono ?_
  rintro x w' ⟨hmv, C', n', S', hd, hext, hend⟩
  obtain ⟨rfl, hh⟩ := h.idle.flipped hend
  have hhi : ∀ b, C' b ≠ 0 → B0 ≤ b := fun b hb => by
    by_cases hlt : b < w.heap.size
    · rw [hext b hlt] at hb; exact h.hi b hb
    · omega
  refine ⟨hmv, C', S', hext, ?_⟩
  rcases hh with ⟨a, b, c⟩ | ⟨a, b, c⟩
  · exact .inl ⟨a, b, hd, c, h.pb, h.qb, hhi⟩
  · exact .inr ⟨a, b, hd, c, newA_bytes h.pb, newB_bytes h.qb, hhi⟩
end
theorem k1 : fiE zeros256 zeros256 = 5 ∧ fiS zeros256 zeros256 = zeroSp := fi_none (flE_zeros 0) (flE_zeros 1)
def sp5 : Sp := ⟨1, 5, 0, 0⟩
def sp6 : Sp := ⟨2, 6, 0, 0⟩
theorem k2 : fiS (newA sp5 zeros256) (newB sp5 zeros256) = sp5 := (find_new (by decide) (by rw [k1.2]; rfl)).2
theorem k3 : fiE (newA sp6 (newA sp5 zeros256)) (newB sp6 (newB sp5 zeros256)) = 0 ∧ fiS (newA sp6 (newA sp5 zeros256)) (newB sp6 (newB sp5 zeros256)) = sp6 := find_new (by decide) (by rw [k2]; rfl)
set_option maxRecDepth 20000 in
set_option maxHeartbeats 4000000 in
theorem flKnown_any (w : World) : Calls Try.prog 14 #[] w fun r w' => r = .returned (.bool true) ∧ Below w.heap.size w w' := by
  go_enter Try.func14, Try.ntmps14
  go_wp2_with fail
  refine (new_dd w).mono ?_
  rintro x w1 ⟨C, g, S, rfl, hd, hb1⟩
  have HB1 := hid hb1
  have HF1 := hid (find_dd hd (by decide))
  clear hd hb1
  go_wp2_with fail
  refine HF1.out.mono ?_
  clear HF1
  rintro x w2 ⟨S2, rfl, hd2, hm2⟩
  rw [k1.1, k1.2]
  have HB2 : Hid (Below w.heap.size w w2) := hid (HB1.out.trans (hm2.below HB1.out.size hd2.hi))
  have hd3 := hd2.below (w' := w2.alloc (.cells #[.int .i64 0, .int .i64 0, .int .i64 0, .int .i64 0] 24)) ((Below.refl _ _).alloc (Nat.le_refl _) _)
  have hb3 : Below w.heap.size w (w2.alloc (.cells #[.int .i64 0, .int .i64 0, .int .i64 0, .int .i64 0] 24)) := HB2.out.alloc HB2.out.size _
  obtain ⟨w3, hw3⟩ : ∃ y, y = w2.alloc (.cells #[.int .i64 0, .int .i64 0, .int .i64 0, .int .i64 0] 24) := ⟨_, rfl⟩
  rw [← hw3] at hd3 hb3
  have HB3 := hid hb3
  have HF3 := hid (flip_dd hd3 (by decide) hb3.size 0 5 0 0)
  have HW3 := hid hw3
  have HHI := hid hd3.hi
  clear hd2 hm2 HB1 HB2 hd3 hb3 hw3
  rw [k1.2, show (⟨zeroSp.e + 1, 5, 0, 0⟩ : Sp) = sp5 from rfl] at HF3
  go_wp2_with fail
  rw [show w2.alloc (.cells #[.int .i64 zeroSp.e, .int .i64 zeroSp.r, .int .i64 zeroSp.s, .int .i64 zeroSp.t] 24) = w3 from HW3.out.symm]
  refine HF3.out.mono ?_
  clear HF3 HW3
  rintro x w4 ⟨hm4, C4, S4, hext4, hh⟩
  rcases hh with ⟨hno, _⟩ | ⟨_, rfl, hd4⟩
  · cases hno
  obtain ⟨w5, hw5⟩ : ∃ y, y = w4.alloc (.cells #[.int .i64 1, .int .i64 5, .int .i64 0, .int .i64 0] 24) := ⟨_, rfl⟩
  have hb45 : Below w4.heap.size w4 w5 := by rw [hw5]; exact (Below.refl _ _).alloc (Nat.le_refl _) _
  have HX5 : Hid (w5.heap[w4.heap.size]? = some (.cells #[.int .i64 1, .int .i64 5, .int .i64 0, .int .i64 0] 24 (0, 0))) := hid (by rw [hw5]; exact heap_alloc_new w4 _)
  have HB4 : Hid (Below w.heap.size w w4) := hid (HB3.out.trans (hm4.below HB3.out.size HHI.out))
  have HB5 : Hid (Below w.heap.size w w5) := hid (HB4.out.trans (hb45.mono HB4.out.size))
  have HNEW4 : Hid (C4 w4.heap.size = 0) := hid (hd4.dv.new (Nat.le_refl _))
  have hd5 := hd4.below hb45
  have HHI4 := hid hd4.hi
  have HF5 := hid (flip_dd hd5 (by decide) HB5.out.size 0 6 0 0)
  have HW5 := hid hw5
  rw [k2, show (⟨sp5.e + 1, 6, 0, 0⟩ : Sp) = sp6 from rfl] at HF5
  clear hm4 hext4 hd4 hw5 hb45 hd5 HB3 HHI HB4
  go_wp2_with fail
  rw [show w4.alloc (.cells #[.int .i64 sp5.e, .int .i64 sp5.r, .int .i64 sp5.s, .int .i64 sp5.t] 24) = w5 from HW5.out.symm]
  refine HF5.out.mono ?_
  clear HF5 HW5
  rintro x w6 ⟨hm6, C6, S6, hext6, hh⟩
  rcases hh with ⟨hno, _⟩ | ⟨_, rfl, hd6⟩
  · cases hno
  obtain ⟨w7, hw7⟩ : ∃ y, y = w6.alloc (.cells #[.int .i64 2, .int .i64 6, .int .i64 0, .int .i64 0] 24) := ⟨_, rfl⟩
  have hb67 : Below w6.heap.size w6 w7 := by rw [hw7]; exact (Below.refl _ _).alloc (Nat.le_refl _) _
  have HX6 : Hid (w6.heap[w4.heap.size]? = some (.cells #[.int .i64 1, .int .i64 5, .int .i64 0, .int .i64 0] 24 (0, 0))) := hid (hm6.row HX5.out (fun h => h HNEW4.out))
  have HX7 : Hid (w7.heap[w4.heap.size]? = _) := hid (row_below HX6.out hb67)
  have HY7 : Hid (w7.heap[w6.heap.size]? = some (.cells #[.int .i64 2, .int .i64 6, .int .i64 0, .int .i64 0] 24 (0, 0))) := hid (by rw [hw7]; exact heap_alloc_new w6 _)
  have HB6 : Hid (Below w.heap.size w w6) := hid (HB5.out.trans (hm6.below HB5.out.size HHI4.out))
  have HB7 : Hid (Below w.heap.size w w7) := hid (HB6.out.trans (hb67.mono HB6.out.size))
  have HNEW6 : Hid (C6 w6.heap.size = 0) := hid (hd6.dv.new (Nat.le_refl _))
  have HNEW64 : Hid (C6 w4.heap.size = 0) := hid (by rw [hext6 _ (row_lt HX5.out)]; exact HNEW4.out)
  have hd7 := hd6.below hb67
  have HHI6 := hid hd6.hi
  have HF7 := hid (find_dd hd7 (by decide))
  have HW7 := hid hw7
  rw [k3.1, k3.2] at HF7
  clear hm6 hext6 hd6 hw7 hb67 hd7 HB5 HHI4 HB6 HX5 HX6 HNEW4
  go_wp2_with fail
  rw [show w6.alloc (.cells #[.int .i64 sp6.e, .int .i64 sp6.r, .int .i64 sp6.s, .int .i64 sp6.t] 24) = w7 from HW7.out.symm]
  refine HF7.out.mono ?_
  clear HF7 HW7
  rintro x w8 ⟨S8, rfl, hd8, hm8⟩
  have HX8 : Hid (w8.heap[w4.heap.size]? = _) := hid (hm8.row HX7.out (fun h => h HNEW64.out))
  have HY8 : Hid (w8.heap[w6.heap.size]? = _) := hid (hm8.row HY7.out (fun h => h HNEW6.out))
  have HB8 : Hid (Below w.heap.size w w8) := hid (HB7.out.trans (hm8.below HB7.out.size HHI6.out))
  clear hd8 hm8 HX7 HY7 HB7 HNEW6 HNEW64 HHI6
  obtain ⟨w9, hw9⟩ : ∃ y, y = w8.alloc (.cells #[.int .i64 2, .int .i64 6, .int .i64 0, .int .i64 0] 24) := ⟨_, rfl⟩
  have hb89 : Below w8.heap.size w8 w9 := by rw [hw9]; exact (Below.refl _ _).alloc (Nat.le_refl _) _
  have hz9 : w9.heap[w8.heap.size]? = some (.cells #[.int .i64 2, .int .i64 6, .int .i64 0, .int .i64 0] 24 (0, 0)) := by rw [hw9]; exact heap_alloc_new w8 _
  have hx9 : w9.heap[w4.heap.size]? = _ := row_below HX8.out hb89
  have hy9 : w9.heap[w6.heap.size]? = _ := row_below HY8.out hb89
  have HB9 : Hid (Below w.heap.size w w9) := hid (HB8.out.trans (hb89.mono HB8.out.size))
  have HW9 := hid hw9
  have x0 := cell_of_row w9 _ 0 _ _ _ hx9
  have y0 := cell_of_row w9 _ 0 _ _ _ hy9
  have y1 := cell_of_row w9 _ 1 _ _ _ hy9
  have y2 := cell_of_row w9 _ 2 _ _ _ hy9
  have y3 := cell_of_row w9 _ 3 _ _ _ hy9
  have z0 := cell_of_row w9 _ 0 _ _ _ hz9
  have z1 := cell_of_row w9 _ 1 _ _ _ hz9
  have z2 := cell_of_row w9 _ 2 _ _ _ hz9
  have z3 := cell_of_row w9 _ 3 _ _ _ hz9
  clear hb89 hz9 hx9 hy9 hw9 HX8 HY8 HB8
  go_upto_region 6 with fail
  rw [show w8.alloc (.cells #[.int .i64 sp6.e, .int .i64 sp6.r, .int .i64 sp6.s, .int .i64 sp6.t] 24) = w9 from HW9.out.symm]
  clear HW9
  go_wp2_with fail
  go_ret
  exact ⟨rfl, HB9.out⟩
end Go.Proofs.Ytebacgkeolofmaa
