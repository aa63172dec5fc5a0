/- THE LAW LeafTurns: the walk, wrong nodes. -/
import Derived.Test.YtokeihpmagcneaaNdT
import Derived.Test.YtokeihpmagcneaaNdL3
namespace Go.Inc
open Go.RowKit
theorem belDrew {w x : World} (h : Below w.heap.size w.drew x) : Below w.heap.size w x := ((Below.refl w.heap.size w).drew).trans h
theorem ansT_of {w : World} {v : Value} {F : Int} {Pr : Prop} {lf : Bool} {es : List Et} (h : NdF v) (h2 : Pr → NdV w v lf es) : AnsT w (.tuple #[v, .int .i64 F]) F Pr lf es := by
  obtain ⟨l, a, n, c, rfl⟩ := h
  refine ⟨l, a, n, c, rfl, fun hp => ?_⟩
  obtain ⟨a', n', c', e, h3⟩ := h2 hp
  cases e
  exact ⟨rfl, h3⟩
end Go.Inc
namespace Go.Proofs.Ytokeihpmagcneaa
open Go.RowKit Go.Inc

set_option maxRecDepth 20000 in
set_option maxHeartbeats 16000000 in
theorem turns_bad (P : PN) (a : Option Addr) (n c : Nat) (lf : Bool) (es : List Et) (s z p : Int) (W : World) (hs : EtS (fun _ => True) W a es) (hn : n = es.length) (hf : ∀ e ∈ es, fitsE e) (hfe : fitsE ((s, z), p)) (hchk : chkN lf (es.take 18) ≠ 0) :
    Calls Try.prog 6 #[.agg #[.bool lf, .slice a n c], .agg #[.int .i64 s, .int .i64 z, .int .i64 p]] W fun e w' => e = .returned (.bool true) ∧ Bel W w' := by
  have HP := hid P
  have HFE := hid hfe
  obtain ⟨xs, hxs⟩ : ∃ xs, xs = es.take 18 := ⟨_, rfl⟩
  have HXL : Hid (xs.length ≤ 18) := hid (by rw [hxs, List.length_take]; omega)
  obtain ⟨g, hg⟩ : ∃ g, g = W.heap.size := ⟨_, rfl⟩
  obtain ⟨w1, hw1⟩ : ∃ y, y = (W.alloc (.cells #[.bool lf, .slice a n c] 24)).alloc (.cells #[.int .i64 s, .int .i64 z, .int .i64 p] 54) := ⟨_, rfl⟩
  have HB_1 : Hid (Below W.heap.size W w1) := hid (by rw [hw1]; exact ((Below.refl _ _).alloc (Nat.le_refl _) _).alloc (by simp) _)
  have p0_1 : Hid (w1.heap[g]? = some (.cells #[.bool lf, .slice a n c] 24 (0, 0))) := hid (by rw [hw1, hg]; exact heap_alloc2_old W _ _)
  have pe_1 : Hid (w1.heap[g + 1]? = some (.cells #[.int .i64 s, .int .i64 z, .int .i64 p] 54 (0, 0))) := hid (by rw [hw1, hg]; exact heap_alloc2_new W _ _)
  have HW := hid hw1
  have HG := hid hg
  have HTO := hid (to_x n c lf (hs.below HB_1.out) hn hf)
  rw [← hxs] at HTO hchk
  have HC := hid hchk
  obtain ⟨F, hF⟩ : ∃ F, F = wiE lf xs ((s, z), p) := ⟨_, rfl⟩
  obtain ⟨Fo, hFo⟩ : ∃ F, F = woE lf xs (s, z) := ⟨_, rfl⟩
  obtain ⟨I, hI⟩ : ∃ I, I = insE xs ((s, z), p) := ⟨_, rfl⟩
  obtain ⟨D, hD⟩ : ∃ D, D = remE xs (s, z) := ⟨_, rfl⟩
  have HFF := hid (And.intro hF (And.intro hFo (And.intro hI hD)))
  have HWI : Hid (∀ y a n c, NdOk y a n c xs → Calls Try.prog 26 #[.agg #[.bool lf, .slice a n c], .agg #[.int .i64 s, .int .i64 z, .int .i64 p]] y fun e w' => (∃ v, e = .returned v ∧ AnsT w' v F (F = 0) lf I) ∧ Below y.heap.size y w') := hid fun y a n c hy => by
    refine (HP.out.nWith a n c lf xs s z p y hy HFE.out).mono ?_
    rintro e w' ⟨⟨v, h1, h2, h3⟩, hb⟩
    rw [← hF, ← hI] at h3
    rw [← hF] at h1
    exact ⟨⟨_, h1, ansT_of h2 h3⟩, hb⟩
  have HWO : Hid (∀ y a n c, NdOk y a n c xs → Calls Try.prog 28 #[.agg #[.bool lf, .slice a n c], .agg #[.int .i64 s, .int .i64 z]] y fun e w' => (∃ v, e = .returned v ∧ AnsT w' v Fo (Fo = 0) lf D) ∧ Below y.heap.size y w') := hid fun y a n c hy => by
    refine (HP.out.nWithout a n c lf xs s z y hy HFE.out.1).mono ?_
    rintro e w' ⟨⟨v, h1, h2, h3⟩, hb⟩
    rw [← hFo, ← hD] at h3
    rw [← hFo] at h1
    exact ⟨⟨_, h1, ansT_of h2 h3⟩, hb⟩
  clear P hxs hs hn hf hw1 hchk hfe hg hF hFo hI hD
  go_enter Try.func6, Try.ntmps6
  go_upto_region 1 with fail
  rw [← HW.out, ← HG.out]
  clear HW
  have hc0p0 : w1.cell? ⟨g, 0, none⟩ = some (.bool lf) := by rw [cell_of_row _ _ _ _ _ _ p0_1.out]; rfl
  have hc1p0 : w1.cell? ⟨g, 1, none⟩ = some (.slice a n c) := by rw [cell_of_row _ _ _ _ _ _ p0_1.out]; rfl
  go_wp2_with fail
  clear hc0p0 hc1p0
  refine (HTO.out).mono ?_
  rintro e w2 ⟨⟨a1, n1, c1, rfl, hx⟩, hb⟩
  have p0_2 := hid (row_below p0_1.out hb)
  clear p0_1
  have pe_2 := hid (row_below pe_1.out hb)
  clear pe_1
  have HB_2 : Hid (Below W.heap.size W w2) := hid (HB_1.out.trans ((hb).mono HB_1.out.size))
  clear HB_1
  have HX_2 := hid hx
  clear hx
  clear hb
  clear HTO
  obtain ⟨w3, hw3⟩ : ∃ y, y = w2.alloc (.cells #[.bool lf, .slice a1 n1 c1] 27) := ⟨_, rfl⟩
  have hb : Below w2.heap.size w2 w3 := by rw [hw3]; exact allocBelow w2 _
  obtain ⟨gp1, hgp1⟩ : ∃ g, g = w2.heap.size := ⟨_, rfl⟩
  have hr : w3.heap[gp1]? = some (.cells #[.bool lf, .slice a1 n1 c1] 27 (0, 0)) := by rw [hw3, hgp1]; exact heap_alloc_new w2 _
  have HW := hid hw3
  have HGG := hid hgp1
  clear hw3 hgp1
  have p0_3 := hid (row_below p0_2.out hb)
  clear p0_2
  have pe_3 := hid (row_below pe_2.out hb)
  clear pe_2
  have HX_3 := hid (HX_2.out.below hb)
  clear HX_2
  have HB_3 : Hid (Below W.heap.size W w3) := hid (HB_2.out.trans ((hb).mono HB_2.out.size))
  clear HB_2
  have p1_3 := hid hr
  clear hr hb
  go_upto_region 2 with fail
  rw [← HW.out, ← HGG.out]
  clear HW HGG
  have hc0p1 : w3.cell? ⟨gp1, 0, none⟩ = some (.bool lf) := by rw [cell_of_row _ _ _ _ _ _ p1_3.out]; rfl
  have hc1p1 : w3.cell? ⟨gp1, 1, none⟩ = some (.slice a1 n1 c1) := by rw [cell_of_row _ _ _ _ _ _ p1_3.out]; rfl
  go_wp2_with fail
  clear hc0p1 hc1p1
  refine (of_x lf HX_3.out).mono ?_
  rintro e w4 ⟨⟨a2, n2, c2, rfl, hx⟩, hb⟩
  have p0_4 := hid (row_below p0_3.out hb)
  clear p0_3
  have pe_4 := hid (row_below pe_3.out hb)
  clear pe_3
  have HX_4 := hid (HX_3.out.below hb)
  clear HX_3
  have p1_4 := hid (row_below p1_3.out hb)
  clear p1_3
  have HB_4 : Hid (Below W.heap.size W w4) := hid (HB_3.out.trans ((hb).mono HB_3.out.size))
  clear HB_3
  have HY_4 := hid hx
  clear hx
  clear hb
  clear p0_4
  obtain ⟨w5, hw5⟩ : ∃ y, y = w4.alloc (.cells #[.bool lf, .slice a2 n2 c2] 24) := ⟨_, rfl⟩
  have hb : Below w4.heap.size w4 w5 := by rw [hw5]; exact allocBelow w4 _
  obtain ⟨gp2, hgp2⟩ : ∃ g, g = w4.heap.size := ⟨_, rfl⟩
  have hr : w5.heap[gp2]? = some (.cells #[.bool lf, .slice a2 n2 c2] 24 (0, 0)) := by rw [hw5, hgp2]; exact heap_alloc_new w4 _
  have HW := hid hw5
  have HGG := hid hgp2
  clear hw5 hgp2
  have pe_5 := hid (row_below pe_4.out hb)
  clear pe_4
  have HX_5 := hid (HX_4.out.below hb)
  clear HX_4
  have p1_5 := hid (row_below p1_4.out hb)
  clear p1_4
  have HY_5 := hid (HY_4.out.below hb)
  clear HY_4
  have HB_5 : Hid (Below W.heap.size W w5) := hid (HB_4.out.trans ((hb).mono HB_4.out.size))
  clear HB_4
  have p2_5 := hid hr
  clear hr hb
  go_upto_region 3 with fail
  rw [← HW.out, ← HGG.out]
  clear HW HGG
  have HCX : Hid (∀ x, Below w5.heap.size w5 x → NdOk x a1 n1 c1 xs ∧ (x.cell? ⟨gp1, 0, none⟩ = some (.bool lf) ∧ x.cell? ⟨gp1, 1, none⟩ = some (.slice a1 n1 c1)) ∧ x.cell? ⟨g + 1, 0, none⟩ = some (.int .i64 s) ∧ x.cell? ⟨g + 1, 1, none⟩ = some (.int .i64 z) ∧ x.cell? ⟨g + 1, 2, none⟩ = some (.int .i64 p)) := hid fun x hx => by
    have h1 := row_below p1_5.out hx
    have h2 := row_below pe_5.out hx
    exact ⟨HX_5.out.below hx, ⟨by rw [cell_of_row _ _ _ _ _ _ h1]; rfl, by rw [cell_of_row _ _ _ _ _ _ h1]; rfl⟩, by rw [cell_of_row _ _ _ _ _ _ h2]; rfl, by rw [cell_of_row _ _ _ _ _ _ h2]; rfl, by rw [cell_of_row _ _ _ _ _ _ h2]; rfl⟩
  refine wp_region_growsM 10 [(7, 8, 7)] [(8, 3), (8, 5), (8, 7)] [EqN (.agg #[.bool lf, .slice a1 n1 c1]), EqN (.agg #[.int .i64 s, .int .i64 z, .int .i64 p]), EqN (.agg #[.int .i64 s, .int .i64 z, .int .i64 p]), (fun x v => AnsT x v F (F = 0) lf I), (fun x v => AnsT x v F (F = 0) lf I), (fun x v => AnsV x v (F = 0) lf I), EqN (.int .i64 F), (fun x v => BoxZ x v 27 w5.heap.size), (fun x v => BoxN x v 27 w5.heap.size (F = 0) lf I), EqN (.int .i64 F)] (by kernel_rfl) (by decide) (by kernel_rfl) (by kernel_rfl) (by kernel_rfl) ?_ ?_ ?_
  · repeat' (first | exact List.forall_mem_nil _ | refine List.forall_mem_cons.2 ⟨?_, ?_⟩)
    all_goals
      intro w w' v hw h
      first | exact h | exact BoxZ.grew hw h | exact BoxN.grew hw h | exact AnsT.grew hw h | exact AnsV.grew hw h
  · simp only [AllLt]
    refine ⟨⟨⟨⟨⟨⟨⟨⟨⟨⟨trivial, ?_⟩, ?_⟩, ?_⟩, ?_⟩, ?_⟩, ?_⟩, ?_⟩, ?_⟩, ?_⟩, ?_⟩
    all_goals
      intro o' ho
      simp at ho
      subst ho
      intro ρ w5 hR hL hS hG
      obtain ⟨hl1, hl2, -⟩ := hL
    · refine plainG rfl ?_
      intro bA K Q' hK
      have e5 := hS 5 (by kernel_rfl)
      change ρ (.tmp 5) = _ at e5
      obtain ⟨-, ⟨y0, y1⟩, y2, y3, y4⟩ := HCX.out w5 (belDrew hR)
      simp only [execOp]
      go_simp
      exact hK _ _ rfl (.inl (Grew.refl _)) (noPair (by decide))
    · refine plainG rfl ?_
      intro bA K Q' hK
      have e3 := hS 3 (by kernel_rfl)
      change ρ (.tmp 3) = _ at e3
      obtain ⟨-, ⟨y0, y1⟩, y2, y3, y4⟩ := HCX.out w5 (belDrew hR)
      simp only [execOp]
      go_simp
      exact hK _ _ rfl (.inl (Grew.refl _)) (noPair (by decide))
    · refine plainG rfl ?_
      intro bA K Q' hK
      have e22 := hG 1 22 (by decide) (by kernel_rfl) (by kernel_rfl)
      change ρ (.tmp 22) = _ at e22
      simp only [execOp]
      go_simp
      refine (entry_any s z p w5).mono ?_
      rintro r9 w9 ⟨rfl, hb9⟩
      exact hK _ _ rfl (.inl hb9) (noPair (by decide))
    · refine plainG rfl ?_
      intro bA K Q' hK
      have e21 := hG 0 21 (by decide) (by kernel_rfl) (by kernel_rfl)
      have e23 := hG 2 23 (by decide) (by kernel_rfl) (by kernel_rfl)
      change ρ (.tmp 21) = _ at e21
      change ρ (.tmp 23) = _ at e23
      simp only [execOp]
      go_simp
      refine (HWI.out w5 _ _ _ (HCX.out w5 (belDrew hR)).1).mono ?_
      rintro r9 w9 ⟨⟨v9, rfl, h9⟩, hb9⟩
      exact hK _ _ h9 (.inl hb9) (noPair (by decide))
    · refine plainG rfl ?_
      intro bA K Q' hK
      have e24 := hG 3 24 (by decide) (by kernel_rfl) (by kernel_rfl)
      obtain ⟨lz, az, nz, cz, ez, hz⟩ := e24
      change ρ (.tmp 24) = _ at ez
      simp only [execOp]
      go_simp
      exact hK _ _ ⟨lz, az, nz, cz, rfl, hz⟩ (.inl (Grew.refl _)) (noPair (by decide))
    · refine plainG rfl ?_
      intro bA K Q' hK
      have e20 := hG 4 20 (by decide) (by kernel_rfl) (by kernel_rfl)
      obtain ⟨lz, az, nz, cz, ez, hz⟩ := e20
      change ρ (.tmp 20) = _ at ez
      simp only [execOp]
      go_simp
      exact hK _ _ ⟨lz, az, nz, cz, rfl, hz⟩ (.inl (Grew.refl _)) (noPair (by decide))
    · refine plainG rfl ?_
      intro bA K Q' hK
      have e20 := hG 4 20 (by decide) (by kernel_rfl) (by kernel_rfl)
      obtain ⟨lz, az, nz, cz, ez, hz⟩ := e20
      change ρ (.tmp 20) = _ at ez
      simp only [execOp]
      go_simp
      exact hK _ _ rfl (.inl (Grew.refl _)) (noPair (by decide))
    · refine plainG rfl ?_
      intro bA K Q' hK
      simp only [execOp]
      go_simp
      exact hK _ _ ⟨_, rfl, hR.size, heap_alloc_new w5 _⟩ (.inl ((Grew.refl _).alloc _)) (noPair (by decide))
    · refine plainG rfl ?_
      intro bA K Q' hK
      have e7 := hG 7 7 (by decide) (by kernel_rfl) (by kernel_rfl)
      have e25 := hG 5 25 (by decide) (by kernel_rfl) (by kernel_rfl)
      obtain ⟨gz, e7, hgz, hrz⟩ := e7
      obtain ⟨lz, az, nz, cz, e25, hz⟩ := e25
      refine upon_store_own 27 (.tmp 7) (.tmp 25) rfl gz #[.bool lz, .slice az nz cz] e7 e25 27 _ hrz (by kernel_rfl) rfl (by simp [Value.oneCell']) ?_
      intro w3 hr3 hg3
      refine hK (.pointer (some ⟨gz, 0, none⟩)) _ ⟨gz, lz, az, nz, cz, rfl, hgz, hr3, fun hp => ⟨(hz hp).1, (hz hp).2.over hg3 hrz (fun z e => by cases e)⟩⟩ (.inr ⟨grown_is_below hg3 hgz hR.size, ?_⟩) ?_
      · simp only [AllLt]
        refine ⟨⟨⟨⟨⟨⟨⟨⟨⟨⟨trivial, ?_⟩, ?_⟩, ?_⟩, ?_⟩, ?_⟩, ?_⟩, ?_⟩, ?_⟩, ?_⟩, ?_⟩
        · first | exact fun _ x hx => hx | exact nokeep (by kernel_rfl)
        · first | exact fun _ x hx => hx | exact nokeep (by kernel_rfl)
        · first | exact fun _ x hx => hx | exact nokeep (by kernel_rfl)
        · exact nokeep (by kernel_rfl)
        · exact fun _ x hx => by obtain ⟨l, a, n, c, h1, h2⟩ := hx; exact ⟨l, a, n, c, h1, fun hp => ⟨(h2 hp).1, (h2 hp).2.over hg3 hrz (fun z e => by cases e)⟩⟩
        · exact nokeep (by kernel_rfl)
        · first | exact fun _ x hx => hx | exact nokeep (by kernel_rfl)
        · exact nokeep (by kernel_rfl)
        · exact nokeep (by kernel_rfl)
        · first | exact fun _ x hx => hx | exact nokeep (by kernel_rfl)
      · intro y hy hw
        simp at hy
        subst hy
        exact e7
    · refine plainG rfl ?_
      intro bA K Q' hK
      have e26 := hG 6 26 (by decide) (by kernel_rfl) (by kernel_rfl)
      change ρ (.tmp 26) = _ at e26
      simp only [execOp]
      go_simp
      exact hK _ _ rfl (.inl (Grew.refl _)) (noPair (by decide))
  · skip
    intro vv w6 hB hG hDD
    simp only [AllLt] at hG
    have q9 := hG.2 (by decide)
    change vv 9 = _ at q9
    obtain ⟨gp7, lp7, ap7, np7, cp7, q8, -, hr, h7⟩ := hG.1.2 (by decide)
    have q7 : vv 7 = _ := (hDD (7, 8, 7) (by simp)).trans q8
    have hb := belDrew hB
    clear hG hDD hB q8 HCX
    have pe_6 := hid (row_below pe_5.out hb)
    clear pe_5
    have HX_6 := hid (HX_5.out.below hb)
    clear HX_5
    have p1_6 := hid (row_below p1_5.out hb)
    clear p1_5
    have HY_6 := hid (HY_5.out.below hb)
    clear HY_5
    have p2_6 := hid (row_below p2_5.out hb)
    clear p2_5
    have HB_6 : Hid (Below W.heap.size W w6) := hid (HB_5.out.trans ((hb).mono HB_5.out.size))
    clear HB_5
    have p7_6 := hid hr
    have HNp7_6 := hid h7
    clear hr h7 hb
    simp [stG, stU, dstAt, Act.put, q7, q9]
    clear q7 q9
    clear HWI
    go_upto_region 4 with fail
    have HCX : Hid (∀ x, Below w6.heap.size w6 x → NdOk x a1 n1 c1 xs ∧ (x.cell? ⟨gp1, 0, none⟩ = some (.bool lf) ∧ x.cell? ⟨gp1, 1, none⟩ = some (.slice a1 n1 c1)) ∧ x.cell? ⟨g + 1, 0, none⟩ = some (.int .i64 s) ∧ x.cell? ⟨g + 1, 1, none⟩ = some (.int .i64 z) ∧ x.cell? ⟨g + 1, 2, none⟩ = some (.int .i64 p)) := hid fun x hx => by
      have h1 := row_below p1_6.out hx
      have h2 := row_below pe_6.out hx
      exact ⟨HX_6.out.below hx, ⟨by rw [cell_of_row _ _ _ _ _ _ h1]; rfl, by rw [cell_of_row _ _ _ _ _ _ h1]; rfl⟩, by rw [cell_of_row _ _ _ _ _ _ h2]; rfl, by rw [cell_of_row _ _ _ _ _ _ h2]; rfl, by rw [cell_of_row _ _ _ _ _ _ h2]; rfl⟩
    refine wp_region_growsM 11 [(8, 9, 9)] [(9, 4), (9, 6), (9, 8)] [EqN (.agg #[.bool lf, .slice a1 n1 c1]), EqN (.pointer (some ⟨g + 1, 0, none⟩)), EqN (.agg #[.int .i64 s, .int .i64 z]), EqN (.agg #[.int .i64 s, .int .i64 z]), (fun x v => AnsT x v Fo (Fo = 0) lf D), (fun x v => AnsT x v Fo (Fo = 0) lf D), (fun x v => AnsV x v (Fo = 0) lf D), EqN (.int .i64 Fo), (fun x v => BoxZ x v 27 w6.heap.size), (fun x v => BoxN x v 27 w6.heap.size (Fo = 0) lf D), EqN (.int .i64 Fo)] (by kernel_rfl) (by decide) (by kernel_rfl) (by kernel_rfl) (by kernel_rfl) ?_ ?_ ?_
    · repeat' (first | exact List.forall_mem_nil _ | refine List.forall_mem_cons.2 ⟨?_, ?_⟩)
      all_goals
        intro w w' v hw h
        first | exact h | exact BoxZ.grew hw h | exact BoxN.grew hw h | exact AnsT.grew hw h | exact AnsV.grew hw h
    · simp only [AllLt]
      refine ⟨⟨⟨⟨⟨⟨⟨⟨⟨⟨⟨trivial, ?_⟩, ?_⟩, ?_⟩, ?_⟩, ?_⟩, ?_⟩, ?_⟩, ?_⟩, ?_⟩, ?_⟩, ?_⟩
      all_goals
        intro o' ho
        simp at ho
        subst ho
        intro ρ w5 hR hL hS hG
        obtain ⟨hl1, hl2, -⟩ := hL
      · refine plainG rfl ?_
        intro bA K Q' hK
        have e5 := hS 5 (by kernel_rfl)
        change ρ (.tmp 5) = _ at e5
        obtain ⟨-, ⟨y0, y1⟩, y2, y3, y4⟩ := HCX.out w5 (belDrew hR)
        simp only [execOp]
        go_simp
        exact hK _ _ rfl (.inl (Grew.refl _)) (noPair (by decide))
      · refine plainG rfl ?_
        intro bA K Q' hK
        have e3 := hS 3 (by kernel_rfl)
        change ρ (.tmp 3) = _ at e3
        simp only [execOp]
        go_simp
        exact hK _ _ rfl (.inl (Grew.refl _)) (noPair (by decide))
      · refine plainG rfl ?_
        intro bA K Q' hK
        have e29 := hG 1 29 (by decide) (by kernel_rfl) (by kernel_rfl)
        change ρ (.tmp 29) = _ at e29
        obtain ⟨-, ⟨y0, y1⟩, y2, y3, y4⟩ := HCX.out w5 (belDrew hR)
        simp only [execOp]
        go_simp
        exact hK _ _ rfl (.inl (Grew.refl _)) (noPair (by decide))
      · refine plainG rfl ?_
        intro bA K Q' hK
        have e30 := hG 2 30 (by decide) (by kernel_rfl) (by kernel_rfl)
        change ρ (.tmp 30) = _ at e30
        simp only [execOp]
        go_simp
        refine (key_any s z w5).mono ?_
        rintro r9 w9 ⟨rfl, hb9⟩
        exact hK _ _ rfl (.inl hb9) (noPair (by decide))
      · refine plainG rfl ?_
        intro bA K Q' hK
        have e28 := hG 0 28 (by decide) (by kernel_rfl) (by kernel_rfl)
        have e31 := hG 3 31 (by decide) (by kernel_rfl) (by kernel_rfl)
        change ρ (.tmp 28) = _ at e28
        change ρ (.tmp 31) = _ at e31
        simp only [execOp]
        go_simp
        refine (HWO.out w5 _ _ _ (HCX.out w5 (belDrew hR)).1).mono ?_
        rintro r9 w9 ⟨⟨v9, rfl, h9⟩, hb9⟩
        exact hK _ _ h9 (.inl hb9) (noPair (by decide))
      · refine plainG rfl ?_
        intro bA K Q' hK
        have e32 := hG 4 32 (by decide) (by kernel_rfl) (by kernel_rfl)
        obtain ⟨lz, az, nz, cz, ez, hz⟩ := e32
        change ρ (.tmp 32) = _ at ez
        simp only [execOp]
        go_simp
        exact hK _ _ ⟨lz, az, nz, cz, rfl, hz⟩ (.inl (Grew.refl _)) (noPair (by decide))
      · refine plainG rfl ?_
        intro bA K Q' hK
        have e27 := hG 5 27 (by decide) (by kernel_rfl) (by kernel_rfl)
        obtain ⟨lz, az, nz, cz, ez, hz⟩ := e27
        change ρ (.tmp 27) = _ at ez
        simp only [execOp]
        go_simp
        exact hK _ _ ⟨lz, az, nz, cz, rfl, hz⟩ (.inl (Grew.refl _)) (noPair (by decide))
      · refine plainG rfl ?_
        intro bA K Q' hK
        have e27 := hG 5 27 (by decide) (by kernel_rfl) (by kernel_rfl)
        obtain ⟨lz, az, nz, cz, ez, hz⟩ := e27
        change ρ (.tmp 27) = _ at ez
        simp only [execOp]
        go_simp
        exact hK _ _ rfl (.inl (Grew.refl _)) (noPair (by decide))
      · refine plainG rfl ?_
        intro bA K Q' hK
        simp only [execOp]
        go_simp
        exact hK _ _ ⟨_, rfl, hR.size, heap_alloc_new w5 _⟩ (.inl ((Grew.refl _).alloc _)) (noPair (by decide))
      · refine plainG rfl ?_
        intro bA K Q' hK
        have e9 := hG 8 9 (by decide) (by kernel_rfl) (by kernel_rfl)
        have e33 := hG 6 33 (by decide) (by kernel_rfl) (by kernel_rfl)
        obtain ⟨gz, e9, hgz, hrz⟩ := e9
        obtain ⟨lz, az, nz, cz, e33, hz⟩ := e33
        refine upon_store_own 27 (.tmp 9) (.tmp 33) rfl gz #[.bool lz, .slice az nz cz] e9 e33 27 _ hrz (by kernel_rfl) rfl (by simp [Value.oneCell']) ?_
        intro w3 hr3 hg3
        refine hK (.pointer (some ⟨gz, 0, none⟩)) _ ⟨gz, lz, az, nz, cz, rfl, hgz, hr3, fun hp => ⟨(hz hp).1, (hz hp).2.over hg3 hrz (fun z e => by cases e)⟩⟩ (.inr ⟨grown_is_below hg3 hgz hR.size, ?_⟩) ?_
        · simp only [AllLt]
          refine ⟨⟨⟨⟨⟨⟨⟨⟨⟨⟨⟨trivial, ?_⟩, ?_⟩, ?_⟩, ?_⟩, ?_⟩, ?_⟩, ?_⟩, ?_⟩, ?_⟩, ?_⟩, ?_⟩
          · first | exact fun _ x hx => hx | exact nokeep (by kernel_rfl)
          · first | exact fun _ x hx => hx | exact nokeep (by kernel_rfl)
          · first | exact fun _ x hx => hx | exact nokeep (by kernel_rfl)
          · first | exact fun _ x hx => hx | exact nokeep (by kernel_rfl)
          · exact nokeep (by kernel_rfl)
          · exact fun _ x hx => by obtain ⟨l, a, n, c, h1, h2⟩ := hx; exact ⟨l, a, n, c, h1, fun hp => ⟨(h2 hp).1, (h2 hp).2.over hg3 hrz (fun z e => by cases e)⟩⟩
          · exact nokeep (by kernel_rfl)
          · first | exact fun _ x hx => hx | exact nokeep (by kernel_rfl)
          · exact nokeep (by kernel_rfl)
          · exact nokeep (by kernel_rfl)
          · first | exact fun _ x hx => hx | exact nokeep (by kernel_rfl)
        · intro y hy hw
          simp at hy
          subst hy
          exact e9
      · refine plainG rfl ?_
        intro bA K Q' hK
        have e34 := hG 7 34 (by decide) (by kernel_rfl) (by kernel_rfl)
        change ρ (.tmp 34) = _ at e34
        simp only [execOp]
        go_simp
        exact hK _ _ rfl (.inl (Grew.refl _)) (noPair (by decide))
    · skip
      intro vv w7 hB hG hDD
      simp only [AllLt] at hG
      have q9 := hG.2 (by decide)
      change vv 10 = _ at q9
      obtain ⟨gp9, lp9, ap9, np9, cp9, q8, -, hr, h7⟩ := hG.1.2 (by decide)
      have q7 : vv 8 = _ := (hDD (8, 9, 9) (by simp)).trans q8
      have hb := belDrew hB
      clear hG hDD hB q8 HCX
      have pe_7 := hid (row_below pe_6.out hb)
      clear pe_6
      have HX_7 := hid (HX_6.out.below hb)
      clear HX_6
      have p1_7 := hid (row_below p1_6.out hb)
      clear p1_6
      have HY_7 := hid (HY_6.out.below hb)
      clear HY_6
      have p2_7 := hid (row_below p2_6.out hb)
      clear p2_6
      have p7_7 := hid (row_below p7_6.out hb)
      clear p7_6
      have HNp7_7 : Hid (F = 0 → lp7 = lf ∧ NdOk w7 ap7 np7 cp7 I) := hid (fun hp => ⟨(HNp7_6.out hp).1, (HNp7_6.out hp).2.below hb⟩)
      clear HNp7_6
      have HB_7 : Hid (Below W.heap.size W w7) := hid (HB_6.out.trans ((hb).mono HB_6.out.size))
      clear HB_6
      have p9_7 := hid hr
      have HNp9_7 := hid h7
      clear hr h7 hb
      simp [stG, stU, dstAt, Act.put, q7, q9]
      clear q7 q9
      clear HWO
      go_upto_region 5 with fail
      have HCX : Hid (∀ x, Grew w7.drew x → NdOk x a1 n1 c1 xs ∧ NdOk x a2 n2 c2 xs) := hid fun x hx => ⟨HX_7.out.below (grewDrew hx), HY_7.out.below (grewDrew hx)⟩
      have HCY : Hid (∀ x, Grew w7.drew x → x.cell? ⟨gp1, 0, none⟩ = some (.bool lf) ∧ x.cell? ⟨gp1, 1, none⟩ = some (.slice a1 n1 c1) ∧ x.cell? ⟨gp2, 0, none⟩ = some (.bool lf) ∧ x.cell? ⟨gp2, 1, none⟩ = some (.slice a2 n2 c2)) := hid fun x hx => by
        have h1 := row_below p1_7.out (grewDrew hx)
        have h2 := row_below p2_7.out (grewDrew hx)
        exact ⟨by rw [cell_of_row _ _ _ _ _ _ h1]; rfl, by rw [cell_of_row _ _ _ _ _ _ h1]; rfl, by rw [cell_of_row _ _ _ _ _ _ h2]; rfl, by rw [cell_of_row _ _ _ _ _ _ h2]; rfl⟩
      refine wp_region_grows 5 [EqN (.agg #[.bool lf, .slice a1 n1 c1]), (fun x v => NdV x v lf xs), EqN (.agg #[.bool lf, .slice a2 n2 c2]), EqN (.bool true), EqN (.bool false)] (by kernel_rfl) (by decide) (by kernel_rfl) ?_ ?_ ?_
      · repeat' (first | exact List.forall_mem_nil _ | refine List.forall_mem_cons.2 ⟨?_, ?_⟩)
        all_goals
          intro w w' v hw h
          first | exact h | exact NdV.grew hw h
      · simp only [AllLt]
        refine ⟨⟨⟨⟨⟨trivial, ?_⟩, ?_⟩, ?_⟩, ?_⟩, ?_⟩
        all_goals
          intro o' ho
          simp at ho
          subst ho
          intro ρ w5 hR hL hS hG
          obtain ⟨hl1, hl2, -⟩ := hL
        · refine plainG rfl ?_
          intro bA K Q' hK
          have e5 := hS 5 (by kernel_rfl)
          change ρ (.tmp 5) = _ at e5
          obtain ⟨y0, y1, y2, y3⟩ := HCY.out w5 hR
          simp only [execOp]
          go_simp
          exact hK _ _ rfl (Grew.refl _)
        · refine plainG rfl ?_
          intro bA K Q' hK
          have e35 := hG 0 35 (by decide) (by kernel_rfl) (by kernel_rfl)
          change ρ (.tmp 35) = _ at e35
          simp only [execOp]
          go_simp
          refine (of_x lf (HCX.out w5 hR).1).mono ?_
          rintro r9 w9 ⟨⟨a9, n9, c9, rfl, h9⟩, hb9⟩
          exact hK _ _ ⟨_, _, _, rfl, h9⟩ hb9
        · refine plainG rfl ?_
          intro bA K Q' hK
          have e6 := hS 6 (by kernel_rfl)
          change ρ (.tmp 6) = _ at e6
          obtain ⟨y0, y1, y2, y3⟩ := HCY.out w5 hR
          simp only [execOp]
          go_simp
          exact hK _ _ rfl (Grew.refl _)
        · refine plainG rfl ?_
          intro bA K Q' hK
          have e36 := hG 1 36 (by decide) (by kernel_rfl) (by kernel_rfl)
          have e37 := hG 2 37 (by decide) (by kernel_rfl) (by kernel_rfl)
          skip
          change ρ (.tmp 37) = _ at e37
          obtain ⟨a9, n9, c9, e36', h29⟩ := e36
          change ρ (.tmp 36) = _ at e36'
          simp only [execOp]
          go_simp
          refine (same_x lf h29 (HCX.out w5 hR).2).mono ?_
          rintro r9 w9 ⟨rfl, hb9⟩
          exact hK _ _ rfl hb9
        · refine plainG rfl ?_
          intro bA K Q' hK
          have e38 := hG 3 38 (by decide) (by kernel_rfl) (by kernel_rfl)
          change ρ (.tmp 38) = _ at e38
          simp only [execOp]
          go_simp
          exact hK _ _ rfl (Grew.refl _)
      · skip
        intro vv w8 hR hG
        have h9 : vv 4 = .bool false := hG.2
        have hb := grewDrew hR
        clear hG hR HCX HCY
        have pe_8 := hid (row_below pe_7.out hb)
        clear pe_7
        have HX_8 := hid (HX_7.out.below hb)
        clear HX_7
        have p1_8 := hid (row_below p1_7.out hb)
        clear p1_7
        have HY_8 := hid (HY_7.out.below hb)
        clear HY_7
        have p2_8 := hid (row_below p2_7.out hb)
        clear p2_7
        have p7_8 := hid (row_below p7_7.out hb)
        clear p7_7
        have HNp7_8 : Hid (F = 0 → lp7 = lf ∧ NdOk w8 ap7 np7 cp7 I) := hid (fun hp => ⟨(HNp7_7.out hp).1, (HNp7_7.out hp).2.below hb⟩)
        clear HNp7_7
        have p9_8 := hid (row_below p9_7.out hb)
        clear p9_7
        have HNp9_8 : Hid (Fo = 0 → lp9 = lf ∧ NdOk w8 ap9 np9 cp9 D) := hid (fun hp => ⟨(HNp9_7.out hp).1, (HNp9_7.out hp).2.below hb⟩)
        clear HNp9_7
        have HB_8 : Hid (Below W.heap.size W w8) := hid (HB_7.out.trans ((hb).mono HB_7.out.size))
        clear HB_7
        clear hb
        simp [stG, stU, dstAt, Act.put, h9]
        clear h9
        obtain ⟨C, hC⟩ : ∃ C, C = chkN lf xs := ⟨_, rfl⟩
        have hFC : F = C := by rw [HFF.out.1, hC]; unfold wiE; rw [if_pos HC.out]
        have hFoC : Fo = C := by rw [HFF.out.2.1, hC]; unfold woE; rw [if_pos HC.out]
        have hC0 : (C != 0) = true := by rw [bne_iff_ne, hC]; exact HC.out
        have hCC : (C == C) = true := by simp
        have HCE := hid hC
        clear hC
        clear HNp7_8 HNp9_8
        clear HFF
        subst hFC
        subst hFoC
        have hc0p2 : w8.cell? ⟨gp2, 0, none⟩ = some (.bool lf) := by rw [cell_of_row _ _ _ _ _ _ p2_8.out]; rfl
        have hc1p2 : w8.cell? ⟨gp2, 1, none⟩ = some (.slice a2 n2 c2) := by rw [cell_of_row _ _ _ _ _ _ p2_8.out]; rfl
        go_wp2_with fail
        clear hc0p2 hc1p2
        have h := chk_x lf HY_8.out
        rw [← HCE.out] at h
        have HCK := hid h
        clear h
        refine (HCK.out).mono ?_
        rintro e w9 ⟨rfl, hb⟩
        have pe_9 := hid (row_below pe_8.out hb)
        clear pe_8
        have HX_9 := hid (HX_8.out.below hb)
        clear HX_8
        have p1_9 := hid (row_below p1_8.out hb)
        clear p1_8
        have HY_9 := hid (HY_8.out.below hb)
        clear HY_8
        have p2_9 := hid (row_below p2_8.out hb)
        clear p2_8
        have p7_9 := hid (row_below p7_8.out hb)
        clear p7_8
        have p9_9 := hid (row_below p9_8.out hb)
        clear p9_8
        have HB_9 : Hid (Below W.heap.size W w9) := hid (HB_8.out.trans ((hb).mono HB_8.out.size))
        clear HB_8
        clear hb
        clear HCK
        go_wp2_with fail
        refine (known_any HP.out _).mono ?_
        rintro e w10 ⟨rfl, hb⟩
        have pe_10 := hid (row_below pe_9.out hb)
        clear pe_9
        have HX_10 := hid (HX_9.out.below hb)
        clear HX_9
        have p1_10 := hid (row_below p1_9.out hb)
        clear p1_9
        have HY_10 := hid (HY_9.out.below hb)
        clear HY_9
        have p2_10 := hid (row_below p2_9.out hb)
        clear p2_9
        have p7_10 := hid (row_below p7_9.out hb)
        clear p7_9
        have p9_10 := hid (row_below p9_9.out hb)
        clear p9_9
        have HB_10 : Hid (Below W.heap.size W w10) := hid (HB_9.out.trans ((hb).mono HB_9.out.size))
        clear HB_9
        clear hb
        have hc0p2 : w10.cell? ⟨gp2, 0, none⟩ = some (.bool lf) := by rw [cell_of_row _ _ _ _ _ _ p2_10.out]; rfl
        have hc1p2 : w10.cell? ⟨gp2, 1, none⟩ = some (.slice a2 n2 c2) := by rw [cell_of_row _ _ _ _ _ _ p2_10.out]; rfl
        go_wp2_with fail
        clear hc0p2 hc1p2
        have h := chk_x lf HY_10.out
        rw [← HCE.out] at h
        have HCK := hid h
        clear h
        refine (HCK.out).mono ?_
        rintro e w11 ⟨rfl, hb⟩
        have pe_11 := hid (row_below pe_10.out hb)
        clear pe_10
        have HX_11 := hid (HX_10.out.below hb)
        clear HX_10
        have p1_11 := hid (row_below p1_10.out hb)
        clear p1_10
        have HY_11 := hid (HY_10.out.below hb)
        clear HY_10
        have p2_11 := hid (row_below p2_10.out hb)
        clear p2_10
        have p7_11 := hid (row_below p7_10.out hb)
        clear p7_10
        have p9_11 := hid (row_below p9_10.out hb)
        clear p9_10
        have HB_11 : Hid (Below W.heap.size W w11) := hid (HB_10.out.trans ((hb).mono HB_10.out.size))
        clear HB_10
        clear hb
        clear HCK
        have hc0p2 : w11.cell? ⟨gp2, 0, none⟩ = some (.bool lf) := by rw [cell_of_row _ _ _ _ _ _ p2_11.out]; rfl
        have hc1p2 : w11.cell? ⟨gp2, 1, none⟩ = some (.slice a2 n2 c2) := by rw [cell_of_row _ _ _ _ _ _ p2_11.out]; rfl
        go_wp2_with fail
        clear hc0p2 hc1p2
        have h := chk_x lf HY_11.out
        rw [← HCE.out] at h
        have HCK := hid h
        clear h
        refine (HCK.out).mono ?_
        rintro e w12 ⟨rfl, hb⟩
        have pe_12 := hid (row_below pe_11.out hb)
        clear pe_11
        have HX_12 := hid (HX_11.out.below hb)
        clear HX_11
        have p1_12 := hid (row_below p1_11.out hb)
        clear p1_11
        have HY_12 := hid (HY_11.out.below hb)
        clear HY_11
        have p2_12 := hid (row_below p2_11.out hb)
        clear p2_11
        have p7_12 := hid (row_below p7_11.out hb)
        clear p7_11
        have p9_12 := hid (row_below p9_11.out hb)
        clear p9_11
        have HB_12 : Hid (Below W.heap.size W w12) := hid (HB_11.out.trans ((hb).mono HB_11.out.size))
        clear HB_11
        clear hb
        clear HCK
        go_wp2_with fail
        go_ret
        exact ⟨rfl, HB_12.out⟩
end Go.Proofs.Ytokeihpmagcneaa
