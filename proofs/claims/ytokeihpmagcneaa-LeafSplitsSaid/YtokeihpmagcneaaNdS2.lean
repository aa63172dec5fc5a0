/- THE LAW LeafSplits: the walk, two right nodes of one kind. -/
import Derived.Test.YtokeihpmagcneaaNdS
namespace Go.Proofs.Ytokeihpmagcneaa
open Go.RowKit Go.Inc

set_option maxRecDepth 20000 in
set_option maxHeartbeats 16000000 in
theorem splits_two (P : PN) (a : Option Addr) (n c : Nat) (lf : Bool) (es : List Et) (b : Option Addr) (m d : Nat) (mf : Bool) (fs : List Et) (W : World) (hs : EtS (fun _ => True) W a es) (hn : n = es.length) (hf : ∀ e ∈ es, fitsE e) (hs2 : EtS (fun _ => True) W b fs) (hm : m = fs.length) (hf2 : ∀ e ∈ fs, fitsE e) (hcs : chkN lf (es.take 18) = 0 ∧ chkN mf (fs.take 18) = 0 ∧ lf = mf) :
    Calls Try.prog 7 #[.agg #[.bool lf, .slice a n c], .agg #[.bool mf, .slice b m d]] W fun e w' => e = .returned (.bool true) ∧ Bel W w' := by
  have HP := hid P
  obtain ⟨xs, hxs⟩ : ∃ xs, xs = es.take 18 := ⟨_, rfl⟩
  obtain ⟨ys, hys⟩ : ∃ ys, ys = fs.take 18 := ⟨_, rfl⟩
  have HXL : Hid (xs.length ≤ 18 ∧ ys.length ≤ 18) := hid (by rw [hxs, hys, List.length_take, List.length_take]; omega)
  obtain ⟨g, hg⟩ : ∃ g, g = W.heap.size := ⟨_, rfl⟩
  obtain ⟨w1, hw1⟩ : ∃ y, y = (W.alloc (.cells #[.bool lf, .slice a n c] 24)).alloc (.cells #[.bool mf, .slice b m d] 24) := ⟨_, rfl⟩
  have HB_1 : Hid (Below W.heap.size W w1) := hid (by rw [hw1]; exact ((Below.refl _ _).alloc (Nat.le_refl _) _).alloc (by simp) _)
  have p0_1 : Hid (w1.heap[g]? = some (.cells #[.bool lf, .slice a n c] 24 (0, 0))) := hid (by rw [hw1, hg]; exact heap_alloc2_old W _ _)
  have pe_1 : Hid (w1.heap[g + 1]? = some (.cells #[.bool mf, .slice b m d] 24 (0, 0))) := hid (by rw [hw1, hg]; exact heap_alloc2_new W _ _)
  have HW := hid hw1
  have HG := hid hg
  have HTO1 : Hid (∀ y, Below w1.heap.size w1 y → Calls Try.prog 8 #[.agg #[.bool lf, .slice a n c]] y fun e w' => (∃ v, e = .returned v ∧ AnsV w' v True lf xs) ∧ Below y.heap.size y w') := hid fun y hy => by
    refine (to_x n c lf ((hs.below HB_1.out).below hy) hn hf).mono ?_
    rintro e w' ⟨⟨a', n', c', rfl, h⟩, hb⟩
    exact ⟨⟨_, rfl, lf, a', n', c', rfl, fun _ => ⟨rfl, by rw [hxs]; exact h⟩⟩, hb⟩
  have HTO2 : Hid (∀ y, Below w1.heap.size w1 y → Calls Try.prog 8 #[.agg #[.bool mf, .slice b m d]] y fun e w' => (∃ v, e = .returned v ∧ AnsV w' v True mf ys) ∧ Below y.heap.size y w') := hid fun y hy => by
    refine (to_x m d mf ((hs2.below HB_1.out).below hy) hm hf2).mono ?_
    rintro e w' ⟨⟨a', n', c', rfl, h⟩, hb⟩
    exact ⟨⟨_, rfl, mf, a', n', c', rfl, fun _ => ⟨rfl, by rw [hys]; exact h⟩⟩, hb⟩
  rw [← hxs, ← hys] at hcs
  have HCS := hid hcs
  clear P hcs hxs hys hs hn hf hs2 hm hf2 hw1 hg
  go_enter Try.func7, Try.ntmps7
  go_upto_region 1 with fail
  rw [← HW.out, ← HG.out]
  clear HW
  have HCX : Hid (∀ x, Below w1.heap.size w1 x → (x.cell? ⟨g, 0, none⟩ = some (.bool lf) ∧ x.cell? ⟨g, 1, none⟩ = some (.slice a n c)) ∧ x.cell? ⟨g + 1, 0, none⟩ = some (.bool mf) ∧ x.cell? ⟨g + 1, 1, none⟩ = some (.slice b m d)) := hid fun x hx => by
    have h1 := row_below p0_1.out hx
    have h2 := row_below pe_1.out hx
    exact ⟨⟨by rw [cell_of_row _ _ _ _ _ _ h1]; rfl, by rw [cell_of_row _ _ _ _ _ _ h1]; rfl⟩, by rw [cell_of_row _ _ _ _ _ _ h2]; rfl, by rw [cell_of_row _ _ _ _ _ _ h2]; rfl⟩
  refine wp_region_growsN 8 [(4, 6, 5), (5, 7, 6)] [] [EqN (.agg #[.bool lf, .slice a n c]), (fun x v => AnsV x v True lf xs), EqN (.agg #[.bool mf, .slice b m d]), (fun x v => AnsV x v True mf ys), (fun x v => BoxA x v 27 w1.heap.size), (fun x v => BoxA x v 27 w1.heap.size), (fun x v => BoxN x v 27 w1.heap.size True lf xs), (fun x v => BoxN x v 27 w1.heap.size True mf ys)] (by kernel_rfl) (by decide) (by kernel_rfl) (by kernel_rfl) (by kernel_rfl) (by decide) ?_ ?_ ?_
  · repeat' (first | exact List.forall_mem_nil _ | refine List.forall_mem_cons.2 ⟨?_, ?_⟩)
    all_goals
      intro w w' v hw h
      first | exact h | exact AnsV.grew hw h | exact BoxA.grew hw h | exact BoxN.grew hw h
  · simp only [AllLt]
    refine ⟨⟨⟨⟨⟨⟨⟨⟨trivial, ?_⟩, ?_⟩, ?_⟩, ?_⟩, ?_⟩, ?_⟩, ?_⟩, ?_⟩
    all_goals
      intro o' ho
      simp at ho
      subst ho
      intro ρ w5 hR hL hS hG
      obtain ⟨hl1, hl2, -⟩ := hL
    · refine plainG rfl ?_
      intro bA K Q' hK
      have e2 := hS 2 (by kernel_rfl)
      change ρ (.tmp 2) = _ at e2
      obtain ⟨⟨y0, y1⟩, y2, y3⟩ := HCX.out w5 (belDrew hR)
      simp only [execOp]
      go_simp
      exact hK _ _ rfl (.inl (Grew.refl _)) (noMk (by decide)) (noPair (by decide))
    · refine plainG rfl ?_
      intro bA K Q' hK
      have e19 := hG 0 19 (by decide) (by kernel_rfl) (by kernel_rfl)
      change ρ (.tmp 19) = _ at e19
      simp only [execOp]
      go_simp
      refine (HTO1.out w5 (belDrew hR)).mono ?_
      rintro r9 w9 ⟨⟨v9, rfl, h9⟩, hb9⟩
      exact hK _ _ h9 (.inl hb9) (noMk (by decide)) (noPair (by decide))
    · refine plainG rfl ?_
      intro bA K Q' hK
      have e3 := hS 3 (by kernel_rfl)
      change ρ (.tmp 3) = _ at e3
      obtain ⟨⟨y0, y1⟩, y2, y3⟩ := HCX.out w5 (belDrew hR)
      simp only [execOp]
      go_simp
      exact hK _ _ rfl (.inl (Grew.refl _)) (noMk (by decide)) (noPair (by decide))
    · refine plainG rfl ?_
      intro bA K Q' hK
      have e21 := hG 2 21 (by decide) (by kernel_rfl) (by kernel_rfl)
      change ρ (.tmp 21) = _ at e21
      simp only [execOp]
      go_simp
      refine (HTO2.out w5 (belDrew hR)).mono ?_
      rintro r9 w9 ⟨⟨v9, rfl, h9⟩, hb9⟩
      exact hK _ _ h9 (.inl hb9) (noMk (by decide)) (noPair (by decide))
    · refine plainG rfl ?_
      intro bA K Q' hK
      simp only [execOp]
      go_simp
      refine hK _ _ ⟨_, false, none, 0, 0, rfl, hR.size, heap_alloc_new w5 _⟩ (.inl ((Grew.refl _).alloc _)) ?_ (noPair (by decide))
      intro y hy _ z hz hne x hx
      simp at hz
      rcases hz with rfl | rfl
      · exact absurd rfl hne
      · have hx' : BoxA w5 x 27 w1.heap.size := hx; exact hx'.fresh
    · refine plainG rfl ?_
      intro bA K Q' hK
      simp only [execOp]
      go_simp
      refine hK _ _ ⟨_, false, none, 0, 0, rfl, hR.size, heap_alloc_new w5 _⟩ (.inl ((Grew.refl _).alloc _)) ?_ (noPair (by decide))
      intro y hy _ z hz hne x hx
      simp at hz
      rcases hz with rfl | rfl
      · have hx' : BoxA w5 x 27 w1.heap.size := hx; exact hx'.fresh
      · exact absurd rfl hne
    · refine plainG rfl ?_
      intro bA K Q' hK
      have e5 := hG 4 5 (by decide) (by kernel_rfl) (by kernel_rfl)
      have e20 := hG 1 20 (by decide) (by kernel_rfl) (by kernel_rfl)
      obtain ⟨gz, fz, az0, nz0, cz0, e5, hgz, hrz⟩ := e5
      obtain ⟨lz, az, nz, cz, e20, hz⟩ := e20
      refine upon_store_own 27 (.tmp 5) (.tmp 20) rfl gz #[.bool lz, .slice az nz cz] e5 e20 27 _ hrz (by kernel_rfl) rfl (by simp [Value.oneCell']) ?_
      intro w3 hr3 hg3
      refine hK (.pointer (some ⟨gz, 0, none⟩)) _ ⟨gz, lz, az, nz, cz, rfl, hgz, hr3, fun hp => ⟨(hz hp).1, (hz hp).2.over hg3 hrz (fun z e => by cases e)⟩⟩ (.inr ⟨grown_is_below hg3 hgz hR.size, ?_⟩) (noMk (by decide)) ?_
      · simp only [AllLt]
        refine ⟨⟨⟨⟨⟨⟨⟨⟨trivial, ?_⟩, ?_⟩, ?_⟩, ?_⟩, ?_⟩, ?_⟩, ?_⟩, ?_⟩
        · exact fun _ x _ hx => hx
        · exact fun _ x _ hx => AnsV.over hx hg3 hrz
        · exact fun _ x _ hx => hx
        · exact fun _ x _ hx => AnsV.over hx hg3 hrz
        · exact fun _ x _ hx => BoxA.over hx hg3 hr3
        · exact fun _ x _ hx => BoxA.over hx hg3 hr3
        · exact nokeep (by kernel_rfl)
        · exact fun _ x hne hx => BoxN.over hx hg3 hrz (by rw [← e5]; exact hne (4, 6, 5) (by simp) rfl (5, 7, 6) (by simp) rfl)
      · intro y hy hw
        simp at hy
        rcases hy with rfl | rfl
        all_goals first | exact e5 | exact absurd hw (by decide)
    · refine plainG rfl ?_
      intro bA K Q' hK
      have e6 := hG 5 6 (by decide) (by kernel_rfl) (by kernel_rfl)
      have e22 := hG 3 22 (by decide) (by kernel_rfl) (by kernel_rfl)
      obtain ⟨gz, fz, az0, nz0, cz0, e6, hgz, hrz⟩ := e6
      obtain ⟨lz, az, nz, cz, e22, hz⟩ := e22
      refine upon_store_own 27 (.tmp 6) (.tmp 22) rfl gz #[.bool lz, .slice az nz cz] e6 e22 27 _ hrz (by kernel_rfl) rfl (by simp [Value.oneCell']) ?_
      intro w3 hr3 hg3
      refine hK (.pointer (some ⟨gz, 0, none⟩)) _ ⟨gz, lz, az, nz, cz, rfl, hgz, hr3, fun hp => ⟨(hz hp).1, (hz hp).2.over hg3 hrz (fun z e => by cases e)⟩⟩ (.inr ⟨grown_is_below hg3 hgz hR.size, ?_⟩) (noMk (by decide)) ?_
      · simp only [AllLt]
        refine ⟨⟨⟨⟨⟨⟨⟨⟨trivial, ?_⟩, ?_⟩, ?_⟩, ?_⟩, ?_⟩, ?_⟩, ?_⟩, ?_⟩
        · exact fun _ x _ hx => hx
        · exact fun _ x _ hx => AnsV.over hx hg3 hrz
        · exact fun _ x _ hx => hx
        · exact fun _ x _ hx => AnsV.over hx hg3 hrz
        · exact fun _ x _ hx => BoxA.over hx hg3 hr3
        · exact fun _ x _ hx => BoxA.over hx hg3 hr3
        · exact fun _ x hne hx => BoxN.over hx hg3 hrz (by rw [← e6]; exact hne (5, 7, 6) (by simp) rfl (4, 6, 5) (by simp) rfl)
        · exact nokeep (by kernel_rfl)
      · intro y hy hw
        simp at hy
        rcases hy with rfl | rfl
        all_goals first | exact e6 | exact absurd hw (by decide)
  · skip
    intro vv w2 hB hG hDD
    simp only [AllLt] at hG
    obtain ⟨gp1, lp1, ap1, np1, cp1, q1, -, hr1, h1⟩ := hG.1.2 (by decide)
    obtain ⟨gp3, lp3, ap3, np3, cp3, q2, -, hr2, h2⟩ := hG.2 (by decide)
    have q5 : vv 4 = _ := (hDD (4, 6, 5) (by simp)).trans q1
    have q6 : vv 5 = _ := (hDD (5, 7, 6) (by simp)).trans q2
    have hb := belDrew hB
    have e1 := (h1 trivial).1.symm
    have e2 := (h2 trivial).1.symm
    have k1 := (h1 trivial).2
    have k2 := (h2 trivial).2
    subst e1
    subst e2
    clear hG hDD hB q1 q2 h1 h2 HCX
    have p0_2 := hid (row_below p0_1.out hb)
    clear p0_1
    have pe_2 := hid (row_below pe_1.out hb)
    clear pe_1
    have HB_2 : Hid (Below W.heap.size W w2) := hid (HB_1.out.trans ((hb).mono HB_1.out.size))
    clear HB_1
    have p1_2 := hid hr1
    have Hp1_2 := hid k1
    have p3_2 := hid hr2
    have Hp3_2 := hid k2
    clear hr1 hr2 k1 k2 hb
    simp [stG, stU, dstAt, Act.put, q5, q6]
    clear q5 q6
    clear HTO1 HTO2 p0_2 pe_2
    go_upto_region 2 with fail
    have HOF1 : Hid (∀ y, Below w2.heap.size w2 y → Calls Try.prog 9 #[.agg #[.bool lf, .slice ap1 np1 cp1]] y fun e w' => (∃ v, e = .returned v ∧ AnsV w' v True lf xs) ∧ Below y.heap.size y w') := hid fun y hy => by
      refine (of_x lf (Hp1_2.out.below hy)).mono ?_
      rintro e w' ⟨⟨a', n', c', rfl, h⟩, hb⟩
      exact ⟨⟨_, rfl, lf, a', n', c', rfl, fun _ => ⟨rfl, h⟩⟩, hb⟩
    have HOF2 : Hid (∀ y, Below w2.heap.size w2 y → Calls Try.prog 9 #[.agg #[.bool mf, .slice ap3 np3 cp3]] y fun e w' => (∃ v, e = .returned v ∧ AnsV w' v True mf ys) ∧ Below y.heap.size y w') := hid fun y hy => by
      refine (of_x mf (Hp3_2.out.below hy)).mono ?_
      rintro e w' ⟨⟨a', n', c', rfl, h⟩, hb⟩
      exact ⟨⟨_, rfl, mf, a', n', c', rfl, fun _ => ⟨rfl, h⟩⟩, hb⟩
    have HCX : Hid (∀ x, Below w2.heap.size w2 x → (x.cell? ⟨gp1, 0, none⟩ = some (.bool lf) ∧ x.cell? ⟨gp1, 1, none⟩ = some (.slice ap1 np1 cp1)) ∧ x.cell? ⟨gp3, 0, none⟩ = some (.bool mf) ∧ x.cell? ⟨gp3, 1, none⟩ = some (.slice ap3 np3 cp3)) := hid fun x hx => by
      have h1 := row_below p1_2.out hx
      have h2 := row_below p3_2.out hx
      exact ⟨⟨by rw [cell_of_row _ _ _ _ _ _ h1]; rfl, by rw [cell_of_row _ _ _ _ _ _ h1]; rfl⟩, by rw [cell_of_row _ _ _ _ _ _ h2]; rfl, by rw [cell_of_row _ _ _ _ _ _ h2]; rfl⟩
    refine wp_region_growsN 8 [(4, 6, 7), (5, 7, 8)] [] [EqN (.agg #[.bool lf, .slice ap1 np1 cp1]), (fun x v => AnsV x v True lf xs), EqN (.agg #[.bool mf, .slice ap3 np3 cp3]), (fun x v => AnsV x v True mf ys), (fun x v => BoxA x v 24 w2.heap.size), (fun x v => BoxA x v 24 w2.heap.size), (fun x v => BoxN x v 24 w2.heap.size True lf xs), (fun x v => BoxN x v 24 w2.heap.size True mf ys)] (by kernel_rfl) (by decide) (by kernel_rfl) (by kernel_rfl) (by kernel_rfl) (by decide) ?_ ?_ ?_
    · repeat' (first | exact List.forall_mem_nil _ | refine List.forall_mem_cons.2 ⟨?_, ?_⟩)
      all_goals
        intro w w' v hw h
        first | exact h | exact AnsV.grew hw h | exact BoxA.grew hw h | exact BoxN.grew hw h
    · simp only [AllLt]
      refine ⟨⟨⟨⟨⟨⟨⟨⟨trivial, ?_⟩, ?_⟩, ?_⟩, ?_⟩, ?_⟩, ?_⟩, ?_⟩, ?_⟩
      all_goals
        intro o' ho
        simp at ho
        subst ho
        intro ρ w5 hR hL hS hG
        obtain ⟨hl1, hl2, -⟩ := hL
      · refine plainG rfl ?_
        intro bA K Q' hK
        have e5 := hS 5 (by kernel_rfl)
        change ρ (.tmp 5) = _ at e5
        obtain ⟨⟨y0, y1⟩, y2, y3⟩ := HCX.out w5 (belDrew hR)
        simp only [execOp]
        go_simp
        exact hK _ _ rfl (.inl (Grew.refl _)) (noMk (by decide)) (noPair (by decide))
      · refine plainG rfl ?_
        intro bA K Q' hK
        have e23 := hG 0 23 (by decide) (by kernel_rfl) (by kernel_rfl)
        change ρ (.tmp 23) = _ at e23
        simp only [execOp]
        go_simp
        refine (HOF1.out w5 (belDrew hR)).mono ?_
        rintro r9 w9 ⟨⟨v9, rfl, h9⟩, hb9⟩
        exact hK _ _ h9 (.inl hb9) (noMk (by decide)) (noPair (by decide))
      · refine plainG rfl ?_
        intro bA K Q' hK
        have e6 := hS 6 (by kernel_rfl)
        change ρ (.tmp 6) = _ at e6
        obtain ⟨⟨y0, y1⟩, y2, y3⟩ := HCX.out w5 (belDrew hR)
        simp only [execOp]
        go_simp
        exact hK _ _ rfl (.inl (Grew.refl _)) (noMk (by decide)) (noPair (by decide))
      · refine plainG rfl ?_
        intro bA K Q' hK
        have e25 := hG 2 25 (by decide) (by kernel_rfl) (by kernel_rfl)
        change ρ (.tmp 25) = _ at e25
        simp only [execOp]
        go_simp
        refine (HOF2.out w5 (belDrew hR)).mono ?_
        rintro r9 w9 ⟨⟨v9, rfl, h9⟩, hb9⟩
        exact hK _ _ h9 (.inl hb9) (noMk (by decide)) (noPair (by decide))
      · refine plainG rfl ?_
        intro bA K Q' hK
        simp only [execOp]
        go_simp
        refine hK _ _ ⟨_, false, none, 0, 0, rfl, hR.size, heap_alloc_new w5 _⟩ (.inl ((Grew.refl _).alloc _)) ?_ (noPair (by decide))
        intro y hy _ z hz hne x hx
        simp at hz
        rcases hz with rfl | rfl
        · exact absurd rfl hne
        · have hx' : BoxA w5 x 24 w2.heap.size := hx; exact hx'.fresh
      · refine plainG rfl ?_
        intro bA K Q' hK
        simp only [execOp]
        go_simp
        refine hK _ _ ⟨_, false, none, 0, 0, rfl, hR.size, heap_alloc_new w5 _⟩ (.inl ((Grew.refl _).alloc _)) ?_ (noPair (by decide))
        intro y hy _ z hz hne x hx
        simp at hz
        rcases hz with rfl | rfl
        · have hx' : BoxA w5 x 24 w2.heap.size := hx; exact hx'.fresh
        · exact absurd rfl hne
      · refine plainG rfl ?_
        intro bA K Q' hK
        have e7 := hG 4 7 (by decide) (by kernel_rfl) (by kernel_rfl)
        have e24 := hG 1 24 (by decide) (by kernel_rfl) (by kernel_rfl)
        obtain ⟨gz, fz, az0, nz0, cz0, e7, hgz, hrz⟩ := e7
        obtain ⟨lz, az, nz, cz, e24, hz⟩ := e24
        refine upon_store_own 24 (.tmp 7) (.tmp 24) rfl gz #[.bool lz, .slice az nz cz] e7 e24 24 _ hrz (by kernel_rfl) rfl (by simp [Value.oneCell']) ?_
        intro w3 hr3 hg3
        refine hK (.pointer (some ⟨gz, 0, none⟩)) _ ⟨gz, lz, az, nz, cz, rfl, hgz, hr3, fun hp => ⟨(hz hp).1, (hz hp).2.over hg3 hrz (fun z e => by cases e)⟩⟩ (.inr ⟨grown_is_below hg3 hgz hR.size, ?_⟩) (noMk (by decide)) ?_
        · simp only [AllLt]
          refine ⟨⟨⟨⟨⟨⟨⟨⟨trivial, ?_⟩, ?_⟩, ?_⟩, ?_⟩, ?_⟩, ?_⟩, ?_⟩, ?_⟩
          · exact fun _ x _ hx => hx
          · exact fun _ x _ hx => AnsV.over hx hg3 hrz
          · exact fun _ x _ hx => hx
          · exact fun _ x _ hx => AnsV.over hx hg3 hrz
          · exact fun _ x _ hx => BoxA.over hx hg3 hr3
          · exact fun _ x _ hx => BoxA.over hx hg3 hr3
          · exact nokeep (by kernel_rfl)
          · exact fun _ x hne hx => BoxN.over hx hg3 hrz (by rw [← e7]; exact hne (4, 6, 7) (by simp) rfl (5, 7, 8) (by simp) rfl)
        · intro y hy hw
          simp at hy
          rcases hy with rfl | rfl
          all_goals first | exact e7 | exact absurd hw (by decide)
      · refine plainG rfl ?_
        intro bA K Q' hK
        have e8 := hG 5 8 (by decide) (by kernel_rfl) (by kernel_rfl)
        have e26 := hG 3 26 (by decide) (by kernel_rfl) (by kernel_rfl)
        obtain ⟨gz, fz, az0, nz0, cz0, e8, hgz, hrz⟩ := e8
        obtain ⟨lz, az, nz, cz, e26, hz⟩ := e26
        refine upon_store_own 24 (.tmp 8) (.tmp 26) rfl gz #[.bool lz, .slice az nz cz] e8 e26 24 _ hrz (by kernel_rfl) rfl (by simp [Value.oneCell']) ?_
        intro w3 hr3 hg3
        refine hK (.pointer (some ⟨gz, 0, none⟩)) _ ⟨gz, lz, az, nz, cz, rfl, hgz, hr3, fun hp => ⟨(hz hp).1, (hz hp).2.over hg3 hrz (fun z e => by cases e)⟩⟩ (.inr ⟨grown_is_below hg3 hgz hR.size, ?_⟩) (noMk (by decide)) ?_
        · simp only [AllLt]
          refine ⟨⟨⟨⟨⟨⟨⟨⟨trivial, ?_⟩, ?_⟩, ?_⟩, ?_⟩, ?_⟩, ?_⟩, ?_⟩, ?_⟩
          · exact fun _ x _ hx => hx
          · exact fun _ x _ hx => AnsV.over hx hg3 hrz
          · exact fun _ x _ hx => hx
          · exact fun _ x _ hx => AnsV.over hx hg3 hrz
          · exact fun _ x _ hx => BoxA.over hx hg3 hr3
          · exact fun _ x _ hx => BoxA.over hx hg3 hr3
          · exact fun _ x hne hx => BoxN.over hx hg3 hrz (by rw [← e8]; exact hne (5, 7, 8) (by simp) rfl (4, 6, 7) (by simp) rfl)
          · exact nokeep (by kernel_rfl)
        · intro y hy hw
          simp at hy
          rcases hy with rfl | rfl
          all_goals first | exact e8 | exact absurd hw (by decide)
    · skip
      intro vv w3 hB hG hDD
      simp only [AllLt] at hG
      obtain ⟨gp2, lp2, ap2, np2, cp2, q1, -, hr1, h1⟩ := hG.1.2 (by decide)
      obtain ⟨gp4, lp4, ap4, np4, cp4, q2, -, hr2, h2⟩ := hG.2 (by decide)
      have q5 : vv 4 = _ := (hDD (4, 6, 7) (by simp)).trans q1
      have q6 : vv 5 = _ := (hDD (5, 7, 8) (by simp)).trans q2
      have hb := belDrew hB
      have e1 := (h1 trivial).1.symm
      have e2 := (h2 trivial).1.symm
      have k1 := (h1 trivial).2
      have k2 := (h2 trivial).2
      subst e1
      subst e2
      clear hG hDD hB q1 q2 h1 h2 HCX
      have p1_3 := hid (row_below p1_2.out hb)
      clear p1_2
      have Hp1_3 := hid (Hp1_2.out.below hb)
      clear Hp1_2
      have p3_3 := hid (row_below p3_2.out hb)
      clear p3_2
      have Hp3_3 := hid (Hp3_2.out.below hb)
      clear Hp3_2
      have HB_3 : Hid (Below W.heap.size W w3) := hid (HB_2.out.trans ((hb).mono HB_2.out.size))
      clear HB_2
      have p2_3 := hid hr1
      have Hp2_3 := hid k1
      have p4_3 := hid hr2
      have Hp4_3 := hid k2
      clear hr1 hr2 k1 k2 hb
      simp [stG, stU, dstAt, Act.put, q5, q6]
      clear q5 q6
      clear HOF1 HOF2
      go_upto_region 3 with fail
      obtain ⟨Sp, hSp⟩ : ∃ x, x = spE lf xs := ⟨_, rfl⟩
      obtain ⟨Mg, hMg⟩ : ∃ x, x = mgE lf xs mf ys := ⟨_, rfl⟩
      have HSM := hid (And.intro hSp hMg)
      have h := HP.out.nSplit ap1 np1 cp1 lf xs _ Hp1_3.out
      rw [← hSp] at h
      have HSPL := hid h
      have HME : Hid (∀ y, NdOk y ap1 np1 cp1 xs → NdOk y ap3 np3 cp3 ys → Calls Try.prog 31 #[.agg #[.bool lf, .slice ap1 np1 cp1], .agg #[.bool mf, .slice ap3 np3 cp3]] y fun e w' => (∃ v, e = .returned (.tuple #[v, .int .i64 Mg]) ∧ NdF v ∧ (Mg = 0 → NdV w' v lf (xs ++ ys))) ∧ Below y.heap.size y w') := hid fun y h1 h2 => by
        have h := HP.out.nMerge ap1 ap3 np1 np3 cp1 cp3 lf mf xs ys y h1 h2
        rw [← hMg] at h
        exact h
      clear h hSp hMg
      have hc0p1 : w3.cell? ⟨gp1, 0, none⟩ = some (.bool lf) := by rw [cell_of_row _ _ _ _ _ _ p1_3.out]; rfl
      have hc1p1 : w3.cell? ⟨gp1, 1, none⟩ = some (.slice ap1 np1 cp1) := by rw [cell_of_row _ _ _ _ _ _ p1_3.out]; rfl
      go_wp2_with fail
      clear hc0p1 hc1p1
      refine (HSPL.out).mono ?_
      rintro e w4 ⟨⟨v, u, rfl, ⟨l5, a5, n5, c5, rfl⟩, ⟨l6, a6, n6, c6, rfl⟩, hh⟩, hb⟩
      have p1_4 := hid (row_below p1_3.out hb)
      clear p1_3
      have Hp1_4 := hid (Hp1_3.out.below hb)
      clear Hp1_3
      have p3_4 := hid (row_below p3_3.out hb)
      clear p3_3
      have Hp3_4 := hid (Hp3_3.out.below hb)
      clear Hp3_3
      have p2_4 := hid (row_below p2_3.out hb)
      clear p2_3
      have Hp2_4 := hid (Hp2_3.out.below hb)
      clear Hp2_3
      have p4_4 := hid (row_below p4_3.out hb)
      clear p4_3
      have Hp4_4 := hid (Hp4_3.out.below hb)
      clear Hp4_3
      have HB_4 : Hid (Below W.heap.size W w4) := hid (HB_3.out.trans ((hb).mono HB_3.out.size))
      clear HB_3
      clear hb
      clear HSPL
      have HNp9_4 : Hid (Sp = 0 → l5 = lf ∧ NdOk w4 a5 n5 c5 (xs.take (xs.length / 2))) := hid fun h => ndv_imp (hh h).1
      have HNp10_4 : Hid (Sp = 0 → l6 = lf ∧ NdOk w4 a6 n6 c6 (xs.drop (xs.length / 2))) := hid fun h => ndv_imp (hh h).2
      clear hh
      obtain ⟨w5, hw5⟩ : ∃ y, y = (w4.alloc (.cells #[.bool l5, .slice a5 n5 c5] 27)).alloc (.cells #[.bool l6, .slice a6 n6 c6] 27) := ⟨_, rfl⟩
      have hb : Below w4.heap.size w4 w5 := by rw [hw5]; exact ((Below.refl _ _).alloc (Nat.le_refl _) _).alloc (by simp) _
      obtain ⟨gp9, hg9⟩ : ∃ g, g = w4.heap.size := ⟨_, rfl⟩
      obtain ⟨gp10, hg10⟩ : ∃ g, g = gp9 + 1 := ⟨_, rfl⟩
      have hr1 : w5.heap[gp9]? = some (.cells #[.bool l5, .slice a5 n5 c5] 27 (0, 0)) := by rw [hw5, hg9]; exact heap_alloc2_old _ _ _
      have hr2 : w5.heap[gp10]? = some (.cells #[.bool l6, .slice a6 n6 c6] 27 (0, 0)) := by rw [hw5, hg10, hg9]; exact heap_alloc2_new _ _ _
      have HW := hid hw5
      have HG9 := hid hg9
      have HG10 := hid hg10
      clear hw5 hg9 hg10
      have p1_5 := hid (row_below p1_4.out hb)
      clear p1_4
      have Hp1_5 := hid (Hp1_4.out.below hb)
      clear Hp1_4
      have p3_5 := hid (row_below p3_4.out hb)
      clear p3_4
      have Hp3_5 := hid (Hp3_4.out.below hb)
      clear Hp3_4
      have p2_5 := hid (row_below p2_4.out hb)
      clear p2_4
      have Hp2_5 := hid (Hp2_4.out.below hb)
      clear Hp2_4
      have p4_5 := hid (row_below p4_4.out hb)
      clear p4_4
      have Hp4_5 := hid (Hp4_4.out.below hb)
      clear Hp4_4
      have HNp9_5 : Hid (Sp = 0 → l5 = lf ∧ NdOk w5 a5 n5 c5 (xs.take (xs.length / 2))) := hid (fun hp => ⟨(HNp9_4.out hp).1, (HNp9_4.out hp).2.below hb⟩)
      clear HNp9_4
      have HNp10_5 : Hid (Sp = 0 → l6 = lf ∧ NdOk w5 a6 n6 c6 (xs.drop (xs.length / 2))) := hid (fun hp => ⟨(HNp10_4.out hp).1, (HNp10_4.out hp).2.below hb⟩)
      clear HNp10_4
      have HB_5 : Hid (Below W.heap.size W w5) := hid (HB_4.out.trans ((hb).mono HB_4.out.size))
      clear HB_4
      have p9_5 := hid hr1
      have p10_5 := hid hr2
      clear hr1 hr2 hb
      go_upto_region 4 with fail
      rw [← HW.out, ← HG9.out, ← HG10.out]
      clear HW HG9 HG10
      have hc0p1 : w5.cell? ⟨gp1, 0, none⟩ = some (.bool lf) := by rw [cell_of_row _ _ _ _ _ _ p1_5.out]; rfl
      have hc1p1 : w5.cell? ⟨gp1, 1, none⟩ = some (.slice ap1 np1 cp1) := by rw [cell_of_row _ _ _ _ _ _ p1_5.out]; rfl
      have hc0p3 : w5.cell? ⟨gp3, 0, none⟩ = some (.bool mf) := by rw [cell_of_row _ _ _ _ _ _ p3_5.out]; rfl
      have hc1p3 : w5.cell? ⟨gp3, 1, none⟩ = some (.slice ap3 np3 cp3) := by rw [cell_of_row _ _ _ _ _ _ p3_5.out]; rfl
      go_wp2_with fail
      clear hc0p1 hc1p1 hc0p3 hc1p3
      refine (HME.out _ Hp1_5.out Hp3_5.out).mono ?_
      rintro e w6 ⟨⟨v, rfl, ⟨l7, a7, n7, c7, rfl⟩, hh⟩, hb⟩
      have p1_6 := hid (row_below p1_5.out hb)
      clear p1_5
      have Hp1_6 := hid (Hp1_5.out.below hb)
      clear Hp1_5
      have p3_6 := hid (row_below p3_5.out hb)
      clear p3_5
      have Hp3_6 := hid (Hp3_5.out.below hb)
      clear Hp3_5
      have p2_6 := hid (row_below p2_5.out hb)
      clear p2_5
      have Hp2_6 := hid (Hp2_5.out.below hb)
      clear Hp2_5
      have p4_6 := hid (row_below p4_5.out hb)
      clear p4_5
      have Hp4_6 := hid (Hp4_5.out.below hb)
      clear Hp4_5
      have HNp9_6 : Hid (Sp = 0 → l5 = lf ∧ NdOk w6 a5 n5 c5 (xs.take (xs.length / 2))) := hid (fun hp => ⟨(HNp9_5.out hp).1, (HNp9_5.out hp).2.below hb⟩)
      clear HNp9_5
      have HNp10_6 : Hid (Sp = 0 → l6 = lf ∧ NdOk w6 a6 n6 c6 (xs.drop (xs.length / 2))) := hid (fun hp => ⟨(HNp10_5.out hp).1, (HNp10_5.out hp).2.below hb⟩)
      clear HNp10_5
      have p9_6 := hid (row_below p9_5.out hb)
      clear p9_5
      have p10_6 := hid (row_below p10_5.out hb)
      clear p10_5
      have HB_6 : Hid (Below W.heap.size W w6) := hid (HB_5.out.trans ((hb).mono HB_5.out.size))
      clear HB_5
      clear hb
      have HNp12_6 : Hid (Mg = 0 → l7 = lf ∧ NdOk w6 a7 n7 c7 (xs ++ ys)) := hid fun h => ndv_imp (hh h)
      clear hh HME
      obtain ⟨w7, hw7⟩ : ∃ y, y = w6.alloc (.cells #[.bool l7, .slice a7 n7 c7] 27) := ⟨_, rfl⟩
      have hb : Below w6.heap.size w6 w7 := by rw [hw7]; exact allocBelow w6 _
      obtain ⟨gp12, hgp12⟩ : ∃ g, g = w6.heap.size := ⟨_, rfl⟩
      have hr : w7.heap[gp12]? = some (.cells #[.bool l7, .slice a7 n7 c7] 27 (0, 0)) := by rw [hw7, hgp12]; exact heap_alloc_new w6 _
      have HW := hid hw7
      have HGG := hid hgp12
      clear hw7 hgp12
      have p1_7 := hid (row_below p1_6.out hb)
      clear p1_6
      have Hp1_7 := hid (Hp1_6.out.below hb)
      clear Hp1_6
      have p3_7 := hid (row_below p3_6.out hb)
      clear p3_6
      have Hp3_7 := hid (Hp3_6.out.below hb)
      clear Hp3_6
      have p2_7 := hid (row_below p2_6.out hb)
      clear p2_6
      have Hp2_7 := hid (Hp2_6.out.below hb)
      clear Hp2_6
      have p4_7 := hid (row_below p4_6.out hb)
      clear p4_6
      have Hp4_7 := hid (Hp4_6.out.below hb)
      clear Hp4_6
      have HNp9_7 : Hid (Sp = 0 → l5 = lf ∧ NdOk w7 a5 n5 c5 (xs.take (xs.length / 2))) := hid (fun hp => ⟨(HNp9_6.out hp).1, (HNp9_6.out hp).2.below hb⟩)
      clear HNp9_6
      have HNp10_7 : Hid (Sp = 0 → l6 = lf ∧ NdOk w7 a6 n6 c6 (xs.drop (xs.length / 2))) := hid (fun hp => ⟨(HNp10_6.out hp).1, (HNp10_6.out hp).2.below hb⟩)
      clear HNp10_6
      have p9_7 := hid (row_below p9_6.out hb)
      clear p9_6
      have p10_7 := hid (row_below p10_6.out hb)
      clear p10_6
      have HNp12_7 : Hid (Mg = 0 → l7 = lf ∧ NdOk w7 a7 n7 c7 (xs ++ ys)) := hid (fun hp => ⟨(HNp12_6.out hp).1, (HNp12_6.out hp).2.below hb⟩)
      clear HNp12_6
      have HB_7 : Hid (Below W.heap.size W w7) := hid (HB_6.out.trans ((hb).mono HB_6.out.size))
      clear HB_6
      have p12_7 := hid hr
      clear hr hb
      go_upto_region 5 with fail
      rw [← HW.out, ← HGG.out]
      clear HW HGG
      have HCX : Hid (∀ x, Below w7.heap.size w7 x → NdOk x ap2 np2 cp2 xs ∧ NdOk x ap4 np4 cp4 ys ∧ (x.cell? ⟨gp2, 0, none⟩ = some (.bool lf) ∧ x.cell? ⟨gp2, 1, none⟩ = some (.slice ap2 np2 cp2)) ∧ x.cell? ⟨gp4, 1, none⟩ = some (.slice ap4 np4 cp4)) := hid fun x hx => by
        have h1 := row_below p2_7.out hx
        have h2 := row_below p4_7.out hx
        exact ⟨Hp2_7.out.below hx, Hp4_7.out.below hx, ⟨by rw [cell_of_row _ _ _ _ _ _ h1]; rfl, by rw [cell_of_row _ _ _ _ _ _ h1]; rfl⟩, by rw [cell_of_row _ _ _ _ _ _ h2]; rfl⟩
      have HNL : Hid (np2 ≤ 18 ∧ np4 ≤ 18) := hid (by have h1 := Hp2_7.out.1; have h2 := Hp4_7.out.1; have := HXL.out; omega)
      obtain ⟨i0, hi, hz0, hz1, hz2⟩ := info_parts infoRE
      have HI := hid (And.intro hi (And.intro hz0 (And.intro hz1 hz2)))
      clear hi hz0 hz1 hz2
      refine wp_region_growsM 12 [(10, 11, 14)] [(5, 2), (8, 2), (8, 5), (11, 2), (11, 5), (11, 8), (11, 9), (11, 10)] [EqN (.pointer (some ⟨gp2, 0, none⟩)), EqN (.bool lf), (fun x v => OwnW x v 54 w7.heap.size 0 []), EqN (.pointer (some ⟨gp2, 1, none⟩)), EqN (.slice ap2 np2 cp2), (fun x v => OwnW x v 54 w7.heap.size np2 xs), EqN (.pointer (some ⟨gp4, 1, none⟩)), EqN (.slice ap4 np4 cp4), (fun x v => OwnW x v 54 w7.heap.size (np2 + np4) (xs ++ ys)), (fun x v => AggW x v 54 w7.heap.size lf (np2 + np4) (xs ++ ys)), (fun x v => BoxZ x v 24 w7.heap.size), (fun x v => BoxW x v 24 54 w7.heap.size lf (np2 + np4) (xs ++ ys))] (by kernel_rfl) (by decide) (by kernel_rfl) (by kernel_rfl) (by kernel_rfl) ?_ ?_ ?_
      · repeat' (first | exact List.forall_mem_nil _ | refine List.forall_mem_cons.2 ⟨?_, ?_⟩)
        all_goals
          intro w w' v hw h
          first | exact h | exact OwnW.grew hw h | exact AggW.grew hw h | exact BoxZ.grew hw h | exact BoxW.grew hw h
      · simp only [AllLt]
        refine ⟨⟨⟨⟨⟨⟨⟨⟨⟨⟨⟨⟨trivial, ?_⟩, ?_⟩, ?_⟩, ?_⟩, ?_⟩, ?_⟩, ?_⟩, ?_⟩, ?_⟩, ?_⟩, ?_⟩, ?_⟩
        all_goals
          intro o' ho
          simp at ho
          subst ho
          intro ρ w5 hR hL hS hG
          obtain ⟨hl1, hl2, -⟩ := hL
        · refine plainG rfl ?_
          intro bA K Q' hK
          have e7 := hS 7 (by kernel_rfl)
          change ρ (.tmp 7) = _ at e7
          simp only [execOp]
          go_simp
          exact hK _ _ rfl (.inl (Grew.refl _)) (noPair (by decide))
        · refine plainG rfl ?_
          intro bA K Q' hK
          have e39 := hG 0 39 (by decide) (by kernel_rfl) (by kernel_rfl)
          change ρ (.tmp 39) = _ at e39
          obtain ⟨-, -, ⟨y0, y1⟩, y2⟩ := HCX.out w5 (belDrew hR)
          simp only [execOp]
          go_simp
          exact hK _ _ rfl (.inl (Grew.refl _)) (noPair (by decide))
        · refine plainG rfl ?_
          intro bA K Q' hK
          simp only [execOp]
          go_simp
          exact hK _ _ ⟨rfl, .inr ⟨_, 0, #[], rfl, hR.size, heap_alloc_new w5 _, Nat.le_refl _, Nat.zero_le _, rfl, rfl⟩⟩ (.inl ((Grew.refl _).alloc _)) (noPair (by decide))
        · refine plainG rfl ?_
          intro bA K Q' hK
          have e7 := hS 7 (by kernel_rfl)
          change ρ (.tmp 7) = _ at e7
          simp only [execOp]
          go_simp
          exact hK _ _ rfl (.inl (Grew.refl _)) (noPair (by decide))
        · refine plainG rfl ?_
          intro bA K Q' hK
          have e42 := hG 3 42 (by decide) (by kernel_rfl) (by kernel_rfl)
          change ρ (.tmp 42) = _ at e42
          obtain ⟨-, -, ⟨y0, y1⟩, y2⟩ := HCX.out w5 (belDrew hR)
          simp only [execOp]
          go_simp
          exact hK _ _ rfl (.inl (Grew.refl _)) (noPair (by decide))
        · refine plainG rfl ?_
          intro bA K Q' hK
          have e41 := hG 2 41 (by decide) (by kernel_rfl) (by kernel_rfl)
          have e43 := hG 4 43 (by decide) (by kernel_rfl) (by kernel_rfl)
          change ρ (.tmp 43) = _ at e43
          have hrow : w5.ownsRow w7.heap.size 54 3 (ρ (.tmp 41)) 0 (ecells []) := e41
          have hsz : w7.heap.size ≤ w5.heap.size := hR.size
          obtain ⟨v', w6, hr, ho', hgr⟩ := run_append_nd (P := Try.prog) w5 22 22 i0 Try.underlying22 HI.out.1 HI.out.2.1 HI.out.2.2.1 HI.out.2.2.2 hrow (HCX.out w5 (belDrew hR)).1 (by have := HNL.out; omega) hsz
          refine uponAppend (.tmp 41) (.tmp 43) 22 rfl rfl e43 hr ?_
          refine hK _ _ (show OwnW w6 v' 54 w7.heap.size np2 xs by unfold OwnW; rw [Nat.zero_add, List.nil_append] at ho'; exact ho') (.inr ⟨ownBelowB hrow hgr hsz, ?_⟩) (noPair (by decide))
          simp only [AllLt]
          refine ⟨⟨⟨⟨⟨⟨⟨⟨⟨⟨⟨⟨trivial, ?_⟩, ?_⟩, ?_⟩, ?_⟩, ?_⟩, ?_⟩, ?_⟩, ?_⟩, ?_⟩, ?_⟩, ?_⟩, ?_⟩
          · first | exact fun _ x hx => hx | exact nokeep (by kernel_rfl)
          · first | exact fun _ x hx => hx | exact nokeep (by kernel_rfl)
          · exact nokeep (by kernel_rfl)
          · first | exact fun _ x hx => hx | exact nokeep (by kernel_rfl)
          · first | exact fun _ x hx => hx | exact nokeep (by kernel_rfl)
          · exact nokeep (by kernel_rfl)
          · first | exact fun _ x hx => hx | exact nokeep (by kernel_rfl)
          · first | exact fun _ x hx => hx | exact nokeep (by kernel_rfl)
          · exact nokeep (by kernel_rfl)
          · exact nokeep (by kernel_rfl)
          · exact fun _ x hx => BoxZ.row hx e41 hgr (by decide)
          · exact nokeep (by kernel_rfl)
        · refine plainG rfl ?_
          intro bA K Q' hK
          have e8 := hS 8 (by kernel_rfl)
          change ρ (.tmp 8) = _ at e8
          simp only [execOp]
          go_simp
          exact hK _ _ rfl (.inl (Grew.refl _)) (noPair (by decide))
        · refine plainG rfl ?_
          intro bA K Q' hK
          have e45 := hG 6 45 (by decide) (by kernel_rfl) (by kernel_rfl)
          change ρ (.tmp 45) = _ at e45
          obtain ⟨-, -, ⟨y0, y1⟩, y2⟩ := HCX.out w5 (belDrew hR)
          simp only [execOp]
          go_simp
          exact hK _ _ rfl (.inl (Grew.refl _)) (noPair (by decide))
        · refine plainG rfl ?_
          intro bA K Q' hK
          have e44 := hG 5 44 (by decide) (by kernel_rfl) (by kernel_rfl)
          have e46 := hG 7 46 (by decide) (by kernel_rfl) (by kernel_rfl)
          change ρ (.tmp 46) = _ at e46
          have hrow : w5.ownsRow w7.heap.size 54 3 (ρ (.tmp 44)) np2 (ecells xs) := e44
          have hsz : w7.heap.size ≤ w5.heap.size := hR.size
          obtain ⟨v', w6, hr, ho', hgr⟩ := run_append_nd (P := Try.prog) w5 22 22 i0 Try.underlying22 HI.out.1 HI.out.2.1 HI.out.2.2.1 HI.out.2.2.2 hrow (HCX.out w5 (belDrew hR)).2.1 (by have := HNL.out; omega) hsz
          refine uponAppend (.tmp 44) (.tmp 46) 22 rfl rfl e46 hr ?_
          refine hK _ _ ho' (.inr ⟨ownBelowB hrow hgr hsz, ?_⟩) (noPair (by decide))
          simp only [AllLt]
          refine ⟨⟨⟨⟨⟨⟨⟨⟨⟨⟨⟨⟨trivial, ?_⟩, ?_⟩, ?_⟩, ?_⟩, ?_⟩, ?_⟩, ?_⟩, ?_⟩, ?_⟩, ?_⟩, ?_⟩, ?_⟩
          · first | exact fun _ x hx => hx | exact nokeep (by kernel_rfl)
          · first | exact fun _ x hx => hx | exact nokeep (by kernel_rfl)
          · exact nokeep (by kernel_rfl)
          · first | exact fun _ x hx => hx | exact nokeep (by kernel_rfl)
          · first | exact fun _ x hx => hx | exact nokeep (by kernel_rfl)
          · exact nokeep (by kernel_rfl)
          · first | exact fun _ x hx => hx | exact nokeep (by kernel_rfl)
          · first | exact fun _ x hx => hx | exact nokeep (by kernel_rfl)
          · exact nokeep (by kernel_rfl)
          · exact nokeep (by kernel_rfl)
          · exact fun _ x hx => BoxZ.row hx e44 hgr (by decide)
          · exact nokeep (by kernel_rfl)
        · refine plainG rfl ?_
          intro bA K Q' hK
          have e40 := hG 1 40 (by decide) (by kernel_rfl) (by kernel_rfl)
          have e47 := hG 8 47 (by decide) (by kernel_rfl) (by kernel_rfl)
          change ρ (.tmp 40) = _ at e40
          have hrow : w5.ownsRow w7.heap.size 54 3 (ρ (.tmp 47)) (np2 + np4) (ecells (xs ++ ys)) := e47
          obtain ⟨a8, c8, e8, -⟩ := owned_sl' hrow
          simp only [execOp]
          go_simp
          try simp only [e8]
          exact hK _ _ ⟨_, rfl, by rw [← e8]; exact hrow⟩ (.inl (Grew.refl _)) (noPair (by decide))
        · refine plainG rfl ?_
          intro bA K Q' hK
          simp only [execOp]
          go_simp
          exact hK _ _ ⟨_, rfl, hR.size, heap_alloc_new w5 _⟩ (.inl ((Grew.refl _).alloc _)) (noPair (by decide))
        · refine plainG rfl ?_
          intro bA K Q' hK
          have e14 := hG 10 14 (by decide) (by kernel_rfl) (by kernel_rfl)
          have e48 := hG 9 48 (by decide) (by kernel_rfl) (by kernel_rfl)
          obtain ⟨gz, e14, hgz, hrz⟩ := e14
          obtain ⟨rz, e48, hrow⟩ := e48
          obtain ⟨a8, c8, e8, -⟩ := owned_sl' hrow
          refine upon_store_own 24 (.tmp 14) (.tmp 48) rfl gz #[.bool lf, rz] e14 e48 24 _ hrz (by kernel_rfl) rfl (by rw [e8]; simp [Value.oneCell']) ?_
          intro w3 hr3 hg3
          refine hK (.pointer (some ⟨gz, 0, none⟩)) _ ⟨gz, rz, rfl, hgz, hr3, hrow.kept hg3 (.inr (rowNot (by decide) hrow hrz))⟩ (.inr ⟨grown_is_below hg3 hgz hR.size, ?_⟩) ?_
          · simp only [AllLt]
            refine ⟨⟨⟨⟨⟨⟨⟨⟨⟨⟨⟨⟨trivial, ?_⟩, ?_⟩, ?_⟩, ?_⟩, ?_⟩, ?_⟩, ?_⟩, ?_⟩, ?_⟩, ?_⟩, ?_⟩, ?_⟩
            · first | exact fun _ x hx => hx | exact nokeep (by kernel_rfl)
            · first | exact fun _ x hx => hx | exact nokeep (by kernel_rfl)
            · exact nokeep (by kernel_rfl)
            · first | exact fun _ x hx => hx | exact nokeep (by kernel_rfl)
            · first | exact fun _ x hx => hx | exact nokeep (by kernel_rfl)
            · exact nokeep (by kernel_rfl)
            · first | exact fun _ x hx => hx | exact nokeep (by kernel_rfl)
            · first | exact fun _ x hx => hx | exact nokeep (by kernel_rfl)
            · exact nokeep (by kernel_rfl)
            · exact nokeep (by kernel_rfl)
            · exact nokeep (by kernel_rfl)
            · exact nokeep (by kernel_rfl)
          · intro y hy hw
            simp at hy
            subst hy
            exact e14
      · skip
        intro vv w8 hB hG hDD
        simp only [AllLt] at hG
        obtain ⟨gp14, r, q8, -, hr, hrow⟩ := hG.2 (by decide)
        have q7 : vv 10 = _ := (hDD (10, 11, 14) (by simp)).trans q8
        have hb := belDrew hB
        have hfit : ∀ e ∈ xs ++ ys, fitsE e := fun e he => by
          rcases List.mem_append.1 he with h | h
          · exact Hp2_7.out.2.2.2.1 e h
          · exact Hp4_7.out.2.2.2.1 e h
        obtain ⟨ap14, cp14, rfl, hnd⟩ := owned_nd' hrow (by have := HNL.out; omega) hfit
        obtain ⟨np14, hn14⟩ : ∃ n, n = np2 + np4 := ⟨_, rfl⟩
        rw [← hn14] at hr hnd
        clear hG hDD hB q8 HCX hrow hfit hn14
        have p1_8 := hid (row_below p1_7.out hb)
        clear p1_7
        have Hp1_8 := hid (Hp1_7.out.below hb)
        clear Hp1_7
        have p3_8 := hid (row_below p3_7.out hb)
        clear p3_7
        have Hp3_8 := hid (Hp3_7.out.below hb)
        clear Hp3_7
        have p2_8 := hid (row_below p2_7.out hb)
        clear p2_7
        have Hp2_8 := hid (Hp2_7.out.below hb)
        clear Hp2_7
        have p4_8 := hid (row_below p4_7.out hb)
        clear p4_7
        have Hp4_8 := hid (Hp4_7.out.below hb)
        clear Hp4_7
        have HNp9_8 : Hid (Sp = 0 → l5 = lf ∧ NdOk w8 a5 n5 c5 (xs.take (xs.length / 2))) := hid (fun hp => ⟨(HNp9_7.out hp).1, (HNp9_7.out hp).2.below hb⟩)
        clear HNp9_7
        have HNp10_8 : Hid (Sp = 0 → l6 = lf ∧ NdOk w8 a6 n6 c6 (xs.drop (xs.length / 2))) := hid (fun hp => ⟨(HNp10_7.out hp).1, (HNp10_7.out hp).2.below hb⟩)
        clear HNp10_7
        have p9_8 := hid (row_below p9_7.out hb)
        clear p9_7
        have p10_8 := hid (row_below p10_7.out hb)
        clear p10_7
        have HNp12_8 : Hid (Mg = 0 → l7 = lf ∧ NdOk w8 a7 n7 c7 (xs ++ ys)) := hid (fun hp => ⟨(HNp12_7.out hp).1, (HNp12_7.out hp).2.below hb⟩)
        clear HNp12_7
        have p12_8 := hid (row_below p12_7.out hb)
        clear p12_7
        have HB_8 : Hid (Below W.heap.size W w8) := hid (HB_7.out.trans ((hb).mono HB_7.out.size))
        clear HB_7
        have p14_8 := hid hr
        have Hp14_8 := hid hnd
        clear hr hnd hb
        simp [stG, stU, dstAt, Act.put, q7]
        clear q7
        go_upto_region 6 with fail
        rcases (show Hid (chkN lf xs = 0 ∧ chkN mf ys = 0 ∧ lf = mf ∧ 16 < (xs ++ ys).length) ∨ Hid (chkN lf xs = 0 ∧ chkN mf ys = 0 ∧ lf = mf ∧ (xs ++ ys).length ≤ 16 ∧ chkN lf (xs ++ ys) ≠ 0) ∨ Hid (chkN lf xs = 0 ∧ chkN mf ys = 0 ∧ lf = mf ∧ (xs ++ ys).length ≤ 16 ∧ chkN lf (xs ++ ys) = 0) by
          obtain ⟨h1, h2, h3⟩ := HCS.out
          by_cases h4 : 16 < (xs ++ ys).length
          · exact .inl (hid ⟨h1, h2, h3, h4⟩)
          · by_cases h5 : chkN lf (xs ++ ys) = 0
            · exact .inr (.inr (hid ⟨h1, h2, h3, by omega, h5⟩))
            · exact .inr (.inl (hid ⟨h1, h2, h3, by omega, h5⟩))) with hc | hc | hc
        · clear HNp12_8
          have hLM : (lf != mf) = false := by rw [hc.out.2.2.1]; simp
          have hLM2 : (lf == mf) = true := by rw [hc.out.2.2.1]; simp
          have hLM3 : (lf = mf) = True := eq_true hc.out.2.2.1
          have hLM4 : (!(lf == mf)) = false := by rw [hLM2]; rfl
          obtain rfl : Mg = 6 := HSM.out.2.trans (mg_d' hc.out.1 hc.out.2.1 hc.out.2.2.1 hc.out.2.2.2)
          have hl1 : (16 : Int) < np14 := by have := Hp14_8.out.1; have := hc.out.2.2.2; omega
          have hl2 : decide ((16 : Int) < np14) = true := decide_eq_true hl1
          have hc0p2 : w8.cell? ⟨gp2, 0, none⟩ = some (.bool lf) := by rw [cell_of_row _ _ _ _ _ _ p2_8.out]; rfl
          have hc1p2 : w8.cell? ⟨gp2, 1, none⟩ = some (.slice ap2 np2 cp2) := by rw [cell_of_row _ _ _ _ _ _ p2_8.out]; rfl
          go_wp2_with fail
          clear hc0p2 hc1p2
          have h := chk_x lf Hp2_8.out
          rw [hc.out.1] at h
          have HCK := hid h
          clear h
          refine (HCK.out).mono ?_
          rintro e w9 ⟨rfl, hb⟩
          have p1_9 := hid (row_below p1_8.out hb)
          clear p1_8
          have Hp1_9 := hid (Hp1_8.out.below hb)
          clear Hp1_8
          have p3_9 := hid (row_below p3_8.out hb)
          clear p3_8
          have Hp3_9 := hid (Hp3_8.out.below hb)
          clear Hp3_8
          have p2_9 := hid (row_below p2_8.out hb)
          clear p2_8
          have Hp2_9 := hid (Hp2_8.out.below hb)
          clear Hp2_8
          have p4_9 := hid (row_below p4_8.out hb)
          clear p4_8
          have Hp4_9 := hid (Hp4_8.out.below hb)
          clear Hp4_8
          have HNp9_9 : Hid (Sp = 0 → l5 = lf ∧ NdOk w9 a5 n5 c5 (xs.take (xs.length / 2))) := hid (fun hp => ⟨(HNp9_8.out hp).1, (HNp9_8.out hp).2.below hb⟩)
          clear HNp9_8
          have HNp10_9 : Hid (Sp = 0 → l6 = lf ∧ NdOk w9 a6 n6 c6 (xs.drop (xs.length / 2))) := hid (fun hp => ⟨(HNp10_8.out hp).1, (HNp10_8.out hp).2.below hb⟩)
          clear HNp10_8
          have p9_9 := hid (row_below p9_8.out hb)
          clear p9_8
          have p10_9 := hid (row_below p10_8.out hb)
          clear p10_8
          have p12_9 := hid (row_below p12_8.out hb)
          clear p12_8
          have p14_9 := hid (row_below p14_8.out hb)
          clear p14_8
          have Hp14_9 := hid (Hp14_8.out.below hb)
          clear Hp14_8
          have HB_9 : Hid (Below W.heap.size W w9) := hid (HB_8.out.trans ((hb).mono HB_8.out.size))
          clear HB_8
          clear hb
          clear HCK
          have hc0p4 : w9.cell? ⟨gp4, 0, none⟩ = some (.bool mf) := by rw [cell_of_row _ _ _ _ _ _ p4_9.out]; rfl
          have hc1p4 : w9.cell? ⟨gp4, 1, none⟩ = some (.slice ap4 np4 cp4) := by rw [cell_of_row _ _ _ _ _ _ p4_9.out]; rfl
          go_wp2_with fail
          clear hc0p4 hc1p4
          have h := chk_x mf Hp4_9.out
          rw [hc.out.2.1] at h
          have HCK := hid h
          clear h
          refine (HCK.out).mono ?_
          rintro e w10 ⟨rfl, hb⟩
          have p1_10 := hid (row_below p1_9.out hb)
          clear p1_9
          have Hp1_10 := hid (Hp1_9.out.below hb)
          clear Hp1_9
          have p3_10 := hid (row_below p3_9.out hb)
          clear p3_9
          have Hp3_10 := hid (Hp3_9.out.below hb)
          clear Hp3_9
          have p2_10 := hid (row_below p2_9.out hb)
          clear p2_9
          have Hp2_10 := hid (Hp2_9.out.below hb)
          clear Hp2_9
          have p4_10 := hid (row_below p4_9.out hb)
          clear p4_9
          have Hp4_10 := hid (Hp4_9.out.below hb)
          clear Hp4_9
          have HNp9_10 : Hid (Sp = 0 → l5 = lf ∧ NdOk w10 a5 n5 c5 (xs.take (xs.length / 2))) := hid (fun hp => ⟨(HNp9_9.out hp).1, (HNp9_9.out hp).2.below hb⟩)
          clear HNp9_9
          have HNp10_10 : Hid (Sp = 0 → l6 = lf ∧ NdOk w10 a6 n6 c6 (xs.drop (xs.length / 2))) := hid (fun hp => ⟨(HNp10_9.out hp).1, (HNp10_9.out hp).2.below hb⟩)
          clear HNp10_9
          have p9_10 := hid (row_below p9_9.out hb)
          clear p9_9
          have p10_10 := hid (row_below p10_9.out hb)
          clear p10_9
          have p12_10 := hid (row_below p12_9.out hb)
          clear p12_9
          have p14_10 := hid (row_below p14_9.out hb)
          clear p14_9
          have Hp14_10 := hid (Hp14_9.out.below hb)
          clear Hp14_9
          have HB_10 : Hid (Below W.heap.size W w10) := hid (HB_9.out.trans ((hb).mono HB_9.out.size))
          clear HB_9
          clear hb
          clear HCK
          have hc0p2 : w10.cell? ⟨gp2, 0, none⟩ = some (.bool lf) := by rw [cell_of_row _ _ _ _ _ _ p2_10.out]; rfl
          have hc1p2 : w10.cell? ⟨gp2, 1, none⟩ = some (.slice ap2 np2 cp2) := by rw [cell_of_row _ _ _ _ _ _ p2_10.out]; rfl
          have hc0p4 : w10.cell? ⟨gp4, 0, none⟩ = some (.bool mf) := by rw [cell_of_row _ _ _ _ _ _ p4_10.out]; rfl
          have hc1p4 : w10.cell? ⟨gp4, 1, none⟩ = some (.slice ap4 np4 cp4) := by rw [cell_of_row _ _ _ _ _ _ p4_10.out]; rfl
          have hc0p14 : w10.cell? ⟨gp14, 0, none⟩ = some (.bool lf) := by rw [cell_of_row _ _ _ _ _ _ p14_10.out]; rfl
          have hc1p14 : w10.cell? ⟨gp14, 1, none⟩ = some (.slice ap14 np14 cp14) := by rw [cell_of_row _ _ _ _ _ _ p14_10.out]; rfl
          go_upto_region 15 with fail
          clear hc0p2 hc1p2 hc0p4 hc1p4 hc0p14 hc1p14
          refine wp_region_grows 14 [EqN (.int .i64 6), EqN (.int .i64 6), EqN (.bool false), EqN (.bool false), EqN (.int .i64 6), EqN (.bool false), EqN (.bool false), EqN (undef), EqN (undef), EqN (undef), EqN (undef), EqN (undef), EqN (.bool false), EqN (.bool false)] (by kernel_rfl) (by decide) (by kernel_rfl) ?_ ?_ ?_
          · repeat' (first | exact List.forall_mem_nil _ | refine List.forall_mem_cons.2 ⟨?_, ?_⟩)
            all_goals
              intro w w' v hw h
              first | exact h | exact NdV.grew hw h
          · simp only [AllLt]
            refine ⟨⟨⟨⟨⟨⟨⟨⟨⟨⟨⟨⟨⟨⟨trivial, ?_⟩, ?_⟩, ?_⟩, ?_⟩, ?_⟩, ?_⟩, ?_⟩, ?_⟩, ?_⟩, ?_⟩, ?_⟩, ?_⟩, ?_⟩, ?_⟩
            all_goals
              intro o' ho
              simp at ho
              subst ho
              intro ρ w5 hR hL hS hG
              obtain ⟨hl1, hl2, -⟩ := hL
            · refine plainG rfl ?_
              intro bA K Q' hK
              have e13 := hS 13 (by kernel_rfl)
              change ρ (.tmp 13) = _ at e13
              simp only [execOp]
              go_simp
              exact hK _ _ rfl (Grew.refl _)
            · refine plainG rfl ?_
              intro bA K Q' hK
              have e15 := hS 15 (by kernel_rfl)
              change ρ (.tmp 15) = _ at e15
              simp only [execOp]
              go_simp
              exact hK _ _ rfl (Grew.refl _)
            · refine plainG rfl ?_
              intro bA K Q' hK
              have e76 := hG 0 76 (by decide) (by kernel_rfl) (by kernel_rfl)
              have e77 := hG 1 77 (by decide) (by kernel_rfl) (by kernel_rfl)
              change ρ (.tmp 76) = _ at e76
              change ρ (.tmp 77) = _ at e77
              simp only [execOp]
              go_simp
              exact hK _ _ rfl (Grew.refl _)
            · refine plainG rfl ?_
              intro bA K Q' hK
              have e78 := hG 2 78 (by decide) (by kernel_rfl) (by kernel_rfl)
              change ρ (.tmp 78) = _ at e78
              simp only [execOp]
              go_simp
              exact hK _ _ rfl (Grew.refl _)
            · have eG : ρ (.tmp 79) = _ := hG 3 79 (by decide) (by kernel_rfl) (by kernel_rfl)
              refine onG rfl (by kernel_rfl) eG ?_
              intro bA K Q' hK
              have e15 := hS 15 (by kernel_rfl)
              change ρ (.tmp 15) = _ at e15
              simp only [execOp]
              go_simp
              exact hK _ _ rfl (Grew.refl _)
            · have eG : ρ (.tmp 79) = _ := hG 3 79 (by decide) (by kernel_rfl) (by kernel_rfl)
              refine onG rfl (by kernel_rfl) eG ?_
              intro bA K Q' hK
              have e80 := hG 4 80 (by decide) (by kernel_rfl) (by kernel_rfl)
              change ρ (.tmp 80) = _ at e80
              simp only [execOp]
              go_simp
              exact hK _ _ rfl (Grew.refl _)
            · have eG : ρ (.tmp 79) = _ := hG 3 79 (by decide) (by kernel_rfl) (by kernel_rfl)
              refine onG rfl (by kernel_rfl) eG ?_
              intro bA K Q' hK
              have e81 := hG 5 81 (by decide) (by kernel_rfl) (by kernel_rfl)
              change ρ (.tmp 81) = _ at e81
              simp only [execOp]
              go_simp
              exact hK _ _ rfl (Grew.refl _)
            · have eG : ρ (.tmp 82) = _ := hG 6 82 (by decide) (by kernel_rfl) (by kernel_rfl)
              exact offG rfl (by kernel_rfl) eG rfl rfl
            · have eG : ρ (.tmp 82) = _ := hG 6 82 (by decide) (by kernel_rfl) (by kernel_rfl)
              exact offG rfl (by kernel_rfl) eG rfl rfl
            · have eG : ρ (.tmp 82) = _ := hG 6 82 (by decide) (by kernel_rfl) (by kernel_rfl)
              exact offG rfl (by kernel_rfl) eG rfl rfl
            · have eG : ρ (.tmp 82) = _ := hG 6 82 (by decide) (by kernel_rfl) (by kernel_rfl)
              exact offG rfl (by kernel_rfl) eG rfl rfl
            · have eG : ρ (.tmp 82) = _ := hG 6 82 (by decide) (by kernel_rfl) (by kernel_rfl)
              exact offG rfl (by kernel_rfl) eG rfl rfl
            · have eG : ρ (.tmp 79) = _ := hG 3 79 (by decide) (by kernel_rfl) (by kernel_rfl)
              refine onG rfl (by kernel_rfl) eG ?_
              intro bA K Q' hK
              have e82 := hG 6 82 (by decide) (by kernel_rfl) (by kernel_rfl)
              have e87 := hG 11 87 (by decide) (by kernel_rfl) (by kernel_rfl)
              change ρ (.tmp 82) = _ at e82
              change ρ (.tmp 87) = _ at e87
              simp only [execOp]
              go_simp
              exact hK _ _ rfl (Grew.refl _)
            · refine plainG rfl ?_
              intro bA K Q' hK
              have e79 := hG 3 79 (by decide) (by kernel_rfl) (by kernel_rfl)
              have e88 := hG 12 88 (by decide) (by kernel_rfl) (by kernel_rfl)
              change ρ (.tmp 79) = _ at e79
              change ρ (.tmp 88) = _ at e88
              simp only [execOp]
              go_simp
              exact hK _ _ rfl (Grew.refl _)
          · skip
            intro vv w11 hR hG
            have h9 : vv 13 = .bool false := hG.2
            have hb := grewDrew hR
            clear hG hR
            have p1_11 := hid (row_below p1_10.out hb)
            clear p1_10
            have Hp1_11 := hid (Hp1_10.out.below hb)
            clear Hp1_10
            have p3_11 := hid (row_below p3_10.out hb)
            clear p3_10
            have Hp3_11 := hid (Hp3_10.out.below hb)
            clear Hp3_10
            have p2_11 := hid (row_below p2_10.out hb)
            clear p2_10
            have Hp2_11 := hid (Hp2_10.out.below hb)
            clear Hp2_10
            have p4_11 := hid (row_below p4_10.out hb)
            clear p4_10
            have Hp4_11 := hid (Hp4_10.out.below hb)
            clear Hp4_10
            have HNp9_11 : Hid (Sp = 0 → l5 = lf ∧ NdOk w11 a5 n5 c5 (xs.take (xs.length / 2))) := hid (fun hp => ⟨(HNp9_10.out hp).1, (HNp9_10.out hp).2.below hb⟩)
            clear HNp9_10
            have HNp10_11 : Hid (Sp = 0 → l6 = lf ∧ NdOk w11 a6 n6 c6 (xs.drop (xs.length / 2))) := hid (fun hp => ⟨(HNp10_10.out hp).1, (HNp10_10.out hp).2.below hb⟩)
            clear HNp10_10
            have p9_11 := hid (row_below p9_10.out hb)
            clear p9_10
            have p10_11 := hid (row_below p10_10.out hb)
            clear p10_10
            have p12_11 := hid (row_below p12_10.out hb)
            clear p12_10
            have p14_11 := hid (row_below p14_10.out hb)
            clear p14_10
            have Hp14_11 := hid (Hp14_10.out.below hb)
            clear Hp14_10
            have HB_11 : Hid (Below W.heap.size W w11) := hid (HB_10.out.trans ((hb).mono HB_10.out.size))
            clear HB_10
            clear hb
            simp [stG, stU, dstAt, Act.put, h9]
            clear h9
            have hc0p2 : w11.cell? ⟨gp2, 0, none⟩ = some (.bool lf) := by rw [cell_of_row _ _ _ _ _ _ p2_11.out]; rfl
            have hc1p2 : w11.cell? ⟨gp2, 1, none⟩ = some (.slice ap2 np2 cp2) := by rw [cell_of_row _ _ _ _ _ _ p2_11.out]; rfl
            go_wp2_with fail
            clear hc0p2 hc1p2
            have h := chk_x lf Hp2_11.out
            rw [hc.out.1] at h
            have HCK := hid h
            clear h
            refine (HCK.out).mono ?_
            rintro e w12 ⟨rfl, hb⟩
            have p1_12 := hid (row_below p1_11.out hb)
            clear p1_11
            have Hp1_12 := hid (Hp1_11.out.below hb)
            clear Hp1_11
            have p3_12 := hid (row_below p3_11.out hb)
            clear p3_11
            have Hp3_12 := hid (Hp3_11.out.below hb)
            clear Hp3_11
            have p2_12 := hid (row_below p2_11.out hb)
            clear p2_11
            have Hp2_12 := hid (Hp2_11.out.below hb)
            clear Hp2_11
            have p4_12 := hid (row_below p4_11.out hb)
            clear p4_11
            have Hp4_12 := hid (Hp4_11.out.below hb)
            clear Hp4_11
            have HNp9_12 : Hid (Sp = 0 → l5 = lf ∧ NdOk w12 a5 n5 c5 (xs.take (xs.length / 2))) := hid (fun hp => ⟨(HNp9_11.out hp).1, (HNp9_11.out hp).2.below hb⟩)
            clear HNp9_11
            have HNp10_12 : Hid (Sp = 0 → l6 = lf ∧ NdOk w12 a6 n6 c6 (xs.drop (xs.length / 2))) := hid (fun hp => ⟨(HNp10_11.out hp).1, (HNp10_11.out hp).2.below hb⟩)
            clear HNp10_11
            have p9_12 := hid (row_below p9_11.out hb)
            clear p9_11
            have p10_12 := hid (row_below p10_11.out hb)
            clear p10_11
            have p12_12 := hid (row_below p12_11.out hb)
            clear p12_11
            have p14_12 := hid (row_below p14_11.out hb)
            clear p14_11
            have Hp14_12 := hid (Hp14_11.out.below hb)
            clear Hp14_11
            have HB_12 : Hid (Below W.heap.size W w12) := hid (HB_11.out.trans ((hb).mono HB_11.out.size))
            clear HB_11
            clear hb
            clear HCK
            have hc0p2 : w12.cell? ⟨gp2, 0, none⟩ = some (.bool lf) := by rw [cell_of_row _ _ _ _ _ _ p2_12.out]; rfl
            have hc1p2 : w12.cell? ⟨gp2, 1, none⟩ = some (.slice ap2 np2 cp2) := by rw [cell_of_row _ _ _ _ _ _ p2_12.out]; rfl
            go_upto_region 19 with fail
            obtain ⟨k, hk⟩ : ∃ k, k = np2 / 2 := ⟨_, rfl⟩
            have HKK := hid hk
            have hq1 : (np2 : Int) / 2 = (k : Int) := by omega
            have hq2 : Int.tdiv (np2 : Int) 2 = (k : Int) := by rw [Int.tdiv_eq_ediv_of_nonneg (by omega)]; exact hq1
            have hn18 : (np2 : Int) ≤ 18 := by have := Hp2_12.out.1; have := HXL.out; omega
            have hk9 : (k : Int) ≤ 9 := by omega
            clear hk
            go_upto_region 20 with fail
            clear hq1 hq2
            clear hc0p2 hc1p2
            by_cases hk0 : k = 0
            · have hz1 : ((k : Int) == 0) = true := by rw [hk0]; rfl
              have hz2 : (k = 0) = True := eq_true hk0
              obtain rfl : Sp = 11 := HSM.out.1.trans (sp_b hc.out.1 (by have h1 := Hp2_12.out.1; have h2 := HKK.out; omega))
              clear hk0
              clear HNp9_12
              clear HNp10_12
              go_wp2_with fail
              refine (known_any HP.out _).mono ?_
              rintro e w13 ⟨rfl, hb⟩
              have p1_13 := hid (row_below p1_12.out hb)
              clear p1_12
              have Hp1_13 := hid (Hp1_12.out.below hb)
              clear Hp1_12
              have p3_13 := hid (row_below p3_12.out hb)
              clear p3_12
              have Hp3_13 := hid (Hp3_12.out.below hb)
              clear Hp3_12
              have p2_13 := hid (row_below p2_12.out hb)
              clear p2_12
              have Hp2_13 := hid (Hp2_12.out.below hb)
              clear Hp2_12
              have p4_13 := hid (row_below p4_12.out hb)
              clear p4_12
              have Hp4_13 := hid (Hp4_12.out.below hb)
              clear Hp4_12
              have p9_13 := hid (row_below p9_12.out hb)
              clear p9_12
              have p10_13 := hid (row_below p10_12.out hb)
              clear p10_12
              have p12_13 := hid (row_below p12_12.out hb)
              clear p12_12
              have p14_13 := hid (row_below p14_12.out hb)
              clear p14_12
              have Hp14_13 := hid (Hp14_12.out.below hb)
              clear Hp14_12
              have HB_13 : Hid (Below W.heap.size W w13) := hid (HB_12.out.trans ((hb).mono HB_12.out.size))
              clear HB_12
              clear hb
              go_wp2_with fail
              go_ret
              exact ⟨rfl, HB_13.out⟩
            · have hz1 : ((k : Int) == 0) = false := by rw [beq_eq_false_iff_ne]; omega
              have hz2 : (k = 0) = False := eq_false hk0
              have hlen : 2 ≤ xs.length := by have h1 := Hp2_12.out.1; have h2 := HKK.out; omega
              have hkx : xs.length / 2 = k := by have h1 := Hp2_12.out.1; have h2 := HKK.out; omega
              obtain rfl : Sp = 0 := HSM.out.1.trans (sp_c hc.out.1 hlen)
              have h5 := HNp9_12.out rfl
              have h6 := HNp10_12.out rfl
              rw [hkx] at h5 h6
              clear HNp9_12 HNp10_12
              obtain ⟨e5, h5⟩ := h5
              obtain ⟨e6, h6⟩ := h6
              have e5 := e5.symm
              have e6 := e6.symm
              subst e5
              subst e6
              have Hp9_12 := hid h5
              have Hp10_12 := hid h6
              have hkn : (k : Int) < np2 := by have h1 := Hp2_12.out.1; have h2 := HKK.out; omega
              have hnc2 : (np2 : Int) ≤ cp2 := by have h1 := Hp2_12.out.2.2.2.2.1.1; omega
              have hkc : (k : Int) ≤ cp2 := by omega
              have hkle : (k : Int) ≤ np2 := by omega
              have HKB : Hid (0 < k ∧ k < xs.length ∧ k = xs.length / 2) := hid ⟨by omega, by omega, hkx.symm⟩
              obtain ⟨bb, oo, hap, -⟩ := Hp2_12.out.2.1.cell (i := 0) (by omega)
              subst hap
              obtain ⟨ob, hob⟩ : ∃ ob, oo + k * 3 = ob := ⟨_, rfl⟩
              obtain ⟨nb, hnb⟩ : ∃ nb, np2 - k = nb := ⟨_, rfl⟩
              obtain ⟨cb, hcb⟩ : ∃ cb, cp2 - k = cb := ⟨_, rfl⟩
              have hck : (cp2 = k) = False := eq_false (by omega)
              have HAB := hid (And.intro hob (And.intro hnb (And.intro hcb hck)))
              have HML : Hid (∀ y, NdOk y a5 n5 c5 (xs.take k) → NdOk y a6 n6 c6 (xs.drop k) → Calls Try.prog 31 #[.agg #[.bool lf, .slice a5 n5 c5], .agg #[.bool lf, .slice a6 n6 c6]] y fun e w' => (∃ v, e = .returned (.tuple #[v, .int .i64 0]) ∧ NdF v ∧ NdV w' v lf xs) ∧ Below y.heap.size y w') := hid fun y h1 h2 => by
                have h0 : mgE lf (xs.take k) lf (xs.drop k) = 0 := merge_back hc.out.1 (by omega) (by omega)
                have h := HP.out.nMerge a5 a6 n5 n6 c5 c6 lf lf (xs.take k) (xs.drop k) y h1 h2
                rw [h0, List.take_append_drop] at h
                refine h.mono ?_
                rintro e w' ⟨⟨v, h3, h4, h5⟩, hb⟩
                exact ⟨⟨v, h3, h4, h5 rfl⟩, hb⟩
              clear h5 h6 hlen hkx hk0 hob hnb hcb hck
              clear p4_12
              clear p14_12
              clear Hp14_12
              clear Hp4_12
              clear p12_12
              have hc0p9 : w12.cell? ⟨gp9, 0, none⟩ = some (.bool lf) := by rw [cell_of_row _ _ _ _ _ _ p9_12.out]; rfl
              have hc1p9 : w12.cell? ⟨gp9, 1, none⟩ = some (.slice a5 n5 c5) := by rw [cell_of_row _ _ _ _ _ _ p9_12.out]; rfl
              have hc0p10 : w12.cell? ⟨gp10, 0, none⟩ = some (.bool lf) := by rw [cell_of_row _ _ _ _ _ _ p10_12.out]; rfl
              have hc1p10 : w12.cell? ⟨gp10, 1, none⟩ = some (.slice a6 n6 c6) := by rw [cell_of_row _ _ _ _ _ _ p10_12.out]; rfl
              go_wp2_with fail
              clear hc0p9 hc1p9 hc0p10 hc1p10
              refine (HML.out _ Hp9_12.out Hp10_12.out).mono ?_
              rintro e w13 ⟨⟨v, rfl, ⟨l8, a8, n8, c8, rfl⟩, hh⟩, hb⟩
              have p1_13 := hid (row_below p1_12.out hb)
              clear p1_12
              have Hp1_13 := hid (Hp1_12.out.below hb)
              clear Hp1_12
              have p3_13 := hid (row_below p3_12.out hb)
              clear p3_12
              have Hp3_13 := hid (Hp3_12.out.below hb)
              clear Hp3_12
              have p2_13 := hid (row_below p2_12.out hb)
              clear p2_12
              have Hp2_13 := hid (Hp2_12.out.below hb)
              clear Hp2_12
              have p9_13 := hid (row_below p9_12.out hb)
              clear p9_12
              have p10_13 := hid (row_below p10_12.out hb)
              clear p10_12
              have Hp9_13 := hid (Hp9_12.out.below hb)
              clear Hp9_12
              have Hp10_13 := hid (Hp10_12.out.below hb)
              clear Hp10_12
              have HB_13 : Hid (Below W.heap.size W w13) := hid (HB_12.out.trans ((hb).mono HB_12.out.size))
              clear HB_12
              clear hb
              clear HML
              have h8 := ndv_imp hh
              clear hh
              obtain ⟨e8, h8⟩ := h8
              have e8 := e8.symm
              subst e8
              have Hp17_13 := hid h8
              clear h8
              obtain ⟨w14, hw14⟩ : ∃ y, y = w13.alloc (.cells #[.bool lf, .slice a8 n8 c8] 27) := ⟨_, rfl⟩
              have hb : Below w13.heap.size w13 w14 := by rw [hw14]; exact allocBelow w13 _
              obtain ⟨gp17, hgp17⟩ : ∃ g, g = w13.heap.size := ⟨_, rfl⟩
              have hr : w14.heap[gp17]? = some (.cells #[.bool lf, .slice a8 n8 c8] 27 (0, 0)) := by rw [hw14, hgp17]; exact heap_alloc_new w13 _
              have HW := hid hw14
              have HGG := hid hgp17
              clear hw14 hgp17
              have p1_14 := hid (row_below p1_13.out hb)
              clear p1_13
              have Hp1_14 := hid (Hp1_13.out.below hb)
              clear Hp1_13
              have p3_14 := hid (row_below p3_13.out hb)
              clear p3_13
              have Hp3_14 := hid (Hp3_13.out.below hb)
              clear Hp3_13
              have p2_14 := hid (row_below p2_13.out hb)
              clear p2_13
              have Hp2_14 := hid (Hp2_13.out.below hb)
              clear Hp2_13
              have p9_14 := hid (row_below p9_13.out hb)
              clear p9_13
              have p10_14 := hid (row_below p10_13.out hb)
              clear p10_13
              have Hp9_14 := hid (Hp9_13.out.below hb)
              clear Hp9_13
              have Hp10_14 := hid (Hp10_13.out.below hb)
              clear Hp10_13
              have Hp17_14 := hid (Hp17_13.out.below hb)
              clear Hp17_13
              have HB_14 : Hid (Below W.heap.size W w14) := hid (HB_13.out.trans ((hb).mono HB_13.out.size))
              clear HB_13
              have p17_14 := hid hr
              clear hr hb
              go_upto_region 23 with fail
              rw [← HW.out, ← HGG.out]
              clear HW HGG
              have HCX : Hid (∀ x, Grew w14.drew x → (NdOk x a5 n5 c5 (xs.take k) ∧ NdOk x a6 n6 c6 (xs.drop k)) ∧ (NdOk x (some ⟨bb, oo, none⟩) k cp2 (xs.take k) ∧ NdOk x (some ⟨bb, ob, none⟩) nb cb (xs.drop k)) ∧ NdOk x a8 n8 c8 xs ∧ NdOk x ap1 np1 cp1 xs) := hid fun x hx => by
                have hb := grewDrew hx
                have h2 := Hp2_14.out.below hb
                obtain ⟨k1, k2, k3⟩ := HKB.out
                obtain ⟨m1, m2, m3, -⟩ := HAB.out
                have hn2 := h2.1
                obtain ⟨-, s2, s3, s4, ⟨s5, s6⟩, -⟩ := h2
                refine ⟨⟨Hp9_14.out.below hb, Hp10_14.out.below hb⟩, ⟨⟨by rw [List.length_take]; omega, s2.front k, by omega, fun e he => s4 e (List.mem_of_mem_take he), ⟨by omega, s6⟩, fun h => by cases h⟩, ⟨by rw [List.length_drop]; omega, s2.back k _ fun _ => ?_, by omega, fun e he => s4 e (List.mem_of_mem_drop he), ⟨by omega, by omega⟩, fun h => by cases h⟩⟩, Hp17_14.out.below hb, Hp1_14.out.below hb⟩
                rw [← m1]
                simp [Addr.add]
                try omega
              have HCY : Hid (∀ x, Grew w14.drew x → (x.cell? ⟨gp9, 0, none⟩ = some (.bool lf) ∧ x.cell? ⟨gp9, 1, none⟩ = some (.slice a5 n5 c5)) ∧ (x.cell? ⟨gp10, 0, none⟩ = some (.bool lf) ∧ x.cell? ⟨gp10, 1, none⟩ = some (.slice a6 n6 c6)) ∧ (x.cell? ⟨gp2, 0, none⟩ = some (.bool lf) ∧ x.cell? ⟨gp2, 1, none⟩ = some (.slice (some ⟨bb, oo, none⟩) np2 cp2)) ∧ (x.cell? ⟨gp17, 0, none⟩ = some (.bool lf) ∧ x.cell? ⟨gp17, 1, none⟩ = some (.slice a8 n8 c8)) ∧ x.cell? ⟨gp1, 0, none⟩ = some (.bool lf) ∧ x.cell? ⟨gp1, 1, none⟩ = some (.slice ap1 np1 cp1)) := hid fun x hx => by
                have h1 := row_below p9_14.out (grewDrew hx)
                have h2 := row_below p10_14.out (grewDrew hx)
                have h3 := row_below p2_14.out (grewDrew hx)
                have h4 := row_below p17_14.out (grewDrew hx)
                have h5 := row_below p1_14.out (grewDrew hx)
                exact ⟨⟨by rw [cell_of_row _ _ _ _ _ _ h1]; rfl, by rw [cell_of_row _ _ _ _ _ _ h1]; rfl⟩, ⟨by rw [cell_of_row _ _ _ _ _ _ h2]; rfl, by rw [cell_of_row _ _ _ _ _ _ h2]; rfl⟩, ⟨by rw [cell_of_row _ _ _ _ _ _ h3]; rfl, by rw [cell_of_row _ _ _ _ _ _ h3]; rfl⟩, ⟨by rw [cell_of_row _ _ _ _ _ _ h4]; rfl, by rw [cell_of_row _ _ _ _ _ _ h4]; rfl⟩, by rw [cell_of_row _ _ _ _ _ _ h5]; rfl, by rw [cell_of_row _ _ _ _ _ _ h5]; rfl⟩
              refine wp_region_grows 38 [EqN (.bool true), EqN (.bool true), EqN (.int .i64 0), EqN (.bool true), EqN (.bool true), EqN (.bool true), EqN (.agg #[.bool lf, .slice a5 n5 c5]), (fun x v => NdV x v lf (xs.take k)), EqN (.pointer (some ⟨gp2, 0, none⟩)), EqN (.bool lf), EqN (.pointer (some ⟨gp2, 1, none⟩)), EqN (.slice (some ⟨bb, oo, none⟩) np2 cp2), EqN (.int .i64 (k : Int)), EqN (.slice (some ⟨bb, oo, none⟩) k cp2), EqN (.agg #[.bool lf, .slice (some ⟨bb, oo, none⟩) k cp2]), EqN (.bool true), EqN (.bool true), EqN (.bool true), EqN (.agg #[.bool lf, .slice a6 n6 c6]), (fun x v => NdV x v lf (xs.drop k)), EqN (.pointer (some ⟨gp2, 0, none⟩)), EqN (.bool lf), EqN (.pointer (some ⟨gp2, 1, none⟩)), EqN (.slice (some ⟨bb, oo, none⟩) np2 cp2), EqN (.int .i64 (k : Int)), EqN (.slice (some ⟨bb, ob, none⟩) nb cb), EqN (.agg #[.bool lf, .slice (some ⟨bb, ob, none⟩) nb cb]), EqN (.bool true), EqN (.bool true), EqN (.bool true), EqN (.int .i64 0), EqN (.bool true), EqN (.bool true), EqN (.bool true), EqN (.agg #[.bool lf, .slice a8 n8 c8]), EqN (.agg #[.bool lf, .slice ap1 np1 cp1]), EqN (.bool true), EqN (.bool true)] (by kernel_rfl) (by decide) (by kernel_rfl) ?_ ?_ ?_
              · repeat' (first | exact List.forall_mem_nil _ | refine List.forall_mem_cons.2 ⟨?_, ?_⟩)
                all_goals
                  intro w w' v hw h
                  first | exact h | exact NdV.grew hw h
              · simp only [AllLt]
                refine ⟨⟨⟨⟨⟨⟨⟨⟨⟨⟨⟨⟨⟨⟨⟨⟨⟨⟨⟨⟨⟨⟨⟨⟨⟨⟨⟨⟨⟨⟨⟨⟨⟨⟨⟨⟨⟨⟨trivial, ?_⟩, ?_⟩, ?_⟩, ?_⟩, ?_⟩, ?_⟩, ?_⟩, ?_⟩, ?_⟩, ?_⟩, ?_⟩, ?_⟩, ?_⟩, ?_⟩, ?_⟩, ?_⟩, ?_⟩, ?_⟩, ?_⟩, ?_⟩, ?_⟩, ?_⟩, ?_⟩, ?_⟩, ?_⟩, ?_⟩, ?_⟩, ?_⟩, ?_⟩, ?_⟩, ?_⟩, ?_⟩, ?_⟩, ?_⟩, ?_⟩, ?_⟩, ?_⟩, ?_⟩
                all_goals
                  intro o' ho
                  simp at ho
                  subst ho
                  intro ρ w5 hR hL hS hG
                  obtain ⟨hl1, hl2, -⟩ := hL
                · refine plainG rfl ?_
                  intro bA K Q' hK
                  simp only [execOp]
                  go_simp
                  refine (known_any HP.out _).mono ?_
                  rintro r9 w9 ⟨rfl, hb9⟩
                  exact hK _ _ rfl hb9
                · refine plainG rfl ?_
                  intro bA K Q' hK
                  have e117 := hG 0 117 (by decide) (by kernel_rfl) (by kernel_rfl)
                  change ρ (.tmp 117) = _ at e117
                  simp only [execOp]
                  go_simp
                  exact hK _ _ rfl (Grew.refl _)
                · have eG : ρ (.tmp 118) = _ := hG 1 118 (by decide) (by kernel_rfl) (by kernel_rfl)
                  refine onG rfl (by kernel_rfl) eG ?_
                  intro bA K Q' hK
                  have e11 := hS 11 (by kernel_rfl)
                  change ρ (.tmp 11) = _ at e11
                  simp only [execOp]
                  go_simp
                  exact hK _ _ rfl (Grew.refl _)
                · have eG : ρ (.tmp 118) = _ := hG 1 118 (by decide) (by kernel_rfl) (by kernel_rfl)
                  refine onG rfl (by kernel_rfl) eG ?_
                  intro bA K Q' hK
                  have e119 := hG 2 119 (by decide) (by kernel_rfl) (by kernel_rfl)
                  change ρ (.tmp 119) = _ at e119
                  simp only [execOp]
                  go_simp
                  exact hK _ _ rfl (Grew.refl _)
                · refine plainG rfl ?_
                  intro bA K Q' hK
                  have e118 := hG 1 118 (by decide) (by kernel_rfl) (by kernel_rfl)
                  have e120 := hG 3 120 (by decide) (by kernel_rfl) (by kernel_rfl)
                  change ρ (.tmp 118) = _ at e118
                  change ρ (.tmp 120) = _ at e120
                  simp only [execOp]
                  go_simp
                  exact hK _ _ rfl (Grew.refl _)
                · refine plainG rfl ?_
                  intro bA K Q' hK
                  have e121 := hG 4 121 (by decide) (by kernel_rfl) (by kernel_rfl)
                  change ρ (.tmp 121) = _ at e121
                  simp only [execOp]
                  go_simp
                  exact hK _ _ rfl (Grew.refl _)
                · have eG : ρ (.tmp 122) = _ := hG 5 122 (by decide) (by kernel_rfl) (by kernel_rfl)
                  refine onG rfl (by kernel_rfl) eG ?_
                  intro bA K Q' hK
                  have e9 := hS 9 (by kernel_rfl)
                  change ρ (.tmp 9) = _ at e9
                  obtain ⟨⟨y0, y1⟩, ⟨y2, y3⟩, ⟨y4, y5⟩, ⟨y6, y7⟩, y8, y9⟩ := HCY.out w5 hR
                  simp only [execOp]
                  go_simp
                  exact hK _ _ rfl (Grew.refl _)
                · have eG : ρ (.tmp 122) = _ := hG 5 122 (by decide) (by kernel_rfl) (by kernel_rfl)
                  refine onG rfl (by kernel_rfl) eG ?_
                  intro bA K Q' hK
                  have e123 := hG 6 123 (by decide) (by kernel_rfl) (by kernel_rfl)
                  change ρ (.tmp 123) = _ at e123
                  simp only [execOp]
                  go_simp
                  refine (of_x lf (HCX.out w5 hR).1.1).mono ?_
                  rintro r9 w9 ⟨⟨a9, n9, c9, rfl, h9⟩, hb9⟩
                  exact hK _ _ ⟨_, _, _, rfl, h9⟩ hb9
                · have eG : ρ (.tmp 122) = _ := hG 5 122 (by decide) (by kernel_rfl) (by kernel_rfl)
                  refine onG rfl (by kernel_rfl) eG ?_
                  intro bA K Q' hK
                  have e7 := hS 7 (by kernel_rfl)
                  change ρ (.tmp 7) = _ at e7
                  simp only [execOp]
                  go_simp
                  exact hK _ _ rfl (Grew.refl _)
                · have eG : ρ (.tmp 122) = _ := hG 5 122 (by decide) (by kernel_rfl) (by kernel_rfl)
                  refine onG rfl (by kernel_rfl) eG ?_
                  intro bA K Q' hK
                  have e125 := hG 8 125 (by decide) (by kernel_rfl) (by kernel_rfl)
                  change ρ (.tmp 125) = _ at e125
                  obtain ⟨⟨y0, y1⟩, ⟨y2, y3⟩, ⟨y4, y5⟩, ⟨y6, y7⟩, y8, y9⟩ := HCY.out w5 hR
                  simp only [execOp]
                  go_simp
                  exact hK _ _ rfl (Grew.refl _)
                · have eG : ρ (.tmp 122) = _ := hG 5 122 (by decide) (by kernel_rfl) (by kernel_rfl)
                  refine onG rfl (by kernel_rfl) eG ?_
                  intro bA K Q' hK
                  have e7 := hS 7 (by kernel_rfl)
                  change ρ (.tmp 7) = _ at e7
                  simp only [execOp]
                  go_simp
                  exact hK _ _ rfl (Grew.refl _)
                · have eG : ρ (.tmp 122) = _ := hG 5 122 (by decide) (by kernel_rfl) (by kernel_rfl)
                  refine onG rfl (by kernel_rfl) eG ?_
                  intro bA K Q' hK
                  have e127 := hG 10 127 (by decide) (by kernel_rfl) (by kernel_rfl)
                  change ρ (.tmp 127) = _ at e127
                  obtain ⟨⟨y0, y1⟩, ⟨y2, y3⟩, ⟨y4, y5⟩, ⟨y6, y7⟩, y8, y9⟩ := HCY.out w5 hR
                  simp only [execOp]
                  go_simp
                  exact hK _ _ rfl (Grew.refl _)
                · have eG : ρ (.tmp 122) = _ := hG 5 122 (by decide) (by kernel_rfl) (by kernel_rfl)
                  refine onG rfl (by kernel_rfl) eG ?_
                  intro bA K Q' hK
                  have e16 := hS 16 (by kernel_rfl)
                  change ρ (.tmp 16) = _ at e16
                  simp only [execOp]
                  go_simp
                  exact hK _ _ rfl (Grew.refl _)
                · have eG : ρ (.tmp 122) = _ := hG 5 122 (by decide) (by kernel_rfl) (by kernel_rfl)
                  refine onG rfl (by kernel_rfl) eG ?_
                  intro bA K Q' hK
                  have e128 := hG 11 128 (by decide) (by kernel_rfl) (by kernel_rfl)
                  have e129 := hG 12 129 (by decide) (by kernel_rfl) (by kernel_rfl)
                  change ρ (.tmp 128) = _ at e128
                  change ρ (.tmp 129) = _ at e129
                  simp only [execOp]
                  go_simp
                  exact hK _ _ rfl (Grew.refl _)
                · have eG : ρ (.tmp 122) = _ := hG 5 122 (by decide) (by kernel_rfl) (by kernel_rfl)
                  refine onG rfl (by kernel_rfl) eG ?_
                  intro bA K Q' hK
                  have e126 := hG 9 126 (by decide) (by kernel_rfl) (by kernel_rfl)
                  have e130 := hG 13 130 (by decide) (by kernel_rfl) (by kernel_rfl)
                  change ρ (.tmp 126) = _ at e126
                  change ρ (.tmp 130) = _ at e130
                  simp only [execOp]
                  go_simp
                  exact hK _ _ rfl (Grew.refl _)
                · have eG : ρ (.tmp 122) = _ := hG 5 122 (by decide) (by kernel_rfl) (by kernel_rfl)
                  refine onG rfl (by kernel_rfl) eG ?_
                  intro bA K Q' hK
                  have e124 := hG 7 124 (by decide) (by kernel_rfl) (by kernel_rfl)
                  have e131 := hG 14 131 (by decide) (by kernel_rfl) (by kernel_rfl)
                  skip
                  change ρ (.tmp 131) = _ at e131
                  obtain ⟨a9, n9, c9, e124', h29⟩ := e124
                  change ρ (.tmp 124) = _ at e124'
                  simp only [execOp]
                  go_simp
                  refine (same_x lf h29 (HCX.out w5 hR).2.1.1).mono ?_
                  rintro r9 w9 ⟨rfl, hb9⟩
                  exact hK _ _ rfl hb9
                · refine plainG rfl ?_
                  intro bA K Q' hK
                  have e122 := hG 5 122 (by decide) (by kernel_rfl) (by kernel_rfl)
                  have e132 := hG 15 132 (by decide) (by kernel_rfl) (by kernel_rfl)
                  change ρ (.tmp 122) = _ at e122
                  change ρ (.tmp 132) = _ at e132
                  simp only [execOp]
                  go_simp
                  exact hK _ _ rfl (Grew.refl _)
                · refine plainG rfl ?_
                  intro bA K Q' hK
                  have e133 := hG 16 133 (by decide) (by kernel_rfl) (by kernel_rfl)
                  change ρ (.tmp 133) = _ at e133
                  simp only [execOp]
                  go_simp
                  exact hK _ _ rfl (Grew.refl _)
                · have eG : ρ (.tmp 134) = _ := hG 17 134 (by decide) (by kernel_rfl) (by kernel_rfl)
                  refine onG rfl (by kernel_rfl) eG ?_
                  intro bA K Q' hK
                  have e10 := hS 10 (by kernel_rfl)
                  change ρ (.tmp 10) = _ at e10
                  obtain ⟨⟨y0, y1⟩, ⟨y2, y3⟩, ⟨y4, y5⟩, ⟨y6, y7⟩, y8, y9⟩ := HCY.out w5 hR
                  simp only [execOp]
                  go_simp
                  exact hK _ _ rfl (Grew.refl _)
                · have eG : ρ (.tmp 134) = _ := hG 17 134 (by decide) (by kernel_rfl) (by kernel_rfl)
                  refine onG rfl (by kernel_rfl) eG ?_
                  intro bA K Q' hK
                  have e135 := hG 18 135 (by decide) (by kernel_rfl) (by kernel_rfl)
                  change ρ (.tmp 135) = _ at e135
                  simp only [execOp]
                  go_simp
                  refine (of_x lf (HCX.out w5 hR).1.2).mono ?_
                  rintro r9 w9 ⟨⟨a9, n9, c9, rfl, h9⟩, hb9⟩
                  exact hK _ _ ⟨_, _, _, rfl, h9⟩ hb9
                · have eG : ρ (.tmp 134) = _ := hG 17 134 (by decide) (by kernel_rfl) (by kernel_rfl)
                  refine onG rfl (by kernel_rfl) eG ?_
                  intro bA K Q' hK
                  have e7 := hS 7 (by kernel_rfl)
                  change ρ (.tmp 7) = _ at e7
                  simp only [execOp]
                  go_simp
                  exact hK _ _ rfl (Grew.refl _)
                · have eG : ρ (.tmp 134) = _ := hG 17 134 (by decide) (by kernel_rfl) (by kernel_rfl)
                  refine onG rfl (by kernel_rfl) eG ?_
                  intro bA K Q' hK
                  have e137 := hG 20 137 (by decide) (by kernel_rfl) (by kernel_rfl)
                  change ρ (.tmp 137) = _ at e137
                  obtain ⟨⟨y0, y1⟩, ⟨y2, y3⟩, ⟨y4, y5⟩, ⟨y6, y7⟩, y8, y9⟩ := HCY.out w5 hR
                  simp only [execOp]
                  go_simp
                  exact hK _ _ rfl (Grew.refl _)
                · have eG : ρ (.tmp 134) = _ := hG 17 134 (by decide) (by kernel_rfl) (by kernel_rfl)
                  refine onG rfl (by kernel_rfl) eG ?_
                  intro bA K Q' hK
                  have e7 := hS 7 (by kernel_rfl)
                  change ρ (.tmp 7) = _ at e7
                  simp only [execOp]
                  go_simp
                  exact hK _ _ rfl (Grew.refl _)
                · have eG : ρ (.tmp 134) = _ := hG 17 134 (by decide) (by kernel_rfl) (by kernel_rfl)
                  refine onG rfl (by kernel_rfl) eG ?_
                  intro bA K Q' hK
                  have e139 := hG 22 139 (by decide) (by kernel_rfl) (by kernel_rfl)
                  change ρ (.tmp 139) = _ at e139
                  obtain ⟨⟨y0, y1⟩, ⟨y2, y3⟩, ⟨y4, y5⟩, ⟨y6, y7⟩, y8, y9⟩ := HCY.out w5 hR
                  simp only [execOp]
                  go_simp
                  exact hK _ _ rfl (Grew.refl _)
                · have eG : ρ (.tmp 134) = _ := hG 17 134 (by decide) (by kernel_rfl) (by kernel_rfl)
                  refine onG rfl (by kernel_rfl) eG ?_
                  intro bA K Q' hK
                  have e16 := hS 16 (by kernel_rfl)
                  change ρ (.tmp 16) = _ at e16
                  simp only [execOp]
                  go_simp
                  exact hK _ _ rfl (Grew.refl _)
                · have eG : ρ (.tmp 134) = _ := hG 17 134 (by decide) (by kernel_rfl) (by kernel_rfl)
                  refine onG rfl (by kernel_rfl) eG ?_
                  intro bA K Q' hK
                  have e140 := hG 23 140 (by decide) (by kernel_rfl) (by kernel_rfl)
                  have e141 := hG 24 141 (by decide) (by kernel_rfl) (by kernel_rfl)
                  change ρ (.tmp 140) = _ at e140
                  change ρ (.tmp 141) = _ at e141
                  have hob := HAB.out.1
                  have hnb := HAB.out.2.1
                  have hcb := HAB.out.2.2.1
                  have hck := HAB.out.2.2.2
                  simp only [execOp]
                  go_simp
                  exact hK _ _ rfl (Grew.refl _)
                · have eG : ρ (.tmp 134) = _ := hG 17 134 (by decide) (by kernel_rfl) (by kernel_rfl)
                  refine onG rfl (by kernel_rfl) eG ?_
                  intro bA K Q' hK
                  have e138 := hG 21 138 (by decide) (by kernel_rfl) (by kernel_rfl)
                  have e142 := hG 25 142 (by decide) (by kernel_rfl) (by kernel_rfl)
                  change ρ (.tmp 138) = _ at e138
                  change ρ (.tmp 142) = _ at e142
                  simp only [execOp]
                  go_simp
                  exact hK _ _ rfl (Grew.refl _)
                · have eG : ρ (.tmp 134) = _ := hG 17 134 (by decide) (by kernel_rfl) (by kernel_rfl)
                  refine onG rfl (by kernel_rfl) eG ?_
                  intro bA K Q' hK
                  have e136 := hG 19 136 (by decide) (by kernel_rfl) (by kernel_rfl)
                  have e143 := hG 26 143 (by decide) (by kernel_rfl) (by kernel_rfl)
                  skip
                  change ρ (.tmp 143) = _ at e143
                  obtain ⟨a9, n9, c9, e136', h29⟩ := e136
                  change ρ (.tmp 136) = _ at e136'
                  simp only [execOp]
                  go_simp
                  refine (same_x lf h29 (HCX.out w5 hR).2.1.2).mono ?_
                  rintro r9 w9 ⟨rfl, hb9⟩
                  exact hK _ _ rfl hb9
                · refine plainG rfl ?_
                  intro bA K Q' hK
                  have e134 := hG 17 134 (by decide) (by kernel_rfl) (by kernel_rfl)
                  have e144 := hG 27 144 (by decide) (by kernel_rfl) (by kernel_rfl)
                  change ρ (.tmp 134) = _ at e134
                  change ρ (.tmp 144) = _ at e144
                  simp only [execOp]
                  go_simp
                  exact hK _ _ rfl (Grew.refl _)
                · refine plainG rfl ?_
                  intro bA K Q' hK
                  have e145 := hG 28 145 (by decide) (by kernel_rfl) (by kernel_rfl)
                  change ρ (.tmp 145) = _ at e145
                  simp only [execOp]
                  go_simp
                  exact hK _ _ rfl (Grew.refl _)
                · have eG : ρ (.tmp 146) = _ := hG 29 146 (by decide) (by kernel_rfl) (by kernel_rfl)
                  refine onG rfl (by kernel_rfl) eG ?_
                  intro bA K Q' hK
                  have e18 := hS 18 (by kernel_rfl)
                  change ρ (.tmp 18) = _ at e18
                  simp only [execOp]
                  go_simp
                  exact hK _ _ rfl (Grew.refl _)
                · have eG : ρ (.tmp 146) = _ := hG 29 146 (by decide) (by kernel_rfl) (by kernel_rfl)
                  refine onG rfl (by kernel_rfl) eG ?_
                  intro bA K Q' hK
                  have e147 := hG 30 147 (by decide) (by kernel_rfl) (by kernel_rfl)
                  change ρ (.tmp 147) = _ at e147
                  simp only [execOp]
                  go_simp
                  exact hK _ _ rfl (Grew.refl _)
                · refine plainG rfl ?_
                  intro bA K Q' hK
                  have e146 := hG 29 146 (by decide) (by kernel_rfl) (by kernel_rfl)
                  have e148 := hG 31 148 (by decide) (by kernel_rfl) (by kernel_rfl)
                  change ρ (.tmp 146) = _ at e146
                  change ρ (.tmp 148) = _ at e148
                  simp only [execOp]
                  go_simp
                  exact hK _ _ rfl (Grew.refl _)
                · refine plainG rfl ?_
                  intro bA K Q' hK
                  have e149 := hG 32 149 (by decide) (by kernel_rfl) (by kernel_rfl)
                  change ρ (.tmp 149) = _ at e149
                  simp only [execOp]
                  go_simp
                  exact hK _ _ rfl (Grew.refl _)
                · have eG : ρ (.tmp 150) = _ := hG 33 150 (by decide) (by kernel_rfl) (by kernel_rfl)
                  refine onG rfl (by kernel_rfl) eG ?_
                  intro bA K Q' hK
                  have e17 := hS 17 (by kernel_rfl)
                  change ρ (.tmp 17) = _ at e17
                  obtain ⟨⟨y0, y1⟩, ⟨y2, y3⟩, ⟨y4, y5⟩, ⟨y6, y7⟩, y8, y9⟩ := HCY.out w5 hR
                  simp only [execOp]
                  go_simp
                  exact hK _ _ rfl (Grew.refl _)
                · have eG : ρ (.tmp 150) = _ := hG 33 150 (by decide) (by kernel_rfl) (by kernel_rfl)
                  refine onG rfl (by kernel_rfl) eG ?_
                  intro bA K Q' hK
                  have e5 := hS 5 (by kernel_rfl)
                  change ρ (.tmp 5) = _ at e5
                  obtain ⟨⟨y0, y1⟩, ⟨y2, y3⟩, ⟨y4, y5⟩, ⟨y6, y7⟩, y8, y9⟩ := HCY.out w5 hR
                  simp only [execOp]
                  go_simp
                  exact hK _ _ rfl (Grew.refl _)
                · have eG : ρ (.tmp 150) = _ := hG 33 150 (by decide) (by kernel_rfl) (by kernel_rfl)
                  refine onG rfl (by kernel_rfl) eG ?_
                  intro bA K Q' hK
                  have e151 := hG 34 151 (by decide) (by kernel_rfl) (by kernel_rfl)
                  have e152 := hG 35 152 (by decide) (by kernel_rfl) (by kernel_rfl)
                  change ρ (.tmp 151) = _ at e151
                  change ρ (.tmp 152) = _ at e152
                  simp only [execOp]
                  go_simp
                  refine (HP.out.nSame a8 ap1 n8 np1 c8 cp1 lf xs _ (HCX.out w5 hR).2.2.1 (HCX.out w5 hR).2.2.2).mono ?_
                  rintro r9 w9 ⟨rfl, hb9⟩
                  exact hK _ _ rfl hb9
                · refine plainG rfl ?_
                  intro bA K Q' hK
                  have e150 := hG 33 150 (by decide) (by kernel_rfl) (by kernel_rfl)
                  have e153 := hG 36 153 (by decide) (by kernel_rfl) (by kernel_rfl)
                  change ρ (.tmp 150) = _ at e150
                  change ρ (.tmp 153) = _ at e153
                  simp only [execOp]
                  go_simp
                  exact hK _ _ rfl (Grew.refl _)
              · skip
                intro vv w15 hR hG
                have h9 : vv 37 = .bool true := hG.2
                have HBZ : Hid (Below W.heap.size W w15) := hid (HB_14.out.trans ((grewDrew hR).mono HB_14.out.size))
                clear hG hR HCX HCY
                simp [stG, stU, dstAt, Act.put, h9]
                clear h9
                go_wp2_with fail
                go_ret
                exact ⟨rfl, HBZ.out⟩
        · clear HNp12_8
          have hLM : (lf != mf) = false := by rw [hc.out.2.2.1]; simp
          have hLM2 : (lf == mf) = true := by rw [hc.out.2.2.1]; simp
          have hLM3 : (lf = mf) = True := eq_true hc.out.2.2.1
          have hLM4 : (!(lf == mf)) = false := by rw [hLM2]; rfl
          have h1 : Mg = chkN lf (xs ++ ys) := HSM.out.2.trans (mg_e' hc.out.1 hc.out.2.1 hc.out.2.2.1 hc.out.2.2.2.1)
          have hl1 : (np14 : Int) ≤ 16 := by have := Hp14_8.out.1; have := hc.out.2.2.2.1; omega
          have hl2 : decide ((16 : Int) < np14) = false := decide_eq_false (by omega)
          have hM0 : (Mg == 0) = false := by rw [beq_eq_false_iff_ne, h1]; exact hc.out.2.2.2.2
          have HK3 := hid h1
          clear h1
          have hMM : (Mg != Mg) = false := by simp
          have hME : (Mg == Mg) = true := by simp
          have hc0p2 : w8.cell? ⟨gp2, 0, none⟩ = some (.bool lf) := by rw [cell_of_row _ _ _ _ _ _ p2_8.out]; rfl
          have hc1p2 : w8.cell? ⟨gp2, 1, none⟩ = some (.slice ap2 np2 cp2) := by rw [cell_of_row _ _ _ _ _ _ p2_8.out]; rfl
          go_wp2_with fail
          clear hc0p2 hc1p2
          have h := chk_x lf Hp2_8.out
          rw [hc.out.1] at h
          have HCK := hid h
          clear h
          refine (HCK.out).mono ?_
          rintro e w9 ⟨rfl, hb⟩
          have p1_9 := hid (row_below p1_8.out hb)
          clear p1_8
          have Hp1_9 := hid (Hp1_8.out.below hb)
          clear Hp1_8
          have p3_9 := hid (row_below p3_8.out hb)
          clear p3_8
          have Hp3_9 := hid (Hp3_8.out.below hb)
          clear Hp3_8
          have p2_9 := hid (row_below p2_8.out hb)
          clear p2_8
          have Hp2_9 := hid (Hp2_8.out.below hb)
          clear Hp2_8
          have p4_9 := hid (row_below p4_8.out hb)
          clear p4_8
          have Hp4_9 := hid (Hp4_8.out.below hb)
          clear Hp4_8
          have HNp9_9 : Hid (Sp = 0 → l5 = lf ∧ NdOk w9 a5 n5 c5 (xs.take (xs.length / 2))) := hid (fun hp => ⟨(HNp9_8.out hp).1, (HNp9_8.out hp).2.below hb⟩)
          clear HNp9_8
          have HNp10_9 : Hid (Sp = 0 → l6 = lf ∧ NdOk w9 a6 n6 c6 (xs.drop (xs.length / 2))) := hid (fun hp => ⟨(HNp10_8.out hp).1, (HNp10_8.out hp).2.below hb⟩)
          clear HNp10_8
          have p9_9 := hid (row_below p9_8.out hb)
          clear p9_8
          have p10_9 := hid (row_below p10_8.out hb)
          clear p10_8
          have p12_9 := hid (row_below p12_8.out hb)
          clear p12_8
          have p14_9 := hid (row_below p14_8.out hb)
          clear p14_8
          have Hp14_9 := hid (Hp14_8.out.below hb)
          clear Hp14_8
          have HB_9 : Hid (Below W.heap.size W w9) := hid (HB_8.out.trans ((hb).mono HB_8.out.size))
          clear HB_8
          clear hb
          clear HCK
          have hc0p4 : w9.cell? ⟨gp4, 0, none⟩ = some (.bool mf) := by rw [cell_of_row _ _ _ _ _ _ p4_9.out]; rfl
          have hc1p4 : w9.cell? ⟨gp4, 1, none⟩ = some (.slice ap4 np4 cp4) := by rw [cell_of_row _ _ _ _ _ _ p4_9.out]; rfl
          go_wp2_with fail
          clear hc0p4 hc1p4
          have h := chk_x mf Hp4_9.out
          rw [hc.out.2.1] at h
          have HCK := hid h
          clear h
          refine (HCK.out).mono ?_
          rintro e w10 ⟨rfl, hb⟩
          have p1_10 := hid (row_below p1_9.out hb)
          clear p1_9
          have Hp1_10 := hid (Hp1_9.out.below hb)
          clear Hp1_9
          have p3_10 := hid (row_below p3_9.out hb)
          clear p3_9
          have Hp3_10 := hid (Hp3_9.out.below hb)
          clear Hp3_9
          have p2_10 := hid (row_below p2_9.out hb)
          clear p2_9
          have Hp2_10 := hid (Hp2_9.out.below hb)
          clear Hp2_9
          have p4_10 := hid (row_below p4_9.out hb)
          clear p4_9
          have Hp4_10 := hid (Hp4_9.out.below hb)
          clear Hp4_9
          have HNp9_10 : Hid (Sp = 0 → l5 = lf ∧ NdOk w10 a5 n5 c5 (xs.take (xs.length / 2))) := hid (fun hp => ⟨(HNp9_9.out hp).1, (HNp9_9.out hp).2.below hb⟩)
          clear HNp9_9
          have HNp10_10 : Hid (Sp = 0 → l6 = lf ∧ NdOk w10 a6 n6 c6 (xs.drop (xs.length / 2))) := hid (fun hp => ⟨(HNp10_9.out hp).1, (HNp10_9.out hp).2.below hb⟩)
          clear HNp10_9
          have p9_10 := hid (row_below p9_9.out hb)
          clear p9_9
          have p10_10 := hid (row_below p10_9.out hb)
          clear p10_9
          have p12_10 := hid (row_below p12_9.out hb)
          clear p12_9
          have p14_10 := hid (row_below p14_9.out hb)
          clear p14_9
          have Hp14_10 := hid (Hp14_9.out.below hb)
          clear Hp14_9
          have HB_10 : Hid (Below W.heap.size W w10) := hid (HB_9.out.trans ((hb).mono HB_9.out.size))
          clear HB_9
          clear hb
          clear HCK
          have hc0p2 : w10.cell? ⟨gp2, 0, none⟩ = some (.bool lf) := by rw [cell_of_row _ _ _ _ _ _ p2_10.out]; rfl
          have hc1p2 : w10.cell? ⟨gp2, 1, none⟩ = some (.slice ap2 np2 cp2) := by rw [cell_of_row _ _ _ _ _ _ p2_10.out]; rfl
          have hc0p4 : w10.cell? ⟨gp4, 0, none⟩ = some (.bool mf) := by rw [cell_of_row _ _ _ _ _ _ p4_10.out]; rfl
          have hc1p4 : w10.cell? ⟨gp4, 1, none⟩ = some (.slice ap4 np4 cp4) := by rw [cell_of_row _ _ _ _ _ _ p4_10.out]; rfl
          have hc0p14 : w10.cell? ⟨gp14, 0, none⟩ = some (.bool lf) := by rw [cell_of_row _ _ _ _ _ _ p14_10.out]; rfl
          have hc1p14 : w10.cell? ⟨gp14, 1, none⟩ = some (.slice ap14 np14 cp14) := by rw [cell_of_row _ _ _ _ _ _ p14_10.out]; rfl
          go_wp2_with fail
          clear hc0p2 hc1p2 hc0p4 hc1p4 hc0p14 hc1p14
          have h := chk_x lf Hp14_10.out
          rw [← HK3.out] at h
          have HCK := hid h
          clear h
          refine (HCK.out).mono ?_
          rintro e w11 ⟨rfl, hb⟩
          have p1_11 := hid (row_below p1_10.out hb)
          clear p1_10
          have Hp1_11 := hid (Hp1_10.out.below hb)
          clear Hp1_10
          have p3_11 := hid (row_below p3_10.out hb)
          clear p3_10
          have Hp3_11 := hid (Hp3_10.out.below hb)
          clear Hp3_10
          have p2_11 := hid (row_below p2_10.out hb)
          clear p2_10
          have Hp2_11 := hid (Hp2_10.out.below hb)
          clear Hp2_10
          have p4_11 := hid (row_below p4_10.out hb)
          clear p4_10
          have Hp4_11 := hid (Hp4_10.out.below hb)
          clear Hp4_10
          have HNp9_11 : Hid (Sp = 0 → l5 = lf ∧ NdOk w11 a5 n5 c5 (xs.take (xs.length / 2))) := hid (fun hp => ⟨(HNp9_10.out hp).1, (HNp9_10.out hp).2.below hb⟩)
          clear HNp9_10
          have HNp10_11 : Hid (Sp = 0 → l6 = lf ∧ NdOk w11 a6 n6 c6 (xs.drop (xs.length / 2))) := hid (fun hp => ⟨(HNp10_10.out hp).1, (HNp10_10.out hp).2.below hb⟩)
          clear HNp10_10
          have p9_11 := hid (row_below p9_10.out hb)
          clear p9_10
          have p10_11 := hid (row_below p10_10.out hb)
          clear p10_10
          have p12_11 := hid (row_below p12_10.out hb)
          clear p12_10
          have p14_11 := hid (row_below p14_10.out hb)
          clear p14_10
          have Hp14_11 := hid (Hp14_10.out.below hb)
          clear Hp14_10
          have HB_11 : Hid (Below W.heap.size W w11) := hid (HB_10.out.trans ((hb).mono HB_10.out.size))
          clear HB_10
          clear hb
          clear HCK
          go_upto_region 15 with fail
          refine wp_region_grows 14 [EqN (.int .i64 Mg), EqN (.int .i64 Mg), EqN (.bool false), EqN (.bool false), EqN (.int .i64 Mg), EqN (.bool false), EqN (.bool false), EqN (undef), EqN (undef), EqN (undef), EqN (undef), EqN (undef), EqN (.bool false), EqN (.bool false)] (by kernel_rfl) (by decide) (by kernel_rfl) ?_ ?_ ?_
          · repeat' (first | exact List.forall_mem_nil _ | refine List.forall_mem_cons.2 ⟨?_, ?_⟩)
            all_goals
              intro w w' v hw h
              first | exact h | exact NdV.grew hw h
          · simp only [AllLt]
            refine ⟨⟨⟨⟨⟨⟨⟨⟨⟨⟨⟨⟨⟨⟨trivial, ?_⟩, ?_⟩, ?_⟩, ?_⟩, ?_⟩, ?_⟩, ?_⟩, ?_⟩, ?_⟩, ?_⟩, ?_⟩, ?_⟩, ?_⟩, ?_⟩
            all_goals
              intro o' ho
              simp at ho
              subst ho
              intro ρ w5 hR hL hS hG
              obtain ⟨hl1, hl2, -⟩ := hL
            · refine plainG rfl ?_
              intro bA K Q' hK
              have e13 := hS 13 (by kernel_rfl)
              change ρ (.tmp 13) = _ at e13
              simp only [execOp]
              go_simp
              exact hK _ _ rfl (Grew.refl _)
            · refine plainG rfl ?_
              intro bA K Q' hK
              have e15 := hS 15 (by kernel_rfl)
              change ρ (.tmp 15) = _ at e15
              simp only [execOp]
              go_simp
              exact hK _ _ rfl (Grew.refl _)
            · refine plainG rfl ?_
              intro bA K Q' hK
              have e76 := hG 0 76 (by decide) (by kernel_rfl) (by kernel_rfl)
              have e77 := hG 1 77 (by decide) (by kernel_rfl) (by kernel_rfl)
              change ρ (.tmp 76) = _ at e76
              change ρ (.tmp 77) = _ at e77
              simp only [execOp]
              go_simp
              exact hK _ _ rfl (Grew.refl _)
            · refine plainG rfl ?_
              intro bA K Q' hK
              have e78 := hG 2 78 (by decide) (by kernel_rfl) (by kernel_rfl)
              change ρ (.tmp 78) = _ at e78
              simp only [execOp]
              go_simp
              exact hK _ _ rfl (Grew.refl _)
            · have eG : ρ (.tmp 79) = _ := hG 3 79 (by decide) (by kernel_rfl) (by kernel_rfl)
              refine onG rfl (by kernel_rfl) eG ?_
              intro bA K Q' hK
              have e15 := hS 15 (by kernel_rfl)
              change ρ (.tmp 15) = _ at e15
              simp only [execOp]
              go_simp
              exact hK _ _ rfl (Grew.refl _)
            · have eG : ρ (.tmp 79) = _ := hG 3 79 (by decide) (by kernel_rfl) (by kernel_rfl)
              refine onG rfl (by kernel_rfl) eG ?_
              intro bA K Q' hK
              have e80 := hG 4 80 (by decide) (by kernel_rfl) (by kernel_rfl)
              change ρ (.tmp 80) = _ at e80
              simp only [execOp]
              go_simp
              exact hK _ _ rfl (Grew.refl _)
            · have eG : ρ (.tmp 79) = _ := hG 3 79 (by decide) (by kernel_rfl) (by kernel_rfl)
              refine onG rfl (by kernel_rfl) eG ?_
              intro bA K Q' hK
              have e81 := hG 5 81 (by decide) (by kernel_rfl) (by kernel_rfl)
              change ρ (.tmp 81) = _ at e81
              simp only [execOp]
              go_simp
              exact hK _ _ rfl (Grew.refl _)
            · have eG : ρ (.tmp 82) = _ := hG 6 82 (by decide) (by kernel_rfl) (by kernel_rfl)
              exact offG rfl (by kernel_rfl) eG rfl rfl
            · have eG : ρ (.tmp 82) = _ := hG 6 82 (by decide) (by kernel_rfl) (by kernel_rfl)
              exact offG rfl (by kernel_rfl) eG rfl rfl
            · have eG : ρ (.tmp 82) = _ := hG 6 82 (by decide) (by kernel_rfl) (by kernel_rfl)
              exact offG rfl (by kernel_rfl) eG rfl rfl
            · have eG : ρ (.tmp 82) = _ := hG 6 82 (by decide) (by kernel_rfl) (by kernel_rfl)
              exact offG rfl (by kernel_rfl) eG rfl rfl
            · have eG : ρ (.tmp 82) = _ := hG 6 82 (by decide) (by kernel_rfl) (by kernel_rfl)
              exact offG rfl (by kernel_rfl) eG rfl rfl
            · have eG : ρ (.tmp 79) = _ := hG 3 79 (by decide) (by kernel_rfl) (by kernel_rfl)
              refine onG rfl (by kernel_rfl) eG ?_
              intro bA K Q' hK
              have e82 := hG 6 82 (by decide) (by kernel_rfl) (by kernel_rfl)
              have e87 := hG 11 87 (by decide) (by kernel_rfl) (by kernel_rfl)
              change ρ (.tmp 82) = _ at e82
              change ρ (.tmp 87) = _ at e87
              simp only [execOp]
              go_simp
              exact hK _ _ rfl (Grew.refl _)
            · refine plainG rfl ?_
              intro bA K Q' hK
              have e79 := hG 3 79 (by decide) (by kernel_rfl) (by kernel_rfl)
              have e88 := hG 12 88 (by decide) (by kernel_rfl) (by kernel_rfl)
              change ρ (.tmp 79) = _ at e79
              change ρ (.tmp 88) = _ at e88
              simp only [execOp]
              go_simp
              exact hK _ _ rfl (Grew.refl _)
          · skip
            intro vv w12 hR hG
            have h9 : vv 13 = .bool false := hG.2
            have hb := grewDrew hR
            clear hG hR
            have p1_12 := hid (row_below p1_11.out hb)
            clear p1_11
            have Hp1_12 := hid (Hp1_11.out.below hb)
            clear Hp1_11
            have p3_12 := hid (row_below p3_11.out hb)
            clear p3_11
            have Hp3_12 := hid (Hp3_11.out.below hb)
            clear Hp3_11
            have p2_12 := hid (row_below p2_11.out hb)
            clear p2_11
            have Hp2_12 := hid (Hp2_11.out.below hb)
            clear Hp2_11
            have p4_12 := hid (row_below p4_11.out hb)
            clear p4_11
            have Hp4_12 := hid (Hp4_11.out.below hb)
            clear Hp4_11
            have HNp9_12 : Hid (Sp = 0 → l5 = lf ∧ NdOk w12 a5 n5 c5 (xs.take (xs.length / 2))) := hid (fun hp => ⟨(HNp9_11.out hp).1, (HNp9_11.out hp).2.below hb⟩)
            clear HNp9_11
            have HNp10_12 : Hid (Sp = 0 → l6 = lf ∧ NdOk w12 a6 n6 c6 (xs.drop (xs.length / 2))) := hid (fun hp => ⟨(HNp10_11.out hp).1, (HNp10_11.out hp).2.below hb⟩)
            clear HNp10_11
            have p9_12 := hid (row_below p9_11.out hb)
            clear p9_11
            have p10_12 := hid (row_below p10_11.out hb)
            clear p10_11
            have p12_12 := hid (row_below p12_11.out hb)
            clear p12_11
            have p14_12 := hid (row_below p14_11.out hb)
            clear p14_11
            have Hp14_12 := hid (Hp14_11.out.below hb)
            clear Hp14_11
            have HB_12 : Hid (Below W.heap.size W w12) := hid (HB_11.out.trans ((hb).mono HB_11.out.size))
            clear HB_11
            clear hb
            simp [stG, stU, dstAt, Act.put, h9]
            clear h9
            have hc0p2 : w12.cell? ⟨gp2, 0, none⟩ = some (.bool lf) := by rw [cell_of_row _ _ _ _ _ _ p2_12.out]; rfl
            have hc1p2 : w12.cell? ⟨gp2, 1, none⟩ = some (.slice ap2 np2 cp2) := by rw [cell_of_row _ _ _ _ _ _ p2_12.out]; rfl
            go_wp2_with fail
            clear hc0p2 hc1p2
            have h := chk_x lf Hp2_12.out
            rw [hc.out.1] at h
            have HCK := hid h
            clear h
            refine (HCK.out).mono ?_
            rintro e w13 ⟨rfl, hb⟩
            have p1_13 := hid (row_below p1_12.out hb)
            clear p1_12
            have Hp1_13 := hid (Hp1_12.out.below hb)
            clear Hp1_12
            have p3_13 := hid (row_below p3_12.out hb)
            clear p3_12
            have Hp3_13 := hid (Hp3_12.out.below hb)
            clear Hp3_12
            have p2_13 := hid (row_below p2_12.out hb)
            clear p2_12
            have Hp2_13 := hid (Hp2_12.out.below hb)
            clear Hp2_12
            have p4_13 := hid (row_below p4_12.out hb)
            clear p4_12
            have Hp4_13 := hid (Hp4_12.out.below hb)
            clear Hp4_12
            have HNp9_13 : Hid (Sp = 0 → l5 = lf ∧ NdOk w13 a5 n5 c5 (xs.take (xs.length / 2))) := hid (fun hp => ⟨(HNp9_12.out hp).1, (HNp9_12.out hp).2.below hb⟩)
            clear HNp9_12
            have HNp10_13 : Hid (Sp = 0 → l6 = lf ∧ NdOk w13 a6 n6 c6 (xs.drop (xs.length / 2))) := hid (fun hp => ⟨(HNp10_12.out hp).1, (HNp10_12.out hp).2.below hb⟩)
            clear HNp10_12
            have p9_13 := hid (row_below p9_12.out hb)
            clear p9_12
            have p10_13 := hid (row_below p10_12.out hb)
            clear p10_12
            have p12_13 := hid (row_below p12_12.out hb)
            clear p12_12
            have p14_13 := hid (row_below p14_12.out hb)
            clear p14_12
            have Hp14_13 := hid (Hp14_12.out.below hb)
            clear Hp14_12
            have HB_13 : Hid (Below W.heap.size W w13) := hid (HB_12.out.trans ((hb).mono HB_12.out.size))
            clear HB_12
            clear hb
            clear HCK
            have hc0p2 : w13.cell? ⟨gp2, 0, none⟩ = some (.bool lf) := by rw [cell_of_row _ _ _ _ _ _ p2_13.out]; rfl
            have hc1p2 : w13.cell? ⟨gp2, 1, none⟩ = some (.slice ap2 np2 cp2) := by rw [cell_of_row _ _ _ _ _ _ p2_13.out]; rfl
            go_upto_region 19 with fail
            obtain ⟨k, hk⟩ : ∃ k, k = np2 / 2 := ⟨_, rfl⟩
            have HKK := hid hk
            have hq1 : (np2 : Int) / 2 = (k : Int) := by omega
            have hq2 : Int.tdiv (np2 : Int) 2 = (k : Int) := by rw [Int.tdiv_eq_ediv_of_nonneg (by omega)]; exact hq1
            have hn18 : (np2 : Int) ≤ 18 := by have := Hp2_13.out.1; have := HXL.out; omega
            have hk9 : (k : Int) ≤ 9 := by omega
            clear hk
            go_upto_region 20 with fail
            clear hq1 hq2
            clear hc0p2 hc1p2
            by_cases hk0 : k = 0
            · have hz1 : ((k : Int) == 0) = true := by rw [hk0]; rfl
              have hz2 : (k = 0) = True := eq_true hk0
              obtain rfl : Sp = 11 := HSM.out.1.trans (sp_b hc.out.1 (by have h1 := Hp2_13.out.1; have h2 := HKK.out; omega))
              clear hk0
              clear HNp9_13
              clear HNp10_13
              go_wp2_with fail
              refine (known_any HP.out _).mono ?_
              rintro e w14 ⟨rfl, hb⟩
              have p1_14 := hid (row_below p1_13.out hb)
              clear p1_13
              have Hp1_14 := hid (Hp1_13.out.below hb)
              clear Hp1_13
              have p3_14 := hid (row_below p3_13.out hb)
              clear p3_13
              have Hp3_14 := hid (Hp3_13.out.below hb)
              clear Hp3_13
              have p2_14 := hid (row_below p2_13.out hb)
              clear p2_13
              have Hp2_14 := hid (Hp2_13.out.below hb)
              clear Hp2_13
              have p4_14 := hid (row_below p4_13.out hb)
              clear p4_13
              have Hp4_14 := hid (Hp4_13.out.below hb)
              clear Hp4_13
              have p9_14 := hid (row_below p9_13.out hb)
              clear p9_13
              have p10_14 := hid (row_below p10_13.out hb)
              clear p10_13
              have p12_14 := hid (row_below p12_13.out hb)
              clear p12_13
              have p14_14 := hid (row_below p14_13.out hb)
              clear p14_13
              have Hp14_14 := hid (Hp14_13.out.below hb)
              clear Hp14_13
              have HB_14 : Hid (Below W.heap.size W w14) := hid (HB_13.out.trans ((hb).mono HB_13.out.size))
              clear HB_13
              clear hb
              go_wp2_with fail
              go_ret
              exact ⟨rfl, HB_14.out⟩
            · have hz1 : ((k : Int) == 0) = false := by rw [beq_eq_false_iff_ne]; omega
              have hz2 : (k = 0) = False := eq_false hk0
              have hlen : 2 ≤ xs.length := by have h1 := Hp2_13.out.1; have h2 := HKK.out; omega
              have hkx : xs.length / 2 = k := by have h1 := Hp2_13.out.1; have h2 := HKK.out; omega
              obtain rfl : Sp = 0 := HSM.out.1.trans (sp_c hc.out.1 hlen)
              have h5 := HNp9_13.out rfl
              have h6 := HNp10_13.out rfl
              rw [hkx] at h5 h6
              clear HNp9_13 HNp10_13
              obtain ⟨e5, h5⟩ := h5
              obtain ⟨e6, h6⟩ := h6
              have e5 := e5.symm
              have e6 := e6.symm
              subst e5
              subst e6
              have Hp9_13 := hid h5
              have Hp10_13 := hid h6
              have hkn : (k : Int) < np2 := by have h1 := Hp2_13.out.1; have h2 := HKK.out; omega
              have hnc2 : (np2 : Int) ≤ cp2 := by have h1 := Hp2_13.out.2.2.2.2.1.1; omega
              have hkc : (k : Int) ≤ cp2 := by omega
              have hkle : (k : Int) ≤ np2 := by omega
              have HKB : Hid (0 < k ∧ k < xs.length ∧ k = xs.length / 2) := hid ⟨by omega, by omega, hkx.symm⟩
              obtain ⟨bb, oo, hap, -⟩ := Hp2_13.out.2.1.cell (i := 0) (by omega)
              subst hap
              obtain ⟨ob, hob⟩ : ∃ ob, oo + k * 3 = ob := ⟨_, rfl⟩
              obtain ⟨nb, hnb⟩ : ∃ nb, np2 - k = nb := ⟨_, rfl⟩
              obtain ⟨cb, hcb⟩ : ∃ cb, cp2 - k = cb := ⟨_, rfl⟩
              have hck : (cp2 = k) = False := eq_false (by omega)
              have HAB := hid (And.intro hob (And.intro hnb (And.intro hcb hck)))
              have HML : Hid (∀ y, NdOk y a5 n5 c5 (xs.take k) → NdOk y a6 n6 c6 (xs.drop k) → Calls Try.prog 31 #[.agg #[.bool lf, .slice a5 n5 c5], .agg #[.bool lf, .slice a6 n6 c6]] y fun e w' => (∃ v, e = .returned (.tuple #[v, .int .i64 0]) ∧ NdF v ∧ NdV w' v lf xs) ∧ Below y.heap.size y w') := hid fun y h1 h2 => by
                have h0 : mgE lf (xs.take k) lf (xs.drop k) = 0 := merge_back hc.out.1 (by omega) (by omega)
                have h := HP.out.nMerge a5 a6 n5 n6 c5 c6 lf lf (xs.take k) (xs.drop k) y h1 h2
                rw [h0, List.take_append_drop] at h
                refine h.mono ?_
                rintro e w' ⟨⟨v, h3, h4, h5⟩, hb⟩
                exact ⟨⟨v, h3, h4, h5 rfl⟩, hb⟩
              clear h5 h6 hlen hkx hk0 hob hnb hcb hck
              clear p4_13
              clear p14_13
              clear Hp14_13
              clear Hp4_13
              clear p12_13
              have hc0p9 : w13.cell? ⟨gp9, 0, none⟩ = some (.bool lf) := by rw [cell_of_row _ _ _ _ _ _ p9_13.out]; rfl
              have hc1p9 : w13.cell? ⟨gp9, 1, none⟩ = some (.slice a5 n5 c5) := by rw [cell_of_row _ _ _ _ _ _ p9_13.out]; rfl
              have hc0p10 : w13.cell? ⟨gp10, 0, none⟩ = some (.bool lf) := by rw [cell_of_row _ _ _ _ _ _ p10_13.out]; rfl
              have hc1p10 : w13.cell? ⟨gp10, 1, none⟩ = some (.slice a6 n6 c6) := by rw [cell_of_row _ _ _ _ _ _ p10_13.out]; rfl
              go_wp2_with fail
              clear hc0p9 hc1p9 hc0p10 hc1p10
              refine (HML.out _ Hp9_13.out Hp10_13.out).mono ?_
              rintro e w14 ⟨⟨v, rfl, ⟨l8, a8, n8, c8, rfl⟩, hh⟩, hb⟩
              have p1_14 := hid (row_below p1_13.out hb)
              clear p1_13
              have Hp1_14 := hid (Hp1_13.out.below hb)
              clear Hp1_13
              have p3_14 := hid (row_below p3_13.out hb)
              clear p3_13
              have Hp3_14 := hid (Hp3_13.out.below hb)
              clear Hp3_13
              have p2_14 := hid (row_below p2_13.out hb)
              clear p2_13
              have Hp2_14 := hid (Hp2_13.out.below hb)
              clear Hp2_13
              have p9_14 := hid (row_below p9_13.out hb)
              clear p9_13
              have p10_14 := hid (row_below p10_13.out hb)
              clear p10_13
              have Hp9_14 := hid (Hp9_13.out.below hb)
              clear Hp9_13
              have Hp10_14 := hid (Hp10_13.out.below hb)
              clear Hp10_13
              have HB_14 : Hid (Below W.heap.size W w14) := hid (HB_13.out.trans ((hb).mono HB_13.out.size))
              clear HB_13
              clear hb
              clear HML
              have h8 := ndv_imp hh
              clear hh
              obtain ⟨e8, h8⟩ := h8
              have e8 := e8.symm
              subst e8
              have Hp17_14 := hid h8
              clear h8
              obtain ⟨w15, hw15⟩ : ∃ y, y = w14.alloc (.cells #[.bool lf, .slice a8 n8 c8] 27) := ⟨_, rfl⟩
              have hb : Below w14.heap.size w14 w15 := by rw [hw15]; exact allocBelow w14 _
              obtain ⟨gp17, hgp17⟩ : ∃ g, g = w14.heap.size := ⟨_, rfl⟩
              have hr : w15.heap[gp17]? = some (.cells #[.bool lf, .slice a8 n8 c8] 27 (0, 0)) := by rw [hw15, hgp17]; exact heap_alloc_new w14 _
              have HW := hid hw15
              have HGG := hid hgp17
              clear hw15 hgp17
              have p1_15 := hid (row_below p1_14.out hb)
              clear p1_14
              have Hp1_15 := hid (Hp1_14.out.below hb)
              clear Hp1_14
              have p3_15 := hid (row_below p3_14.out hb)
              clear p3_14
              have Hp3_15 := hid (Hp3_14.out.below hb)
              clear Hp3_14
              have p2_15 := hid (row_below p2_14.out hb)
              clear p2_14
              have Hp2_15 := hid (Hp2_14.out.below hb)
              clear Hp2_14
              have p9_15 := hid (row_below p9_14.out hb)
              clear p9_14
              have p10_15 := hid (row_below p10_14.out hb)
              clear p10_14
              have Hp9_15 := hid (Hp9_14.out.below hb)
              clear Hp9_14
              have Hp10_15 := hid (Hp10_14.out.below hb)
              clear Hp10_14
              have Hp17_15 := hid (Hp17_14.out.below hb)
              clear Hp17_14
              have HB_15 : Hid (Below W.heap.size W w15) := hid (HB_14.out.trans ((hb).mono HB_14.out.size))
              clear HB_14
              have p17_15 := hid hr
              clear hr hb
              go_upto_region 23 with fail
              rw [← HW.out, ← HGG.out]
              clear HW HGG
              have HCX : Hid (∀ x, Grew w15.drew x → (NdOk x a5 n5 c5 (xs.take k) ∧ NdOk x a6 n6 c6 (xs.drop k)) ∧ (NdOk x (some ⟨bb, oo, none⟩) k cp2 (xs.take k) ∧ NdOk x (some ⟨bb, ob, none⟩) nb cb (xs.drop k)) ∧ NdOk x a8 n8 c8 xs ∧ NdOk x ap1 np1 cp1 xs) := hid fun x hx => by
                have hb := grewDrew hx
                have h2 := Hp2_15.out.below hb
                obtain ⟨k1, k2, k3⟩ := HKB.out
                obtain ⟨m1, m2, m3, -⟩ := HAB.out
                have hn2 := h2.1
                obtain ⟨-, s2, s3, s4, ⟨s5, s6⟩, -⟩ := h2
                refine ⟨⟨Hp9_15.out.below hb, Hp10_15.out.below hb⟩, ⟨⟨by rw [List.length_take]; omega, s2.front k, by omega, fun e he => s4 e (List.mem_of_mem_take he), ⟨by omega, s6⟩, fun h => by cases h⟩, ⟨by rw [List.length_drop]; omega, s2.back k _ fun _ => ?_, by omega, fun e he => s4 e (List.mem_of_mem_drop he), ⟨by omega, by omega⟩, fun h => by cases h⟩⟩, Hp17_15.out.below hb, Hp1_15.out.below hb⟩
                rw [← m1]
                simp [Addr.add]
                try omega
              have HCY : Hid (∀ x, Grew w15.drew x → (x.cell? ⟨gp9, 0, none⟩ = some (.bool lf) ∧ x.cell? ⟨gp9, 1, none⟩ = some (.slice a5 n5 c5)) ∧ (x.cell? ⟨gp10, 0, none⟩ = some (.bool lf) ∧ x.cell? ⟨gp10, 1, none⟩ = some (.slice a6 n6 c6)) ∧ (x.cell? ⟨gp2, 0, none⟩ = some (.bool lf) ∧ x.cell? ⟨gp2, 1, none⟩ = some (.slice (some ⟨bb, oo, none⟩) np2 cp2)) ∧ (x.cell? ⟨gp17, 0, none⟩ = some (.bool lf) ∧ x.cell? ⟨gp17, 1, none⟩ = some (.slice a8 n8 c8)) ∧ x.cell? ⟨gp1, 0, none⟩ = some (.bool lf) ∧ x.cell? ⟨gp1, 1, none⟩ = some (.slice ap1 np1 cp1)) := hid fun x hx => by
                have h1 := row_below p9_15.out (grewDrew hx)
                have h2 := row_below p10_15.out (grewDrew hx)
                have h3 := row_below p2_15.out (grewDrew hx)
                have h4 := row_below p17_15.out (grewDrew hx)
                have h5 := row_below p1_15.out (grewDrew hx)
                exact ⟨⟨by rw [cell_of_row _ _ _ _ _ _ h1]; rfl, by rw [cell_of_row _ _ _ _ _ _ h1]; rfl⟩, ⟨by rw [cell_of_row _ _ _ _ _ _ h2]; rfl, by rw [cell_of_row _ _ _ _ _ _ h2]; rfl⟩, ⟨by rw [cell_of_row _ _ _ _ _ _ h3]; rfl, by rw [cell_of_row _ _ _ _ _ _ h3]; rfl⟩, ⟨by rw [cell_of_row _ _ _ _ _ _ h4]; rfl, by rw [cell_of_row _ _ _ _ _ _ h4]; rfl⟩, by rw [cell_of_row _ _ _ _ _ _ h5]; rfl, by rw [cell_of_row _ _ _ _ _ _ h5]; rfl⟩
              refine wp_region_grows 38 [EqN (.bool true), EqN (.bool true), EqN (.int .i64 0), EqN (.bool true), EqN (.bool true), EqN (.bool true), EqN (.agg #[.bool lf, .slice a5 n5 c5]), (fun x v => NdV x v lf (xs.take k)), EqN (.pointer (some ⟨gp2, 0, none⟩)), EqN (.bool lf), EqN (.pointer (some ⟨gp2, 1, none⟩)), EqN (.slice (some ⟨bb, oo, none⟩) np2 cp2), EqN (.int .i64 (k : Int)), EqN (.slice (some ⟨bb, oo, none⟩) k cp2), EqN (.agg #[.bool lf, .slice (some ⟨bb, oo, none⟩) k cp2]), EqN (.bool true), EqN (.bool true), EqN (.bool true), EqN (.agg #[.bool lf, .slice a6 n6 c6]), (fun x v => NdV x v lf (xs.drop k)), EqN (.pointer (some ⟨gp2, 0, none⟩)), EqN (.bool lf), EqN (.pointer (some ⟨gp2, 1, none⟩)), EqN (.slice (some ⟨bb, oo, none⟩) np2 cp2), EqN (.int .i64 (k : Int)), EqN (.slice (some ⟨bb, ob, none⟩) nb cb), EqN (.agg #[.bool lf, .slice (some ⟨bb, ob, none⟩) nb cb]), EqN (.bool true), EqN (.bool true), EqN (.bool true), EqN (.int .i64 0), EqN (.bool true), EqN (.bool true), EqN (.bool true), EqN (.agg #[.bool lf, .slice a8 n8 c8]), EqN (.agg #[.bool lf, .slice ap1 np1 cp1]), EqN (.bool true), EqN (.bool true)] (by kernel_rfl) (by decide) (by kernel_rfl) ?_ ?_ ?_
              · repeat' (first | exact List.forall_mem_nil _ | refine List.forall_mem_cons.2 ⟨?_, ?_⟩)
                all_goals
                  intro w w' v hw h
                  first | exact h | exact NdV.grew hw h
              · simp only [AllLt]
                refine ⟨⟨⟨⟨⟨⟨⟨⟨⟨⟨⟨⟨⟨⟨⟨⟨⟨⟨⟨⟨⟨⟨⟨⟨⟨⟨⟨⟨⟨⟨⟨⟨⟨⟨⟨⟨⟨⟨trivial, ?_⟩, ?_⟩, ?_⟩, ?_⟩, ?_⟩, ?_⟩, ?_⟩, ?_⟩, ?_⟩, ?_⟩, ?_⟩, ?_⟩, ?_⟩, ?_⟩, ?_⟩, ?_⟩, ?_⟩, ?_⟩, ?_⟩, ?_⟩, ?_⟩, ?_⟩, ?_⟩, ?_⟩, ?_⟩, ?_⟩, ?_⟩, ?_⟩, ?_⟩, ?_⟩, ?_⟩, ?_⟩, ?_⟩, ?_⟩, ?_⟩, ?_⟩, ?_⟩, ?_⟩
                all_goals
                  intro o' ho
                  simp at ho
                  subst ho
                  intro ρ w5 hR hL hS hG
                  obtain ⟨hl1, hl2, -⟩ := hL
                · refine plainG rfl ?_
                  intro bA K Q' hK
                  simp only [execOp]
                  go_simp
                  refine (known_any HP.out _).mono ?_
                  rintro r9 w9 ⟨rfl, hb9⟩
                  exact hK _ _ rfl hb9
                · refine plainG rfl ?_
                  intro bA K Q' hK
                  have e117 := hG 0 117 (by decide) (by kernel_rfl) (by kernel_rfl)
                  change ρ (.tmp 117) = _ at e117
                  simp only [execOp]
                  go_simp
                  exact hK _ _ rfl (Grew.refl _)
                · have eG : ρ (.tmp 118) = _ := hG 1 118 (by decide) (by kernel_rfl) (by kernel_rfl)
                  refine onG rfl (by kernel_rfl) eG ?_
                  intro bA K Q' hK
                  have e11 := hS 11 (by kernel_rfl)
                  change ρ (.tmp 11) = _ at e11
                  simp only [execOp]
                  go_simp
                  exact hK _ _ rfl (Grew.refl _)
                · have eG : ρ (.tmp 118) = _ := hG 1 118 (by decide) (by kernel_rfl) (by kernel_rfl)
                  refine onG rfl (by kernel_rfl) eG ?_
                  intro bA K Q' hK
                  have e119 := hG 2 119 (by decide) (by kernel_rfl) (by kernel_rfl)
                  change ρ (.tmp 119) = _ at e119
                  simp only [execOp]
                  go_simp
                  exact hK _ _ rfl (Grew.refl _)
                · refine plainG rfl ?_
                  intro bA K Q' hK
                  have e118 := hG 1 118 (by decide) (by kernel_rfl) (by kernel_rfl)
                  have e120 := hG 3 120 (by decide) (by kernel_rfl) (by kernel_rfl)
                  change ρ (.tmp 118) = _ at e118
                  change ρ (.tmp 120) = _ at e120
                  simp only [execOp]
                  go_simp
                  exact hK _ _ rfl (Grew.refl _)
                · refine plainG rfl ?_
                  intro bA K Q' hK
                  have e121 := hG 4 121 (by decide) (by kernel_rfl) (by kernel_rfl)
                  change ρ (.tmp 121) = _ at e121
                  simp only [execOp]
                  go_simp
                  exact hK _ _ rfl (Grew.refl _)
                · have eG : ρ (.tmp 122) = _ := hG 5 122 (by decide) (by kernel_rfl) (by kernel_rfl)
                  refine onG rfl (by kernel_rfl) eG ?_
                  intro bA K Q' hK
                  have e9 := hS 9 (by kernel_rfl)
                  change ρ (.tmp 9) = _ at e9
                  obtain ⟨⟨y0, y1⟩, ⟨y2, y3⟩, ⟨y4, y5⟩, ⟨y6, y7⟩, y8, y9⟩ := HCY.out w5 hR
                  simp only [execOp]
                  go_simp
                  exact hK _ _ rfl (Grew.refl _)
                · have eG : ρ (.tmp 122) = _ := hG 5 122 (by decide) (by kernel_rfl) (by kernel_rfl)
                  refine onG rfl (by kernel_rfl) eG ?_
                  intro bA K Q' hK
                  have e123 := hG 6 123 (by decide) (by kernel_rfl) (by kernel_rfl)
                  change ρ (.tmp 123) = _ at e123
                  simp only [execOp]
                  go_simp
                  refine (of_x lf (HCX.out w5 hR).1.1).mono ?_
                  rintro r9 w9 ⟨⟨a9, n9, c9, rfl, h9⟩, hb9⟩
                  exact hK _ _ ⟨_, _, _, rfl, h9⟩ hb9
                · have eG : ρ (.tmp 122) = _ := hG 5 122 (by decide) (by kernel_rfl) (by kernel_rfl)
                  refine onG rfl (by kernel_rfl) eG ?_
                  intro bA K Q' hK
                  have e7 := hS 7 (by kernel_rfl)
                  change ρ (.tmp 7) = _ at e7
                  simp only [execOp]
                  go_simp
                  exact hK _ _ rfl (Grew.refl _)
                · have eG : ρ (.tmp 122) = _ := hG 5 122 (by decide) (by kernel_rfl) (by kernel_rfl)
                  refine onG rfl (by kernel_rfl) eG ?_
                  intro bA K Q' hK
                  have e125 := hG 8 125 (by decide) (by kernel_rfl) (by kernel_rfl)
                  change ρ (.tmp 125) = _ at e125
                  obtain ⟨⟨y0, y1⟩, ⟨y2, y3⟩, ⟨y4, y5⟩, ⟨y6, y7⟩, y8, y9⟩ := HCY.out w5 hR
                  simp only [execOp]
                  go_simp
                  exact hK _ _ rfl (Grew.refl _)
                · have eG : ρ (.tmp 122) = _ := hG 5 122 (by decide) (by kernel_rfl) (by kernel_rfl)
                  refine onG rfl (by kernel_rfl) eG ?_
                  intro bA K Q' hK
                  have e7 := hS 7 (by kernel_rfl)
                  change ρ (.tmp 7) = _ at e7
                  simp only [execOp]
                  go_simp
                  exact hK _ _ rfl (Grew.refl _)
                · have eG : ρ (.tmp 122) = _ := hG 5 122 (by decide) (by kernel_rfl) (by kernel_rfl)
                  refine onG rfl (by kernel_rfl) eG ?_
                  intro bA K Q' hK
                  have e127 := hG 10 127 (by decide) (by kernel_rfl) (by kernel_rfl)
                  change ρ (.tmp 127) = _ at e127
                  obtain ⟨⟨y0, y1⟩, ⟨y2, y3⟩, ⟨y4, y5⟩, ⟨y6, y7⟩, y8, y9⟩ := HCY.out w5 hR
                  simp only [execOp]
                  go_simp
                  exact hK _ _ rfl (Grew.refl _)
                · have eG : ρ (.tmp 122) = _ := hG 5 122 (by decide) (by kernel_rfl) (by kernel_rfl)
                  refine onG rfl (by kernel_rfl) eG ?_
                  intro bA K Q' hK
                  have e16 := hS 16 (by kernel_rfl)
                  change ρ (.tmp 16) = _ at e16
                  simp only [execOp]
                  go_simp
                  exact hK _ _ rfl (Grew.refl _)
                · have eG : ρ (.tmp 122) = _ := hG 5 122 (by decide) (by kernel_rfl) (by kernel_rfl)
                  refine onG rfl (by kernel_rfl) eG ?_
                  intro bA K Q' hK
                  have e128 := hG 11 128 (by decide) (by kernel_rfl) (by kernel_rfl)
                  have e129 := hG 12 129 (by decide) (by kernel_rfl) (by kernel_rfl)
                  change ρ (.tmp 128) = _ at e128
                  change ρ (.tmp 129) = _ at e129
                  simp only [execOp]
                  go_simp
                  exact hK _ _ rfl (Grew.refl _)
                · have eG : ρ (.tmp 122) = _ := hG 5 122 (by decide) (by kernel_rfl) (by kernel_rfl)
                  refine onG rfl (by kernel_rfl) eG ?_
                  intro bA K Q' hK
                  have e126 := hG 9 126 (by decide) (by kernel_rfl) (by kernel_rfl)
                  have e130 := hG 13 130 (by decide) (by kernel_rfl) (by kernel_rfl)
                  change ρ (.tmp 126) = _ at e126
                  change ρ (.tmp 130) = _ at e130
                  simp only [execOp]
                  go_simp
                  exact hK _ _ rfl (Grew.refl _)
                · have eG : ρ (.tmp 122) = _ := hG 5 122 (by decide) (by kernel_rfl) (by kernel_rfl)
                  refine onG rfl (by kernel_rfl) eG ?_
                  intro bA K Q' hK
                  have e124 := hG 7 124 (by decide) (by kernel_rfl) (by kernel_rfl)
                  have e131 := hG 14 131 (by decide) (by kernel_rfl) (by kernel_rfl)
                  skip
                  change ρ (.tmp 131) = _ at e131
                  obtain ⟨a9, n9, c9, e124', h29⟩ := e124
                  change ρ (.tmp 124) = _ at e124'
                  simp only [execOp]
                  go_simp
                  refine (same_x lf h29 (HCX.out w5 hR).2.1.1).mono ?_
                  rintro r9 w9 ⟨rfl, hb9⟩
                  exact hK _ _ rfl hb9
                · refine plainG rfl ?_
                  intro bA K Q' hK
                  have e122 := hG 5 122 (by decide) (by kernel_rfl) (by kernel_rfl)
                  have e132 := hG 15 132 (by decide) (by kernel_rfl) (by kernel_rfl)
                  change ρ (.tmp 122) = _ at e122
                  change ρ (.tmp 132) = _ at e132
                  simp only [execOp]
                  go_simp
                  exact hK _ _ rfl (Grew.refl _)
                · refine plainG rfl ?_
                  intro bA K Q' hK
                  have e133 := hG 16 133 (by decide) (by kernel_rfl) (by kernel_rfl)
                  change ρ (.tmp 133) = _ at e133
                  simp only [execOp]
                  go_simp
                  exact hK _ _ rfl (Grew.refl _)
                · have eG : ρ (.tmp 134) = _ := hG 17 134 (by decide) (by kernel_rfl) (by kernel_rfl)
                  refine onG rfl (by kernel_rfl) eG ?_
                  intro bA K Q' hK
                  have e10 := hS 10 (by kernel_rfl)
                  change ρ (.tmp 10) = _ at e10
                  obtain ⟨⟨y0, y1⟩, ⟨y2, y3⟩, ⟨y4, y5⟩, ⟨y6, y7⟩, y8, y9⟩ := HCY.out w5 hR
                  simp only [execOp]
                  go_simp
                  exact hK _ _ rfl (Grew.refl _)
                · have eG : ρ (.tmp 134) = _ := hG 17 134 (by decide) (by kernel_rfl) (by kernel_rfl)
                  refine onG rfl (by kernel_rfl) eG ?_
                  intro bA K Q' hK
                  have e135 := hG 18 135 (by decide) (by kernel_rfl) (by kernel_rfl)
                  change ρ (.tmp 135) = _ at e135
                  simp only [execOp]
                  go_simp
                  refine (of_x lf (HCX.out w5 hR).1.2).mono ?_
                  rintro r9 w9 ⟨⟨a9, n9, c9, rfl, h9⟩, hb9⟩
                  exact hK _ _ ⟨_, _, _, rfl, h9⟩ hb9
                · have eG : ρ (.tmp 134) = _ := hG 17 134 (by decide) (by kernel_rfl) (by kernel_rfl)
                  refine onG rfl (by kernel_rfl) eG ?_
                  intro bA K Q' hK
                  have e7 := hS 7 (by kernel_rfl)
                  change ρ (.tmp 7) = _ at e7
                  simp only [execOp]
                  go_simp
                  exact hK _ _ rfl (Grew.refl _)
                · have eG : ρ (.tmp 134) = _ := hG 17 134 (by decide) (by kernel_rfl) (by kernel_rfl)
                  refine onG rfl (by kernel_rfl) eG ?_
                  intro bA K Q' hK
                  have e137 := hG 20 137 (by decide) (by kernel_rfl) (by kernel_rfl)
                  change ρ (.tmp 137) = _ at e137
                  obtain ⟨⟨y0, y1⟩, ⟨y2, y3⟩, ⟨y4, y5⟩, ⟨y6, y7⟩, y8, y9⟩ := HCY.out w5 hR
                  simp only [execOp]
                  go_simp
                  exact hK _ _ rfl (Grew.refl _)
                · have eG : ρ (.tmp 134) = _ := hG 17 134 (by decide) (by kernel_rfl) (by kernel_rfl)
                  refine onG rfl (by kernel_rfl) eG ?_
                  intro bA K Q' hK
                  have e7 := hS 7 (by kernel_rfl)
                  change ρ (.tmp 7) = _ at e7
                  simp only [execOp]
                  go_simp
                  exact hK _ _ rfl (Grew.refl _)
                · have eG : ρ (.tmp 134) = _ := hG 17 134 (by decide) (by kernel_rfl) (by kernel_rfl)
                  refine onG rfl (by kernel_rfl) eG ?_
                  intro bA K Q' hK
                  have e139 := hG 22 139 (by decide) (by kernel_rfl) (by kernel_rfl)
                  change ρ (.tmp 139) = _ at e139
                  obtain ⟨⟨y0, y1⟩, ⟨y2, y3⟩, ⟨y4, y5⟩, ⟨y6, y7⟩, y8, y9⟩ := HCY.out w5 hR
                  simp only [execOp]
                  go_simp
                  exact hK _ _ rfl (Grew.refl _)
                · have eG : ρ (.tmp 134) = _ := hG 17 134 (by decide) (by kernel_rfl) (by kernel_rfl)
                  refine onG rfl (by kernel_rfl) eG ?_
                  intro bA K Q' hK
                  have e16 := hS 16 (by kernel_rfl)
                  change ρ (.tmp 16) = _ at e16
                  simp only [execOp]
                  go_simp
                  exact hK _ _ rfl (Grew.refl _)
                · have eG : ρ (.tmp 134) = _ := hG 17 134 (by decide) (by kernel_rfl) (by kernel_rfl)
                  refine onG rfl (by kernel_rfl) eG ?_
                  intro bA K Q' hK
                  have e140 := hG 23 140 (by decide) (by kernel_rfl) (by kernel_rfl)
                  have e141 := hG 24 141 (by decide) (by kernel_rfl) (by kernel_rfl)
                  change ρ (.tmp 140) = _ at e140
                  change ρ (.tmp 141) = _ at e141
                  have hob := HAB.out.1
                  have hnb := HAB.out.2.1
                  have hcb := HAB.out.2.2.1
                  have hck := HAB.out.2.2.2
                  simp only [execOp]
                  go_simp
                  exact hK _ _ rfl (Grew.refl _)
                · have eG : ρ (.tmp 134) = _ := hG 17 134 (by decide) (by kernel_rfl) (by kernel_rfl)
                  refine onG rfl (by kernel_rfl) eG ?_
                  intro bA K Q' hK
                  have e138 := hG 21 138 (by decide) (by kernel_rfl) (by kernel_rfl)
                  have e142 := hG 25 142 (by decide) (by kernel_rfl) (by kernel_rfl)
                  change ρ (.tmp 138) = _ at e138
                  change ρ (.tmp 142) = _ at e142
                  simp only [execOp]
                  go_simp
                  exact hK _ _ rfl (Grew.refl _)
                · have eG : ρ (.tmp 134) = _ := hG 17 134 (by decide) (by kernel_rfl) (by kernel_rfl)
                  refine onG rfl (by kernel_rfl) eG ?_
                  intro bA K Q' hK
                  have e136 := hG 19 136 (by decide) (by kernel_rfl) (by kernel_rfl)
                  have e143 := hG 26 143 (by decide) (by kernel_rfl) (by kernel_rfl)
                  skip
                  change ρ (.tmp 143) = _ at e143
                  obtain ⟨a9, n9, c9, e136', h29⟩ := e136
                  change ρ (.tmp 136) = _ at e136'
                  simp only [execOp]
                  go_simp
                  refine (same_x lf h29 (HCX.out w5 hR).2.1.2).mono ?_
                  rintro r9 w9 ⟨rfl, hb9⟩
                  exact hK _ _ rfl hb9
                · refine plainG rfl ?_
                  intro bA K Q' hK
                  have e134 := hG 17 134 (by decide) (by kernel_rfl) (by kernel_rfl)
                  have e144 := hG 27 144 (by decide) (by kernel_rfl) (by kernel_rfl)
                  change ρ (.tmp 134) = _ at e134
                  change ρ (.tmp 144) = _ at e144
                  simp only [execOp]
                  go_simp
                  exact hK _ _ rfl (Grew.refl _)
                · refine plainG rfl ?_
                  intro bA K Q' hK
                  have e145 := hG 28 145 (by decide) (by kernel_rfl) (by kernel_rfl)
                  change ρ (.tmp 145) = _ at e145
                  simp only [execOp]
                  go_simp
                  exact hK _ _ rfl (Grew.refl _)
                · have eG : ρ (.tmp 146) = _ := hG 29 146 (by decide) (by kernel_rfl) (by kernel_rfl)
                  refine onG rfl (by kernel_rfl) eG ?_
                  intro bA K Q' hK
                  have e18 := hS 18 (by kernel_rfl)
                  change ρ (.tmp 18) = _ at e18
                  simp only [execOp]
                  go_simp
                  exact hK _ _ rfl (Grew.refl _)
                · have eG : ρ (.tmp 146) = _ := hG 29 146 (by decide) (by kernel_rfl) (by kernel_rfl)
                  refine onG rfl (by kernel_rfl) eG ?_
                  intro bA K Q' hK
                  have e147 := hG 30 147 (by decide) (by kernel_rfl) (by kernel_rfl)
                  change ρ (.tmp 147) = _ at e147
                  simp only [execOp]
                  go_simp
                  exact hK _ _ rfl (Grew.refl _)
                · refine plainG rfl ?_
                  intro bA K Q' hK
                  have e146 := hG 29 146 (by decide) (by kernel_rfl) (by kernel_rfl)
                  have e148 := hG 31 148 (by decide) (by kernel_rfl) (by kernel_rfl)
                  change ρ (.tmp 146) = _ at e146
                  change ρ (.tmp 148) = _ at e148
                  simp only [execOp]
                  go_simp
                  exact hK _ _ rfl (Grew.refl _)
                · refine plainG rfl ?_
                  intro bA K Q' hK
                  have e149 := hG 32 149 (by decide) (by kernel_rfl) (by kernel_rfl)
                  change ρ (.tmp 149) = _ at e149
                  simp only [execOp]
                  go_simp
                  exact hK _ _ rfl (Grew.refl _)
                · have eG : ρ (.tmp 150) = _ := hG 33 150 (by decide) (by kernel_rfl) (by kernel_rfl)
                  refine onG rfl (by kernel_rfl) eG ?_
                  intro bA K Q' hK
                  have e17 := hS 17 (by kernel_rfl)
                  change ρ (.tmp 17) = _ at e17
                  obtain ⟨⟨y0, y1⟩, ⟨y2, y3⟩, ⟨y4, y5⟩, ⟨y6, y7⟩, y8, y9⟩ := HCY.out w5 hR
                  simp only [execOp]
                  go_simp
                  exact hK _ _ rfl (Grew.refl _)
                · have eG : ρ (.tmp 150) = _ := hG 33 150 (by decide) (by kernel_rfl) (by kernel_rfl)
                  refine onG rfl (by kernel_rfl) eG ?_
                  intro bA K Q' hK
                  have e5 := hS 5 (by kernel_rfl)
                  change ρ (.tmp 5) = _ at e5
                  obtain ⟨⟨y0, y1⟩, ⟨y2, y3⟩, ⟨y4, y5⟩, ⟨y6, y7⟩, y8, y9⟩ := HCY.out w5 hR
                  simp only [execOp]
                  go_simp
                  exact hK _ _ rfl (Grew.refl _)
                · have eG : ρ (.tmp 150) = _ := hG 33 150 (by decide) (by kernel_rfl) (by kernel_rfl)
                  refine onG rfl (by kernel_rfl) eG ?_
                  intro bA K Q' hK
                  have e151 := hG 34 151 (by decide) (by kernel_rfl) (by kernel_rfl)
                  have e152 := hG 35 152 (by decide) (by kernel_rfl) (by kernel_rfl)
                  change ρ (.tmp 151) = _ at e151
                  change ρ (.tmp 152) = _ at e152
                  simp only [execOp]
                  go_simp
                  refine (HP.out.nSame a8 ap1 n8 np1 c8 cp1 lf xs _ (HCX.out w5 hR).2.2.1 (HCX.out w5 hR).2.2.2).mono ?_
                  rintro r9 w9 ⟨rfl, hb9⟩
                  exact hK _ _ rfl hb9
                · refine plainG rfl ?_
                  intro bA K Q' hK
                  have e150 := hG 33 150 (by decide) (by kernel_rfl) (by kernel_rfl)
                  have e153 := hG 36 153 (by decide) (by kernel_rfl) (by kernel_rfl)
                  change ρ (.tmp 150) = _ at e150
                  change ρ (.tmp 153) = _ at e153
                  simp only [execOp]
                  go_simp
                  exact hK _ _ rfl (Grew.refl _)
              · skip
                intro vv w16 hR hG
                have h9 : vv 37 = .bool true := hG.2
                have HBZ : Hid (Below W.heap.size W w16) := hid (HB_15.out.trans ((grewDrew hR).mono HB_15.out.size))
                clear hG hR HCX HCY
                simp [stG, stU, dstAt, Act.put, h9]
                clear h9
                go_wp2_with fail
                go_ret
                exact ⟨rfl, HBZ.out⟩
        · have hLM : (lf != mf) = false := by rw [hc.out.2.2.1]; simp
          have hLM2 : (lf == mf) = true := by rw [hc.out.2.2.1]; simp
          have hLM3 : (lf = mf) = True := eq_true hc.out.2.2.1
          have hLM4 : (!(lf == mf)) = false := by rw [hLM2]; rfl
          have h1 : Mg = chkN lf (xs ++ ys) := HSM.out.2.trans (mg_e' hc.out.1 hc.out.2.1 hc.out.2.2.1 hc.out.2.2.2.1)
          have hl1 : (np14 : Int) ≤ 16 := by have := Hp14_8.out.1; have := hc.out.2.2.2.1; omega
          have hl2 : decide ((16 : Int) < np14) = false := decide_eq_false (by omega)
          have h0 : Mg = 0 := h1.trans hc.out.2.2.2.2
          have h12 := HNp12_8.out h0
          clear HNp12_8
          subst h0
          have HK3 := hid h1
          have h13 := h12.1.symm
          subst h13
          have Hp12_8 := hid h12.2
          clear h1 h12
          have hc0p2 : w8.cell? ⟨gp2, 0, none⟩ = some (.bool lf) := by rw [cell_of_row _ _ _ _ _ _ p2_8.out]; rfl
          have hc1p2 : w8.cell? ⟨gp2, 1, none⟩ = some (.slice ap2 np2 cp2) := by rw [cell_of_row _ _ _ _ _ _ p2_8.out]; rfl
          go_wp2_with fail
          clear hc0p2 hc1p2
          have h := chk_x lf Hp2_8.out
          rw [hc.out.1] at h
          have HCK := hid h
          clear h
          refine (HCK.out).mono ?_
          rintro e w9 ⟨rfl, hb⟩
          have p1_9 := hid (row_below p1_8.out hb)
          clear p1_8
          have Hp1_9 := hid (Hp1_8.out.below hb)
          clear Hp1_8
          have p3_9 := hid (row_below p3_8.out hb)
          clear p3_8
          have Hp3_9 := hid (Hp3_8.out.below hb)
          clear Hp3_8
          have p2_9 := hid (row_below p2_8.out hb)
          clear p2_8
          have Hp2_9 := hid (Hp2_8.out.below hb)
          clear Hp2_8
          have p4_9 := hid (row_below p4_8.out hb)
          clear p4_8
          have Hp4_9 := hid (Hp4_8.out.below hb)
          clear Hp4_8
          have HNp9_9 : Hid (Sp = 0 → l5 = lf ∧ NdOk w9 a5 n5 c5 (xs.take (xs.length / 2))) := hid (fun hp => ⟨(HNp9_8.out hp).1, (HNp9_8.out hp).2.below hb⟩)
          clear HNp9_8
          have HNp10_9 : Hid (Sp = 0 → l6 = lf ∧ NdOk w9 a6 n6 c6 (xs.drop (xs.length / 2))) := hid (fun hp => ⟨(HNp10_8.out hp).1, (HNp10_8.out hp).2.below hb⟩)
          clear HNp10_8
          have p9_9 := hid (row_below p9_8.out hb)
          clear p9_8
          have p10_9 := hid (row_below p10_8.out hb)
          clear p10_8
          have p12_9 := hid (row_below p12_8.out hb)
          clear p12_8
          have p14_9 := hid (row_below p14_8.out hb)
          clear p14_8
          have Hp14_9 := hid (Hp14_8.out.below hb)
          clear Hp14_8
          have Hp12_9 := hid (Hp12_8.out.below hb)
          clear Hp12_8
          have HB_9 : Hid (Below W.heap.size W w9) := hid (HB_8.out.trans ((hb).mono HB_8.out.size))
          clear HB_8
          clear hb
          clear HCK
          have hc0p4 : w9.cell? ⟨gp4, 0, none⟩ = some (.bool mf) := by rw [cell_of_row _ _ _ _ _ _ p4_9.out]; rfl
          have hc1p4 : w9.cell? ⟨gp4, 1, none⟩ = some (.slice ap4 np4 cp4) := by rw [cell_of_row _ _ _ _ _ _ p4_9.out]; rfl
          go_wp2_with fail
          clear hc0p4 hc1p4
          have h := chk_x mf Hp4_9.out
          rw [hc.out.2.1] at h
          have HCK := hid h
          clear h
          refine (HCK.out).mono ?_
          rintro e w10 ⟨rfl, hb⟩
          have p1_10 := hid (row_below p1_9.out hb)
          clear p1_9
          have Hp1_10 := hid (Hp1_9.out.below hb)
          clear Hp1_9
          have p3_10 := hid (row_below p3_9.out hb)
          clear p3_9
          have Hp3_10 := hid (Hp3_9.out.below hb)
          clear Hp3_9
          have p2_10 := hid (row_below p2_9.out hb)
          clear p2_9
          have Hp2_10 := hid (Hp2_9.out.below hb)
          clear Hp2_9
          have p4_10 := hid (row_below p4_9.out hb)
          clear p4_9
          have Hp4_10 := hid (Hp4_9.out.below hb)
          clear Hp4_9
          have HNp9_10 : Hid (Sp = 0 → l5 = lf ∧ NdOk w10 a5 n5 c5 (xs.take (xs.length / 2))) := hid (fun hp => ⟨(HNp9_9.out hp).1, (HNp9_9.out hp).2.below hb⟩)
          clear HNp9_9
          have HNp10_10 : Hid (Sp = 0 → l6 = lf ∧ NdOk w10 a6 n6 c6 (xs.drop (xs.length / 2))) := hid (fun hp => ⟨(HNp10_9.out hp).1, (HNp10_9.out hp).2.below hb⟩)
          clear HNp10_9
          have p9_10 := hid (row_below p9_9.out hb)
          clear p9_9
          have p10_10 := hid (row_below p10_9.out hb)
          clear p10_9
          have p12_10 := hid (row_below p12_9.out hb)
          clear p12_9
          have p14_10 := hid (row_below p14_9.out hb)
          clear p14_9
          have Hp14_10 := hid (Hp14_9.out.below hb)
          clear Hp14_9
          have Hp12_10 := hid (Hp12_9.out.below hb)
          clear Hp12_9
          have HB_10 : Hid (Below W.heap.size W w10) := hid (HB_9.out.trans ((hb).mono HB_9.out.size))
          clear HB_9
          clear hb
          clear HCK
          have hc0p2 : w10.cell? ⟨gp2, 0, none⟩ = some (.bool lf) := by rw [cell_of_row _ _ _ _ _ _ p2_10.out]; rfl
          have hc1p2 : w10.cell? ⟨gp2, 1, none⟩ = some (.slice ap2 np2 cp2) := by rw [cell_of_row _ _ _ _ _ _ p2_10.out]; rfl
          have hc0p4 : w10.cell? ⟨gp4, 0, none⟩ = some (.bool mf) := by rw [cell_of_row _ _ _ _ _ _ p4_10.out]; rfl
          have hc1p4 : w10.cell? ⟨gp4, 1, none⟩ = some (.slice ap4 np4 cp4) := by rw [cell_of_row _ _ _ _ _ _ p4_10.out]; rfl
          have hc0p14 : w10.cell? ⟨gp14, 0, none⟩ = some (.bool lf) := by rw [cell_of_row _ _ _ _ _ _ p14_10.out]; rfl
          have hc1p14 : w10.cell? ⟨gp14, 1, none⟩ = some (.slice ap14 np14 cp14) := by rw [cell_of_row _ _ _ _ _ _ p14_10.out]; rfl
          go_wp2_with fail
          clear hc0p2 hc1p2 hc0p4 hc1p4 hc0p14 hc1p14
          have h := chk_x lf Hp14_10.out
          rw [← HK3.out] at h
          have HCK := hid h
          clear h
          refine (HCK.out).mono ?_
          rintro e w11 ⟨rfl, hb⟩
          have p1_11 := hid (row_below p1_10.out hb)
          clear p1_10
          have Hp1_11 := hid (Hp1_10.out.below hb)
          clear Hp1_10
          have p3_11 := hid (row_below p3_10.out hb)
          clear p3_10
          have Hp3_11 := hid (Hp3_10.out.below hb)
          clear Hp3_10
          have p2_11 := hid (row_below p2_10.out hb)
          clear p2_10
          have Hp2_11 := hid (Hp2_10.out.below hb)
          clear Hp2_10
          have p4_11 := hid (row_below p4_10.out hb)
          clear p4_10
          have Hp4_11 := hid (Hp4_10.out.below hb)
          clear Hp4_10
          have HNp9_11 : Hid (Sp = 0 → l5 = lf ∧ NdOk w11 a5 n5 c5 (xs.take (xs.length / 2))) := hid (fun hp => ⟨(HNp9_10.out hp).1, (HNp9_10.out hp).2.below hb⟩)
          clear HNp9_10
          have HNp10_11 : Hid (Sp = 0 → l6 = lf ∧ NdOk w11 a6 n6 c6 (xs.drop (xs.length / 2))) := hid (fun hp => ⟨(HNp10_10.out hp).1, (HNp10_10.out hp).2.below hb⟩)
          clear HNp10_10
          have p9_11 := hid (row_below p9_10.out hb)
          clear p9_10
          have p10_11 := hid (row_below p10_10.out hb)
          clear p10_10
          have p12_11 := hid (row_below p12_10.out hb)
          clear p12_10
          have p14_11 := hid (row_below p14_10.out hb)
          clear p14_10
          have Hp14_11 := hid (Hp14_10.out.below hb)
          clear Hp14_10
          have Hp12_11 := hid (Hp12_10.out.below hb)
          clear Hp12_10
          have HB_11 : Hid (Below W.heap.size W w11) := hid (HB_10.out.trans ((hb).mono HB_10.out.size))
          clear HB_10
          clear hb
          clear HCK
          go_upto_region 15 with fail
          have HCX : Hid (∀ x, Grew w11.drew x → NdOk x a7 n7 c7 (xs ++ ys) ∧ NdOk x ap14 np14 cp14 (xs ++ ys)) := hid fun x hx => ⟨Hp12_11.out.below (grewDrew hx), Hp14_11.out.below (grewDrew hx)⟩
          have HCY : Hid (∀ x, Grew w11.drew x → x.cell? ⟨gp12, 0, none⟩ = some (.bool lf) ∧ x.cell? ⟨gp12, 1, none⟩ = some (.slice a7 n7 c7) ∧ x.cell? ⟨gp14, 0, none⟩ = some (.bool lf) ∧ x.cell? ⟨gp14, 1, none⟩ = some (.slice ap14 np14 cp14)) := hid fun x hx => by
            have h1 := row_below p12_11.out (grewDrew hx)
            have h2 := row_below p14_11.out (grewDrew hx)
            exact ⟨by rw [cell_of_row _ _ _ _ _ _ h1]; rfl, by rw [cell_of_row _ _ _ _ _ _ h1]; rfl, by rw [cell_of_row _ _ _ _ _ _ h2]; rfl, by rw [cell_of_row _ _ _ _ _ _ h2]; rfl⟩
          refine wp_region_grows 14 [EqN (.int .i64 0), EqN (.int .i64 0), EqN (.bool false), EqN (.bool false), EqN (.int .i64 0), EqN (.bool true), EqN (.bool true), EqN (.agg #[.bool lf, .slice a7 n7 c7]), (fun x v => NdV x v lf (xs ++ ys)), EqN (.agg #[.bool lf, .slice ap14 np14 cp14]), EqN (.bool true), EqN (.bool false), EqN (.bool false), EqN (.bool false)] (by kernel_rfl) (by decide) (by kernel_rfl) ?_ ?_ ?_
          · repeat' (first | exact List.forall_mem_nil _ | refine List.forall_mem_cons.2 ⟨?_, ?_⟩)
            all_goals
              intro w w' v hw h
              first | exact h | exact NdV.grew hw h
          · simp only [AllLt]
            refine ⟨⟨⟨⟨⟨⟨⟨⟨⟨⟨⟨⟨⟨⟨trivial, ?_⟩, ?_⟩, ?_⟩, ?_⟩, ?_⟩, ?_⟩, ?_⟩, ?_⟩, ?_⟩, ?_⟩, ?_⟩, ?_⟩, ?_⟩, ?_⟩
            all_goals
              intro o' ho
              simp at ho
              subst ho
              intro ρ w5 hR hL hS hG
              obtain ⟨hl1, hl2, -⟩ := hL
            · refine plainG rfl ?_
              intro bA K Q' hK
              have e13 := hS 13 (by kernel_rfl)
              change ρ (.tmp 13) = _ at e13
              simp only [execOp]
              go_simp
              exact hK _ _ rfl (Grew.refl _)
            · refine plainG rfl ?_
              intro bA K Q' hK
              have e15 := hS 15 (by kernel_rfl)
              change ρ (.tmp 15) = _ at e15
              simp only [execOp]
              go_simp
              exact hK _ _ rfl (Grew.refl _)
            · refine plainG rfl ?_
              intro bA K Q' hK
              have e76 := hG 0 76 (by decide) (by kernel_rfl) (by kernel_rfl)
              have e77 := hG 1 77 (by decide) (by kernel_rfl) (by kernel_rfl)
              change ρ (.tmp 76) = _ at e76
              change ρ (.tmp 77) = _ at e77
              simp only [execOp]
              go_simp
              exact hK _ _ rfl (Grew.refl _)
            · refine plainG rfl ?_
              intro bA K Q' hK
              have e78 := hG 2 78 (by decide) (by kernel_rfl) (by kernel_rfl)
              change ρ (.tmp 78) = _ at e78
              simp only [execOp]
              go_simp
              exact hK _ _ rfl (Grew.refl _)
            · have eG : ρ (.tmp 79) = _ := hG 3 79 (by decide) (by kernel_rfl) (by kernel_rfl)
              refine onG rfl (by kernel_rfl) eG ?_
              intro bA K Q' hK
              have e15 := hS 15 (by kernel_rfl)
              change ρ (.tmp 15) = _ at e15
              simp only [execOp]
              go_simp
              exact hK _ _ rfl (Grew.refl _)
            · have eG : ρ (.tmp 79) = _ := hG 3 79 (by decide) (by kernel_rfl) (by kernel_rfl)
              refine onG rfl (by kernel_rfl) eG ?_
              intro bA K Q' hK
              have e80 := hG 4 80 (by decide) (by kernel_rfl) (by kernel_rfl)
              change ρ (.tmp 80) = _ at e80
              simp only [execOp]
              go_simp
              exact hK _ _ rfl (Grew.refl _)
            · have eG : ρ (.tmp 79) = _ := hG 3 79 (by decide) (by kernel_rfl) (by kernel_rfl)
              refine onG rfl (by kernel_rfl) eG ?_
              intro bA K Q' hK
              have e81 := hG 5 81 (by decide) (by kernel_rfl) (by kernel_rfl)
              change ρ (.tmp 81) = _ at e81
              simp only [execOp]
              go_simp
              exact hK _ _ rfl (Grew.refl _)
            · have eG : ρ (.tmp 82) = _ := hG 6 82 (by decide) (by kernel_rfl) (by kernel_rfl)
              refine onG rfl (by kernel_rfl) eG ?_
              intro bA K Q' hK
              have e12 := hS 12 (by kernel_rfl)
              change ρ (.tmp 12) = _ at e12
              obtain ⟨y0, y1, y2, y3⟩ := HCY.out w5 hR
              simp only [execOp]
              go_simp
              exact hK _ _ rfl (Grew.refl _)
            · have eG : ρ (.tmp 82) = _ := hG 6 82 (by decide) (by kernel_rfl) (by kernel_rfl)
              refine onG rfl (by kernel_rfl) eG ?_
              intro bA K Q' hK
              have e83 := hG 7 83 (by decide) (by kernel_rfl) (by kernel_rfl)
              change ρ (.tmp 83) = _ at e83
              simp only [execOp]
              go_simp
              refine (of_x lf (HCX.out w5 hR).1).mono ?_
              rintro r9 w9 ⟨⟨a9, n9, c9, rfl, h9⟩, hb9⟩
              exact hK _ _ ⟨_, _, _, rfl, h9⟩ hb9
            · have eG : ρ (.tmp 82) = _ := hG 6 82 (by decide) (by kernel_rfl) (by kernel_rfl)
              refine onG rfl (by kernel_rfl) eG ?_
              intro bA K Q' hK
              have e14 := hS 14 (by kernel_rfl)
              change ρ (.tmp 14) = _ at e14
              obtain ⟨y0, y1, y2, y3⟩ := HCY.out w5 hR
              simp only [execOp]
              go_simp
              exact hK _ _ rfl (Grew.refl _)
            · have eG : ρ (.tmp 82) = _ := hG 6 82 (by decide) (by kernel_rfl) (by kernel_rfl)
              refine onG rfl (by kernel_rfl) eG ?_
              intro bA K Q' hK
              have e84 := hG 8 84 (by decide) (by kernel_rfl) (by kernel_rfl)
              have e85 := hG 9 85 (by decide) (by kernel_rfl) (by kernel_rfl)
              skip
              change ρ (.tmp 85) = _ at e85
              obtain ⟨a9, n9, c9, e84', h29⟩ := e84
              change ρ (.tmp 84) = _ at e84'
              simp only [execOp]
              go_simp
              refine (same_x lf h29 (HCX.out w5 hR).2).mono ?_
              rintro r9 w9 ⟨rfl, hb9⟩
              exact hK _ _ rfl hb9
            · have eG : ρ (.tmp 82) = _ := hG 6 82 (by decide) (by kernel_rfl) (by kernel_rfl)
              refine onG rfl (by kernel_rfl) eG ?_
              intro bA K Q' hK
              have e86 := hG 10 86 (by decide) (by kernel_rfl) (by kernel_rfl)
              change ρ (.tmp 86) = _ at e86
              simp only [execOp]
              go_simp
              exact hK _ _ rfl (Grew.refl _)
            · have eG : ρ (.tmp 79) = _ := hG 3 79 (by decide) (by kernel_rfl) (by kernel_rfl)
              refine onG rfl (by kernel_rfl) eG ?_
              intro bA K Q' hK
              have e82 := hG 6 82 (by decide) (by kernel_rfl) (by kernel_rfl)
              have e87 := hG 11 87 (by decide) (by kernel_rfl) (by kernel_rfl)
              change ρ (.tmp 82) = _ at e82
              change ρ (.tmp 87) = _ at e87
              simp only [execOp]
              go_simp
              exact hK _ _ rfl (Grew.refl _)
            · refine plainG rfl ?_
              intro bA K Q' hK
              have e79 := hG 3 79 (by decide) (by kernel_rfl) (by kernel_rfl)
              have e88 := hG 12 88 (by decide) (by kernel_rfl) (by kernel_rfl)
              change ρ (.tmp 79) = _ at e79
              change ρ (.tmp 88) = _ at e88
              simp only [execOp]
              go_simp
              exact hK _ _ rfl (Grew.refl _)
          · skip
            intro vv w12 hR hG
            have h9 : vv 13 = .bool false := hG.2
            have hb := grewDrew hR
            clear hG hR HCX HCY
            have p1_12 := hid (row_below p1_11.out hb)
            clear p1_11
            have Hp1_12 := hid (Hp1_11.out.below hb)
            clear Hp1_11
            have p3_12 := hid (row_below p3_11.out hb)
            clear p3_11
            have Hp3_12 := hid (Hp3_11.out.below hb)
            clear Hp3_11
            have p2_12 := hid (row_below p2_11.out hb)
            clear p2_11
            have Hp2_12 := hid (Hp2_11.out.below hb)
            clear Hp2_11
            have p4_12 := hid (row_below p4_11.out hb)
            clear p4_11
            have Hp4_12 := hid (Hp4_11.out.below hb)
            clear Hp4_11
            have HNp9_12 : Hid (Sp = 0 → l5 = lf ∧ NdOk w12 a5 n5 c5 (xs.take (xs.length / 2))) := hid (fun hp => ⟨(HNp9_11.out hp).1, (HNp9_11.out hp).2.below hb⟩)
            clear HNp9_11
            have HNp10_12 : Hid (Sp = 0 → l6 = lf ∧ NdOk w12 a6 n6 c6 (xs.drop (xs.length / 2))) := hid (fun hp => ⟨(HNp10_11.out hp).1, (HNp10_11.out hp).2.below hb⟩)
            clear HNp10_11
            have p9_12 := hid (row_below p9_11.out hb)
            clear p9_11
            have p10_12 := hid (row_below p10_11.out hb)
            clear p10_11
            have p12_12 := hid (row_below p12_11.out hb)
            clear p12_11
            have p14_12 := hid (row_below p14_11.out hb)
            clear p14_11
            have Hp14_12 := hid (Hp14_11.out.below hb)
            clear Hp14_11
            have Hp12_12 := hid (Hp12_11.out.below hb)
            clear Hp12_11
            have HB_12 : Hid (Below W.heap.size W w12) := hid (HB_11.out.trans ((hb).mono HB_11.out.size))
            clear HB_11
            clear hb
            simp [stG, stU, dstAt, Act.put, h9]
            clear h9
            have hc0p2 : w12.cell? ⟨gp2, 0, none⟩ = some (.bool lf) := by rw [cell_of_row _ _ _ _ _ _ p2_12.out]; rfl
            have hc1p2 : w12.cell? ⟨gp2, 1, none⟩ = some (.slice ap2 np2 cp2) := by rw [cell_of_row _ _ _ _ _ _ p2_12.out]; rfl
            go_wp2_with fail
            clear hc0p2 hc1p2
            have h := chk_x lf Hp2_12.out
            rw [hc.out.1] at h
            have HCK := hid h
            clear h
            refine (HCK.out).mono ?_
            rintro e w13 ⟨rfl, hb⟩
            have p1_13 := hid (row_below p1_12.out hb)
            clear p1_12
            have Hp1_13 := hid (Hp1_12.out.below hb)
            clear Hp1_12
            have p3_13 := hid (row_below p3_12.out hb)
            clear p3_12
            have Hp3_13 := hid (Hp3_12.out.below hb)
            clear Hp3_12
            have p2_13 := hid (row_below p2_12.out hb)
            clear p2_12
            have Hp2_13 := hid (Hp2_12.out.below hb)
            clear Hp2_12
            have p4_13 := hid (row_below p4_12.out hb)
            clear p4_12
            have Hp4_13 := hid (Hp4_12.out.below hb)
            clear Hp4_12
            have HNp9_13 : Hid (Sp = 0 → l5 = lf ∧ NdOk w13 a5 n5 c5 (xs.take (xs.length / 2))) := hid (fun hp => ⟨(HNp9_12.out hp).1, (HNp9_12.out hp).2.below hb⟩)
            clear HNp9_12
            have HNp10_13 : Hid (Sp = 0 → l6 = lf ∧ NdOk w13 a6 n6 c6 (xs.drop (xs.length / 2))) := hid (fun hp => ⟨(HNp10_12.out hp).1, (HNp10_12.out hp).2.below hb⟩)
            clear HNp10_12
            have p9_13 := hid (row_below p9_12.out hb)
            clear p9_12
            have p10_13 := hid (row_below p10_12.out hb)
            clear p10_12
            have p12_13 := hid (row_below p12_12.out hb)
            clear p12_12
            have p14_13 := hid (row_below p14_12.out hb)
            clear p14_12
            have Hp14_13 := hid (Hp14_12.out.below hb)
            clear Hp14_12
            have Hp12_13 := hid (Hp12_12.out.below hb)
            clear Hp12_12
            have HB_13 : Hid (Below W.heap.size W w13) := hid (HB_12.out.trans ((hb).mono HB_12.out.size))
            clear HB_12
            clear hb
            clear HCK
            have hc0p2 : w13.cell? ⟨gp2, 0, none⟩ = some (.bool lf) := by rw [cell_of_row _ _ _ _ _ _ p2_13.out]; rfl
            have hc1p2 : w13.cell? ⟨gp2, 1, none⟩ = some (.slice ap2 np2 cp2) := by rw [cell_of_row _ _ _ _ _ _ p2_13.out]; rfl
            go_upto_region 19 with fail
            obtain ⟨k, hk⟩ : ∃ k, k = np2 / 2 := ⟨_, rfl⟩
            have HKK := hid hk
            have hq1 : (np2 : Int) / 2 = (k : Int) := by omega
            have hq2 : Int.tdiv (np2 : Int) 2 = (k : Int) := by rw [Int.tdiv_eq_ediv_of_nonneg (by omega)]; exact hq1
            have hn18 : (np2 : Int) ≤ 18 := by have := Hp2_13.out.1; have := HXL.out; omega
            have hk9 : (k : Int) ≤ 9 := by omega
            clear hk
            go_upto_region 20 with fail
            clear hq1 hq2
            clear hc0p2 hc1p2
            by_cases hk0 : k = 0
            · have hz1 : ((k : Int) == 0) = true := by rw [hk0]; rfl
              have hz2 : (k = 0) = True := eq_true hk0
              obtain rfl : Sp = 11 := HSM.out.1.trans (sp_b hc.out.1 (by have h1 := Hp2_13.out.1; have h2 := HKK.out; omega))
              clear hk0
              clear HNp9_13
              clear HNp10_13
              go_wp2_with fail
              refine (known_any HP.out _).mono ?_
              rintro e w14 ⟨rfl, hb⟩
              have p1_14 := hid (row_below p1_13.out hb)
              clear p1_13
              have Hp1_14 := hid (Hp1_13.out.below hb)
              clear Hp1_13
              have p3_14 := hid (row_below p3_13.out hb)
              clear p3_13
              have Hp3_14 := hid (Hp3_13.out.below hb)
              clear Hp3_13
              have p2_14 := hid (row_below p2_13.out hb)
              clear p2_13
              have Hp2_14 := hid (Hp2_13.out.below hb)
              clear Hp2_13
              have p4_14 := hid (row_below p4_13.out hb)
              clear p4_13
              have Hp4_14 := hid (Hp4_13.out.below hb)
              clear Hp4_13
              have p9_14 := hid (row_below p9_13.out hb)
              clear p9_13
              have p10_14 := hid (row_below p10_13.out hb)
              clear p10_13
              have p12_14 := hid (row_below p12_13.out hb)
              clear p12_13
              have p14_14 := hid (row_below p14_13.out hb)
              clear p14_13
              have Hp14_14 := hid (Hp14_13.out.below hb)
              clear Hp14_13
              have Hp12_14 := hid (Hp12_13.out.below hb)
              clear Hp12_13
              have HB_14 : Hid (Below W.heap.size W w14) := hid (HB_13.out.trans ((hb).mono HB_13.out.size))
              clear HB_13
              clear hb
              go_wp2_with fail
              go_ret
              exact ⟨rfl, HB_14.out⟩
            · have hz1 : ((k : Int) == 0) = false := by rw [beq_eq_false_iff_ne]; omega
              have hz2 : (k = 0) = False := eq_false hk0
              have hlen : 2 ≤ xs.length := by have h1 := Hp2_13.out.1; have h2 := HKK.out; omega
              have hkx : xs.length / 2 = k := by have h1 := Hp2_13.out.1; have h2 := HKK.out; omega
              obtain rfl : Sp = 0 := HSM.out.1.trans (sp_c hc.out.1 hlen)
              have h5 := HNp9_13.out rfl
              have h6 := HNp10_13.out rfl
              rw [hkx] at h5 h6
              clear HNp9_13 HNp10_13
              obtain ⟨e5, h5⟩ := h5
              obtain ⟨e6, h6⟩ := h6
              have e5 := e5.symm
              have e6 := e6.symm
              subst e5
              subst e6
              have Hp9_13 := hid h5
              have Hp10_13 := hid h6
              have hkn : (k : Int) < np2 := by have h1 := Hp2_13.out.1; have h2 := HKK.out; omega
              have hnc2 : (np2 : Int) ≤ cp2 := by have h1 := Hp2_13.out.2.2.2.2.1.1; omega
              have hkc : (k : Int) ≤ cp2 := by omega
              have hkle : (k : Int) ≤ np2 := by omega
              have HKB : Hid (0 < k ∧ k < xs.length ∧ k = xs.length / 2) := hid ⟨by omega, by omega, hkx.symm⟩
              obtain ⟨bb, oo, hap, -⟩ := Hp2_13.out.2.1.cell (i := 0) (by omega)
              subst hap
              obtain ⟨ob, hob⟩ : ∃ ob, oo + k * 3 = ob := ⟨_, rfl⟩
              obtain ⟨nb, hnb⟩ : ∃ nb, np2 - k = nb := ⟨_, rfl⟩
              obtain ⟨cb, hcb⟩ : ∃ cb, cp2 - k = cb := ⟨_, rfl⟩
              have hck : (cp2 = k) = False := eq_false (by omega)
              have HAB := hid (And.intro hob (And.intro hnb (And.intro hcb hck)))
              have HML : Hid (∀ y, NdOk y a5 n5 c5 (xs.take k) → NdOk y a6 n6 c6 (xs.drop k) → Calls Try.prog 31 #[.agg #[.bool lf, .slice a5 n5 c5], .agg #[.bool lf, .slice a6 n6 c6]] y fun e w' => (∃ v, e = .returned (.tuple #[v, .int .i64 0]) ∧ NdF v ∧ NdV w' v lf xs) ∧ Below y.heap.size y w') := hid fun y h1 h2 => by
                have h0 : mgE lf (xs.take k) lf (xs.drop k) = 0 := merge_back hc.out.1 (by omega) (by omega)
                have h := HP.out.nMerge a5 a6 n5 n6 c5 c6 lf lf (xs.take k) (xs.drop k) y h1 h2
                rw [h0, List.take_append_drop] at h
                refine h.mono ?_
                rintro e w' ⟨⟨v, h3, h4, h5⟩, hb⟩
                exact ⟨⟨v, h3, h4, h5 rfl⟩, hb⟩
              clear h5 h6 hlen hkx hk0 hob hnb hcb hck
              clear p4_13
              clear p14_13
              clear Hp14_13
              clear Hp4_13
              clear Hp12_13
              clear p12_13
              have hc0p9 : w13.cell? ⟨gp9, 0, none⟩ = some (.bool lf) := by rw [cell_of_row _ _ _ _ _ _ p9_13.out]; rfl
              have hc1p9 : w13.cell? ⟨gp9, 1, none⟩ = some (.slice a5 n5 c5) := by rw [cell_of_row _ _ _ _ _ _ p9_13.out]; rfl
              have hc0p10 : w13.cell? ⟨gp10, 0, none⟩ = some (.bool lf) := by rw [cell_of_row _ _ _ _ _ _ p10_13.out]; rfl
              have hc1p10 : w13.cell? ⟨gp10, 1, none⟩ = some (.slice a6 n6 c6) := by rw [cell_of_row _ _ _ _ _ _ p10_13.out]; rfl
              go_wp2_with fail
              clear hc0p9 hc1p9 hc0p10 hc1p10
              refine (HML.out _ Hp9_13.out Hp10_13.out).mono ?_
              rintro e w14 ⟨⟨v, rfl, ⟨l8, a8, n8, c8, rfl⟩, hh⟩, hb⟩
              have p1_14 := hid (row_below p1_13.out hb)
              clear p1_13
              have Hp1_14 := hid (Hp1_13.out.below hb)
              clear Hp1_13
              have p3_14 := hid (row_below p3_13.out hb)
              clear p3_13
              have Hp3_14 := hid (Hp3_13.out.below hb)
              clear Hp3_13
              have p2_14 := hid (row_below p2_13.out hb)
              clear p2_13
              have Hp2_14 := hid (Hp2_13.out.below hb)
              clear Hp2_13
              have p9_14 := hid (row_below p9_13.out hb)
              clear p9_13
              have p10_14 := hid (row_below p10_13.out hb)
              clear p10_13
              have Hp9_14 := hid (Hp9_13.out.below hb)
              clear Hp9_13
              have Hp10_14 := hid (Hp10_13.out.below hb)
              clear Hp10_13
              have HB_14 : Hid (Below W.heap.size W w14) := hid (HB_13.out.trans ((hb).mono HB_13.out.size))
              clear HB_13
              clear hb
              clear HML
              have h8 := ndv_imp hh
              clear hh
              obtain ⟨e8, h8⟩ := h8
              have e8 := e8.symm
              subst e8
              have Hp17_14 := hid h8
              clear h8
              obtain ⟨w15, hw15⟩ : ∃ y, y = w14.alloc (.cells #[.bool lf, .slice a8 n8 c8] 27) := ⟨_, rfl⟩
              have hb : Below w14.heap.size w14 w15 := by rw [hw15]; exact allocBelow w14 _
              obtain ⟨gp17, hgp17⟩ : ∃ g, g = w14.heap.size := ⟨_, rfl⟩
              have hr : w15.heap[gp17]? = some (.cells #[.bool lf, .slice a8 n8 c8] 27 (0, 0)) := by rw [hw15, hgp17]; exact heap_alloc_new w14 _
              have HW := hid hw15
              have HGG := hid hgp17
              clear hw15 hgp17
              have p1_15 := hid (row_below p1_14.out hb)
              clear p1_14
              have Hp1_15 := hid (Hp1_14.out.below hb)
              clear Hp1_14
              have p3_15 := hid (row_below p3_14.out hb)
              clear p3_14
              have Hp3_15 := hid (Hp3_14.out.below hb)
              clear Hp3_14
              have p2_15 := hid (row_below p2_14.out hb)
              clear p2_14
              have Hp2_15 := hid (Hp2_14.out.below hb)
              clear Hp2_14
              have p9_15 := hid (row_below p9_14.out hb)
              clear p9_14
              have p10_15 := hid (row_below p10_14.out hb)
              clear p10_14
              have Hp9_15 := hid (Hp9_14.out.below hb)
              clear Hp9_14
              have Hp10_15 := hid (Hp10_14.out.below hb)
              clear Hp10_14
              have Hp17_15 := hid (Hp17_14.out.below hb)
              clear Hp17_14
              have HB_15 : Hid (Below W.heap.size W w15) := hid (HB_14.out.trans ((hb).mono HB_14.out.size))
              clear HB_14
              have p17_15 := hid hr
              clear hr hb
              go_upto_region 23 with fail
              rw [← HW.out, ← HGG.out]
              clear HW HGG
              have HCX : Hid (∀ x, Grew w15.drew x → (NdOk x a5 n5 c5 (xs.take k) ∧ NdOk x a6 n6 c6 (xs.drop k)) ∧ (NdOk x (some ⟨bb, oo, none⟩) k cp2 (xs.take k) ∧ NdOk x (some ⟨bb, ob, none⟩) nb cb (xs.drop k)) ∧ NdOk x a8 n8 c8 xs ∧ NdOk x ap1 np1 cp1 xs) := hid fun x hx => by
                have hb := grewDrew hx
                have h2 := Hp2_15.out.below hb
                obtain ⟨k1, k2, k3⟩ := HKB.out
                obtain ⟨m1, m2, m3, -⟩ := HAB.out
                have hn2 := h2.1
                obtain ⟨-, s2, s3, s4, ⟨s5, s6⟩, -⟩ := h2
                refine ⟨⟨Hp9_15.out.below hb, Hp10_15.out.below hb⟩, ⟨⟨by rw [List.length_take]; omega, s2.front k, by omega, fun e he => s4 e (List.mem_of_mem_take he), ⟨by omega, s6⟩, fun h => by cases h⟩, ⟨by rw [List.length_drop]; omega, s2.back k _ fun _ => ?_, by omega, fun e he => s4 e (List.mem_of_mem_drop he), ⟨by omega, by omega⟩, fun h => by cases h⟩⟩, Hp17_15.out.below hb, Hp1_15.out.below hb⟩
                rw [← m1]
                simp [Addr.add]
                try omega
              have HCY : Hid (∀ x, Grew w15.drew x → (x.cell? ⟨gp9, 0, none⟩ = some (.bool lf) ∧ x.cell? ⟨gp9, 1, none⟩ = some (.slice a5 n5 c5)) ∧ (x.cell? ⟨gp10, 0, none⟩ = some (.bool lf) ∧ x.cell? ⟨gp10, 1, none⟩ = some (.slice a6 n6 c6)) ∧ (x.cell? ⟨gp2, 0, none⟩ = some (.bool lf) ∧ x.cell? ⟨gp2, 1, none⟩ = some (.slice (some ⟨bb, oo, none⟩) np2 cp2)) ∧ (x.cell? ⟨gp17, 0, none⟩ = some (.bool lf) ∧ x.cell? ⟨gp17, 1, none⟩ = some (.slice a8 n8 c8)) ∧ x.cell? ⟨gp1, 0, none⟩ = some (.bool lf) ∧ x.cell? ⟨gp1, 1, none⟩ = some (.slice ap1 np1 cp1)) := hid fun x hx => by
                have h1 := row_below p9_15.out (grewDrew hx)
                have h2 := row_below p10_15.out (grewDrew hx)
                have h3 := row_below p2_15.out (grewDrew hx)
                have h4 := row_below p17_15.out (grewDrew hx)
                have h5 := row_below p1_15.out (grewDrew hx)
                exact ⟨⟨by rw [cell_of_row _ _ _ _ _ _ h1]; rfl, by rw [cell_of_row _ _ _ _ _ _ h1]; rfl⟩, ⟨by rw [cell_of_row _ _ _ _ _ _ h2]; rfl, by rw [cell_of_row _ _ _ _ _ _ h2]; rfl⟩, ⟨by rw [cell_of_row _ _ _ _ _ _ h3]; rfl, by rw [cell_of_row _ _ _ _ _ _ h3]; rfl⟩, ⟨by rw [cell_of_row _ _ _ _ _ _ h4]; rfl, by rw [cell_of_row _ _ _ _ _ _ h4]; rfl⟩, by rw [cell_of_row _ _ _ _ _ _ h5]; rfl, by rw [cell_of_row _ _ _ _ _ _ h5]; rfl⟩
              refine wp_region_grows 38 [EqN (.bool true), EqN (.bool true), EqN (.int .i64 0), EqN (.bool true), EqN (.bool true), EqN (.bool true), EqN (.agg #[.bool lf, .slice a5 n5 c5]), (fun x v => NdV x v lf (xs.take k)), EqN (.pointer (some ⟨gp2, 0, none⟩)), EqN (.bool lf), EqN (.pointer (some ⟨gp2, 1, none⟩)), EqN (.slice (some ⟨bb, oo, none⟩) np2 cp2), EqN (.int .i64 (k : Int)), EqN (.slice (some ⟨bb, oo, none⟩) k cp2), EqN (.agg #[.bool lf, .slice (some ⟨bb, oo, none⟩) k cp2]), EqN (.bool true), EqN (.bool true), EqN (.bool true), EqN (.agg #[.bool lf, .slice a6 n6 c6]), (fun x v => NdV x v lf (xs.drop k)), EqN (.pointer (some ⟨gp2, 0, none⟩)), EqN (.bool lf), EqN (.pointer (some ⟨gp2, 1, none⟩)), EqN (.slice (some ⟨bb, oo, none⟩) np2 cp2), EqN (.int .i64 (k : Int)), EqN (.slice (some ⟨bb, ob, none⟩) nb cb), EqN (.agg #[.bool lf, .slice (some ⟨bb, ob, none⟩) nb cb]), EqN (.bool true), EqN (.bool true), EqN (.bool true), EqN (.int .i64 0), EqN (.bool true), EqN (.bool true), EqN (.bool true), EqN (.agg #[.bool lf, .slice a8 n8 c8]), EqN (.agg #[.bool lf, .slice ap1 np1 cp1]), EqN (.bool true), EqN (.bool true)] (by kernel_rfl) (by decide) (by kernel_rfl) ?_ ?_ ?_
              · repeat' (first | exact List.forall_mem_nil _ | refine List.forall_mem_cons.2 ⟨?_, ?_⟩)
                all_goals
                  intro w w' v hw h
                  first | exact h | exact NdV.grew hw h
              · simp only [AllLt]
                refine ⟨⟨⟨⟨⟨⟨⟨⟨⟨⟨⟨⟨⟨⟨⟨⟨⟨⟨⟨⟨⟨⟨⟨⟨⟨⟨⟨⟨⟨⟨⟨⟨⟨⟨⟨⟨⟨⟨trivial, ?_⟩, ?_⟩, ?_⟩, ?_⟩, ?_⟩, ?_⟩, ?_⟩, ?_⟩, ?_⟩, ?_⟩, ?_⟩, ?_⟩, ?_⟩, ?_⟩, ?_⟩, ?_⟩, ?_⟩, ?_⟩, ?_⟩, ?_⟩, ?_⟩, ?_⟩, ?_⟩, ?_⟩, ?_⟩, ?_⟩, ?_⟩, ?_⟩, ?_⟩, ?_⟩, ?_⟩, ?_⟩, ?_⟩, ?_⟩, ?_⟩, ?_⟩, ?_⟩, ?_⟩
                all_goals
                  intro o' ho
                  simp at ho
                  subst ho
                  intro ρ w5 hR hL hS hG
                  obtain ⟨hl1, hl2, -⟩ := hL
                · refine plainG rfl ?_
                  intro bA K Q' hK
                  simp only [execOp]
                  go_simp
                  refine (known_any HP.out _).mono ?_
                  rintro r9 w9 ⟨rfl, hb9⟩
                  exact hK _ _ rfl hb9
                · refine plainG rfl ?_
                  intro bA K Q' hK
                  have e117 := hG 0 117 (by decide) (by kernel_rfl) (by kernel_rfl)
                  change ρ (.tmp 117) = _ at e117
                  simp only [execOp]
                  go_simp
                  exact hK _ _ rfl (Grew.refl _)
                · have eG : ρ (.tmp 118) = _ := hG 1 118 (by decide) (by kernel_rfl) (by kernel_rfl)
                  refine onG rfl (by kernel_rfl) eG ?_
                  intro bA K Q' hK
                  have e11 := hS 11 (by kernel_rfl)
                  change ρ (.tmp 11) = _ at e11
                  simp only [execOp]
                  go_simp
                  exact hK _ _ rfl (Grew.refl _)
                · have eG : ρ (.tmp 118) = _ := hG 1 118 (by decide) (by kernel_rfl) (by kernel_rfl)
                  refine onG rfl (by kernel_rfl) eG ?_
                  intro bA K Q' hK
                  have e119 := hG 2 119 (by decide) (by kernel_rfl) (by kernel_rfl)
                  change ρ (.tmp 119) = _ at e119
                  simp only [execOp]
                  go_simp
                  exact hK _ _ rfl (Grew.refl _)
                · refine plainG rfl ?_
                  intro bA K Q' hK
                  have e118 := hG 1 118 (by decide) (by kernel_rfl) (by kernel_rfl)
                  have e120 := hG 3 120 (by decide) (by kernel_rfl) (by kernel_rfl)
                  change ρ (.tmp 118) = _ at e118
                  change ρ (.tmp 120) = _ at e120
                  simp only [execOp]
                  go_simp
                  exact hK _ _ rfl (Grew.refl _)
                · refine plainG rfl ?_
                  intro bA K Q' hK
                  have e121 := hG 4 121 (by decide) (by kernel_rfl) (by kernel_rfl)
                  change ρ (.tmp 121) = _ at e121
                  simp only [execOp]
                  go_simp
                  exact hK _ _ rfl (Grew.refl _)
                · have eG : ρ (.tmp 122) = _ := hG 5 122 (by decide) (by kernel_rfl) (by kernel_rfl)
                  refine onG rfl (by kernel_rfl) eG ?_
                  intro bA K Q' hK
                  have e9 := hS 9 (by kernel_rfl)
                  change ρ (.tmp 9) = _ at e9
                  obtain ⟨⟨y0, y1⟩, ⟨y2, y3⟩, ⟨y4, y5⟩, ⟨y6, y7⟩, y8, y9⟩ := HCY.out w5 hR
                  simp only [execOp]
                  go_simp
                  exact hK _ _ rfl (Grew.refl _)
                · have eG : ρ (.tmp 122) = _ := hG 5 122 (by decide) (by kernel_rfl) (by kernel_rfl)
                  refine onG rfl (by kernel_rfl) eG ?_
                  intro bA K Q' hK
                  have e123 := hG 6 123 (by decide) (by kernel_rfl) (by kernel_rfl)
                  change ρ (.tmp 123) = _ at e123
                  simp only [execOp]
                  go_simp
                  refine (of_x lf (HCX.out w5 hR).1.1).mono ?_
                  rintro r9 w9 ⟨⟨a9, n9, c9, rfl, h9⟩, hb9⟩
                  exact hK _ _ ⟨_, _, _, rfl, h9⟩ hb9
                · have eG : ρ (.tmp 122) = _ := hG 5 122 (by decide) (by kernel_rfl) (by kernel_rfl)
                  refine onG rfl (by kernel_rfl) eG ?_
                  intro bA K Q' hK
                  have e7 := hS 7 (by kernel_rfl)
                  change ρ (.tmp 7) = _ at e7
                  simp only [execOp]
                  go_simp
                  exact hK _ _ rfl (Grew.refl _)
                · have eG : ρ (.tmp 122) = _ := hG 5 122 (by decide) (by kernel_rfl) (by kernel_rfl)
                  refine onG rfl (by kernel_rfl) eG ?_
                  intro bA K Q' hK
                  have e125 := hG 8 125 (by decide) (by kernel_rfl) (by kernel_rfl)
                  change ρ (.tmp 125) = _ at e125
                  obtain ⟨⟨y0, y1⟩, ⟨y2, y3⟩, ⟨y4, y5⟩, ⟨y6, y7⟩, y8, y9⟩ := HCY.out w5 hR
                  simp only [execOp]
                  go_simp
                  exact hK _ _ rfl (Grew.refl _)
                · have eG : ρ (.tmp 122) = _ := hG 5 122 (by decide) (by kernel_rfl) (by kernel_rfl)
                  refine onG rfl (by kernel_rfl) eG ?_
                  intro bA K Q' hK
                  have e7 := hS 7 (by kernel_rfl)
                  change ρ (.tmp 7) = _ at e7
                  simp only [execOp]
                  go_simp
                  exact hK _ _ rfl (Grew.refl _)
                · have eG : ρ (.tmp 122) = _ := hG 5 122 (by decide) (by kernel_rfl) (by kernel_rfl)
                  refine onG rfl (by kernel_rfl) eG ?_
                  intro bA K Q' hK
                  have e127 := hG 10 127 (by decide) (by kernel_rfl) (by kernel_rfl)
                  change ρ (.tmp 127) = _ at e127
                  obtain ⟨⟨y0, y1⟩, ⟨y2, y3⟩, ⟨y4, y5⟩, ⟨y6, y7⟩, y8, y9⟩ := HCY.out w5 hR
                  simp only [execOp]
                  go_simp
                  exact hK _ _ rfl (Grew.refl _)
                · have eG : ρ (.tmp 122) = _ := hG 5 122 (by decide) (by kernel_rfl) (by kernel_rfl)
                  refine onG rfl (by kernel_rfl) eG ?_
                  intro bA K Q' hK
                  have e16 := hS 16 (by kernel_rfl)
                  change ρ (.tmp 16) = _ at e16
                  simp only [execOp]
                  go_simp
                  exact hK _ _ rfl (Grew.refl _)
                · have eG : ρ (.tmp 122) = _ := hG 5 122 (by decide) (by kernel_rfl) (by kernel_rfl)
                  refine onG rfl (by kernel_rfl) eG ?_
                  intro bA K Q' hK
                  have e128 := hG 11 128 (by decide) (by kernel_rfl) (by kernel_rfl)
                  have e129 := hG 12 129 (by decide) (by kernel_rfl) (by kernel_rfl)
                  change ρ (.tmp 128) = _ at e128
                  change ρ (.tmp 129) = _ at e129
                  simp only [execOp]
                  go_simp
                  exact hK _ _ rfl (Grew.refl _)
                · have eG : ρ (.tmp 122) = _ := hG 5 122 (by decide) (by kernel_rfl) (by kernel_rfl)
                  refine onG rfl (by kernel_rfl) eG ?_
                  intro bA K Q' hK
                  have e126 := hG 9 126 (by decide) (by kernel_rfl) (by kernel_rfl)
                  have e130 := hG 13 130 (by decide) (by kernel_rfl) (by kernel_rfl)
                  change ρ (.tmp 126) = _ at e126
                  change ρ (.tmp 130) = _ at e130
                  simp only [execOp]
                  go_simp
                  exact hK _ _ rfl (Grew.refl _)
                · have eG : ρ (.tmp 122) = _ := hG 5 122 (by decide) (by kernel_rfl) (by kernel_rfl)
                  refine onG rfl (by kernel_rfl) eG ?_
                  intro bA K Q' hK
                  have e124 := hG 7 124 (by decide) (by kernel_rfl) (by kernel_rfl)
                  have e131 := hG 14 131 (by decide) (by kernel_rfl) (by kernel_rfl)
                  skip
                  change ρ (.tmp 131) = _ at e131
                  obtain ⟨a9, n9, c9, e124', h29⟩ := e124
                  change ρ (.tmp 124) = _ at e124'
                  simp only [execOp]
                  go_simp
                  refine (same_x lf h29 (HCX.out w5 hR).2.1.1).mono ?_
                  rintro r9 w9 ⟨rfl, hb9⟩
                  exact hK _ _ rfl hb9
                · refine plainG rfl ?_
                  intro bA K Q' hK
                  have e122 := hG 5 122 (by decide) (by kernel_rfl) (by kernel_rfl)
                  have e132 := hG 15 132 (by decide) (by kernel_rfl) (by kernel_rfl)
                  change ρ (.tmp 122) = _ at e122
                  change ρ (.tmp 132) = _ at e132
                  simp only [execOp]
                  go_simp
                  exact hK _ _ rfl (Grew.refl _)
                · refine plainG rfl ?_
                  intro bA K Q' hK
                  have e133 := hG 16 133 (by decide) (by kernel_rfl) (by kernel_rfl)
                  change ρ (.tmp 133) = _ at e133
                  simp only [execOp]
                  go_simp
                  exact hK _ _ rfl (Grew.refl _)
                · have eG : ρ (.tmp 134) = _ := hG 17 134 (by decide) (by kernel_rfl) (by kernel_rfl)
                  refine onG rfl (by kernel_rfl) eG ?_
                  intro bA K Q' hK
                  have e10 := hS 10 (by kernel_rfl)
                  change ρ (.tmp 10) = _ at e10
                  obtain ⟨⟨y0, y1⟩, ⟨y2, y3⟩, ⟨y4, y5⟩, ⟨y6, y7⟩, y8, y9⟩ := HCY.out w5 hR
                  simp only [execOp]
                  go_simp
                  exact hK _ _ rfl (Grew.refl _)
                · have eG : ρ (.tmp 134) = _ := hG 17 134 (by decide) (by kernel_rfl) (by kernel_rfl)
                  refine onG rfl (by kernel_rfl) eG ?_
                  intro bA K Q' hK
                  have e135 := hG 18 135 (by decide) (by kernel_rfl) (by kernel_rfl)
                  change ρ (.tmp 135) = _ at e135
                  simp only [execOp]
                  go_simp
                  refine (of_x lf (HCX.out w5 hR).1.2).mono ?_
                  rintro r9 w9 ⟨⟨a9, n9, c9, rfl, h9⟩, hb9⟩
                  exact hK _ _ ⟨_, _, _, rfl, h9⟩ hb9
                · have eG : ρ (.tmp 134) = _ := hG 17 134 (by decide) (by kernel_rfl) (by kernel_rfl)
                  refine onG rfl (by kernel_rfl) eG ?_
                  intro bA K Q' hK
                  have e7 := hS 7 (by kernel_rfl)
                  change ρ (.tmp 7) = _ at e7
                  simp only [execOp]
                  go_simp
                  exact hK _ _ rfl (Grew.refl _)
                · have eG : ρ (.tmp 134) = _ := hG 17 134 (by decide) (by kernel_rfl) (by kernel_rfl)
                  refine onG rfl (by kernel_rfl) eG ?_
                  intro bA K Q' hK
                  have e137 := hG 20 137 (by decide) (by kernel_rfl) (by kernel_rfl)
                  change ρ (.tmp 137) = _ at e137
                  obtain ⟨⟨y0, y1⟩, ⟨y2, y3⟩, ⟨y4, y5⟩, ⟨y6, y7⟩, y8, y9⟩ := HCY.out w5 hR
                  simp only [execOp]
                  go_simp
                  exact hK _ _ rfl (Grew.refl _)
                · have eG : ρ (.tmp 134) = _ := hG 17 134 (by decide) (by kernel_rfl) (by kernel_rfl)
                  refine onG rfl (by kernel_rfl) eG ?_
                  intro bA K Q' hK
                  have e7 := hS 7 (by kernel_rfl)
                  change ρ (.tmp 7) = _ at e7
                  simp only [execOp]
                  go_simp
                  exact hK _ _ rfl (Grew.refl _)
                · have eG : ρ (.tmp 134) = _ := hG 17 134 (by decide) (by kernel_rfl) (by kernel_rfl)
                  refine onG rfl (by kernel_rfl) eG ?_
                  intro bA K Q' hK
                  have e139 := hG 22 139 (by decide) (by kernel_rfl) (by kernel_rfl)
                  change ρ (.tmp 139) = _ at e139
                  obtain ⟨⟨y0, y1⟩, ⟨y2, y3⟩, ⟨y4, y5⟩, ⟨y6, y7⟩, y8, y9⟩ := HCY.out w5 hR
                  simp only [execOp]
                  go_simp
                  exact hK _ _ rfl (Grew.refl _)
                · have eG : ρ (.tmp 134) = _ := hG 17 134 (by decide) (by kernel_rfl) (by kernel_rfl)
                  refine onG rfl (by kernel_rfl) eG ?_
                  intro bA K Q' hK
                  have e16 := hS 16 (by kernel_rfl)
                  change ρ (.tmp 16) = _ at e16
                  simp only [execOp]
                  go_simp
                  exact hK _ _ rfl (Grew.refl _)
                · have eG : ρ (.tmp 134) = _ := hG 17 134 (by decide) (by kernel_rfl) (by kernel_rfl)
                  refine onG rfl (by kernel_rfl) eG ?_
                  intro bA K Q' hK
                  have e140 := hG 23 140 (by decide) (by kernel_rfl) (by kernel_rfl)
                  have e141 := hG 24 141 (by decide) (by kernel_rfl) (by kernel_rfl)
                  change ρ (.tmp 140) = _ at e140
                  change ρ (.tmp 141) = _ at e141
                  have hob := HAB.out.1
                  have hnb := HAB.out.2.1
                  have hcb := HAB.out.2.2.1
                  have hck := HAB.out.2.2.2
                  simp only [execOp]
                  go_simp
                  exact hK _ _ rfl (Grew.refl _)
                · have eG : ρ (.tmp 134) = _ := hG 17 134 (by decide) (by kernel_rfl) (by kernel_rfl)
                  refine onG rfl (by kernel_rfl) eG ?_
                  intro bA K Q' hK
                  have e138 := hG 21 138 (by decide) (by kernel_rfl) (by kernel_rfl)
                  have e142 := hG 25 142 (by decide) (by kernel_rfl) (by kernel_rfl)
                  change ρ (.tmp 138) = _ at e138
                  change ρ (.tmp 142) = _ at e142
                  simp only [execOp]
                  go_simp
                  exact hK _ _ rfl (Grew.refl _)
                · have eG : ρ (.tmp 134) = _ := hG 17 134 (by decide) (by kernel_rfl) (by kernel_rfl)
                  refine onG rfl (by kernel_rfl) eG ?_
                  intro bA K Q' hK
                  have e136 := hG 19 136 (by decide) (by kernel_rfl) (by kernel_rfl)
                  have e143 := hG 26 143 (by decide) (by kernel_rfl) (by kernel_rfl)
                  skip
                  change ρ (.tmp 143) = _ at e143
                  obtain ⟨a9, n9, c9, e136', h29⟩ := e136
                  change ρ (.tmp 136) = _ at e136'
                  simp only [execOp]
                  go_simp
                  refine (same_x lf h29 (HCX.out w5 hR).2.1.2).mono ?_
                  rintro r9 w9 ⟨rfl, hb9⟩
                  exact hK _ _ rfl hb9
                · refine plainG rfl ?_
                  intro bA K Q' hK
                  have e134 := hG 17 134 (by decide) (by kernel_rfl) (by kernel_rfl)
                  have e144 := hG 27 144 (by decide) (by kernel_rfl) (by kernel_rfl)
                  change ρ (.tmp 134) = _ at e134
                  change ρ (.tmp 144) = _ at e144
                  simp only [execOp]
                  go_simp
                  exact hK _ _ rfl (Grew.refl _)
                · refine plainG rfl ?_
                  intro bA K Q' hK
                  have e145 := hG 28 145 (by decide) (by kernel_rfl) (by kernel_rfl)
                  change ρ (.tmp 145) = _ at e145
                  simp only [execOp]
                  go_simp
                  exact hK _ _ rfl (Grew.refl _)
                · have eG : ρ (.tmp 146) = _ := hG 29 146 (by decide) (by kernel_rfl) (by kernel_rfl)
                  refine onG rfl (by kernel_rfl) eG ?_
                  intro bA K Q' hK
                  have e18 := hS 18 (by kernel_rfl)
                  change ρ (.tmp 18) = _ at e18
                  simp only [execOp]
                  go_simp
                  exact hK _ _ rfl (Grew.refl _)
                · have eG : ρ (.tmp 146) = _ := hG 29 146 (by decide) (by kernel_rfl) (by kernel_rfl)
                  refine onG rfl (by kernel_rfl) eG ?_
                  intro bA K Q' hK
                  have e147 := hG 30 147 (by decide) (by kernel_rfl) (by kernel_rfl)
                  change ρ (.tmp 147) = _ at e147
                  simp only [execOp]
                  go_simp
                  exact hK _ _ rfl (Grew.refl _)
                · refine plainG rfl ?_
                  intro bA K Q' hK
                  have e146 := hG 29 146 (by decide) (by kernel_rfl) (by kernel_rfl)
                  have e148 := hG 31 148 (by decide) (by kernel_rfl) (by kernel_rfl)
                  change ρ (.tmp 146) = _ at e146
                  change ρ (.tmp 148) = _ at e148
                  simp only [execOp]
                  go_simp
                  exact hK _ _ rfl (Grew.refl _)
                · refine plainG rfl ?_
                  intro bA K Q' hK
                  have e149 := hG 32 149 (by decide) (by kernel_rfl) (by kernel_rfl)
                  change ρ (.tmp 149) = _ at e149
                  simp only [execOp]
                  go_simp
                  exact hK _ _ rfl (Grew.refl _)
                · have eG : ρ (.tmp 150) = _ := hG 33 150 (by decide) (by kernel_rfl) (by kernel_rfl)
                  refine onG rfl (by kernel_rfl) eG ?_
                  intro bA K Q' hK
                  have e17 := hS 17 (by kernel_rfl)
                  change ρ (.tmp 17) = _ at e17
                  obtain ⟨⟨y0, y1⟩, ⟨y2, y3⟩, ⟨y4, y5⟩, ⟨y6, y7⟩, y8, y9⟩ := HCY.out w5 hR
                  simp only [execOp]
                  go_simp
                  exact hK _ _ rfl (Grew.refl _)
                · have eG : ρ (.tmp 150) = _ := hG 33 150 (by decide) (by kernel_rfl) (by kernel_rfl)
                  refine onG rfl (by kernel_rfl) eG ?_
                  intro bA K Q' hK
                  have e5 := hS 5 (by kernel_rfl)
                  change ρ (.tmp 5) = _ at e5
                  obtain ⟨⟨y0, y1⟩, ⟨y2, y3⟩, ⟨y4, y5⟩, ⟨y6, y7⟩, y8, y9⟩ := HCY.out w5 hR
                  simp only [execOp]
                  go_simp
                  exact hK _ _ rfl (Grew.refl _)
                · have eG : ρ (.tmp 150) = _ := hG 33 150 (by decide) (by kernel_rfl) (by kernel_rfl)
                  refine onG rfl (by kernel_rfl) eG ?_
                  intro bA K Q' hK
                  have e151 := hG 34 151 (by decide) (by kernel_rfl) (by kernel_rfl)
                  have e152 := hG 35 152 (by decide) (by kernel_rfl) (by kernel_rfl)
                  change ρ (.tmp 151) = _ at e151
                  change ρ (.tmp 152) = _ at e152
                  simp only [execOp]
                  go_simp
                  refine (HP.out.nSame a8 ap1 n8 np1 c8 cp1 lf xs _ (HCX.out w5 hR).2.2.1 (HCX.out w5 hR).2.2.2).mono ?_
                  rintro r9 w9 ⟨rfl, hb9⟩
                  exact hK _ _ rfl hb9
                · refine plainG rfl ?_
                  intro bA K Q' hK
                  have e150 := hG 33 150 (by decide) (by kernel_rfl) (by kernel_rfl)
                  have e153 := hG 36 153 (by decide) (by kernel_rfl) (by kernel_rfl)
                  change ρ (.tmp 150) = _ at e150
                  change ρ (.tmp 153) = _ at e153
                  simp only [execOp]
                  go_simp
                  exact hK _ _ rfl (Grew.refl _)
              · skip
                intro vv w16 hR hG
                have h9 : vv 37 = .bool true := hG.2
                have HBZ : Hid (Below W.heap.size W w16) := hid (HB_15.out.trans ((grewDrew hR).mono HB_15.out.size))
                clear hG hR HCX HCY
                simp [stG, stU, dstAt, Act.put, h9]
                clear h9
                go_wp2_with fail
                go_ret
                exact ⟨rfl, HBZ.out⟩
end Go.Proofs.Ytokeihpmagcneaa
