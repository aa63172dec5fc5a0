/- THE LAW LeafTurns: the walk, right nodes. -/
import Derived.Test.YtokeihpmagcneaaNdT1
namespace Go.Inc
open Go.RowKit
theorem ownBelow {w w' : World} {B E s n : Nat} {v : Value} {xs : List Value} (h : w.ownsRow B E s v n xs) (hb : Below w.heap.size w w') : w'.ownsRow B E s v n xs :=
  owns_mv (F := fun _ => False) h (Mv.of_below hb) fun _ _ => id
theorem withTo_next (xs : List Et) (e : Et) (pe : Int) (k : Nat) : withTo xs e pe (k + 1) = (if (xs.getD k et0).1 = e.1 then (if (!(withTo xs e pe k).2 && decide (pe ≤ plK (xs.getD k et0).1)) = true then (withTo xs e pe k).1 ++ [e] else (withTo xs e pe k).1) else (if (!(withTo xs e pe k).2 && decide (pe ≤ plK (xs.getD k et0).1)) = true then (withTo xs e pe k).1 ++ [e] else (withTo xs e pe k).1) ++ [xs.getD k et0], (withTo xs e pe k).2 || (!(withTo xs e pe k).2 && decide (pe ≤ plK (xs.getD k et0).1))) := rfl
theorem wo_in {lf : Bool} {es : List Et} {k : Ky} (h : chkN lf es = 0) (hk : inK es k = true) : woE lf es k = 0 := by
  unfold woE
  rw [if_neg (by rw [h]; decide), if_neg (by rw [hk]; decide)]
theorem wo_out {lf : Bool} {es : List Et} {k : Ky} (h : chkN lf es = 0) (hk : inK es k = false) : woE lf es k = 7 := by
  unfold woE
  rw [if_neg (by rw [h]; decide), if_pos hk]
theorem wi_bad {lf : Bool} {es : List Et} {e : Et} (h : chkN lf es = 0) (ho : okE e = false) : wiE lf es e = 10 := by
  unfold wiE
  rw [if_neg (by rw [h]; decide), if_pos ho]
theorem wi_full {lf : Bool} {es : List Et} {e : Et} (h : chkN lf es = 0) (ho : okE e = true) (hl : 16 < (insE es e).length) : wiE lf es e = 6 := by
  unfold wiE
  have h1 := (chkN_zero h).1
  rw [insE_len] at hl
  rw [if_neg (by rw [h]; decide), if_neg (by rw [ho]; decide), if_pos]
  cases hi : inK es e.1
  · rw [hi] at hl
    exact ⟨rfl, by simp at hl; omega⟩
  · rw [hi, if_pos rfl] at hl
    omega
theorem wi_ok {lf : Bool} {es : List Et} {e : Et} (h : chkN lf es = 0) (ho : okE e = true) (hl : (insE es e).length ≤ 16) : wiE lf es e = 0 := by
  unfold wiE
  rw [insE_len] at hl
  rw [if_neg (by rw [h]; decide), if_neg (by rw [ho]; decide), if_neg]
  rintro ⟨h1, h2⟩
  rw [h1] at hl
  simp at hl
  omega
theorem ins_fits {es : List Et} {e : Et} (h : ∀ x ∈ es, okE x = true) (he : okE e = true) : ∀ x ∈ insE es e, fitsE x := by
  intro x hx
  unfold insE at hx
  rw [List.mem_append, List.mem_append, List.mem_singleton] at hx
  rcases hx with (hx | rfl) | hx
  · exact ok_fits (h x (List.mem_of_mem_take hx))
  · exact ok_fits he
  · exact ok_fits (h x (List.mem_of_mem_drop hx))
theorem rem_fits {es : List Et} {k : Ky} (h : ∀ x ∈ es, okE x = true) : ∀ x ∈ remE es k, fitsE x := by
  intro x hx
  unfold remE at hx
  rw [List.mem_append] at hx
  rcases hx with hx | hx
  · exact ok_fits (h x (List.mem_of_mem_take hx))
  · exact ok_fits (h x (List.mem_of_mem_drop hx))
theorem owned_nd {w : World} {B E n : Nat} {v : Value} {l : List Et} (h : w.ownsRow B E 3 v n (ecells l)) (hl : n ≤ 1000) (hf : ∀ x ∈ l, fitsE x) : ∃ a c, v = .slice a n c ∧ NdOk w a n c l := by
  obtain ⟨a, c, e1, e2, h1, h2, h3, h4⟩ := ownedE h
  rw [← e2] at e1 h2
  exact ⟨a, c, e1, e2, NdOk.mono h1, hl, hf, ⟨h2, h3⟩, h4⟩
theorem owned_sl {w : World} {B E n : Nat} {v : Value} {l : List Et} (h : w.ownsRow B E 3 v n (ecells l)) : ∃ a c, v = .slice a n c ∧ n = l.length := by
  obtain ⟨a, c, e1, e2, -⟩ := ownedE h
  rw [← e2] at e1
  exact ⟨a, c, e1, e2⟩
theorem offU {ops : Array Oper} {ρ : Operand → Value} {o : Oper} {p q : Prop} {j : Nat} {want : Bool} {d : Tmp} (hg : o.guard = some (j, want)) (hd : dstAt ops j = some d) (hv : ρ (.tmp d) = undef) (h : q) : (Wants ops ρ o = true → p) ∧ (Wants ops ρ o = false → q) := by
  unfold Wants
  simp only [hg, hd, hv]
  exact ⟨fun h => (by simp [undef] at h), fun _ => h⟩
end Go.Inc
namespace Go.Proofs.Ytokeihpmagcneaa
open Go.RowKit Go.Inc

set_option maxRecDepth 20000 in
set_option maxHeartbeats 16000000 in
theorem turns_good (P : PN) (a : Option Addr) (n c : Nat) (lf : Bool) (es : List Et) (s z p : Int) (W : World) (hs : EtS (fun _ => True) W a es) (hn : n = es.length) (hf : ∀ e ∈ es, fitsE e) (hfe : fitsE ((s, z), p)) (hchk : chkN lf (es.take 18) = 0) :
    Calls Try.prog 6 #[.agg #[.bool lf, .slice a n c], .agg #[.int .i64 s, .int .i64 z, .int .i64 p]] W fun e w' => e = .returned (.bool true) ∧ Bel W w' := by
  obtain ⟨i0, hi, hz0, hz1, hz2⟩ := info_parts infoRE
  have HI := hid (And.intro hi (And.intro hz0 (And.intro hz1 hz2)))
  clear hi hz0 hz1 hz2
  have HP := hid P
  have HFE := hid hfe
  obtain ⟨xs, hxs⟩ : ∃ xs, xs = es.take 18 := ⟨_, rfl⟩
  have HXL : Hid (xs.length ≤ 18) := hid (by rw [hxs, List.length_take]; omega)
  obtain ⟨g, hg⟩ : ∃ g, g = W.heap.size := ⟨_, rfl⟩
  obtain ⟨w1, hw1⟩ : ∃ y, y = (W.alloc (.cells #[.bool lf, .slice a n c] 24)).alloc (.cells #[.int .i64 s, .int .i64 z, .int .i64 p] 54) := ⟨_, rfl⟩
  have HB_1 : Hid (Below W.heap.size W w1) := hid (by rw [hw1]; exact ((Below.refl _ _).alloc (Nat.le_refl _) _).alloc (by simp) _)
  have p0_1 : Hid (w1.heap[g]? = some (.cells #[.bool lf, .slice a n c] 24 (0, 0))) := hid (by rw [hw1, hg]; exact heap_alloc2_old W _ _)
  have pe_1 : Hid (w1.heap[g + 1]? = some (.cells #[.int .i64 s, .int .i64 z, .int .i64 p] 54 (0, 0))) := hid (by rw [hw1, hg]; exact heap_alloc2_new W _ _)
  have HW := hid hw1
  have HG := hid hg
  have HTO := hid (to_x n c lf (hs.below HB_1.out) hn hf)
  rw [← hxs] at HTO hchk
  have HC := hid hchk
  obtain ⟨F, hF⟩ : ∃ F, F = wiE lf xs ((s, z), p) := ⟨_, rfl⟩
  obtain ⟨Fo, hFo⟩ : ∃ F, F = woE lf xs (s, z) := ⟨_, rfl⟩
  obtain ⟨I, hI⟩ : ∃ I, I = insE xs ((s, z), p) := ⟨_, rfl⟩
  obtain ⟨D, hD⟩ : ∃ D, D = remE xs (s, z) := ⟨_, rfl⟩
  have HFF := hid (And.intro hF (And.intro hFo (And.intro hI hD)))
  have HWI : Hid (∀ y a n c, NdOk y a n c xs → Calls Try.prog 26 #[.agg #[.bool lf, .slice a n c], .agg #[.int .i64 s, .int .i64 z, .int .i64 p]] y fun e w' => (∃ v, e = .returned v ∧ AnsT w' v F (F = 0) lf I) ∧ Below y.heap.size y w') := hid fun y a n c hy => by
    refine (HP.out.nWith a n c lf xs s z p y hy HFE.out).mono ?_
    rintro e w' ⟨⟨v, h1, h2, h3⟩, hb⟩
    rw [← hF, ← hI] at h3
    rw [← hF] at h1
    exact ⟨⟨_, h1, ansT_of h2 h3⟩, hb⟩
  have HWO : Hid (∀ y a n c, NdOk y a n c xs → Calls Try.prog 28 #[.agg #[.bool lf, .slice a n c], .agg #[.int .i64 s, .int .i64 z]] y fun e w' => (∃ v, e = .returned v ∧ AnsT w' v Fo (Fo = 0) lf D) ∧ Below y.heap.size y w') := hid fun y a n c hy => by
    refine (HP.out.nWithout a n c lf xs s z y hy HFE.out.1).mono ?_
    rintro e w' ⟨⟨v, h1, h2, h3⟩, hb⟩
    rw [← hFo, ← hD] at h3
    rw [← hFo] at h1
    exact ⟨⟨_, h1, ansT_of h2 h3⟩, hb⟩
  clear P hxs hs hn hf hw1 hchk hfe hg hF hFo hI hD
  go_enter Try.func6, Try.ntmps6
  go_upto_region 1 with fail
  rw [← HW.out, ← HG.out]
  clear HW
  have hc0p0 : w1.cell? ⟨g, 0, none⟩ = some (.bool lf) := by rw [cell_of_row _ _ _ _ _ _ p0_1.out]; rfl
  have hc1p0 : w1.cell? ⟨g, 1, none⟩ = some (.slice a n c) := by rw [cell_of_row _ _ _ _ _ _ p0_1.out]; rfl
  go_wp2_with fail
  clear hc0p0 hc1p0
  refine (HTO.out).mono ?_
  rintro e w2 ⟨⟨a1, n1, c1, rfl, hx⟩, hb⟩
  have p0_2 := hid (row_below p0_1.out hb)
  clear p0_1
  have pe_2 := hid (row_below pe_1.out hb)
  clear pe_1
  have HB_2 : Hid (Below W.heap.size W w2) := hid (HB_1.out.trans ((hb).mono HB_1.out.size))
  clear HB_1
  have HX_2 := hid hx
  clear hx
  clear hb
  clear HTO
  obtain ⟨w3, hw3⟩ : ∃ y, y = w2.alloc (.cells #[.bool lf, .slice a1 n1 c1] 27) := ⟨_, rfl⟩
  have hb : Below w2.heap.size w2 w3 := by rw [hw3]; exact allocBelow w2 _
  obtain ⟨gp1, hgp1⟩ : ∃ g, g = w2.heap.size := ⟨_, rfl⟩
  have hr : w3.heap[gp1]? = some (.cells #[.bool lf, .slice a1 n1 c1] 27 (0, 0)) := by rw [hw3, hgp1]; exact heap_alloc_new w2 _
  have HW := hid hw3
  have HGG := hid hgp1
  clear hw3 hgp1
  have p0_3 := hid (row_below p0_2.out hb)
  clear p0_2
  have pe_3 := hid (row_below pe_2.out hb)
  clear pe_2
  have HX_3 := hid (HX_2.out.below hb)
  clear HX_2
  have HB_3 : Hid (Below W.heap.size W w3) := hid (HB_2.out.trans ((hb).mono HB_2.out.size))
  clear HB_2
  have p1_3 := hid hr
  clear hr hb
  go_upto_region 2 with fail
  rw [← HW.out, ← HGG.out]
  clear HW HGG
  have hc0p1 : w3.cell? ⟨gp1, 0, none⟩ = some (.bool lf) := by rw [cell_of_row _ _ _ _ _ _ p1_3.out]; rfl
  have hc1p1 : w3.cell? ⟨gp1, 1, none⟩ = some (.slice a1 n1 c1) := by rw [cell_of_row _ _ _ _ _ _ p1_3.out]; rfl
  go_wp2_with fail
  clear hc0p1 hc1p1
  refine (of_x lf HX_3.out).mono ?_
  rintro e w4 ⟨⟨a2, n2, c2, rfl, hx⟩, hb⟩
  have p0_4 := hid (row_below p0_3.out hb)
  clear p0_3
  have pe_4 := hid (row_below pe_3.out hb)
  clear pe_3
  have HX_4 := hid (HX_3.out.below hb)
  clear HX_3
  have p1_4 := hid (row_below p1_3.out hb)
  clear p1_3
  have HB_4 : Hid (Below W.heap.size W w4) := hid (HB_3.out.trans ((hb).mono HB_3.out.size))
  clear HB_3
  have HY_4 := hid hx
  clear hx
  clear hb
  clear p0_4
  obtain ⟨w5, hw5⟩ : ∃ y, y = w4.alloc (.cells #[.bool lf, .slice a2 n2 c2] 24) := ⟨_, rfl⟩
  have hb : Below w4.heap.size w4 w5 := by rw [hw5]; exact allocBelow w4 _
  obtain ⟨gp2, hgp2⟩ : ∃ g, g = w4.heap.size := ⟨_, rfl⟩
  have hr : w5.heap[gp2]? = some (.cells #[.bool lf, .slice a2 n2 c2] 24 (0, 0)) := by rw [hw5, hgp2]; exact heap_alloc_new w4 _
  have HW := hid hw5
  have HGG := hid hgp2
  clear hw5 hgp2
  have pe_5 := hid (row_below pe_4.out hb)
  clear pe_4
  have HX_5 := hid (HX_4.out.below hb)
  clear HX_4
  have p1_5 := hid (row_below p1_4.out hb)
  clear p1_4
  have HY_5 := hid (HY_4.out.below hb)
  clear HY_4
  have HB_5 : Hid (Below W.heap.size W w5) := hid (HB_4.out.trans ((hb).mono HB_4.out.size))
  clear HB_4
  have p2_5 := hid hr
  clear hr hb
  go_upto_region 3 with fail
  rw [← HW.out, ← HGG.out]
  clear HW HGG
  have HCX : Hid (∀ x, Below w5.heap.size w5 x → NdOk x a1 n1 c1 xs ∧ (x.cell? ⟨gp1, 0, none⟩ = some (.bool lf) ∧ x.cell? ⟨gp1, 1, none⟩ = some (.slice a1 n1 c1)) ∧ x.cell? ⟨g + 1, 0, none⟩ = some (.int .i64 s) ∧ x.cell? ⟨g + 1, 1, none⟩ = some (.int .i64 z) ∧ x.cell? ⟨g + 1, 2, none⟩ = some (.int .i64 p)) := hid fun x hx => by
    have h1 := row_below p1_5.out hx
    have h2 := row_below pe_5.out hx
    exact ⟨HX_5.out.below hx, ⟨by rw [cell_of_row _ _ _ _ _ _ h1]; rfl, by rw [cell_of_row _ _ _ _ _ _ h1]; rfl⟩, by rw [cell_of_row _ _ _ _ _ _ h2]; rfl, by rw [cell_of_row _ _ _ _ _ _ h2]; rfl, by rw [cell_of_row _ _ _ _ _ _ h2]; rfl⟩
  refine wp_region_growsM 10 [(7, 8, 7)] [(8, 3), (8, 5), (8, 7)] [EqN (.agg #[.bool lf, .slice a1 n1 c1]), EqN (.agg #[.int .i64 s, .int .i64 z, .int .i64 p]), EqN (.agg #[.int .i64 s, .int .i64 z, .int .i64 p]), (fun x v => AnsT x v F (F = 0) lf I), (fun x v => AnsT x v F (F = 0) lf I), (fun x v => AnsV x v (F = 0) lf I), EqN (.int .i64 F), (fun x v => BoxZ x v 27 w5.heap.size), (fun x v => BoxN x v 27 w5.heap.size (F = 0) lf I), EqN (.int .i64 F)] (by kernel_rfl) (by decide) (by kernel_rfl) (by kernel_rfl) (by kernel_rfl) ?_ ?_ ?_
  · repeat' (first | exact List.forall_mem_nil _ | refine List.forall_mem_cons.2 ⟨?_, ?_⟩)
    all_goals
      intro w w' v hw h
      first | exact h | exact BoxZ.grew hw h | exact BoxN.grew hw h | exact AnsT.grew hw h | exact AnsV.grew hw h
  · simp only [AllLt]
    refine ⟨⟨⟨⟨⟨⟨⟨⟨⟨⟨trivial, ?_⟩, ?_⟩, ?_⟩, ?_⟩, ?_⟩, ?_⟩, ?_⟩, ?_⟩, ?_⟩, ?_⟩
    all_goals
      intro o' ho
      simp at ho
      subst ho
      intro ρ w5 hR hL hS hG
      obtain ⟨hl1, hl2, -⟩ := hL
    · refine plainG rfl ?_
      intro bA K Q' hK
      have e5 := hS 5 (by kernel_rfl)
      change ρ (.tmp 5) = _ at e5
      obtain ⟨-, ⟨y0, y1⟩, y2, y3, y4⟩ := HCX.out w5 (belDrew hR)
      simp only [execOp]
      go_simp
      exact hK _ _ rfl (.inl (Grew.refl _)) (noPair (by decide))
    · refine plainG rfl ?_
      intro bA K Q' hK
      have e3 := hS 3 (by kernel_rfl)
      change ρ (.tmp 3) = _ at e3
      obtain ⟨-, ⟨y0, y1⟩, y2, y3, y4⟩ := HCX.out w5 (belDrew hR)
      simp only [execOp]
      go_simp
      exact hK _ _ rfl (.inl (Grew.refl _)) (noPair (by decide))
    · refine plainG rfl ?_
      intro bA K Q' hK
      have e22 := hG 1 22 (by decide) (by kernel_rfl) (by kernel_rfl)
      change ρ (.tmp 22) = _ at e22
      simp only [execOp]
      go_simp
      refine (entry_any s z p w5).mono ?_
      rintro r9 w9 ⟨rfl, hb9⟩
      exact hK _ _ rfl (.inl hb9) (noPair (by decide))
    · refine plainG rfl ?_
      intro bA K Q' hK
      have e21 := hG 0 21 (by decide) (by kernel_rfl) (by kernel_rfl)
      have e23 := hG 2 23 (by decide) (by kernel_rfl) (by kernel_rfl)
      change ρ (.tmp 21) = _ at e21
      change ρ (.tmp 23) = _ at e23
      simp only [execOp]
      go_simp
      refine (HWI.out w5 _ _ _ (HCX.out w5 (belDrew hR)).1).mono ?_
      rintro r9 w9 ⟨⟨v9, rfl, h9⟩, hb9⟩
      exact hK _ _ h9 (.inl hb9) (noPair (by decide))
    · refine plainG rfl ?_
      intro bA K Q' hK
      have e24 := hG 3 24 (by decide) (by kernel_rfl) (by kernel_rfl)
      obtain ⟨lz, az, nz, cz, ez, hz⟩ := e24
      change ρ (.tmp 24) = _ at ez
      simp only [execOp]
      go_simp
      exact hK _ _ ⟨lz, az, nz, cz, rfl, hz⟩ (.inl (Grew.refl _)) (noPair (by decide))
    · refine plainG rfl ?_
      intro bA K Q' hK
      have e20 := hG 4 20 (by decide) (by kernel_rfl) (by kernel_rfl)
      obtain ⟨lz, az, nz, cz, ez, hz⟩ := e20
      change ρ (.tmp 20) = _ at ez
      simp only [execOp]
      go_simp
      exact hK _ _ ⟨lz, az, nz, cz, rfl, hz⟩ (.inl (Grew.refl _)) (noPair (by decide))
    · refine plainG rfl ?_
      intro bA K Q' hK
      have e20 := hG 4 20 (by decide) (by kernel_rfl) (by kernel_rfl)
      obtain ⟨lz, az, nz, cz, ez, hz⟩ := e20
      change ρ (.tmp 20) = _ at ez
      simp only [execOp]
      go_simp
      exact hK _ _ rfl (.inl (Grew.refl _)) (noPair (by decide))
    · refine plainG rfl ?_
      intro bA K Q' hK
      simp only [execOp]
      go_simp
      exact hK _ _ ⟨_, rfl, hR.size, heap_alloc_new w5 _⟩ (.inl ((Grew.refl _).alloc _)) (noPair (by decide))
    · refine plainG rfl ?_
      intro bA K Q' hK
      have e7 := hG 7 7 (by decide) (by kernel_rfl) (by kernel_rfl)
      have e25 := hG 5 25 (by decide) (by kernel_rfl) (by kernel_rfl)
      obtain ⟨gz, e7, hgz, hrz⟩ := e7
      obtain ⟨lz, az, nz, cz, e25, hz⟩ := e25
      refine upon_store_own 27 (.tmp 7) (.tmp 25) rfl gz #[.bool lz, .slice az nz cz] e7 e25 27 _ hrz (by kernel_rfl) rfl (by simp [Value.oneCell']) ?_
      intro w3 hr3 hg3
      refine hK (.pointer (some ⟨gz, 0, none⟩)) _ ⟨gz, lz, az, nz, cz, rfl, hgz, hr3, fun hp => ⟨(hz hp).1, (hz hp).2.over hg3 hrz (fun z e => by cases e)⟩⟩ (.inr ⟨grown_is_below hg3 hgz hR.size, ?_⟩) ?_
      · simp only [AllLt]
        refine ⟨⟨⟨⟨⟨⟨⟨⟨⟨⟨trivial, ?_⟩, ?_⟩, ?_⟩, ?_⟩, ?_⟩, ?_⟩, ?_⟩, ?_⟩, ?_⟩, ?_⟩
        · first | exact fun _ x hx => hx | exact nokeep (by kernel_rfl)
        · first | exact fun _ x hx => hx | exact nokeep (by kernel_rfl)
        · first | exact fun _ x hx => hx | exact nokeep (by kernel_rfl)
        · exact nokeep (by kernel_rfl)
        · exact fun _ x hx => by obtain ⟨l, a, n, c, h1, h2⟩ := hx; exact ⟨l, a, n, c, h1, fun hp => ⟨(h2 hp).1, (h2 hp).2.over hg3 hrz (fun z e => by cases e)⟩⟩
        · exact nokeep (by kernel_rfl)
        · first | exact fun _ x hx => hx | exact nokeep (by kernel_rfl)
        · exact nokeep (by kernel_rfl)
        · exact nokeep (by kernel_rfl)
        · first | exact fun _ x hx => hx | exact nokeep (by kernel_rfl)
      · intro y hy hw
        simp at hy
        subst hy
        exact e7
    · refine plainG rfl ?_
      intro bA K Q' hK
      have e26 := hG 6 26 (by decide) (by kernel_rfl) (by kernel_rfl)
      change ρ (.tmp 26) = _ at e26
      simp only [execOp]
      go_simp
      exact hK _ _ rfl (.inl (Grew.refl _)) (noPair (by decide))
  · skip
    intro vv w6 hB hG hDD
    simp only [AllLt] at hG
    have q9 := hG.2 (by decide)
    change vv 9 = _ at q9
    obtain ⟨gp7, lp7, ap7, np7, cp7, q8, -, hr, h7⟩ := hG.1.2 (by decide)
    have q7 : vv 7 = _ := (hDD (7, 8, 7) (by simp)).trans q8
    have hb := belDrew hB
    clear hG hDD hB q8 HCX
    have pe_6 := hid (row_below pe_5.out hb)
    clear pe_5
    have HX_6 := hid (HX_5.out.below hb)
    clear HX_5
    have p1_6 := hid (row_below p1_5.out hb)
    clear p1_5
    have HY_6 := hid (HY_5.out.below hb)
    clear HY_5
    have p2_6 := hid (row_below p2_5.out hb)
    clear p2_5
    have HB_6 : Hid (Below W.heap.size W w6) := hid (HB_5.out.trans ((hb).mono HB_5.out.size))
    clear HB_5
    have p7_6 := hid hr
    have HNp7_6 := hid h7
    clear hr h7 hb
    simp [stG, stU, dstAt, Act.put, q7, q9]
    clear q7 q9
    clear HWI
    go_upto_region 4 with fail
    have HCX : Hid (∀ x, Below w6.heap.size w6 x → NdOk x a1 n1 c1 xs ∧ (x.cell? ⟨gp1, 0, none⟩ = some (.bool lf) ∧ x.cell? ⟨gp1, 1, none⟩ = some (.slice a1 n1 c1)) ∧ x.cell? ⟨g + 1, 0, none⟩ = some (.int .i64 s) ∧ x.cell? ⟨g + 1, 1, none⟩ = some (.int .i64 z) ∧ x.cell? ⟨g + 1, 2, none⟩ = some (.int .i64 p)) := hid fun x hx => by
      have h1 := row_below p1_6.out hx
      have h2 := row_below pe_6.out hx
      exact ⟨HX_6.out.below hx, ⟨by rw [cell_of_row _ _ _ _ _ _ h1]; rfl, by rw [cell_of_row _ _ _ _ _ _ h1]; rfl⟩, by rw [cell_of_row _ _ _ _ _ _ h2]; rfl, by rw [cell_of_row _ _ _ _ _ _ h2]; rfl, by rw [cell_of_row _ _ _ _ _ _ h2]; rfl⟩
    refine wp_region_growsM 11 [(8, 9, 9)] [(9, 4), (9, 6), (9, 8)] [EqN (.agg #[.bool lf, .slice a1 n1 c1]), EqN (.pointer (some ⟨g + 1, 0, none⟩)), EqN (.agg #[.int .i64 s, .int .i64 z]), EqN (.agg #[.int .i64 s, .int .i64 z]), (fun x v => AnsT x v Fo (Fo = 0) lf D), (fun x v => AnsT x v Fo (Fo = 0) lf D), (fun x v => AnsV x v (Fo = 0) lf D), EqN (.int .i64 Fo), (fun x v => BoxZ x v 27 w6.heap.size), (fun x v => BoxN x v 27 w6.heap.size (Fo = 0) lf D), EqN (.int .i64 Fo)] (by kernel_rfl) (by decide) (by kernel_rfl) (by kernel_rfl) (by kernel_rfl) ?_ ?_ ?_
    · repeat' (first | exact List.forall_mem_nil _ | refine List.forall_mem_cons.2 ⟨?_, ?_⟩)
      all_goals
        intro w w' v hw h
        first | exact h | exact BoxZ.grew hw h | exact BoxN.grew hw h | exact AnsT.grew hw h | exact AnsV.grew hw h
    · simp only [AllLt]
      refine ⟨⟨⟨⟨⟨⟨⟨⟨⟨⟨⟨trivial, ?_⟩, ?_⟩, ?_⟩, ?_⟩, ?_⟩, ?_⟩, ?_⟩, ?_⟩, ?_⟩, ?_⟩, ?_⟩
      all_goals
        intro o' ho
        simp at ho
        subst ho
        intro ρ w5 hR hL hS hG
        obtain ⟨hl1, hl2, -⟩ := hL
      · refine plainG rfl ?_
        intro bA K Q' hK
        have e5 := hS 5 (by kernel_rfl)
        change ρ (.tmp 5) = _ at e5
        obtain ⟨-, ⟨y0, y1⟩, y2, y3, y4⟩ := HCX.out w5 (belDrew hR)
        simp only [execOp]
        go_simp
        exact hK _ _ rfl (.inl (Grew.refl _)) (noPair (by decide))
      · refine plainG rfl ?_
        intro bA K Q' hK
        have e3 := hS 3 (by kernel_rfl)
        change ρ (.tmp 3) = _ at e3
        simp only [execOp]
        go_simp
        exact hK _ _ rfl (.inl (Grew.refl _)) (noPair (by decide))
      · refine plainG rfl ?_
        intro bA K Q' hK
        have e29 := hG 1 29 (by decide) (by kernel_rfl) (by kernel_rfl)
        change ρ (.tmp 29) = _ at e29
        obtain ⟨-, ⟨y0, y1⟩, y2, y3, y4⟩ := HCX.out w5 (belDrew hR)
        simp only [execOp]
        go_simp
        exact hK _ _ rfl (.inl (Grew.refl _)) (noPair (by decide))
      · refine plainG rfl ?_
        intro bA K Q' hK
        have e30 := hG 2 30 (by decide) (by kernel_rfl) (by kernel_rfl)
        change ρ (.tmp 30) = _ at e30
        simp only [execOp]
        go_simp
        refine (key_any s z w5).mono ?_
        rintro r9 w9 ⟨rfl, hb9⟩
        exact hK _ _ rfl (.inl hb9) (noPair (by decide))
      · refine plainG rfl ?_
        intro bA K Q' hK
        have e28 := hG 0 28 (by decide) (by kernel_rfl) (by kernel_rfl)
        have e31 := hG 3 31 (by decide) (by kernel_rfl) (by kernel_rfl)
        change ρ (.tmp 28) = _ at e28
        change ρ (.tmp 31) = _ at e31
        simp only [execOp]
        go_simp
        refine (HWO.out w5 _ _ _ (HCX.out w5 (belDrew hR)).1).mono ?_
        rintro r9 w9 ⟨⟨v9, rfl, h9⟩, hb9⟩
        exact hK _ _ h9 (.inl hb9) (noPair (by decide))
      · refine plainG rfl ?_
        intro bA K Q' hK
        have e32 := hG 4 32 (by decide) (by kernel_rfl) (by kernel_rfl)
        obtain ⟨lz, az, nz, cz, ez, hz⟩ := e32
        change ρ (.tmp 32) = _ at ez
        simp only [execOp]
        go_simp
        exact hK _ _ ⟨lz, az, nz, cz, rfl, hz⟩ (.inl (Grew.refl _)) (noPair (by decide))
      · refine plainG rfl ?_
        intro bA K Q' hK
        have e27 := hG 5 27 (by decide) (by kernel_rfl) (by kernel_rfl)
        obtain ⟨lz, az, nz, cz, ez, hz⟩ := e27
        change ρ (.tmp 27) = _ at ez
        simp only [execOp]
        go_simp
        exact hK _ _ ⟨lz, az, nz, cz, rfl, hz⟩ (.inl (Grew.refl _)) (noPair (by decide))
      · refine plainG rfl ?_
        intro bA K Q' hK
        have e27 := hG 5 27 (by decide) (by kernel_rfl) (by kernel_rfl)
        obtain ⟨lz, az, nz, cz, ez, hz⟩ := e27
        change ρ (.tmp 27) = _ at ez
        simp only [execOp]
        go_simp
        exact hK _ _ rfl (.inl (Grew.refl _)) (noPair (by decide))
      · refine plainG rfl ?_
        intro bA K Q' hK
        simp only [execOp]
        go_simp
        exact hK _ _ ⟨_, rfl, hR.size, heap_alloc_new w5 _⟩ (.inl ((Grew.refl _).alloc _)) (noPair (by decide))
      · refine plainG rfl ?_
        intro bA K Q' hK
        have e9 := hG 8 9 (by decide) (by kernel_rfl) (by kernel_rfl)
        have e33 := hG 6 33 (by decide) (by kernel_rfl) (by kernel_rfl)
        obtain ⟨gz, e9, hgz, hrz⟩ := e9
        obtain ⟨lz, az, nz, cz, e33, hz⟩ := e33
        refine upon_store_own 27 (.tmp 9) (.tmp 33) rfl gz #[.bool lz, .slice az nz cz] e9 e33 27 _ hrz (by kernel_rfl) rfl (by simp [Value.oneCell']) ?_
        intro w3 hr3 hg3
        refine hK (.pointer (some ⟨gz, 0, none⟩)) _ ⟨gz, lz, az, nz, cz, rfl, hgz, hr3, fun hp => ⟨(hz hp).1, (hz hp).2.over hg3 hrz (fun z e => by cases e)⟩⟩ (.inr ⟨grown_is_below hg3 hgz hR.size, ?_⟩) ?_
        · simp only [AllLt]
          refine ⟨⟨⟨⟨⟨⟨⟨⟨⟨⟨⟨trivial, ?_⟩, ?_⟩, ?_⟩, ?_⟩, ?_⟩, ?_⟩, ?_⟩, ?_⟩, ?_⟩, ?_⟩, ?_⟩
          · first | exact fun _ x hx => hx | exact nokeep (by kernel_rfl)
          · first | exact fun _ x hx => hx | exact nokeep (by kernel_rfl)
          · first | exact fun _ x hx => hx | exact nokeep (by kernel_rfl)
          · first | exact fun _ x hx => hx | exact nokeep (by kernel_rfl)
          · exact nokeep (by kernel_rfl)
          · exact fun _ x hx => by obtain ⟨l, a, n, c, h1, h2⟩ := hx; exact ⟨l, a, n, c, h1, fun hp => ⟨(h2 hp).1, (h2 hp).2.over hg3 hrz (fun z e => by cases e)⟩⟩
          · exact nokeep (by kernel_rfl)
          · first | exact fun _ x hx => hx | exact nokeep (by kernel_rfl)
          · exact nokeep (by kernel_rfl)
          · exact nokeep (by kernel_rfl)
          · first | exact fun _ x hx => hx | exact nokeep (by kernel_rfl)
        · intro y hy hw
          simp at hy
          subst hy
          exact e9
      · refine plainG rfl ?_
        intro bA K Q' hK
        have e34 := hG 7 34 (by decide) (by kernel_rfl) (by kernel_rfl)
        change ρ (.tmp 34) = _ at e34
        simp only [execOp]
        go_simp
        exact hK _ _ rfl (.inl (Grew.refl _)) (noPair (by decide))
    · skip
      intro vv w7 hB hG hDD
      simp only [AllLt] at hG
      have q9 := hG.2 (by decide)
      change vv 10 = _ at q9
      obtain ⟨gp9, lp9, ap9, np9, cp9, q8, -, hr, h7⟩ := hG.1.2 (by decide)
      have q7 : vv 8 = _ := (hDD (8, 9, 9) (by simp)).trans q8
      have hb := belDrew hB
      clear hG hDD hB q8 HCX
      have pe_7 := hid (row_below pe_6.out hb)
      clear pe_6
      have HX_7 := hid (HX_6.out.below hb)
      clear HX_6
      have p1_7 := hid (row_below p1_6.out hb)
      clear p1_6
      have HY_7 := hid (HY_6.out.below hb)
      clear HY_6
      have p2_7 := hid (row_below p2_6.out hb)
      clear p2_6
      have p7_7 := hid (row_below p7_6.out hb)
      clear p7_6
      have HNp7_7 : Hid (F = 0 → lp7 = lf ∧ NdOk w7 ap7 np7 cp7 I) := hid (fun hp => ⟨(HNp7_6.out hp).1, (HNp7_6.out hp).2.below hb⟩)
      clear HNp7_6
      have HB_7 : Hid (Below W.heap.size W w7) := hid (HB_6.out.trans ((hb).mono HB_6.out.size))
      clear HB_6
      have p9_7 := hid hr
      have HNp9_7 := hid h7
      clear hr h7 hb
      simp [stG, stU, dstAt, Act.put, q7, q9]
      clear q7 q9
      clear HWO
      go_upto_region 5 with fail
      have HCX : Hid (∀ x, Grew w7.drew x → NdOk x a1 n1 c1 xs ∧ NdOk x a2 n2 c2 xs) := hid fun x hx => ⟨HX_7.out.below (grewDrew hx), HY_7.out.below (grewDrew hx)⟩
      have HCY : Hid (∀ x, Grew w7.drew x → x.cell? ⟨gp1, 0, none⟩ = some (.bool lf) ∧ x.cell? ⟨gp1, 1, none⟩ = some (.slice a1 n1 c1) ∧ x.cell? ⟨gp2, 0, none⟩ = some (.bool lf) ∧ x.cell? ⟨gp2, 1, none⟩ = some (.slice a2 n2 c2)) := hid fun x hx => by
        have h1 := row_below p1_7.out (grewDrew hx)
        have h2 := row_below p2_7.out (grewDrew hx)
        exact ⟨by rw [cell_of_row _ _ _ _ _ _ h1]; rfl, by rw [cell_of_row _ _ _ _ _ _ h1]; rfl, by rw [cell_of_row _ _ _ _ _ _ h2]; rfl, by rw [cell_of_row _ _ _ _ _ _ h2]; rfl⟩
      refine wp_region_grows 5 [EqN (.agg #[.bool lf, .slice a1 n1 c1]), (fun x v => NdV x v lf xs), EqN (.agg #[.bool lf, .slice a2 n2 c2]), EqN (.bool true), EqN (.bool false)] (by kernel_rfl) (by decide) (by kernel_rfl) ?_ ?_ ?_
      · repeat' (first | exact List.forall_mem_nil _ | refine List.forall_mem_cons.2 ⟨?_, ?_⟩)
        all_goals
          intro w w' v hw h
          first | exact h | exact NdV.grew hw h
      · simp only [AllLt]
        refine ⟨⟨⟨⟨⟨trivial, ?_⟩, ?_⟩, ?_⟩, ?_⟩, ?_⟩
        all_goals
          intro o' ho
          simp at ho
          subst ho
          intro ρ w5 hR hL hS hG
          obtain ⟨hl1, hl2, -⟩ := hL
        · refine plainG rfl ?_
          intro bA K Q' hK
          have e5 := hS 5 (by kernel_rfl)
          change ρ (.tmp 5) = _ at e5
          obtain ⟨y0, y1, y2, y3⟩ := HCY.out w5 hR
          simp only [execOp]
          go_simp
          exact hK _ _ rfl (Grew.refl _)
        · refine plainG rfl ?_
          intro bA K Q' hK
          have e35 := hG 0 35 (by decide) (by kernel_rfl) (by kernel_rfl)
          change ρ (.tmp 35) = _ at e35
          simp only [execOp]
          go_simp
          refine (of_x lf (HCX.out w5 hR).1).mono ?_
          rintro r9 w9 ⟨⟨a9, n9, c9, rfl, h9⟩, hb9⟩
          exact hK _ _ ⟨_, _, _, rfl, h9⟩ hb9
        · refine plainG rfl ?_
          intro bA K Q' hK
          have e6 := hS 6 (by kernel_rfl)
          change ρ (.tmp 6) = _ at e6
          obtain ⟨y0, y1, y2, y3⟩ := HCY.out w5 hR
          simp only [execOp]
          go_simp
          exact hK _ _ rfl (Grew.refl _)
        · refine plainG rfl ?_
          intro bA K Q' hK
          have e36 := hG 1 36 (by decide) (by kernel_rfl) (by kernel_rfl)
          have e37 := hG 2 37 (by decide) (by kernel_rfl) (by kernel_rfl)
          skip
          change ρ (.tmp 37) = _ at e37
          obtain ⟨a9, n9, c9, e36', h29⟩ := e36
          change ρ (.tmp 36) = _ at e36'
          simp only [execOp]
          go_simp
          refine (same_x lf h29 (HCX.out w5 hR).2).mono ?_
          rintro r9 w9 ⟨rfl, hb9⟩
          exact hK _ _ rfl hb9
        · refine plainG rfl ?_
          intro bA K Q' hK
          have e38 := hG 3 38 (by decide) (by kernel_rfl) (by kernel_rfl)
          change ρ (.tmp 38) = _ at e38
          simp only [execOp]
          go_simp
          exact hK _ _ rfl (Grew.refl _)
      · skip
        intro vv w8 hR hG
        have h9 : vv 4 = .bool false := hG.2
        have hb := grewDrew hR
        clear hG hR HCX HCY
        have pe_8 := hid (row_below pe_7.out hb)
        clear pe_7
        have HX_8 := hid (HX_7.out.below hb)
        clear HX_7
        have p1_8 := hid (row_below p1_7.out hb)
        clear p1_7
        have HY_8 := hid (HY_7.out.below hb)
        clear HY_7
        have p2_8 := hid (row_below p2_7.out hb)
        clear p2_7
        have p7_8 := hid (row_below p7_7.out hb)
        clear p7_7
        have HNp7_8 : Hid (F = 0 → lp7 = lf ∧ NdOk w8 ap7 np7 cp7 I) := hid (fun hp => ⟨(HNp7_7.out hp).1, (HNp7_7.out hp).2.below hb⟩)
        clear HNp7_7
        have p9_8 := hid (row_below p9_7.out hb)
        clear p9_7
        have HNp9_8 : Hid (Fo = 0 → lp9 = lf ∧ NdOk w8 ap9 np9 cp9 D) := hid (fun hp => ⟨(HNp9_7.out hp).1, (HNp9_7.out hp).2.below hb⟩)
        clear HNp9_7
        have HB_8 : Hid (Below W.heap.size W w8) := hid (HB_7.out.trans ((hb).mono HB_7.out.size))
        clear HB_7
        clear hb
        simp [stG, stU, dstAt, Act.put, h9]
        clear h9
        have hc0p2 : w8.cell? ⟨gp2, 0, none⟩ = some (.bool lf) := by rw [cell_of_row _ _ _ _ _ _ p2_8.out]; rfl
        have hc1p2 : w8.cell? ⟨gp2, 1, none⟩ = some (.slice a2 n2 c2) := by rw [cell_of_row _ _ _ _ _ _ p2_8.out]; rfl
        go_wp2_with fail
        clear hc0p2 hc1p2
        have h := chk_x lf HY_8.out
        rw [HC.out] at h
        have HCK := hid h
        clear h
        refine (HCK.out).mono ?_
        rintro e w9 ⟨rfl, hb⟩
        have pe_9 := hid (row_below pe_8.out hb)
        clear pe_8
        have HX_9 := hid (HX_8.out.below hb)
        clear HX_8
        have p1_9 := hid (row_below p1_8.out hb)
        clear p1_8
        have HY_9 := hid (HY_8.out.below hb)
        clear HY_8
        have p2_9 := hid (row_below p2_8.out hb)
        clear p2_8
        have p7_9 := hid (row_below p7_8.out hb)
        clear p7_8
        have HNp7_9 : Hid (F = 0 → lp7 = lf ∧ NdOk w9 ap7 np7 cp7 I) := hid (fun hp => ⟨(HNp7_8.out hp).1, (HNp7_8.out hp).2.below hb⟩)
        clear HNp7_8
        have p9_9 := hid (row_below p9_8.out hb)
        clear p9_8
        have HNp9_9 : Hid (Fo = 0 → lp9 = lf ∧ NdOk w9 ap9 np9 cp9 D) := hid (fun hp => ⟨(HNp9_8.out hp).1, (HNp9_8.out hp).2.below hb⟩)
        clear HNp9_8
        have HB_9 : Hid (Below W.heap.size W w9) := hid (HB_8.out.trans ((hb).mono HB_8.out.size))
        clear HB_8
        clear hb
        clear HCK
        clear HX_9 p1_9
        have HFA : Hid (fallN xs = false) := hid (chkN_zero HC.out).2.2.1
        have HOK : Hid (∀ e ∈ xs, okE e = true) := hid (badN_false.1 (chkN_zero HC.out).2.1)
        have hn2 : n2 = xs.length := HY_9.out.1
        have HN := hid hn2
        have hn18 : (n2 : Int) ≤ 16 := by have := (chkN_zero HC.out).1; omega
        have HE2 := hid HY_9.out.2.1
        obtain ⟨pe, hpe⟩ : ∃ p, p = placeW s z := ⟨_, rfl⟩
        have HPEE := hid hpe
        have HPL : Hid (∀ y, Calls Try.prog 22 #[.agg #[.int .i64 s, .int .i64 z]] y fun e w' => e = .returned (.int .i64 pe) ∧ Below y.heap.size y w') := hid fun y => by
          rw [HPEE.out]; exact place_free s z y
        obtain ⟨B0, hB0⟩ : ∃ B, B = w9.heap.size := ⟨_, rfl⟩
        have HB0 := hid hB0
        have HALL : Hid (∀ x, Below w9.heap.size w9 x → (x.cell? ⟨gp2, 0, none⟩ = some (.bool lf) ∧ x.cell? ⟨gp2, 1, none⟩ = some (.slice a2 n2 c2)) ∧ x.cell? ⟨g + 1, 0, none⟩ = some (.int .i64 s) ∧ x.cell? ⟨g + 1, 1, none⟩ = some (.int .i64 z) ∧ x.cell? ⟨g + 1, 2, none⟩ = some (.int .i64 p)) := hid fun x hx => by
          have h2 := row_below p2_9.out hx
          have h3 := row_below pe_9.out hx
          exact ⟨⟨by rw [cell_of_row _ _ _ _ _ _ h2]; rfl, by rw [cell_of_row _ _ _ _ _ _ h2]; rfl⟩, by rw [cell_of_row _ _ _ _ _ _ h3]; rfl, by rw [cell_of_row _ _ _ _ _ _ h3]; rfl, by rw [cell_of_row _ _ _ _ _ _ h3]; rfl⟩
        have HB79 : Hid (∀ x, Below w9.heap.size w9 x → (x.cell? ⟨gp7, 0, none⟩ = some (.bool lp7) ∧ x.cell? ⟨gp7, 1, none⟩ = some (.slice ap7 np7 cp7)) ∧ (x.cell? ⟨gp9, 0, none⟩ = some (.bool lp9) ∧ x.cell? ⟨gp9, 1, none⟩ = some (.slice ap9 np9 cp9))) := hid fun x hx => by
          have h2 := row_below p7_9.out hx
          have h3 := row_below p9_9.out hx
          exact ⟨⟨by rw [cell_of_row _ _ _ _ _ _ h2]; rfl, by rw [cell_of_row _ _ _ _ _ _ h2]; rfl⟩, by rw [cell_of_row _ _ _ _ _ _ h3]; rfl, by rw [cell_of_row _ _ _ _ _ _ h3]; rfl⟩
        have HN7 : Hid (∀ x, Below w9.heap.size w9 x → F = 0 → lp7 = lf ∧ NdOk x ap7 np7 cp7 I) := hid fun x hx h => ⟨(HNp7_9.out h).1, (HNp7_9.out h).2.below hx⟩
        have HN9 : Hid (∀ x, Below w9.heap.size w9 x → Fo = 0 → lp9 = lf ∧ NdOk x ap9 np9 cp9 D) := hid fun x hx h => ⟨(HNp9_9.out h).1, (HNp9_9.out h).2.below hx⟩
        clear hpe hB0 hn2 HY_9 p2_9 pe_9 p7_9 p9_9 HNp7_9 HNp9_9
        go_wp2_with fail
        go_loopw [11, 12, 13, 14, 15] (fun a11 a12 a13 a14 a15 wr => ∃ (k LU LV : Nat) (u v : Value) (WU WV : List Et) (IS PT : Bool), k ≤ n2 ∧ a11 = u ∧ a12 = v ∧ a13 = .bool IS ∧ a14 = .bool PT ∧ a15 = .int .i64 (k : Int) ∧ (WU = (withTo xs ((s, z), p) pe k).1 ∧ PT = (withTo xs ((s, z), p) pe k).2 ∧ WV = outTo xs (s, z) k ∧ IS = isTo xs (s, z) k) ∧ Below w9.heap.size w9 wr ∧ wr.ownsRow B0 54 3 u LU (ecells WU) ∧ wr.ownsRow B0 54 3 v LV (ecells WV) ∧ Ap u v) (fun _ _ _ _ i _ => n2 - (intOf i).toNat)
        case atStart => exact ⟨0, 0, 0, _, _, [], [], false, false, Nat.zero_le _, rfl, rfl, rfl, rfl, rfl, ⟨rfl, rfl, rfl, rfl⟩, Below.refl _ _, World.ownsRow_nil _ _ _ _, World.ownsRow_nil _ _ _ _, fun b h => by cases h⟩
        case round =>
          obtain ⟨k, LU, LV, u, v, WU, WV, IS, PT, hk, rfl, rfl, rfl, rfl, rfl, hst, hb, hu, hv, hap⟩ := hrel
          have HST := hid hst
          have HBC := hid hb
          have HU := hid hu
          have HV := hid hv
          have HAP := hid hap
          have HLB : Hid (LU ≤ 20 ∧ LV ≤ 20) := hid (by
            have h1 := hu.1
            have h2 := hv.1
            rw [ecells_len, hst.1] at h1
            rw [ecells_len, hst.2.2.1] at h2
            have h3 := (withTo_len xs ((s, z), p) pe k).1
            have h4 := outTo_len xs (s, z) k
            omega)
          obtain ⟨⟨hcl2, hcu2⟩, -⟩ := HALL.out wr hb
          clear hst hb hu hv hap
          by_cases hlt : (k : Int) < n2
          · skip
            have hkn : (k < n2) = True := eq_true (by omega)
            have HKX : Hid (k < xs.length) := hid (by have := HN.out; omega)
            obtain ⟨b2, o2, rfl, -, -, -⟩ := (HE2.out.below HBC.out).cell (i := k) HKX.out
            obtain ⟨⟨⟨s1, z1⟩, p1⟩, hx⟩ : ∃ x, x = xs.getD k et0 := ⟨_, rfl⟩
            have HKE := hid hx
            have HR : Hid (∀ x, Below w9.heap.size w9 x → (x.cell? ⟨gp2, 1, none⟩ = some (.slice (some ⟨b2, o2, none⟩) n2 c2) ∧ x.cell? ⟨g + 1, 0, none⟩ = some (.int .i64 s) ∧ x.cell? ⟨g + 1, 1, none⟩ = some (.int .i64 z) ∧ x.cell? ⟨g + 1, 2, none⟩ = some (.int .i64 p)) ∧ x.cell? ⟨b2, o2 + k * 3, none⟩ = some (.int .i64 s1) ∧ x.cell? ⟨b2, o2 + k * 3 + 1, none⟩ = some (.int .i64 z1) ∧ x.cell? ⟨b2, o2 + k * 3 + 2, none⟩ = some (.int .i64 p1)) := hid fun x hx' => by
              have h := HALL.out x hx'
              obtain ⟨b', o', hab, q1, q2, q3⟩ := (HE2.out.below hx').cell (i := k) HKX.out
              cases hab
              rw [← hx] at q1 q2 q3
              exact ⟨⟨h.1.2, h.2⟩, q1, q2, q3⟩
            have HKO : Hid (okK (s1, z1) = true) := hid (by have h := okE_key (HOK.out _ (memGetD (zs := xs) (d := et0) HKX.out)); rw [← hx] at h; exact h)
            obtain ⟨py, hp⟩ : ∃ p, p = plK (s1, z1) := ⟨_, rfl⟩
            have HP1 := hid hp
            have HPY : Hid (∀ y, Calls Try.prog 22 #[.agg #[.int .i64 s1, .int .i64 z1]] y fun e w' => e = .returned (.int .i64 py) ∧ Below y.heap.size y w') := hid fun y => by
              rw [HP1.out]; exact place_ok (s1, z1) y HKO.out
            have hW := withTo_next xs ((s, z), p) pe k
            have hO := outTo_next (k := (s, z)) HKX.out
            have hI := isTo_next (k := (s, z)) HKX.out
            rw [← HST.out.1, ← HST.out.2.1, ← HKE.out] at hW
            rw [← HST.out.2.2.1, ← HKE.out] at hO
            rw [← HST.out.2.2.2, ← HKE.out] at hI
            simp only at hW hO hI
            rw [← HP1.out] at hW
            have HNX := hid (And.intro hW (And.intro hO hI))
            clear hx hp hcl2 hW hO hI HST
            have HCY : Hid (∀ x, Grew wr.drew x → (x.cell? ⟨gp2, 1, none⟩ = some (.slice (some ⟨b2, o2, none⟩) n2 c2) ∧ x.cell? ⟨g + 1, 0, none⟩ = some (.int .i64 s) ∧ x.cell? ⟨g + 1, 1, none⟩ = some (.int .i64 z) ∧ x.cell? ⟨g + 1, 2, none⟩ = some (.int .i64 p)) ∧ x.cell? ⟨b2, o2 + k * 3, none⟩ = some (.int .i64 s1) ∧ x.cell? ⟨b2, o2 + k * 3 + 1, none⟩ = some (.int .i64 z1) ∧ x.cell? ⟨b2, o2 + k * 3 + 2, none⟩ = some (.int .i64 p1)) := hid fun x hx => HR.out x (HBC.out.trans ((grewDrew hx).mono HBC.out.size))
            rcases (show Hid (PT = true) ∨ Hid (PT = false ∧ pe ≤ py) ∨ Hid (PT = false ∧ ¬ pe ≤ py) by
              cases PT
              · by_cases h : pe ≤ py
                · exact .inr (.inl (hid ⟨rfl, h⟩))
                · exact .inr (.inr (hid ⟨rfl, h⟩))
              · exact .inl (hid rfl)) with hc | hc | hc
            · obtain rfl := hc.out
              clear hc
              go_upto_region 14 with fail
              refine wp_region_grows 15 [EqN (.bool true), EqN (.bool false), EqN (.bool false), EqN (undef), EqN (undef), EqN (undef), EqN (undef), EqN (undef), EqN (undef), EqN (undef), EqN (undef), EqN (undef), EqN (undef), EqN (undef), EqN (.bool false)] (by kernel_rfl) (by decide) (by kernel_rfl) ?_ ?_ ?_
              · repeat' (first | exact List.forall_mem_nil _ | refine List.forall_mem_cons.2 ⟨?_, ?_⟩)
                all_goals
                  intro w w' v hw h
                  first | exact h | exact h
              · simp only [AllLt]
                refine ⟨⟨⟨⟨⟨⟨⟨⟨⟨⟨⟨⟨⟨⟨⟨trivial, ?_⟩, ?_⟩, ?_⟩, ?_⟩, ?_⟩, ?_⟩, ?_⟩, ?_⟩, ?_⟩, ?_⟩, ?_⟩, ?_⟩, ?_⟩, ?_⟩, ?_⟩
                all_goals
                  intro o' ho
                  simp at ho
                  subst ho
                  intro ρ w5 hR hL hS hG
                  obtain ⟨hl1, hl2, -⟩ := hL
                · refine plainG rfl ?_
                  intro bA K Q' hK
                  have e14 := hS 14 (by kernel_rfl)
                  change ρ (.tmp 14) = _ at e14
                  simp only [execOp]
                  go_simp
                  exact hK _ _ rfl (Grew.refl _)
                · refine plainG rfl ?_
                  intro bA K Q' hK
                  have e63 := hG 0 63 (by decide) (by kernel_rfl) (by kernel_rfl)
                  change ρ (.tmp 63) = _ at e63
                  simp only [execOp]
                  go_simp
                  exact hK _ _ rfl (Grew.refl _)
                · refine plainG rfl ?_
                  intro bA K Q' hK
                  have e64 := hG 1 64 (by decide) (by kernel_rfl) (by kernel_rfl)
                  change ρ (.tmp 64) = _ at e64
                  simp only [execOp]
                  go_simp
                  exact hK _ _ rfl (Grew.refl _)
                · have eG : ρ (.tmp 65) = _ := hG 2 65 (by decide) (by kernel_rfl) (by kernel_rfl)
                  exact offG rfl (by kernel_rfl) eG rfl rfl
                · have eG : ρ (.tmp 65) = _ := hG 2 65 (by decide) (by kernel_rfl) (by kernel_rfl)
                  exact offG rfl (by kernel_rfl) eG rfl rfl
                · have eG : ρ (.tmp 65) = _ := hG 2 65 (by decide) (by kernel_rfl) (by kernel_rfl)
                  exact offG rfl (by kernel_rfl) eG rfl rfl
                · have eG : ρ (.tmp 65) = _ := hG 2 65 (by decide) (by kernel_rfl) (by kernel_rfl)
                  exact offG rfl (by kernel_rfl) eG rfl rfl
                · have eG : ρ (.tmp 65) = _ := hG 2 65 (by decide) (by kernel_rfl) (by kernel_rfl)
                  exact offG rfl (by kernel_rfl) eG rfl rfl
                · have eG : ρ (.tmp 65) = _ := hG 2 65 (by decide) (by kernel_rfl) (by kernel_rfl)
                  exact offG rfl (by kernel_rfl) eG rfl rfl
                · have eG : ρ (.tmp 65) = _ := hG 2 65 (by decide) (by kernel_rfl) (by kernel_rfl)
                  exact offG rfl (by kernel_rfl) eG rfl rfl
                · have eG : ρ (.tmp 65) = _ := hG 2 65 (by decide) (by kernel_rfl) (by kernel_rfl)
                  exact offG rfl (by kernel_rfl) eG rfl rfl
                · have eG : ρ (.tmp 65) = _ := hG 2 65 (by decide) (by kernel_rfl) (by kernel_rfl)
                  exact offG rfl (by kernel_rfl) eG rfl rfl
                · have eG : ρ (.tmp 65) = _ := hG 2 65 (by decide) (by kernel_rfl) (by kernel_rfl)
                  exact offG rfl (by kernel_rfl) eG rfl rfl
                · have eG : ρ (.tmp 65) = _ := hG 2 65 (by decide) (by kernel_rfl) (by kernel_rfl)
                  exact offG rfl (by kernel_rfl) eG rfl rfl
                · refine plainG rfl ?_
                  intro bA K Q' hK
                  have e65 := hG 2 65 (by decide) (by kernel_rfl) (by kernel_rfl)
                  have e76 := hG 13 76 (by decide) (by kernel_rfl) (by kernel_rfl)
                  change ρ (.tmp 65) = _ at e65
                  change ρ (.tmp 76) = _ at e76
                  simp only [execOp]
                  go_simp
                  exact hK _ _ rfl (Grew.refl _)
              · skip
                intro vv w8 hR hG
                have h9 : vv 14 = .bool false := hG.2
                have hb := grewDrew hR
                clear hG hR HCY hcu2
                have HBC_1 : Hid (Below w9.heap.size w9 w8) := hid (HBC.out.trans ((hb).mono HBC.out.size))
                have HU_1 : Hid (w8.ownsRow B0 54 3 (u11) LU (ecells WU)) := hid (ownBelow HU.out (hb))
                have HV_1 : Hid (w8.ownsRow B0 54 3 (u12) LV (ecells WV)) := hid (ownBelow HV.out (hb))
                have HAP_1 := hid HAP.out
                clear HBC HU HV HAP
                clear hb
                simp [stG, stU, dstAt, Act.put, h9]
                clear h9
                obtain ⟨⟨hcu2, hk0, hk1, hk2⟩, hy1, hy2, hy3⟩ := HR.out w8 HBC_1.out
                rcases (show Hid (s1 = s ∧ z1 = z) ∨ Hid (s1 ≠ s) ∨ Hid (s1 = s ∧ z1 ≠ z) by
                  by_cases h : s1 = s
                  · by_cases h2 : z1 = z
                    · exact .inl (hid ⟨h, h2⟩)
                    · exact .inr (.inr (hid ⟨h, h2⟩))
                  · exact .inr (.inl (hid h))) with hq | hq | hq
                · have h1 : (s1 == s) = true := by rw [beq_iff_eq]; exact hq.out.1
                  have h2 : (z1 == z) = true := by rw [beq_iff_eq]; exact hq.out.2
                  have HEQ : Hid (((s1, z1) : Ky) = (s, z)) := hid (by rw [hq.out.1, hq.out.2])
                  clear hq
                  go_wp2_with fail
                  go_quiet (fail)
                  have hb := belowDrew w8 nq
                  have HBC_2 : Hid (Below w9.heap.size w9 (w8.drewN nq)) := hid (HBC_1.out.trans ((hb).mono HBC_1.out.size))
                  have HU_2 : Hid ((w8.drewN nq).ownsRow B0 54 3 (u11) LU (ecells WU)) := hid (ownBelow HU_1.out (hb))
                  have HV_2 : Hid ((w8.drewN nq).ownsRow B0 54 3 (u12) LV (ecells WV)) := hid (ownBelow HV_1.out (hb))
                  have HAP_2 := hid HAP_1.out
                  clear HBC_1 HU_1 HV_1 HAP_1
                  clear hb hcu2 hk0 hk1 hk2 hy1 hy2 hy3
                  generalize w8.drewN nq = wq at *
                  go_wp2_with fail
                  have HNW : Hid (withTo xs ((s, z), p) pe (k + 1) = (WU, true)) := hid (by
                    rw [HNX.out.1]
                    simp
                    have := HEQ.out; simp_all)
                  have HNO : Hid (outTo xs (s, z) (k + 1) = WV) := hid (by rw [HNX.out.2.1]; rw [if_pos HEQ.out])
                  have HNI : Hid (isTo xs (s, z) (k + 1) = true) := hid (by rw [HNX.out.2.2]; rw [decide_eq_true HEQ.out]; simp)
                  go_roundw
                  case rel => exact ⟨k + 1, _, _, _, _, _, _, true, true, by have := HKX.out; have := HN.out; omega, rfl, rfl, rfl, rfl, by go_num, ⟨(congrArg Prod.fst HNW.out).symm, (congrArg Prod.snd HNW.out).symm, HNO.out.symm, HNI.out.symm⟩, HBC_2.out, HU_2.out, HV_2.out, HAP_2.out⟩
                  case measure => have := HKX.out; have := HN.out; simp [intOf]; omega
                · have h1 : (s1 == s) = false := by rw [beq_eq_false_iff_ne]; exact hq.out
                  have HEQ : Hid (¬ ((s1, z1) : Ky) = (s, z)) := hid fun e => hq.out (congrArg Prod.fst e)
                  clear hq
                  go_wp2_with fail
                  go_quiet (fail)
                  have hb := belowDrew w8 nq
                  have HBC_2 : Hid (Below w9.heap.size w9 (w8.drewN nq)) := hid (HBC_1.out.trans ((hb).mono HBC_1.out.size))
                  have HU_2 : Hid ((w8.drewN nq).ownsRow B0 54 3 (u11) LU (ecells WU)) := hid (ownBelow HU_1.out (hb))
                  have HV_2 : Hid ((w8.drewN nq).ownsRow B0 54 3 (u12) LV (ecells WV)) := hid (ownBelow HV_1.out (hb))
                  have HAP_2 := hid HAP_1.out
                  clear HBC_1 HU_1 HV_1 HAP_1
                  clear hb hcu2 hk0 hk1 hk2 hy1 hy2 hy3
                  generalize w8.drewN nq = wq at *
                  obtain ⟨⟨hcu2, hk0, hk1, hk2⟩, hy1, hy2, hy3⟩ := HR.out wq HBC_2.out
                  go_wp2_with (refine wpList_append_own_at _ rfl (.tmp 91) (.tmp 97) 22 rfl B0 54 i0 (.agg #[.int .i64 0, .int .i64 0, .int .i64 0]) 3 24 Try.underlying22 HI.out.1 HI.out.2.1 HI.out.2.2.1 HI.out.2.2.2 rfl (by decide) _ _ (ecells WU) rfl (HU_2.out.alloc _) ⟨wq.heap.size, 0, none⟩ 1 1 [.int .i64 s1, .int .i64 z1, .int .i64 p1] rfl rfl (newCells wq [.int .i64 s1, .int .i64 z1, .int .i64 p1] _) (by simp [Value.oneCell']) (by have := HLB.out; unfold maxLen; omega) (by have := HLB.out; omega) (by have := HBC_2.out.size; have := HB0.out; simp; omega) ?_)
                  intro nu3 x3 hu hg _ hat
                  have HBC_3 : Hid (Below w9.heap.size w9 x3) := hid (below_owned (w0 := w9) (HBC_2.out.alloc HBC_2.out.size _) (HU_2.out.alloc _) (Nat.le_of_eq HB0.out.symm) hg)
                  have HU_3 : Hid (x3.ownsRow B0 54 3 nu3 (LU + 1) (ecells (WU ++ [((s1, z1), p1)]))) := hid (by rw [ecells_app]; exact hu)
                  have HV_3 : Hid (x3.ownsRow B0 54 3 u12 LV (ecells WV)) := hid ((HAP_2.out.symm).kept (HV_2.out.alloc _) hg)
                  have HAP_3 : Hid (Ap nu3 u12) := hid (Ap.grow (HAP_2.out.symm) hat (fun b hb => Nat.lt_of_lt_of_le (own_lt HV_2.out b hb) (by simp))).symm
                  clear hu hg hat HBC_2 HU_2 HV_2 HAP_2
                  clear hcu2 hk0 hk1 hk2 hy1 hy2 hy3
                  obtain ⟨⟨hcu2, hk0, hk1, hk2⟩, hy1, hy2, hy3⟩ := HR.out x3 HBC_3.out
                  go_wp2_with (refine wpList_append_own_at _ rfl (.tmp 99) (.tmp 105) 22 rfl B0 54 i0 (.agg #[.int .i64 0, .int .i64 0, .int .i64 0]) 3 24 Try.underlying22 HI.out.1 HI.out.2.1 HI.out.2.2.1 HI.out.2.2.2 rfl (by decide) _ _ (ecells WV) rfl (HV_3.out.alloc _) ⟨x3.heap.size, 0, none⟩ 1 1 [.int .i64 s1, .int .i64 z1, .int .i64 p1] rfl rfl (newCells x3 [.int .i64 s1, .int .i64 z1, .int .i64 p1] _) (by simp [Value.oneCell']) (by have := HLB.out; unfold maxLen; omega) (by have := HLB.out; omega) (by have := HBC_3.out.size; have := HB0.out; simp; omega) ?_)
                  intro nv4 x4 hu hg _ hat
                  have HBC_4 : Hid (Below w9.heap.size w9 x4) := hid (below_owned (w0 := w9) (HBC_3.out.alloc HBC_3.out.size _) (HV_3.out.alloc _) (Nat.le_of_eq HB0.out.symm) hg)
                  have HV_4 : Hid (x4.ownsRow B0 54 3 nv4 (LV + 1) (ecells (WV ++ [((s1, z1), p1)]))) := hid (by rw [ecells_app]; exact hu)
                  have HU_4 : Hid (x4.ownsRow B0 54 3 nu3 (LU + 1) (ecells (WU ++ [((s1, z1), p1)]))) := hid ((HAP_3.out).kept (HU_3.out.alloc _) hg)
                  have HAP_4 : Hid (Ap nu3 nv4) := hid (Ap.grow (HAP_3.out) hat (fun b hb => Nat.lt_of_lt_of_le (own_lt HU_3.out b hb) (by simp)))
                  clear hu hg hat HBC_3 HU_3 HV_3 HAP_3
                  clear hcu2 hk0 hk1 hk2 hy1 hy2 hy3
                  go_wp2_with fail
                  have HNW : Hid (withTo xs ((s, z), p) pe (k + 1) = ((WU ++ [((s1, z1), p1)]), true)) := hid (by
                    rw [HNX.out.1]
                    simp
                    have := HEQ.out; simp_all)
                  have HNO : Hid (outTo xs (s, z) (k + 1) = (WV ++ [((s1, z1), p1)])) := hid (by rw [HNX.out.2.1]; rw [if_neg HEQ.out])
                  have HNI : Hid (isTo xs (s, z) (k + 1) = IS) := hid (by rw [HNX.out.2.2]; rw [decide_eq_false HEQ.out]; simp)
                  go_roundw
                  case rel => exact ⟨k + 1, _, _, _, _, _, _, IS, true, by have := HKX.out; have := HN.out; omega, rfl, rfl, rfl, rfl, by go_num, ⟨(congrArg Prod.fst HNW.out).symm, (congrArg Prod.snd HNW.out).symm, HNO.out.symm, HNI.out.symm⟩, HBC_4.out, HU_4.out, HV_4.out, HAP_4.out⟩
                  case measure => have := HKX.out; have := HN.out; simp [intOf]; omega
                · have h1 : (s1 == s) = true := by rw [beq_iff_eq]; exact hq.out.1
                  have h2 : (z1 == z) = false := by rw [beq_eq_false_iff_ne]; exact hq.out.2
                  have HEQ : Hid (¬ ((s1, z1) : Ky) = (s, z)) := hid fun e => hq.out.2 (congrArg Prod.snd e)
                  clear hq
                  go_wp2_with fail
                  go_quiet (fail)
                  have hb := belowDrew w8 nq
                  have HBC_2 : Hid (Below w9.heap.size w9 (w8.drewN nq)) := hid (HBC_1.out.trans ((hb).mono HBC_1.out.size))
                  have HU_2 : Hid ((w8.drewN nq).ownsRow B0 54 3 (u11) LU (ecells WU)) := hid (ownBelow HU_1.out (hb))
                  have HV_2 : Hid ((w8.drewN nq).ownsRow B0 54 3 (u12) LV (ecells WV)) := hid (ownBelow HV_1.out (hb))
                  have HAP_2 := hid HAP_1.out
                  clear HBC_1 HU_1 HV_1 HAP_1
                  clear hb hcu2 hk0 hk1 hk2 hy1 hy2 hy3
                  generalize w8.drewN nq = wq at *
                  obtain ⟨⟨hcu2, hk0, hk1, hk2⟩, hy1, hy2, hy3⟩ := HR.out wq HBC_2.out
                  go_wp2_with (refine wpList_append_own_at _ rfl (.tmp 91) (.tmp 97) 22 rfl B0 54 i0 (.agg #[.int .i64 0, .int .i64 0, .int .i64 0]) 3 24 Try.underlying22 HI.out.1 HI.out.2.1 HI.out.2.2.1 HI.out.2.2.2 rfl (by decide) _ _ (ecells WU) rfl (HU_2.out.alloc _) ⟨wq.heap.size, 0, none⟩ 1 1 [.int .i64 s1, .int .i64 z1, .int .i64 p1] rfl rfl (newCells wq [.int .i64 s1, .int .i64 z1, .int .i64 p1] _) (by simp [Value.oneCell']) (by have := HLB.out; unfold maxLen; omega) (by have := HLB.out; omega) (by have := HBC_2.out.size; have := HB0.out; simp; omega) ?_)
                  intro nu3 x3 hu hg _ hat
                  have HBC_3 : Hid (Below w9.heap.size w9 x3) := hid (below_owned (w0 := w9) (HBC_2.out.alloc HBC_2.out.size _) (HU_2.out.alloc _) (Nat.le_of_eq HB0.out.symm) hg)
                  have HU_3 : Hid (x3.ownsRow B0 54 3 nu3 (LU + 1) (ecells (WU ++ [((s1, z1), p1)]))) := hid (by rw [ecells_app]; exact hu)
                  have HV_3 : Hid (x3.ownsRow B0 54 3 u12 LV (ecells WV)) := hid ((HAP_2.out.symm).kept (HV_2.out.alloc _) hg)
                  have HAP_3 : Hid (Ap nu3 u12) := hid (Ap.grow (HAP_2.out.symm) hat (fun b hb => Nat.lt_of_lt_of_le (own_lt HV_2.out b hb) (by simp))).symm
                  clear hu hg hat HBC_2 HU_2 HV_2 HAP_2
                  clear hcu2 hk0 hk1 hk2 hy1 hy2 hy3
                  obtain ⟨⟨hcu2, hk0, hk1, hk2⟩, hy1, hy2, hy3⟩ := HR.out x3 HBC_3.out
                  go_wp2_with (refine wpList_append_own_at _ rfl (.tmp 99) (.tmp 105) 22 rfl B0 54 i0 (.agg #[.int .i64 0, .int .i64 0, .int .i64 0]) 3 24 Try.underlying22 HI.out.1 HI.out.2.1 HI.out.2.2.1 HI.out.2.2.2 rfl (by decide) _ _ (ecells WV) rfl (HV_3.out.alloc _) ⟨x3.heap.size, 0, none⟩ 1 1 [.int .i64 s1, .int .i64 z1, .int .i64 p1] rfl rfl (newCells x3 [.int .i64 s1, .int .i64 z1, .int .i64 p1] _) (by simp [Value.oneCell']) (by have := HLB.out; unfold maxLen; omega) (by have := HLB.out; omega) (by have := HBC_3.out.size; have := HB0.out; simp; omega) ?_)
                  intro nv4 x4 hu hg _ hat
                  have HBC_4 : Hid (Below w9.heap.size w9 x4) := hid (below_owned (w0 := w9) (HBC_3.out.alloc HBC_3.out.size _) (HV_3.out.alloc _) (Nat.le_of_eq HB0.out.symm) hg)
                  have HV_4 : Hid (x4.ownsRow B0 54 3 nv4 (LV + 1) (ecells (WV ++ [((s1, z1), p1)]))) := hid (by rw [ecells_app]; exact hu)
                  have HU_4 : Hid (x4.ownsRow B0 54 3 nu3 (LU + 1) (ecells (WU ++ [((s1, z1), p1)]))) := hid ((HAP_3.out).kept (HU_3.out.alloc _) hg)
                  have HAP_4 : Hid (Ap nu3 nv4) := hid (Ap.grow (HAP_3.out) hat (fun b hb => Nat.lt_of_lt_of_le (own_lt HU_3.out b hb) (by simp)))
                  clear hu hg hat HBC_3 HU_3 HV_3 HAP_3
                  clear hcu2 hk0 hk1 hk2 hy1 hy2 hy3
                  go_wp2_with fail
                  have HNW : Hid (withTo xs ((s, z), p) pe (k + 1) = ((WU ++ [((s1, z1), p1)]), true)) := hid (by
                    rw [HNX.out.1]
                    simp
                    have := HEQ.out; simp_all)
                  have HNO : Hid (outTo xs (s, z) (k + 1) = (WV ++ [((s1, z1), p1)])) := hid (by rw [HNX.out.2.1]; rw [if_neg HEQ.out])
                  have HNI : Hid (isTo xs (s, z) (k + 1) = IS) := hid (by rw [HNX.out.2.2]; rw [decide_eq_false HEQ.out]; simp)
                  go_roundw
                  case rel => exact ⟨k + 1, _, _, _, _, _, _, IS, true, by have := HKX.out; have := HN.out; omega, rfl, rfl, rfl, rfl, by go_num, ⟨(congrArg Prod.fst HNW.out).symm, (congrArg Prod.snd HNW.out).symm, HNO.out.symm, HNI.out.symm⟩, HBC_4.out, HU_4.out, HV_4.out, HAP_4.out⟩
                  case measure => have := HKX.out; have := HN.out; simp [intOf]; omega
            · obtain ⟨hc1, hc2⟩ := hc.out
              have HC2 := hid hc2
              subst hc1
              have hd1 : decide (pe ≤ py) = true := decide_eq_true hc2
              clear hc hc2
              go_upto_region 14 with fail
              refine wp_region_grows 15 [EqN (.bool false), EqN (.bool true), EqN (.bool true), EqN (.pointer (some ⟨gp2, 1, none⟩)), EqN (.slice (some ⟨b2, o2, none⟩) n2 c2), EqN (.int .i64 (k : Int)), EqN (.pointer (some ⟨b2, o2 + k * 3, none⟩)), EqN (.pointer (some ⟨b2, o2 + k * 3, none⟩)), EqN (.agg #[.int .i64 s1, .int .i64 z1]), EqN (.int .i64 py), EqN (.pointer (some ⟨g + 1, 0, none⟩)), EqN (.agg #[.int .i64 s, .int .i64 z]), EqN (.int .i64 pe), EqN (.bool true), EqN (.bool true)] (by kernel_rfl) (by decide) (by kernel_rfl) ?_ ?_ ?_
              · repeat' (first | exact List.forall_mem_nil _ | refine List.forall_mem_cons.2 ⟨?_, ?_⟩)
                all_goals
                  intro w w' v hw h
                  first | exact h | exact h
              · simp only [AllLt]
                refine ⟨⟨⟨⟨⟨⟨⟨⟨⟨⟨⟨⟨⟨⟨⟨trivial, ?_⟩, ?_⟩, ?_⟩, ?_⟩, ?_⟩, ?_⟩, ?_⟩, ?_⟩, ?_⟩, ?_⟩, ?_⟩, ?_⟩, ?_⟩, ?_⟩, ?_⟩
                all_goals
                  intro o' ho
                  simp at ho
                  subst ho
                  intro ρ w5 hR hL hS hG
                  obtain ⟨hl1, hl2, -⟩ := hL
                · refine plainG rfl ?_
                  intro bA K Q' hK
                  have e14 := hS 14 (by kernel_rfl)
                  change ρ (.tmp 14) = _ at e14
                  simp only [execOp]
                  go_simp
                  exact hK _ _ rfl (Grew.refl _)
                · refine plainG rfl ?_
                  intro bA K Q' hK
                  have e63 := hG 0 63 (by decide) (by kernel_rfl) (by kernel_rfl)
                  change ρ (.tmp 63) = _ at e63
                  simp only [execOp]
                  go_simp
                  exact hK _ _ rfl (Grew.refl _)
                · refine plainG rfl ?_
                  intro bA K Q' hK
                  have e64 := hG 1 64 (by decide) (by kernel_rfl) (by kernel_rfl)
                  change ρ (.tmp 64) = _ at e64
                  simp only [execOp]
                  go_simp
                  exact hK _ _ rfl (Grew.refl _)
                · have eG : ρ (.tmp 65) = _ := hG 2 65 (by decide) (by kernel_rfl) (by kernel_rfl)
                  refine onG rfl (by kernel_rfl) eG ?_
                  intro bA K Q' hK
                  have e6 := hS 6 (by kernel_rfl)
                  change ρ (.tmp 6) = _ at e6
                  simp only [execOp]
                  go_simp
                  exact hK _ _ rfl (Grew.refl _)
                · have eG : ρ (.tmp 65) = _ := hG 2 65 (by decide) (by kernel_rfl) (by kernel_rfl)
                  refine onG rfl (by kernel_rfl) eG ?_
                  intro bA K Q' hK
                  have e66 := hG 3 66 (by decide) (by kernel_rfl) (by kernel_rfl)
                  change ρ (.tmp 66) = _ at e66
                  obtain ⟨⟨y0, y1, y2, y3⟩, y4, y5, y6⟩ := HCY.out w5 hR
                  simp only [execOp]
                  go_simp
                  exact hK _ _ rfl (Grew.refl _)
                · have eG : ρ (.tmp 65) = _ := hG 2 65 (by decide) (by kernel_rfl) (by kernel_rfl)
                  refine onG rfl (by kernel_rfl) eG ?_
                  intro bA K Q' hK
                  have e15 := hS 15 (by kernel_rfl)
                  change ρ (.tmp 15) = _ at e15
                  simp only [execOp]
                  go_simp
                  exact hK _ _ rfl (Grew.refl _)
                · have eG : ρ (.tmp 65) = _ := hG 2 65 (by decide) (by kernel_rfl) (by kernel_rfl)
                  refine onG rfl (by kernel_rfl) eG ?_
                  intro bA K Q' hK
                  have e67 := hG 4 67 (by decide) (by kernel_rfl) (by kernel_rfl)
                  have e68 := hG 5 68 (by decide) (by kernel_rfl) (by kernel_rfl)
                  change ρ (.tmp 67) = _ at e67
                  change ρ (.tmp 68) = _ at e68
                  simp only [execOp]
                  go_simp
                  exact hK _ _ rfl (Grew.refl _)
                · have eG : ρ (.tmp 65) = _ := hG 2 65 (by decide) (by kernel_rfl) (by kernel_rfl)
                  refine onG rfl (by kernel_rfl) eG ?_
                  intro bA K Q' hK
                  have e69 := hG 6 69 (by decide) (by kernel_rfl) (by kernel_rfl)
                  change ρ (.tmp 69) = _ at e69
                  simp only [execOp]
                  go_simp
                  exact hK _ _ rfl (Grew.refl _)
                · have eG : ρ (.tmp 65) = _ := hG 2 65 (by decide) (by kernel_rfl) (by kernel_rfl)
                  refine onG rfl (by kernel_rfl) eG ?_
                  intro bA K Q' hK
                  have e70 := hG 7 70 (by decide) (by kernel_rfl) (by kernel_rfl)
                  change ρ (.tmp 70) = _ at e70
                  obtain ⟨⟨y0, y1, y2, y3⟩, y4, y5, y6⟩ := HCY.out w5 hR
                  simp only [execOp]
                  go_simp
                  exact hK _ _ rfl (Grew.refl _)
                · have eG : ρ (.tmp 65) = _ := hG 2 65 (by decide) (by kernel_rfl) (by kernel_rfl)
                  refine onG rfl (by kernel_rfl) eG ?_
                  intro bA K Q' hK
                  have e71 := hG 8 71 (by decide) (by kernel_rfl) (by kernel_rfl)
                  change ρ (.tmp 71) = _ at e71
                  simp only [execOp]
                  go_simp
                  refine (HPY.out w5).mono ?_
                  rintro r9 w9 ⟨rfl, hb9⟩
                  exact hK _ _ rfl hb9
                · have eG : ρ (.tmp 65) = _ := hG 2 65 (by decide) (by kernel_rfl) (by kernel_rfl)
                  refine onG rfl (by kernel_rfl) eG ?_
                  intro bA K Q' hK
                  have e3 := hS 3 (by kernel_rfl)
                  change ρ (.tmp 3) = _ at e3
                  simp only [execOp]
                  go_simp
                  exact hK _ _ rfl (Grew.refl _)
                · have eG : ρ (.tmp 65) = _ := hG 2 65 (by decide) (by kernel_rfl) (by kernel_rfl)
                  refine onG rfl (by kernel_rfl) eG ?_
                  intro bA K Q' hK
                  have e73 := hG 10 73 (by decide) (by kernel_rfl) (by kernel_rfl)
                  change ρ (.tmp 73) = _ at e73
                  obtain ⟨⟨y0, y1, y2, y3⟩, y4, y5, y6⟩ := HCY.out w5 hR
                  simp only [execOp]
                  go_simp
                  exact hK _ _ rfl (Grew.refl _)
                · have eG : ρ (.tmp 65) = _ := hG 2 65 (by decide) (by kernel_rfl) (by kernel_rfl)
                  refine onG rfl (by kernel_rfl) eG ?_
                  intro bA K Q' hK
                  have e74 := hG 11 74 (by decide) (by kernel_rfl) (by kernel_rfl)
                  change ρ (.tmp 74) = _ at e74
                  simp only [execOp]
                  go_simp
                  refine (HPL.out w5).mono ?_
                  rintro r9 w9 ⟨rfl, hb9⟩
                  exact hK _ _ rfl hb9
                · have eG : ρ (.tmp 65) = _ := hG 2 65 (by decide) (by kernel_rfl) (by kernel_rfl)
                  refine onG rfl (by kernel_rfl) eG ?_
                  intro bA K Q' hK
                  have e72 := hG 9 72 (by decide) (by kernel_rfl) (by kernel_rfl)
                  have e75 := hG 12 75 (by decide) (by kernel_rfl) (by kernel_rfl)
                  change ρ (.tmp 72) = _ at e72
                  change ρ (.tmp 75) = _ at e75
                  simp only [execOp]
                  go_simp
                  exact hK _ _ rfl (Grew.refl _)
                · refine plainG rfl ?_
                  intro bA K Q' hK
                  have e65 := hG 2 65 (by decide) (by kernel_rfl) (by kernel_rfl)
                  have e76 := hG 13 76 (by decide) (by kernel_rfl) (by kernel_rfl)
                  change ρ (.tmp 65) = _ at e65
                  change ρ (.tmp 76) = _ at e76
                  simp only [execOp]
                  go_simp
                  exact hK _ _ rfl (Grew.refl _)
              · skip
                intro vv w8 hR hG
                have h9 : vv 14 = .bool true := hG.2
                have hb := grewDrew hR
                clear hG hR HCY hcu2
                have HBC_1 : Hid (Below w9.heap.size w9 w8) := hid (HBC.out.trans ((hb).mono HBC.out.size))
                have HU_1 : Hid (w8.ownsRow B0 54 3 (u11) LU (ecells WU)) := hid (ownBelow HU.out (hb))
                have HV_1 : Hid (w8.ownsRow B0 54 3 (u12) LV (ecells WV)) := hid (ownBelow HV.out (hb))
                have HAP_1 := hid HAP.out
                clear HBC HU HV HAP
                clear hb
                simp [stG, stU, dstAt, Act.put, h9]
                clear h9
                obtain ⟨⟨hcu2, hk0, hk1, hk2⟩, hy1, hy2, hy3⟩ := HR.out w8 HBC_1.out
                go_wp2_with (refine wpList_append_own_at _ rfl (.tmp 78) (.tmp 80) 22 rfl B0 54 i0 (.agg #[.int .i64 0, .int .i64 0, .int .i64 0]) 3 24 Try.underlying22 HI.out.1 HI.out.2.1 HI.out.2.2.1 HI.out.2.2.2 rfl (by decide) _ _ (ecells WU) rfl (HU_1.out.alloc _) ⟨w8.heap.size, 0, none⟩ 1 1 [.int .i64 s, .int .i64 z, .int .i64 p] rfl rfl (newCells w8 [.int .i64 s, .int .i64 z, .int .i64 p] _) (by simp [Value.oneCell']) (by have := HLB.out; unfold maxLen; omega) (by have := HLB.out; omega) (by have := HBC_1.out.size; have := HB0.out; simp; omega) ?_)
                intro nu2 x2 hu hg _ hat
                have HBC_2 : Hid (Below w9.heap.size w9 x2) := hid (below_owned (w0 := w9) (HBC_1.out.alloc HBC_1.out.size _) (HU_1.out.alloc _) (Nat.le_of_eq HB0.out.symm) hg)
                have HU_2 : Hid (x2.ownsRow B0 54 3 nu2 (LU + 1) (ecells (WU ++ [((s, z), p)]))) := hid (by rw [ecells_app]; exact hu)
                have HV_2 : Hid (x2.ownsRow B0 54 3 u12 LV (ecells WV)) := hid ((HAP_1.out.symm).kept (HV_1.out.alloc _) hg)
                have HAP_2 : Hid (Ap nu2 u12) := hid (Ap.grow (HAP_1.out.symm) hat (fun b hb => Nat.lt_of_lt_of_le (own_lt HV_1.out b hb) (by simp))).symm
                clear hu hg hat HBC_1 HU_1 HV_1 HAP_1
                clear hcu2 hk0 hk1 hk2 hy1 hy2 hy3
                obtain ⟨⟨hcu2, hk0, hk1, hk2⟩, hy1, hy2, hy3⟩ := HR.out x2 HBC_2.out
                rcases (show Hid (s1 = s ∧ z1 = z) ∨ Hid (s1 ≠ s) ∨ Hid (s1 = s ∧ z1 ≠ z) by
                  by_cases h : s1 = s
                  · by_cases h2 : z1 = z
                    · exact .inl (hid ⟨h, h2⟩)
                    · exact .inr (.inr (hid ⟨h, h2⟩))
                  · exact .inr (.inl (hid h))) with hq | hq | hq
                · have h1 : (s1 == s) = true := by rw [beq_iff_eq]; exact hq.out.1
                  have h2 : (z1 == z) = true := by rw [beq_iff_eq]; exact hq.out.2
                  have HEQ : Hid (((s1, z1) : Ky) = (s, z)) := hid (by rw [hq.out.1, hq.out.2])
                  clear hq
                  go_wp2_with fail
                  go_quiet (fail)
                  have hb := belowDrew x2 nq
                  have HBC_3 : Hid (Below w9.heap.size w9 (x2.drewN nq)) := hid (HBC_2.out.trans ((hb).mono HBC_2.out.size))
                  have HU_3 : Hid ((x2.drewN nq).ownsRow B0 54 3 (nu2) (LU + 1) (ecells (WU ++ [((s, z), p)]))) := hid (ownBelow HU_2.out (hb))
                  have HV_3 : Hid ((x2.drewN nq).ownsRow B0 54 3 (u12) LV (ecells WV)) := hid (ownBelow HV_2.out (hb))
                  have HAP_3 := hid HAP_2.out
                  clear HBC_2 HU_2 HV_2 HAP_2
                  clear hb hcu2 hk0 hk1 hk2 hy1 hy2 hy3
                  generalize x2.drewN nq = wq at *
                  go_wp2_with fail
                  have HNW : Hid (withTo xs ((s, z), p) pe (k + 1) = ((WU ++ [((s, z), p)]), true)) := hid (by
                    rw [HNX.out.1]
                    rw [decide_eq_true HC2.out]; simp
                    have := HEQ.out; simp_all)
                  have HNO : Hid (outTo xs (s, z) (k + 1) = WV) := hid (by rw [HNX.out.2.1]; rw [if_pos HEQ.out])
                  have HNI : Hid (isTo xs (s, z) (k + 1) = true) := hid (by rw [HNX.out.2.2]; rw [decide_eq_true HEQ.out]; simp)
                  go_roundw
                  case rel => exact ⟨k + 1, _, _, _, _, _, _, true, true, by have := HKX.out; have := HN.out; omega, rfl, rfl, rfl, rfl, by go_num, ⟨(congrArg Prod.fst HNW.out).symm, (congrArg Prod.snd HNW.out).symm, HNO.out.symm, HNI.out.symm⟩, HBC_3.out, HU_3.out, HV_3.out, HAP_3.out⟩
                  case measure => have := HKX.out; have := HN.out; simp [intOf]; omega
                · have h1 : (s1 == s) = false := by rw [beq_eq_false_iff_ne]; exact hq.out
                  have HEQ : Hid (¬ ((s1, z1) : Ky) = (s, z)) := hid fun e => hq.out (congrArg Prod.fst e)
                  clear hq
                  go_wp2_with fail
                  go_quiet (fail)
                  have hb := belowDrew x2 nq
                  have HBC_3 : Hid (Below w9.heap.size w9 (x2.drewN nq)) := hid (HBC_2.out.trans ((hb).mono HBC_2.out.size))
                  have HU_3 : Hid ((x2.drewN nq).ownsRow B0 54 3 (nu2) (LU + 1) (ecells (WU ++ [((s, z), p)]))) := hid (ownBelow HU_2.out (hb))
                  have HV_3 : Hid ((x2.drewN nq).ownsRow B0 54 3 (u12) LV (ecells WV)) := hid (ownBelow HV_2.out (hb))
                  have HAP_3 := hid HAP_2.out
                  clear HBC_2 HU_2 HV_2 HAP_2
                  clear hb hcu2 hk0 hk1 hk2 hy1 hy2 hy3
                  generalize x2.drewN nq = wq at *
                  obtain ⟨⟨hcu2, hk0, hk1, hk2⟩, hy1, hy2, hy3⟩ := HR.out wq HBC_3.out
                  go_wp2_with (refine wpList_append_own_at _ rfl (.tmp 91) (.tmp 97) 22 rfl B0 54 i0 (.agg #[.int .i64 0, .int .i64 0, .int .i64 0]) 3 24 Try.underlying22 HI.out.1 HI.out.2.1 HI.out.2.2.1 HI.out.2.2.2 rfl (by decide) _ _ (ecells (WU ++ [((s, z), p)])) rfl (HU_3.out.alloc _) ⟨wq.heap.size, 0, none⟩ 1 1 [.int .i64 s1, .int .i64 z1, .int .i64 p1] rfl rfl (newCells wq [.int .i64 s1, .int .i64 z1, .int .i64 p1] _) (by simp [Value.oneCell']) (by have := HLB.out; unfold maxLen; omega) (by have := HLB.out; omega) (by have := HBC_3.out.size; have := HB0.out; simp; omega) ?_)
                  intro nu4 x4 hu hg _ hat
                  have HBC_4 : Hid (Below w9.heap.size w9 x4) := hid (below_owned (w0 := w9) (HBC_3.out.alloc HBC_3.out.size _) (HU_3.out.alloc _) (Nat.le_of_eq HB0.out.symm) hg)
                  have HU_4 : Hid (x4.ownsRow B0 54 3 nu4 ((LU + 1) + 1) (ecells ((WU ++ [((s, z), p)]) ++ [((s1, z1), p1)]))) := hid (by rw [ecells_app]; exact hu)
                  have HV_4 : Hid (x4.ownsRow B0 54 3 u12 LV (ecells WV)) := hid ((HAP_3.out.symm).kept (HV_3.out.alloc _) hg)
                  have HAP_4 : Hid (Ap nu4 u12) := hid (Ap.grow (HAP_3.out.symm) hat (fun b hb => Nat.lt_of_lt_of_le (own_lt HV_3.out b hb) (by simp))).symm
                  clear hu hg hat HBC_3 HU_3 HV_3 HAP_3
                  clear hcu2 hk0 hk1 hk2 hy1 hy2 hy3
                  obtain ⟨⟨hcu2, hk0, hk1, hk2⟩, hy1, hy2, hy3⟩ := HR.out x4 HBC_4.out
                  go_wp2_with (refine wpList_append_own_at _ rfl (.tmp 99) (.tmp 105) 22 rfl B0 54 i0 (.agg #[.int .i64 0, .int .i64 0, .int .i64 0]) 3 24 Try.underlying22 HI.out.1 HI.out.2.1 HI.out.2.2.1 HI.out.2.2.2 rfl (by decide) _ _ (ecells WV) rfl (HV_4.out.alloc _) ⟨x4.heap.size, 0, none⟩ 1 1 [.int .i64 s1, .int .i64 z1, .int .i64 p1] rfl rfl (newCells x4 [.int .i64 s1, .int .i64 z1, .int .i64 p1] _) (by simp [Value.oneCell']) (by have := HLB.out; unfold maxLen; omega) (by have := HLB.out; omega) (by have := HBC_4.out.size; have := HB0.out; simp; omega) ?_)
                  intro nv5 x5 hu hg _ hat
                  have HBC_5 : Hid (Below w9.heap.size w9 x5) := hid (below_owned (w0 := w9) (HBC_4.out.alloc HBC_4.out.size _) (HV_4.out.alloc _) (Nat.le_of_eq HB0.out.symm) hg)
                  have HV_5 : Hid (x5.ownsRow B0 54 3 nv5 (LV + 1) (ecells (WV ++ [((s1, z1), p1)]))) := hid (by rw [ecells_app]; exact hu)
                  have HU_5 : Hid (x5.ownsRow B0 54 3 nu4 ((LU + 1) + 1) (ecells ((WU ++ [((s, z), p)]) ++ [((s1, z1), p1)]))) := hid ((HAP_4.out).kept (HU_4.out.alloc _) hg)
                  have HAP_5 : Hid (Ap nu4 nv5) := hid (Ap.grow (HAP_4.out) hat (fun b hb => Nat.lt_of_lt_of_le (own_lt HU_4.out b hb) (by simp)))
                  clear hu hg hat HBC_4 HU_4 HV_4 HAP_4
                  clear hcu2 hk0 hk1 hk2 hy1 hy2 hy3
                  go_wp2_with fail
                  have HNW : Hid (withTo xs ((s, z), p) pe (k + 1) = (((WU ++ [((s, z), p)]) ++ [((s1, z1), p1)]), true)) := hid (by
                    rw [HNX.out.1]
                    rw [decide_eq_true HC2.out]; simp
                    have := HEQ.out; simp_all)
                  have HNO : Hid (outTo xs (s, z) (k + 1) = (WV ++ [((s1, z1), p1)])) := hid (by rw [HNX.out.2.1]; rw [if_neg HEQ.out])
                  have HNI : Hid (isTo xs (s, z) (k + 1) = IS) := hid (by rw [HNX.out.2.2]; rw [decide_eq_false HEQ.out]; simp)
                  go_roundw
                  case rel => exact ⟨k + 1, _, _, _, _, _, _, IS, true, by have := HKX.out; have := HN.out; omega, rfl, rfl, rfl, rfl, by go_num, ⟨(congrArg Prod.fst HNW.out).symm, (congrArg Prod.snd HNW.out).symm, HNO.out.symm, HNI.out.symm⟩, HBC_5.out, HU_5.out, HV_5.out, HAP_5.out⟩
                  case measure => have := HKX.out; have := HN.out; simp [intOf]; omega
                · have h1 : (s1 == s) = true := by rw [beq_iff_eq]; exact hq.out.1
                  have h2 : (z1 == z) = false := by rw [beq_eq_false_iff_ne]; exact hq.out.2
                  have HEQ : Hid (¬ ((s1, z1) : Ky) = (s, z)) := hid fun e => hq.out.2 (congrArg Prod.snd e)
                  clear hq
                  go_wp2_with fail
                  go_quiet (fail)
                  have hb := belowDrew x2 nq
                  have HBC_3 : Hid (Below w9.heap.size w9 (x2.drewN nq)) := hid (HBC_2.out.trans ((hb).mono HBC_2.out.size))
                  have HU_3 : Hid ((x2.drewN nq).ownsRow B0 54 3 (nu2) (LU + 1) (ecells (WU ++ [((s, z), p)]))) := hid (ownBelow HU_2.out (hb))
                  have HV_3 : Hid ((x2.drewN nq).ownsRow B0 54 3 (u12) LV (ecells WV)) := hid (ownBelow HV_2.out (hb))
                  have HAP_3 := hid HAP_2.out
                  clear HBC_2 HU_2 HV_2 HAP_2
                  clear hb hcu2 hk0 hk1 hk2 hy1 hy2 hy3
                  generalize x2.drewN nq = wq at *
                  obtain ⟨⟨hcu2, hk0, hk1, hk2⟩, hy1, hy2, hy3⟩ := HR.out wq HBC_3.out
                  go_wp2_with (refine wpList_append_own_at _ rfl (.tmp 91) (.tmp 97) 22 rfl B0 54 i0 (.agg #[.int .i64 0, .int .i64 0, .int .i64 0]) 3 24 Try.underlying22 HI.out.1 HI.out.2.1 HI.out.2.2.1 HI.out.2.2.2 rfl (by decide) _ _ (ecells (WU ++ [((s, z), p)])) rfl (HU_3.out.alloc _) ⟨wq.heap.size, 0, none⟩ 1 1 [.int .i64 s1, .int .i64 z1, .int .i64 p1] rfl rfl (newCells wq [.int .i64 s1, .int .i64 z1, .int .i64 p1] _) (by simp [Value.oneCell']) (by have := HLB.out; unfold maxLen; omega) (by have := HLB.out; omega) (by have := HBC_3.out.size; have := HB0.out; simp; omega) ?_)
                  intro nu4 x4 hu hg _ hat
                  have HBC_4 : Hid (Below w9.heap.size w9 x4) := hid (below_owned (w0 := w9) (HBC_3.out.alloc HBC_3.out.size _) (HU_3.out.alloc _) (Nat.le_of_eq HB0.out.symm) hg)
                  have HU_4 : Hid (x4.ownsRow B0 54 3 nu4 ((LU + 1) + 1) (ecells ((WU ++ [((s, z), p)]) ++ [((s1, z1), p1)]))) := hid (by rw [ecells_app]; exact hu)
                  have HV_4 : Hid (x4.ownsRow B0 54 3 u12 LV (ecells WV)) := hid ((HAP_3.out.symm).kept (HV_3.out.alloc _) hg)
                  have HAP_4 : Hid (Ap nu4 u12) := hid (Ap.grow (HAP_3.out.symm) hat (fun b hb => Nat.lt_of_lt_of_le (own_lt HV_3.out b hb) (by simp))).symm
                  clear hu hg hat HBC_3 HU_3 HV_3 HAP_3
                  clear hcu2 hk0 hk1 hk2 hy1 hy2 hy3
                  obtain ⟨⟨hcu2, hk0, hk1, hk2⟩, hy1, hy2, hy3⟩ := HR.out x4 HBC_4.out
                  go_wp2_with (refine wpList_append_own_at _ rfl (.tmp 99) (.tmp 105) 22 rfl B0 54 i0 (.agg #[.int .i64 0, .int .i64 0, .int .i64 0]) 3 24 Try.underlying22 HI.out.1 HI.out.2.1 HI.out.2.2.1 HI.out.2.2.2 rfl (by decide) _ _ (ecells WV) rfl (HV_4.out.alloc _) ⟨x4.heap.size, 0, none⟩ 1 1 [.int .i64 s1, .int .i64 z1, .int .i64 p1] rfl rfl (newCells x4 [.int .i64 s1, .int .i64 z1, .int .i64 p1] _) (by simp [Value.oneCell']) (by have := HLB.out; unfold maxLen; omega) (by have := HLB.out; omega) (by have := HBC_4.out.size; have := HB0.out; simp; omega) ?_)
                  intro nv5 x5 hu hg _ hat
                  have HBC_5 : Hid (Below w9.heap.size w9 x5) := hid (below_owned (w0 := w9) (HBC_4.out.alloc HBC_4.out.size _) (HV_4.out.alloc _) (Nat.le_of_eq HB0.out.symm) hg)
                  have HV_5 : Hid (x5.ownsRow B0 54 3 nv5 (LV + 1) (ecells (WV ++ [((s1, z1), p1)]))) := hid (by rw [ecells_app]; exact hu)
                  have HU_5 : Hid (x5.ownsRow B0 54 3 nu4 ((LU + 1) + 1) (ecells ((WU ++ [((s, z), p)]) ++ [((s1, z1), p1)]))) := hid ((HAP_4.out).kept (HU_4.out.alloc _) hg)
                  have HAP_5 : Hid (Ap nu4 nv5) := hid (Ap.grow (HAP_4.out) hat (fun b hb => Nat.lt_of_lt_of_le (own_lt HU_4.out b hb) (by simp)))
                  clear hu hg hat HBC_4 HU_4 HV_4 HAP_4
                  clear hcu2 hk0 hk1 hk2 hy1 hy2 hy3
                  go_wp2_with fail
                  have HNW : Hid (withTo xs ((s, z), p) pe (k + 1) = (((WU ++ [((s, z), p)]) ++ [((s1, z1), p1)]), true)) := hid (by
                    rw [HNX.out.1]
                    rw [decide_eq_true HC2.out]; simp
                    have := HEQ.out; simp_all)
                  have HNO : Hid (outTo xs (s, z) (k + 1) = (WV ++ [((s1, z1), p1)])) := hid (by rw [HNX.out.2.1]; rw [if_neg HEQ.out])
                  have HNI : Hid (isTo xs (s, z) (k + 1) = IS) := hid (by rw [HNX.out.2.2]; rw [decide_eq_false HEQ.out]; simp)
                  go_roundw
                  case rel => exact ⟨k + 1, _, _, _, _, _, _, IS, true, by have := HKX.out; have := HN.out; omega, rfl, rfl, rfl, rfl, by go_num, ⟨(congrArg Prod.fst HNW.out).symm, (congrArg Prod.snd HNW.out).symm, HNO.out.symm, HNI.out.symm⟩, HBC_5.out, HU_5.out, HV_5.out, HAP_5.out⟩
                  case measure => have := HKX.out; have := HN.out; simp [intOf]; omega
            · obtain ⟨hc1, hc2⟩ := hc.out
              have HC2 := hid hc2
              subst hc1
              have hd1 : decide (pe ≤ py) = false := decide_eq_false hc2
              clear hc hc2
              go_upto_region 14 with fail
              refine wp_region_grows 15 [EqN (.bool false), EqN (.bool true), EqN (.bool true), EqN (.pointer (some ⟨gp2, 1, none⟩)), EqN (.slice (some ⟨b2, o2, none⟩) n2 c2), EqN (.int .i64 (k : Int)), EqN (.pointer (some ⟨b2, o2 + k * 3, none⟩)), EqN (.pointer (some ⟨b2, o2 + k * 3, none⟩)), EqN (.agg #[.int .i64 s1, .int .i64 z1]), EqN (.int .i64 py), EqN (.pointer (some ⟨g + 1, 0, none⟩)), EqN (.agg #[.int .i64 s, .int .i64 z]), EqN (.int .i64 pe), EqN (.bool false), EqN (.bool false)] (by kernel_rfl) (by decide) (by kernel_rfl) ?_ ?_ ?_
              · repeat' (first | exact List.forall_mem_nil _ | refine List.forall_mem_cons.2 ⟨?_, ?_⟩)
                all_goals
                  intro w w' v hw h
                  first | exact h | exact h
              · simp only [AllLt]
                refine ⟨⟨⟨⟨⟨⟨⟨⟨⟨⟨⟨⟨⟨⟨⟨trivial, ?_⟩, ?_⟩, ?_⟩, ?_⟩, ?_⟩, ?_⟩, ?_⟩, ?_⟩, ?_⟩, ?_⟩, ?_⟩, ?_⟩, ?_⟩, ?_⟩, ?_⟩
                all_goals
                  intro o' ho
                  simp at ho
                  subst ho
                  intro ρ w5 hR hL hS hG
                  obtain ⟨hl1, hl2, -⟩ := hL
                · refine plainG rfl ?_
                  intro bA K Q' hK
                  have e14 := hS 14 (by kernel_rfl)
                  change ρ (.tmp 14) = _ at e14
                  simp only [execOp]
                  go_simp
                  exact hK _ _ rfl (Grew.refl _)
                · refine plainG rfl ?_
                  intro bA K Q' hK
                  have e63 := hG 0 63 (by decide) (by kernel_rfl) (by kernel_rfl)
                  change ρ (.tmp 63) = _ at e63
                  simp only [execOp]
                  go_simp
                  exact hK _ _ rfl (Grew.refl _)
                · refine plainG rfl ?_
                  intro bA K Q' hK
                  have e64 := hG 1 64 (by decide) (by kernel_rfl) (by kernel_rfl)
                  change ρ (.tmp 64) = _ at e64
                  simp only [execOp]
                  go_simp
                  exact hK _ _ rfl (Grew.refl _)
                · have eG : ρ (.tmp 65) = _ := hG 2 65 (by decide) (by kernel_rfl) (by kernel_rfl)
                  refine onG rfl (by kernel_rfl) eG ?_
                  intro bA K Q' hK
                  have e6 := hS 6 (by kernel_rfl)
                  change ρ (.tmp 6) = _ at e6
                  simp only [execOp]
                  go_simp
                  exact hK _ _ rfl (Grew.refl _)
                · have eG : ρ (.tmp 65) = _ := hG 2 65 (by decide) (by kernel_rfl) (by kernel_rfl)
                  refine onG rfl (by kernel_rfl) eG ?_
                  intro bA K Q' hK
                  have e66 := hG 3 66 (by decide) (by kernel_rfl) (by kernel_rfl)
                  change ρ (.tmp 66) = _ at e66
                  obtain ⟨⟨y0, y1, y2, y3⟩, y4, y5, y6⟩ := HCY.out w5 hR
                  simp only [execOp]
                  go_simp
                  exact hK _ _ rfl (Grew.refl _)
                · have eG : ρ (.tmp 65) = _ := hG 2 65 (by decide) (by kernel_rfl) (by kernel_rfl)
                  refine onG rfl (by kernel_rfl) eG ?_
                  intro bA K Q' hK
                  have e15 := hS 15 (by kernel_rfl)
                  change ρ (.tmp 15) = _ at e15
                  simp only [execOp]
                  go_simp
                  exact hK _ _ rfl (Grew.refl _)
                · have eG : ρ (.tmp 65) = _ := hG 2 65 (by decide) (by kernel_rfl) (by kernel_rfl)
                  refine onG rfl (by kernel_rfl) eG ?_
                  intro bA K Q' hK
                  have e67 := hG 4 67 (by decide) (by kernel_rfl) (by kernel_rfl)
                  have e68 := hG 5 68 (by decide) (by kernel_rfl) (by kernel_rfl)
                  change ρ (.tmp 67) = _ at e67
                  change ρ (.tmp 68) = _ at e68
                  simp only [execOp]
                  go_simp
                  exact hK _ _ rfl (Grew.refl _)
                · have eG : ρ (.tmp 65) = _ := hG 2 65 (by decide) (by kernel_rfl) (by kernel_rfl)
                  refine onG rfl (by kernel_rfl) eG ?_
                  intro bA K Q' hK
                  have e69 := hG 6 69 (by decide) (by kernel_rfl) (by kernel_rfl)
                  change ρ (.tmp 69) = _ at e69
                  simp only [execOp]
                  go_simp
                  exact hK _ _ rfl (Grew.refl _)
                · have eG : ρ (.tmp 65) = _ := hG 2 65 (by decide) (by kernel_rfl) (by kernel_rfl)
                  refine onG rfl (by kernel_rfl) eG ?_
                  intro bA K Q' hK
                  have e70 := hG 7 70 (by decide) (by kernel_rfl) (by kernel_rfl)
                  change ρ (.tmp 70) = _ at e70
                  obtain ⟨⟨y0, y1, y2, y3⟩, y4, y5, y6⟩ := HCY.out w5 hR
                  simp only [execOp]
                  go_simp
                  exact hK _ _ rfl (Grew.refl _)
                · have eG : ρ (.tmp 65) = _ := hG 2 65 (by decide) (by kernel_rfl) (by kernel_rfl)
                  refine onG rfl (by kernel_rfl) eG ?_
                  intro bA K Q' hK
                  have e71 := hG 8 71 (by decide) (by kernel_rfl) (by kernel_rfl)
                  change ρ (.tmp 71) = _ at e71
                  simp only [execOp]
                  go_simp
                  refine (HPY.out w5).mono ?_
                  rintro r9 w9 ⟨rfl, hb9⟩
                  exact hK _ _ rfl hb9
                · have eG : ρ (.tmp 65) = _ := hG 2 65 (by decide) (by kernel_rfl) (by kernel_rfl)
                  refine onG rfl (by kernel_rfl) eG ?_
                  intro bA K Q' hK
                  have e3 := hS 3 (by kernel_rfl)
                  change ρ (.tmp 3) = _ at e3
                  simp only [execOp]
                  go_simp
                  exact hK _ _ rfl (Grew.refl _)
                · have eG : ρ (.tmp 65) = _ := hG 2 65 (by decide) (by kernel_rfl) (by kernel_rfl)
                  refine onG rfl (by kernel_rfl) eG ?_
                  intro bA K Q' hK
                  have e73 := hG 10 73 (by decide) (by kernel_rfl) (by kernel_rfl)
                  change ρ (.tmp 73) = _ at e73
                  obtain ⟨⟨y0, y1, y2, y3⟩, y4, y5, y6⟩ := HCY.out w5 hR
                  simp only [execOp]
                  go_simp
                  exact hK _ _ rfl (Grew.refl _)
                · have eG : ρ (.tmp 65) = _ := hG 2 65 (by decide) (by kernel_rfl) (by kernel_rfl)
                  refine onG rfl (by kernel_rfl) eG ?_
                  intro bA K Q' hK
                  have e74 := hG 11 74 (by decide) (by kernel_rfl) (by kernel_rfl)
                  change ρ (.tmp 74) = _ at e74
                  simp only [execOp]
                  go_simp
                  refine (HPL.out w5).mono ?_
                  rintro r9 w9 ⟨rfl, hb9⟩
                  exact hK _ _ rfl hb9
                · have eG : ρ (.tmp 65) = _ := hG 2 65 (by decide) (by kernel_rfl) (by kernel_rfl)
                  refine onG rfl (by kernel_rfl) eG ?_
                  intro bA K Q' hK
                  have e72 := hG 9 72 (by decide) (by kernel_rfl) (by kernel_rfl)
                  have e75 := hG 12 75 (by decide) (by kernel_rfl) (by kernel_rfl)
                  change ρ (.tmp 72) = _ at e72
                  change ρ (.tmp 75) = _ at e75
                  simp only [execOp]
                  go_simp
                  exact hK _ _ rfl (Grew.refl _)
                · refine plainG rfl ?_
                  intro bA K Q' hK
                  have e65 := hG 2 65 (by decide) (by kernel_rfl) (by kernel_rfl)
                  have e76 := hG 13 76 (by decide) (by kernel_rfl) (by kernel_rfl)
                  change ρ (.tmp 65) = _ at e65
                  change ρ (.tmp 76) = _ at e76
                  simp only [execOp]
                  go_simp
                  exact hK _ _ rfl (Grew.refl _)
              · skip
                intro vv w8 hR hG
                have h9 : vv 14 = .bool false := hG.2
                have hb := grewDrew hR
                clear hG hR HCY hcu2
                have HBC_1 : Hid (Below w9.heap.size w9 w8) := hid (HBC.out.trans ((hb).mono HBC.out.size))
                have HU_1 : Hid (w8.ownsRow B0 54 3 (u11) LU (ecells WU)) := hid (ownBelow HU.out (hb))
                have HV_1 : Hid (w8.ownsRow B0 54 3 (u12) LV (ecells WV)) := hid (ownBelow HV.out (hb))
                have HAP_1 := hid HAP.out
                clear HBC HU HV HAP
                clear hb
                simp [stG, stU, dstAt, Act.put, h9]
                clear h9
                obtain ⟨⟨hcu2, hk0, hk1, hk2⟩, hy1, hy2, hy3⟩ := HR.out w8 HBC_1.out
                rcases (show Hid (s1 = s ∧ z1 = z) ∨ Hid (s1 ≠ s) ∨ Hid (s1 = s ∧ z1 ≠ z) by
                  by_cases h : s1 = s
                  · by_cases h2 : z1 = z
                    · exact .inl (hid ⟨h, h2⟩)
                    · exact .inr (.inr (hid ⟨h, h2⟩))
                  · exact .inr (.inl (hid h))) with hq | hq | hq
                · have h1 : (s1 == s) = true := by rw [beq_iff_eq]; exact hq.out.1
                  have h2 : (z1 == z) = true := by rw [beq_iff_eq]; exact hq.out.2
                  have HEQ : Hid (((s1, z1) : Ky) = (s, z)) := hid (by rw [hq.out.1, hq.out.2])
                  clear hq
                  go_wp2_with fail
                  go_quiet (fail)
                  have hb := belowDrew w8 nq
                  have HBC_2 : Hid (Below w9.heap.size w9 (w8.drewN nq)) := hid (HBC_1.out.trans ((hb).mono HBC_1.out.size))
                  have HU_2 : Hid ((w8.drewN nq).ownsRow B0 54 3 (u11) LU (ecells WU)) := hid (ownBelow HU_1.out (hb))
                  have HV_2 : Hid ((w8.drewN nq).ownsRow B0 54 3 (u12) LV (ecells WV)) := hid (ownBelow HV_1.out (hb))
                  have HAP_2 := hid HAP_1.out
                  clear HBC_1 HU_1 HV_1 HAP_1
                  clear hb hcu2 hk0 hk1 hk2 hy1 hy2 hy3
                  generalize w8.drewN nq = wq at *
                  go_wp2_with fail
                  have HNW : Hid (withTo xs ((s, z), p) pe (k + 1) = (WU, false)) := hid (by
                    rw [HNX.out.1]
                    rw [show decide (pe ≤ py) = false from decide_eq_false (by have := HC2.out; omega)]; simp
                    have := HEQ.out; simp_all)
                  have HNO : Hid (outTo xs (s, z) (k + 1) = WV) := hid (by rw [HNX.out.2.1]; rw [if_pos HEQ.out])
                  have HNI : Hid (isTo xs (s, z) (k + 1) = true) := hid (by rw [HNX.out.2.2]; rw [decide_eq_true HEQ.out]; simp)
                  go_roundw
                  case rel => exact ⟨k + 1, _, _, _, _, _, _, true, false, by have := HKX.out; have := HN.out; omega, rfl, rfl, rfl, rfl, by go_num, ⟨(congrArg Prod.fst HNW.out).symm, (congrArg Prod.snd HNW.out).symm, HNO.out.symm, HNI.out.symm⟩, HBC_2.out, HU_2.out, HV_2.out, HAP_2.out⟩
                  case measure => have := HKX.out; have := HN.out; simp [intOf]; omega
                · have h1 : (s1 == s) = false := by rw [beq_eq_false_iff_ne]; exact hq.out
                  have HEQ : Hid (¬ ((s1, z1) : Ky) = (s, z)) := hid fun e => hq.out (congrArg Prod.fst e)
                  clear hq
                  go_wp2_with fail
                  go_quiet (fail)
                  have hb := belowDrew w8 nq
                  have HBC_2 : Hid (Below w9.heap.size w9 (w8.drewN nq)) := hid (HBC_1.out.trans ((hb).mono HBC_1.out.size))
                  have HU_2 : Hid ((w8.drewN nq).ownsRow B0 54 3 (u11) LU (ecells WU)) := hid (ownBelow HU_1.out (hb))
                  have HV_2 : Hid ((w8.drewN nq).ownsRow B0 54 3 (u12) LV (ecells WV)) := hid (ownBelow HV_1.out (hb))
                  have HAP_2 := hid HAP_1.out
                  clear HBC_1 HU_1 HV_1 HAP_1
                  clear hb hcu2 hk0 hk1 hk2 hy1 hy2 hy3
                  generalize w8.drewN nq = wq at *
                  obtain ⟨⟨hcu2, hk0, hk1, hk2⟩, hy1, hy2, hy3⟩ := HR.out wq HBC_2.out
                  go_wp2_with (refine wpList_append_own_at _ rfl (.tmp 91) (.tmp 97) 22 rfl B0 54 i0 (.agg #[.int .i64 0, .int .i64 0, .int .i64 0]) 3 24 Try.underlying22 HI.out.1 HI.out.2.1 HI.out.2.2.1 HI.out.2.2.2 rfl (by decide) _ _ (ecells WU) rfl (HU_2.out.alloc _) ⟨wq.heap.size, 0, none⟩ 1 1 [.int .i64 s1, .int .i64 z1, .int .i64 p1] rfl rfl (newCells wq [.int .i64 s1, .int .i64 z1, .int .i64 p1] _) (by simp [Value.oneCell']) (by have := HLB.out; unfold maxLen; omega) (by have := HLB.out; omega) (by have := HBC_2.out.size; have := HB0.out; simp; omega) ?_)
                  intro nu3 x3 hu hg _ hat
                  have HBC_3 : Hid (Below w9.heap.size w9 x3) := hid (below_owned (w0 := w9) (HBC_2.out.alloc HBC_2.out.size _) (HU_2.out.alloc _) (Nat.le_of_eq HB0.out.symm) hg)
                  have HU_3 : Hid (x3.ownsRow B0 54 3 nu3 (LU + 1) (ecells (WU ++ [((s1, z1), p1)]))) := hid (by rw [ecells_app]; exact hu)
                  have HV_3 : Hid (x3.ownsRow B0 54 3 u12 LV (ecells WV)) := hid ((HAP_2.out.symm).kept (HV_2.out.alloc _) hg)
                  have HAP_3 : Hid (Ap nu3 u12) := hid (Ap.grow (HAP_2.out.symm) hat (fun b hb => Nat.lt_of_lt_of_le (own_lt HV_2.out b hb) (by simp))).symm
                  clear hu hg hat HBC_2 HU_2 HV_2 HAP_2
                  clear hcu2 hk0 hk1 hk2 hy1 hy2 hy3
                  obtain ⟨⟨hcu2, hk0, hk1, hk2⟩, hy1, hy2, hy3⟩ := HR.out x3 HBC_3.out
                  go_wp2_with (refine wpList_append_own_at _ rfl (.tmp 99) (.tmp 105) 22 rfl B0 54 i0 (.agg #[.int .i64 0, .int .i64 0, .int .i64 0]) 3 24 Try.underlying22 HI.out.1 HI.out.2.1 HI.out.2.2.1 HI.out.2.2.2 rfl (by decide) _ _ (ecells WV) rfl (HV_3.out.alloc _) ⟨x3.heap.size, 0, none⟩ 1 1 [.int .i64 s1, .int .i64 z1, .int .i64 p1] rfl rfl (newCells x3 [.int .i64 s1, .int .i64 z1, .int .i64 p1] _) (by simp [Value.oneCell']) (by have := HLB.out; unfold maxLen; omega) (by have := HLB.out; omega) (by have := HBC_3.out.size; have := HB0.out; simp; omega) ?_)
                  intro nv4 x4 hu hg _ hat
                  have HBC_4 : Hid (Below w9.heap.size w9 x4) := hid (below_owned (w0 := w9) (HBC_3.out.alloc HBC_3.out.size _) (HV_3.out.alloc _) (Nat.le_of_eq HB0.out.symm) hg)
                  have HV_4 : Hid (x4.ownsRow B0 54 3 nv4 (LV + 1) (ecells (WV ++ [((s1, z1), p1)]))) := hid (by rw [ecells_app]; exact hu)
                  have HU_4 : Hid (x4.ownsRow B0 54 3 nu3 (LU + 1) (ecells (WU ++ [((s1, z1), p1)]))) := hid ((HAP_3.out).kept (HU_3.out.alloc _) hg)
                  have HAP_4 : Hid (Ap nu3 nv4) := hid (Ap.grow (HAP_3.out) hat (fun b hb => Nat.lt_of_lt_of_le (own_lt HU_3.out b hb) (by simp)))
                  clear hu hg hat HBC_3 HU_3 HV_3 HAP_3
                  clear hcu2 hk0 hk1 hk2 hy1 hy2 hy3
                  go_wp2_with fail
                  have HNW : Hid (withTo xs ((s, z), p) pe (k + 1) = ((WU ++ [((s1, z1), p1)]), false)) := hid (by
                    rw [HNX.out.1]
                    rw [show decide (pe ≤ py) = false from decide_eq_false (by have := HC2.out; omega)]; simp
                    have := HEQ.out; simp_all)
                  have HNO : Hid (outTo xs (s, z) (k + 1) = (WV ++ [((s1, z1), p1)])) := hid (by rw [HNX.out.2.1]; rw [if_neg HEQ.out])
                  have HNI : Hid (isTo xs (s, z) (k + 1) = IS) := hid (by rw [HNX.out.2.2]; rw [decide_eq_false HEQ.out]; simp)
                  go_roundw
                  case rel => exact ⟨k + 1, _, _, _, _, _, _, IS, false, by have := HKX.out; have := HN.out; omega, rfl, rfl, rfl, rfl, by go_num, ⟨(congrArg Prod.fst HNW.out).symm, (congrArg Prod.snd HNW.out).symm, HNO.out.symm, HNI.out.symm⟩, HBC_4.out, HU_4.out, HV_4.out, HAP_4.out⟩
                  case measure => have := HKX.out; have := HN.out; simp [intOf]; omega
                · have h1 : (s1 == s) = true := by rw [beq_iff_eq]; exact hq.out.1
                  have h2 : (z1 == z) = false := by rw [beq_eq_false_iff_ne]; exact hq.out.2
                  have HEQ : Hid (¬ ((s1, z1) : Ky) = (s, z)) := hid fun e => hq.out.2 (congrArg Prod.snd e)
                  clear hq
                  go_wp2_with fail
                  go_quiet (fail)
                  have hb := belowDrew w8 nq
                  have HBC_2 : Hid (Below w9.heap.size w9 (w8.drewN nq)) := hid (HBC_1.out.trans ((hb).mono HBC_1.out.size))
                  have HU_2 : Hid ((w8.drewN nq).ownsRow B0 54 3 (u11) LU (ecells WU)) := hid (ownBelow HU_1.out (hb))
                  have HV_2 : Hid ((w8.drewN nq).ownsRow B0 54 3 (u12) LV (ecells WV)) := hid (ownBelow HV_1.out (hb))
                  have HAP_2 := hid HAP_1.out
                  clear HBC_1 HU_1 HV_1 HAP_1
                  clear hb hcu2 hk0 hk1 hk2 hy1 hy2 hy3
                  generalize w8.drewN nq = wq at *
                  obtain ⟨⟨hcu2, hk0, hk1, hk2⟩, hy1, hy2, hy3⟩ := HR.out wq HBC_2.out
                  go_wp2_with (refine wpList_append_own_at _ rfl (.tmp 91) (.tmp 97) 22 rfl B0 54 i0 (.agg #[.int .i64 0, .int .i64 0, .int .i64 0]) 3 24 Try.underlying22 HI.out.1 HI.out.2.1 HI.out.2.2.1 HI.out.2.2.2 rfl (by decide) _ _ (ecells WU) rfl (HU_2.out.alloc _) ⟨wq.heap.size, 0, none⟩ 1 1 [.int .i64 s1, .int .i64 z1, .int .i64 p1] rfl rfl (newCells wq [.int .i64 s1, .int .i64 z1, .int .i64 p1] _) (by simp [Value.oneCell']) (by have := HLB.out; unfold maxLen; omega) (by have := HLB.out; omega) (by have := HBC_2.out.size; have := HB0.out; simp; omega) ?_)
                  intro nu3 x3 hu hg _ hat
                  have HBC_3 : Hid (Below w9.heap.size w9 x3) := hid (below_owned (w0 := w9) (HBC_2.out.alloc HBC_2.out.size _) (HU_2.out.alloc _) (Nat.le_of_eq HB0.out.symm) hg)
                  have HU_3 : Hid (x3.ownsRow B0 54 3 nu3 (LU + 1) (ecells (WU ++ [((s1, z1), p1)]))) := hid (by rw [ecells_app]; exact hu)
                  have HV_3 : Hid (x3.ownsRow B0 54 3 u12 LV (ecells WV)) := hid ((HAP_2.out.symm).kept (HV_2.out.alloc _) hg)
                  have HAP_3 : Hid (Ap nu3 u12) := hid (Ap.grow (HAP_2.out.symm) hat (fun b hb => Nat.lt_of_lt_of_le (own_lt HV_2.out b hb) (by simp))).symm
                  clear hu hg hat HBC_2 HU_2 HV_2 HAP_2
                  clear hcu2 hk0 hk1 hk2 hy1 hy2 hy3
                  obtain ⟨⟨hcu2, hk0, hk1, hk2⟩, hy1, hy2, hy3⟩ := HR.out x3 HBC_3.out
                  go_wp2_with (refine wpList_append_own_at _ rfl (.tmp 99) (.tmp 105) 22 rfl B0 54 i0 (.agg #[.int .i64 0, .int .i64 0, .int .i64 0]) 3 24 Try.underlying22 HI.out.1 HI.out.2.1 HI.out.2.2.1 HI.out.2.2.2 rfl (by decide) _ _ (ecells WV) rfl (HV_3.out.alloc _) ⟨x3.heap.size, 0, none⟩ 1 1 [.int .i64 s1, .int .i64 z1, .int .i64 p1] rfl rfl (newCells x3 [.int .i64 s1, .int .i64 z1, .int .i64 p1] _) (by simp [Value.oneCell']) (by have := HLB.out; unfold maxLen; omega) (by have := HLB.out; omega) (by have := HBC_3.out.size; have := HB0.out; simp; omega) ?_)
                  intro nv4 x4 hu hg _ hat
                  have HBC_4 : Hid (Below w9.heap.size w9 x4) := hid (below_owned (w0 := w9) (HBC_3.out.alloc HBC_3.out.size _) (HV_3.out.alloc _) (Nat.le_of_eq HB0.out.symm) hg)
                  have HV_4 : Hid (x4.ownsRow B0 54 3 nv4 (LV + 1) (ecells (WV ++ [((s1, z1), p1)]))) := hid (by rw [ecells_app]; exact hu)
                  have HU_4 : Hid (x4.ownsRow B0 54 3 nu3 (LU + 1) (ecells (WU ++ [((s1, z1), p1)]))) := hid ((HAP_3.out).kept (HU_3.out.alloc _) hg)
                  have HAP_4 : Hid (Ap nu3 nv4) := hid (Ap.grow (HAP_3.out) hat (fun b hb => Nat.lt_of_lt_of_le (own_lt HU_3.out b hb) (by simp)))
                  clear hu hg hat HBC_3 HU_3 HV_3 HAP_3
                  clear hcu2 hk0 hk1 hk2 hy1 hy2 hy3
                  go_wp2_with fail
                  have HNW : Hid (withTo xs ((s, z), p) pe (k + 1) = ((WU ++ [((s1, z1), p1)]), false)) := hid (by
                    rw [HNX.out.1]
                    rw [show decide (pe ≤ py) = false from decide_eq_false (by have := HC2.out; omega)]; simp
                    have := HEQ.out; simp_all)
                  have HNO : Hid (outTo xs (s, z) (k + 1) = (WV ++ [((s1, z1), p1)])) := hid (by rw [HNX.out.2.1]; rw [if_neg HEQ.out])
                  have HNI : Hid (isTo xs (s, z) (k + 1) = IS) := hid (by rw [HNX.out.2.2]; rw [decide_eq_false HEQ.out]; simp)
                  go_roundw
                  case rel => exact ⟨k + 1, _, _, _, _, _, _, IS, false, by have := HKX.out; have := HN.out; omega, rfl, rfl, rfl, rfl, by go_num, ⟨(congrArg Prod.fst HNW.out).symm, (congrArg Prod.snd HNW.out).symm, HNO.out.symm, HNI.out.symm⟩, HBC_4.out, HU_4.out, HV_4.out, HAP_4.out⟩
                  case measure => have := HKX.out; have := HN.out; simp [intOf]; omega
          · have hkf : (k < n2) = False := eq_false (by omega)
            have HKN : Hid (k = xs.length) := hid (by have := HN.out; omega)
            have HIS : Hid (IS = inK xs (s, z)) := hid (by rw [HST.out.2.2.2, HKN.out, is_all HFA.out])
            have HWV : Hid (IS = true → WV = D) := hid (fun h => by rw [HST.out.2.2.1, HKN.out, HFF.out.2.2.2]; exact out_all HFA.out (by rw [← HIS.out]; exact h))
            obtain ⟨-, hk0, hk1, hk2⟩ := HALL.out wr HBC.out
            clear hlt hcl2
            cases PT
            · go_wp2_with (refine wpList_append_own_at _ rfl (.tmp 109) (.tmp 111) 22 rfl B0 54 i0 (.agg #[.int .i64 0, .int .i64 0, .int .i64 0]) 3 24 Try.underlying22 HI.out.1 HI.out.2.1 HI.out.2.2.1 HI.out.2.2.2 rfl (by decide) _ _ (ecells WU) rfl (HU.out.alloc _) ⟨wr.heap.size, 0, none⟩ 1 1 [.int .i64 s, .int .i64 z, .int .i64 p] rfl rfl (newCells wr [.int .i64 s, .int .i64 z, .int .i64 p] _) (by simp [Value.oneCell']) (by have := HLB.out; unfold maxLen; omega) (by have := HLB.out; omega) (by have := HBC.out.size; have := HB0.out; simp; omega) ?_)
              intro nu1 x1 hu hg _ hat
              have HBC_1 : Hid (Below w9.heap.size w9 x1) := hid (below_owned (w0 := w9) (HBC.out.alloc HBC.out.size _) (HU.out.alloc _) (Nat.le_of_eq HB0.out.symm) hg)
              have HU_1 : Hid (x1.ownsRow B0 54 3 nu1 (LU + 1) (ecells (WU ++ [((s, z), p)]))) := hid (by rw [ecells_app]; exact hu)
              have HV_1 : Hid (x1.ownsRow B0 54 3 u12 LV (ecells WV)) := hid ((HAP.out.symm).kept (HV.out.alloc _) hg)
              have HAP_1 : Hid (Ap nu1 u12) := hid (Ap.grow (HAP.out.symm) hat (fun b hb => Nat.lt_of_lt_of_le (own_lt HV.out b hb) (by simp))).symm
              clear hu hg hat HBC HU HV HAP
              obtain ⟨LX, hLX⟩ : ∃ L, L = LU + 1 := ⟨_, rfl⟩
              obtain ⟨WX, hWX⟩ : ∃ l, l = WU ++ [((s, z), p)] := ⟨_, rfl⟩
              have HWX : Hid (WX = withX xs ((s, z), p) pe) := hid (by rw [hWX]; unfold withX; rw [← HKN.out, ← HST.out.2.1, if_neg (by decide), ← HST.out.1])
              have HLX : Hid (LX ≤ 21) := hid (by have := HLB.out; omega)
              rw [← hLX, ← hWX] at HU_1
              clear hLX hWX hcu2
              clear hk0 hk1 hk2
              cases IS
              · have hIN : inK xs (s, z) = false := HIS.out.symm
                obtain rfl : Fo = 7 := by rw [HFF.out.2.1]; exact wo_out HC.out hIN
                clear hIN
                go_upto_region 23 with fail
                refine wp_region_grows 23 [EqN (.bool false), EqN (.bool false), EqN (undef), EqN (undef), EqN (undef), EqN (undef), EqN (undef), EqN (undef), EqN (undef), EqN (undef), EqN (undef), EqN (undef), EqN (undef), EqN (undef), EqN (.bool false), EqN (.bool false), EqN (.bool false), EqN (.bool true), EqN (.bool true), EqN (.int .i64 7), EqN (.bool false), EqN (.bool false), EqN (.bool false)] (by kernel_rfl) (by decide) (by kernel_rfl) ?_ ?_ ?_
                · repeat' (first | exact List.forall_mem_nil _ | refine List.forall_mem_cons.2 ⟨?_, ?_⟩)
                  all_goals
                    intro w w' v hw h
                    first | exact h | exact NdV.grew hw h
                · simp only [AllLt]
                  refine ⟨⟨⟨⟨⟨⟨⟨⟨⟨⟨⟨⟨⟨⟨⟨⟨⟨⟨⟨⟨⟨⟨⟨trivial, ?_⟩, ?_⟩, ?_⟩, ?_⟩, ?_⟩, ?_⟩, ?_⟩, ?_⟩, ?_⟩, ?_⟩, ?_⟩, ?_⟩, ?_⟩, ?_⟩, ?_⟩, ?_⟩, ?_⟩, ?_⟩, ?_⟩, ?_⟩, ?_⟩, ?_⟩, ?_⟩
                  all_goals
                    intro o' ho
                    simp at ho
                    subst ho
                    intro ρ w5 hR hL hS hG
                    obtain ⟨hl1, hl2, -⟩ := hL
                  · refine plainG rfl ?_
                    intro bA K Q' hK
                    have e13 := hS 13 (by kernel_rfl)
                    change ρ (.tmp 13) = _ at e13
                    simp only [execOp]
                    go_simp
                    exact hK _ _ rfl (Grew.refl _)
                  · refine plainG rfl ?_
                    intro bA K Q' hK
                    have e113 := hG 0 113 (by decide) (by kernel_rfl) (by kernel_rfl)
                    change ρ (.tmp 113) = _ at e113
                    simp only [execOp]
                    go_simp
                    exact hK _ _ rfl (Grew.refl _)
                  · have eG : ρ (.tmp 114) = _ := hG 1 114 (by decide) (by kernel_rfl) (by kernel_rfl)
                    exact offG rfl (by kernel_rfl) eG rfl rfl
                  · have eG : ρ (.tmp 114) = _ := hG 1 114 (by decide) (by kernel_rfl) (by kernel_rfl)
                    exact offG rfl (by kernel_rfl) eG rfl rfl
                  · have eG : ρ (.tmp 114) = _ := hG 1 114 (by decide) (by kernel_rfl) (by kernel_rfl)
                    exact offG rfl (by kernel_rfl) eG rfl rfl
                  · have eG : ρ (.tmp 117) = _ := hG 4 117 (by decide) (by kernel_rfl) (by kernel_rfl)
                    exact offU rfl (by kernel_rfl) eG rfl
                  · have eG : ρ (.tmp 117) = _ := hG 4 117 (by decide) (by kernel_rfl) (by kernel_rfl)
                    exact offU rfl (by kernel_rfl) eG rfl
                  · have eG : ρ (.tmp 117) = _ := hG 4 117 (by decide) (by kernel_rfl) (by kernel_rfl)
                    exact offU rfl (by kernel_rfl) eG rfl
                  · have eG : ρ (.tmp 117) = _ := hG 4 117 (by decide) (by kernel_rfl) (by kernel_rfl)
                    exact offU rfl (by kernel_rfl) eG rfl
                  · have eG : ρ (.tmp 117) = _ := hG 4 117 (by decide) (by kernel_rfl) (by kernel_rfl)
                    exact offU rfl (by kernel_rfl) eG rfl
                  · have eG : ρ (.tmp 117) = _ := hG 4 117 (by decide) (by kernel_rfl) (by kernel_rfl)
                    exact offU rfl (by kernel_rfl) eG rfl
                  · have eG : ρ (.tmp 117) = _ := hG 4 117 (by decide) (by kernel_rfl) (by kernel_rfl)
                    exact offU rfl (by kernel_rfl) eG rfl
                  · have eG : ρ (.tmp 117) = _ := hG 4 117 (by decide) (by kernel_rfl) (by kernel_rfl)
                    exact offU rfl (by kernel_rfl) eG rfl
                  · have eG : ρ (.tmp 114) = _ := hG 1 114 (by decide) (by kernel_rfl) (by kernel_rfl)
                    exact offG rfl (by kernel_rfl) eG rfl rfl
                  · refine plainG rfl ?_
                    intro bA K Q' hK
                    have e114 := hG 1 114 (by decide) (by kernel_rfl) (by kernel_rfl)
                    have e126 := hG 13 126 (by decide) (by kernel_rfl) (by kernel_rfl)
                    change ρ (.tmp 114) = _ at e114
                    change ρ (.tmp 126) = _ at e126
                    simp only [execOp]
                    go_simp
                    exact hK _ _ rfl (Grew.refl _)
                  · refine plainG rfl ?_
                    intro bA K Q' hK
                    have e127 := hG 14 127 (by decide) (by kernel_rfl) (by kernel_rfl)
                    change ρ (.tmp 127) = _ at e127
                    simp only [execOp]
                    go_simp
                    exact hK _ _ rfl (Grew.refl _)
                  · have eG : ρ (.tmp 128) = _ := hG 15 128 (by decide) (by kernel_rfl) (by kernel_rfl)
                    refine onG rfl (by kernel_rfl) eG ?_
                    intro bA K Q' hK
                    have e13 := hS 13 (by kernel_rfl)
                    change ρ (.tmp 13) = _ at e13
                    simp only [execOp]
                    go_simp
                    exact hK _ _ rfl (Grew.refl _)
                  · have eG : ρ (.tmp 128) = _ := hG 15 128 (by decide) (by kernel_rfl) (by kernel_rfl)
                    refine onG rfl (by kernel_rfl) eG ?_
                    intro bA K Q' hK
                    have e129 := hG 16 129 (by decide) (by kernel_rfl) (by kernel_rfl)
                    change ρ (.tmp 129) = _ at e129
                    simp only [execOp]
                    go_simp
                    exact hK _ _ rfl (Grew.refl _)
                  · have eG : ρ (.tmp 128) = _ := hG 15 128 (by decide) (by kernel_rfl) (by kernel_rfl)
                    refine onG rfl (by kernel_rfl) eG ?_
                    intro bA K Q' hK
                    have e130 := hG 17 130 (by decide) (by kernel_rfl) (by kernel_rfl)
                    change ρ (.tmp 130) = _ at e130
                    simp only [execOp]
                    go_simp
                    exact hK _ _ rfl (Grew.refl _)
                  · have eG : ρ (.tmp 131) = _ := hG 18 131 (by decide) (by kernel_rfl) (by kernel_rfl)
                    refine onG rfl (by kernel_rfl) eG ?_
                    intro bA K Q' hK
                    have e10 := hS 10 (by kernel_rfl)
                    change ρ (.tmp 10) = _ at e10
                    simp only [execOp]
                    go_simp
                    exact hK _ _ rfl (Grew.refl _)
                  · have eG : ρ (.tmp 131) = _ := hG 18 131 (by decide) (by kernel_rfl) (by kernel_rfl)
                    refine onG rfl (by kernel_rfl) eG ?_
                    intro bA K Q' hK
                    have e132 := hG 19 132 (by decide) (by kernel_rfl) (by kernel_rfl)
                    change ρ (.tmp 132) = _ at e132
                    simp only [execOp]
                    go_simp
                    exact hK _ _ rfl (Grew.refl _)
                  · have eG : ρ (.tmp 128) = _ := hG 15 128 (by decide) (by kernel_rfl) (by kernel_rfl)
                    refine onG rfl (by kernel_rfl) eG ?_
                    intro bA K Q' hK
                    have e131 := hG 18 131 (by decide) (by kernel_rfl) (by kernel_rfl)
                    have e133 := hG 20 133 (by decide) (by kernel_rfl) (by kernel_rfl)
                    change ρ (.tmp 131) = _ at e131
                    change ρ (.tmp 133) = _ at e133
                    simp only [execOp]
                    go_simp
                    exact hK _ _ rfl (Grew.refl _)
                  · refine plainG rfl ?_
                    intro bA K Q' hK
                    have e128 := hG 15 128 (by decide) (by kernel_rfl) (by kernel_rfl)
                    have e134 := hG 21 134 (by decide) (by kernel_rfl) (by kernel_rfl)
                    change ρ (.tmp 128) = _ at e128
                    change ρ (.tmp 134) = _ at e134
                    simp only [execOp]
                    go_simp
                    exact hK _ _ rfl (Grew.refl _)
                · skip
                  intro vv q8 hR hG
                  have h9 : vv 22 = .bool false := hG.2
                  have hb := grewDrew hR
                  clear hG hR
                  have HBC_2 : Hid (Below w9.heap.size w9 q8) := hid (HBC_1.out.trans ((hb).mono HBC_1.out.size))
                  have HU_2 : Hid (q8.ownsRow B0 54 3 (nu1) LX (ecells WX)) := hid (ownBelow HU_1.out (hb))
                  have HV_2 : Hid (q8.ownsRow B0 54 3 (u12) LV (ecells WV)) := hid (ownBelow HV_1.out (hb))
                  have HAP_2 := hid HAP_1.out
                  clear HBC_1 HU_1 HV_1 HAP_1
                  clear hb
                  simp [stG, stU, dstAt, Act.put, h9]
                  clear h9
                  obtain ⟨-, hk0, hk1, hk2⟩ := HALL.out q8 HBC_2.out
                  rcases (show Hid (okE ((s, z), p) = false) ∨ Hid (okE ((s, z), p) = true ∧ 16 < (insE xs ((s, z), p)).length) ∨ Hid (okE ((s, z), p) = true ∧ (insE xs ((s, z), p)).length ≤ 16) by
                    cases h : okE ((s, z), p)
                    · exact .inl (hid rfl)
                    · rcases Nat.lt_or_ge 16 (insE xs ((s, z), p)).length with h2 | h2
                      · exact .inr (.inl (hid ⟨rfl, h2⟩))
                      · exact .inr (.inr (hid ⟨rfl, h2⟩))) with ho | ho | ho
                  · have HRI : Hid (∀ y, Calls Try.prog 29 #[.agg #[.int .i64 s, .int .i64 z, .int .i64 p]] y fun e w' => e = .returned (.bool false) ∧ Below y.heap.size y w') := hid fun y => by
                      have h := refRight_any s z p y
                      rw [ho.out] at h
                      exact h
                    obtain rfl : F = 10 := by rw [HFF.out.1]; exact wi_bad HC.out ho.out
                    clear ho
                    go_wp2_with fail
                    refine (HRI.out _).mono ?_
                    rintro e q9 ⟨rfl, hb⟩
                    have HBC_3 : Hid (Below w9.heap.size w9 q9) := hid (HBC_2.out.trans ((hb).mono HBC_2.out.size))
                    have HU_3 : Hid (q9.ownsRow B0 54 3 (nu1) LX (ecells WX)) := hid (ownBelow HU_2.out (hb))
                    have HV_3 : Hid (q9.ownsRow B0 54 3 (u12) LV (ecells WV)) := hid (ownBelow HV_2.out (hb))
                    have HAP_3 := hid HAP_2.out
                    clear HBC_2 HU_2 HV_2 HAP_2
                    clear hb hk0 hk1 hk2 HRI
                    go_wp2_with fail
                    refine (known_any HP.out _).mono ?_
                    rintro e q10 ⟨rfl, hb⟩
                    have HBC_4 : Hid (Below w9.heap.size w9 q10) := hid (HBC_3.out.trans ((hb).mono HBC_3.out.size))
                    have HU_4 : Hid (q10.ownsRow B0 54 3 (nu1) LX (ecells WX)) := hid (ownBelow HU_3.out (hb))
                    have HV_4 : Hid (q10.ownsRow B0 54 3 (u12) LV (ecells WV)) := hid (ownBelow HV_3.out (hb))
                    have HAP_4 := hid HAP_3.out
                    clear HBC_3 HU_3 HV_3 HAP_3
                    clear hb
                    go_wp2_with fail
                    go_ret
                    exact ⟨rfl, HB_9.out.trans (HBC_4.out.mono HB_9.out.size)⟩
                  · have HRI : Hid (∀ y, Calls Try.prog 29 #[.agg #[.int .i64 s, .int .i64 z, .int .i64 p]] y fun e w' => e = .returned (.bool true) ∧ Below y.heap.size y w') := hid fun y => by
                      have h := refRight_any s z p y
                      rw [ho.out.1] at h
                      exact h
                    have hWI : WX = insE xs ((s, z), p) := by rw [HWX.out, HPEE.out, show placeW s z = plK (s, z) from placeW_ok (k := (s, z)) (okE_key (e := ((s, z), p)) ho.out.1)]; exact withX_is (e := ((s, z), p)) HFA.out
                    obtain ⟨aU, cU, eU, eL⟩ := owned_sl HU_2.out
                    rw [hWI] at eL
                    obtain rfl : F = 6 := by rw [HFF.out.1]; exact wi_full HC.out ho.out.1 ho.out.2
                    have h16 : (16 : Int) < LX := by have := ho.out.2; omega
                    have h162 : decide ((16 : Int) < LX) = true := decide_eq_true h16
                    have h163 : (16 < LX) = True := eq_true (by omega)
                    clear eL hWI
                    subst eU
                    clear ho
                    go_wp2_with fail
                    refine (HRI.out _).mono ?_
                    rintro e q9 ⟨rfl, hb⟩
                    have HBC_3 : Hid (Below w9.heap.size w9 q9) := hid (HBC_2.out.trans ((hb).mono HBC_2.out.size))
                    have HU_3 : Hid (q9.ownsRow B0 54 3 (.slice aU LX cU) LX (ecells WX)) := hid (ownBelow HU_2.out (hb))
                    have HV_3 : Hid (q9.ownsRow B0 54 3 (u12) LV (ecells WV)) := hid (ownBelow HV_2.out (hb))
                    have HAP_3 := hid HAP_2.out
                    clear HBC_2 HU_2 HV_2 HAP_2
                    clear hb hk0 hk1 hk2 HRI
                    go_wp2_with fail
                    refine (known_any HP.out _).mono ?_
                    rintro e q10 ⟨rfl, hb⟩
                    have HBC_4 : Hid (Below w9.heap.size w9 q10) := hid (HBC_3.out.trans ((hb).mono HBC_3.out.size))
                    have HU_4 : Hid (q10.ownsRow B0 54 3 (.slice aU LX cU) LX (ecells WX)) := hid (ownBelow HU_3.out (hb))
                    have HV_4 : Hid (q10.ownsRow B0 54 3 (u12) LV (ecells WV)) := hid (ownBelow HV_3.out (hb))
                    have HAP_4 := hid HAP_3.out
                    clear HBC_3 HU_3 HV_3 HAP_3
                    clear hb
                    go_wp2_with fail
                    go_ret
                    exact ⟨rfl, HB_9.out.trans (HBC_4.out.mono HB_9.out.size)⟩
                  · have HRI : Hid (∀ y, Calls Try.prog 29 #[.agg #[.int .i64 s, .int .i64 z, .int .i64 p]] y fun e w' => e = .returned (.bool true) ∧ Below y.heap.size y w') := hid fun y => by
                      have h := refRight_any s z p y
                      rw [ho.out.1] at h
                      exact h
                    have hWI : WX = insE xs ((s, z), p) := by rw [HWX.out, HPEE.out, show placeW s z = plK (s, z) from placeW_ok (k := (s, z)) (okE_key (e := ((s, z), p)) ho.out.1)]; exact withX_is (e := ((s, z), p)) HFA.out
                    obtain ⟨aU, cU, eU, eL⟩ := owned_sl HU_2.out
                    rw [hWI] at eL
                    obtain rfl : F = 0 := by rw [HFF.out.1]; exact wi_ok HC.out ho.out.1 ho.out.2
                    have h162 : decide ((16 : Int) < LX) = false := decide_eq_false (by have := ho.out.2; omega)
                    have h163 : (16 < LX) = False := eq_false (by have := ho.out.2; omega)
                    have HWI2 : Hid (WX = I) := hid (by rw [HFF.out.2.2.1]; exact hWI)
                    obtain ⟨aU2, cU2, eU2, h9⟩ := owned_nd HU_2.out (by have := HLX.out; omega) (by rw [hWI]; exact ins_fits HOK.out ho.out.1)
                    rw [eU] at eU2
                    cases eU2
                    have HNU := hid h9
                    clear eL hWI h9
                    subst eU
                    clear ho
                    go_wp2_with fail
                    refine (HRI.out _).mono ?_
                    rintro e q9 ⟨rfl, hb⟩
                    have HNU2 := hid (HNU.out.below hb)
                    clear HNU
                    have HBC_3 : Hid (Below w9.heap.size w9 q9) := hid (HBC_2.out.trans ((hb).mono HBC_2.out.size))
                    have HU_3 : Hid (q9.ownsRow B0 54 3 (.slice aU LX cU) LX (ecells WX)) := hid (ownBelow HU_2.out (hb))
                    have HV_3 : Hid (q9.ownsRow B0 54 3 (u12) LV (ecells WV)) := hid (ownBelow HV_2.out (hb))
                    have HAP_3 := hid HAP_2.out
                    clear HBC_2 HU_2 HV_2 HAP_2
                    clear hb hk0 hk1 hk2 HRI
                    have h77 := (HN7.out w9 (Below.refl _ _) (by first | rfl | trivial)).1.symm
                    subst h77
                    have HCZ : Hid (∀ x, Grew q9.drew x → ((x.cell? ⟨gp7, 0, none⟩ = some (.bool lf) ∧ x.cell? ⟨gp7, 1, none⟩ = some (.slice ap7 np7 cp7)) ∧ x.cell? ⟨gp2, 0, none⟩ = some (.bool lf)) ∧ NdOk x ap7 np7 cp7 I ∧ NdOk x aU LX cU I) := hid fun x hx => by
                      have hb := HBC_3.out.trans ((grewDrew hx).mono HBC_3.out.size)
                      exact ⟨⟨(HB79.out x hb).1, (HALL.out x hb).1.1⟩, (HN7.out x hb (by first | rfl | trivial)).2, by rw [← HWI2.out]; exact HNU2.out.below (grewDrew hx)⟩
                    go_upto_region 29 with fail
                    refine wp_region_grows 15 [EqN (.bool true), EqN (.bool true), EqN (.int .i64 0), EqN (.bool true), EqN (.bool true), EqN (.bool true), EqN (.agg #[.bool lf, .slice ap7 np7 cp7]), (fun x v => NdV x v lf I), EqN (.pointer (some ⟨gp2, 0, none⟩)), EqN (.bool lf), EqN (.slice aU LX cU), EqN (.agg #[.bool lf, .slice aU LX cU]), EqN (.bool true), EqN (.bool true), EqN (.bool true)] (by kernel_rfl) (by decide) (by kernel_rfl) ?_ ?_ ?_
                    · repeat' (first | exact List.forall_mem_nil _ | refine List.forall_mem_cons.2 ⟨?_, ?_⟩)
                      all_goals
                        intro w w' v hw h
                        first | exact h | exact NdV.grew hw h
                    · simp only [AllLt]
                      refine ⟨⟨⟨⟨⟨⟨⟨⟨⟨⟨⟨⟨⟨⟨⟨trivial, ?_⟩, ?_⟩, ?_⟩, ?_⟩, ?_⟩, ?_⟩, ?_⟩, ?_⟩, ?_⟩, ?_⟩, ?_⟩, ?_⟩, ?_⟩, ?_⟩, ?_⟩
                      all_goals
                        intro o' ho
                        simp at ho
                        subst ho
                        intro ρ w5 hR hL hS hG
                        obtain ⟨hl1, hl2, -⟩ := hL
                      · refine plainG rfl ?_
                        intro bA K Q' hK
                        simp only [execOp]
                        go_simp
                        refine (known_any HP.out w5).mono ?_
                        rintro r9 w9 ⟨rfl, hb9⟩
                        exact hK _ _ rfl hb9
                      · refine plainG rfl ?_
                        intro bA K Q' hK
                        have e152 := hG 0 152 (by decide) (by kernel_rfl) (by kernel_rfl)
                        change ρ (.tmp 152) = _ at e152
                        simp only [execOp]
                        go_simp
                        exact hK _ _ rfl (Grew.refl _)
                      · have eG : ρ (.tmp 153) = _ := hG 1 153 (by decide) (by kernel_rfl) (by kernel_rfl)
                        refine onG rfl (by kernel_rfl) eG ?_
                        intro bA K Q' hK
                        have e8 := hS 8 (by kernel_rfl)
                        change ρ (.tmp 8) = _ at e8
                        simp only [execOp]
                        go_simp
                        exact hK _ _ rfl (Grew.refl _)
                      · have eG : ρ (.tmp 153) = _ := hG 1 153 (by decide) (by kernel_rfl) (by kernel_rfl)
                        refine onG rfl (by kernel_rfl) eG ?_
                        intro bA K Q' hK
                        have e154 := hG 2 154 (by decide) (by kernel_rfl) (by kernel_rfl)
                        change ρ (.tmp 154) = _ at e154
                        simp only [execOp]
                        go_simp
                        exact hK _ _ rfl (Grew.refl _)
                      · refine plainG rfl ?_
                        intro bA K Q' hK
                        have e153 := hG 1 153 (by decide) (by kernel_rfl) (by kernel_rfl)
                        have e155 := hG 3 155 (by decide) (by kernel_rfl) (by kernel_rfl)
                        change ρ (.tmp 153) = _ at e153
                        change ρ (.tmp 155) = _ at e155
                        simp only [execOp]
                        go_simp
                        exact hK _ _ rfl (Grew.refl _)
                      · refine plainG rfl ?_
                        intro bA K Q' hK
                        have e156 := hG 4 156 (by decide) (by kernel_rfl) (by kernel_rfl)
                        change ρ (.tmp 156) = _ at e156
                        simp only [execOp]
                        go_simp
                        exact hK _ _ rfl (Grew.refl _)
                      · have eG : ρ (.tmp 157) = _ := hG 5 157 (by decide) (by kernel_rfl) (by kernel_rfl)
                        refine onG rfl (by kernel_rfl) eG ?_
                        intro bA K Q' hK
                        have e7 := hS 7 (by kernel_rfl)
                        change ρ (.tmp 7) = _ at e7
                        obtain ⟨⟨⟨y0, y1⟩, y2⟩, -, -⟩ := HCZ.out w5 hR
                        simp only [execOp]
                        go_simp
                        exact hK _ _ rfl (Grew.refl _)
                      · have eG : ρ (.tmp 157) = _ := hG 5 157 (by decide) (by kernel_rfl) (by kernel_rfl)
                        refine onG rfl (by kernel_rfl) eG ?_
                        intro bA K Q' hK
                        have e158 := hG 6 158 (by decide) (by kernel_rfl) (by kernel_rfl)
                        change ρ (.tmp 158) = _ at e158
                        simp only [execOp]
                        go_simp
                        refine (of_x lf (HCZ.out w5 hR).2.1).mono ?_
                        rintro r9 w9 ⟨⟨a9, n9, c9, rfl, h9⟩, hb9⟩
                        exact hK _ _ ⟨_, _, _, rfl, h9⟩ hb9
                      · have eG : ρ (.tmp 157) = _ := hG 5 157 (by decide) (by kernel_rfl) (by kernel_rfl)
                        refine onG rfl (by kernel_rfl) eG ?_
                        intro bA K Q' hK
                        have e6 := hS 6 (by kernel_rfl)
                        change ρ (.tmp 6) = _ at e6
                        simp only [execOp]
                        go_simp
                        exact hK _ _ rfl (Grew.refl _)
                      · have eG : ρ (.tmp 157) = _ := hG 5 157 (by decide) (by kernel_rfl) (by kernel_rfl)
                        refine onG rfl (by kernel_rfl) eG ?_
                        intro bA K Q' hK
                        have e160 := hG 8 160 (by decide) (by kernel_rfl) (by kernel_rfl)
                        change ρ (.tmp 160) = _ at e160
                        obtain ⟨⟨⟨y0, y1⟩, y2⟩, -, -⟩ := HCZ.out w5 hR
                        simp only [execOp]
                        go_simp
                        exact hK _ _ rfl (Grew.refl _)
                      · have eG : ρ (.tmp 157) = _ := hG 5 157 (by decide) (by kernel_rfl) (by kernel_rfl)
                        refine onG rfl (by kernel_rfl) eG ?_
                        intro bA K Q' hK
                        have e11 := hS 11 (by kernel_rfl)
                        change ρ (.tmp 11) = _ at e11
                        simp only [execOp]
                        go_simp
                        exact hK _ _ rfl (Grew.refl _)
                      · have eG : ρ (.tmp 157) = _ := hG 5 157 (by decide) (by kernel_rfl) (by kernel_rfl)
                        refine onG rfl (by kernel_rfl) eG ?_
                        intro bA K Q' hK
                        have e161 := hG 9 161 (by decide) (by kernel_rfl) (by kernel_rfl)
                        have e162 := hG 10 162 (by decide) (by kernel_rfl) (by kernel_rfl)
                        change ρ (.tmp 161) = _ at e161
                        change ρ (.tmp 162) = _ at e162
                        simp only [execOp]
                        go_simp
                        exact hK _ _ rfl (Grew.refl _)
                      · have eG : ρ (.tmp 157) = _ := hG 5 157 (by decide) (by kernel_rfl) (by kernel_rfl)
                        refine onG rfl (by kernel_rfl) eG ?_
                        intro bA K Q' hK
                        have e159 := hG 7 159 (by decide) (by kernel_rfl) (by kernel_rfl)
                        have e163 := hG 11 163 (by decide) (by kernel_rfl) (by kernel_rfl)
                        skip
                        change ρ (.tmp 163) = _ at e163
                        obtain ⟨a9, n9, c9, e159', h29⟩ := e159
                        change ρ (.tmp 159) = _ at e159'
                        simp only [execOp]
                        go_simp
                        refine (same_x lf h29 (HCZ.out w5 hR).2.2).mono ?_
                        rintro r9 w9 ⟨rfl, hb9⟩
                        exact hK _ _ rfl hb9
                      · refine plainG rfl ?_
                        intro bA K Q' hK
                        have e157 := hG 5 157 (by decide) (by kernel_rfl) (by kernel_rfl)
                        have e164 := hG 12 164 (by decide) (by kernel_rfl) (by kernel_rfl)
                        change ρ (.tmp 157) = _ at e157
                        change ρ (.tmp 164) = _ at e164
                        simp only [execOp]
                        go_simp
                        exact hK _ _ rfl (Grew.refl _)
                      · refine plainG rfl ?_
                        intro bA K Q' hK
                        have e165 := hG 13 165 (by decide) (by kernel_rfl) (by kernel_rfl)
                        change ρ (.tmp 165) = _ at e165
                        simp only [execOp]
                        go_simp
                        exact hK _ _ rfl (Grew.refl _)
                    · skip
                      intro vv q10 hR hG
                      have h9 : vv 14 = .bool true := hG.2
                      have hb := grewDrew hR
                      clear hG hR HCZ
                      have HBC_4 : Hid (Below w9.heap.size w9 q10) := hid (HBC_3.out.trans ((hb).mono HBC_3.out.size))
                      have HU_4 : Hid (q10.ownsRow B0 54 3 (.slice aU LX cU) LX (ecells WX)) := hid (ownBelow HU_3.out (hb))
                      have HV_4 : Hid (q10.ownsRow B0 54 3 (u12) LV (ecells WV)) := hid (ownBelow HV_3.out (hb))
                      have HAP_4 := hid HAP_3.out
                      clear HBC_3 HU_3 HV_3 HAP_3
                      clear hb
                      simp [stG, stU, dstAt, Act.put, h9]
                      clear h9
                      go_wp2_with fail
                      go_ret
                      exact ⟨rfl, HB_9.out.trans (HBC_4.out.mono HB_9.out.size)⟩
              · have hIN : inK xs (s, z) = true := HIS.out.symm
                obtain rfl : Fo = 0 := by rw [HFF.out.2.1]; exact wo_in HC.out hIN
                obtain rfl := HWV.out rfl
                have h99 := (HN9.out w9 (Below.refl _ _) (by first | rfl | trivial)).1.symm
                subst h99
                obtain ⟨aV, cV, e9, h9⟩ := owned_nd HV_1.out (by have := HLB.out; omega) (by rw [HFF.out.2.2.2]; exact rem_fits HOK.out)
                have HNV := hid h9
                have HCZ : Hid (∀ x, Grew x1.drew x → ((x.cell? ⟨gp9, 0, none⟩ = some (.bool lf) ∧ x.cell? ⟨gp9, 1, none⟩ = some (.slice ap9 np9 cp9)) ∧ x.cell? ⟨gp2, 0, none⟩ = some (.bool lf)) ∧ NdOk x ap9 np9 cp9 WV ∧ NdOk x aV LV cV WV) := hid fun x hx => by
                  have hb := HBC_1.out.trans ((grewDrew hx).mono HBC_1.out.size)
                  exact ⟨⟨(HB79.out x hb).2, (HALL.out x hb).1.1⟩, (HN9.out x hb (by first | rfl | trivial)).2, HNV.out.below (grewDrew hx)⟩
                clear hIN h9
                subst e9
                go_upto_region 23 with fail
                refine wp_region_grows 23 [EqN (.bool true), EqN (.bool true), EqN (.int .i64 0), EqN (.bool false), EqN (.bool false), EqN (.agg #[.bool lf, .slice ap9 np9 cp9]), (fun x v => NdV x v lf WV), EqN (.pointer (some ⟨gp2, 0, none⟩)), EqN (.bool lf), EqN (.slice aV LV cV), EqN (.agg #[.bool lf, .slice aV LV cV]), EqN (.bool true), EqN (.bool false), EqN (.bool false), EqN (.bool false), EqN (.bool false), EqN (.bool true), EqN (.bool false), EqN (.bool false), EqN (undef), EqN (undef), EqN (.bool false), EqN (.bool false)] (by kernel_rfl) (by decide) (by kernel_rfl) ?_ ?_ ?_
                · repeat' (first | exact List.forall_mem_nil _ | refine List.forall_mem_cons.2 ⟨?_, ?_⟩)
                  all_goals
                    intro w w' v hw h
                    first | exact h | exact NdV.grew hw h
                · simp only [AllLt]
                  refine ⟨⟨⟨⟨⟨⟨⟨⟨⟨⟨⟨⟨⟨⟨⟨⟨⟨⟨⟨⟨⟨⟨⟨trivial, ?_⟩, ?_⟩, ?_⟩, ?_⟩, ?_⟩, ?_⟩, ?_⟩, ?_⟩, ?_⟩, ?_⟩, ?_⟩, ?_⟩, ?_⟩, ?_⟩, ?_⟩, ?_⟩, ?_⟩, ?_⟩, ?_⟩, ?_⟩, ?_⟩, ?_⟩, ?_⟩
                  all_goals
                    intro o' ho
                    simp at ho
                    subst ho
                    intro ρ w5 hR hL hS hG
                    obtain ⟨hl1, hl2, -⟩ := hL
                  · refine plainG rfl ?_
                    intro bA K Q' hK
                    have e13 := hS 13 (by kernel_rfl)
                    change ρ (.tmp 13) = _ at e13
                    simp only [execOp]
                    go_simp
                    exact hK _ _ rfl (Grew.refl _)
                  · refine plainG rfl ?_
                    intro bA K Q' hK
                    have e113 := hG 0 113 (by decide) (by kernel_rfl) (by kernel_rfl)
                    change ρ (.tmp 113) = _ at e113
                    simp only [execOp]
                    go_simp
                    exact hK _ _ rfl (Grew.refl _)
                  · have eG : ρ (.tmp 114) = _ := hG 1 114 (by decide) (by kernel_rfl) (by kernel_rfl)
                    refine onG rfl (by kernel_rfl) eG ?_
                    intro bA K Q' hK
                    have e10 := hS 10 (by kernel_rfl)
                    change ρ (.tmp 10) = _ at e10
                    simp only [execOp]
                    go_simp
                    exact hK _ _ rfl (Grew.refl _)
                  · have eG : ρ (.tmp 114) = _ := hG 1 114 (by decide) (by kernel_rfl) (by kernel_rfl)
                    refine onG rfl (by kernel_rfl) eG ?_
                    intro bA K Q' hK
                    have e115 := hG 2 115 (by decide) (by kernel_rfl) (by kernel_rfl)
                    change ρ (.tmp 115) = _ at e115
                    simp only [execOp]
                    go_simp
                    exact hK _ _ rfl (Grew.refl _)
                  · have eG : ρ (.tmp 114) = _ := hG 1 114 (by decide) (by kernel_rfl) (by kernel_rfl)
                    refine onG rfl (by kernel_rfl) eG ?_
                    intro bA K Q' hK
                    have e116 := hG 3 116 (by decide) (by kernel_rfl) (by kernel_rfl)
                    change ρ (.tmp 116) = _ at e116
                    simp only [execOp]
                    go_simp
                    exact hK _ _ rfl (Grew.refl _)
                  · have eG : ρ (.tmp 117) = _ := hG 4 117 (by decide) (by kernel_rfl) (by kernel_rfl)
                    refine onG rfl (by kernel_rfl) eG ?_
                    intro bA K Q' hK
                    have e9 := hS 9 (by kernel_rfl)
                    change ρ (.tmp 9) = _ at e9
                    obtain ⟨⟨⟨y0, y1⟩, y2⟩, -, -⟩ := HCZ.out w5 hR
                    simp only [execOp]
                    go_simp
                    exact hK _ _ rfl (Grew.refl _)
                  · have eG : ρ (.tmp 117) = _ := hG 4 117 (by decide) (by kernel_rfl) (by kernel_rfl)
                    refine onG rfl (by kernel_rfl) eG ?_
                    intro bA K Q' hK
                    have e118 := hG 5 118 (by decide) (by kernel_rfl) (by kernel_rfl)
                    change ρ (.tmp 118) = _ at e118
                    simp only [execOp]
                    go_simp
                    refine (of_x lf (HCZ.out w5 hR).2.1).mono ?_
                    rintro r9 w9 ⟨⟨a9, n9, c9, rfl, h9⟩, hb9⟩
                    exact hK _ _ ⟨_, _, _, rfl, h9⟩ hb9
                  · have eG : ρ (.tmp 117) = _ := hG 4 117 (by decide) (by kernel_rfl) (by kernel_rfl)
                    refine onG rfl (by kernel_rfl) eG ?_
                    intro bA K Q' hK
                    have e6 := hS 6 (by kernel_rfl)
                    change ρ (.tmp 6) = _ at e6
                    simp only [execOp]
                    go_simp
                    exact hK _ _ rfl (Grew.refl _)
                  · have eG : ρ (.tmp 117) = _ := hG 4 117 (by decide) (by kernel_rfl) (by kernel_rfl)
                    refine onG rfl (by kernel_rfl) eG ?_
                    intro bA K Q' hK
                    have e120 := hG 7 120 (by decide) (by kernel_rfl) (by kernel_rfl)
                    change ρ (.tmp 120) = _ at e120
                    obtain ⟨⟨⟨y0, y1⟩, y2⟩, -, -⟩ := HCZ.out w5 hR
                    simp only [execOp]
                    go_simp
                    exact hK _ _ rfl (Grew.refl _)
                  · have eG : ρ (.tmp 117) = _ := hG 4 117 (by decide) (by kernel_rfl) (by kernel_rfl)
                    refine onG rfl (by kernel_rfl) eG ?_
                    intro bA K Q' hK
                    have e12 := hS 12 (by kernel_rfl)
                    change ρ (.tmp 12) = _ at e12
                    simp only [execOp]
                    go_simp
                    exact hK _ _ rfl (Grew.refl _)
                  · have eG : ρ (.tmp 117) = _ := hG 4 117 (by decide) (by kernel_rfl) (by kernel_rfl)
                    refine onG rfl (by kernel_rfl) eG ?_
                    intro bA K Q' hK
                    have e121 := hG 8 121 (by decide) (by kernel_rfl) (by kernel_rfl)
                    have e122 := hG 9 122 (by decide) (by kernel_rfl) (by kernel_rfl)
                    change ρ (.tmp 121) = _ at e121
                    change ρ (.tmp 122) = _ at e122
                    simp only [execOp]
                    go_simp
                    exact hK _ _ rfl (Grew.refl _)
                  · have eG : ρ (.tmp 117) = _ := hG 4 117 (by decide) (by kernel_rfl) (by kernel_rfl)
                    refine onG rfl (by kernel_rfl) eG ?_
                    intro bA K Q' hK
                    have e119 := hG 6 119 (by decide) (by kernel_rfl) (by kernel_rfl)
                    have e123 := hG 10 123 (by decide) (by kernel_rfl) (by kernel_rfl)
                    skip
                    change ρ (.tmp 123) = _ at e123
                    obtain ⟨a9, n9, c9, e119', h29⟩ := e119
                    change ρ (.tmp 119) = _ at e119'
                    simp only [execOp]
                    go_simp
                    refine (same_x lf h29 (HCZ.out w5 hR).2.2).mono ?_
                    rintro r9 w9 ⟨rfl, hb9⟩
                    exact hK _ _ rfl hb9
                  · have eG : ρ (.tmp 117) = _ := hG 4 117 (by decide) (by kernel_rfl) (by kernel_rfl)
                    refine onG rfl (by kernel_rfl) eG ?_
                    intro bA K Q' hK
                    have e124 := hG 11 124 (by decide) (by kernel_rfl) (by kernel_rfl)
                    change ρ (.tmp 124) = _ at e124
                    simp only [execOp]
                    go_simp
                    exact hK _ _ rfl (Grew.refl _)
                  · have eG : ρ (.tmp 114) = _ := hG 1 114 (by decide) (by kernel_rfl) (by kernel_rfl)
                    refine onG rfl (by kernel_rfl) eG ?_
                    intro bA K Q' hK
                    have e117 := hG 4 117 (by decide) (by kernel_rfl) (by kernel_rfl)
                    have e125 := hG 12 125 (by decide) (by kernel_rfl) (by kernel_rfl)
                    change ρ (.tmp 117) = _ at e117
                    change ρ (.tmp 125) = _ at e125
                    simp only [execOp]
                    go_simp
                    exact hK _ _ rfl (Grew.refl _)
                  · refine plainG rfl ?_
                    intro bA K Q' hK
                    have e114 := hG 1 114 (by decide) (by kernel_rfl) (by kernel_rfl)
                    have e126 := hG 13 126 (by decide) (by kernel_rfl) (by kernel_rfl)
                    change ρ (.tmp 114) = _ at e114
                    change ρ (.tmp 126) = _ at e126
                    simp only [execOp]
                    go_simp
                    exact hK _ _ rfl (Grew.refl _)
                  · refine plainG rfl ?_
                    intro bA K Q' hK
                    have e127 := hG 14 127 (by decide) (by kernel_rfl) (by kernel_rfl)
                    change ρ (.tmp 127) = _ at e127
                    simp only [execOp]
                    go_simp
                    exact hK _ _ rfl (Grew.refl _)
                  · have eG : ρ (.tmp 128) = _ := hG 15 128 (by decide) (by kernel_rfl) (by kernel_rfl)
                    refine onG rfl (by kernel_rfl) eG ?_
                    intro bA K Q' hK
                    have e13 := hS 13 (by kernel_rfl)
                    change ρ (.tmp 13) = _ at e13
                    simp only [execOp]
                    go_simp
                    exact hK _ _ rfl (Grew.refl _)
                  · have eG : ρ (.tmp 128) = _ := hG 15 128 (by decide) (by kernel_rfl) (by kernel_rfl)
                    refine onG rfl (by kernel_rfl) eG ?_
                    intro bA K Q' hK
                    have e129 := hG 16 129 (by decide) (by kernel_rfl) (by kernel_rfl)
                    change ρ (.tmp 129) = _ at e129
                    simp only [execOp]
                    go_simp
                    exact hK _ _ rfl (Grew.refl _)
                  · have eG : ρ (.tmp 128) = _ := hG 15 128 (by decide) (by kernel_rfl) (by kernel_rfl)
                    refine onG rfl (by kernel_rfl) eG ?_
                    intro bA K Q' hK
                    have e130 := hG 17 130 (by decide) (by kernel_rfl) (by kernel_rfl)
                    change ρ (.tmp 130) = _ at e130
                    simp only [execOp]
                    go_simp
                    exact hK _ _ rfl (Grew.refl _)
                  · have eG : ρ (.tmp 131) = _ := hG 18 131 (by decide) (by kernel_rfl) (by kernel_rfl)
                    exact offG rfl (by kernel_rfl) eG rfl rfl
                  · have eG : ρ (.tmp 131) = _ := hG 18 131 (by decide) (by kernel_rfl) (by kernel_rfl)
                    exact offG rfl (by kernel_rfl) eG rfl rfl
                  · have eG : ρ (.tmp 128) = _ := hG 15 128 (by decide) (by kernel_rfl) (by kernel_rfl)
                    refine onG rfl (by kernel_rfl) eG ?_
                    intro bA K Q' hK
                    have e131 := hG 18 131 (by decide) (by kernel_rfl) (by kernel_rfl)
                    have e133 := hG 20 133 (by decide) (by kernel_rfl) (by kernel_rfl)
                    change ρ (.tmp 131) = _ at e131
                    change ρ (.tmp 133) = _ at e133
                    simp only [execOp]
                    go_simp
                    exact hK _ _ rfl (Grew.refl _)
                  · refine plainG rfl ?_
                    intro bA K Q' hK
                    have e128 := hG 15 128 (by decide) (by kernel_rfl) (by kernel_rfl)
                    have e134 := hG 21 134 (by decide) (by kernel_rfl) (by kernel_rfl)
                    change ρ (.tmp 128) = _ at e128
                    change ρ (.tmp 134) = _ at e134
                    simp only [execOp]
                    go_simp
                    exact hK _ _ rfl (Grew.refl _)
                · skip
                  intro vv q8 hR hG
                  have h9 : vv 22 = .bool false := hG.2
                  have hb := grewDrew hR
                  clear hG hR HCZ HNV
                  have HBC_2 : Hid (Below w9.heap.size w9 q8) := hid (HBC_1.out.trans ((hb).mono HBC_1.out.size))
                  have HU_2 : Hid (q8.ownsRow B0 54 3 (nu1) LX (ecells WX)) := hid (ownBelow HU_1.out (hb))
                  have HV_2 : Hid (q8.ownsRow B0 54 3 (.slice aV LV cV) LV (ecells WV)) := hid (ownBelow HV_1.out (hb))
                  have HAP_2 := hid HAP_1.out
                  clear HBC_1 HU_1 HV_1 HAP_1
                  clear hb
                  simp [stG, stU, dstAt, Act.put, h9]
                  clear h9
                  obtain ⟨-, hk0, hk1, hk2⟩ := HALL.out q8 HBC_2.out
                  rcases (show Hid (okE ((s, z), p) = false) ∨ Hid (okE ((s, z), p) = true ∧ 16 < (insE xs ((s, z), p)).length) ∨ Hid (okE ((s, z), p) = true ∧ (insE xs ((s, z), p)).length ≤ 16) by
                    cases h : okE ((s, z), p)
                    · exact .inl (hid rfl)
                    · rcases Nat.lt_or_ge 16 (insE xs ((s, z), p)).length with h2 | h2
                      · exact .inr (.inl (hid ⟨rfl, h2⟩))
                      · exact .inr (.inr (hid ⟨rfl, h2⟩))) with ho | ho | ho
                  · have HRI : Hid (∀ y, Calls Try.prog 29 #[.agg #[.int .i64 s, .int .i64 z, .int .i64 p]] y fun e w' => e = .returned (.bool false) ∧ Below y.heap.size y w') := hid fun y => by
                      have h := refRight_any s z p y
                      rw [ho.out] at h
                      exact h
                    obtain rfl : F = 10 := by rw [HFF.out.1]; exact wi_bad HC.out ho.out
                    clear ho
                    go_wp2_with fail
                    refine (HRI.out _).mono ?_
                    rintro e q9 ⟨rfl, hb⟩
                    have HBC_3 : Hid (Below w9.heap.size w9 q9) := hid (HBC_2.out.trans ((hb).mono HBC_2.out.size))
                    have HU_3 : Hid (q9.ownsRow B0 54 3 (nu1) LX (ecells WX)) := hid (ownBelow HU_2.out (hb))
                    have HV_3 : Hid (q9.ownsRow B0 54 3 (.slice aV LV cV) LV (ecells WV)) := hid (ownBelow HV_2.out (hb))
                    have HAP_3 := hid HAP_2.out
                    clear HBC_2 HU_2 HV_2 HAP_2
                    clear hb hk0 hk1 hk2 HRI
                    go_wp2_with fail
                    refine (known_any HP.out _).mono ?_
                    rintro e q10 ⟨rfl, hb⟩
                    have HBC_4 : Hid (Below w9.heap.size w9 q10) := hid (HBC_3.out.trans ((hb).mono HBC_3.out.size))
                    have HU_4 : Hid (q10.ownsRow B0 54 3 (nu1) LX (ecells WX)) := hid (ownBelow HU_3.out (hb))
                    have HV_4 : Hid (q10.ownsRow B0 54 3 (.slice aV LV cV) LV (ecells WV)) := hid (ownBelow HV_3.out (hb))
                    have HAP_4 := hid HAP_3.out
                    clear HBC_3 HU_3 HV_3 HAP_3
                    clear hb
                    go_wp2_with fail
                    go_ret
                    exact ⟨rfl, HB_9.out.trans (HBC_4.out.mono HB_9.out.size)⟩
                  · have HRI : Hid (∀ y, Calls Try.prog 29 #[.agg #[.int .i64 s, .int .i64 z, .int .i64 p]] y fun e w' => e = .returned (.bool true) ∧ Below y.heap.size y w') := hid fun y => by
                      have h := refRight_any s z p y
                      rw [ho.out.1] at h
                      exact h
                    have hWI : WX = insE xs ((s, z), p) := by rw [HWX.out, HPEE.out, show placeW s z = plK (s, z) from placeW_ok (k := (s, z)) (okE_key (e := ((s, z), p)) ho.out.1)]; exact withX_is (e := ((s, z), p)) HFA.out
                    obtain ⟨aU, cU, eU, eL⟩ := owned_sl HU_2.out
                    rw [hWI] at eL
                    obtain rfl : F = 6 := by rw [HFF.out.1]; exact wi_full HC.out ho.out.1 ho.out.2
                    have h16 : (16 : Int) < LX := by have := ho.out.2; omega
                    have h162 : decide ((16 : Int) < LX) = true := decide_eq_true h16
                    have h163 : (16 < LX) = True := eq_true (by omega)
                    clear eL hWI
                    subst eU
                    clear ho
                    go_wp2_with fail
                    refine (HRI.out _).mono ?_
                    rintro e q9 ⟨rfl, hb⟩
                    have HBC_3 : Hid (Below w9.heap.size w9 q9) := hid (HBC_2.out.trans ((hb).mono HBC_2.out.size))
                    have HU_3 : Hid (q9.ownsRow B0 54 3 (.slice aU LX cU) LX (ecells WX)) := hid (ownBelow HU_2.out (hb))
                    have HV_3 : Hid (q9.ownsRow B0 54 3 (.slice aV LV cV) LV (ecells WV)) := hid (ownBelow HV_2.out (hb))
                    have HAP_3 := hid HAP_2.out
                    clear HBC_2 HU_2 HV_2 HAP_2
                    clear hb hk0 hk1 hk2 HRI
                    go_wp2_with fail
                    refine (known_any HP.out _).mono ?_
                    rintro e q10 ⟨rfl, hb⟩
                    have HBC_4 : Hid (Below w9.heap.size w9 q10) := hid (HBC_3.out.trans ((hb).mono HBC_3.out.size))
                    have HU_4 : Hid (q10.ownsRow B0 54 3 (.slice aU LX cU) LX (ecells WX)) := hid (ownBelow HU_3.out (hb))
                    have HV_4 : Hid (q10.ownsRow B0 54 3 (.slice aV LV cV) LV (ecells WV)) := hid (ownBelow HV_3.out (hb))
                    have HAP_4 := hid HAP_3.out
                    clear HBC_3 HU_3 HV_3 HAP_3
                    clear hb
                    go_wp2_with fail
                    go_ret
                    exact ⟨rfl, HB_9.out.trans (HBC_4.out.mono HB_9.out.size)⟩
                  · have HRI : Hid (∀ y, Calls Try.prog 29 #[.agg #[.int .i64 s, .int .i64 z, .int .i64 p]] y fun e w' => e = .returned (.bool true) ∧ Below y.heap.size y w') := hid fun y => by
                      have h := refRight_any s z p y
                      rw [ho.out.1] at h
                      exact h
                    have hWI : WX = insE xs ((s, z), p) := by rw [HWX.out, HPEE.out, show placeW s z = plK (s, z) from placeW_ok (k := (s, z)) (okE_key (e := ((s, z), p)) ho.out.1)]; exact withX_is (e := ((s, z), p)) HFA.out
                    obtain ⟨aU, cU, eU, eL⟩ := owned_sl HU_2.out
                    rw [hWI] at eL
                    obtain rfl : F = 0 := by rw [HFF.out.1]; exact wi_ok HC.out ho.out.1 ho.out.2
                    have h162 : decide ((16 : Int) < LX) = false := decide_eq_false (by have := ho.out.2; omega)
                    have h163 : (16 < LX) = False := eq_false (by have := ho.out.2; omega)
                    have HWI2 : Hid (WX = I) := hid (by rw [HFF.out.2.2.1]; exact hWI)
                    obtain ⟨aU2, cU2, eU2, h9⟩ := owned_nd HU_2.out (by have := HLX.out; omega) (by rw [hWI]; exact ins_fits HOK.out ho.out.1)
                    rw [eU] at eU2
                    cases eU2
                    have HNU := hid h9
                    clear eL hWI h9
                    subst eU
                    clear ho
                    go_wp2_with fail
                    refine (HRI.out _).mono ?_
                    rintro e q9 ⟨rfl, hb⟩
                    have HNU2 := hid (HNU.out.below hb)
                    clear HNU
                    have HBC_3 : Hid (Below w9.heap.size w9 q9) := hid (HBC_2.out.trans ((hb).mono HBC_2.out.size))
                    have HU_3 : Hid (q9.ownsRow B0 54 3 (.slice aU LX cU) LX (ecells WX)) := hid (ownBelow HU_2.out (hb))
                    have HV_3 : Hid (q9.ownsRow B0 54 3 (.slice aV LV cV) LV (ecells WV)) := hid (ownBelow HV_2.out (hb))
                    have HAP_3 := hid HAP_2.out
                    clear HBC_2 HU_2 HV_2 HAP_2
                    clear hb hk0 hk1 hk2 HRI
                    have h77 := (HN7.out w9 (Below.refl _ _) (by first | rfl | trivial)).1.symm
                    subst h77
                    have HCZ : Hid (∀ x, Grew q9.drew x → ((x.cell? ⟨gp7, 0, none⟩ = some (.bool lf) ∧ x.cell? ⟨gp7, 1, none⟩ = some (.slice ap7 np7 cp7)) ∧ x.cell? ⟨gp2, 0, none⟩ = some (.bool lf)) ∧ NdOk x ap7 np7 cp7 I ∧ NdOk x aU LX cU I) := hid fun x hx => by
                      have hb := HBC_3.out.trans ((grewDrew hx).mono HBC_3.out.size)
                      exact ⟨⟨(HB79.out x hb).1, (HALL.out x hb).1.1⟩, (HN7.out x hb (by first | rfl | trivial)).2, by rw [← HWI2.out]; exact HNU2.out.below (grewDrew hx)⟩
                    go_upto_region 29 with fail
                    refine wp_region_grows 15 [EqN (.bool true), EqN (.bool true), EqN (.int .i64 0), EqN (.bool true), EqN (.bool true), EqN (.bool true), EqN (.agg #[.bool lf, .slice ap7 np7 cp7]), (fun x v => NdV x v lf I), EqN (.pointer (some ⟨gp2, 0, none⟩)), EqN (.bool lf), EqN (.slice aU LX cU), EqN (.agg #[.bool lf, .slice aU LX cU]), EqN (.bool true), EqN (.bool true), EqN (.bool true)] (by kernel_rfl) (by decide) (by kernel_rfl) ?_ ?_ ?_
                    · repeat' (first | exact List.forall_mem_nil _ | refine List.forall_mem_cons.2 ⟨?_, ?_⟩)
                      all_goals
                        intro w w' v hw h
                        first | exact h | exact NdV.grew hw h
                    · simp only [AllLt]
                      refine ⟨⟨⟨⟨⟨⟨⟨⟨⟨⟨⟨⟨⟨⟨⟨trivial, ?_⟩, ?_⟩, ?_⟩, ?_⟩, ?_⟩, ?_⟩, ?_⟩, ?_⟩, ?_⟩, ?_⟩, ?_⟩, ?_⟩, ?_⟩, ?_⟩, ?_⟩
                      all_goals
                        intro o' ho
                        simp at ho
                        subst ho
                        intro ρ w5 hR hL hS hG
                        obtain ⟨hl1, hl2, -⟩ := hL
                      · refine plainG rfl ?_
                        intro bA K Q' hK
                        simp only [execOp]
                        go_simp
                        refine (known_any HP.out w5).mono ?_
                        rintro r9 w9 ⟨rfl, hb9⟩
                        exact hK _ _ rfl hb9
                      · refine plainG rfl ?_
                        intro bA K Q' hK
                        have e152 := hG 0 152 (by decide) (by kernel_rfl) (by kernel_rfl)
                        change ρ (.tmp 152) = _ at e152
                        simp only [execOp]
                        go_simp
                        exact hK _ _ rfl (Grew.refl _)
                      · have eG : ρ (.tmp 153) = _ := hG 1 153 (by decide) (by kernel_rfl) (by kernel_rfl)
                        refine onG rfl (by kernel_rfl) eG ?_
                        intro bA K Q' hK
                        have e8 := hS 8 (by kernel_rfl)
                        change ρ (.tmp 8) = _ at e8
                        simp only [execOp]
                        go_simp
                        exact hK _ _ rfl (Grew.refl _)
                      · have eG : ρ (.tmp 153) = _ := hG 1 153 (by decide) (by kernel_rfl) (by kernel_rfl)
                        refine onG rfl (by kernel_rfl) eG ?_
                        intro bA K Q' hK
                        have e154 := hG 2 154 (by decide) (by kernel_rfl) (by kernel_rfl)
                        change ρ (.tmp 154) = _ at e154
                        simp only [execOp]
                        go_simp
                        exact hK _ _ rfl (Grew.refl _)
                      · refine plainG rfl ?_
                        intro bA K Q' hK
                        have e153 := hG 1 153 (by decide) (by kernel_rfl) (by kernel_rfl)
                        have e155 := hG 3 155 (by decide) (by kernel_rfl) (by kernel_rfl)
                        change ρ (.tmp 153) = _ at e153
                        change ρ (.tmp 155) = _ at e155
                        simp only [execOp]
                        go_simp
                        exact hK _ _ rfl (Grew.refl _)
                      · refine plainG rfl ?_
                        intro bA K Q' hK
                        have e156 := hG 4 156 (by decide) (by kernel_rfl) (by kernel_rfl)
                        change ρ (.tmp 156) = _ at e156
                        simp only [execOp]
                        go_simp
                        exact hK _ _ rfl (Grew.refl _)
                      · have eG : ρ (.tmp 157) = _ := hG 5 157 (by decide) (by kernel_rfl) (by kernel_rfl)
                        refine onG rfl (by kernel_rfl) eG ?_
                        intro bA K Q' hK
                        have e7 := hS 7 (by kernel_rfl)
                        change ρ (.tmp 7) = _ at e7
                        obtain ⟨⟨⟨y0, y1⟩, y2⟩, -, -⟩ := HCZ.out w5 hR
                        simp only [execOp]
                        go_simp
                        exact hK _ _ rfl (Grew.refl _)
                      · have eG : ρ (.tmp 157) = _ := hG 5 157 (by decide) (by kernel_rfl) (by kernel_rfl)
                        refine onG rfl (by kernel_rfl) eG ?_
                        intro bA K Q' hK
                        have e158 := hG 6 158 (by decide) (by kernel_rfl) (by kernel_rfl)
                        change ρ (.tmp 158) = _ at e158
                        simp only [execOp]
                        go_simp
                        refine (of_x lf (HCZ.out w5 hR).2.1).mono ?_
                        rintro r9 w9 ⟨⟨a9, n9, c9, rfl, h9⟩, hb9⟩
                        exact hK _ _ ⟨_, _, _, rfl, h9⟩ hb9
                      · have eG : ρ (.tmp 157) = _ := hG 5 157 (by decide) (by kernel_rfl) (by kernel_rfl)
                        refine onG rfl (by kernel_rfl) eG ?_
                        intro bA K Q' hK
                        have e6 := hS 6 (by kernel_rfl)
                        change ρ (.tmp 6) = _ at e6
                        simp only [execOp]
                        go_simp
                        exact hK _ _ rfl (Grew.refl _)
                      · have eG : ρ (.tmp 157) = _ := hG 5 157 (by decide) (by kernel_rfl) (by kernel_rfl)
                        refine onG rfl (by kernel_rfl) eG ?_
                        intro bA K Q' hK
                        have e160 := hG 8 160 (by decide) (by kernel_rfl) (by kernel_rfl)
                        change ρ (.tmp 160) = _ at e160
                        obtain ⟨⟨⟨y0, y1⟩, y2⟩, -, -⟩ := HCZ.out w5 hR
                        simp only [execOp]
                        go_simp
                        exact hK _ _ rfl (Grew.refl _)
                      · have eG : ρ (.tmp 157) = _ := hG 5 157 (by decide) (by kernel_rfl) (by kernel_rfl)
                        refine onG rfl (by kernel_rfl) eG ?_
                        intro bA K Q' hK
                        have e11 := hS 11 (by kernel_rfl)
                        change ρ (.tmp 11) = _ at e11
                        simp only [execOp]
                        go_simp
                        exact hK _ _ rfl (Grew.refl _)
                      · have eG : ρ (.tmp 157) = _ := hG 5 157 (by decide) (by kernel_rfl) (by kernel_rfl)
                        refine onG rfl (by kernel_rfl) eG ?_
                        intro bA K Q' hK
                        have e161 := hG 9 161 (by decide) (by kernel_rfl) (by kernel_rfl)
                        have e162 := hG 10 162 (by decide) (by kernel_rfl) (by kernel_rfl)
                        change ρ (.tmp 161) = _ at e161
                        change ρ (.tmp 162) = _ at e162
                        simp only [execOp]
                        go_simp
                        exact hK _ _ rfl (Grew.refl _)
                      · have eG : ρ (.tmp 157) = _ := hG 5 157 (by decide) (by kernel_rfl) (by kernel_rfl)
                        refine onG rfl (by kernel_rfl) eG ?_
                        intro bA K Q' hK
                        have e159 := hG 7 159 (by decide) (by kernel_rfl) (by kernel_rfl)
                        have e163 := hG 11 163 (by decide) (by kernel_rfl) (by kernel_rfl)
                        skip
                        change ρ (.tmp 163) = _ at e163
                        obtain ⟨a9, n9, c9, e159', h29⟩ := e159
                        change ρ (.tmp 159) = _ at e159'
                        simp only [execOp]
                        go_simp
                        refine (same_x lf h29 (HCZ.out w5 hR).2.2).mono ?_
                        rintro r9 w9 ⟨rfl, hb9⟩
                        exact hK _ _ rfl hb9
                      · refine plainG rfl ?_
                        intro bA K Q' hK
                        have e157 := hG 5 157 (by decide) (by kernel_rfl) (by kernel_rfl)
                        have e164 := hG 12 164 (by decide) (by kernel_rfl) (by kernel_rfl)
                        change ρ (.tmp 157) = _ at e157
                        change ρ (.tmp 164) = _ at e164
                        simp only [execOp]
                        go_simp
                        exact hK _ _ rfl (Grew.refl _)
                      · refine plainG rfl ?_
                        intro bA K Q' hK
                        have e165 := hG 13 165 (by decide) (by kernel_rfl) (by kernel_rfl)
                        change ρ (.tmp 165) = _ at e165
                        simp only [execOp]
                        go_simp
                        exact hK _ _ rfl (Grew.refl _)
                    · skip
                      intro vv q10 hR hG
                      have h9 : vv 14 = .bool true := hG.2
                      have hb := grewDrew hR
                      clear hG hR HCZ
                      have HBC_4 : Hid (Below w9.heap.size w9 q10) := hid (HBC_3.out.trans ((hb).mono HBC_3.out.size))
                      have HU_4 : Hid (q10.ownsRow B0 54 3 (.slice aU LX cU) LX (ecells WX)) := hid (ownBelow HU_3.out (hb))
                      have HV_4 : Hid (q10.ownsRow B0 54 3 (.slice aV LV cV) LV (ecells WV)) := hid (ownBelow HV_3.out (hb))
                      have HAP_4 := hid HAP_3.out
                      clear HBC_3 HU_3 HV_3 HAP_3
                      clear hb
                      simp [stG, stU, dstAt, Act.put, h9]
                      clear h9
                      go_wp2_with fail
                      go_ret
                      exact ⟨rfl, HB_9.out.trans (HBC_4.out.mono HB_9.out.size)⟩
            · have HWX : Hid (WU = withX xs ((s, z), p) pe) := hid (by unfold withX; rw [← HKN.out, ← HST.out.2.1, if_pos rfl]; exact HST.out.1)
              have HLX : Hid (LU ≤ 21) := hid (by have := HLB.out; omega)
              clear hk0 hk1 hk2
              cases IS
              · have hIN : inK xs (s, z) = false := HIS.out.symm
                obtain rfl : Fo = 7 := by rw [HFF.out.2.1]; exact wo_out HC.out hIN
                clear hIN
                go_upto_region 23 with fail
                clear hcu2
                refine wp_region_grows 23 [EqN (.bool false), EqN (.bool false), EqN (undef), EqN (undef), EqN (undef), EqN (undef), EqN (undef), EqN (undef), EqN (undef), EqN (undef), EqN (undef), EqN (undef), EqN (undef), EqN (undef), EqN (.bool false), EqN (.bool false), EqN (.bool false), EqN (.bool true), EqN (.bool true), EqN (.int .i64 7), EqN (.bool false), EqN (.bool false), EqN (.bool false)] (by kernel_rfl) (by decide) (by kernel_rfl) ?_ ?_ ?_
                · repeat' (first | exact List.forall_mem_nil _ | refine List.forall_mem_cons.2 ⟨?_, ?_⟩)
                  all_goals
                    intro w w' v hw h
                    first | exact h | exact NdV.grew hw h
                · simp only [AllLt]
                  refine ⟨⟨⟨⟨⟨⟨⟨⟨⟨⟨⟨⟨⟨⟨⟨⟨⟨⟨⟨⟨⟨⟨⟨trivial, ?_⟩, ?_⟩, ?_⟩, ?_⟩, ?_⟩, ?_⟩, ?_⟩, ?_⟩, ?_⟩, ?_⟩, ?_⟩, ?_⟩, ?_⟩, ?_⟩, ?_⟩, ?_⟩, ?_⟩, ?_⟩, ?_⟩, ?_⟩, ?_⟩, ?_⟩, ?_⟩
                  all_goals
                    intro o' ho
                    simp at ho
                    subst ho
                    intro ρ w5 hR hL hS hG
                    obtain ⟨hl1, hl2, -⟩ := hL
                  · refine plainG rfl ?_
                    intro bA K Q' hK
                    have e13 := hS 13 (by kernel_rfl)
                    change ρ (.tmp 13) = _ at e13
                    simp only [execOp]
                    go_simp
                    exact hK _ _ rfl (Grew.refl _)
                  · refine plainG rfl ?_
                    intro bA K Q' hK
                    have e113 := hG 0 113 (by decide) (by kernel_rfl) (by kernel_rfl)
                    change ρ (.tmp 113) = _ at e113
                    simp only [execOp]
                    go_simp
                    exact hK _ _ rfl (Grew.refl _)
                  · have eG : ρ (.tmp 114) = _ := hG 1 114 (by decide) (by kernel_rfl) (by kernel_rfl)
                    exact offG rfl (by kernel_rfl) eG rfl rfl
                  · have eG : ρ (.tmp 114) = _ := hG 1 114 (by decide) (by kernel_rfl) (by kernel_rfl)
                    exact offG rfl (by kernel_rfl) eG rfl rfl
                  · have eG : ρ (.tmp 114) = _ := hG 1 114 (by decide) (by kernel_rfl) (by kernel_rfl)
                    exact offG rfl (by kernel_rfl) eG rfl rfl
                  · have eG : ρ (.tmp 117) = _ := hG 4 117 (by decide) (by kernel_rfl) (by kernel_rfl)
                    exact offU rfl (by kernel_rfl) eG rfl
                  · have eG : ρ (.tmp 117) = _ := hG 4 117 (by decide) (by kernel_rfl) (by kernel_rfl)
                    exact offU rfl (by kernel_rfl) eG rfl
                  · have eG : ρ (.tmp 117) = _ := hG 4 117 (by decide) (by kernel_rfl) (by kernel_rfl)
                    exact offU rfl (by kernel_rfl) eG rfl
                  · have eG : ρ (.tmp 117) = _ := hG 4 117 (by decide) (by kernel_rfl) (by kernel_rfl)
                    exact offU rfl (by kernel_rfl) eG rfl
                  · have eG : ρ (.tmp 117) = _ := hG 4 117 (by decide) (by kernel_rfl) (by kernel_rfl)
                    exact offU rfl (by kernel_rfl) eG rfl
                  · have eG : ρ (.tmp 117) = _ := hG 4 117 (by decide) (by kernel_rfl) (by kernel_rfl)
                    exact offU rfl (by kernel_rfl) eG rfl
                  · have eG : ρ (.tmp 117) = _ := hG 4 117 (by decide) (by kernel_rfl) (by kernel_rfl)
                    exact offU rfl (by kernel_rfl) eG rfl
                  · have eG : ρ (.tmp 117) = _ := hG 4 117 (by decide) (by kernel_rfl) (by kernel_rfl)
                    exact offU rfl (by kernel_rfl) eG rfl
                  · have eG : ρ (.tmp 114) = _ := hG 1 114 (by decide) (by kernel_rfl) (by kernel_rfl)
                    exact offG rfl (by kernel_rfl) eG rfl rfl
                  · refine plainG rfl ?_
                    intro bA K Q' hK
                    have e114 := hG 1 114 (by decide) (by kernel_rfl) (by kernel_rfl)
                    have e126 := hG 13 126 (by decide) (by kernel_rfl) (by kernel_rfl)
                    change ρ (.tmp 114) = _ at e114
                    change ρ (.tmp 126) = _ at e126
                    simp only [execOp]
                    go_simp
                    exact hK _ _ rfl (Grew.refl _)
                  · refine plainG rfl ?_
                    intro bA K Q' hK
                    have e127 := hG 14 127 (by decide) (by kernel_rfl) (by kernel_rfl)
                    change ρ (.tmp 127) = _ at e127
                    simp only [execOp]
                    go_simp
                    exact hK _ _ rfl (Grew.refl _)
                  · have eG : ρ (.tmp 128) = _ := hG 15 128 (by decide) (by kernel_rfl) (by kernel_rfl)
                    refine onG rfl (by kernel_rfl) eG ?_
                    intro bA K Q' hK
                    have e13 := hS 13 (by kernel_rfl)
                    change ρ (.tmp 13) = _ at e13
                    simp only [execOp]
                    go_simp
                    exact hK _ _ rfl (Grew.refl _)
                  · have eG : ρ (.tmp 128) = _ := hG 15 128 (by decide) (by kernel_rfl) (by kernel_rfl)
                    refine onG rfl (by kernel_rfl) eG ?_
                    intro bA K Q' hK
                    have e129 := hG 16 129 (by decide) (by kernel_rfl) (by kernel_rfl)
                    change ρ (.tmp 129) = _ at e129
                    simp only [execOp]
                    go_simp
                    exact hK _ _ rfl (Grew.refl _)
                  · have eG : ρ (.tmp 128) = _ := hG 15 128 (by decide) (by kernel_rfl) (by kernel_rfl)
                    refine onG rfl (by kernel_rfl) eG ?_
                    intro bA K Q' hK
                    have e130 := hG 17 130 (by decide) (by kernel_rfl) (by kernel_rfl)
                    change ρ (.tmp 130) = _ at e130
                    simp only [execOp]
                    go_simp
                    exact hK _ _ rfl (Grew.refl _)
                  · have eG : ρ (.tmp 131) = _ := hG 18 131 (by decide) (by kernel_rfl) (by kernel_rfl)
                    refine onG rfl (by kernel_rfl) eG ?_
                    intro bA K Q' hK
                    have e10 := hS 10 (by kernel_rfl)
                    change ρ (.tmp 10) = _ at e10
                    simp only [execOp]
                    go_simp
                    exact hK _ _ rfl (Grew.refl _)
                  · have eG : ρ (.tmp 131) = _ := hG 18 131 (by decide) (by kernel_rfl) (by kernel_rfl)
                    refine onG rfl (by kernel_rfl) eG ?_
                    intro bA K Q' hK
                    have e132 := hG 19 132 (by decide) (by kernel_rfl) (by kernel_rfl)
                    change ρ (.tmp 132) = _ at e132
                    simp only [execOp]
                    go_simp
                    exact hK _ _ rfl (Grew.refl _)
                  · have eG : ρ (.tmp 128) = _ := hG 15 128 (by decide) (by kernel_rfl) (by kernel_rfl)
                    refine onG rfl (by kernel_rfl) eG ?_
                    intro bA K Q' hK
                    have e131 := hG 18 131 (by decide) (by kernel_rfl) (by kernel_rfl)
                    have e133 := hG 20 133 (by decide) (by kernel_rfl) (by kernel_rfl)
                    change ρ (.tmp 131) = _ at e131
                    change ρ (.tmp 133) = _ at e133
                    simp only [execOp]
                    go_simp
                    exact hK _ _ rfl (Grew.refl _)
                  · refine plainG rfl ?_
                    intro bA K Q' hK
                    have e128 := hG 15 128 (by decide) (by kernel_rfl) (by kernel_rfl)
                    have e134 := hG 21 134 (by decide) (by kernel_rfl) (by kernel_rfl)
                    change ρ (.tmp 128) = _ at e128
                    change ρ (.tmp 134) = _ at e134
                    simp only [execOp]
                    go_simp
                    exact hK _ _ rfl (Grew.refl _)
                · skip
                  intro vv q8 hR hG
                  have h9 : vv 22 = .bool false := hG.2
                  have hb := grewDrew hR
                  clear hG hR
                  have HBC_1 : Hid (Below w9.heap.size w9 q8) := hid (HBC.out.trans ((hb).mono HBC.out.size))
                  have HU_1 : Hid (q8.ownsRow B0 54 3 (u11) LU (ecells WU)) := hid (ownBelow HU.out (hb))
                  have HV_1 : Hid (q8.ownsRow B0 54 3 (u12) LV (ecells WV)) := hid (ownBelow HV.out (hb))
                  have HAP_1 := hid HAP.out
                  clear HBC HU HV HAP
                  clear hb
                  simp [stG, stU, dstAt, Act.put, h9]
                  clear h9
                  obtain ⟨-, hk0, hk1, hk2⟩ := HALL.out q8 HBC_1.out
                  rcases (show Hid (okE ((s, z), p) = false) ∨ Hid (okE ((s, z), p) = true ∧ 16 < (insE xs ((s, z), p)).length) ∨ Hid (okE ((s, z), p) = true ∧ (insE xs ((s, z), p)).length ≤ 16) by
                    cases h : okE ((s, z), p)
                    · exact .inl (hid rfl)
                    · rcases Nat.lt_or_ge 16 (insE xs ((s, z), p)).length with h2 | h2
                      · exact .inr (.inl (hid ⟨rfl, h2⟩))
                      · exact .inr (.inr (hid ⟨rfl, h2⟩))) with ho | ho | ho
                  · have HRI : Hid (∀ y, Calls Try.prog 29 #[.agg #[.int .i64 s, .int .i64 z, .int .i64 p]] y fun e w' => e = .returned (.bool false) ∧ Below y.heap.size y w') := hid fun y => by
                      have h := refRight_any s z p y
                      rw [ho.out] at h
                      exact h
                    obtain rfl : F = 10 := by rw [HFF.out.1]; exact wi_bad HC.out ho.out
                    clear ho
                    go_wp2_with fail
                    refine (HRI.out _).mono ?_
                    rintro e q9 ⟨rfl, hb⟩
                    have HBC_2 : Hid (Below w9.heap.size w9 q9) := hid (HBC_1.out.trans ((hb).mono HBC_1.out.size))
                    have HU_2 : Hid (q9.ownsRow B0 54 3 (u11) LU (ecells WU)) := hid (ownBelow HU_1.out (hb))
                    have HV_2 : Hid (q9.ownsRow B0 54 3 (u12) LV (ecells WV)) := hid (ownBelow HV_1.out (hb))
                    have HAP_2 := hid HAP_1.out
                    clear HBC_1 HU_1 HV_1 HAP_1
                    clear hb hk0 hk1 hk2 HRI
                    go_wp2_with fail
                    refine (known_any HP.out _).mono ?_
                    rintro e q10 ⟨rfl, hb⟩
                    have HBC_3 : Hid (Below w9.heap.size w9 q10) := hid (HBC_2.out.trans ((hb).mono HBC_2.out.size))
                    have HU_3 : Hid (q10.ownsRow B0 54 3 (u11) LU (ecells WU)) := hid (ownBelow HU_2.out (hb))
                    have HV_3 : Hid (q10.ownsRow B0 54 3 (u12) LV (ecells WV)) := hid (ownBelow HV_2.out (hb))
                    have HAP_3 := hid HAP_2.out
                    clear HBC_2 HU_2 HV_2 HAP_2
                    clear hb
                    go_wp2_with fail
                    go_ret
                    exact ⟨rfl, HB_9.out.trans (HBC_3.out.mono HB_9.out.size)⟩
                  · have HRI : Hid (∀ y, Calls Try.prog 29 #[.agg #[.int .i64 s, .int .i64 z, .int .i64 p]] y fun e w' => e = .returned (.bool true) ∧ Below y.heap.size y w') := hid fun y => by
                      have h := refRight_any s z p y
                      rw [ho.out.1] at h
                      exact h
                    have hWI : WU = insE xs ((s, z), p) := by rw [HWX.out, HPEE.out, show placeW s z = plK (s, z) from placeW_ok (k := (s, z)) (okE_key (e := ((s, z), p)) ho.out.1)]; exact withX_is (e := ((s, z), p)) HFA.out
                    obtain ⟨aU, cU, eU, eL⟩ := owned_sl HU_1.out
                    rw [hWI] at eL
                    obtain rfl : F = 6 := by rw [HFF.out.1]; exact wi_full HC.out ho.out.1 ho.out.2
                    have h16 : (16 : Int) < LU := by have := ho.out.2; omega
                    have h162 : decide ((16 : Int) < LU) = true := decide_eq_true h16
                    have h163 : (16 < LU) = True := eq_true (by omega)
                    clear eL hWI
                    subst eU
                    clear ho
                    go_wp2_with fail
                    refine (HRI.out _).mono ?_
                    rintro e q9 ⟨rfl, hb⟩
                    have HBC_2 : Hid (Below w9.heap.size w9 q9) := hid (HBC_1.out.trans ((hb).mono HBC_1.out.size))
                    have HU_2 : Hid (q9.ownsRow B0 54 3 (.slice aU LU cU) LU (ecells WU)) := hid (ownBelow HU_1.out (hb))
                    have HV_2 : Hid (q9.ownsRow B0 54 3 (u12) LV (ecells WV)) := hid (ownBelow HV_1.out (hb))
                    have HAP_2 := hid HAP_1.out
                    clear HBC_1 HU_1 HV_1 HAP_1
                    clear hb hk0 hk1 hk2 HRI
                    go_wp2_with fail
                    refine (known_any HP.out _).mono ?_
                    rintro e q10 ⟨rfl, hb⟩
                    have HBC_3 : Hid (Below w9.heap.size w9 q10) := hid (HBC_2.out.trans ((hb).mono HBC_2.out.size))
                    have HU_3 : Hid (q10.ownsRow B0 54 3 (.slice aU LU cU) LU (ecells WU)) := hid (ownBelow HU_2.out (hb))
                    have HV_3 : Hid (q10.ownsRow B0 54 3 (u12) LV (ecells WV)) := hid (ownBelow HV_2.out (hb))
                    have HAP_3 := hid HAP_2.out
                    clear HBC_2 HU_2 HV_2 HAP_2
                    clear hb
                    go_wp2_with fail
                    go_ret
                    exact ⟨rfl, HB_9.out.trans (HBC_3.out.mono HB_9.out.size)⟩
                  · have HRI : Hid (∀ y, Calls Try.prog 29 #[.agg #[.int .i64 s, .int .i64 z, .int .i64 p]] y fun e w' => e = .returned (.bool true) ∧ Below y.heap.size y w') := hid fun y => by
                      have h := refRight_any s z p y
                      rw [ho.out.1] at h
                      exact h
                    have hWI : WU = insE xs ((s, z), p) := by rw [HWX.out, HPEE.out, show placeW s z = plK (s, z) from placeW_ok (k := (s, z)) (okE_key (e := ((s, z), p)) ho.out.1)]; exact withX_is (e := ((s, z), p)) HFA.out
                    obtain ⟨aU, cU, eU, eL⟩ := owned_sl HU_1.out
                    rw [hWI] at eL
                    obtain rfl : F = 0 := by rw [HFF.out.1]; exact wi_ok HC.out ho.out.1 ho.out.2
                    have h162 : decide ((16 : Int) < LU) = false := decide_eq_false (by have := ho.out.2; omega)
                    have h163 : (16 < LU) = False := eq_false (by have := ho.out.2; omega)
                    have HWI2 : Hid (WU = I) := hid (by rw [HFF.out.2.2.1]; exact hWI)
                    obtain ⟨aU2, cU2, eU2, h9⟩ := owned_nd HU_1.out (by have := HLX.out; omega) (by rw [hWI]; exact ins_fits HOK.out ho.out.1)
                    rw [eU] at eU2
                    cases eU2
                    have HNU := hid h9
                    clear eL hWI h9
                    subst eU
                    clear ho
                    go_wp2_with fail
                    refine (HRI.out _).mono ?_
                    rintro e q9 ⟨rfl, hb⟩
                    have HNU2 := hid (HNU.out.below hb)
                    clear HNU
                    have HBC_2 : Hid (Below w9.heap.size w9 q9) := hid (HBC_1.out.trans ((hb).mono HBC_1.out.size))
                    have HU_2 : Hid (q9.ownsRow B0 54 3 (.slice aU LU cU) LU (ecells WU)) := hid (ownBelow HU_1.out (hb))
                    have HV_2 : Hid (q9.ownsRow B0 54 3 (u12) LV (ecells WV)) := hid (ownBelow HV_1.out (hb))
                    have HAP_2 := hid HAP_1.out
                    clear HBC_1 HU_1 HV_1 HAP_1
                    clear hb hk0 hk1 hk2 HRI
                    have h77 := (HN7.out w9 (Below.refl _ _) (by first | rfl | trivial)).1.symm
                    subst h77
                    have HCZ : Hid (∀ x, Grew q9.drew x → ((x.cell? ⟨gp7, 0, none⟩ = some (.bool lf) ∧ x.cell? ⟨gp7, 1, none⟩ = some (.slice ap7 np7 cp7)) ∧ x.cell? ⟨gp2, 0, none⟩ = some (.bool lf)) ∧ NdOk x ap7 np7 cp7 I ∧ NdOk x aU LU cU I) := hid fun x hx => by
                      have hb := HBC_2.out.trans ((grewDrew hx).mono HBC_2.out.size)
                      exact ⟨⟨(HB79.out x hb).1, (HALL.out x hb).1.1⟩, (HN7.out x hb (by first | rfl | trivial)).2, by rw [← HWI2.out]; exact HNU2.out.below (grewDrew hx)⟩
                    go_upto_region 29 with fail
                    refine wp_region_grows 15 [EqN (.bool true), EqN (.bool true), EqN (.int .i64 0), EqN (.bool true), EqN (.bool true), EqN (.bool true), EqN (.agg #[.bool lf, .slice ap7 np7 cp7]), (fun x v => NdV x v lf I), EqN (.pointer (some ⟨gp2, 0, none⟩)), EqN (.bool lf), EqN (.slice aU LU cU), EqN (.agg #[.bool lf, .slice aU LU cU]), EqN (.bool true), EqN (.bool true), EqN (.bool true)] (by kernel_rfl) (by decide) (by kernel_rfl) ?_ ?_ ?_
                    · repeat' (first | exact List.forall_mem_nil _ | refine List.forall_mem_cons.2 ⟨?_, ?_⟩)
                      all_goals
                        intro w w' v hw h
                        first | exact h | exact NdV.grew hw h
                    · simp only [AllLt]
                      refine ⟨⟨⟨⟨⟨⟨⟨⟨⟨⟨⟨⟨⟨⟨⟨trivial, ?_⟩, ?_⟩, ?_⟩, ?_⟩, ?_⟩, ?_⟩, ?_⟩, ?_⟩, ?_⟩, ?_⟩, ?_⟩, ?_⟩, ?_⟩, ?_⟩, ?_⟩
                      all_goals
                        intro o' ho
                        simp at ho
                        subst ho
                        intro ρ w5 hR hL hS hG
                        obtain ⟨hl1, hl2, -⟩ := hL
                      · refine plainG rfl ?_
                        intro bA K Q' hK
                        simp only [execOp]
                        go_simp
                        refine (known_any HP.out w5).mono ?_
                        rintro r9 w9 ⟨rfl, hb9⟩
                        exact hK _ _ rfl hb9
                      · refine plainG rfl ?_
                        intro bA K Q' hK
                        have e152 := hG 0 152 (by decide) (by kernel_rfl) (by kernel_rfl)
                        change ρ (.tmp 152) = _ at e152
                        simp only [execOp]
                        go_simp
                        exact hK _ _ rfl (Grew.refl _)
                      · have eG : ρ (.tmp 153) = _ := hG 1 153 (by decide) (by kernel_rfl) (by kernel_rfl)
                        refine onG rfl (by kernel_rfl) eG ?_
                        intro bA K Q' hK
                        have e8 := hS 8 (by kernel_rfl)
                        change ρ (.tmp 8) = _ at e8
                        simp only [execOp]
                        go_simp
                        exact hK _ _ rfl (Grew.refl _)
                      · have eG : ρ (.tmp 153) = _ := hG 1 153 (by decide) (by kernel_rfl) (by kernel_rfl)
                        refine onG rfl (by kernel_rfl) eG ?_
                        intro bA K Q' hK
                        have e154 := hG 2 154 (by decide) (by kernel_rfl) (by kernel_rfl)
                        change ρ (.tmp 154) = _ at e154
                        simp only [execOp]
                        go_simp
                        exact hK _ _ rfl (Grew.refl _)
                      · refine plainG rfl ?_
                        intro bA K Q' hK
                        have e153 := hG 1 153 (by decide) (by kernel_rfl) (by kernel_rfl)
                        have e155 := hG 3 155 (by decide) (by kernel_rfl) (by kernel_rfl)
                        change ρ (.tmp 153) = _ at e153
                        change ρ (.tmp 155) = _ at e155
                        simp only [execOp]
                        go_simp
                        exact hK _ _ rfl (Grew.refl _)
                      · refine plainG rfl ?_
                        intro bA K Q' hK
                        have e156 := hG 4 156 (by decide) (by kernel_rfl) (by kernel_rfl)
                        change ρ (.tmp 156) = _ at e156
                        simp only [execOp]
                        go_simp
                        exact hK _ _ rfl (Grew.refl _)
                      · have eG : ρ (.tmp 157) = _ := hG 5 157 (by decide) (by kernel_rfl) (by kernel_rfl)
                        refine onG rfl (by kernel_rfl) eG ?_
                        intro bA K Q' hK
                        have e7 := hS 7 (by kernel_rfl)
                        change ρ (.tmp 7) = _ at e7
                        obtain ⟨⟨⟨y0, y1⟩, y2⟩, -, -⟩ := HCZ.out w5 hR
                        simp only [execOp]
                        go_simp
                        exact hK _ _ rfl (Grew.refl _)
                      · have eG : ρ (.tmp 157) = _ := hG 5 157 (by decide) (by kernel_rfl) (by kernel_rfl)
                        refine onG rfl (by kernel_rfl) eG ?_
                        intro bA K Q' hK
                        have e158 := hG 6 158 (by decide) (by kernel_rfl) (by kernel_rfl)
                        change ρ (.tmp 158) = _ at e158
                        simp only [execOp]
                        go_simp
                        refine (of_x lf (HCZ.out w5 hR).2.1).mono ?_
                        rintro r9 w9 ⟨⟨a9, n9, c9, rfl, h9⟩, hb9⟩
                        exact hK _ _ ⟨_, _, _, rfl, h9⟩ hb9
                      · have eG : ρ (.tmp 157) = _ := hG 5 157 (by decide) (by kernel_rfl) (by kernel_rfl)
                        refine onG rfl (by kernel_rfl) eG ?_
                        intro bA K Q' hK
                        have e6 := hS 6 (by kernel_rfl)
                        change ρ (.tmp 6) = _ at e6
                        simp only [execOp]
                        go_simp
                        exact hK _ _ rfl (Grew.refl _)
                      · have eG : ρ (.tmp 157) = _ := hG 5 157 (by decide) (by kernel_rfl) (by kernel_rfl)
                        refine onG rfl (by kernel_rfl) eG ?_
                        intro bA K Q' hK
                        have e160 := hG 8 160 (by decide) (by kernel_rfl) (by kernel_rfl)
                        change ρ (.tmp 160) = _ at e160
                        obtain ⟨⟨⟨y0, y1⟩, y2⟩, -, -⟩ := HCZ.out w5 hR
                        simp only [execOp]
                        go_simp
                        exact hK _ _ rfl (Grew.refl _)
                      · have eG : ρ (.tmp 157) = _ := hG 5 157 (by decide) (by kernel_rfl) (by kernel_rfl)
                        refine onG rfl (by kernel_rfl) eG ?_
                        intro bA K Q' hK
                        have e11 := hS 11 (by kernel_rfl)
                        change ρ (.tmp 11) = _ at e11
                        simp only [execOp]
                        go_simp
                        exact hK _ _ rfl (Grew.refl _)
                      · have eG : ρ (.tmp 157) = _ := hG 5 157 (by decide) (by kernel_rfl) (by kernel_rfl)
                        refine onG rfl (by kernel_rfl) eG ?_
                        intro bA K Q' hK
                        have e161 := hG 9 161 (by decide) (by kernel_rfl) (by kernel_rfl)
                        have e162 := hG 10 162 (by decide) (by kernel_rfl) (by kernel_rfl)
                        change ρ (.tmp 161) = _ at e161
                        change ρ (.tmp 162) = _ at e162
                        simp only [execOp]
                        go_simp
                        exact hK _ _ rfl (Grew.refl _)
                      · have eG : ρ (.tmp 157) = _ := hG 5 157 (by decide) (by kernel_rfl) (by kernel_rfl)
                        refine onG rfl (by kernel_rfl) eG ?_
                        intro bA K Q' hK
                        have e159 := hG 7 159 (by decide) (by kernel_rfl) (by kernel_rfl)
                        have e163 := hG 11 163 (by decide) (by kernel_rfl) (by kernel_rfl)
                        skip
                        change ρ (.tmp 163) = _ at e163
                        obtain ⟨a9, n9, c9, e159', h29⟩ := e159
                        change ρ (.tmp 159) = _ at e159'
                        simp only [execOp]
                        go_simp
                        refine (same_x lf h29 (HCZ.out w5 hR).2.2).mono ?_
                        rintro r9 w9 ⟨rfl, hb9⟩
                        exact hK _ _ rfl hb9
                      · refine plainG rfl ?_
                        intro bA K Q' hK
                        have e157 := hG 5 157 (by decide) (by kernel_rfl) (by kernel_rfl)
                        have e164 := hG 12 164 (by decide) (by kernel_rfl) (by kernel_rfl)
                        change ρ (.tmp 157) = _ at e157
                        change ρ (.tmp 164) = _ at e164
                        simp only [execOp]
                        go_simp
                        exact hK _ _ rfl (Grew.refl _)
                      · refine plainG rfl ?_
                        intro bA K Q' hK
                        have e165 := hG 13 165 (by decide) (by kernel_rfl) (by kernel_rfl)
                        change ρ (.tmp 165) = _ at e165
                        simp only [execOp]
                        go_simp
                        exact hK _ _ rfl (Grew.refl _)
                    · skip
                      intro vv q10 hR hG
                      have h9 : vv 14 = .bool true := hG.2
                      have hb := grewDrew hR
                      clear hG hR HCZ
                      have HBC_3 : Hid (Below w9.heap.size w9 q10) := hid (HBC_2.out.trans ((hb).mono HBC_2.out.size))
                      have HU_3 : Hid (q10.ownsRow B0 54 3 (.slice aU LU cU) LU (ecells WU)) := hid (ownBelow HU_2.out (hb))
                      have HV_3 : Hid (q10.ownsRow B0 54 3 (u12) LV (ecells WV)) := hid (ownBelow HV_2.out (hb))
                      have HAP_3 := hid HAP_2.out
                      clear HBC_2 HU_2 HV_2 HAP_2
                      clear hb
                      simp [stG, stU, dstAt, Act.put, h9]
                      clear h9
                      go_wp2_with fail
                      go_ret
                      exact ⟨rfl, HB_9.out.trans (HBC_3.out.mono HB_9.out.size)⟩
              · have hIN : inK xs (s, z) = true := HIS.out.symm
                obtain rfl : Fo = 0 := by rw [HFF.out.2.1]; exact wo_in HC.out hIN
                obtain rfl := HWV.out rfl
                have h99 := (HN9.out w9 (Below.refl _ _) (by first | rfl | trivial)).1.symm
                subst h99
                obtain ⟨aV, cV, e9, h9⟩ := owned_nd HV.out (by have := HLB.out; omega) (by rw [HFF.out.2.2.2]; exact rem_fits HOK.out)
                have HNV := hid h9
                have HCZ : Hid (∀ x, Grew wr.drew x → ((x.cell? ⟨gp9, 0, none⟩ = some (.bool lf) ∧ x.cell? ⟨gp9, 1, none⟩ = some (.slice ap9 np9 cp9)) ∧ x.cell? ⟨gp2, 0, none⟩ = some (.bool lf)) ∧ NdOk x ap9 np9 cp9 WV ∧ NdOk x aV LV cV WV) := hid fun x hx => by
                  have hb := HBC.out.trans ((grewDrew hx).mono HBC.out.size)
                  exact ⟨⟨(HB79.out x hb).2, (HALL.out x hb).1.1⟩, (HN9.out x hb (by first | rfl | trivial)).2, HNV.out.below (grewDrew hx)⟩
                clear hIN h9
                subst e9
                go_upto_region 23 with fail
                clear hcu2
                refine wp_region_grows 23 [EqN (.bool true), EqN (.bool true), EqN (.int .i64 0), EqN (.bool false), EqN (.bool false), EqN (.agg #[.bool lf, .slice ap9 np9 cp9]), (fun x v => NdV x v lf WV), EqN (.pointer (some ⟨gp2, 0, none⟩)), EqN (.bool lf), EqN (.slice aV LV cV), EqN (.agg #[.bool lf, .slice aV LV cV]), EqN (.bool true), EqN (.bool false), EqN (.bool false), EqN (.bool false), EqN (.bool false), EqN (.bool true), EqN (.bool false), EqN (.bool false), EqN (undef), EqN (undef), EqN (.bool false), EqN (.bool false)] (by kernel_rfl) (by decide) (by kernel_rfl) ?_ ?_ ?_
                · repeat' (first | exact List.forall_mem_nil _ | refine List.forall_mem_cons.2 ⟨?_, ?_⟩)
                  all_goals
                    intro w w' v hw h
                    first | exact h | exact NdV.grew hw h
                · simp only [AllLt]
                  refine ⟨⟨⟨⟨⟨⟨⟨⟨⟨⟨⟨⟨⟨⟨⟨⟨⟨⟨⟨⟨⟨⟨⟨trivial, ?_⟩, ?_⟩, ?_⟩, ?_⟩, ?_⟩, ?_⟩, ?_⟩, ?_⟩, ?_⟩, ?_⟩, ?_⟩, ?_⟩, ?_⟩, ?_⟩, ?_⟩, ?_⟩, ?_⟩, ?_⟩, ?_⟩, ?_⟩, ?_⟩, ?_⟩, ?_⟩
                  all_goals
                    intro o' ho
                    simp at ho
                    subst ho
                    intro ρ w5 hR hL hS hG
                    obtain ⟨hl1, hl2, -⟩ := hL
                  · refine plainG rfl ?_
                    intro bA K Q' hK
                    have e13 := hS 13 (by kernel_rfl)
                    change ρ (.tmp 13) = _ at e13
                    simp only [execOp]
                    go_simp
                    exact hK _ _ rfl (Grew.refl _)
                  · refine plainG rfl ?_
                    intro bA K Q' hK
                    have e113 := hG 0 113 (by decide) (by kernel_rfl) (by kernel_rfl)
                    change ρ (.tmp 113) = _ at e113
                    simp only [execOp]
                    go_simp
                    exact hK _ _ rfl (Grew.refl _)
                  · have eG : ρ (.tmp 114) = _ := hG 1 114 (by decide) (by kernel_rfl) (by kernel_rfl)
                    refine onG rfl (by kernel_rfl) eG ?_
                    intro bA K Q' hK
                    have e10 := hS 10 (by kernel_rfl)
                    change ρ (.tmp 10) = _ at e10
                    simp only [execOp]
                    go_simp
                    exact hK _ _ rfl (Grew.refl _)
                  · have eG : ρ (.tmp 114) = _ := hG 1 114 (by decide) (by kernel_rfl) (by kernel_rfl)
                    refine onG rfl (by kernel_rfl) eG ?_
                    intro bA K Q' hK
                    have e115 := hG 2 115 (by decide) (by kernel_rfl) (by kernel_rfl)
                    change ρ (.tmp 115) = _ at e115
                    simp only [execOp]
                    go_simp
                    exact hK _ _ rfl (Grew.refl _)
                  · have eG : ρ (.tmp 114) = _ := hG 1 114 (by decide) (by kernel_rfl) (by kernel_rfl)
                    refine onG rfl (by kernel_rfl) eG ?_
                    intro bA K Q' hK
                    have e116 := hG 3 116 (by decide) (by kernel_rfl) (by kernel_rfl)
                    change ρ (.tmp 116) = _ at e116
                    simp only [execOp]
                    go_simp
                    exact hK _ _ rfl (Grew.refl _)
                  · have eG : ρ (.tmp 117) = _ := hG 4 117 (by decide) (by kernel_rfl) (by kernel_rfl)
                    refine onG rfl (by kernel_rfl) eG ?_
                    intro bA K Q' hK
                    have e9 := hS 9 (by kernel_rfl)
                    change ρ (.tmp 9) = _ at e9
                    obtain ⟨⟨⟨y0, y1⟩, y2⟩, -, -⟩ := HCZ.out w5 hR
                    simp only [execOp]
                    go_simp
                    exact hK _ _ rfl (Grew.refl _)
                  · have eG : ρ (.tmp 117) = _ := hG 4 117 (by decide) (by kernel_rfl) (by kernel_rfl)
                    refine onG rfl (by kernel_rfl) eG ?_
                    intro bA K Q' hK
                    have e118 := hG 5 118 (by decide) (by kernel_rfl) (by kernel_rfl)
                    change ρ (.tmp 118) = _ at e118
                    simp only [execOp]
                    go_simp
                    refine (of_x lf (HCZ.out w5 hR).2.1).mono ?_
                    rintro r9 w9 ⟨⟨a9, n9, c9, rfl, h9⟩, hb9⟩
                    exact hK _ _ ⟨_, _, _, rfl, h9⟩ hb9
                  · have eG : ρ (.tmp 117) = _ := hG 4 117 (by decide) (by kernel_rfl) (by kernel_rfl)
                    refine onG rfl (by kernel_rfl) eG ?_
                    intro bA K Q' hK
                    have e6 := hS 6 (by kernel_rfl)
                    change ρ (.tmp 6) = _ at e6
                    simp only [execOp]
                    go_simp
                    exact hK _ _ rfl (Grew.refl _)
                  · have eG : ρ (.tmp 117) = _ := hG 4 117 (by decide) (by kernel_rfl) (by kernel_rfl)
                    refine onG rfl (by kernel_rfl) eG ?_
                    intro bA K Q' hK
                    have e120 := hG 7 120 (by decide) (by kernel_rfl) (by kernel_rfl)
                    change ρ (.tmp 120) = _ at e120
                    obtain ⟨⟨⟨y0, y1⟩, y2⟩, -, -⟩ := HCZ.out w5 hR
                    simp only [execOp]
                    go_simp
                    exact hK _ _ rfl (Grew.refl _)
                  · have eG : ρ (.tmp 117) = _ := hG 4 117 (by decide) (by kernel_rfl) (by kernel_rfl)
                    refine onG rfl (by kernel_rfl) eG ?_
                    intro bA K Q' hK
                    have e12 := hS 12 (by kernel_rfl)
                    change ρ (.tmp 12) = _ at e12
                    simp only [execOp]
                    go_simp
                    exact hK _ _ rfl (Grew.refl _)
                  · have eG : ρ (.tmp 117) = _ := hG 4 117 (by decide) (by kernel_rfl) (by kernel_rfl)
                    refine onG rfl (by kernel_rfl) eG ?_
                    intro bA K Q' hK
                    have e121 := hG 8 121 (by decide) (by kernel_rfl) (by kernel_rfl)
                    have e122 := hG 9 122 (by decide) (by kernel_rfl) (by kernel_rfl)
                    change ρ (.tmp 121) = _ at e121
                    change ρ (.tmp 122) = _ at e122
                    simp only [execOp]
                    go_simp
                    exact hK _ _ rfl (Grew.refl _)
                  · have eG : ρ (.tmp 117) = _ := hG 4 117 (by decide) (by kernel_rfl) (by kernel_rfl)
                    refine onG rfl (by kernel_rfl) eG ?_
                    intro bA K Q' hK
                    have e119 := hG 6 119 (by decide) (by kernel_rfl) (by kernel_rfl)
                    have e123 := hG 10 123 (by decide) (by kernel_rfl) (by kernel_rfl)
                    skip
                    change ρ (.tmp 123) = _ at e123
                    obtain ⟨a9, n9, c9, e119', h29⟩ := e119
                    change ρ (.tmp 119) = _ at e119'
                    simp only [execOp]
                    go_simp
                    refine (same_x lf h29 (HCZ.out w5 hR).2.2).mono ?_
                    rintro r9 w9 ⟨rfl, hb9⟩
                    exact hK _ _ rfl hb9
                  · have eG : ρ (.tmp 117) = _ := hG 4 117 (by decide) (by kernel_rfl) (by kernel_rfl)
                    refine onG rfl (by kernel_rfl) eG ?_
                    intro bA K Q' hK
                    have e124 := hG 11 124 (by decide) (by kernel_rfl) (by kernel_rfl)
                    change ρ (.tmp 124) = _ at e124
                    simp only [execOp]
                    go_simp
                    exact hK _ _ rfl (Grew.refl _)
                  · have eG : ρ (.tmp 114) = _ := hG 1 114 (by decide) (by kernel_rfl) (by kernel_rfl)
                    refine onG rfl (by kernel_rfl) eG ?_
                    intro bA K Q' hK
                    have e117 := hG 4 117 (by decide) (by kernel_rfl) (by kernel_rfl)
                    have e125 := hG 12 125 (by decide) (by kernel_rfl) (by kernel_rfl)
                    change ρ (.tmp 117) = _ at e117
                    change ρ (.tmp 125) = _ at e125
                    simp only [execOp]
                    go_simp
                    exact hK _ _ rfl (Grew.refl _)
                  · refine plainG rfl ?_
                    intro bA K Q' hK
                    have e114 := hG 1 114 (by decide) (by kernel_rfl) (by kernel_rfl)
                    have e126 := hG 13 126 (by decide) (by kernel_rfl) (by kernel_rfl)
                    change ρ (.tmp 114) = _ at e114
                    change ρ (.tmp 126) = _ at e126
                    simp only [execOp]
                    go_simp
                    exact hK _ _ rfl (Grew.refl _)
                  · refine plainG rfl ?_
                    intro bA K Q' hK
                    have e127 := hG 14 127 (by decide) (by kernel_rfl) (by kernel_rfl)
                    change ρ (.tmp 127) = _ at e127
                    simp only [execOp]
                    go_simp
                    exact hK _ _ rfl (Grew.refl _)
                  · have eG : ρ (.tmp 128) = _ := hG 15 128 (by decide) (by kernel_rfl) (by kernel_rfl)
                    refine onG rfl (by kernel_rfl) eG ?_
                    intro bA K Q' hK
                    have e13 := hS 13 (by kernel_rfl)
                    change ρ (.tmp 13) = _ at e13
                    simp only [execOp]
                    go_simp
                    exact hK _ _ rfl (Grew.refl _)
                  · have eG : ρ (.tmp 128) = _ := hG 15 128 (by decide) (by kernel_rfl) (by kernel_rfl)
                    refine onG rfl (by kernel_rfl) eG ?_
                    intro bA K Q' hK
                    have e129 := hG 16 129 (by decide) (by kernel_rfl) (by kernel_rfl)
                    change ρ (.tmp 129) = _ at e129
                    simp only [execOp]
                    go_simp
                    exact hK _ _ rfl (Grew.refl _)
                  · have eG : ρ (.tmp 128) = _ := hG 15 128 (by decide) (by kernel_rfl) (by kernel_rfl)
                    refine onG rfl (by kernel_rfl) eG ?_
                    intro bA K Q' hK
                    have e130 := hG 17 130 (by decide) (by kernel_rfl) (by kernel_rfl)
                    change ρ (.tmp 130) = _ at e130
                    simp only [execOp]
                    go_simp
                    exact hK _ _ rfl (Grew.refl _)
                  · have eG : ρ (.tmp 131) = _ := hG 18 131 (by decide) (by kernel_rfl) (by kernel_rfl)
                    exact offG rfl (by kernel_rfl) eG rfl rfl
                  · have eG : ρ (.tmp 131) = _ := hG 18 131 (by decide) (by kernel_rfl) (by kernel_rfl)
                    exact offG rfl (by kernel_rfl) eG rfl rfl
                  · have eG : ρ (.tmp 128) = _ := hG 15 128 (by decide) (by kernel_rfl) (by kernel_rfl)
                    refine onG rfl (by kernel_rfl) eG ?_
                    intro bA K Q' hK
                    have e131 := hG 18 131 (by decide) (by kernel_rfl) (by kernel_rfl)
                    have e133 := hG 20 133 (by decide) (by kernel_rfl) (by kernel_rfl)
                    change ρ (.tmp 131) = _ at e131
                    change ρ (.tmp 133) = _ at e133
                    simp only [execOp]
                    go_simp
                    exact hK _ _ rfl (Grew.refl _)
                  · refine plainG rfl ?_
                    intro bA K Q' hK
                    have e128 := hG 15 128 (by decide) (by kernel_rfl) (by kernel_rfl)
                    have e134 := hG 21 134 (by decide) (by kernel_rfl) (by kernel_rfl)
                    change ρ (.tmp 128) = _ at e128
                    change ρ (.tmp 134) = _ at e134
                    simp only [execOp]
                    go_simp
                    exact hK _ _ rfl (Grew.refl _)
                · skip
                  intro vv q8 hR hG
                  have h9 : vv 22 = .bool false := hG.2
                  have hb := grewDrew hR
                  clear hG hR HCZ HNV
                  have HBC_1 : Hid (Below w9.heap.size w9 q8) := hid (HBC.out.trans ((hb).mono HBC.out.size))
                  have HU_1 : Hid (q8.ownsRow B0 54 3 (u11) LU (ecells WU)) := hid (ownBelow HU.out (hb))
                  have HV_1 : Hid (q8.ownsRow B0 54 3 (.slice aV LV cV) LV (ecells WV)) := hid (ownBelow HV.out (hb))
                  have HAP_1 := hid HAP.out
                  clear HBC HU HV HAP
                  clear hb
                  simp [stG, stU, dstAt, Act.put, h9]
                  clear h9
                  obtain ⟨-, hk0, hk1, hk2⟩ := HALL.out q8 HBC_1.out
                  rcases (show Hid (okE ((s, z), p) = false) ∨ Hid (okE ((s, z), p) = true ∧ 16 < (insE xs ((s, z), p)).length) ∨ Hid (okE ((s, z), p) = true ∧ (insE xs ((s, z), p)).length ≤ 16) by
                    cases h : okE ((s, z), p)
                    · exact .inl (hid rfl)
                    · rcases Nat.lt_or_ge 16 (insE xs ((s, z), p)).length with h2 | h2
                      · exact .inr (.inl (hid ⟨rfl, h2⟩))
                      · exact .inr (.inr (hid ⟨rfl, h2⟩))) with ho | ho | ho
                  · have HRI : Hid (∀ y, Calls Try.prog 29 #[.agg #[.int .i64 s, .int .i64 z, .int .i64 p]] y fun e w' => e = .returned (.bool false) ∧ Below y.heap.size y w') := hid fun y => by
                      have h := refRight_any s z p y
                      rw [ho.out] at h
                      exact h
                    obtain rfl : F = 10 := by rw [HFF.out.1]; exact wi_bad HC.out ho.out
                    clear ho
                    go_wp2_with fail
                    refine (HRI.out _).mono ?_
                    rintro e q9 ⟨rfl, hb⟩
                    have HBC_2 : Hid (Below w9.heap.size w9 q9) := hid (HBC_1.out.trans ((hb).mono HBC_1.out.size))
                    have HU_2 : Hid (q9.ownsRow B0 54 3 (u11) LU (ecells WU)) := hid (ownBelow HU_1.out (hb))
                    have HV_2 : Hid (q9.ownsRow B0 54 3 (.slice aV LV cV) LV (ecells WV)) := hid (ownBelow HV_1.out (hb))
                    have HAP_2 := hid HAP_1.out
                    clear HBC_1 HU_1 HV_1 HAP_1
                    clear hb hk0 hk1 hk2 HRI
                    go_wp2_with fail
                    refine (known_any HP.out _).mono ?_
                    rintro e q10 ⟨rfl, hb⟩
                    have HBC_3 : Hid (Below w9.heap.size w9 q10) := hid (HBC_2.out.trans ((hb).mono HBC_2.out.size))
                    have HU_3 : Hid (q10.ownsRow B0 54 3 (u11) LU (ecells WU)) := hid (ownBelow HU_2.out (hb))
                    have HV_3 : Hid (q10.ownsRow B0 54 3 (.slice aV LV cV) LV (ecells WV)) := hid (ownBelow HV_2.out (hb))
                    have HAP_3 := hid HAP_2.out
                    clear HBC_2 HU_2 HV_2 HAP_2
                    clear hb
                    go_wp2_with fail
                    go_ret
                    exact ⟨rfl, HB_9.out.trans (HBC_3.out.mono HB_9.out.size)⟩
                  · have HRI : Hid (∀ y, Calls Try.prog 29 #[.agg #[.int .i64 s, .int .i64 z, .int .i64 p]] y fun e w' => e = .returned (.bool true) ∧ Below y.heap.size y w') := hid fun y => by
                      have h := refRight_any s z p y
                      rw [ho.out.1] at h
                      exact h
                    have hWI : WU = insE xs ((s, z), p) := by rw [HWX.out, HPEE.out, show placeW s z = plK (s, z) from placeW_ok (k := (s, z)) (okE_key (e := ((s, z), p)) ho.out.1)]; exact withX_is (e := ((s, z), p)) HFA.out
                    obtain ⟨aU, cU, eU, eL⟩ := owned_sl HU_1.out
                    rw [hWI] at eL
                    obtain rfl : F = 6 := by rw [HFF.out.1]; exact wi_full HC.out ho.out.1 ho.out.2
                    have h16 : (16 : Int) < LU := by have := ho.out.2; omega
                    have h162 : decide ((16 : Int) < LU) = true := decide_eq_true h16
                    have h163 : (16 < LU) = True := eq_true (by omega)
                    clear eL hWI
                    subst eU
                    clear ho
                    go_wp2_with fail
                    refine (HRI.out _).mono ?_
                    rintro e q9 ⟨rfl, hb⟩
                    have HBC_2 : Hid (Below w9.heap.size w9 q9) := hid (HBC_1.out.trans ((hb).mono HBC_1.out.size))
                    have HU_2 : Hid (q9.ownsRow B0 54 3 (.slice aU LU cU) LU (ecells WU)) := hid (ownBelow HU_1.out (hb))
                    have HV_2 : Hid (q9.ownsRow B0 54 3 (.slice aV LV cV) LV (ecells WV)) := hid (ownBelow HV_1.out (hb))
                    have HAP_2 := hid HAP_1.out
                    clear HBC_1 HU_1 HV_1 HAP_1
                    clear hb hk0 hk1 hk2 HRI
                    go_wp2_with fail
                    refine (known_any HP.out _).mono ?_
                    rintro e q10 ⟨rfl, hb⟩
                    have HBC_3 : Hid (Below w9.heap.size w9 q10) := hid (HBC_2.out.trans ((hb).mono HBC_2.out.size))
                    have HU_3 : Hid (q10.ownsRow B0 54 3 (.slice aU LU cU) LU (ecells WU)) := hid (ownBelow HU_2.out (hb))
                    have HV_3 : Hid (q10.ownsRow B0 54 3 (.slice aV LV cV) LV (ecells WV)) := hid (ownBelow HV_2.out (hb))
                    have HAP_3 := hid HAP_2.out
                    clear HBC_2 HU_2 HV_2 HAP_2
                    clear hb
                    go_wp2_with fail
                    go_ret
                    exact ⟨rfl, HB_9.out.trans (HBC_3.out.mono HB_9.out.size)⟩
                  · have HRI : Hid (∀ y, Calls Try.prog 29 #[.agg #[.int .i64 s, .int .i64 z, .int .i64 p]] y fun e w' => e = .returned (.bool true) ∧ Below y.heap.size y w') := hid fun y => by
                      have h := refRight_any s z p y
                      rw [ho.out.1] at h
                      exact h
                    have hWI : WU = insE xs ((s, z), p) := by rw [HWX.out, HPEE.out, show placeW s z = plK (s, z) from placeW_ok (k := (s, z)) (okE_key (e := ((s, z), p)) ho.out.1)]; exact withX_is (e := ((s, z), p)) HFA.out
                    obtain ⟨aU, cU, eU, eL⟩ := owned_sl HU_1.out
                    rw [hWI] at eL
                    obtain rfl : F = 0 := by rw [HFF.out.1]; exact wi_ok HC.out ho.out.1 ho.out.2
                    have h162 : decide ((16 : Int) < LU) = false := decide_eq_false (by have := ho.out.2; omega)
                    have h163 : (16 < LU) = False := eq_false (by have := ho.out.2; omega)
                    have HWI2 : Hid (WU = I) := hid (by rw [HFF.out.2.2.1]; exact hWI)
                    obtain ⟨aU2, cU2, eU2, h9⟩ := owned_nd HU_1.out (by have := HLX.out; omega) (by rw [hWI]; exact ins_fits HOK.out ho.out.1)
                    rw [eU] at eU2
                    cases eU2
                    have HNU := hid h9
                    clear eL hWI h9
                    subst eU
                    clear ho
                    go_wp2_with fail
                    refine (HRI.out _).mono ?_
                    rintro e q9 ⟨rfl, hb⟩
                    have HNU2 := hid (HNU.out.below hb)
                    clear HNU
                    have HBC_2 : Hid (Below w9.heap.size w9 q9) := hid (HBC_1.out.trans ((hb).mono HBC_1.out.size))
                    have HU_2 : Hid (q9.ownsRow B0 54 3 (.slice aU LU cU) LU (ecells WU)) := hid (ownBelow HU_1.out (hb))
                    have HV_2 : Hid (q9.ownsRow B0 54 3 (.slice aV LV cV) LV (ecells WV)) := hid (ownBelow HV_1.out (hb))
                    have HAP_2 := hid HAP_1.out
                    clear HBC_1 HU_1 HV_1 HAP_1
                    clear hb hk0 hk1 hk2 HRI
                    have h77 := (HN7.out w9 (Below.refl _ _) (by first | rfl | trivial)).1.symm
                    subst h77
                    have HCZ : Hid (∀ x, Grew q9.drew x → ((x.cell? ⟨gp7, 0, none⟩ = some (.bool lf) ∧ x.cell? ⟨gp7, 1, none⟩ = some (.slice ap7 np7 cp7)) ∧ x.cell? ⟨gp2, 0, none⟩ = some (.bool lf)) ∧ NdOk x ap7 np7 cp7 I ∧ NdOk x aU LU cU I) := hid fun x hx => by
                      have hb := HBC_2.out.trans ((grewDrew hx).mono HBC_2.out.size)
                      exact ⟨⟨(HB79.out x hb).1, (HALL.out x hb).1.1⟩, (HN7.out x hb (by first | rfl | trivial)).2, by rw [← HWI2.out]; exact HNU2.out.below (grewDrew hx)⟩
                    go_upto_region 29 with fail
                    refine wp_region_grows 15 [EqN (.bool true), EqN (.bool true), EqN (.int .i64 0), EqN (.bool true), EqN (.bool true), EqN (.bool true), EqN (.agg #[.bool lf, .slice ap7 np7 cp7]), (fun x v => NdV x v lf I), EqN (.pointer (some ⟨gp2, 0, none⟩)), EqN (.bool lf), EqN (.slice aU LU cU), EqN (.agg #[.bool lf, .slice aU LU cU]), EqN (.bool true), EqN (.bool true), EqN (.bool true)] (by kernel_rfl) (by decide) (by kernel_rfl) ?_ ?_ ?_
                    · repeat' (first | exact List.forall_mem_nil _ | refine List.forall_mem_cons.2 ⟨?_, ?_⟩)
                      all_goals
                        intro w w' v hw h
                        first | exact h | exact NdV.grew hw h
                    · simp only [AllLt]
                      refine ⟨⟨⟨⟨⟨⟨⟨⟨⟨⟨⟨⟨⟨⟨⟨trivial, ?_⟩, ?_⟩, ?_⟩, ?_⟩, ?_⟩, ?_⟩, ?_⟩, ?_⟩, ?_⟩, ?_⟩, ?_⟩, ?_⟩, ?_⟩, ?_⟩, ?_⟩
                      all_goals
                        intro o' ho
                        simp at ho
                        subst ho
                        intro ρ w5 hR hL hS hG
                        obtain ⟨hl1, hl2, -⟩ := hL
                      · refine plainG rfl ?_
                        intro bA K Q' hK
                        simp only [execOp]
                        go_simp
                        refine (known_any HP.out w5).mono ?_
                        rintro r9 w9 ⟨rfl, hb9⟩
                        exact hK _ _ rfl hb9
                      · refine plainG rfl ?_
                        intro bA K Q' hK
                        have e152 := hG 0 152 (by decide) (by kernel_rfl) (by kernel_rfl)
                        change ρ (.tmp 152) = _ at e152
                        simp only [execOp]
                        go_simp
                        exact hK _ _ rfl (Grew.refl _)
                      · have eG : ρ (.tmp 153) = _ := hG 1 153 (by decide) (by kernel_rfl) (by kernel_rfl)
                        refine onG rfl (by kernel_rfl) eG ?_
                        intro bA K Q' hK
                        have e8 := hS 8 (by kernel_rfl)
                        change ρ (.tmp 8) = _ at e8
                        simp only [execOp]
                        go_simp
                        exact hK _ _ rfl (Grew.refl _)
                      · have eG : ρ (.tmp 153) = _ := hG 1 153 (by decide) (by kernel_rfl) (by kernel_rfl)
                        refine onG rfl (by kernel_rfl) eG ?_
                        intro bA K Q' hK
                        have e154 := hG 2 154 (by decide) (by kernel_rfl) (by kernel_rfl)
                        change ρ (.tmp 154) = _ at e154
                        simp only [execOp]
                        go_simp
                        exact hK _ _ rfl (Grew.refl _)
                      · refine plainG rfl ?_
                        intro bA K Q' hK
                        have e153 := hG 1 153 (by decide) (by kernel_rfl) (by kernel_rfl)
                        have e155 := hG 3 155 (by decide) (by kernel_rfl) (by kernel_rfl)
                        change ρ (.tmp 153) = _ at e153
                        change ρ (.tmp 155) = _ at e155
                        simp only [execOp]
                        go_simp
                        exact hK _ _ rfl (Grew.refl _)
                      · refine plainG rfl ?_
                        intro bA K Q' hK
                        have e156 := hG 4 156 (by decide) (by kernel_rfl) (by kernel_rfl)
                        change ρ (.tmp 156) = _ at e156
                        simp only [execOp]
                        go_simp
                        exact hK _ _ rfl (Grew.refl _)
                      · have eG : ρ (.tmp 157) = _ := hG 5 157 (by decide) (by kernel_rfl) (by kernel_rfl)
                        refine onG rfl (by kernel_rfl) eG ?_
                        intro bA K Q' hK
                        have e7 := hS 7 (by kernel_rfl)
                        change ρ (.tmp 7) = _ at e7
                        obtain ⟨⟨⟨y0, y1⟩, y2⟩, -, -⟩ := HCZ.out w5 hR
                        simp only [execOp]
                        go_simp
                        exact hK _ _ rfl (Grew.refl _)
                      · have eG : ρ (.tmp 157) = _ := hG 5 157 (by decide) (by kernel_rfl) (by kernel_rfl)
                        refine onG rfl (by kernel_rfl) eG ?_
                        intro bA K Q' hK
                        have e158 := hG 6 158 (by decide) (by kernel_rfl) (by kernel_rfl)
                        change ρ (.tmp 158) = _ at e158
                        simp only [execOp]
                        go_simp
                        refine (of_x lf (HCZ.out w5 hR).2.1).mono ?_
                        rintro r9 w9 ⟨⟨a9, n9, c9, rfl, h9⟩, hb9⟩
                        exact hK _ _ ⟨_, _, _, rfl, h9⟩ hb9
                      · have eG : ρ (.tmp 157) = _ := hG 5 157 (by decide) (by kernel_rfl) (by kernel_rfl)
                        refine onG rfl (by kernel_rfl) eG ?_
                        intro bA K Q' hK
                        have e6 := hS 6 (by kernel_rfl)
                        change ρ (.tmp 6) = _ at e6
                        simp only [execOp]
                        go_simp
                        exact hK _ _ rfl (Grew.refl _)
                      · have eG : ρ (.tmp 157) = _ := hG 5 157 (by decide) (by kernel_rfl) (by kernel_rfl)
                        refine onG rfl (by kernel_rfl) eG ?_
                        intro bA K Q' hK
                        have e160 := hG 8 160 (by decide) (by kernel_rfl) (by kernel_rfl)
                        change ρ (.tmp 160) = _ at e160
                        obtain ⟨⟨⟨y0, y1⟩, y2⟩, -, -⟩ := HCZ.out w5 hR
                        simp only [execOp]
                        go_simp
                        exact hK _ _ rfl (Grew.refl _)
                      · have eG : ρ (.tmp 157) = _ := hG 5 157 (by decide) (by kernel_rfl) (by kernel_rfl)
                        refine onG rfl (by kernel_rfl) eG ?_
                        intro bA K Q' hK
                        have e11 := hS 11 (by kernel_rfl)
                        change ρ (.tmp 11) = _ at e11
                        simp only [execOp]
                        go_simp
                        exact hK _ _ rfl (Grew.refl _)
                      · have eG : ρ (.tmp 157) = _ := hG 5 157 (by decide) (by kernel_rfl) (by kernel_rfl)
                        refine onG rfl (by kernel_rfl) eG ?_
                        intro bA K Q' hK
                        have e161 := hG 9 161 (by decide) (by kernel_rfl) (by kernel_rfl)
                        have e162 := hG 10 162 (by decide) (by kernel_rfl) (by kernel_rfl)
                        change ρ (.tmp 161) = _ at e161
                        change ρ (.tmp 162) = _ at e162
                        simp only [execOp]
                        go_simp
                        exact hK _ _ rfl (Grew.refl _)
                      · have eG : ρ (.tmp 157) = _ := hG 5 157 (by decide) (by kernel_rfl) (by kernel_rfl)
                        refine onG rfl (by kernel_rfl) eG ?_
                        intro bA K Q' hK
                        have e159 := hG 7 159 (by decide) (by kernel_rfl) (by kernel_rfl)
                        have e163 := hG 11 163 (by decide) (by kernel_rfl) (by kernel_rfl)
                        skip
                        change ρ (.tmp 163) = _ at e163
                        obtain ⟨a9, n9, c9, e159', h29⟩ := e159
                        change ρ (.tmp 159) = _ at e159'
                        simp only [execOp]
                        go_simp
                        refine (same_x lf h29 (HCZ.out w5 hR).2.2).mono ?_
                        rintro r9 w9 ⟨rfl, hb9⟩
                        exact hK _ _ rfl hb9
                      · refine plainG rfl ?_
                        intro bA K Q' hK
                        have e157 := hG 5 157 (by decide) (by kernel_rfl) (by kernel_rfl)
                        have e164 := hG 12 164 (by decide) (by kernel_rfl) (by kernel_rfl)
                        change ρ (.tmp 157) = _ at e157
                        change ρ (.tmp 164) = _ at e164
                        simp only [execOp]
                        go_simp
                        exact hK _ _ rfl (Grew.refl _)
                      · refine plainG rfl ?_
                        intro bA K Q' hK
                        have e165 := hG 13 165 (by decide) (by kernel_rfl) (by kernel_rfl)
                        change ρ (.tmp 165) = _ at e165
                        simp only [execOp]
                        go_simp
                        exact hK _ _ rfl (Grew.refl _)
                    · skip
                      intro vv q10 hR hG
                      have h9 : vv 14 = .bool true := hG.2
                      have hb := grewDrew hR
                      clear hG hR HCZ
                      have HBC_3 : Hid (Below w9.heap.size w9 q10) := hid (HBC_2.out.trans ((hb).mono HBC_2.out.size))
                      have HU_3 : Hid (q10.ownsRow B0 54 3 (.slice aU LU cU) LU (ecells WU)) := hid (ownBelow HU_2.out (hb))
                      have HV_3 : Hid (q10.ownsRow B0 54 3 (.slice aV LV cV) LV (ecells WV)) := hid (ownBelow HV_2.out (hb))
                      have HAP_3 := hid HAP_2.out
                      clear HBC_2 HU_2 HV_2 HAP_2
                      clear hb
                      simp [stG, stU, dstAt, Act.put, h9]
                      clear h9
                      go_wp2_with fail
                      go_ret
                      exact ⟨rfl, HB_9.out.trans (HBC_3.out.mono HB_9.out.size)⟩
end Go.Proofs.Ytokeihpmagcneaa
