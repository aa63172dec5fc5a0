/- CONTRACTS: two sets joined, word by word. -/
import Derived.Test.YtjgnnofpilmgoaaDoorBmE
namespace Go.Proofs.YtjgnnofpilmgoaaDoor
open Go.RowKit Go.Inc

/-- The first k words joined. -/
def joinTo (h : Nat → Nat → Nat) (V O : List Nat) : Nat → List Nat
  | 0 => V
  | k + 1 => (joinTo h V O k).set k (h (V.getD k 0) (O.getD k 0))
theorem joinTo_len (h : Nat → Nat → Nat) (V O : List Nat) : ∀ k, (joinTo h V O k).length = V.length
  | 0 => rfl
  | k + 1 => by unfold joinTo; rw [List.length_set, joinTo_len h V O k]
theorem getD_set {V : List Nat} {q y : Nat} (h : q < V.length) (j : Nat) : (V.set q y).getD j 0 = if j = q then y else V.getD j 0 := by
  simp only [List.getD_eq_getElem?_getD, List.getElem?_set]
  by_cases hj : q = j
  · subst hj; simp [h]
  · have : ¬ j = q := fun e => hj e.symm
    simp [hj, this]
theorem joinTo_get (h : Nat → Nat → Nat) (V O : List Nat) : ∀ k j, k ≤ V.length → (joinTo h V O k).getD j 0 = if j < k then h (V.getD j 0) (O.getD j 0) else V.getD j 0
  | 0, j, _ => by simp [joinTo]
  | k + 1, j, hk => by
    unfold joinTo
    rw [getD_set (by rw [joinTo_len]; omega), joinTo_get h V O k j (by omega)]
    by_cases h1 : j = k
    · subst h1; simp
    · by_cases h2 : j < k
      · rw [if_neg h1, if_pos h2, if_pos (by omega)]
      · rw [if_neg h1, if_neg h2, if_neg (by omega)]
theorem joinTo_bits {h : Nat → Nat → Nat} {f : Bool → Bool → Bool} {V O : List Nat} (hV : ∀ x ∈ V, x < 18446744073709551616) (hO : ∀ q, O.getD q 0 < 18446744073709551616) (hf : ∀ x y j, x < 18446744073709551616 → y < 18446744073709551616 → j < 64 → (h x y).testBit j = f (x.testBit j) (y.testBit j)) {i : Nat} (hi : i / 64 < V.length) :
    wbit (joinTo h V O V.length) i = f (wbit V i) (wbit O i) := by
  unfold wbit
  rw [joinTo_get h V O V.length _ (Nat.le_refl _), if_pos hi]
  exact hf _ _ _ (wget_lt hV _) (hO _) (by omega)
set_option maxRecDepth 20000 in
set_option maxHeartbeats 4000000 in
theorem joinOr_any (ok : Nat → Prop) (b g c S : Nat) (V : List Nat) (vo : Value) (mo : List Bool) (O : List Nat) (w : World) (h : BmAt w b g c S V) (hO : BmW ok w vo mo O) (hok : ∀ i, ok i → i ≠ g) :
    Calls Tryd.prog 55 #[.pointer (some ⟨b, 0, none⟩), vo, .func (.func 56) #[] #[]] w fun e w' => e = .returned (.tuple #[]) ∧ (∃ V', BmAt w' b g c S V' ∧ Cut S (joinTo (fun x y => x ||| y) V O V.length) V') ∧ Mv (fun i => i = g) w w' := by
  have HAT := hid h
  have HO := hid hO
  have HOK := hid hok
  have hc1 := h.hw
  obtain ⟨nw, hnw⟩ : ∃ nw, nw = V.length := ⟨_, rfl⟩
  have HNW := hid hnw
  have hn32 : (nw : Int) ≤ 32 := by have := h.wlen; omega
  rw [← hnw] at hc1
  rw [← hnw]
  clear h hO hok hnw
  go_enter Tryd.func55, Tryd.ntmps55
  go_wp2_with fail
  go_loopw [15] (fun i wr => ∃ k : Nat, k ≤ nw ∧ i = .int .i64 (k : Int) ∧ BmAt wr b g c S (joinTo (fun x y => x ||| y) V O k) ∧ Mv (fun i => i = g) w wr) (fun i _ => nw - (intOf i).toNat)
  case atStart => exact ⟨0, Nat.zero_le _, rfl, HAT.out, Mv.refl _ _⟩
  case round =>
    obtain ⟨k, hk, rfl, hat, hmv⟩ := hrel
    have HATR := hid hat
    have HMV := hid hmv
    clear hat hmv hc1
    by_cases hlt : (k : Int) < nw
    · have hkl : k < (joinTo (fun x y => x ||| y) V O k).length := by rw [joinTo_len, ← HNW.out]; omega
      have hcell := HATR.out.cell hkl
      rw [joinTo_get _ _ _ _ _ (by rw [← HNW.out]; exact hk), if_neg (Nat.lt_irrefl k)] at hcell
      obtain ⟨u, hu⟩ : ∃ u, u = V.getD k 0 := ⟨_, rfl⟩
      obtain ⟨o, ho⟩ : ∃ o, o = O.getD k 0 := ⟨_, rfl⟩
      obtain ⟨y, hy⟩ : ∃ y, y = u ||| o := ⟨_, rfl⟩
      have hu64 : u < 18446744073709551616 := by rw [hu]; exact wget_lt HAT.out.fits k
      have ho64 : o < 18446744073709551616 := by rw [ho]; exact HO.out.fits k
      have hy64 : y < 18446744073709551616 := by rw [hy]; exact or_lt64 hu64 ho64
      rw [← hu] at hcell
      have HCALL : Hid (∀ z, Calls Tryd.prog 56 #[.int .u64 (u : Int), .int .u64 (o : Int)] z fun e w' => e = .returned (.int .u64 (y : Int)) ∧ z = w') := hid fun z => by rw [hy]; exact or_any u o z hu64 ho64
      have HWORD : Hid (∀ z, Grew wr.drew z → Calls Tryd.prog 59 #[vo, .int .i64 (k : Int)] z fun e w' => e = .returned (.int .u64 (o : Int)) ∧ z = w') := hid fun z hz => by
        have hbz : Below wr.heap.size wr z := ⟨hz.os, hz.tape, hz.output, hz.size, hz.block⟩
        rw [ho]; exact word_any ok vo mo O k z ((HO.out.mv HMV.out HOK.out).below hbz) (by omega)
      have HC : Hid (∀ z, Grew wr.drew z → z.cell? ⟨b, 1, none⟩ = some (.slice (some ⟨g, 0, none⟩) nw c) ∧ z.frozen? ⟨g, k, none⟩ = false) := hid fun z hz => by
        have hbz : Below wr.heap.size wr z := ⟨hz.os, hz.tape, hz.output, hz.size, hz.block⟩
        have h := HATR.out.below hbz
        exact ⟨by rw [HNW.out, ← joinTo_len (fun x y => x ||| y) V O k]; exact h.hw, h.row.frozenAt k⟩
      have HNEW : Hid (∀ z, Grew wr.drew z → BmAt (z.setCell ⟨g, k, none⟩ (.int .u64 (y : Int))) b g c S (joinTo (fun x y => x ||| y) V O (k + 1)) ∧ Mv (fun i => i = g) w (z.setCell ⟨g, k, none⟩ (.int .u64 (y : Int)))) := hid fun z hz => by
        have hbz : Below wr.heap.size wr z := ⟨hz.os, hz.tape, hz.output, hz.size, hz.block⟩
        have h := (HATR.out.below hbz).put k hy64
        rw [hy, hu, ho] at h ⊢
        exact ⟨h, mv_setCell (F := fun i => i = g) (HMV.out.trans (Mv.of_below hbz)) rfl _⟩
      have hkn : (k < nw) = True := eq_true (by omega)
      clear hu ho hy hu64 ho64 hy64 hkl HATR HMV
      go_upto_region 4 with fail
      refine wp_region_grows 12 [Eqv' (.pointer (some ⟨b, 0, none⟩)), Eqv' (.pointer (some ⟨b, 0, none⟩)), Eqv' (.pointer (some ⟨b, 1, none⟩)), Eqv' (.slice (some ⟨g, 0, none⟩) nw c), Eqv' (.int .i64 (k : Int)), Eqv' (.func (.func 56) #[] #[]), Eqv' (.int .u64 (u : Int)), Eqv' vo, Eqv' (.int .i64 (k : Int)), Eqv' (.int .u64 (o : Int)), Eqv' (.int .u64 (y : Int)), Eqv' (.pointer (some ⟨g, k, none⟩))] (by kernel_rfl) (by decide) (by kernel_rfl) ?_ ?_ ?_
      · repeat' (first | exact List.forall_mem_nil _ | refine List.forall_mem_cons.2 ⟨?_, ?_⟩)
        all_goals
          intro w w' v hw h
          exact h
      · simp only [AllLt]
        refine ⟨⟨⟨⟨⟨⟨⟨⟨⟨⟨⟨⟨trivial, ?_⟩, ?_⟩, ?_⟩, ?_⟩, ?_⟩, ?_⟩, ?_⟩, ?_⟩, ?_⟩, ?_⟩, ?_⟩, ?_⟩
        all_goals
          intro o' ho
          simp at ho
          subst ho
          intro ρ w2 hR hL hS hG
          obtain ⟨hl1, hl2, -⟩ := hL
        · refine plainG rfl ?_
          intro bA K Q' hK
          have e0 := hS 0 (by kernel_rfl)
          change ρ (.tmp 0) = _ at e0
          simp only [execOp]
          go_simp
          exact hK _ _ rfl (Grew.refl _)
        · refine plainG rfl ?_
          intro bA K Q' hK
          have e20 := hG 0 20 (by decide) (by kernel_rfl) (by kernel_rfl)
          change ρ (.tmp 20) = _ at e20
          simp only [execOp]
          go_simp
          exact hK _ _ rfl (Grew.refl _)
        · refine plainG rfl ?_
          intro bA K Q' hK
          have e21 := hG 1 21 (by decide) (by kernel_rfl) (by kernel_rfl)
          change ρ (.tmp 21) = _ at e21
          simp only [execOp]
          go_simp
          exact hK _ _ rfl (Grew.refl _)
        · refine plainG rfl ?_
          intro bA K Q' hK
          have e22 := hG 2 22 (by decide) (by kernel_rfl) (by kernel_rfl)
          change ρ (.tmp 22) = _ at e22
          obtain ⟨x0, -⟩ := HC.out w2 hR
          simp only [execOp]
          go_simp
          exact hK _ _ rfl (Grew.refl _)
        · refine plainG rfl ?_
          intro bA K Q' hK
          have e6 := hS 6 (by kernel_rfl)
          change ρ (.tmp 6) = _ at e6
          simp only [execOp]
          go_simp
          exact hK _ _ rfl (Grew.refl _)
        · refine plainG rfl ?_
          intro bA K Q' hK
          have e2 := hS 2 (by kernel_rfl)
          change ρ (.tmp 2) = _ at e2
          simp only [execOp]
          go_simp
          exact hK _ _ rfl (Grew.refl _)
        · refine plainG rfl ?_
          intro bA K Q' hK
          have e7 := hS 7 (by kernel_rfl)
          change ρ (.tmp 7) = _ at e7
          simp only [execOp]
          go_simp
          exact hK _ _ rfl (Grew.refl _)
        · refine plainG rfl ?_
          intro bA K Q' hK
          have e1 := hS 1 (by kernel_rfl)
          change ρ (.tmp 1) = _ at e1
          simp only [execOp]
          go_simp
          exact hK _ _ rfl (Grew.refl _)
        · refine plainG rfl ?_
          intro bA K Q' hK
          have e6 := hS 6 (by kernel_rfl)
          change ρ (.tmp 6) = _ at e6
          simp only [execOp]
          go_simp
          exact hK _ _ rfl (Grew.refl _)
        · refine plainG rfl ?_
          intro bA K Q' hK
          have e27 := hG 7 27 (by decide) (by kernel_rfl) (by kernel_rfl)
          have e28 := hG 8 28 (by decide) (by kernel_rfl) (by kernel_rfl)
          change ρ (.tmp 27) = _ at e27
          change ρ (.tmp 28) = _ at e28
          simp only [execOp]
          go_simp
          refine (HWORD.out w2 hR).mono ?_
          rintro r9 w9 ⟨rfl, rfl⟩
          exact hK _ _ rfl (Grew.refl _)
        · refine plainG rfl ?_
          intro bA K Q' hK
          have e25 := hG 5 25 (by decide) (by kernel_rfl) (by kernel_rfl)
          have e26 := hG 6 26 (by decide) (by kernel_rfl) (by kernel_rfl)
          have e29 := hG 9 29 (by decide) (by kernel_rfl) (by kernel_rfl)
          change ρ (.tmp 25) = _ at e25
          change ρ (.tmp 26) = _ at e26
          change ρ (.tmp 29) = _ at e29
          simp only [execOp]
          go_simp
          refine (HCALL.out w2).mono ?_
          rintro r9 w9 ⟨rfl, rfl⟩
          exact hK _ _ rfl (Grew.refl _)
        · refine plainG rfl ?_
          intro bA K Q' hK
          have e23 := hG 3 23 (by decide) (by kernel_rfl) (by kernel_rfl)
          have e24 := hG 4 24 (by decide) (by kernel_rfl) (by kernel_rfl)
          change ρ (.tmp 23) = _ at e23
          change ρ (.tmp 24) = _ at e24
          simp only [execOp]
          go_simp
          exact hK _ _ rfl (Grew.refl _)
      · intro v w3 hR hG
        have h10 : v 10 = .int .u64 (y : Int) := hG.1.2
        have h11 : v 11 = .pointer (some ⟨g, k, none⟩) := hG.2
        obtain ⟨x0, x2⟩ := HC.out w3 hR
        have HX := hid (HNEW.out w3 hR)
        obtain ⟨old, hold⟩ : ∃ old, w3.cell? ⟨g, k, none⟩ = some old := ⟨_, (by
          have hbz : Below wr.heap.size wr w3 := ⟨hR.os, hR.tape, hR.output, hR.size, hR.block⟩
          exact (hbz.cell (cell_lt hcell)).trans hcell)⟩
        clear hG hR HC HNEW HWORD HCALL hcell
        simp [stG, stU, dstAt, Act.put, h10, h11]
        go_wp2_with fail
        go_roundw
        case rel => exact ⟨k + 1, by omega, by go_num, HX.out.1, HX.out.2⟩
        case measure => simp [intOf]; omega
    · have hkf : (k < nw) = False := eq_false (by omega)
      have HKN : Hid (k = nw) := hid (by omega)
      clear hlt
      go_wp2_with fail
      refine (trim_any b g c S _ wr HATR.out).mono ?_
      rintro e w2 ⟨⟨t, V', rfl, hV, hcut, -⟩, hmv2⟩
      have HV := hid (And.intro hV hcut)
      have HM2 := hid (HMV.out.trans hmv2)
      clear hV hcut hmv2
      go_wp2_with fail
      refine bodyPost_end (results_none rfl _ _ _) rfl ⟨rfl, ⟨V', HV.out.1, by rw [← HKN.out]; exact HV.out.2⟩, HM2.out⟩
end Go.Proofs.YtjgnnofpilmgoaaDoor

