/- CONTRACTS: the law's 'same' of documents. -/
import Derived.Test.YtbhpfdpcafdeaaaAfA
import Derived.Test.YtbhpfdpcafdeaaaGrow
namespace Go.Inc
open Go.RowKit
def EqA (v : Value) : World → Value → Prop := fun _ u => u = v
theorem take_both {α : Type} {xs ys : List α} {z : α} {k : Nat} (h1 : k < xs.length) (h2 : k < ys.length) (h : xs.take k = ys.take k) : xs.take (k + 1) = ys.take (k + 1) ↔ xs.getD k z = ys.getD k z := by
  rw [List.take_succ_eq_append_getElem h1, show ys.take (k + 1) = ys.take k ++ [ys[k]] from List.take_succ_eq_append_getElem h2, h, List.getD_eq_getElem?_getD, List.getD_eq_getElem?_getD, List.getElem?_eq_getElem h1, List.getElem?_eq_getElem h2]
  simp only [List.append_cancel_left_eq, List.cons.injEq, and_true, Option.getD_some]
end Go.Inc
namespace Go.Proofs.Ytbhpfdpcafdeaaa
open Go.RowKit Go.Inc
set_option maxRecDepth 200000 in
set_option maxHeartbeats 2000000 in
theorem docsSame_any (ok ok' : Nat → Prop) (x : World) (a b : Option Addr) (c d : Nat) (xs ys : List (List Nat)) (hx : Pt ok x a xs) (hy : Pt ok' x b ys) (hl : (xs.length : Int) ≤ 100000) (h8 : ∀ p ∈ xs, p.length ≤ 9223372036854775807) :
    Calls Try.prog 12 #[.slice a xs.length c, .slice b ys.length d] x fun e w' => e = .returned (.bool (decide (xs = ys))) ∧ Below x.heap.size x w' := by
  by_cases hln : xs.length = ys.length
  · have HX := hid hx
    have HY := hid hy
    have H8 := hid h8
    have HLN := hid hln
    obtain ⟨n, hn⟩ : ∃ n, n = xs.length := ⟨_, rfl⟩
    have HN := hid hn
    rw [← hln, ← hn]
    rw [← hn] at hl
    clear hx hy h8 hln hn
    go_enter Try.func12, Try.ntmps12
    go_wp2_with fail
    go_loopw [5] (fun i wr => ∃ t : Nat, t ≤ n ∧ i = .int .i64 (t : Int) ∧ xs.take t = ys.take t ∧ Below x.heap.size x wr) (fun i _ => n - (intOf i).toNat)
    case atStart => exact ⟨0, Nat.zero_le _, rfl, rfl, Below.refl _ _⟩
    case round =>
      obtain ⟨t, ht, rfl, he, hb⟩ := hrel
      have HE := hid he
      have HB := hid hb
      clear he hb
      by_cases hlt : t < n
      · have hti : (t < n) = True := eq_true hlt
        have HLT := hid hlt
        have htx : t < xs.length := by rw [← HN.out]; exact hlt
        have hty : t < ys.length := by rw [← HLN.out, ← HN.out]; exact hlt
        have HTB := hid (take_both (z := []) htx hty HE.out)
        have hmem : xs.getD t [] ∈ xs := by rw [List.getD_eq_getElem?_getD, List.getElem?_eq_getElem htx]; exact List.getElem_mem _
        have h9 := H8.out _ hmem
        obtain ⟨p, hp⟩ : ∃ p, p = xs.getD t [] := ⟨_, rfl⟩
        obtain ⟨q, hq⟩ : ∃ q, q = ys.getD t [] := ⟨_, rfl⟩
        obtain ⟨ab, ao, A, C, rfl, hca, hsa⟩ : ∃ ab ao A C, a = some ⟨ab, ao, none⟩ ∧ x.cell? ⟨ab, ao + t, none⟩ = some (.slice A p.length C) ∧ Sl ok x A p := by
          rcases HX.out.2 with h | ⟨b, o, A, C, ha, _, hp2⟩
          · rw [h] at htx; simp at htx
          · rw [hp]; exact ⟨b, o, A t, C t, ha, hp2.cell t htx, hp2.sl t htx⟩
        obtain ⟨bb, bo, A', C', rfl, hcb, hsb⟩ : ∃ bb bo A' C', b = some ⟨bb, bo, none⟩ ∧ x.cell? ⟨bb, bo + t, none⟩ = some (.slice A' q.length C') ∧ Sl ok' x A' q := by
          rcases HY.out.2 with h | ⟨b, o, A, C, ha, _, hp2⟩
          · rw [h] at hty; simp at hty
          · rw [hq]; exact ⟨b, o, A t, C t, ha, hp2.cell t hty, hp2.sl t hty⟩
        rw [← hp, ← hq] at HTB
        rw [← hp] at h9
        have HCE : Hid (∀ y, Below wr.heap.size wr y → y.cell? ⟨ab, ao + t, none⟩ = some (.slice A p.length C) ∧ y.cell? ⟨bb, bo + t, none⟩ = some (.slice A' q.length C')) := hid fun y hy => by
          have h0 := HB.out.trans (hy.mono HB.out.size)
          exact ⟨by rw [World.cell?_of_block (h0.block ab (cell_lt hca))]; exact hca, by rw [World.cell?_of_block (h0.block bb (cell_lt hcb))]; exact hcb⟩
        have HSM : Hid (∀ y, Below wr.heap.size wr y → Calls Try.prog 28 #[.slice A p.length C, .slice A' q.length C'] y fun e w' => e = .returned (.bool (decide (p = q))) ∧ Below y.heap.size y w') := hid fun y hy =>
          same_any ok ok' A A' C C' p q y (hsa.below (HB.out.trans (hy.mono HB.out.size))) (hsb.below (HB.out.trans (hy.mono HB.out.size))) h9
        have hFIN : p ≠ q → decide (xs = ys) = false := fun h => decide_eq_false fun e => h (by rw [hp, hq, e])
        have HFIN := hid hFIN
        obtain ⟨T, hT⟩ : ∃ T, T = decide (p = q) := ⟨_, rfl⟩
        rw [← hT] at HSM
        have HTE := hid hT
        obtain ⟨np, hnp⟩ : ∃ np, np = p.length := ⟨_, rfl⟩
        obtain ⟨nq, hnq⟩ : ∃ nq, nq = q.length := ⟨_, rfl⟩
        rw [← hnp, ← hnq] at HCE HSM
        clear hlt htx hty hmem h9 hp hq hca hsa hcb hsb hFIN hT hnp hnq HX HY
        go_wp2_with fail
        refine wp_region_grows 10 [EqA (.slice (some ⟨ab, ao, none⟩) n c), EqA (.int .i64 (t : Int)), EqA (.pointer (some ⟨ab, ao + t, none⟩)), EqA (.slice A np C), EqA (.slice (some ⟨bb, bo, none⟩) n d), EqA (.int .i64 (t : Int)), EqA (.pointer (some ⟨bb, bo + t, none⟩)), EqA (.slice A' nq C'), EqA (.bool T), EqA (.bool (!T))] (by kernel_rfl) (by decide) (by kernel_rfl) ?_ ?_ ?_
        · repeat' (first | exact List.forall_mem_nil _ | refine List.forall_mem_cons.2 ⟨?_, ?_⟩)
          all_goals
            intro w w' v hw h
            exact h
        · simp only [AllLt]
          refine ⟨⟨⟨⟨⟨⟨⟨⟨⟨⟨trivial, ?_⟩, ?_⟩, ?_⟩, ?_⟩, ?_⟩, ?_⟩, ?_⟩, ?_⟩, ?_⟩, ?_⟩
          all_goals
            intro o' ho
            simp at ho
            subst ho
            intro ρ w5 hR hL hS hG
            obtain ⟨hl1, hl2, -⟩ := hL
          · refine plainG rfl ?_
            intro bA K Q' hK
            have e0 := hS 0 (by kernel_rfl)
            change ρ (.tmp 0) = _ at e0
            simp only [execOp]
            go_simp
            exact hK _ _ rfl (Grew.refl _)
          · refine plainG rfl ?_
            intro bA K Q' hK
            have e5 := hS 5 (by kernel_rfl)
            change ρ (.tmp 5) = _ at e5
            simp only [execOp]
            go_simp
            exact hK _ _ rfl (Grew.refl _)
          · refine plainG rfl ?_
            intro bA K Q' hK
            have e17 := hG 0 17 (by decide) (by kernel_rfl) (by kernel_rfl)
            have e18 := hG 1 18 (by decide) (by kernel_rfl) (by kernel_rfl)
            change ρ (.tmp 17) = _ at e17
            change ρ (.tmp 18) = _ at e18
            simp only [execOp]
            go_simp
            exact hK _ _ rfl (Grew.refl _)
          · refine plainG rfl ?_
            intro bA K Q' hK
            have e19 := hG 2 19 (by decide) (by kernel_rfl) (by kernel_rfl)
            change ρ (.tmp 19) = _ at e19
            obtain ⟨y1, y2⟩ := HCE.out w5 ⟨hR.os, hR.tape, hR.output, hR.size, hR.block⟩
            simp only [execOp]
            go_simp
            exact hK _ _ rfl (Grew.refl _)
          · refine plainG rfl ?_
            intro bA K Q' hK
            have e1 := hS 1 (by kernel_rfl)
            change ρ (.tmp 1) = _ at e1
            simp only [execOp]
            go_simp
            exact hK _ _ rfl (Grew.refl _)
          · refine plainG rfl ?_
            intro bA K Q' hK
            have e5 := hS 5 (by kernel_rfl)
            change ρ (.tmp 5) = _ at e5
            simp only [execOp]
            go_simp
            exact hK _ _ rfl (Grew.refl _)
          · refine plainG rfl ?_
            intro bA K Q' hK
            have e21 := hG 4 21 (by decide) (by kernel_rfl) (by kernel_rfl)
            have e22 := hG 5 22 (by decide) (by kernel_rfl) (by kernel_rfl)
            change ρ (.tmp 21) = _ at e21
            change ρ (.tmp 22) = _ at e22
            simp only [execOp]
            go_simp
            exact hK _ _ rfl (Grew.refl _)
          · refine plainG rfl ?_
            intro bA K Q' hK
            have e23 := hG 6 23 (by decide) (by kernel_rfl) (by kernel_rfl)
            change ρ (.tmp 23) = _ at e23
            obtain ⟨y1, y2⟩ := HCE.out w5 ⟨hR.os, hR.tape, hR.output, hR.size, hR.block⟩
            simp only [execOp]
            go_simp
            exact hK _ _ rfl (Grew.refl _)
          · refine plainG rfl ?_
            intro bA K Q' hK
            have e20 := hG 3 20 (by decide) (by kernel_rfl) (by kernel_rfl)
            have e24 := hG 7 24 (by decide) (by kernel_rfl) (by kernel_rfl)
            change ρ (.tmp 20) = _ at e20
            change ρ (.tmp 24) = _ at e24
            simp only [execOp]
            go_simp
            refine (HSM.out w5 ⟨hR.os, hR.tape, hR.output, hR.size, hR.block⟩).mono ?_
            rintro r9 w9 ⟨rfl, hb9⟩
            exact hK _ _ rfl hb9
          · refine plainG rfl ?_
            intro bA K Q' hK
            have e25 := hG 8 25 (by decide) (by kernel_rfl) (by kernel_rfl)
            change ρ (.tmp 25) = _ at e25
            simp only [execOp]
            go_simp
            exact hK _ _ rfl (Grew.refl _)
        · intro vv w2 hR hG
          have h9 : vv 9 = .bool (!T) := hG.2
          have hb2 : Below wr.heap.size wr w2 := ⟨hR.os, hR.tape, hR.output, hR.size, hR.block⟩
          have HB2 := hid (HB.out.trans (hb2.mono HB.out.size))
          clear hG hR hb2 HCE HSM
          simp [stG, stU, dstAt, Act.put, h9]
          clear h9
          by_cases hpq : p = q
          · have hTT : T = true := by rw [HTE.out]; exact decide_eq_true hpq
            have HNX := hid (HTB.out.2 hpq)
            subst hTT
            clear HTE HTB hpq
            go_wp2_with fail
            go_roundw
            case rel => exact ⟨t + 1, HLT.out, by have h1 := HLT.out; have h2 : (t : Int) < 100000 := (by omega); go_num, HNX.out, HB2.out⟩
            case measure => simp [intOf]; have := HLT.out; omega
          · have hTT : T = false := by rw [HTE.out]; exact decide_eq_false hpq
            have HNX := hid (HFIN.out hpq)
            subst hTT
            clear HTE HTB hpq
            go_wp2_with fail
            go_ret
            exact ⟨by rw [HNX.out]; rfl, HB2.out⟩
      · have hti : (t < n) = False := eq_false hlt
        have HEQ : Hid (xs = ys) := hid (by
          have h := HE.out
          rwa [List.take_of_length_le (by rw [← HN.out]; omega), List.take_of_length_le (by rw [← HLN.out, ← HN.out]; omega)] at h)
        clear hlt
        go_wp2_with fail
        go_ret
        exact ⟨by rw [decide_eq_true HEQ.out]; rfl, HB.out⟩
  · have hne : ((xs.length : Int) != ys.length) = true := by rw [bne_iff_ne]; omega
    have HF : Hid (decide (xs = ys) = false) := hid (decide_eq_false fun e => hln (by rw [e]))
    obtain ⟨n, hn⟩ : ∃ n, n = xs.length := ⟨_, rfl⟩
    obtain ⟨m, hm⟩ : ∃ m, m = ys.length := ⟨_, rfl⟩
    rw [← hn, ← hm] at hne ⊢
    clear hx hy hl h8 hln hn hm
    go_enter Try.func12, Try.ntmps12
    go_wp2_with fail
    go_ret
    exact ⟨by rw [HF.out]; rfl, Below.refl _ _⟩
end Go.Proofs.Ytbhpfdpcafdeaaa
