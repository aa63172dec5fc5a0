/- CONTRACTS: numbers that fit, added; an array made. -/
import Derived.Test.YtcgapplblhbdlaaPkE
namespace Go.Proofs.Ytcgapplblhbdlaa
open Go.RowKit Go.Inc

theorem OwnNew.trans {x y : World} {v v' v'' : Value} (h : OwnNew x v v') (k : OwnNew y v' v'') (hs : x.heap.size ≤ y.heap.size) : OwnNew x v v'' := fun g hg => by
  rcases k g hg with h1 | h1
  · exact h g h1
  · exact .inr (Nat.le_trans hs h1)
/-- What turned, seen from the start. -/
theorem own2_back {x y z : World} {b : Nat} {v v' : Value} (h : Mv (Own2 b v) x y) (k : Mv (Own2 b v') y z) (ho : OwnNew x v v') : Mv (Own2 b v) x z :=
  h.trans' k fun i hi hf => by
    rcases hf with rfl | hf
    · exact .inl rfl
    · rcases ho i hf with h1 | h1
      · exact .inr h1
      · omega
set_option maxRecDepth 20000 in
set_option maxHeartbeats 1000000 in
/-- Numbers that fit, added. -/
theorem pkAdd_any (ok : Nat → Prop) (x : World) (b B : Nat) (v : Value) (w : Nat) (l W : List Nat) (a : Option Addr) (c : Nat) (ms : List Nat) (h : PkAt x b v w l W B) (hs : Si ok x a (nI ms)) (hok : ∀ i, ok i → ¬ Own2 b v i) (hl : l.length + ms.length ≤ 65536) (hfit : FitsP w ms) (hB : B ≤ x.heap.size) :
    Calls Try.prog 13 #[.pointer (some ⟨b, 0, none⟩), .slice a ms.length c] x fun e w' => e = .returned (.int .i64 0) ∧ (∃ v' V, PkAt w' b v' w (l ++ ms) V B ∧ OwnNew x v v') ∧ Mv (Own2 b v) x w' := by
  obtain ⟨x1, hx1⟩ : ∃ x1, x1 = x.alloc (.cells #[.pointer (some ⟨b, 0, none⟩)] 24) := ⟨_, rfl⟩
  obtain ⟨bx, hbx⟩ : ∃ bx, bx = x.heap.size := ⟨_, rfl⟩
  have hb1 : Below x.heap.size x x1 := by rw [hx1]; exact (Below.refl _ _).alloc (Nat.le_refl _) _
  have hrow1 : x1.heap[bx]? = some (.cells #[.pointer (some ⟨b, 0, none⟩)] 24 (0, 0)) := by rw [hx1, hbx]; exact heap_alloc_new x _
  have hP1 := h.below hb1
  have hS1 : Si (fun i => ok i ∧ i < bx) x1 a (nI ms) := (hs.mono fun i hi hlt => ⟨hi, by rw [hbx]; exact hlt⟩).below hb1
  have hcb : x1.cell? ⟨bx, 0, none⟩ = some (.pointer (some ⟨b, 0, none⟩)) := by rw [cell_of_row _ _ _ _ _ _ hrow1]; rfl
  have hsz : x.heap.size ≤ x1.heap.size := hb1.size
  have hbxlt : bx < x1.heap.size := row_lt hrow1
  have hbb : bx ≠ b := by have := h.raw.blt; omega
  have hbv : v.ownBlock ≠ some bx := fun e => by have := h.raw.glt _ e; omega
  have HC := hid (containsB_any _ a c (nI ms) x1 w bx hS1 (by rw [nI_len]; omega) (fun z => pkBad_any _ bx b w z hcb hP1.raw.c0 h.w1 h.w2))
  rw [allF_of hfit, nI_len] at HC
  have HG := hid (pkGrow_any x1 b B ms.length v w l.length W hP1.raw h.w2 hl h.wd.len (Nat.le_trans hB hsz))
  obtain ⟨k, hk⟩ : ∃ k, k = ms.length := ⟨_, rfl⟩
  obtain ⟨n, hn⟩ : ∃ n, n = l.length := ⟨_, rfl⟩
  have HK := hid hk
  have HN := hid hn
  have hc1 : x1.cell? ⟨b, 1, none⟩ = some (.int .i64 (n : Int)) := by rw [hn]; exact hP1.raw.c1
  rw [← hk] at HC HG ⊢
  rw [← hn] at HG
  have hlong : ((65536 : Int) - (n : Int) < (k : Int)) = False := eq_false (by omega)
  have hnk : (n : Int) + (k : Int) ≤ 65536 := by omega
  have hw65 : IntKind.i64.wrap (65536 - (n : Int)) = 65536 - (n : Int) := by rw [IntKind.wrap_i64]; omega
  have HX1 := hid hx1
  have HH := hid h
  have HFIT := hid hfit
  have HOK := hid hok
  have HS1 := hid hS1
  have HB1 := hid hb1
  have HBX := hid hbx
  have HBB := hid (And.intro hbb hbv)
  have HROW := hid hrow1
  clear hk hn hs hl hfit hB hx1 h hok hS1 hP1 hb1 hsz hbx hbb hbv hrow1 hbxlt
  go_enter Try.func13, Try.ntmps13
  go_wp2_with fail
  rw [← HBX.out, ← HX1.out]
  refine HC.out.mono ?_
  rintro e w1 ⟨rfl, rfl⟩
  go_wp2_with fail
  refine HG.out.mono ?_
  rintro e x2 ⟨rfl, ⟨v', hraw, hnew⟩, hmv⟩
  obtain ⟨W2, hW2⟩ : ∃ W2, W2 = W ++ List.replicate ((w * (n + k) + 63) / 64 - W.length) 0 := ⟨_, rfl⟩
  rw [← hW2] at hraw
  have hat2 : PkAt x2 b v' w (l ++ (ms.take 0 ++ List.replicate k 0)) W2 B := by
    have hln := HN.out
    have h := HH.out
    refine ⟨?_, h.w1, h.w2, ?_, h.fit.append (FitsP.zeros w k), ?_⟩
    · rw [List.length_append, List.take_zero, List.nil_append, List.length_replicate, ← hln]; exact hraw
    · rw [List.length_append, List.take_zero, List.nil_append, List.length_replicate]; omega
    · rw [hW2, List.take_zero, List.nil_append]
      exact h.wd.grow k _ (by rw [hln])
  have hok2 : ∀ i, (ok i ∧ i < bx) → ¬ Own2 b v' i := fun i hi hf => by
    have h1 := HOK.out i hi.1
    rcases hf with rfl | hf
    · exact h1 (.inl rfl)
    · rcases hnew i hf with h2 | h2
      · exact h1 (.inr h2)
      · have := row_lt HROW.out; omega
  have hS2 : Si (fun i => ok i ∧ i < bx) x2 a (nI ms) := HS1.out.kept fun i hi hlt => hmv.block i hlt (HOK.out i hi.1)
  have hbn : ¬ Own2 b v bx := fun hf => by
    rcases hf with hf | hf
    · exact HBB.out.1 hf
    · exact HBB.out.2 hf
  have hbn2 : ¬ Own2 b v' bx := fun hf => by
    rcases hf with hf | hf
    · exact HBB.out.1 hf
    · rcases hnew bx hf with h2 | h2
      · exact HBB.out.2 h2
      · have := row_lt HROW.out; omega
  have HROW2 := hid (hmv.row HROW.out hbn)
  have HS2 := hid hS2
  have HAT2 := hid hat2
  have HOK2 := hid hok2
  have HBN2 := hid hbn2
  have HMV := hid ((Mv.of_below (F := Own2 b v) HB1.out).trans hmv)
  have HNEW : Hid (OwnNew x v v') := hid fun g hg => (hnew g hg).imp id fun h => Nat.le_trans HB1.out.size h
  clear hraw hW2 hat2 hok2 hS2 hbn hbn2 hmv hnew hcb hc1 HG HC HH HS1 HROW HBB HX1 HBX HB1 HOK
  go_wp2_with fail
  go_loopw [34] (fun i wr => ∃ (t : Nat) (V : List Nat), t ≤ k ∧ i = .int .i64 (t : Int) ∧ PkAt wr b v' w (l ++ (ms.take t ++ List.replicate (k - t) 0)) V B ∧ Mv (Own2 b v') x2 wr) (fun i _ => k - (intOf i).toNat)
  case atStart => exact ⟨0, W2, Nat.zero_le _, rfl, by rw [Nat.sub_zero]; exact HAT2.out, Mv.refl _ _⟩
  case round =>
    clear HAT2
    obtain ⟨t, V, ht, rfl, hat, hm⟩ := hrel
    have HAT := hid hat
    have HM := hid hm
    clear hat hm
    by_cases hlt : (t : Int) < k
    · obtain ⟨b0, o0, rfl, hc⟩ : ∃ b0 o0, a = some ⟨b0, o0, none⟩ ∧ wr.cell? ⟨b0, o0 + t, none⟩ = some (.int .i64 ((nI ms).getD t 0)) := by
        have hS := HS2.out.kept fun i hi hlt => HM.out.block i hlt (HOK2.out i hi)
        rcases hS with h | ⟨b0, o0, h, _, hc⟩
        · have := HK.out; rw [← nI_len, h] at this; simp at this; omega
        · exact ⟨b0, o0, h, hc t (by rw [nI_len, ← HK.out]; omega)⟩
      rw [nI_get] at hc
      have HLS := hid (lay_set l ms t (k - t) (by rw [← HK.out]; omega) (by rw [← HK.out]))
      have hmf := HFIT.out.get t
      obtain ⟨m, hm⟩ : ∃ m, m = ms.getD t 0 := ⟨_, rfl⟩
      rw [← hm] at hc HLS hmf
      obtain ⟨N, hN⟩ : ∃ N, N = l.length + t := ⟨_, rfl⟩
      rw [← hN] at HLS
      have hNi : (n : Int) + (t : Int) = (N : Int) := by rw [hN, ← HN.out]; omega
      have HP := hid (pkPut_any wr b N B m v' w _ V HAT.out (by rw [List.length_append, List.length_append, List.length_replicate, List.length_take, ← HK.out]; omega) hmf)
      rw [HLS.out] at HP
      have hcx : wr.cell? ⟨bx, 0, none⟩ = some (.pointer (some ⟨b, 0, none⟩)) := by rw [cell_of_row _ _ _ _ _ _ (HM.out.row HROW2.out HBN2.out)]; rfl
      have htk : (t < k) = True := eq_true (by omega)
      have hNb : (N : Int) ≤ 65536 := by omega
      clear hm hN hmf HLS HAT
      go_wp2_with fail
      refine HP.out.mono ?_
      rintro e x3 ⟨rfl, ⟨V3, hV3⟩, hm3⟩
      have HV3 := hid hV3
      have HM3 := hid (HM.out.trans hm3)
      clear hV3 hm3 HP HM hc hcx
      go_wp2_with fail
      go_roundw
      case rel => exact ⟨t + 1, V3, by omega, by go_num, by rw [show k - (t + 1) = k - t - 1 from by omega]; exact HV3.out, HM3.out⟩
      case measure => simp [intOf]; omega
    · have htk : (t < k) = False := eq_false (by omega)
      have HTK : Hid (t = k) := hid (by omega)
      clear hlt
      go_wp2_with fail
      go_ret
      refine ⟨rfl, ⟨v', V, ?_, HNEW.out⟩, own2_back HMV.out HM.out HNEW.out⟩
      have h := HAT.out
      rw [HTK.out, Nat.sub_self, List.replicate_zero, List.append_nil, List.take_of_length_le (by rw [← HK.out]; omega)] at h
      exact h
end Go.Proofs.Ytcgapplblhbdlaa
