/- CONTRACTS: one entry more: what is wrong; all of it. -/
import Derived.Test.YtokeihpmagcneaaPnH1
namespace Go.Inc
open Go.RowKit
theorem ndF_none : NdF (.agg #[.bool false, .slice none 0 0]) := ⟨false, none, 0, 0, rfl⟩
theorem wiE_chk {lf : Bool} {es : List Et} {e : Et} (h : chkN lf es ≠ 0) : wiE lf es e = chkN lf es := if_pos h
theorem wiE_rng {lf : Bool} {es : List Et} {e : Et} (h : chkN lf es = 0) (h2 : okE e = false) : wiE lf es e = 10 := by
  unfold wiE
  rw [if_neg (by rw [h]; decide), if_pos h2]
theorem wiE_full {lf : Bool} {es : List Et} {e : Et} (h : chkN lf es = 0) (h2 : okE e = true) (h3 : inK es e.1 = false) (h4 : 16 ≤ es.length) : wiE lf es e = 6 := by
  unfold wiE
  rw [if_neg (by rw [h]; decide), if_neg (by rw [h2]; decide), if_pos ⟨h3, h4⟩]
theorem wiE_ok {lf : Bool} {es : List Et} {e : Et} (h : chkN lf es = 0) (h2 : okE e = true) (h3 : inK es e.1 = true ∨ es.length < 16) : wiE lf es e = 0 := by
  unfold wiE
  rw [if_neg (by rw [h]; decide), if_neg (by rw [h2]; decide), if_neg]
  rintro ⟨h4, h5⟩
  rcases h3 with h3 | h3
  · rw [h3] at h4; cases h4
  · omega
end Go.Inc
namespace Go.Proofs.Ytokeihpmagcneaa
open Go.RowKit Go.Inc

set_option maxRecDepth 20000 in
set_option maxHeartbeats 4000000 in
theorem with_err (a : Option Addr) (n c : Nat) (lf : Bool) (es : List Et) (s z p : Int) (w : World) (hnd : NdOk w a n c es) (hbad : wiE lf es ((s, z), p) ≠ 0) :
    Calls Try.prog 26 #[.agg #[.bool lf, .slice a n c], .agg #[.int .i64 s, .int .i64 z, .int .i64 p]] w fun e w' => e = .returned (.tuple #[.agg #[.bool false, .slice none 0 0], .int .i64 (wiE lf es ((s, z), p))]) ∧ Below w.heap.size w w' := by
  have HN := hid hnd.1
  have HBAD := hid hbad
  obtain ⟨g, hg⟩ : ∃ g, g = w.heap.size := ⟨_, rfl⟩
  have HG := hid hg
  obtain ⟨w0, hw0⟩ : ∃ w0, w0 = ((w.alloc (.cells #[.bool lf, .slice a n c] 27)).alloc (.cells #[.int .i64 s, .int .i64 z, .int .i64 p] 57)).alloc (.cells #[.bool false, .slice none 0 0] 27) := ⟨_, rfl⟩
  have HW0 := hid hw0
  have HB0 : Hid (Below w.heap.size w w0) := hid (by rw [hw0]; exact (((Below.refl _ _).alloc (Nat.le_refl _) _).alloc (by simp) _).alloc (by simp; omega) _)
  have hx1 : w0.heap[g]? = some (.cells #[.bool lf, .slice a n c] 27 (0, 0)) := by rw [hw0, hg]; exact row_below (heap_alloc2_old w _ _) (allocBelow _ _)
  have hx2 : w0.heap[g + 1]? = some (.cells #[.int .i64 s, .int .i64 z, .int .i64 p] 57 (0, 0)) := by rw [hw0, hg]; exact row_below (heap_alloc2_new w _ _) (allocBelow _ _)
  have hx3 : w0.heap[g + 1 + 1]? = some (.cells #[.bool false, .slice none 0 0] 27 (0, 0)) := by
    rw [hw0, hg]
    have h := heap_alloc_new ((w.alloc (.cells #[.bool lf, .slice a n c] 27)).alloc (.cells #[.int .i64 s, .int .i64 z, .int .i64 p] 57)) (.cells #[.bool false, .slice none 0 0] 27)
    simpa using h
  have HX1 := hid hx1
  have HX2 := hid hx2
  have HX3 := hid hx3
  have HND := hid hnd
  obtain ⟨C, hC⟩ : ∃ C, C = chkN lf es := ⟨_, rfl⟩
  have h7 := check_any a n c lf es w0 (hnd.below HB0.out)
  rw [← hC] at h7
  have HCK := hid h7
  obtain ⟨O, hO⟩ : ∃ O, O = okE ((s, z), p) := ⟨_, rfl⟩
  have h8 := isWrong_any s z p
  rw [← hO] at h8
  have HIW := hid h8
  have HC := hid hC
  have HO := hid hO
  obtain ⟨FF, hF⟩ : ∃ F, F = wiE lf es ((s, z), p) := ⟨_, rfl⟩
  have HF := hid hF
  rw [← hF]
  clear hnd hbad hg hw0 h7 h8 hC hO hF
  have hc0 : w0.cell? ⟨g, 0, none⟩ = some (.bool lf) := by rw [cell_of_row _ _ _ _ _ _ hx1]; rfl
  have hc1 : w0.cell? ⟨g, 1, none⟩ = some (.slice a n c) := by rw [cell_of_row _ _ _ _ _ _ hx1]; rfl
  clear hx1 hx2 hx3
  go_enter Try.func26, Try.ntmps26
  go_upto_region 1 with fail
  rw [← HW0.out, ← HG.out]
  go_wp2_with fail
  refine HCK.out.mono ?_
  clear HCK
  rintro e w1 ⟨rfl, hb⟩
  have HB1 : Hid (Below w.heap.size w w1) := hid (HB0.out.trans (hb.mono HB0.out.size))
  have hx1 := row_below HX1.out hb
  have hx2 := row_below HX2.out hb
  have HX31 := hid (row_below HX3.out hb)
  have HX11 := hid hx1
  have HX21 := hid hx2
  have hd0 : w1.cell? ⟨g + 1, 0, none⟩ = some (.int .i64 s) := by rw [cell_of_row _ _ _ _ _ _ hx2]; rfl
  have hd1 : w1.cell? ⟨g + 1, 1, none⟩ = some (.int .i64 z) := by rw [cell_of_row _ _ _ _ _ _ hx2]; rfl
  have hd2 : w1.cell? ⟨g + 1, 2, none⟩ = some (.int .i64 p) := by rw [cell_of_row _ _ _ _ _ _ hx2]; rfl
  clear hx1 hx2 hb hc0 hc1 HX1 HX2 HX3 HB0 HW0
  by_cases hC0 : C = 0
  · have HC0 := hid hC0
    have hcc : ((C : Int) != 0) = false := by rw [hC0]; rfl
    have hcc2 : (C = 0) = True := eq_true hC0
    clear hC0
    go_wp2_with fail
    refine (HIW.out w1).mono ?_
    clear HIW hcc hcc2
    rintro e w2 ⟨rfl, hb⟩
    have HB2 : Hid (Below w.heap.size w w2) := hid (HB1.out.trans (hb.mono HB1.out.size))
    have hx1 := row_below HX11.out hb
    have hx2 := row_below HX21.out hb
    have HX32 := hid (row_below HX31.out hb)
    have HX12 := hid hx1
    have HX22 := hid hx2
    clear hd0 hd1 hd2 hb HX11 HX21 HX31 HB1
    cases O with
    | false =>
      have HFF : Hid (FF = 10) := hid (HF.out.trans (wiE_rng (HC.out.symm.trans HC0.out) HO.out.symm))
      clear hx1 hx2
      go_wp2_with (refine wpList_store_own rfl 27 _ _ rfl (g + 1 + 1) #[.bool false, .slice none 0 0] rfl rfl 27 _ HX32.out (by kernel_rfl) rfl (by simp [Value.oneCell']) ?_)
      intro w9 hr9 hg9
      have HB9 : Hid (Below w.heap.size w w9) := hid (HB2.out.grown hg9 HB2.out.size fun k hk => by have := HG.out; cases hk; omega)
      have HR9 := hid hr9
      clear hr9 hg9
      go_wp2_with fail
      refine bodyPost_ret (v := .tuple #[.agg #[.bool false, .slice none 0 0], .int .i64 10]) (resWI _ _ #[.bool false, .slice none 0 0] _ rfl HR9.out rfl) rfl ⟨?_, HB9.out⟩
      rw [HFF.out]
    | true =>
      obtain ⟨c1, c2, c3, -⟩ := chkN_zero (HC.out.symm.trans HC0.out)
      have hln : (n : Int) ≤ 16 := by have := HN.out; omega
      have hncn := HND.out.2.2.2.2.1.1
      have hnc : (n : Int) ≤ c := by omega
      have HFD := hid (find_any a n c lf es s z w2 (HND.out.below HB2.out) c1 c2 c3)
      have HLE := hid c1
      have HBD := hid c2
      have hd0 : w2.cell? ⟨g + 1, 0, none⟩ = some (.int .i64 s) := by rw [cell_of_row _ _ _ _ _ _ hx2]; rfl
      have hd1 : w2.cell? ⟨g + 1, 1, none⟩ = some (.int .i64 z) := by rw [cell_of_row _ _ _ _ _ _ hx2]; rfl
      have hc0 : w2.cell? ⟨g, 0, none⟩ = some (.bool lf) := by rw [cell_of_row _ _ _ _ _ _ hx1]; rfl
      have hc1 : w2.cell? ⟨g, 1, none⟩ = some (.slice a n c) := by rw [cell_of_row _ _ _ _ _ _ hx1]; rfl
      clear hx1 hx2 c1 c2 c3 hncn
      go_wp2_with fail
      refine HFD.out.mono ?_
      clear HFD
      rintro e w3 ⟨⟨i, B, rfl, hf⟩, hb⟩
      have HB3 : Hid (Below w.heap.size w w3) := hid (HB2.out.trans (hb.mono HB2.out.size))
      have hx1 := row_below HX12.out hb
      have HX33 := hid (row_below HX32.out hb)
      have hin : (i : Int) ≤ n := by have := hf.1; have := HN.out; omega
      have HIS := hid (hf.is HBD.out)
      clear hd0 hd1 hc0 hc1 hb HX12 HX22 HX32 HB2 hf
      have hc1 : w3.cell? ⟨g, 1, none⟩ = some (.slice a n c) := by rw [cell_of_row _ _ _ _ _ _ hx1]; rfl
      clear hx1
      cases B with
      | true => exact absurd (wiE_ok (HC.out.symm.trans HC0.out) HO.out.symm (.inl HIS.out.symm)) HBAD.out
      | false =>
        have h16 : 16 ≤ es.length := Nat.le_of_not_lt fun h => HBAD.out (wiE_ok (HC.out.symm.trans HC0.out) HO.out.symm (.inr h))
        have HFF : Hid (FF = 6) := hid (HF.out.trans (wiE_full (HC.out.symm.trans HC0.out) HO.out.symm HIS.out.symm h16))
        have hn16 : ((n : Int) == 16) = true := by rw [beq_iff_eq]; have := HN.out; have := HLE.out; omega
        have hn16' : (n = 16) = True := eq_true (by have := HN.out; have := HLE.out; omega)
        obtain ⟨ab, hab⟩ : ∃ ab, (if c = i then a else a.map fun x => x.add (i * 3)) = ab := ⟨_, rfl⟩
        clear h16
        go_upto_region 11 with fail
        clear hn16 hn16' hln hab
        go_wp2_with (refine wpList_store_own rfl 27 _ _ rfl (g + 1 + 1) #[.bool false, .slice none 0 0] rfl rfl 27 _ HX33.out (by kernel_rfl) rfl (by simp [Value.oneCell']) ?_)
        intro w9 hr9 hg9
        have HB9 : Hid (Below w.heap.size w w9) := hid (HB3.out.grown hg9 HB3.out.size fun k hk => by have := HG.out; cases hk; omega)
        have HR9 := hid hr9
        clear hr9 hg9
        go_wp2_with fail
        refine bodyPost_ret (v := .tuple #[.agg #[.bool false, .slice none 0 0], .int .i64 6]) (resWI _ _ #[.bool false, .slice none 0 0] _ rfl HR9.out rfl) rfl ⟨?_, HB9.out⟩
        rw [HFF.out]
  · have hcc : ((C : Int) != 0) = true := by rw [bne_iff_ne]; exact hC0
    have hcc2 : (C = 0) = False := eq_false hC0
    have HFF : Hid (FF = C) := hid (HF.out.trans ((wiE_chk (by rw [← HC.out]; exact hC0)).trans HC.out.symm))
    clear hC0 hd0 hd1 hd2
    go_wp2_with (refine wpList_store_own rfl 27 _ _ rfl (g + 1 + 1) #[.bool false, .slice none 0 0] rfl rfl 27 _ HX31.out (by kernel_rfl) rfl (by simp [Value.oneCell']) ?_)
    intro w9 hr9 hg9
    have HB9 : Hid (Below w.heap.size w w9) := hid (HB1.out.grown hg9 HB1.out.size fun k hk => by have := HG.out; cases hk; omega)
    have HR9 := hid hr9
    clear hr9 hg9
    go_wp2_with fail
    refine bodyPost_ret (v := .tuple #[.agg #[.bool false, .slice none 0 0], .int .i64 C]) (resWI _ _ #[.bool false, .slice none 0 0] _ rfl HR9.out rfl) rfl ⟨?_, HB9.out⟩
    rw [HFF.out]
theorem with_any (a : Option Addr) (n c : Nat) (lf : Bool) (es : List Et) (s z p : Int) (w : World) (hnd : NdOk w a n c es) (_ : fitsE ((s, z), p)) :
    Calls Try.prog 26 #[.agg #[.bool lf, .slice a n c], .agg #[.int .i64 s, .int .i64 z, .int .i64 p]] w fun e w' => (∃ v, e = .returned (.tuple #[v, .int .i64 (wiE lf es ((s, z), p))]) ∧ NdF v ∧ (wiE lf es ((s, z), p) = 0 → NdV w' v lf (insE es ((s, z), p)))) ∧ Below w.heap.size w w' := by
  by_cases h0 : wiE lf es ((s, z), p) = 0
  · have hck : chkN lf es = 0 := by
      by_cases h : chkN lf es = 0
      · exact h
      · rw [wiE_chk h] at h0; exact h0
    have hok : okE ((s, z), p) = true := by
      cases h : okE ((s, z), p)
      · rw [wiE_rng hck h] at h0; exact absurd h0 (by decide)
      · rfl
    rw [h0]
    cases hi : inK es (s, z)
    · have hl : es.length < 16 := Nat.lt_of_not_le fun h => absurd ((wiE_full hck hok hi h).symm.trans h0) (by decide)
      refine (with_out a n c lf es s z p w hnd hck hok hi hl).mono ?_
      rintro e w' ⟨⟨v, rfl, hv⟩, hb⟩
      obtain ⟨a', n', c', rfl, h⟩ := hv
      exact ⟨⟨_, rfl, ⟨_, _, _, _, rfl⟩, fun _ => ⟨a', n', c', rfl, h⟩⟩, hb⟩
    · refine (with_in a n c lf es s z p w hnd hck hok hi).mono ?_
      rintro e w' ⟨⟨v, rfl, hv⟩, hb⟩
      obtain ⟨a', n', c', rfl, h⟩ := hv
      exact ⟨⟨_, rfl, ⟨_, _, _, _, rfl⟩, fun _ => ⟨a', n', c', rfl, h⟩⟩, hb⟩
  · refine (with_err a n c lf es s z p w hnd h0).mono ?_
    rintro e w' ⟨rfl, hb⟩
    exact ⟨⟨_, rfl, ndF_none, fun h => absurd h h0⟩, hb⟩
end Go.Proofs.Ytokeihpmagcneaa
