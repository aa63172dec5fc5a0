/- CONTRACTS: ranks, counts, bits asked for; a row's ones, its bytes; no row. -/
import Derived.Test.YtjcapiibeekfkaaRnD
import Derived.Test.YtjcapiibeekfkaaVarE
import Derived.Test.YtjcapiibeekfkaaRkC
namespace Go.Inc
open Go.RowKit
theorem byte_of_word {W : List Nat} {m : List Bool} (h : WdR W m) (i : Nat) : W.getD (i / 8) 0 / 2 ^ (8 * (i % 8)) % 256 = accB (inB m) (8 * i) 8 := by
  refine byte_same (Nat.mod_lt _ (by decide)) (accB_lt _ _ 8) fun j hj => ?_
  rw [accB_bit _ _ 8 j (Nat.le_refl _) hj, show (256 : Nat) = 2 ^ 8 from rfl, Nat.testBit_mod_two_pow, decide_eq_true hj, Bool.true_and, Nat.testBit_div_two_pow, h.at (by omega)]
  congr 1; omega
end Go.Inc
namespace Go.Proofs.Ytjcapiibeekfkaa
open Go.RowKit Go.Inc

theorem rOnes_fnd (x : World) (b i : Nat) (m : List Bool) (v : Value) (W : List Nat) (vb vw : Value) (h : RkF x b m v W vb vw) (hi : i ≤ m.length) :
    Calls Try.prog 45 #[.pointer (some ⟨b, 0, none⟩), .int .i64 (i : Int)] x fun e w' => e = .returned (.int .i64 ((rkB m true i : Nat) : Int)) ∧ ∃ j, w' = x.drewN j := by
  refine (rOnes_of x b i m v W (fun w _ _ => w = x) hi ((rDir_found x b m v W vb vw h).mono fun e w' he => ⟨he.1, vb, vw, by rw [he.2]; exact h, he.2⟩)).mono ?_
  rintro e w' ⟨he, w1, _, _, _, rfl, j, hj⟩
  exact ⟨he, j, hj⟩
theorem rOnes_any (x : World) (b i : Nat) (m : List Bool) (v : Value) (W : List Nat) (vb vw : Value) (h : RkQ x b m v W vb vw) (hi : i ≤ m.length) :
    Calls Try.prog 45 #[.pointer (some ⟨b, 0, none⟩), .int .i64 (i : Int)] x fun e w' => e = .returned (.int .i64 ((rkB m true i : Nat) : Int)) ∧ Fnd x b m v W vb vw w' := by
  refine (rOnes_of x b i m v W (fun w vb' vw' => OwN x vb vb' ∧ OwN x vw vw' ∧ Mv (fun i => i = b) x w) hi ((rDir_any x b m v W vb vw h).mono fun e w' he => ⟨he.1, he.2⟩)).mono ?_
  rintro e w' ⟨he, w1, vb', vw', hf, ⟨h1, h2, h3⟩, j, rfl⟩
  exact ⟨he, vb', vw', hf.below (below_drewN _ _), h1, h2, h3.drewN j⟩
/-- Ones or zeros. -/
theorem rAhead_of (x : World) (b i : Nat) (one : Bool) (m : List Bool) (Q : World → Prop) (hi : i ≤ 65536)
    (ho : Calls Try.prog 45 #[.pointer (some ⟨b, 0, none⟩), .int .i64 (i : Int)] x fun e w' => e = .returned (.int .i64 ((rkB m true i : Nat) : Int)) ∧ Q w') :
    Calls Try.prog 33 #[.pointer (some ⟨b, 0, none⟩), .bool one, .int .i64 (i : Int)] x fun e w' => e = .returned (.int .i64 ((rkB m one i : Nat) : Int)) ∧ Q w' := by
  have HO := hid ho
  have hle := rkB_le m true i
  have HF : Hid (rkB m false i = i - rkB m true i) := hid (rkB_false m i)
  obtain ⟨R, hR⟩ : ∃ R, R = rkB m true i := ⟨_, rfl⟩
  rw [← hR] at HO HF hle
  have HR := hid hR
  clear ho hR
  cases one
  · obtain ⟨S, hS⟩ : ∃ S, S = i - R := ⟨_, rfl⟩
    have hs : (i : Int) - (R : Int) = (S : Int) := by omega
    have hsw : IntKind.i64.wrap (S : Int) = (S : Int) := by rw [IntKind.wrap_i64]; omega
    rw [HF.out, ← hS]
    clear hS hle hi
    go_enter Try.func33, Try.ntmps33
    go_wp2_with fail
    refine HO.out.mono ?_
    rintro e w1 ⟨rfl, hq⟩
    have HQ := hid hq
    clear hq
    go_wp2_with fail
    go_ret
    exact ⟨rfl, HQ.out⟩
  · rw [← HR.out]
    clear hle hi
    go_enter Try.func33, Try.ntmps33
    go_wp2_with fail
    refine HO.out.mono ?_
    rintro e w1 ⟨rfl, hq⟩
    have HQ := hid hq
    clear hq
    go_wp2_with fail
    go_ret
    exact ⟨rfl, HQ.out⟩
theorem rAhead_fnd (x : World) (b i : Nat) (one : Bool) (m : List Bool) (v : Value) (W : List Nat) (vb vw : Value) (h : RkF x b m v W vb vw) (hi : i ≤ m.length) :
    Calls Try.prog 33 #[.pointer (some ⟨b, 0, none⟩), .bool one, .int .i64 (i : Int)] x fun e w' => e = .returned (.int .i64 ((rkB m one i : Nat) : Int)) ∧ ∃ j, w' = x.drewN j :=
  rAhead_of x b i one m _ (by have := h.le; omega) (rOnes_fnd x b i m v W vb vw h hi)
theorem rAhead_any (x : World) (b i : Nat) (one : Bool) (m : List Bool) (v : Value) (W : List Nat) (vb vw : Value) (h : RkQ x b m v W vb vw) (hi : i ≤ m.length) :
    Calls Try.prog 33 #[.pointer (some ⟨b, 0, none⟩), .bool one, .int .i64 (i : Int)] x fun e w' => e = .returned (.int .i64 ((rkB m one i : Nat) : Int)) ∧ Fnd x b m v W vb vw w' :=
  rAhead_of x b i one m _ (by have := h.le; omega) (rOnes_any x b i m v W vb vw h hi)
theorem rCount1_any (x : World) (b : Nat) (one : Bool) (m : List Bool) (v : Value) (W : List Nat) (vb vw : Value) (h : RkQ x b m v W vb vw) :
    Calls Try.prog 21 #[.pointer (some ⟨b, 0, none⟩), .bool one] x fun e w' => e = .returned (.int .i64 ((rkB m one m.length : Nat) : Int)) ∧ Fnd x b m v W vb vw w' := by
  have HA := hid (rAhead_any x b m.length one m v W vb vw h (Nat.le_refl _))
  have k0 := h.c0
  obtain ⟨n, hn⟩ : ∃ n, n = m.length := ⟨_, rfl⟩
  rw [← hn] at HA k0 ⊢
  clear h hn
  go_enter Try.func21, Try.ntmps21
  go_wp2_with fail
  refine HA.out.mono ?_
  rintro e w1 ⟨rfl, hq⟩
  have HQ := hid hq
  clear hq
  go_wp2_with fail
  go_ret
  exact ⟨rfl, HQ.out⟩
theorem rCountN (one : Bool) (x : World) : Calls Try.prog 21 #[.pointer none, .bool one] x fun e w' => e = .returned (.int .i64 0) ∧ x = w' := by
  go_enter Try.func21, Try.ntmps21
  go_wp2_with fail
  go_ret
  exact ⟨rfl, rfl⟩
theorem rLenN (x : World) : Calls Try.prog 17 #[.pointer none] x fun e w' => e = .returned (.int .i64 0) ∧ x = w' := by
  go_enter Try.func17, Try.ntmps17
  go_wp2_with fail
  go_ret
  exact ⟨rfl, rfl⟩
theorem rLen_any (x : World) (b n : Nat) (h : x.cell? ⟨b, 0, none⟩ = some (.int .i64 (n : Int))) : Calls Try.prog 17 #[.pointer (some ⟨b, 0, none⟩)] x fun e w' => e = .returned (.int .i64 (n : Int)) ∧ x = w' := by
  go_enter Try.func17, Try.ntmps17
  go_wp2_with fail
  go_ret
  exact ⟨rfl, rfl⟩
theorem rAtN (x : World) (i : Int) : Calls Try.prog 10 #[.pointer none, .int .i64 i] x fun e w' => e = .returned (.tuple #[.bool false, .int .i64 11]) ∧ x = w' := by
  go_enter Try.func10, Try.ntmps10
  go_wp2_with fail
  go_ret2
  exact ⟨rfl, rfl⟩
theorem rRankN (x : World) (one : Bool) (i : Int) : Calls Try.prog 11 #[.pointer none, .bool one, .int .i64 i] x fun e w' => e = .returned (.tuple #[.int .i64 0, .int .i64 11]) ∧ x = w' := by
  go_enter Try.func11, Try.ntmps11
  go_wp2_with fail
  go_ret2
  exact ⟨rfl, rfl⟩
theorem rBytesN (x : World) : Calls Try.prog 27 #[.pointer none] x fun e w' => e = .returned (.slice none 0 0) ∧ x = w' := by
  go_enter Try.func27, Try.ntmps27
  go_wp2_with fail
  go_ret
  exact ⟨rfl, rfl⟩
theorem rDirectoryN (x : World) : Calls Try.prog 26 #[.pointer none] x fun e w' => e = .returned (.tuple #[.slice none 0 0, .slice none 0 0]) ∧ x = w' := by
  go_enter Try.func26, Try.ntmps26
  go_wp2_with fail
  go_ret2
  exact ⟨rfl, rfl⟩
theorem rOnesN (x : World) : Calls Try.prog 19 #[.pointer none] x fun e w' => e = .returned (.slice none 0 0) ∧ x = w' := by
  have HL := hid (rLenN x)
  go_enter Try.func19, Try.ntmps19
  go_wp2_with fail
  refine HL.out.mono ?_
  rintro e w1 ⟨rfl, rfl⟩
  go_wp2_with fail
  go_loopw [3, 7] (fun u i wr => u = .slice none 0 0 ∧ i = .int .i64 0 ∧ wr = x) (fun _ _ _ => 0)
  case atStart => exact ⟨rfl, rfl, rfl⟩
  case round =>
    obtain ⟨rfl, rfl, rfl⟩ := hrel
    go_wp2_with fail
    go_ret
    exact ⟨rfl, rfl⟩
theorem rAt_any (x : World) (b n d k all : Nat) (i : Int) (v vb vw : Value) (W D E : List Nat) (m : List Bool) (h : RwR x b n v W d k vb vw D E all) (hn : n = m.length) (hw : WdR W m) (hm : m.length ≤ 65536) :
    Calls Try.prog 10 #[.pointer (some ⟨b, 0, none⟩), .int .i64 i] x fun e w' => (∃ u, e = .returned (.tuple #[.bool u, .int .i64 (atE m i)]) ∧ (atE m i = 0 → u = inB m i.toNat)) ∧ x = w' := by
  have HH := hid (rHas_any x b n i h.c0)
  by_cases hi : 0 ≤ i ∧ i < m.length
  · have HE : Hid (atE m i = 0) := hid (by unfold atE; rw [if_pos hi])
    have hz : hasZ n i = true := by unfold hasZ; rw [hn]; exact decide_eq_true hi
    rw [hz] at HH
    obtain ⟨j, rfl⟩ := Int.eq_ofNat_of_zero_le hi.1
    have HI := hid (rIsOne_any x b n j d k all v vb vw W D E m h hw (by omega) hm)
    rw [show ((j : Int)).toNat = j from Int.toNat_natCast j]
    obtain ⟨B, hB⟩ : ∃ B, B = inB m j := ⟨_, rfl⟩
    rw [← hB] at HI ⊢
    clear h hw hm hi hz hB hn
    go_enter Try.func10, Try.ntmps10
    go_wp2_with fail
    refine HH.out.mono ?_
    rintro e w1 ⟨rfl, rfl⟩
    go_wp2_with fail
    refine HI.out.mono ?_
    rintro e w1 ⟨rfl, rfl⟩
    go_wp2_with fail
    go_ret2
    exact ⟨⟨B, by rw [HE.out]; rfl, fun _ => rfl⟩, rfl⟩
  · have HE : Hid (atE m i = 10) := hid (by unfold atE; rw [if_neg hi])
    have hz : hasZ n i = false := by unfold hasZ; rw [hn]; exact decide_eq_false hi
    rw [hz] at HH
    clear h hw hm hi hz hn
    go_enter Try.func10, Try.ntmps10
    go_wp2_with fail
    refine HH.out.mono ?_
    rintro e w1 ⟨rfl, rfl⟩
    go_wp2_with fail
    go_ret2
    exact ⟨⟨false, by rw [HE.out]; rfl, fun h => by rw [HE.out] at h; cases h⟩, rfl⟩
theorem rRank_any (x : World) (b : Nat) (one : Bool) (i : Int) (m : List Bool) (v : Value) (W : List Nat) (vb vw : Value) (h : RkQ x b m v W vb vw) :
    Calls Try.prog 11 #[.pointer (some ⟨b, 0, none⟩), .bool one, .int .i64 i] x fun e w' => (∃ z, e = .returned (.tuple #[.int .i64 z, .int .i64 (rkE m i)]) ∧ (rkE m i = 0 → z = (rkB m one i.toNat : Nat))) ∧ (x = w' ∨ Fnd x b m v W vb vw w') := by
  have k0 := h.c0
  have hle := h.le
  by_cases h0 : 0 ≤ i
  · by_cases h1 : i ≤ m.length
    · have HE : Hid (rkE m i = 0) := hid (by unfold rkE; rw [if_pos ⟨h0, h1⟩])
      obtain ⟨j, rfl⟩ := Int.eq_ofNat_of_zero_le h0
      have HA := hid (rAhead_any x b j one m v W vb vw h (by omega))
      rw [show ((j : Int)).toNat = j from Int.toNat_natCast j]
      obtain ⟨R, hR⟩ : ∃ R, R = rkB m one j := ⟨_, rfl⟩
      rw [← hR] at HA ⊢
      obtain ⟨n, hn⟩ : ∃ n, n = m.length := ⟨_, rfl⟩
      rw [← hn] at k0 h1 hle
      have h0' : ((j : Int) < 0) = False := eq_false (by omega)
      have h1' : (n < j) = False := eq_false (by omega)
      have h1'' : ((n : Int) < (j : Int)) = False := eq_false (by omega)
      clear h hR hn h0 h1 hle
      go_enter Try.func11, Try.ntmps11
      go_wp2_with fail
      refine HA.out.mono ?_
      rintro e w1 ⟨rfl, hq⟩
      have HQ := hid hq
      clear hq
      go_wp2_with fail
      go_ret2
      exact ⟨⟨_, by rw [HE.out]; rfl, fun _ => rfl⟩, .inr HQ.out⟩
    · have HE : Hid (rkE m i = 10) := hid (by unfold rkE; rw [if_neg (by omega)])
      obtain ⟨n, hn⟩ : ∃ n, n = m.length := ⟨_, rfl⟩
      rw [← hn] at k0 h1
      have h0' : (i < 0) = False := eq_false (by omega)
      have h1' : (n : Int) < i := by omega
      clear h hn h0 h1 hle
      go_enter Try.func11, Try.ntmps11
      go_wp2_with fail
      go_ret2
      exact ⟨⟨0, by rw [HE.out]; rfl, fun h => by rw [HE.out] at h; cases h⟩, .inl rfl⟩
  · have HE : Hid (rkE m i = 10) := hid (by unfold rkE; rw [if_neg (by omega)])
    have h0' : i < 0 := by omega
    clear h h0 hle
    go_enter Try.func11, Try.ntmps11
    go_wp2_with fail
    go_ret2
    exact ⟨⟨0, by rw [HE.out]; rfl, fun h => by rw [HE.out] at h; cases h⟩, .inl rfl⟩
set_option maxHeartbeats 1000000 in
theorem rOnesL_any (x : World) (b n d k all : Nat) (v vb vw : Value) (W D E : List Nat) (m : List Bool) (h : RwR x b n v W d k vb vw D E all) (hn : n = m.length) (hw : WdR W m) (hm : m.length ≤ 65536) :
    Calls Try.prog 19 #[.pointer (some ⟨b, 0, none⟩)] x fun e w' => ∃ u, e = .returned u ∧ w'.ownsRow x.heap.size 3 1 u (plcB m m.length).length (nvals (plcB m m.length)) ∧ Below x.heap.size x w' := by
  have HL := hid (rLen_any x b n h.c0)
  have HH := hid h
  have HW := hid hw
  have HN := hid hn
  have HM := hid hm
  have HPL : Hid (∀ t, t ≤ n → (plcB m t).length ≤ 65536) := hid fun t ht => by rw [plcB_len]; have := rkB_le m true t; omega
  have hnb : (n : Int) ≤ 65536 := by omega
  clear h hw hn hm
  go_enter Try.func19, Try.ntmps19
  go_wp2_with fail
  refine HL.out.mono ?_
  rintro e w1 ⟨rfl, rfl⟩
  go_wp2_with fail
  go_loopw [3, 7] (fun u i wr => ∃ t : Nat, t ≤ n ∧ i = .int .i64 (t : Int) ∧ wr.ownsRow x.heap.size 3 1 u (plcB m t).length (nvals (plcB m t)) ∧ Below x.heap.size x wr) (fun _ i _ => n - (intOf i).toNat)
  case atStart => exact ⟨0, Nat.zero_le _, rfl, World.ownsRow_nil _ _ _ _, Below.refl _ _⟩
  case round =>
    obtain ⟨t, ht, rfl, hr, hb⟩ := hrel
    have HR := hid hr
    have HB := hid hb
    clear hr hb
    by_cases hlt : (t : Int) < n
    · have HI := hid (rIsOne_any wr b n t d k all v vb vw W D E m (HH.out.below HB.out) HW.out (by have := HN.out; omega) HM.out)
      have htn : (t < n) = True := eq_true (by omega)
      have HT1 : Hid (t + 1 ≤ n) := hid (by omega)
      by_cases hbit : inB m t = true
      · have HS : Hid (plcB m (t + 1) = plcB m t ++ [t]) := hid (plcB_succ_in hbit)
        rw [hbit] at HI
        obtain ⟨L, hL⟩ : ∃ L, L = plcB m t := ⟨_, rfl⟩
        have HLL : Hid (L.length ≤ 65536) := hid (by rw [hL]; exact HPL.out t ht)
        rw [← hL] at HR HS
        clear hbit hL
        go_wp2_with fail
        refine HI.out.mono ?_
        rintro e w2 ⟨rfl, rfl⟩
        go_wp2_with (refine wpList_append_any rfl (.tmp 13) (.tmp 15) 37 rfl x.heap.size 3 (.int .i64 0) 8 Try.underlying37 infoI64 rfl _ _ _ rfl (HR.out.alloc _) (some ⟨wr.heap.size, 0, none⟩) 1 1 _ rfl rfl (by intro h; cases h) (one_new wr _ _) (by simp [Value.oneCell']) (by have := HLL.out; unfold maxLen; omega) (by have := HLL.out; omega) (by have := HB.out.size; simp; omega) ?_)
        intro v3 w3 hv3 hg3 _
        have HB3 := hid (below_owned (w0 := x) (HB.out.alloc HB.out.size _) (HR.out.alloc _) (Nat.le_refl _) hg3)
        have HV3 : Hid (w3.ownsRow x.heap.size 3 1 v3 (plcB m (t + 1)).length (nvals (plcB m (t + 1)))) := hid (by rw [HS.out, List.length_append, nvals_snoc]; exact hv3)
        clear hv3 hg3
        go_wp2_with fail
        go_roundw
        case rel => exact ⟨t + 1, HT1.out, by go_num, HV3.out, HB3.out⟩
        case measure => simp [intOf]; omega
      · have hbf : inB m t = false := by simpa using hbit
        have HS : Hid (plcB m (t + 1) = plcB m t) := hid (plcB_succ_out hbf)
        rw [hbf] at HI
        clear hbit hbf
        go_wp2_with fail
        refine HI.out.mono ?_
        rintro e w2 ⟨rfl, rfl⟩
        go_wp2_with fail
        go_roundw
        case rel => exact ⟨t + 1, HT1.out, by go_num, by rw [HS.out]; exact HR.out, HB.out⟩
        case measure => simp [intOf]; omega
    · have htn : (t < n) = False := eq_false (by omega)
      have HT : Hid (t = m.length) := hid (by have := HN.out; omega)
      clear hlt
      go_wp2_with fail
      go_ret
      exact ⟨_, rfl, by have := HR.out; rw [HT.out] at this; exact this, HB.out⟩
theorem put_one_at (z : World) (q n : Nat) (hr : z.heap[q]? = some (.cells #[.int .i64 (n : Int)] 3 (0, 0))) (hn : (n : Int) ≤ 65536) :
    Calls Try.prog 44 #[.slice (some ⟨q, 0, none⟩) 1 1] z fun e w' => ∃ v, e = .returned v ∧ Row 5 z.heap.size w' v (Var.put n) ∧ Below z.heap.size z w' := by
  have H := put_any (fun _ => True) (some ⟨q, 0, none⟩) 1 [(n : Int)] z (.inr ⟨q, 0, rfl, trivial, fun i hi => by
    have : i = 0 := by simp at hi; omega
    subst this
    rw [cell_of_row _ _ _ _ _ _ hr]; rfl⟩) (by simp) (by intro a ha; simp at ha; omega)
  have e : putOf [(n : Int)] = Var.put n := by
    unfold putOf anyNeg
    have : ¬ (n : Int) < 0 := by omega
    simp [this, puts]
  rw [e] at H
  exact H
set_option maxRecDepth 20000 in
set_option maxHeartbeats 1000000 in
theorem rBytes_any (x : World) (b n d k all : Nat) (v vb vw : Value) (W D E : List Nat) (m : List Bool) (h : RwR x b n v W d k vb vw D E all) (hn : n = m.length) (hw : WdR W m) (hm : m.length ≤ 65536) :
    Calls Try.prog 27 #[.pointer (some ⟨b, 0, none⟩)] x fun e w' => ∃ u, e = .returned u ∧ Row 5 x.heap.size w' u (rowBs m) ∧ Below x.heap.size x w' := by
  have HPUT := hid (put_one_at (x.alloc (.cells #[.int .i64 (n : Int)] 3)) x.heap.size n (heap_alloc_new x _) (by omega))
  have k0 := h.c0
  have HH := hid h
  have HW := hid hw
  obtain ⟨S, hS⟩ : ∃ S, S = (n + 7) / 8 := ⟨_, rfl⟩
  have HP : Hid (∀ z, Calls Try.prog 38 #[.int .i64 (n : Int), .int .i64 8] z fun e w' => e = .returned (.int .i64 (S : Int)) ∧ z = w') := hid fun z => by rw [hS]; exact rParts8_any n z (by omega)
  obtain ⟨B, hB⟩ : ∃ B, B = bytesB (inB m) m.length := ⟨_, rfl⟩
  have HBY := hid hB
  have HBL : Hid (B.length = S) := hid (by rw [hB, bytesB_len, hS, hn])
  have HPB : Hid (rowBs m = Var.put n ++ B) := hid (by unfold rowBs; rw [hB, hn])
  have HPL : Hid ((Var.put n).length ≤ 10) := hid (Var.put_ten (by omega))
  have hSb : (S : Int) ≤ 8192 := by omega
  have HSN : Hid (W.length = (n + 63) / 64 ∧ S = (n + 7) / 8) := hid ⟨by rw [hw.len, hn], hS⟩
  have HM := hid hn
  clear h hw hm hS hB hn
  go_enter Try.func27, Try.ntmps27
  go_wp2_with fail
  refine HPUT.out.mono ?_
  rintro e w1 ⟨u1, rfl, hu1, hb1⟩
  have HB1 : Hid (Below x.heap.size x w1) := hid (((Below.refl _ _).alloc (Nat.le_refl _) _).trans (hb1.mono (by simp)))
  have HU1 : Hid (Row 5 x.heap.size w1 u1 (Var.put n ++ B.take 0)) := hid (by rw [List.take_zero, List.append_nil]; exact hu1.weaken (by simp))
  have k01 := (HH.out.below HB1.out).c0
  clear hu1 hb1 HPUT k0
  go_wp2_with fail
  refine (HP.out _).mono ?_
  rintro e w2 ⟨rfl, rfl⟩
  clear k01
  go_wp2_with fail
  go_loopw [3, 18] (fun u i wr => ∃ t : Nat, t ≤ S ∧ i = .int .i64 (t : Int) ∧ Row 5 x.heap.size wr u (Var.put n ++ B.take t) ∧ Below x.heap.size x wr) (fun _ i _ => S - (intOf i).toNat)
  case atStart => exact ⟨0, Nat.zero_le _, rfl, HU1.out, HB1.out⟩
  case round =>
    clear HU1 HB1
    obtain ⟨t, ht, rfl, hr, hb⟩ := hrel
    have HR := hid hr
    have HB := hid hb
    clear hr hb
    by_cases hlt : (t : Int) < S
    · have htl : (t < S) = True := eq_true (by omega)
      have hrw := HH.out.below HB.out
      have hwn : t / 8 < W.length := by have := HSN.out; omega
      obtain ⟨q, hq⟩ : ∃ q, q = t / 8 := ⟨_, rfl⟩
      obtain ⟨r, hrr⟩ : ∃ r, r = t % 8 := ⟨_, rfl⟩
      obtain ⟨o, ho⟩ : ∃ o, o = 8 * r := ⟨_, rfl⟩
      have hby := byte_of_word HW.out t
      obtain ⟨g, c, hv, -, -⟩ := own_here hrw.row (by omega)
      rw [hv] at hrw
      have k1 := hrw.c1
      have k2 := hrw.word (q := q) (by omega)
      rw [← hq, ← hrr, ← ho] at hby
      obtain ⟨z, hz⟩ : ∃ z, z = W.getD q 0 := ⟨_, rfl⟩
      rw [← hz] at k2 hby
      obtain ⟨y, hy⟩ : ∃ y, y = z / 2 ^ o := ⟨_, rfl⟩
      have f1 : (z : Int) / 2 ^ o = (y : Int) := by rw [hy]; simp
      rw [← hy] at hby
      obtain ⟨ac, hac⟩ : ∃ ac, ac = accB (inB m) (8 * t) 8 := ⟨_, rfl⟩
      rw [← hac] at hby
      have f2 : IntKind.u8.wrap (y : Int) = (ac : Int) := by rw [IntKind.wrap_u8, ← hby]; omega
      have HS : Hid (Var.put n ++ B.take (t + 1) = (Var.put n ++ B.take t) ++ [ac]) := hid (by
        rw [take_snoc (by rw [HBL.out]; omega), HBY.out, bytesB_at _ _ (by rw [← HM.out]; have := HSN.out; omega), ← hac, List.append_assoc])
      have HLEN : Hid ((Var.put n ++ B.take t).length ≤ 10000) := hid (by rw [List.length_append, List.length_take]; have := HPL.out; have := HBL.out; omega)
      obtain ⟨bs0, hbs0⟩ : ∃ bs0, bs0 = Var.put n ++ B.take t := ⟨_, rfl⟩
      rw [← hbs0] at HR HS HLEN
      obtain ⟨nw, hnw⟩ : ∃ nw, nw = W.length := ⟨_, rfl⟩
      rw [← hnw] at k1
      have hqi : (t : Int) / 8 = (q : Int) := by omega
      have hqt : Int.tdiv (t : Int) 8 = (q : Int) := by rw [Int.tdiv_eq_ediv_of_nonneg (by omega)]; exact hqi
      have hoi : (t : Int) % 8 = (r : Int) := by omega
      have hot : Int.tmod (t : Int) 8 = (r : Int) := by rw [Int.tmod_eq_emod_of_nonneg (by omega)]; exact hoi
      have hor : (8 : Int) * (r : Int) = (o : Int) := by omega
      have hob : (o : Int) < 64 := by omega
      have how : IntKind.i64.wrap (o : Int) = (o : Int) := by rw [IntKind.wrap_i64]; omega
      have hqn : (q : Int) < (nw : Int) := by omega
      have hqw : IntKind.i64.wrap (q : Int) = (q : Int) := by rw [IntKind.wrap_i64]; omega
      have HT1 : Hid (t + 1 ≤ S) := hid (by omega)
      clear hrw hwn hq hrr ho hby hv hz hy hac hbs0 hnw
      go_wp2_with (refine wpList_append_any rfl (.tmp 21) (.tmp 35) 22 rfl x.heap.size 5 (.int .u8 0) 1 Try.underlying22 infoU8 rfl _ _ _ rfl (HR.out.alloc _) (some ⟨wr.heap.size, 0, none⟩) 1 1 _ rfl rfl (by intro h; cases h) (one_new wr _ _) (by simp [Value.oneCell']) (by have := HLEN.out; unfold maxLen; omega) (by have := HLEN.out; omega) (by have := HB.out.size; simp; omega) ?_)
      intro v4 w4 hv4 hg4 _
      have HB4 := hid (below_owned (w0 := x) (HB.out.alloc HB.out.size _) (HR.out.alloc _) (Nat.le_refl _) hg4)
      have HV4 := hid (row_one hv4 rfl rfl)
      rw [← HS.out] at HV4
      clear hv4 hg4 HR HB k1 k2
      go_wp2_with fail
      go_roundw
      case rel => exact ⟨t + 1, HT1.out, by go_num, HV4.out, HB4.out⟩
      case measure => simp [intOf]; omega
    · have htl : (t < S) = False := eq_false (by omega)
      have HT : Hid (t = S) := hid (by omega)
      clear hlt
      go_wp2_with fail
      go_ret
      refine ⟨_, rfl, ?_, HB.out⟩
      have h := HR.out
      rw [HT.out, ← HBL.out, List.take_of_length_le (Nat.le_refl _)] at h
      rw [HPB.out]
      exact h
end Go.Proofs.Ytjcapiibeekfkaa
