/- CONTRACT: an array of its bytes, and the rest. -/
import Derived.Test.YtcgapplblhbdlaaPkO
namespace Go.Proofs.Ytcgapplblhbdlaa
open Go.RowKit Go.Inc

theorem sl_some {ok : Nat → Prop} {w : World} {a : Option Addr} {bs : List Nat} (h : Sl ok w a bs) (hl : 0 < bs.length) : ∃ b o, a = some ⟨b, o, none⟩ ∧ ok b ∧ ∀ i, i < bs.length → w.cell? ⟨b, o + i, none⟩ = some (.int .u8 ((bs.getD i 0 : Nat) : Int)) := by
  rcases h with rfl | ⟨b, o, h1, h2, h3⟩
  · simp at hl
  · exact ⟨b, o, h1, h2, h3⟩
theorem sl_drop {ok : Nat → Prop} {w : World} {b o : Nat} {bs : List Nat} (h : Sl ok w (some ⟨b, o, none⟩) bs) (k : Nat) : Sl ok w (some ⟨b, o + k, none⟩) (bs.drop k) :=
  h.behind k _ fun _ => by simp [Addr.add]
theorem sl_fix {ok : Nat → Prop} {w : World} {b o : Nat} {bs : List Nat} (h : Sl ok w (some ⟨b, o, none⟩) bs) : Sl (fun i => i = b) w (some ⟨b, o, none⟩) bs := by
  rcases h with h | ⟨b', o', h1, h2, h3⟩
  · exact .inl h
  · cases h1
    exact .inr ⟨b, o, rfl, rfl, h3⟩
set_option maxRecDepth 20000 in
set_option maxHeartbeats 1000000 in
theorem pkParse_any (ok : Nat → Prop) (x : World) (w : Nat) (l rest : List Nat) (a : Option Addr) (K c : Nat) (hs : Sl ok x a (pkBs w l ++ rest)) (hK : K = (pkBs w l ++ rest).length) (hc : K ≤ c ∧ c ≤ maxLen) (h1 : 1 ≤ w) (h2 : w ≤ 31) (hn : l.length ≤ 40) (hf : FitsP w l) (hr : Bytes rest) (hr1 : 1 ≤ rest.length) (hr2 : rest.length ≤ 100) :
    Calls Try.prog 19 #[.slice a K c] x fun e w' => (∃ p u, e = .returned (.tuple #[p, u, .int .i64 0]) ∧ NewPk x w' p w l ∧ Bs w' u rest) ∧ Below x.heap.size x w' := by
  obtain ⟨n, hne⟩ : ∃ n, n = l.length := ⟨_, rfl⟩
  have hnb : (n : Int) ≤ 40 := by omega
  obtain ⟨S, hS⟩ : ∃ S, S = (w * n + 7) / 8 := ⟨_, rfl⟩
  have hSl : S = (pkB w l).length := by rw [pkB_len, hS, hne]
  have hSb : (S : Int) ≤ 200 := by
    have h3 : w * n ≤ 31 * 40 := Nat.mul_le_mul h2 (by omega)
    omega
  obtain ⟨b0, o0, rfl, -, hcell⟩ := sl_some hs (by rw [← hK, hK]; simp [pkBs])
  have kb : x.cell? ⟨b0, o0, none⟩ = some (.int .u8 (w : Int)) := by
    have h3 := hcell 0 (by simp [pkBs])
    simpa [pkBs] using h3
  have hpl := Var.put_ten (n := n) (by omega)
  have hKn : K = 1 + ((Var.put n).length + (S + rest.length)) := by
    rw [hK, hSl]
    unfold pkBs
    rw [← hne]
    simp only [List.length_append, List.length_cons]
    omega
  have hd : (pkBs w l ++ rest).drop 1 = Var.put n ++ (pkB w l ++ rest) := by
    unfold pkBs
    rw [← hne]
    simp [List.append_assoc]
  have hs1 := sl_drop hs 1
  rw [hd] at hs1
  have HG := hid (get_put (.slice (some ⟨b0, o0 + 1, none⟩) (K - 1) (c - 1)) n n (pkB w l ++ rest) x ⟨some ⟨b0, o0 + 1, none⟩, c - 1, by
      congr 1
      rw [List.length_append, List.length_append, ← hSl]
      omega, hs1.mono fun _ _ _ => trivial, by rw [List.length_append, List.length_append, ← hSl]; omega, by have := hc.2; unfold maxLen at this ⊢; omega, by intro h; cases h⟩ (by omega) (Bytes.append (pkB_bytes _ _) hr) (by rw [List.length_append, ← hSl]; omega) rfl)
  have HW := hid (fun z => pkIsWidth_any (w : Int) z)
  rw [isW_nat h1 h2] at HW
  have HSZ := hid (fun z => pkSize_any w n z h1 h2 (by omega))
  rw [← hS] at HSZ
  have HF := hid (And.intro h1 (And.intro h2 (And.intro hf hne)))
  have HSL := hid hSl
  have HR := hid (And.intro hr (And.intro hr1 hr2))
  have hK0 : ((K : Int) == 0) = false := by rw [beq_eq_false_iff_ne]; omega
  have hK1 : (1 : Int) ≤ K := by omega
  have hK1n : (1 ≤ K) = True := eq_true (by omega)
  have hKc : (K : Int) ≤ c := by omega
  have hc1 : (c = 1) = False := eq_false (by omega)
  have hKi : (K : Int) < 1000 := by omega
  have hwi : (w : Int) ≤ 31 := by omega
  have hw1i : (1 : Int) ≤ w := by omega
  have hcm := hc.2
  have HCM := hid hcm
  clear hs hK hc hn hf hr hr1 hr2 hne hS hSl hcell hpl hKn hd hs1 h1 h2 hcm
  go_enter Try.func19, Try.ntmps19
  go_wp2_with fail
  refine (HW.out x).mono ?_
  rintro e w1 ⟨rfl, rfl⟩
  go_wp2_with fail
  refine HG.out.mono ?_
  rintro e x1 ⟨⟨v1, rfl, hr1⟩, hb1⟩
  obtain ⟨a2, c2, rfl, -, hc2, hc2', hs2⟩ := Row.sl hr1
  have hlen : (pkB w l ++ rest).length = S + rest.length := by rw [List.length_append, ← HSL.out]
  obtain ⟨b2, o2, rfl, hb2, -⟩ := sl_some hs2 (by rw [hlen]; have := HR.out.2.1; omega)
  obtain ⟨L2, hL2⟩ : ∃ L2, L2 = (pkB w l ++ rest).length := ⟨_, rfl⟩
  rw [hlen] at hL2
  rw [hlen, ← hL2] at hc2 ⊢
  have HB1 := hid hb1
  have HLT : Hid (b2 < x1.heap.size) := hid (by
    obtain ⟨b, o, h3, _, h4⟩ := sl_some hs2 (by rw [hlen]; have := HR.out.2.1; omega)
    cases h3
    exact cell_lt (h4 0 (by rw [hlen]; have := HR.out.2.1; omega)))
  have HS2 := hid hs2
  have hrl := HR.out.2
  have hSL2 : (S : Int) ≤ (L2 : Int) := by omega
  have hLS : ((L2 : Int) < (S : Int)) = False := eq_false (by omega)
  have hL2c : (L2 : Int) ≤ (c2 : Int) := by omega
  have hSc : (S : Int) ≤ (c2 : Int) := by omega
  have hL2i : (L2 : Int) ≤ 400 := by omega
  have hc2S : (c2 = S) = False := eq_false (by omega)
  have HL2 := hid hL2
  have HC2 := hid (And.intro hc2 hc2')
  clear hr1 hb1 hs2 hlen hL2 hc2 hc2' hb2 HG hrl kb
  go_wp2_with fail
  refine (HSZ.out x1).mono ?_
  rintro e w1 ⟨rfl, rfl⟩
  obtain ⟨x2, hx2⟩ : ∃ x2, x2 = x1.alloc (.cells #[.int .i64 (w : Int), .int .i64 0, .slice none 0 0] 56) := ⟨_, rfl⟩
  have hb2 : Below x1.heap.size x1 x2 := by rw [hx2]; exact (Below.refl _ _).alloc (Nat.le_refl _) _
  have hrow : x2.heap[x1.heap.size]? = some (.cells #[.int .i64 (w : Int), .int .i64 0, .slice none 0 0] 56 (0, 0)) := by rw [hx2]; exact heap_alloc_new x1 _
  have hat := PkAt.empty (B := x.heap.size) hrow HF.out.1 HF.out.2.1
  have HG2 := hid (pkGrow_any x2 x1.heap.size x.heap.size n (.slice none 0 0) w 0 [] hat.raw HF.out.2.1 (by omega) (by simp) (Nat.le_trans HB1.out.size hb2.size))
  have HX2 := hid hx2
  have HB2 := hid (HB1.out.trans (hb2.mono HB1.out.size))
  have HS3 := hid (sl_fix (HS2.out.below hb2))
  have HSZ12 := hid hb2.size
  have HBB : Hid (x.heap.size ≤ x1.heap.size) := hid HB1.out.size
  have HLT2 : Hid (x1.heap.size < x2.heap.size) := hid (row_lt hrow)
  clear hx2 hb2 hrow hat HS2 HB1
  go_wp2_with fail
  rw [← HX2.out]
  refine HG2.out.mono ?_
  rintro e x3 ⟨rfl, ⟨v3, hraw, hnew⟩, hm3⟩
  have HNEW := hid hnew
  obtain ⟨nw, hnw⟩ : ∃ nw, nw = (w * l.length + 63) / 64 := ⟨_, rfl⟩
  have hraw2 : PkR x3 x1.heap.size v3 w l.length (List.replicate nw 0) x.heap.size := by
    rw [HF.out.2.2.2, Nat.zero_add, List.nil_append, List.length_nil, Nat.sub_zero, ← hnw] at hraw
    exact hraw
  have hs4 : Sl (fun i => i = b2) x3 (some ⟨b2, o2, none⟩) (pkB w l ++ rest) := HS3.out.mv hm3 fun i hi hf => by
    have := HLT.out
    rcases hf with hf | hf
    · omega
    · cases hf
  have hno : ∀ i, i = b2 → ¬ Own2 x1.heap.size v3 i := fun i hi hf => by
    have h5 := HLT.out
    have h6 := HLT2.out
    rcases hf with hf | hf
    · omega
    · rcases hnew i hf with h7 | h7
      · cases h7
      · omega
  have hfr := hs4.front S
  rw [HSL.out, List.take_left] at hfr
  have HLAY := hid (pkLay_any _ x3 x1.heap.size x.heap.size v3 w l nw (some ⟨b2, o2, none⟩) c2 hraw2 HF.out.1 HF.out.2.1 (by have := HF.out.2.2.2; omega) HF.out.2.2.1 hnw hfr hno)
  rw [← HSL.out] at HLAY
  have HB3 : Hid (Below x.heap.size x x3) := hid (HB2.out.trans (hm3.below HB2.out.size fun i hf => by
    rcases hf with rfl | hf
    · exact HBB.out
    · cases hf))
  have HS4 := hid hs4
  have HNO := hid hno
  have HGE : Hid (∀ i, Own2 x1.heap.size v3 i → x.heap.size ≤ i) := hid fun i hf => by
    rcases hf with rfl | hf
    · exact HBB.out
    · exact (hraw2.row.lt i hf).1
  clear hraw hraw2 hnew hnw hs4 hno hfr hm3 HG2 HX2 HS3 HNEW HB2
  go_wp2_with fail
  refine HLAY.out.mono ?_
  rintro e x4 ⟨rfl, ⟨V, hat⟩, hm4⟩
  have HAT := hid hat
  have HB4 : Hid (Below x.heap.size x x4) := hid (HB3.out.trans (hm4.below HB3.out.size HGE.out))
  have HS5 := hid (HS4.out.mv hm4 HNO.out)
  have HMO := hid (pkMore_any x4 x1.heap.size x.heap.size v3 w l V hat)
  clear hat hm4 HLAY HB3 HS4
  go_wp2_with fail
  refine HMO.out.mono ?_
  rintro e x5 ⟨rfl, hb5⟩
  have HAT5 := hid (HAT.out.below hb5)
  have HB5 := hid (HB4.out.trans (hb5.mono HB4.out.size))
  have HS6 := hid (HS5.out.below hb5)
  clear hb5 HAT HB4 HS5 HMO
  go_wp2_with fail
  go_quiet (fail)
  have HAT6 := hid (HAT5.out.below (below_drewN x5 nq))
  have HB6 := hid (HB5.out.trans (Below.mono (below_drewN x5 nq) HB5.out.size))
  have HS7 := hid (HS6.out.below (below_drewN x5 nq))
  clear HAT5 HB5 HS6
  generalize x5.drewN nq = x6 at *
  go_wp2_with fail
  go_ret3
  refine ⟨⟨_, _, rfl, ⟨_, v3, V, rfl, HBB.out, HAT6.out⟩, ⟨some ⟨b2, o2 + S, none⟩, c2 - S, ?_, ?_, ?_, ?_, ?_⟩⟩, HB6.out⟩
  · rw [show rest.length = L2 - S from by have := HL2.out; omega]; rfl
  · have h := sl_drop HS7.out S
    rw [HSL.out, List.drop_left, ← HSL.out] at h
    exact h.mono fun _ _ _ => trivial
  · have := HL2.out; have := HC2.out; omega
  · have := HC2.out; unfold maxLen at this ⊢; omega
  · intro h; cases h
end Go.Proofs.Ytcgapplblhbdlaa
