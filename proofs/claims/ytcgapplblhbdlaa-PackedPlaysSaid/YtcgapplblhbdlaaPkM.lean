/- CONTRACT: an array tells its numbers. -/
import Derived.Test.YtcgapplblhbdlaaPkL
namespace Go.Proofs.Ytcgapplblhbdlaa
open Go.RowKit Go.Inc

theorem nI_map (l : List Nat) : (l.map fun x : Nat => (x : Int)) = nI l := rfl
theorem nI_inj {l m : List Nat} : (nI l = nI m) ↔ (l = m) := by
  constructor
  · intro h
    apply List.ext_getElem (by rw [← nI_len l, ← nI_len m, h])
    intro i h1 h2
    have := congrArg (fun z => z.getD i 0) h
    simp only [nI_get] at this
    rw [List.getD_eq_getElem?_getD, List.getD_eq_getElem?_getD, List.getElem?_eq_getElem h1, List.getElem?_eq_getElem h2] at this
    exact Int.ofNat.inj this
  · rintro rfl; rfl
set_option maxRecDepth 20000 in
set_option maxHeartbeats 1000000 in
theorem pkTells_any (ok : Nat → Prop) (x : World) (b B : Nat) (v : Value) (w : Nat) (l W : List Nat) (a : Option Addr) (c : Nat) (h : PkAt x b v w l W B) (hs : Si ok x a (nI l)) :
    Calls Try.prog 10 #[.pointer (some ⟨b, 0, none⟩), .int .i64 (w : Int), .slice a l.length c] x fun e w' => e = .returned (.bool true) ∧ Below x.heap.size x w' := by
  have HH := hid h
  have HS := hid hs
  obtain ⟨n, hn⟩ : ∃ n, n = l.length := ⟨_, rfl⟩
  have HN := hid hn
  have hnb : (n : Int) ≤ 65536 := by have := h.n; omega
  have HNB : Hid (n ≤ 65536) := hid (by omega)
  have hw1 : (1 : Int) ≤ w := by have := h.w1; omega
  have hwb : (w : Int) ≤ 31 := by have := h.w2; omega
  have HW := hid (And.intro h.w1 h.w2)
  have HL := hid (len_at x b n (by rw [hn]; exact h.raw.c1))
  have HWD := hid (width_at x b w h.raw.c0)
  have HA := hid (pkAll_any x b B v w l W h)
  have hn64 : IntKind.u64.wrap (n : Int) = (n : Int) := by rw [IntKind.wrap_u64]; omega
  rw [← hn] at HA ⊢
  clear h hs hn
  go_enter Try.func10, Try.ntmps10
  go_wp2_with fail
  refine HL.out.mono ?_
  rintro e w1 ⟨rfl, rfl⟩
  go_wp2_with fail
  refine HWD.out.mono ?_
  rintro e w1 ⟨rfl, rfl⟩
  go_wp2_with fail
  refine HA.out.mono ?_
  rintro e x1 ⟨u, rfl, hu, hb1⟩
  obtain ⟨a1, c1, rfl, -, -, hc1, hc2, hs1⟩ := Si.ownedN (l := l) (by rw [HN.out] at hu; exact hu)
  have HB1 := hid hb1
  have H6 := hid (refSame_any _ _ a1 a c1 c (nI l) (nI l) x1 hs1 (HS.out.below hb1) (by rw [nI_len, ← HN.out]; omega))
  rw [nI_len, ← HN.out, decide_eq_true rfl] at H6
  rw [← HN.out] at hc1 ⊢
  clear hu hb1 hs1 HA HL HWD
  go_wp2_with fail
  refine H6.out.mono ?_
  rintro e x2 ⟨rfl, hb2⟩
  have HB2 := hid (HB1.out.trans (hb2.mono HB1.out.size))
  have HBY := hid (pkBytes_any x2 b B v w l W (HH.out.below HB2.out))
  clear hb2 H6 HB1 hc1 hc2
  go_wp2_with fail
  refine HBY.out.mono ?_
  rintro e x3 ⟨u3, rfl, hr3, hb3⟩
  have HR3 := hid hr3
  have HB3 := hid (HB2.out.trans (hb3.mono HB2.out.size))
  have HRB := hid (refBytes_any _ x3 w a c l HW.out.1 HW.out.2 (HS.out.below HB3.out) (by rw [← HN.out]; exact HNB.out) HH.out.fit)
  rw [← HN.out] at HRB
  clear hr3 hb3 HBY HB2
  go_wp2_with fail
  refine HRB.out.mono ?_
  rintro e x4 ⟨u4, rfl, hr4, hb4⟩
  have HB4 := hid (HB3.out.trans (hb4.mono HB3.out.size))
  obtain ⟨a4, c4, rfl, -, hc4, hc4', hs4⟩ := Row.sl hr4
  obtain ⟨a3, c3, rfl, -, hc3, hc3', hs3⟩ := Row.sl (HR3.out.kept hb4)
  have hbl : (pkBs w l).length ≤ 300000 := by
    unfold pkBs
    rw [List.length_cons, List.length_append, pkB_len]
    have h1 := Var.put_ten (n := l.length) (by have := HH.out.n; omega)
    have h2 := mul_31 HW.out.2 HH.out.n
    rw [Nat.mul_comm] at h2
    omega
  have HSM := hid (same_any _ _ a3 a4 c3 c4 (pkBs w l) (pkBs w l) x4 hs3 hs4 (by omega))
  rw [decide_eq_true rfl] at HSM
  obtain ⟨K, hK⟩ : ∃ K, K = (pkBs w l).length := ⟨_, rfl⟩
  have HKE := hid hK
  rw [← hK] at hc3 hc4 hbl HSM ⊢
  have hKb : (K : Int) ≤ 300000 := by omega
  clear hr4 hb4 hs4 hs3 HR3 HRB HB3 hK hbl
  go_wp2_with fail
  refine HSM.out.mono ?_
  rintro e x5 ⟨rfl, hb5⟩
  have HB5 := hid (HB4.out.trans (hb5.mono HB4.out.size))
  have HRB2 := hid (refBytes_any _ x5 w a c l HW.out.1 HW.out.2 (HS.out.below HB5.out) (by rw [← HN.out]; exact HNB.out) HH.out.fit)
  rw [← HN.out] at HRB2
  clear hb5 HSM HB4 hc3 hc3' hc4 hc4'
  go_wp2_with fail
  refine HRB2.out.mono ?_
  rintro e x6 ⟨u6, rfl, hr6, hb6⟩
  have HB6 := hid (HB5.out.trans (hb6.mono HB5.out.size))
  obtain ⟨a6, c6, rfl, -, hc6, hc6', hs6⟩ := Row.sl hr6
  rw [← HKE.out] at hc6 ⊢
  have HSZ := hid (pkSize_any w n x6 HW.out.1 HW.out.2 HNB.out)
  obtain ⟨S, hS⟩ : ∃ S, S = (w * n + 7) / 8 := ⟨_, rfl⟩
  rw [← hS] at HSZ
  have HPU := hid (refPut_any n x6 (by have := HNB.out; omega))
  have HKS : Hid (K = 1 + (Var.put n).length + S) := hid (by
    rw [HKE.out, hS]
    unfold pkBs
    rw [List.length_cons, List.length_append, pkB_len, HN.out]
    omega)
  have hSb : (S : Int) ≤ 300000 := by have := HKS.out; omega
  clear hr6 hb6 hs6 HRB2 HB5 hS
  go_wp2_with fail
  refine HSZ.out.mono ?_
  rintro e w1 ⟨rfl, rfl⟩
  go_wp2_with fail
  refine HPU.out.mono ?_
  rintro e x7 ⟨u7, rfl, hr7, hb7⟩
  have HB7 := hid (HB6.out.trans (hb7.mono HB6.out.size))
  obtain ⟨a7, c7, rfl, -, hc7, hc7', hs7⟩ := Row.sl hr7
  obtain ⟨L, hL⟩ : ∃ L, L = (Var.put n).length := ⟨_, rfl⟩
  rw [← hL] at hc7 HKS ⊢
  have hks : (K : Int) - 1 - (L : Int) = (S : Int) := by have := HKS.out; omega
  have hLb : (L : Int) ≤ 300000 := by have := HKS.out; omega
  clear hr7 hb7 hs7 hL HKS HPU HSZ HB6
  go_wp2_with fail
  go_ret
  exact ⟨ret_bool (by simp), HB7.out⟩
end Go.Proofs.Ytcgapplblhbdlaa
