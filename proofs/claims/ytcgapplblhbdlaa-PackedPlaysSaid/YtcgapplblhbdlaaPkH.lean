/- CONTRACTS: all numbers of an array; the same ones. -/
import Derived.Test.YtcgapplblhbdlaaPkG
import Derived.Test.YtcgapplblhbdlaaBmRf
namespace Go.Proofs.Ytcgapplblhbdlaa
open Go.RowKit Go.Inc

theorem infoI64 : (Try.prog.info? 3).map (fun i => (i.zero, i.size, i.bytes)) = some (some (.int .i64 0), 1, 8) := by kernel_rfl
theorem nvals_snocT (l : List Nat) (t : Nat) (h : t < l.length) : nvals (l.take (t + 1)) = nvals (l.take t) ++ [.int .i64 ((l.getD t 0 : Nat) : Int)] := by
  rw [List.take_succ_eq_append_getElem h, nvals_snoc, List.getD_eq_getElem?_getD, List.getElem?_eq_getElem h]; rfl
set_option maxHeartbeats 1000000 in
theorem pkAll_any (x : World) (b B : Nat) (v : Value) (w : Nat) (l W : List Nat) (h : PkAt x b v w l W B) :
    Calls Try.prog 24 #[.pointer (some ⟨b, 0, none⟩)] x fun e w' => ∃ u, e = .returned u ∧ w'.ownsRow x.heap.size 3 1 u l.length (nvals l) ∧ Below x.heap.size x w' := by
  have HL := hid (len_at x b l.length h.raw.c1)
  obtain ⟨n, hn⟩ : ∃ n, n = l.length := ⟨_, rfl⟩
  have hnb : (n : Int) ≤ 65536 := by have := h.n; omega
  have HN := hid hn
  have HH := hid h
  rw [← hn] at HL ⊢
  clear h hn
  go_enter Try.func24, Try.ntmps24
  go_wp2_with fail
  refine HL.out.mono ?_
  rintro e w1 ⟨rfl, rfl⟩
  go_wp2_with fail
  go_loopw [3, 7] (fun u i wr => ∃ t : Nat, t ≤ n ∧ i = .int .i64 (t : Int) ∧ wr.ownsRow x.heap.size 3 1 u t (nvals (l.take t)) ∧ Below x.heap.size x wr) (fun _ i _ => n - (intOf i).toNat)
  case atStart => exact ⟨0, Nat.zero_le _, rfl, World.ownsRow_nil _ _ _ _, Below.refl _ _⟩
  case round =>
    obtain ⟨t, ht, rfl, hr, hb⟩ := hrel
    have HR := hid hr
    have HB := hid hb
    clear hr hb
    by_cases hlt : (t : Int) < n
    · have HG := hid (pkGet_any wr b t B v w l W (HH.out.below HB.out) (by have := HN.out; omega))
      have HS := hid (nvals_snocT l t (by have := HN.out; omega))
      obtain ⟨X, hX⟩ : ∃ X, X = l.getD t 0 := ⟨_, rfl⟩
      rw [← hX] at HG HS
      have htn : (t < n) = True := eq_true (by omega)
      clear hX
      go_wp2_with fail
      refine HG.out.mono ?_
      rintro e w2 ⟨rfl, hb2⟩
      have HR2 := hid (owns_mv (F := fun _ => False) HR.out (Mv.of_below hb2) fun _ _ => id)
      have HB2 := hid (HB.out.trans (hb2.mono HB.out.size))
      clear hb2 HG HR HB
      go_wp2_with (refine wpList_append_any rfl (.tmp 10) (.tmp 14) 22 rfl x.heap.size 3 (.int .i64 0) 8 Try.underlying22 infoI64 rfl _ _ _ rfl (HR2.out.alloc _) (some ⟨w2.heap.size, 0, none⟩) 1 1 _ rfl rfl (by intro h; cases h) (one_new w2 _ _) (by simp [Value.oneCell']) (by unfold maxLen; omega) (by omega) (by have := HB2.out.size; simp; omega) ?_)
      intro v3 w3 hv3 hg3 _
      have HB3 := hid (below_owned (w0 := x) (HB2.out.alloc HB2.out.size _) (HR2.out.alloc _) (Nat.le_refl _) hg3)
      rw [← HS.out] at hv3
      have HV3 := hid hv3
      clear hv3 hg3
      go_wp2_with fail
      go_roundw
      case rel => exact ⟨t + 1, by omega, by go_num, HV3.out, HB3.out⟩
      case measure => simp [intOf]; omega
    · have htn : (t < n) = False := eq_false (by omega)
      have HT : Hid (t = n) := hid (by omega)
      clear hlt
      go_wp2_with fail
      go_ret
      refine ⟨_, rfl, ?_, HB.out⟩
      have := HR.out
      rw [HT.out, List.take_of_length_le (by have := HN.out; omega)] at this
      exact this

/-- Two of no words. -/
theorem equal_nil (a b : Option Addr) (c d : Nat) (x : World) : Calls Try.prog 29 #[.slice a 0 c, .slice b 0 d] x fun e w' => e = .returned (.bool true) ∧ x = w' := by
  go_enter Try.func29, Try.ntmps29
  go_wp2_with fail
  go_loop [13] (fun i => i = .int .i64 0) (fun _ => 0)
  case atStart => rfl
  case round =>
    subst hrel
    go_wp2_with fail
    go_ret
    exact ⟨rfl, rfl⟩
theorem words_eq (x : World) (b1 b2 w1 w2 n1 n2 B1 B2 : Nat) (v1 v2 : Value) (W V : List Nat) (h : PkR x b1 v1 w1 n1 W B1) (k : PkR x b2 v2 w2 n2 V B2) (hl : W.length = V.length) (hb : W.length ≤ 31745) :
    Calls Try.prog 29 #[v1, v2] x fun e w' => e = .returned (.bool (decide (W = V))) ∧ ∃ j, w' = x.drewN j := by
  by_cases h0 : W.length = 0
  · have e1 : W = [] := List.eq_nil_of_length_eq_zero h0
    have e2 : V = [] := List.eq_nil_of_length_eq_zero (by omega)
    subst e1 e2
    obtain ⟨a, c, rfl⟩ := h.slice
    obtain ⟨a', c', rfl⟩ := k.slice
    refine (equal_nil a a' c c' x).mono ?_
    rintro e w' ⟨rfl, rfl⟩
    exact ⟨rfl, 0, rfl⟩
  · obtain ⟨g, c, rfl, _⟩ := h.here (by omega)
    obtain ⟨g', c', rfl, _⟩ := k.here (by omega)
    have H := equal_some g g' W.length c c' W V x rfl hl.symm (by omega) (fun i hi => h.word hi) (fun i hi => k.word (by omega))
    rw [← hl]
    exact H
set_option maxRecDepth 20000 in
set_option maxHeartbeats 1000000 in
theorem pkSame_any (x : World) (b1 b2 w B1 B2 : Nat) (v1 v2 : Value) (l m W V : List Nat) (h : PkAt x b1 v1 w l W B1) (k : PkAt x b2 v2 w m V B2) :
    Calls Try.prog 11 #[.pointer (some ⟨b1, 0, none⟩), .pointer (some ⟨b2, 0, none⟩)] x fun e w' => e = .returned (.bool (decide (l = m))) ∧ Below x.heap.size x w' := by
  have k10 := h.raw.c0
  have k11 := h.raw.c1
  have k12 := h.raw.c2
  have k20 := k.raw.c0
  have k21 := k.raw.c1
  have k22 := k.raw.c2
  by_cases hl : l.length = m.length
  · have hwl : W.length = V.length := by rw [h.wd.len, k.wd.len, hl]
    have l1 : ∀ n, Calls Try.prog 29 #[v1, v2] (x.drewN n) fun e w' => e = .returned (.bool (decide (W = V))) ∧ ∃ j, w' = (x.drewN n).drewN j := fun n => words_eq _ _ _ _ _ _ _ _ _ _ _ _ _ (h.raw.below (below_drewN x n)) (k.raw.below (below_drewN x n)) hwl h.wlen
    have HI : Hid (decide (W = V) = decide (l = m)) := hid (by
      rw [Bool.eq_iff_iff, decide_eq_true_iff, decide_eq_true_iff]
      exact h.wd.inj k.wd hl h.fit k.fit)
    rw [HI.out] at l1
    have l2 : ∀ n, Calls Try.prog 29 #[v1, v2] (x.drewN n) fun e w' => e = .returned (.bool (decide (l = m))) ∧ ∃ j, w' = x.drewN j := fun n => (l1 n).mono fun _ _ h => ⟨h.1, by obtain ⟨j, hj⟩ := h.2; exact ⟨n + j, by rw [hj]; simp [World.drewN, Nat.add_assoc]⟩⟩
    obtain ⟨n, hn⟩ : ∃ n, n = m.length := ⟨_, rfl⟩
    rw [hl, ← hn] at k11
    rw [← hn] at k21
    obtain ⟨d, hd⟩ : ∃ d, d = decide (l = m) := ⟨_, rfl⟩
    rw [← hd] at l2 ⊢
    have hne : v1 = v1 := rfl
    clear h k hl hwl l1 HI hn hd hne
    go_enter Try.func11, Try.ntmps11
    go_wp2_with fail
    go_quiet (with_reducible exact l2 _)
    go_wp2_with fail
    go_ret
    exact ⟨rfl, below_drewN _ _⟩
  · have HD : Hid (decide (l = m) = false) := hid (by rw [decide_eq_false_iff_not]; rintro rfl; exact hl rfl)
    obtain ⟨n, hn⟩ : ∃ n, n = l.length := ⟨_, rfl⟩
    obtain ⟨n2, hn2⟩ : ∃ n2, n2 = m.length := ⟨_, rfl⟩
    rw [← hn] at k11 hl
    rw [← hn2] at k21 hl
    have hne : ((n : Int) == (n2 : Int)) = false := by rw [beq_eq_false_iff_ne]; omega
    rw [HD.out]
    clear h k hl hn hn2 HD
    go_enter Try.func11, Try.ntmps11
    go_wp2_with fail
    go_quiet (fail)
    go_wp2_with fail
    go_ret
    exact ⟨rfl, below_drewN _ _⟩
end Go.Proofs.Ytcgapplblhbdlaa
