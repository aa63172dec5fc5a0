/- CONTRACTS: All, Bytes, Count. -/
import Derived.Test.YtjgnnofpilmgoaaDoorBmOnes
namespace Go.Proofs.YtjgnnofpilmgoaaDoor
open Go.RowKit Go.Inc

theorem infoInt : (Tryd.prog.info? 3).map (fun i => (i.zero, i.size, i.bytes)) = some (some (.int .i64 0), 1, 8) := by kernel_rfl
def allMs (S : Nat) (no e : Value) : Nat := if intOf e = 0 then S + 1 - (intOf no).toNat else 0
/-- Where the gathering stands: at a number, or at the end. -/
def AllAt (m : List Bool) (w : World) (B : Nat) (v no e : Value) : Prop :=
  (∃ k : Nat, k < m.length ∧ inB m k = true ∧ no = .int .i64 (k : Int) ∧ e = .int .i64 0 ∧ w.ownsRow B 3 1 v (cntTo (inB m) k) (nvals (numsTo (inB m) k))) ∨
  (no = .int .i64 0 ∧ e = .int .i64 7 ∧ w.ownsRow B 3 1 v (cntTo (inB m) m.length) (nvals (numsTo (inB m) m.length)))
/-- The next one from K on, or none. -/
def NextAt (m : List Bool) (K : Nat) (v : Value) : Prop :=
  (∃ k : Nat, K ≤ k ∧ k < m.length ∧ inB m k = true ∧ v = .tuple #[.int .i64 (k : Int), .int .i64 0] ∧ numsTo (inB m) k = numsTo (inB m) K) ∨
  (v = .tuple #[.int .i64 0, .int .i64 7] ∧ (K ≤ m.length → numsTo (inB m) m.length = numsTo (inB m) K))
theorem next_at (m : List Bool) (K : Nat) : NextAt m K (seekV (lowB (inB m) (K : Int) true m.length)) := by
  rcases lowB_cases (inB m) (K : Int) true m.length with ⟨h, hn⟩ | ⟨k, hk, h, ⟨h1, h2⟩, hn⟩
  · refine .inr ⟨seekV_none h, fun hK => ?_⟩
    obtain ⟨n, hnl⟩ : ∃ n, m.length = K + n := ⟨m.length - K, by omega⟩
    rw [hnl]
    exact numsTo_gap n fun i h1 h2 => by
      have := hn i (by omega)
      cases hi : inB m i
      · rfl
      · exact absurd ⟨by omega, hi⟩ this
  · refine .inl ⟨k, by omega, hk, h2, seekV_at h, ?_⟩
    obtain ⟨n, rfl⟩ : ∃ n, k = K + n := ⟨k - K, by omega⟩
    exact numsTo_gap n fun i h1 h2 => by
      have := hn i (by omega)
      cases hi : inB m i
      · rfl
      · exact absurd ⟨by omega, hi⟩ this
theorem lowest_next (ok : Nat → Prop) (v : Value) (m : List Bool) (K : Nat) (w : World) (h : Bm ok w v m) (ht : Tab w) (hK : K ≤ 4096) :
    Calls Tryd.prog 50 #[v, .int .i64 (K : Int)] w fun e w' => ∃ x, e = .returned x ∧ NextAt m K x ∧ w = w' :=
  (lowest_any ok v m K w h ht (by omega) (by omega)).mono fun _ _ h => ⟨_, h.1, next_at m K, h.2⟩
set_option maxRecDepth 20000 in
set_option maxHeartbeats 2000000 in
theorem all_any (ok : Nat → Prop) (v : Value) (m : List Bool) (w : World) (h : Bm ok w v m) (ht : Tab w) :
    Calls Tryd.prog 36 #[v] w fun e w' => (∃ x, e = .returned x ∧ w'.ownsRow w.heap.size 3 1 x (cntTo (inB m) m.length) (nvals (numsTo (inB m) m.length))) ∧ Below w.heap.size w w' := by
  have HB0 := hid h
  have HT0 := hid ht
  obtain ⟨S, hS⟩ : ∃ S, S = m.length := ⟨_, rfl⟩
  have HS := hid hS
  have hs2 : (S : Int) ≤ 2048 := by have := h.len; omega
  have HL0 := hid (lowest_next ok v m 0 w h ht (by omega))
  have HC : Hid (Calls Tryd.prog 50 #[v, .int .i64 0] w fun e w' => ∃ x, e = .returned x ∧ NextAt m 0 x ∧ w = w') := hid HL0.out
  clear h ht hS HL0
  go_enter Tryd.func36, Tryd.ntmps36
  go_wp2_with fail
  refine HC.out.mono ?_
  clear HC
  rintro e w1 ⟨x, rfl, hx, rfl⟩
  obtain ⟨a1, a2, rfl, HA⟩ : ∃ a1 a2, x = .tuple #[a1, a2] ∧ Hid (AllAt m w w.heap.size (.slice none 0 0) a1 a2) := by
    rcases hx with ⟨k, _, hk, hin, rfl, hn⟩ | ⟨rfl, hn⟩
    · exact ⟨_, _, rfl, hid (.inl ⟨k, hk, hin, rfl, rfl, by unfold cntTo; rw [hn]; exact World.ownsRow_nil _ _ _ _⟩)⟩
    · exact ⟨_, _, rfl, hid (.inr ⟨rfl, rfl, by unfold cntTo; rw [hn (Nat.zero_le _)]; exact World.ownsRow_nil _ _ _ _⟩)⟩
  clear hx
  go_wp2_with fail
  go_loopw [3, 4, 5] (fun l no e wr => AllAt m wr w.heap.size l no e ∧ Below w.heap.size w wr) (fun _ no e _ => allMs S no e)
  case atStart => exact ⟨HA.out, Below.refl _ _⟩
  case round =>
    obtain ⟨hat, hb⟩ := hrel
    have HB := hid hb
    clear hb HA
    rcases hat with ⟨k, hk, hin, rfl, rfl, hv⟩ | ⟨rfl, rfl, hv⟩
    · have hkS : (k : Int) < S := by have := HS.out; omega
      have hcnt : ((cntTo (inB m) k : Nat) : Int) ≤ k := by have := numsTo_len (inB m) k; unfold cntTo; omega
      have HV := hid hv
      have HT := hid (And.intro (numsTo_in hin) (cntTo_in hin))
      clear hk hin hv
      go_wp2_with (refine wpList_append_any rfl (.tmp 20) (.tmp 22) 22 rfl w.heap.size 3 (.int .i64 0) 8 Tryd.underlying22 infoInt rfl _ _ _ rfl (HV.out.alloc _) (some ⟨wr.heap.size, 0, none⟩) 1 1 _ rfl rfl (by intro h; cases h) (one_new wr _ _) (by simp [Value.oneCell']) (by unfold maxLen; omega) (by omega) (by have := HB.out.size; simp; omega) ?_)
      intro v4 w4 hv4 hg4 _
      have HB4 : Hid (Below w.heap.size w w4) := hid (below_owned (w0 := w) (HB.out.alloc HB.out.size _) (HV.out.alloc _) (Nat.le_refl _) hg4)
      have HV4 : Hid (w4.ownsRow w.heap.size 3 1 v4 (cntTo (inB m) (k + 1)) (nvals (numsTo (inB m) (k + 1)))) := hid (by rw [HT.out.1, HT.out.2, nvals_snoc]; exact hv4)
      clear hv4 hg4 HV HB HT
      have HN := hid (lowest_next ok v m (k + 1) w4 (HB0.out.below HB4.out) (HT0.out.below HB4.out) (by have := HS.out; omega))
      have HN2 : Hid (Calls Tryd.prog 50 #[v, .int .i64 ((k : Int) + 1)] w4 fun e w' => ∃ x, e = .returned x ∧ NextAt m (k + 1) x ∧ w4 = w') := hid HN.out
      clear HN
      go_wp2_with fail
      refine HN2.out.mono ?_
      clear HN2
      rintro e w5 ⟨x, rfl, hx, rfl⟩
      rcases hx with ⟨k2, hk1, hk2, hin2, rfl, hn⟩ | ⟨rfl, hn⟩
      · have HX := hid (And.intro hk1 (And.intro hk2 (And.intro hin2 hn)))
        clear hk1 hk2 hin2 hn
        go_wp2_with fail
        go_roundw
        case rel => exact ⟨.inl ⟨k2, HX.out.2.1, HX.out.2.2.1, rfl, rfl, by unfold cntTo; rw [HX.out.2.2.2]; exact HV4.out⟩, HB4.out⟩
        case measure =>
          have := HX.out.1
          have := HX.out.2.1
          have := HS.out
          simp [allMs, intOf]; omega
      · have HX := hid hn
        clear hn
        go_wp2_with fail
        go_roundw
        case rel => exact ⟨.inr ⟨rfl, rfl, by unfold cntTo; rw [HX.out (by have := HS.out; omega)]; exact HV4.out⟩, HB4.out⟩
        case measure => simp [allMs, intOf]; omega
    · have HV := hid hv
      clear hv
      go_wp2_with fail
      go_ret
      exact ⟨⟨_, rfl, HV.out⟩, HB.out⟩

theorem cnt_words {W : List Nat} (k : Nat) : cntTo (wbit W) (64 * (k + 1)) = cntTo (wbit W) (64 * k) + popN (W.getD k 0) 64 := by
  rw [show 64 * (k + 1) = 64 * k + 64 from by omega, cntTo_add]
  congr 1
  unfold popN
  exact cntTo_congr fun j hj => by
    unfold wbit
    rw [show (64 * k + j) / 64 = k from by omega, show (64 * k + j) % 64 = j from by omega]
theorem cnt_all {m : List Bool} {W : List Nat} (hb : ∀ i, wbit W i = inB m i) (hl : m.length ≤ 64 * W.length) : cntTo (wbit W) (64 * W.length) = cntTo (inB m) m.length := by
  rw [show wbit W = inB m from funext hb]
  obtain ⟨n, hn⟩ : ∃ n, 64 * W.length = m.length + n := ⟨64 * W.length - m.length, by omega⟩
  rw [hn]
  exact cntTo_gap n fun i h1 _ => inB_far h1
theorem count_nil (w : World) : Calls Tryd.prog 39 #[.pointer none] w fun e w' => e = .returned (.int .i64 0) ∧ w = w' := by
  go_enter Tryd.func39, Tryd.ntmps39
  go_wp2_with fail
  go_ret
  exact ⟨rfl, rfl⟩
set_option maxRecDepth 20000 in
set_option maxHeartbeats 2000000 in
theorem count_any (ok : Nat → Prop) (v : Value) (m : List Bool) (w : World) (h : Bm ok w v m) :
    Calls Tryd.prog 39 #[v] w fun e w' => e = .returned (.int .i64 ((cntTo (inB m) m.length : Nat) : Int)) ∧ w = w' := by
  rcases h with ⟨rfl, rfl⟩ | ⟨b, g, c, W, rfl, _, _, hat, hbits⟩
  · exact count_nil w
  · have HAT := hid hat
    have hc1 := hat.hw
    have HC := hid (cnt_all hbits (by have := hat.len; omega))
    obtain ⟨n, hn⟩ : ∃ n, n = W.length := ⟨_, rfl⟩
    have HN := hid hn
    rw [← hn] at hc1
    have hn32 : (n : Int) ≤ 32 := by have := hat.wlen; omega
    clear hn hat hbits
    go_enter Tryd.func39, Tryd.ntmps39
    go_wp2_with fail
    go_loop [3, 13] (fun t i => ∃ k : Nat, k ≤ n ∧ i = .int .i64 (k : Int) ∧ t = .int .i64 ((cntTo (wbit W) (64 * k) : Nat) : Int)) (fun _ i => n - (intOf i).toNat)
    case atStart => exact ⟨0, Nat.zero_le _, rfl, rfl⟩
    case round =>
      obtain ⟨k, hk, rfl, rfl⟩ := hrel
      have hcl : cntTo (wbit W) (64 * k) ≤ 64 * k := numsTo_len _ _
      obtain ⟨cn, hcn⟩ : ∃ cn, cn = cntTo (wbit W) (64 * k) := ⟨_, rfl⟩
      have HCN := hid hcn
      rw [← hcn] at hcl ⊢
      clear hcn
      by_cases hlt : (k : Int) < n
      · have hcell := HAT.out.cell (q := k) (by rw [← HN.out]; omega)
        have HX : Hid (W.getD k 0 < 18446744073709551616) := hid (wget_lt HAT.out.fits k)
        have HSUM : Hid (cntTo (wbit W) (64 * (k + 1)) = cn + popN (W.getD k 0) 64) := hid (by rw [cnt_words, HCN.out])
        have hpl : popN (W.getD k 0) 64 ≤ 64 := by unfold popN; exact numsTo_len _ _
        generalize W.getD k 0 = x at *
        have HO := hid (ones_any x w HX.out)
        generalize popN x 64 = pp at *
        have hkn : (k < n) = True := eq_true (by omega)
        go_wp2_with fail
        refine HO.out.mono ?_
        rintro e w1 ⟨rfl, rfl⟩
        go_wp2_with fail
        go_round
        case rel => exact ⟨k + 1, by omega, by go_num, by rw [HSUM.out]; go_num⟩
        case measure => simp [intOf]; omega
      · have hkf : (k < n) = False := eq_false (by omega)
        have HKN : Hid (k = W.length) := hid (by rw [← HN.out]; omega)
        clear hlt
        go_wp2_with fail
        go_ret
        exact ⟨by rw [← HC.out, ← HKN.out, ← HCN.out]; rfl, rfl⟩
end Go.Proofs.YtjgnnofpilmgoaaDoor

