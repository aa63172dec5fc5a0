/- CONTRACTS: All, Bytes, Count. -/
import Derived.Test.YtpdkfmanehgabaaDoorBmOnes
namespace Go.Proofs.YtpdkfmanehgabaaDoor
open Go.RowKit Go.Inc

theorem infoInt : (Tryd.prog.info? 3).map (fun i => (i.zero, i.size, i.bytes)) = some (some (.int .i64 0), 1, 8) := by kernel_rfl
theorem infoByte : (Tryd.prog.info? 5).map (fun i => (i.zero, i.size, i.bytes)) = some (some (.int .u8 0), 1, 1) := by kernel_rfl
def allMs (S : Nat) (no e : Value) : Nat := if intOf e = 0 then S + 1 - (intOf no).toNat else 0
/-- Where the gathering stands: at a number, or at the end. -/
def AllAt (m : List Bool) (w : World) (B : Nat) (v no e : Value) : Prop :=
  (∃ k : Nat, k < m.length ∧ inB m k = true ∧ no = .int .i64 (k : Int) ∧ e = .int .i64 0 ∧ w.ownsRow B 3 1 v (cntTo (inB m) k) (nvals (numsTo (inB m) k))) ∨
  (no = .int .i64 0 ∧ e = .int .i64 7 ∧ w.ownsRow B 3 1 v (cntTo (inB m) m.length) (nvals (numsTo (inB m) m.length)))
/-- The next one from K on, or none. -/
def NextAt (m : List Bool) (K : Nat) (v : Value) : Prop :=
  (∃ k : Nat, K ≤ k ∧ k < m.length ∧ inB m k = true ∧ v = .tuple #[.int .i64 (k : Int), .int .i64 0] ∧ numsTo (inB m) k = numsTo (inB m) K) ∨
  (v = .tuple #[.int .i64 0, .int .i64 7] ∧ (K ≤ m.length → numsTo (inB m) m.length = numsTo (inB m) K))
theorem next_at (m : List Bool) (K : Nat) : NextAt m K (seekV (lowB (inB m) (K : Int) true m.length)) := by
  rcases lowB_cases (inB m) (K : Int) true m.length with ⟨h, hn⟩ | ⟨k, hk, h, ⟨h1, h2⟩, hn⟩
  · refine .inr ⟨seekV_none h, fun hK => ?_⟩
    obtain ⟨n, hnl⟩ : ∃ n, m.length = K + n := ⟨m.length - K, by omega⟩
    rw [hnl]
    exact numsTo_gap n fun i h1 h2 => by
      have := hn i (by omega)
      cases hi : inB m i
      · rfl
      · exact absurd ⟨by omega, hi⟩ this
  · refine .inl ⟨k, by omega, hk, h2, seekV_at h, ?_⟩
    obtain ⟨n, rfl⟩ : ∃ n, k = K + n := ⟨k - K, by omega⟩
    exact numsTo_gap n fun i h1 h2 => by
      have := hn i (by omega)
      cases hi : inB m i
      · rfl
      · exact absurd ⟨by omega, hi⟩ this
theorem lowest_next (ok : Nat → Prop) (v : Value) (m : List Bool) (K : Nat) (w : World) (h : Bm ok w v m) (ht : Tab w) (hK : K ≤ 4096) :
    Calls Tryd.prog 24 #[v, .int .i64 (K : Int)] w fun e w' => ∃ x, e = .returned x ∧ NextAt m K x ∧ w = w' :=
  (lowest_any ok v m K w h ht (by omega) (by omega)).mono fun _ _ h => ⟨_, h.1, next_at m K, h.2⟩
set_option maxRecDepth 20000 in
set_option maxHeartbeats 2000000 in
theorem all_any (ok : Nat → Prop) (v : Value) (m : List Bool) (w : World) (h : Bm ok w v m) (ht : Tab w) :
    Calls Tryd.prog 28 #[v] w fun e w' => (∃ x, e = .returned x ∧ w'.ownsRow w.heap.size 3 1 x (cntTo (inB m) m.length) (nvals (numsTo (inB m) m.length))) ∧ Below w.heap.size w w' := by
  have HB0 := hid h
  have HT0 := hid ht
  obtain ⟨S, hS⟩ : ∃ S, S = m.length := ⟨_, rfl⟩
  have HS := hid hS
  have hs2 : (S : Int) ≤ 2048 := by have := h.len; omega
  have HL0 := hid (lowest_next ok v m 0 w h ht (by omega))
  have HC : Hid (Calls Tryd.prog 24 #[v, .int .i64 0] w fun e w' => ∃ x, e = .returned x ∧ NextAt m 0 x ∧ w = w') := hid HL0.out
  clear h ht hS HL0
  go_enter Tryd.func28, Tryd.ntmps28
  go_wp2_with fail
  refine HC.out.mono ?_
  clear HC
  rintro e w1 ⟨x, rfl, hx, rfl⟩
  obtain ⟨a1, a2, rfl, HA⟩ : ∃ a1 a2, x = .tuple #[a1, a2] ∧ Hid (AllAt m w w.heap.size (.slice none 0 0) a1 a2) := by
    rcases hx with ⟨k, _, hk, hin, rfl, hn⟩ | ⟨rfl, hn⟩
    · exact ⟨_, _, rfl, hid (.inl ⟨k, hk, hin, rfl, rfl, by unfold cntTo; rw [hn]; exact World.ownsRow_nil _ _ _ _⟩)⟩
    · exact ⟨_, _, rfl, hid (.inr ⟨rfl, rfl, by unfold cntTo; rw [hn (Nat.zero_le _)]; exact World.ownsRow_nil _ _ _ _⟩)⟩
  clear hx
  go_wp2_with fail
  go_loopw [3, 4, 5] (fun l no e wr => AllAt m wr w.heap.size l no e ∧ Below w.heap.size w wr) (fun _ no e _ => allMs S no e)
  case atStart => exact ⟨HA.out, Below.refl _ _⟩
  case round =>
    obtain ⟨hat, hb⟩ := hrel
    have HB := hid hb
    clear hb HA
    rcases hat with ⟨k, hk, hin, rfl, rfl, hv⟩ | ⟨rfl, rfl, hv⟩
    · have hkS : (k : Int) < S := by have := HS.out; omega
      have hcnt : ((cntTo (inB m) k : Nat) : Int) ≤ k := by have := numsTo_len (inB m) k; unfold cntTo; omega
      have HV := hid hv
      have HT := hid (And.intro (numsTo_in hin) (cntTo_in hin))
      clear hk hin hv
      go_wp2_with (refine wpList_append_any rfl (.tmp 20) (.tmp 22) 32 rfl w.heap.size 3 (.int .i64 0) 8 Tryd.underlying32 infoInt rfl _ _ _ rfl (HV.out.alloc _) (some ⟨wr.heap.size, 0, none⟩) 1 1 _ rfl rfl (by intro h; cases h) (one_new wr _ _) (by simp [Value.oneCell']) (by unfold maxLen; omega) (by omega) (by have := HB.out.size; simp; omega) ?_)
      intro v4 w4 hv4 hg4 _
      have HB4 : Hid (Below w.heap.size w w4) := hid (below_owned (w0 := w) (HB.out.alloc HB.out.size _) (HV.out.alloc _) (Nat.le_refl _) hg4)
      have HV4 : Hid (w4.ownsRow w.heap.size 3 1 v4 (cntTo (inB m) (k + 1)) (nvals (numsTo (inB m) (k + 1)))) := hid (by rw [HT.out.1, HT.out.2, nvals_snoc]; exact hv4)
      clear hv4 hg4 HV HB HT
      have HN := hid (lowest_next ok v m (k + 1) w4 (HB0.out.below HB4.out) (HT0.out.below HB4.out) (by have := HS.out; omega))
      have HN2 : Hid (Calls Tryd.prog 24 #[v, .int .i64 ((k : Int) + 1)] w4 fun e w' => ∃ x, e = .returned x ∧ NextAt m (k + 1) x ∧ w4 = w') := hid HN.out
      clear HN
      go_wp2_with fail
      refine HN2.out.mono ?_
      clear HN2
      rintro e w5 ⟨x, rfl, hx, rfl⟩
      rcases hx with ⟨k2, hk1, hk2, hin2, rfl, hn⟩ | ⟨rfl, hn⟩
      · have HX := hid (And.intro hk1 (And.intro hk2 (And.intro hin2 hn)))
        clear hk1 hk2 hin2 hn
        go_wp2_with fail
        go_roundw
        case rel => exact ⟨.inl ⟨k2, HX.out.2.1, HX.out.2.2.1, rfl, rfl, by unfold cntTo; rw [HX.out.2.2.2]; exact HV4.out⟩, HB4.out⟩
        case measure =>
          have := HX.out.1
          have := HX.out.2.1
          have := HS.out
          simp [allMs, intOf]; omega
      · have HX := hid hn
        clear hn
        go_wp2_with fail
        go_roundw
        case rel => exact ⟨.inr ⟨rfl, rfl, by unfold cntTo; rw [HX.out (by have := HS.out; omega)]; exact HV4.out⟩, HB4.out⟩
        case measure => simp [allMs, intOf]; omega
    · have HV := hid hv
      clear hv
      go_wp2_with fail
      go_ret
      exact ⟨⟨_, rfl, HV.out⟩, HB.out⟩

theorem byte_at {m : List Bool} {W : List Nat} (hb : ∀ i, wbit W i = inB m i) (k : Nat) : (W.getD (8 * k / 64) 0 >>> (8 * k % 64)) % 256 = accB (inB m) (8 * k) 8 := by
  refine byte_ext (Nat.mod_lt _ (by decide)) (accB_lt _ _ 8) fun j hj => ?_
  rw [show (256 : Nat) = 2 ^ 8 from rfl, Nat.testBit_mod_two_pow, decide_eq_true hj, Bool.true_and, Nat.testBit_shiftRight, accB_bit _ _ 8 j (Nat.le_refl _) hj]
  have e := hb (8 * k + j)
  unfold wbit at e
  rw [show (8 * k + j) / 64 = 8 * k / 64 from by omega, show (8 * k + j) % 64 = 8 * k % 64 + j from by omega] at e
  rw [e]
  congr 1
  omega
theorem bytesB_get (f : Nat → Bool) (n : Nat) {k : Nat} (h : k < (n + 7) / 8) : (bytesB f n).getD k 0 = accB f (8 * k) 8 := by
  unfold bytesB
  rw [List.getD_eq_getElem?_getD, List.getElem?_map, List.getElem?_range h]
  rfl
set_option maxRecDepth 20000 in
set_option maxHeartbeats 2000000 in
theorem bytes_any (ok : Nat → Prop) (v : Value) (m : List Bool) (w : World) (h : Bm ok w v m) :
    Calls Tryd.prog 30 #[v] w fun e w' => (∃ x, e = .returned x ∧ Row 5 w.heap.size w' x (bytesB (inB m) m.length)) ∧ Below w.heap.size w w' := by
  have HB0 := hid h
  obtain ⟨S, hS⟩ : ∃ S, S = m.length := ⟨_, rfl⟩
  have HS := hid hS
  have hs2 : (S : Int) ≤ 2048 := by have := h.len; omega
  obtain ⟨B, hB⟩ : ∃ B, B = bytesB (inB m) m.length := ⟨_, rfl⟩
  have HBY := hid hB
  have HBL : Hid (B.length = (S + 7) / 8) := hid (by rw [hB, bytesB_len, hS])
  have HSZ : Hid (∀ z, Below w.heap.size w z → Calls Tryd.prog 9 #[v] z fun e w' => e = .returned (.int .i64 (S : Int)) ∧ z = w') := hid fun z hz => by rw [hS]; exact size_any ok v m z (h.below hz)
  rw [← hB]
  clear h hS hB
  go_enter Tryd.func30, Tryd.ntmps30
  go_wp2_with fail
  go_loopw [3, 4] (fun l i wr => ∃ k : Nat, k ≤ (S + 7) / 8 ∧ i = .int .i64 ((8 * k : Nat) : Int) ∧ wr.ownsRow w.heap.size 5 1 l k (u8s (B.take k)) ∧ Below w.heap.size w wr) (fun _ i _ => S + 8 - (intOf i).toNat)
  case atStart => exact ⟨0, Nat.zero_le _, rfl, World.ownsRow_nil _ _ _ _, Below.refl _ _⟩
  case round =>
    obtain ⟨k, hk, rfl, hv, hb⟩ := hrel
    have HV := hid hv
    have HB := hid hb
    have HS1 := hid (HSZ.out wr hb)
    clear hv hb
    obtain ⟨no, hno⟩ : ∃ no, no = 8 * k := ⟨_, rfl⟩
    have HNO := hid hno
    by_cases hlt : (no : Int) < S
    · rcases (hid (HB0.out.below HB.out)).out with ⟨_, hm⟩ | ⟨b, g, c, W, rfl, hob, hog, hat, hbits⟩
      · have := HS.out; rw [hm] at this; simp at this; omega
      have hlen := hat.len
      obtain ⟨q, hq⟩ : ∃ q, q = no / 64 := ⟨_, rfl⟩
      have hqn : q < W.length := by rw [hq, hlen, ← HS.out]; omega
      have hc1 := hat.hw
      have hc2 := hat.cell hqn
      obtain ⟨u, hu⟩ : ∃ u, u = W.getD q 0 := ⟨_, rfl⟩
      obtain ⟨r, hr⟩ : ∃ r, r = no % 64 := ⟨_, rfl⟩
      obtain ⟨x, hx⟩ : ∃ x, x = u >>> r := ⟨_, rfl⟩
      obtain ⟨y, hy⟩ : ∃ y, y = x % 256 := ⟨_, rfl⟩
      rw [← hu] at hc2
      have hsh : (u : Int) / 2 ^ r = (x : Int) := by rw [hx, Nat.shiftRight_eq_div_pow]; simp
      have hcv : IntKind.u8.wrap (x : Int) = (y : Int) := by rw [hy, IntKind.wrap_u8]; omega
      have hcv2 : (x : Int) % 256 = (y : Int) := by rw [hy]; omega
      have hkb : k < (S + 7) / 8 := by omega
      have HYB : Hid (B.take (k + 1) = B.take k ++ [y]) := hid (by
        rw [take_snoc (by rw [HBL.out]; exact hkb)]
        congr 2
        rw [HBY.out, bytesB_get _ _ (by rw [← HS.out]; exact hkb), ← byte_at hbits k, hy, hx, hu, hq, hr, hno])
      have hki : (no : Int) / 64 = (q : Int) := by omega
      have hkr : (no : Int) % 64 = (r : Int) := by omega
      have hr64 : (r : Int) < 64 := by omega
      obtain ⟨n, hn⟩ : ∃ n, n = W.length := ⟨_, rfl⟩
      rw [← hn] at hc1 hqn
      have hqn' : (q : Int) < (n : Int) := by omega
      have hq32 : (q : Int) < 32 := by omega
      have hks : (no < S) = True := eq_true (by omega)
      rw [← hno]
      clear hq hr hu hx hy hn hat hbits hlen hob hog hno
      go_wp2_with fail
      refine HS1.out.mono ?_
      rintro e w1 ⟨rfl, rfl⟩
      go_wp2_with (refine wpList_append_any rfl (.tmp 11) (.tmp 24) 39 rfl w.heap.size 5 (.int .u8 0) 1 Tryd.underlying39 infoByte rfl _ _ _ rfl (HV.out.alloc _) (some ⟨wr.heap.size, 0, none⟩) 1 1 _ rfl rfl (by intro h; cases h) (one_new wr _ _) (by simp [Value.oneCell']) (by unfold maxLen; omega) (by omega) (by have := HB.out.size; simp; omega) ?_)
      intro v4 w4 hv4 hg4 _
      have HB4 : Hid (Below w.heap.size w w4) := hid (below_owned (w0 := w) (HB.out.alloc HB.out.size _) (HV.out.alloc _) (Nat.le_refl _) hg4)
      have HV4 : Hid (w4.ownsRow w.heap.size 5 1 v4 (k + 1) (u8s (B.take (k + 1)))) := hid (by rw [HYB.out, u8s_append]; exact hv4)
      clear hv4 hg4 HV HB
      go_wp2_with fail
      go_roundw
      case rel => exact ⟨k + 1, hkb, by rw [show 8 * (k + 1) = no + 8 from by have := HNO.out; omega]; go_num, HV4.out, HB4.out⟩
      case measure => simp [intOf]; omega
    · have hks : (no < S) = False := eq_false (by omega)
      have HKE : Hid (k = B.length) := hid (by rw [HBL.out]; omega)
      rw [← hno]
      clear hlt hno
      go_wp2_with fail
      refine HS1.out.mono ?_
      rintro e w1 ⟨rfl, rfl⟩
      go_wp2_with fail
      go_ret
      exact ⟨⟨_, rfl, by have h := HV.out; rw [HKE.out, List.take_of_length_le (Nat.le_refl _)] at h; exact h⟩, HB.out⟩
theorem cnt_words {W : List Nat} (k : Nat) : cntTo (wbit W) (64 * (k + 1)) = cntTo (wbit W) (64 * k) + popN (W.getD k 0) 64 := by
  rw [show 64 * (k + 1) = 64 * k + 64 from by omega, cntTo_add]
  congr 1
  unfold popN
  exact cntTo_congr fun j hj => by
    unfold wbit
    rw [show (64 * k + j) / 64 = k from by omega, show (64 * k + j) % 64 = j from by omega]
theorem cnt_all {m : List Bool} {W : List Nat} (hb : ∀ i, wbit W i = inB m i) (hl : m.length ≤ 64 * W.length) : cntTo (wbit W) (64 * W.length) = cntTo (inB m) m.length := by
  rw [show wbit W = inB m from funext hb]
  obtain ⟨n, hn⟩ : ∃ n, 64 * W.length = m.length + n := ⟨64 * W.length - m.length, by omega⟩
  rw [hn]
  exact cntTo_gap n fun i h1 _ => inB_far h1
theorem count_nil (w : World) : Calls Tryd.prog 27 #[.pointer none] w fun e w' => e = .returned (.int .i64 0) ∧ w = w' := by
  go_enter Tryd.func27, Tryd.ntmps27
  go_wp2_with fail
  go_ret
  exact ⟨rfl, rfl⟩
set_option maxRecDepth 20000 in
set_option maxHeartbeats 2000000 in
theorem count_any (ok : Nat → Prop) (v : Value) (m : List Bool) (w : World) (h : Bm ok w v m) :
    Calls Tryd.prog 27 #[v] w fun e w' => e = .returned (.int .i64 ((cntTo (inB m) m.length : Nat) : Int)) ∧ w = w' := by
  rcases h with ⟨rfl, rfl⟩ | ⟨b, g, c, W, rfl, _, _, hat, hbits⟩
  · exact count_nil w
  · have HAT := hid hat
    have hc1 := hat.hw
    have HC := hid (cnt_all hbits (by have := hat.len; omega))
    obtain ⟨n, hn⟩ : ∃ n, n = W.length := ⟨_, rfl⟩
    have HN := hid hn
    rw [← hn] at hc1
    have hn32 : (n : Int) ≤ 32 := by have := hat.wlen; omega
    clear hn hat hbits
    go_enter Tryd.func27, Tryd.ntmps27
    go_wp2_with fail
    go_loop [3, 13] (fun t i => ∃ k : Nat, k ≤ n ∧ i = .int .i64 (k : Int) ∧ t = .int .i64 ((cntTo (wbit W) (64 * k) : Nat) : Int)) (fun _ i => n - (intOf i).toNat)
    case atStart => exact ⟨0, Nat.zero_le _, rfl, rfl⟩
    case round =>
      obtain ⟨k, hk, rfl, rfl⟩ := hrel
      have hcl : cntTo (wbit W) (64 * k) ≤ 64 * k := numsTo_len _ _
      obtain ⟨cn, hcn⟩ : ∃ cn, cn = cntTo (wbit W) (64 * k) := ⟨_, rfl⟩
      have HCN := hid hcn
      rw [← hcn] at hcl ⊢
      clear hcn
      by_cases hlt : (k : Int) < n
      · have hcell := HAT.out.cell (q := k) (by rw [← HN.out]; omega)
        have HX : Hid (W.getD k 0 < 18446744073709551616) := hid (wget_lt HAT.out.fits k)
        have HSUM : Hid (cntTo (wbit W) (64 * (k + 1)) = cn + popN (W.getD k 0) 64) := hid (by rw [cnt_words, HCN.out])
        have hpl : popN (W.getD k 0) 64 ≤ 64 := by unfold popN; exact numsTo_len _ _
        generalize W.getD k 0 = x at *
        have HO := hid (ones_any x w HX.out)
        generalize popN x 64 = pp at *
        have hkn : (k < n) = True := eq_true (by omega)
        go_wp2_with fail
        refine HO.out.mono ?_
        rintro e w1 ⟨rfl, rfl⟩
        go_wp2_with fail
        go_round
        case rel => exact ⟨k + 1, by omega, by go_num, by rw [HSUM.out]; go_num⟩
        case measure => simp [intOf]; omega
      · have hkf : (k < n) = False := eq_false (by omega)
        have HKN : Hid (k = W.length) := hid (by rw [← HN.out]; omega)
        clear hlt
        go_wp2_with fail
        go_ret
        exact ⟨by rw [← HC.out, ← HKN.out, ← HCN.out]; rfl, rfl⟩
end Go.Proofs.YtpdkfmanehgabaaDoor
