/- CONTRACT: the document's bytes of a frame that is right. -/
import Derived.Test.YtebacgkeolofmaaU13
import Derived.Test.YtebacgkeolofmaaU4
import Derived.Test.YtebacgkeolofmaaU3
import Derived.Deep.CutBlock
import Derived.OwnWalk
namespace Go.Proofs.Ytebacgkeolofmaa
open Go.RowKit Go.Inc

def head10 (K E P n : Nat) : List Nat := [241, K, E % 256, E / 256 % 256, E / 65536 % 256, E / 16777216, P % 256, P / 256, n % 256, n / 256]
theorem laid_head {K E P : Nat} {bs : List Nat} (h1 : K < 256) (h2 : E < 4294967296) (h3 : P < 65536) (h4 : bs.length < 65536) :
    laid ⟨(K : Int), (E : Int), (P : Int), bs⟩ = head10 K E P bs.length ++ bs ++ List.replicate (238 - bs.length) 0 ++ fr4 E := by
  have e1 : E / 16777216 % 256 = E / 16777216 := by omega
  have e2 : P / 256 % 256 = P / 256 := by omega
  have e3 : bs.length / 256 % 256 = bs.length / 256 := by omega
  have e4 : K % 256 = K := by omega
  unfold laid head10
  simp [fr4, fr2, e1, e2, e3, e4]

/-- The bytes behind k zeros. -/
def frL (K E P n : Nat) (bs : List Nat) (k : Nat) : List Nat := head10 K E P n ++ bs ++ List.replicate k 0
theorem frL_len {K E P n : Nat} {bs : List Nat} (h : bs.length = n) (k : Nat) : (frL K E P n bs k).length = 10 + n + k := by
  unfold frL
  rw [List.length_append, List.length_append, List.length_replicate, h]
  rfl
theorem frL_zero (K E P n : Nat) (bs : List Nat) : frL K E P n bs 0 = head10 K E P n ++ bs := by simp [frL]
theorem frL_succ (K E P n : Nat) (bs : List Nat) (k : Nat) : frL K E P n bs (k + 1) = frL K E P n bs k ++ [0] := by
  unfold frL
  rw [List.replicate_succ', ← List.append_assoc]
theorem frL_get {K E P n : Nat} {bs : List Nat} (k j : Nat) (h2 : E < 4294967296) (hj : j < 4) : (frL K E P n bs k).getD (2 + j) 0 = (fr4 E).getD j 0 := by
  have e1 : E / 16777216 % 256 = E / 16777216 := by omega
  unfold frL head10 fr4
  have h4 : j = 0 ∨ j = 1 ∨ j = 2 ∨ j = 3 := by omega
  rcases h4 with rfl | rfl | rfl | rfl <;> simp [e1]
theorem frL_laid {K E P : Nat} {bs : List Nat} (h1 : K < 256) (h2 : E < 4294967296) (h3 : P < 65536) (h4 : bs.length < 65536) {k : Nat} (hk : k = 238 - bs.length) : frL K E P bs.length bs k ++ fr4 E = laid ⟨(K : Int), (E : Int), (P : Int), bs⟩ := by
  subst hk
  rw [laid_head h1 h2 h3 h4]
  rfl
set_option maxRecDepth 20000 in
set_option maxHeartbeats 4000000 in
theorem refEnc_any (ok : Nat → Prop) (K E P : Nat) (a : Option Addr) (c : Nat) (bs : List Nat) (w : World) (h1 : 1 ≤ (K : Int)) (h2 : (K : Int) ≤ 9) (h4 : (E : Int) ≤ 4294967295) (h6 : (P : Int) ≤ 2047) (h7 : (bs.length : Int) ≤ 238) (hs : Sl ok w a bs) (hby : Bytes bs) (hn : a = none → c = 0) :
    Calls Try.prog 38 #[.agg #[.int .i64 (K : Int), .int .i64 (E : Int), .int .i64 (P : Int), .slice a bs.length c]] w fun r w' => ∃ v, r = .returned v ∧ Row 5 w.heap.size w' v (enc ⟨(K : Int), (E : Int), (P : Int), bs⟩) ∧ Below w.heap.size w w' := by
  have hb := (Below.refl w.heap.size w).alloc (Nat.le_refl _) (.cells #[.int .i64 (K : Int), .int .i64 (E : Int), .int .i64 (P : Int), .slice a bs.length c] 75)
  have HS := hid (hs.below hb)
  have HB := hid hb
  have HBY := hid hby
  have HN := hid hn
  clear hs hby hn hb
  generalize hL : bs.length = n at *
  have HLN := hid hL
  clear hL
  go_enter Try.func38, Try.ntmps38
  go_upto_region 2 with fail
  obtain ⟨w2, hw2⟩ : ∃ w2, w2 = ((w.alloc (.cells #[.int .i64 (K : Int), .int .i64 (E : Int), .int .i64 (P : Int), .slice a n c] 75)).alloc (.cells #[.int .u8 241, .int .u8 (K : Int), .int .u8 ((E : Int) % 256), .int .u8 ((E : Int) / 256 % 256), .int .u8 ((E : Int) / 65536 % 256), .int .u8 ((E : Int) / 16777216), .int .u8 ((P : Int) % 256), .int .u8 ((P : Int) / 256), .int .u8 ((n : Int) % 256), .int .u8 ((n : Int) / 256)] 5)) := ⟨_, rfl⟩
  have hb2 : Below w.heap.size w w2 := by rw [hw2]; exact ((Below.refl _ _).alloc (Nat.le_refl _) _).alloc (by simp) _
  have hown : w2.ownsRow (w.heap.size + 1) 5 1 (.slice (some ⟨w.heap.size + 1, 0, none⟩) 10 10) 10 (u8s (head10 K E P n)) := by
    have h := World.ownsRow_lit (base := w.heap.size + 1) (e := 5) (size := 1) (w.alloc (.cells #[.int .i64 (K : Int), .int .i64 (E : Int), .int .i64 (P : Int), .slice a n c] 75)) (u8s (head10 K E P n)).toArray 10 (by simp) (by unfold maxLen; omega) (by simp [u8s, head10])
    have e : (u8s (head10 K E P n)).toArray = #[.int .u8 241, .int .u8 (K : Int), .int .u8 ((E : Int) % 256), .int .u8 ((E : Int) / 256 % 256), .int .u8 ((E : Int) / 65536 % 256), .int .u8 ((E : Int) / 16777216), .int .u8 ((P : Int) % 256), .int .u8 ((P : Int) / 256), .int .u8 ((n : Int) % 256), .int .u8 ((n : Int) / 256)] := by
      simp [u8s, head10]
    rw [e] at h
    rw [hw2]
    simpa [u8s, head10] using h
  have hrow : w2.heap[w.heap.size]? = some (.cells #[.int .i64 (K : Int), .int .i64 (E : Int), .int .i64 (P : Int), .slice a n c] 75 (0, 0)) := by rw [hw2]; exact heap_alloc2_old w _ _
  have hsl2 : Sl ok w2 a bs := by rw [hw2]; exact HS.out.below ((Below.refl _ _).alloc (Nat.le_refl _) _)
  rw [← hw2]
  have c3 := cell_of_row w2 _ 3 _ _ _ hrow
  have HOWN := hid hown
  have HB2 := hid hb2
  have HSL := hid hsl2
  have HLE : Hid (w.heap.size + 1 ≤ w2.heap.size) := hid (by rw [hw2]; simp)
  clear hown hb2 hrow hsl2 hw2 HB HS
  go_wp2_with (refine wpList_append_any rfl (.tmp 44) (.tmp 46) 26 rfl (w.heap.size + 1) 5 (.int .u8 0) 1 Try.underlying26 infoU8 rfl _ _ _ rfl HOWN.out a n c (u8s bs) rfl (by rw [u8s_length]; exact HLN.out) (by intro h; have := HSL.out.some_len h; have := HLN.out; omega) HSL.out.cells (u8s_one _) (by unfold maxLen; omega) (by omega) HLE.out ?_)
  intro v1 w3 hv1 hg1 _
  have HB3 : Hid (Below w.heap.size w w3) := hid (below_owned (w0 := w) HB2.out HOWN.out (Nat.le_succ _) hg1)
  have hv1' : Row 5 (w.heap.size + 1) w3 v1 (frL K E P n bs 0) := by
    unfold Row
    rw [frL_zero, u8s_append, List.length_append, HLN.out]
    exact hv1
  have HV1 := hid hv1'
  have HLE3 : Hid (w.heap.size + 1 ≤ w3.heap.size) := hid (Nat.le_trans HLE.out hg1.size)
  clear hv1 hg1 hv1' HOWN HB2 HSL HLE c3
  go_wp2_with fail
  go_loopw [3] (fun v wr => ∃ k : Nat, 10 + n + k ≤ 248 ∧ Row 5 (w.heap.size + 1) wr v (frL K E P n bs k) ∧ Below w.heap.size w wr ∧ w.heap.size + 1 ≤ wr.heap.size) (fun v _ => 248 - (match v with | .slice _ l _ => l | _ => 0))
  case atStart => exact ⟨0, by omega, HV1.out, HB3.out, HLE3.out⟩
  case round =>
    obtain ⟨k, hk, hr, hbw, hle⟩ := hrel
    have hlen : (frL K E P n bs k).length = 10 + n + k := frL_len HLN.out k
    rcases hr.2 with ⟨_, h0⟩ | ⟨g, cap, cur, rfl, hg, hrow, hnc, hm, hcs, htk⟩
    · rw [hlen] at h0; omega
    · have hown : wr.ownsRow (w.heap.size + 1) 5 1 (.slice (some ⟨g, 0, none⟩) (frL K E P n bs k).length cap) (frL K E P n bs k).length (u8s (frL K E P n bs k)) := hr
      rw [hlen] at hown hnc ⊢
      obtain ⟨q, hq⟩ : ∃ q, q = 10 + n + k := ⟨_, rfl⟩
      rw [← hq] at hown hnc ⊢
      have hqi : (q : Int) ≤ 248 := by omega
      have HQ := hid hq
      have HOWN := hid hown
      have HBW := hid hbw
      have HLE := hid hle
      have HGG := hid hg
      have hnci : (q : Int) ≤ cap := by omega
      have hmi : (cap : Int) ≤ 9223372036854775807 := by unfold maxLen at hm; omega
      clear hr hlen hrow hcs htk hown hbw hle hg hnc hm hk hq
      by_cases hlt : (q : Int) < 248
      · go_wp2_with (refine wpList_append_any rfl (.tmp 51) (.tmp 52) 26 rfl (w.heap.size + 1) 5 (.int .u8 0) 1 Try.underlying26 infoU8 rfl _ _ _ rfl (HOWN.out.alloc _) (some ⟨wr.heap.size, 0, none⟩) 1 1 _ rfl rfl (by intro h; cases h) (one_new wr _ _) (by simp [Value.oneCell']) (by unfold maxLen; omega) (by omega) (by have := HLE.out; simp; omega) ?_)
        intro v4 w4 hv4 hg4 _
        have hb4 : Below w.heap.size w w4 := below_owned (w0 := w) (HBW.out.alloc HBW.out.size _) (HOWN.out.alloc _) (Nat.le_succ _) hg4
        have hr4 : Row 5 (w.heap.size + 1) w4 v4 (frL K E P n bs (k + 1)) := by
          unfold Row
          rw [frL_len HLN.out, frL_succ, u8s_append, show 10 + n + (k + 1) = q + 1 from by have := HQ.out; omega]
          exact hv4
        have hle4 : w.heap.size + 1 ≤ w4.heap.size := Nat.le_trans HLE.out (Nat.le_trans (by simp) hg4.size)
        obtain ⟨a4, c4, rfl, _, _, _, _⟩ := hr4.sl
        have hl4 : (frL K E P n bs (k + 1)).length = q + 1 := by rw [frL_len HLN.out]; have := HQ.out; omega
        have HR4 := hid hr4
        have HB4 := hid hb4
        have HLE4 := hid hle4
        have HL4 := hid hl4
        clear hv4 hg4 hr4 hb4 hle4 hl4
        go_wp2_with fail
        go_roundw
        case rel => exact ⟨k + 1, by have := HQ.out; omega, HR4.out, HB4.out, HLE4.out⟩
        case measure => rw [HL4.out]; simp only []; omega
      · have hq8 : q = 248 := by omega
        subst hq8
        have hc2 : (cap = 2) = False := eq_false (by omega)
        have HK : Hid (k = 238 - bs.length) := hid (by have := HQ.out; have := HLN.out; omega)
        have HCS : Hid (∀ ad, some (⟨g, 2, none⟩ : Addr) = some ad → ∀ j u, (u8s (fr4 E))[j]? = some u → wr.cell? (ad.add j) = some u) := hid fun ad had j u hu => by
          cases had
          have hj : j < 4 := by have := (List.getElem?_eq_some_iff.1 hu).1; rwa [u8s_length] at this
          have hc := HOWN.out.cells (g := g) rfl (2 + j) (.int .u8 (((frL K E P n bs k).getD (2 + j) 0 : Nat) : Int)) (u8s_get (by rw [frL_len HLN.out]; have := HQ.out; omega))
          rw [Addr.add_lit] at hc
          simp only [Nat.zero_add] at hc
          rw [Addr.add_lit, hc, frL_get k j (by omega) hj]
          rw [u8s_get hj] at hu
          exact hu
        have HLD : Hid (frL K E P bs.length bs k ++ fr4 E = laid ⟨(K : Int), (E : Int), (P : Int), bs⟩) := hid (frL_laid (by omega) (by omega) (by omega) (by have := HLN.out; omega) HK.out)
        have HLL : Hid ((laid ⟨(K : Int), (E : Int), (P : Int), bs⟩).length = 252) := hid (laid_len (by show bs.length ≤ 238; have := HLN.out; omega))
        have HLB : Hid (Bytes (laid ⟨(K : Int), (E : Int), (P : Int), bs⟩)) := hid (laid_bytes HBY.out)
        have HEN : Hid (enc ⟨(K : Int), (E : Int), (P : Int), bs⟩ = laid ⟨(K : Int), (E : Int), (P : Int), bs⟩ ++ low (Crc.sum (laid ⟨(K : Int), (E : Int), (P : Int), bs⟩))) := hid rfl
        rw [HLN.out] at HLD
        go_wp2_with (refine wpList_append_any rfl (.tmp 54) (.tmp 56) 26 rfl (w.heap.size + 1) 5 (.int .u8 0) 1 Try.underlying26 infoU8 rfl _ _ _ rfl HOWN.out (some ⟨g, 2, none⟩) 4 (cap - 2) (u8s (fr4 E)) rfl rfl (by intro h; cases h) HCS.out (u8s_one _) (by unfold maxLen; omega) (by omega) HLE.out ?_)
        intro v5 w5 hv5 hg5 _
        have hb5 : Below w.heap.size w w5 := below_owned (w0 := w) HBW.out HOWN.out (Nat.le_succ _) hg5
        have hr5 : Row 5 (w.heap.size + 1) w5 v5 (laid ⟨(K : Int), (E : Int), (P : Int), bs⟩) := by
          unfold Row
          rw [HLL.out, ← HLD.out, u8s_append]
          exact hv5
        have HLE5 : Hid (w.heap.size + 1 ≤ w5.heap.size) := hid (Nat.le_trans HLE.out hg5.size)
        have HR5 := hid hr5
        have HB5 := hid hb5
        obtain ⟨a5, c5, rfl, hn5, hlc5, hm5, hs5⟩ := hr5.sl
        have HS5 := hid (refSum_any _ a5 c5 _ w5 hs5 HLB.out (by rw [HLL.out]; decide))
        have hsl5 := Crc.sum_lt (laid ⟨(K : Int), (E : Int), (P : Int), bs⟩) HLB.out
        have HLW := hid (low_any (Crc.sum (laid ⟨(K : Int), (E : Int), (P : Int), bs⟩)) w5 hsl5)
        have HLO : Hid ((low (Crc.sum (laid ⟨(K : Int), (E : Int), (P : Int), bs⟩))).length = 4) := hid rfl
        rw [HLL.out] at HS5
        have HOWN5 : Hid (w5.ownsRow (w.heap.size + 1) 5 1 (.slice a5 252 c5) 252 (u8s (laid ⟨(K : Int), (E : Int), (P : Int), bs⟩))) := hid (by
          have h := HR5.out
          unfold Row at h
          rwa [HLL.out] at h)
        rw [HLL.out]
        clear hv5 hg5 hb5 hr5 hs5 hn5 hlc5 hm5 HOWN HBW HLE HCS HLD HLB HQ HK HR5 hlt hnci hqi hc2 hmi HGG
        generalize hLL : laid ⟨(K : Int), (E : Int), (P : Int), bs⟩ = LL at *
        generalize Crc.sum LL = sm at *
        go_wp2_with fail
        refine HS5.out.mono ?_
        rintro r w6 ⟨rfl, rfl⟩
        clear HS5
        go_wp2_with fail
        refine HLW.out.mono ?_
        rintro r w7 ⟨rfl, hs7, hb7⟩
        have HS7 := hid hs7
        have HB7 : Hid (Below w.heap.size w w7) := hid (HB5.out.trans (hb7.mono HB5.out.size))
        have HOWN7 := hid (Row.kept (E := 5) (B := w.heap.size + 1) (w := w5) (v := .slice a5 252 c5) (bs := LL) (by unfold Row; rw [HLL.out]; exact HOWN5.out) hb7)
        have HOWN8 : Hid (w7.ownsRow (w.heap.size + 1) 5 1 (.slice a5 252 c5) 252 (u8s LL)) := hid (by have h := HOWN7.out; unfold Row at h; rwa [HLL.out] at h)
        have HLE7 : Hid (w.heap.size + 1 ≤ w7.heap.size) := hid (Nat.le_trans HLE5.out hb7.size)
        clear hs7 hb7 HLW HOWN7 HOWN5 HB5 HLE5
        go_wp2_with (refine wpList_append_any rfl (.tmp 58) (.tmp 61) 26 rfl (w.heap.size + 1) 5 (.int .u8 0) 1 Try.underlying26 infoU8 rfl _ _ _ rfl HOWN8.out (some ⟨w5.heap.size, 0, none⟩) 4 4 (u8s (low sm)) rfl rfl (by intro h; cases h) HS7.out.cells (u8s_one _) (by unfold maxLen; omega) (by omega) HLE7.out ?_)
        intro v9 w9 hv9 hg9 _
        have HB9 : Hid (Below w.heap.size w w9) := hid (below_owned (w0 := w) HB7.out HOWN8.out (Nat.le_succ _) hg9)
        have HR9 : Hid (Row 5 w.heap.size w9 v9 (enc ⟨(K : Int), (E : Int), (P : Int), bs⟩)) := hid (by
          have h : Row 5 (w.heap.size + 1) w9 v9 (LL ++ low sm) := by
            unfold Row
            rw [List.length_append, HLL.out, HLO.out, u8s_append]
            exact hv9
          rw [HEN.out]
          exact h.weaken (Nat.le_succ _))
        clear hv9 hg9 HOWN8 HS7 HB7
        go_wp2_with fail
        go_ret
        exact ⟨_, rfl, HR9.out, HB9.out⟩
end Go.Proofs.Ytebacgkeolofmaa
