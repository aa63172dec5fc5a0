/- CONTRACTS: Add, Drop: numbers put in, taken out. -/
import Derived.Test.YtlfpepkgnobjnaaBmB
import Derived.Deep.CutBlock
namespace Go.Proofs.Ytlfpepkgnobjnaa
open Go.RowKit Go.Inc

abbrev Eqv' (x : Value) : World → Value → Prop := fun _ v => v = x
/-- One number put in (b) or taken out, where it changes something; how many did. -/
def setB (b : Bool) (s : List Bool × Nat) (z : Int) : List Bool × Nat :=
  if 0 ≤ z ∧ z < s.1.length ∧ hasB s.1 z ≠ b then (s.1.set z.toNat b, s.2 + 1) else s
def putTo (b : Bool) (m : List Bool) (zs : List Int) : Nat → List Bool × Nat
  | 0 => (m, 0)
  | k + 1 => setB b (putTo b m zs k) (zs.getD k 0)
theorem setB_len (b : Bool) (s : List Bool × Nat) (z : Int) : (setB b s z).1.length = s.1.length := by
  unfold setB
  split
  · simp
  · rfl
theorem putTo_len (b : Bool) (m : List Bool) (zs : List Int) : ∀ k, (putTo b m zs k).1.length = m.length
  | 0 => rfl
  | k + 1 => by unfold putTo; rw [setB_len, putTo_len b m zs k]
theorem setB_cnt (b : Bool) (s : List Bool × Nat) (z : Int) : (setB b s z).2 ≤ s.2 + 1 := by
  unfold setB
  split
  · exact Nat.le_refl _
  · exact Nat.le_succ _
theorem putTo_cnt (b : Bool) (m : List Bool) (zs : List Int) : ∀ k, (putTo b m zs k).2 ≤ k
  | 0 => Nat.le_refl _
  | k + 1 => by have := putTo_cnt b m zs k; have := setB_cnt b (putTo b m zs k) (zs.getD k 0); unfold putTo; omega
theorem si_mv {F : Nat → Prop} {ok : Nat → Prop} {w w' : World} {p : Option Addr} {zs : List Int} (h : Si ok w p zs) (hm : Mv F w w') (hk : ∀ i, ok i → ¬ F i) : Si ok w' p zs :=
  h.kept fun i hi hlt => hm.block i hlt (hk i hi)
theorem mv_setCell {F : Nat → Prop} {a w : World} (h : Mv F a w) {g q : Nat} (hg : F g) (u : Value) : Mv F a (w.setCell ⟨g, q, none⟩ u) :=
  h.trans' ⟨rfl, rfl, rfl, by simp [World.setCell], fun i _ hn => Below.heap_setCell _ _ _ _ (fun e => hn e)⟩ fun i _ (hf : i = g) => by subst hf; exact hg
set_option maxRecDepth 20000 in
set_option maxHeartbeats 4000000 in
theorem add_any (ok : Nat → Prop) (b g c : Nat) (m : List Bool) (W : List Nat) (a : Option Addr) (cz : Nat) (zs : List Int) (w : World) (h : BmAt w b g c m.length W) (hbits : ∀ i, wbit W i = inB m i) (hz : Si ok w a zs) (hok : ∀ i, ok i → i ≠ g) (hl : (zs.length : Int) ≤ 9223372036854775807) :
    Calls Try.prog 49 #[.pointer (some ⟨b, 0, none⟩), .slice a zs.length cz] w fun e w' => e = .returned (.int .i64 ((putTo true m zs zs.length).2 : Int)) ∧ (∃ W', BmAt w' b g c m.length W' ∧ ∀ i, wbit W' i = inB (putTo true m zs zs.length).1 i) ∧ Mv (fun i => i = g) w w' := by
  have HZ := hid hz
  have HA := hid (And.intro h hbits)
  have HOK := hid hok
  obtain ⟨n, hn⟩ : ∃ n, n = zs.length := ⟨_, rfl⟩
  have HN := hid hn
  obtain ⟨S, hS⟩ : ∃ S, S = m.length := ⟨_, rfl⟩
  have HS := hid hS
  have hs2 : (S : Int) ≤ 2048 := by have := h.s2; omega
  rw [← hn] at hl ⊢
  rw [← hS]
  clear hz hn h hbits hok hS
  go_enter Try.func49, Try.ntmps49
  go_wp2_with fail
  go_loopw [5, 10] (fun t i wr => ∃ (k : Nat) (V : List Nat), k ≤ n ∧ t = .int .i64 ((putTo true m zs k).2 : Int) ∧ i = .int .i64 (k : Int) ∧ BmAt wr b g c S V ∧ (∀ i, wbit V i = inB (putTo true m zs k).1 i) ∧ Mv (fun i => i = g) w wr) (fun _ i _ => n - (intOf i).toNat)
  case atStart => exact ⟨0, W, Nat.zero_le _, rfl, rfl, by rw [HS.out]; exact HA.out.1, HA.out.2, Mv.refl _ _⟩
  case round =>
    obtain ⟨k, V, hk, rfl, rfl, hat, hb, hmv⟩ := hrel
    have HAT := hid hat
    have HBT := hid hb
    have HMV := hid hmv
    have hcnt := putTo_cnt true m zs k
    obtain ⟨cnt, hc0⟩ : ∃ cnt, cnt = (putTo true m zs k).2 := ⟨_, rfl⟩
    obtain ⟨mk, hmk⟩ : ∃ mk, mk = (putTo true m zs k).1 := ⟨_, rfl⟩
    have HC0 := hid hc0
    have HMK := hid hmk
    rw [← hc0] at hcnt ⊢
    have hlk : mk.length = S := by rw [hmk, putTo_len, HS.out]
    have HLK := hid hlk
    have HBM : Hid (Bm (fun _ => True) wr (.pointer (some ⟨b, 0, none⟩)) mk) := hid (.inr ⟨b, g, c, V, rfl, trivial, trivial, by rw [hlk]; exact hat, by rw [hmk]; exact hb⟩)
    clear hat hb hmv HA hc0 hmk
    by_cases hlt : (k : Int) < n
    · obtain ⟨b0, o0, rfl, hc⟩ : ∃ b0 o0, a = some ⟨b0, o0, none⟩ ∧ wr.cell? ⟨b0, o0 + k, none⟩ = some (.int .i64 (zs.getD k 0)) := by
        rcases si_mv HZ.out HMV.out HOK.out with h | ⟨b0, o0, h, _, hc⟩
        · have := HN.out; rw [h] at this; simp at this; omega
        · exact ⟨b0, o0, h, hc k (by have := HN.out; omega)⟩
      obtain ⟨z, hz⟩ : ∃ z, z = zs.getD k 0 := ⟨_, rfl⟩
      have HSTEP : Hid (putTo true m zs (k + 1) = if 0 ≤ z ∧ z < S ∧ hasB mk z ≠ true then (mk.set z.toNat true, cnt + 1) else (mk, cnt)) := hid (by
        have e : putTo true m zs k = (mk, cnt) := by rw [HMK.out, HC0.out]
        rw [← hlk, hz]
        conv => lhs; unfold putTo
        rw [e]; rfl)
      rw [← hz] at hc
      have hkn : (k < n) = True := eq_true (by omega)
      clear hz hlk
      by_cases hin : 0 ≤ z ∧ z < S
      · have HM : Hid (Calls Try.prog 55 #[.pointer (some ⟨b, 0, none⟩), .int .i64 z] wr fun e w' => e = .returned (.bool true) ∧ wr = w') := hid ((mayHave_any _ _ mk z wr HBM.out).mono fun _ _ h => ⟨by rw [h.1, HLK.out, decide_eq_true hin.1, decide_eq_true hin.2]; rfl, h.2⟩)
        have HH : Hid (Calls Try.prog 56 #[.pointer (some ⟨b, 0, none⟩), .int .i64 z] wr fun e w' => e = .returned (.bool (hasB mk z)) ∧ Below wr.heap.size wr w') := hid (has_any _ _ mk z wr HBM.out)
        obtain ⟨x, rfl⟩ := Int.eq_ofNat_of_zero_le hin.1
        have hxS : x < S := by omega
        by_cases hhas : hasB mk (x : Int) = true
        · rw [hhas] at HH
          have HT : Hid (putTo true m zs (k + 1) = (mk, cnt)) := hid (by rw [HSTEP.out, if_neg (by rw [hhas]; simp)])
          clear HSTEP hhas hin HBM
          go_wp2_with fail
          refine HM.out.mono ?_
          rintro e w1 ⟨rfl, rfl⟩
          go_wp2_with fail
          refine HH.out.mono ?_
          rintro e w2 ⟨rfl, hb2⟩
          have HAT9 := hid (HAT.out.below hb2)
          have HMV9 := hid (HMV.out.trans (Mv.of_below hb2))
          clear hb2 HAT HMV HM HH
          go_wp2_with fail
          go_roundw
          case rel => exact ⟨k + 1, V, by omega, by rw [HT.out], by go_num, HAT9.out, by rw [HT.out, HMK.out]; exact HBT.out, HMV9.out⟩
          case measure => simp [intOf]; omega
        · have hhas : hasB mk (x : Int) = false := Bool.eq_false_iff.2 hhas
          rw [hhas] at HH
          have HT : Hid (putTo true m zs (k + 1) = (mk.set x true, cnt + 1)) := hid (by rw [HSTEP.out, if_pos ⟨hin.1, hin.2, by rw [hhas]; simp⟩]; rfl)
          clear HSTEP hhas hin HBM
          go_wp2_with fail
          refine HM.out.mono ?_
          rintro e w1 ⟨rfl, rfl⟩
          go_wp2_with fail
          refine HH.out.mono ?_
          rintro e w2 ⟨rfl, hb2⟩
          have HAT9 := hid (HAT.out.below hb2)
          have HMV9 := hid (HMV.out.trans (Mv.of_below hb2))
          clear hb2 HAT HMV HM HH
          obtain ⟨q, hq⟩ : ∃ q, q = x / 64 := ⟨_, rfl⟩
          have hqn0 : q < V.length := by have := HAT9.out.len; omega
          obtain ⟨nw, hnw⟩ : ∃ nw, nw = V.length := ⟨_, rfl⟩
          obtain ⟨u, hu⟩ : ∃ u, u = V.getD q 0 := ⟨_, rfl⟩
          obtain ⟨p, hp⟩ : ∃ p, p = 2 ^ (x % 64) := ⟨_, rfl⟩
          obtain ⟨y, hy⟩ : ∃ y, y = u ||| p := ⟨_, rfl⟩
          have hu64 : u < 18446744073709551616 := by rw [hu]; exact wget_lt HAT9.out.fits q
          have hp64 : p < 18446744073709551616 := by rw [hp]; exact pow_lt64 x
          have hy64 : y < 18446744073709551616 := by rw [hy]; exact or_lt64 hu64 hp64
          have hop : bits .or .u64 (u : Int) (p : Int) = (y : Int) := by rw [hy]; exact u64_or_nat u p hu64 hp64
          have HP : Hid (∀ z, Calls Try.prog 57 #[.int .i64 (x : Int)] z fun e w' => e = .returned (.int .u64 (p : Int)) ∧ z = w') := hid fun z => by rw [hp]; exact bit_any x z (by omega)
          have HC : Hid (∀ z, Grew w2.drew z → z.cell? ⟨b, 1, none⟩ = some (.slice (some ⟨g, 0, none⟩) nw c) ∧ z.cell? ⟨g, q, none⟩ = some (.int .u64 (u : Int)) ∧ z.frozen? ⟨g, q, none⟩ = false) := hid fun z hz => by
            have hbz : Below w2.heap.size w2 z := ⟨hz.os, hz.tape, hz.output, hz.size, hz.block⟩
            have h := HAT9.out.below hbz
            exact ⟨by rw [hnw]; exact h.hw, by rw [hu]; exact h.cell hqn0, h.row.frozenAt q⟩
          have HNEW : Hid (∀ z, Grew w2.drew z → BmAt (z.setCell ⟨g, q, none⟩ (.int .u64 (y : Int))) b g c S (V.set q y) ∧ Mv (fun i => i = g) w (z.setCell ⟨g, q, none⟩ (.int .u64 (y : Int)))) := hid fun z hz => by
            have hbz : Below w2.heap.size w2 z := ⟨hz.os, hz.tape, hz.output, hz.size, hz.block⟩
            exact ⟨(HAT9.out.below hbz).put q hy64, mv_setCell (HMV9.out.trans (Mv.of_below hbz)) rfl _⟩
          have HBITS : Hid (∀ i, wbit (V.set q y) i = inB (mk.set x true) i) := hid fun i => by
            have e := wbit_put (i := x) (by rw [← hq]; exact hqn0) i
            rw [← hq, ← hu, ← hp, ← hy] at e
            rw [e, inB_set (by rw [HLK.out]; exact hxS), HBT.out i, HMK.out]
            by_cases hix : i = x <;> simp [hix]
          have hqi : (x : Int) / 64 = (q : Int) := by omega
          have hqn : (q : Int) < (nw : Int) := by omega
          have hq32 : (q : Int) < 32 := by omega
          have hqw : IntKind.i64.wrap (q : Int) = (q : Int) := by rw [IntKind.wrap_i64]; omega
          clear hq hnw hu hp hy hu64 hp64 hy64 hqn0 HBT HAT9 HMV9
          go_upto_region 6 with fail
          refine wp_region_grows 12 [Eqv' (.pointer (some ⟨b, 0, none⟩)), Eqv' (.pointer (some ⟨b, 0, none⟩)), Eqv' (.pointer (some ⟨b, 1, none⟩)), Eqv' (.slice (some ⟨g, 0, none⟩) nw c), Eqv' (.int .i64 (x : Int)), Eqv' (.int .i64 (q : Int)), Eqv' (.pointer (some ⟨g, q, none⟩)), Eqv' (.int .u64 (u : Int)), Eqv' (.int .i64 (x : Int)), Eqv' (.int .u64 (p : Int)), Eqv' (.int .u64 (y : Int)), Eqv' (.pointer (some ⟨g, q, none⟩))] (by kernel_rfl) (by decide) (by kernel_rfl) ?_ ?_ ?_
          · repeat' (first | exact List.forall_mem_nil _ | refine List.forall_mem_cons.2 ⟨?_, ?_⟩)
            all_goals
              intro w w' v hw h
              exact h
          · simp only [AllLt]
            refine ⟨⟨⟨⟨⟨⟨⟨⟨⟨⟨⟨⟨trivial, ?_⟩, ?_⟩, ?_⟩, ?_⟩, ?_⟩, ?_⟩, ?_⟩, ?_⟩, ?_⟩, ?_⟩, ?_⟩, ?_⟩
            all_goals
              intro o' ho
              simp at ho
              subst ho
              intro ρ w2 hR hL hS hG
              obtain ⟨hl1, hl2, -⟩ := hL
            · refine plainG rfl ?_
              intro bA K Q' hK
              have e0 := hS 0 (by kernel_rfl)
              change ρ (.tmp 0) = _ at e0
              simp only [execOp]
              go_simp
              exact hK _ _ rfl (Grew.refl _)
            · refine plainG rfl ?_
              intro bA K Q' hK
              have e23 := hG 0 23 (by decide) (by kernel_rfl) (by kernel_rfl)
              change ρ (.tmp 23) = _ at e23
              simp only [execOp]
              go_simp
              exact hK _ _ rfl (Grew.refl _)
            · refine plainG rfl ?_
              intro bA K Q' hK
              have e24 := hG 1 24 (by decide) (by kernel_rfl) (by kernel_rfl)
              change ρ (.tmp 24) = _ at e24
              simp only [execOp]
              go_simp
              exact hK _ _ rfl (Grew.refl _)
            · refine plainG rfl ?_
              intro bA K Q' hK
              have e25 := hG 2 25 (by decide) (by kernel_rfl) (by kernel_rfl)
              change ρ (.tmp 25) = _ at e25
              obtain ⟨x0, x1, -⟩ := HC.out w2 hR
              simp only [execOp]
              go_simp
              exact hK _ _ rfl (Grew.refl _)
            · refine plainG rfl ?_
              intro bA K Q' hK
              have e7 := hS 7 (by kernel_rfl)
              change ρ (.tmp 7) = _ at e7
              simp only [execOp]
              go_simp
              exact hK _ _ rfl (Grew.refl _)
            · refine plainG rfl ?_
              intro bA K Q' hK
              have e27 := hG 4 27 (by decide) (by kernel_rfl) (by kernel_rfl)
              change ρ (.tmp 27) = _ at e27
              simp only [execOp]
              go_simp
              exact hK _ _ rfl (Grew.refl _)
            · refine plainG rfl ?_
              intro bA K Q' hK
              have e26 := hG 3 26 (by decide) (by kernel_rfl) (by kernel_rfl)
              have e28 := hG 5 28 (by decide) (by kernel_rfl) (by kernel_rfl)
              change ρ (.tmp 26) = _ at e26
              change ρ (.tmp 28) = _ at e28
              simp only [execOp]
              go_simp
              exact hK _ _ rfl (Grew.refl _)
            · refine plainG rfl ?_
              intro bA K Q' hK
              have e29 := hG 6 29 (by decide) (by kernel_rfl) (by kernel_rfl)
              change ρ (.tmp 29) = _ at e29
              obtain ⟨x0, x1, -⟩ := HC.out w2 hR
              simp only [execOp]
              go_simp
              exact hK _ _ rfl (Grew.refl _)
            · refine plainG rfl ?_
              intro bA K Q' hK
              have e7 := hS 7 (by kernel_rfl)
              change ρ (.tmp 7) = _ at e7
              simp only [execOp]
              go_simp
              exact hK _ _ rfl (Grew.refl _)
            · refine plainG rfl ?_
              intro bA K Q' hK
              have e31 := hG 8 31 (by decide) (by kernel_rfl) (by kernel_rfl)
              change ρ (.tmp 31) = _ at e31
              simp only [execOp]
              go_simp
              refine (HP.out w2).mono ?_
              rintro r9 w9 ⟨rfl, rfl⟩
              exact hK _ _ rfl (Grew.refl _)
            · refine plainG rfl ?_
              intro bA K Q' hK
              have e30 := hG 7 30 (by decide) (by kernel_rfl) (by kernel_rfl)
              have e32 := hG 9 32 (by decide) (by kernel_rfl) (by kernel_rfl)
              change ρ (.tmp 30) = _ at e30
              change ρ (.tmp 32) = _ at e32
              simp only [execOp]
              go_simp
              exact hK _ _ rfl (Grew.refl _)
            · refine plainG rfl ?_
              intro bA K Q' hK
              have e26 := hG 3 26 (by decide) (by kernel_rfl) (by kernel_rfl)
              have e28 := hG 5 28 (by decide) (by kernel_rfl) (by kernel_rfl)
              change ρ (.tmp 26) = _ at e26
              change ρ (.tmp 28) = _ at e28
              simp only [execOp]
              go_simp
              exact hK _ _ rfl (Grew.refl _)
          · intro v w3 hR hG
            have h10 : v 10 = .int .u64 (y : Int) := hG.1.2
            have h11 : v 11 = .pointer (some ⟨g, q, none⟩) := hG.2
            obtain ⟨x0, x1, x2⟩ := HC.out w3 hR
            have HX := hid (HNEW.out w3 hR)
            clear hG hR HC HNEW HP
            simp [stG, stU, dstAt, Act.put, h10, h11]
            go_wp2_with fail
            go_roundw
            case rel => exact ⟨k + 1, V.set q y, by omega, by rw [HT.out]; go_num, by go_num, HX.out.1, by rw [HT.out]; exact HBITS.out, HX.out.2⟩
            case measure => simp [intOf]; omega
      · have HM : Hid (Calls Try.prog 55 #[.pointer (some ⟨b, 0, none⟩), .int .i64 z] wr fun e w' => e = .returned (.bool false) ∧ wr = w') := hid ((mayHave_any _ _ mk z wr HBM.out).mono fun _ _ h => ⟨by rw [h.1, HLK.out]; congr 2; rw [← Bool.not_eq_true]; simpa using hin, h.2⟩)
        have HT : Hid (putTo true m zs (k + 1) = (mk, cnt)) := hid (by rw [HSTEP.out, if_neg (fun h => hin ⟨h.1, h.2.1⟩)])
        clear HSTEP hin HBM
        go_wp2_with fail
        refine HM.out.mono ?_
        rintro e w1 ⟨rfl, rfl⟩
        go_wp2_with fail
        go_roundw
        case rel => exact ⟨k + 1, V, by omega, by rw [HT.out], by go_num, HAT.out, by rw [HT.out, HMK.out]; exact HBT.out, HMV.out⟩
        case measure => simp [intOf]; omega
    · have hkf : (k < n) = False := eq_false (by omega)
      have HKN : Hid (k = n) := hid (by omega)
      clear hlt HBM
      go_wp2_with fail
      go_ret
      exact ⟨by rw [← HKN.out, ← HC0.out]; rfl, ⟨V, HAT.out, by rw [← HKN.out]; exact HBT.out⟩, HMV.out⟩
end Go.Proofs.Ytlfpepkgnobjnaa

