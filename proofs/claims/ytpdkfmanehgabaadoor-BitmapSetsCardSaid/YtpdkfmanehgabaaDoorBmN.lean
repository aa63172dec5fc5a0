/- CONTRACTS: what a set tells is the document's (tells). -/
import Derived.Test.YtpdkfmanehgabaaDoorBmM
import Derived.Test.YtpdkfmanehgabaaDoorBmK
import Derived.Test.YtpdkfmanehgabaaDoorBmJ
import Derived.Test.YtpdkfmanehgabaaDoorSame
import Derived.Deep.CutRange
namespace Go.Proofs.YtpdkfmanehgabaaDoor
open Go.RowKit Go.Inc

/-- A set's numbers. -/
def numsI (m : List Bool) : List Int := (numsTo (inB m) m.length).map fun x : Nat => (x : Int)
theorem numsI_len (m : List Bool) : (numsI m).length = cntTo (inB m) m.length := by unfold numsI cntTo; rw [List.length_map]
theorem numsI_le (m : List Bool) : (numsI m).length ≤ m.length := by rw [numsI_len]; exact numsTo_len _ _
/-- A slice of numbers, of the call's own. -/
def Ints (B : Nat) (w : World) (v : Value) (zs : List Int) : Prop := ∃ a c, v = .slice a zs.length c ∧ zs.length ≤ c ∧ c ≤ maxLen ∧ Si (fun b => B ≤ b) w a zs
theorem Ints.of {w : World} {B n : Nat} {v : Value} {m : List Bool} {e : TypeId} (h : w.ownsRow B e 1 v n (nvals (numsTo (inB m) m.length))) : Ints B w v (numsI m) := by
  obtain ⟨a, c, h1, _, _, h2, h3, h4⟩ := Si.ownedN h
  exact ⟨a, c, by rw [h1]; unfold numsI; rw [List.length_map], by unfold numsI; rw [List.length_map]; exact h2, h3, h4⟩
theorem allI_any (ok : Nat → Prop) (v : Value) (m : List Bool) (w : World) (h : Bm ok w v m) (ht : Tab w) :
    Calls Tryd.prog 28 #[v] w fun e w' => (∃ x, e = .returned x ∧ Ints w.heap.size w' x (numsI m)) ∧ Below w.heap.size w w' :=
  (all_any ok v m w h ht).mono fun _ _ ⟨⟨x, h1, h2⟩, hb⟩ => ⟨⟨x, h1, Ints.of h2⟩, hb⟩
theorem refAllI_any (ok : Nat → Prop) (a : Option Addr) (c : Nat) (m : List Bool) (w : World) (hm : Bl ok w a m) (hl : (m.length : Int) ≤ 2048) :
    Calls Tryd.prog 23 #[.slice a m.length c] w fun e w' => (∃ x, e = .returned x ∧ Ints w.heap.size w' x (numsI m)) ∧ Below w.heap.size w w' :=
  (refAll_any ok a c m w hm hl).mono fun _ _ ⟨⟨x, h1, h2⟩, hb⟩ => ⟨⟨x, h1, Ints.of h2⟩, hb⟩
/-- What a seek answers. -/
def SeekIs (L a e : Int) : Prop := (L < 0 ∧ e = 7) ∨ (0 ≤ L ∧ e = 0 ∧ a = L)
theorem seek_is (L : Int) : ∃ a e, seekV L = .tuple #[.int .i64 a, .int .i64 e] ∧ SeekIs L a e := by
  unfold seekV
  by_cases h : 0 ≤ L
  · rw [if_pos h]; exact ⟨L, 0, rfl, .inr ⟨h, rfl, rfl⟩⟩
  · rw [if_neg h]; exact ⟨0, 7, rfl, .inl ⟨by omega, rfl⟩⟩
/-- Runs in memory. -/
def RunsIn (B : Nat) (w : World) (v : Value) (l : List Run2) : Prop := ∃ a c, v = .slice a l.length c ∧ l.length ≤ c ∧ c ≤ maxLen ∧ (l = [] ∨ ∃ g, a = some ⟨g, 0, none⟩ ∧ B ≤ g ∧ ∀ i, i < l.length → w.cell? ⟨g, i * 2, none⟩ = some (.int .i64 ((l.getD i (0, 0)).1 : Int)) ∧ w.cell? ⟨g, i * 2 + 1, none⟩ = some (.int .i64 ((l.getD i (0, 0)).2 : Int)))
theorem RunsIn.of {w : World} {B n : Nat} {v : Value} {l : List Run2} {e : TypeId} (h : w.ownsRow B e 2 v n (rcells l)) : RunsIn B w v l := by
  have hn : n = l.length := by have := h.1; rw [rcells_len] at this; omega
  subst hn
  rcases h.2 with ⟨rfl, h0⟩ | ⟨g, cap, cur, rfl, hb, hg, hnc, hm, hcs, ht⟩
  · exact ⟨none, 0, by rw [h0], by omega, Nat.zero_le _, .inl (List.eq_nil_of_length_eq_zero h0)⟩
  · refine ⟨_, cap, rfl, hnc, hm, .inr ⟨g, rfl, hb, fun i hi => ?_⟩⟩
    have hg := rcells_get l i hi
    have h1 := h.cells (g := g) rfl _ _ hg.1
    have h2 := h.cells (g := g) rfl _ _ hg.2
    rw [Addr.add_lit] at h1 h2
    rw [Nat.mul_comm] at h1 h2
    simp only [Nat.zero_add] at h1 h2
    exact ⟨h1, h2⟩
theorem RunsIn.below {w w' : World} {B : Nat} {v : Value} {l : List Run2} (h : RunsIn B w v l) (hb : Below w.heap.size w w') : RunsIn B w' v l := by
  obtain ⟨a, c, h1, h2, h3, h4⟩ := h
  refine ⟨a, c, h1, h2, h3, h4.imp id fun ⟨g, h5, h6, h7⟩ => ⟨g, h5, h6, fun i hi => ?_⟩⟩
  have h8 := h7 i hi
  exact ⟨(hb.cell (cell_lt h8.1)).trans h8.1, (hb.cell (cell_lt h8.2)).trans h8.2⟩
theorem runsIn_any (ok : Nat → Prop) (v : Value) (m : List Bool) (w : World) (h : Bm ok w v m) :
    Calls Tryd.prog 29 #[v] w fun e w' => (∃ x, e = .returned x ∧ RunsIn w.heap.size w' x (runsTo (inB m) m.length)) ∧ Below w.heap.size w w' :=
  (runs_any ok v m w h).mono fun _ _ ⟨⟨x, h1, h2⟩, hb⟩ => ⟨⟨x, h1, RunsIn.of h2⟩, hb⟩

set_option maxRecDepth 20000 in
set_option maxHeartbeats 4000000 in
theorem tells_any (ok ok' : Nat → Prop) (v : Value) (m : List Bool) (am : Option Addr) (cm : Nat) (no : Int) (w : World) (h : Bm ok w v m) (hm : Bl ok' w am m) (ht : Tab w) (hl1 : (1 : Int) ≤ m.length) (h1 : -9223372036854775808 ≤ no) (h2 : no ≤ 9223372036854775807) :
    Calls Tryd.prog 13 #[v, .slice am m.length cm, .int .i64 no] w fun e w' => e = .returned (.bool true) ∧ Below w.heap.size w w' := by
  have hl2 : (m.length : Int) ≤ 2048 := by have := h.len; omega
  obtain ⟨S, hS⟩ : ∃ S, S = m.length := ⟨_, rfl⟩
  have HS := hid hS
  have HAL0 := hid (refAllI_any ok' am cm m w hm hl2)
  have HB0 := hid h
  have HM0 := hid hm
  have HT0 := hid ht
  rw [← hS] at HAL0 hl1 hl2 ⊢
  clear h hm ht hS
  go_enter Tryd.func13, Tryd.ntmps13
  go_wp2_with fail
  refine HAL0.out.mono ?_
  clear HAL0
  rintro e w1 ⟨⟨x7, rfl, hx7⟩, hb1⟩
  obtain ⟨a7, c7, rfl, hc7, hc7', hsi7⟩ := hx7
  have HSI7 := hid hsi7
  have HBW := hid hb1
  have HB := hid (HB0.out.below hb1)
  have HM := hid (HM0.out.below hb1)
  have HT := hid (HT0.out.below hb1)
  obtain ⟨N, hN⟩ : ∃ N, N = (numsI m).length := ⟨_, rfl⟩
  have HN := hid hN
  have hNS : (N : Int) ≤ S := by have := numsI_le m; have := HS.out; omega
  have HSZ : Hid (∀ z, Below w1.heap.size w1 z → Calls Tryd.prog 9 #[v] z fun e w' => e = .returned (.int .i64 (S : Int)) ∧ z = w') := hid fun z hz => by rw [HS.out]; exact size_any ok v m z (HB.out.below hz)
  have HCN : Hid (∀ z, Below w1.heap.size w1 z → Calls Tryd.prog 27 #[v] z fun e w' => e = .returned (.int .i64 (N : Int)) ∧ z = w') := hid fun z hz => by rw [hN, numsI_len]; exact count_any ok v m z (HB.out.below hz)
  have HAL : Hid (∀ z, Below w1.heap.size w1 z → Calls Tryd.prog 28 #[v] z fun e w' => (∃ a c, e = .returned (.slice a N c) ∧ Si (fun _ => True) w' a (numsI m)) ∧ Below z.heap.size z w') := hid fun z hz => (allI_any ok v m z (HB.out.below hz) (HT.out.below hz)).mono fun _ _ ⟨⟨x, h1, a, c, h2, _, _, h3⟩, hb⟩ => ⟨⟨a, c, by rw [h1, h2, hN], h3.mono fun _ _ _ => trivial⟩, hb⟩
  have HSM : Hid (∀ z a c, Below w1.heap.size w1 z → Si (fun _ => True) z a (numsI m) → Calls Tryd.prog 22 #[.slice a N c, .slice a7 N c7] z fun e w' => e = .returned (.bool true) ∧ Below z.heap.size z w') := hid fun z a c hz ha => by
    rw [hN]
    exact (refSame_any _ _ a a7 c c7 _ _ z ha (HSI7.out.below hz) (by have := numsI_le m; have := HS.out; omega)).mono fun _ _ h => ⟨by rw [h.1, decide_eq_true rfl], h.2⟩
  have HHS : Hid (∀ z, Below w1.heap.size w1 z → Calls Tryd.prog 26 #[v, .int .i64 no] z fun e w' => e = .returned (.bool (hasB m no)) ∧ Below z.heap.size z w') := hid fun z hz => has_any ok v m no z (HB.out.below hz)
  have HBY : Hid (∀ z, Below w1.heap.size w1 z → Calls Tryd.prog 30 #[v] z fun e w' => (∃ x, e = .returned x ∧ Row 5 z.heap.size w' x (bytesB (inB m) m.length)) ∧ Below z.heap.size z w') := hid fun z hz => bytes_any ok v m z (HB.out.below hz)
  have HRB : Hid (∀ z, Below w1.heap.size w1 z → Calls Tryd.prog 17 #[.slice am S cm] z fun e w' => (∃ x, e = .returned x ∧ Row 5 z.heap.size w' x (bytesB (inB m) m.length)) ∧ Below z.heap.size z w') := hid fun z hz => by rw [HS.out]; exact refBytes_any ok' am cm m z (HM.out.below hz) (by have := HS.out; omega)
  have HRU : Hid (∀ z, Below w1.heap.size w1 z → Calls Tryd.prog 29 #[v] z fun e w' => (∃ x, e = .returned x ∧ RunsIn z.heap.size w' x (runsTo (inB m) m.length)) ∧ Below z.heap.size z w') := hid fun z hz => runsIn_any ok v m z (HB.out.below hz)
  obtain ⟨L1, hL1⟩ : ∃ L, L = lowB (inB m) no true m.length := ⟨_, rfl⟩
  obtain ⟨L2, hL2⟩ : ∃ L, L = lowB (inB m) no false m.length := ⟨_, rfl⟩
  obtain ⟨ra, re, hr1, hr2⟩ := seek_is L1
  obtain ⟨fa, fe, hf1, hf2⟩ := seek_is L2
  have HLO : Hid (Calls Tryd.prog 24 #[v, .int .i64 no] w1 fun e w' => e = .returned (.tuple #[.int .i64 ra, .int .i64 re]) ∧ w1 = w') := hid (by rw [← hr1, hL1]; exact lowest_any ok v m no w1 HB.out HT.out h1 h2)
  have HFR : Hid (Calls Tryd.prog 25 #[v, .int .i64 no] w1 fun e w' => e = .returned (.tuple #[.int .i64 fa, .int .i64 fe]) ∧ w1 = w') := hid (by rw [← hf1, hL2]; exact free_any ok v m no w1 HB.out HT.out h1 h2)
  have HF1 : Hid (Calls Tryd.prog 34 #[.slice am S cm, .int .i64 no, .bool true] w1 fun e w' => e = .returned (.int .i64 L1) ∧ w1 = w') := hid (by rw [HS.out, hL1]; exact refFrom_any ok' am cm m no true w1 HM.out (by have := HS.out; omega))
  have HF2 : Hid (Calls Tryd.prog 34 #[.slice am S cm, .int .i64 no, .bool false] w1 fun e w' => e = .returned (.int .i64 L2) ∧ w1 = w') := hid (by rw [HS.out, hL2]; exact refFrom_any ok' am cm m no false w1 HM.out (by have := HS.out; omega))
  have HR1 := hid hr2
  have HR2 := hid hf2
  have HHB : Hid (hasB m no = (decide (0 ≤ no) && inB m no.toNat)) := hid rfl
  have HOUT : Hid (¬ (0 ≤ no ∧ no < S) → hasB m no = false) := hid fun h => hasB_out (by rw [← HS.out]; exact h)
  rw [← hN] at hc7 ⊢
  clear hb1 hsi7 HB0 HM0 HT0 hN hL1 hL2 hr1 hf1 hr2 hf2
  go_wp2_with fail
  refine HLO.out.mono ?_
  clear HLO
  rintro e w2 ⟨rfl, rfl⟩
  go_wp2_with fail
  refine HFR.out.mono ?_
  clear HFR
  rintro e w2 ⟨rfl, rfl⟩
  go_wp2_with fail
  refine HF1.out.mono ?_
  clear HF1
  rintro e w2 ⟨rfl, rfl⟩
  go_wp2_with fail
  refine HF2.out.mono ?_
  clear HF2
  rintro e w2 ⟨rfl, rfl⟩
  go_upto_region 5 with fail
  go_cut [14] from 39 to 57 (fun s wc => s = .bool (hasB m no) ∧ wc = w1)
  case first =>
    by_cases h0 : 0 ≤ no
    · by_cases h3 : no < S
      · obtain ⟨x, rfl⟩ := Int.eq_ofNat_of_zero_le h0
        obtain ⟨b', o, rfl, hc⟩ : ∃ b' o, am = some ⟨b', o, none⟩ ∧ w1.cell? ⟨b', o + x, none⟩ = some (.bool (inB m x)) := by
          rcases HM.out with h | ⟨b', o, h, _, hc⟩
          · have := HS.out; rw [h] at this; simp at this; omega
          · exact ⟨b', o, h, hc x (by have := HS.out; omega)⟩
        have hmin : min (x : Int) ((S : Int) - 1) = (x : Int) := by omega
        have hmax : max (x : Int) 0 = (x : Int) := by omega
        have HQ : Hid (inB m x = hasB m (x : Int)) := hid (hasB_nat m x).symm
        rw [HQ.out] at hc
        go_wp2_with fail
        go_meet
        exact ⟨rfl, rfl⟩
      · have HQ := hid (HOUT.out (by omega))
        have h3f : (no < S) = False := eq_false h3
        clear h3
        go_wp2_with fail
        go_meet
        exact ⟨by rw [HQ.out], rfl⟩
    · have HQ := hid (HOUT.out (by omega))
      have h0f : (0 ≤ no) = False := eq_false h0
      clear h0
      go_wp2_with fail
      go_meet
      exact ⟨by rw [HQ.out], rfl⟩
  case rest =>
    obtain ⟨rfl, rfl⟩ := hcut
    obtain ⟨wx, hwx⟩ : ∃ wx, wx = wc := ⟨_, rfl⟩
    subst hwx
    obtain ⟨hh, hhb⟩ : ∃ hh, hh = hasB m no := ⟨_, rfl⟩
    have HHS2 : Hid (∀ z, Below wx.heap.size wx z → Calls Tryd.prog 26 #[v, .int .i64 no] z fun e w' => e = .returned (.bool hh) ∧ Below z.heap.size z w') := hid fun z hz => by rw [hhb]; exact HHS.out z hz
    rw [← hhb]
    have HSA : Hid (∀ (z : World) (a b : Option Addr) (n c d : Nat), n = (bytesB (inB m) m.length).length → Sl (fun _ => True) z a (bytesB (inB m) m.length) → Sl (fun _ => True) z b (bytesB (inB m) m.length) → Calls Tryd.prog 16 #[.slice a n c, .slice b n d] z fun e w' => e = .returned (.bool true) ∧ Below z.heap.size z w') := hid fun z a b n c d hn ha hb => by
      rw [hn]
      exact (same_any _ _ a b c d _ _ z ha hb (by rw [bytesB_len]; have := HS.out; omega)).mono fun _ _ h => ⟨by rw [h.1, decide_eq_true rfl], h.2⟩
    clear hhb HHS HOUT HHB
    go_wp2_with fail
    refine (HSZ.out _ (Below.refl _ _)).mono ?_
    rintro e w2 ⟨rfl, rfl⟩
    go_wp2_with fail
    refine (HCN.out _ (Below.refl _ _)).mono ?_
    rintro e w2 ⟨rfl, rfl⟩
    go_wp2_with fail
    refine (HAL.out _ (Below.refl _ _)).mono ?_
    clear HSZ HCN HAL
    rintro e w2 ⟨⟨a2, c2, rfl, hs2⟩, hb2⟩
    have HB2 := hid hb2
    have HSM2 := hid (HSM.out w2 a2 c2 hb2 hs2)
    clear hb2 hs2 HSM
    go_wp2_with fail
    refine HSM2.out.mono ?_
    clear HSM2
    rintro e w3 ⟨rfl, hb3⟩
    have HB3 : Hid (Below wx.heap.size wx w3) := hid (HB2.out.trans (hb3.mono HB2.out.size))
    clear hb3 HB2
    go_wp2_with fail
    refine (HHS2.out w3 HB3.out).mono ?_
    clear HHS2
    rintro e w4 ⟨rfl, hb4⟩
    have HB4 : Hid (Below wx.heap.size wx w4) := hid (HB3.out.trans (hb4.mono HB3.out.size))
    clear hb4 HB3
    go_wp2_with fail
    refine (HBY.out w4 HB4.out).mono ?_
    clear HBY
    rintro e w5 ⟨⟨x5, rfl, hx5⟩, hb5⟩
    have HB5 : Hid (Below wx.heap.size wx w5) := hid (HB4.out.trans (hb5.mono HB4.out.size))
    obtain ⟨a5, c5, rfl, _, _, _, hs5⟩ := hx5.sl
    have HS5 := hid hs5
    clear hb5 HB4 hx5 hs5
    go_wp2_with fail
    refine (HRB.out w5 HB5.out).mono ?_
    clear HRB
    rintro e w6 ⟨⟨x6, rfl, hx6⟩, hb6⟩
    have HB6 : Hid (Below wx.heap.size wx w6) := hid (HB5.out.trans (hb6.mono HB5.out.size))
    obtain ⟨a6, c6, rfl, _, _, _, hs6⟩ := hx6.sl
    have HSA2 := hid (HSA.out w6 a5 a6 _ c5 c6 rfl ((HS5.out.below hb6).mono fun _ _ _ => trivial) (hs6.mono fun _ _ _ => trivial))
    clear hb6 HB5 HS5 hx6 hs6 HSA
    generalize (bytesB (inB m) m.length).length = bl at *
    go_wp2_with fail
    refine HSA2.out.mono ?_
    clear HSA2
    rintro e w7 ⟨rfl, hb7⟩
    have HB7 : Hid (Below wx.heap.size wx w7) := hid (HB6.out.trans (hb7.mono HB6.out.size))
    clear hb7 HB6
    go_upto_region 8 with fail
    go_cut [131] from 92 to 130 (fun s wz => s = .bool false ∧ wz = w7)
    case first =>
      rcases HR1.out with ⟨hl1, rfl⟩ | ⟨hl1, rfl, rfl⟩
      · have hl1' : (0 ≤ L1) = False := eq_false (by omega)
        rcases HR2.out with ⟨hl2, rfl⟩ | ⟨hl2, rfl, rfl⟩
        · have hl2' : (0 ≤ L2) = False := eq_false (by omega)
          go_wp2_with fail
          go_meet
          exact ⟨rfl, rfl⟩
        · have hl2' : (fa < 0) = False := eq_false (by omega)
          go_wp2_with fail
          go_meet
          exact ⟨rfl, rfl⟩
      · have hl1' : (ra < 0) = False := eq_false (by omega)
        rcases HR2.out with ⟨hl2, rfl⟩ | ⟨hl2, rfl, rfl⟩
        · have hl2' : (0 ≤ L2) = False := eq_false (by omega)
          go_wp2_with fail
          go_meet
          exact ⟨rfl, rfl⟩
        · have hl2' : (fa < 0) = False := eq_false (by omega)
          go_wp2_with fail
          go_meet
          exact ⟨rfl, rfl⟩
    case rest =>
      obtain ⟨rfl, hwz⟩ := hcut
      subst hwz
      have HRU2 := hid (HRU.out _ HB7.out)
      clear HRU
      go_wp2_with fail
      refine HRU2.out.mono ?_
      clear HRU2
      rintro e w9 ⟨⟨x9, rfl, hx9⟩, hb9⟩
      have HB9 : Hid (Below wx.heap.size wx w9) := hid (HB7.out.trans (hb9.mono HB7.out.size))
      have HSI9 := hid (HSI7.out.below HB9.out)
      have HBW9 : Hid (Below w.heap.size w w9) := hid (HBW.out.trans (HB9.out.mono HBW.out.size))
      obtain ⟨l, hl⟩ : ∃ l, l = runsTo (inB m) m.length := ⟨_, rfl⟩
      have HRA : Hid (RunsAt (inB m) S l) := hid (by rw [hl, HS.out]; exact runs_at _ _)
      have HLL : Hid (l.length ≤ S) := hid (by rw [hl, HS.out]; exact runs_len _ _)
      have HEX : Hid (numsI m = (expand l).map fun x : Nat => (x : Int)) := hid (by unfold numsI; rw [hl, (runs_at _ _).nums])
      rw [← hl] at hx9
      obtain ⟨a9, c9, rfl, hc9, hc9', hr9⟩ := hx9
      have HR9 := hid hr9
      obtain ⟨n, hn⟩ : ∃ n, n = l.length := ⟨_, rfl⟩
      have HNL := hid hn
      have hn2 : (n : Int) ≤ 2048 := by have := HLL.out; omega
      rw [← hn] at hc9 ⊢
      clear hb9 HB7 hl hr9 hn
      go_wp2_with fail
      go_loopw [16, 17] (fun kk ii wr => ∃ i j : Nat, i ≤ n ∧ ii = .int .i64 (i : Int) ∧ kk = .int .i64 ((offs l i : Nat) : Int) ∧ wr = w9.drewN j) (fun _ ii _ => n - (intOf ii).toNat)
      case atStart => exact ⟨0, 0, Nat.zero_le _, rfl, rfl, rfl⟩
      case round =>
        obtain ⟨i, j, hi, rfl, rfl, rfl⟩ := hrel
        by_cases hin : (i : Int) < n
        · obtain ⟨g, rfl, hgc⟩ : ∃ g, a9 = some ⟨g, 0, none⟩ ∧ ∀ i, i < l.length → w9.cell? ⟨g, i * 2, none⟩ = some (.int .i64 ((l.getD i (0, 0)).1 : Int)) ∧ w9.cell? ⟨g, i * 2 + 1, none⟩ = some (.int .i64 ((l.getD i (0, 0)).2 : Int)) := by
            rcases HR9.out with h | ⟨g, h1, _, h2⟩
            · have := HNL.out; rw [h] at this; simp at this; omega
            · exact ⟨g, h1, h2⟩
          have hil : i < l.length := by have := HNL.out; omega
          have hca := (hgc i hil).1
          have hcc := (hgc i hil).2
          have hone := HRA.out.one i hil
          have hlow := HRA.out.low i hil
          have hnx := offs_succ hil
          have HAT : Hid (∀ t, t < (l.getD i (0, 0)).2 → offs l i + t < N ∧ (numsI m).getD (offs l i + t) 0 = (((l.getD i (0, 0)).1 + t : Nat) : Int)) := hid fun t ht => by
            have h := offs_get hil ht
            have e : (expand l).length = N := by rw [HN.out, HEX.out, List.length_map]
            refine ⟨by omega, ?_⟩
            rw [HEX.out, ← h.2]
            simp only [List.getD_eq_getElem?_getD, List.getElem?_map]
            cases (expand l)[offs l i + t]? <;> rfl
          obtain ⟨ai, hai⟩ : ∃ ai, ai = (l.getD i (0, 0)).1 := ⟨_, rfl⟩
          obtain ⟨ci, hci⟩ : ∃ ci, ci = (l.getD i (0, 0)).2 := ⟨_, rfl⟩
          obtain ⟨oi, hoi⟩ : ∃ oi, oi = offs l i := ⟨_, rfl⟩
          rw [← hai] at hca hlow HAT
          rw [← hci] at hcc hone hlow hnx HAT
          rw [← hoi] at hnx HAT ⊢
          have HAI := hid hai
          have HNX := hid hnx
          have hone2 : (1 : Int) ≤ ci := by omega
          have hlow2 : (ai : Int) + ci ≤ 2048 := by omega
          have hin2 : (i < n) = True := eq_true (by omega)
          have hc1 : ((ci : Int) < 1) = False := eq_false (by omega)
          have hc1b : (ci < 1) = False := eq_false (by omega)
          have hc1c : decide ((ci : Int) < 1) = false := decide_eq_false (by omega)
          clear hai hci hnx hoi
          by_cases hi0 : i = 0
          · subst hi0
            clear hgc hil hone hlow
            go_wp2_with fail
            go_quiet (fail)
            go_wp2_with fail
            go_loopw [16, 18] (fun kk jj wr => ∃ t j : Nat, t ≤ ci ∧ jj = .int .i64 (t : Int) ∧ kk = .int .i64 ((oi + t : Nat) : Int) ∧ wr = w9.drewN j) (fun _ jj _ => ci - (intOf jj).toNat)
            case atStart => exact ⟨0, j + nq, Nat.zero_le _, rfl, rfl, by first | rfl | exact World.drewN_drewN _ _ _⟩
            case round =>
              obtain ⟨t, j2, ht, rfl, rfl, rfl⟩ := hrel
              by_cases htc : (t : Int) < ci
              · obtain ⟨hk1, hk2⟩ := HAT.out t (by omega)
                obtain ⟨κ, hκ⟩ : ∃ κ, κ = oi + t := ⟨_, rfl⟩
                obtain ⟨q, hq⟩ : ∃ q, q = ai + t := ⟨_, rfl⟩
                rw [← hκ] at hk1 hk2 ⊢
                obtain ⟨b7, o7, rfl, hc7x⟩ : ∃ b7 o7, a7 = some ⟨b7, o7, none⟩ ∧ w9.cell? ⟨b7, o7 + κ, none⟩ = some (.int .i64 (q : Int)) := by
                  rcases HSI9.out with h | ⟨b7, o7, h, _, hc⟩
                  · have := HN.out; rw [h] at this; simp at this; omega
                  · refine ⟨b7, o7, h, ?_⟩
                    rw [hc κ (by rw [← HN.out]; exact hk1), hk2, hq]
                have hqw : IntKind.i64.wrap ((ai : Int) + t) = (q : Int) := by rw [IntKind.wrap_i64]; omega
                have hqi : (ai : Int) + t = (q : Int) := by omega
                have hqq : ((q : Int) != q) = false := by simp
                have hkN : (N ≤ κ) = False := eq_false (by omega)
                have hkN2 : (κ : Int) < N := by omega
                have HK := hid hκ
                have hκ2 : (κ : Int) ≤ 4096 := by omega
                have htc2 : (t < ci) = True := eq_true (by omega)
                clear hk1 hk2 hκ hq
                go_wp2_with fail
                go_quiet (fail)
                go_wp2_with fail
                go_roundw
                case rel => exact ⟨t + 1, j2 + nq, by omega, by go_num, by rw [show oi + (t + 1) = κ + 1 from by have := HK.out; omega]; go_num, by first | rfl | exact World.drewN_drewN _ _ _⟩
                case measure => simp [intOf]; omega
              · have HTE : Hid (t = ci) := hid (by omega)
                have htc2 : (t < ci) = False := eq_false (by omega)
                clear htc
                go_wp2_with fail
                go_roundw
                case rel => exact ⟨0 + 1, j2, by omega, by go_num, by rw [HNX.out, HTE.out], rfl⟩
                case measure => simp [intOf]; omega
          · obtain ⟨p, hp⟩ : ∃ p, p = i - 1 := ⟨_, rfl⟩
            have hpl : p < l.length := by omega
            have hpa := (hgc p hpl).1
            have hpc := (hgc p hpl).2
            have hgap := HRA.out.gap p (by omega)
            rw [show p + 1 = i from by omega, ← HAI.out] at hgap
            obtain ⟨ap, hap⟩ : ∃ ap, ap = (l.getD p (0, 0)).1 := ⟨_, rfl⟩
            obtain ⟨cp, hcp⟩ : ∃ cp, cp = (l.getD p (0, 0)).2 := ⟨_, rfl⟩
            rw [← hap] at hpa hgap
            rw [← hcp] at hpc hgap
            have hpi : (i : Int) - 1 = (p : Int) := by omega
            have hpw : IntKind.i64.wrap ((i : Int) - 1) = (p : Int) := by rw [IntKind.wrap_i64]; omega
            have hpn : (p : Int) < n := by omega
            obtain ⟨ep, hep⟩ : ∃ ep, ep = ap + cp := ⟨_, rfl⟩
            have hepw : IntKind.i64.wrap ((ap : Int) + cp) = (ep : Int) := by rw [IntKind.wrap_i64]; omega
            have hepi : (ap : Int) + cp = (ep : Int) := by omega
            have hepb : (ep : Int) ≤ 4096 := by omega
            have hge : (ai ≤ ep) = False := eq_false (by omega)
            have hgei : ((ai : Int) ≤ ep) = False := eq_false (by omega)
            have hi1 : (0 < i) = True := eq_true (by omega)
            have hi1i : (0 : Int) < i := by omega
            clear hgc hil hone hlow hp hpl hap hcp hgap hep hi0
            go_wp2_with fail
            go_quiet (fail)
            go_wp2_with fail

            go_loopw [16, 18] (fun kk jj wr => ∃ t j : Nat, t ≤ ci ∧ jj = .int .i64 (t : Int) ∧ kk = .int .i64 ((oi + t : Nat) : Int) ∧ wr = w9.drewN j) (fun _ jj _ => ci - (intOf jj).toNat)
            case atStart => exact ⟨0, j + nq, Nat.zero_le _, rfl, rfl, by first | rfl | exact World.drewN_drewN _ _ _⟩
            case round =>
              obtain ⟨t, j2, ht, rfl, rfl, rfl⟩ := hrel
              by_cases htc : (t : Int) < ci
              · obtain ⟨hk1, hk2⟩ := HAT.out t (by omega)
                obtain ⟨κ, hκ⟩ : ∃ κ, κ = oi + t := ⟨_, rfl⟩
                obtain ⟨q, hq⟩ : ∃ q, q = ai + t := ⟨_, rfl⟩
                rw [← hκ] at hk1 hk2 ⊢
                obtain ⟨b7, o7, rfl, hc7x⟩ : ∃ b7 o7, a7 = some ⟨b7, o7, none⟩ ∧ w9.cell? ⟨b7, o7 + κ, none⟩ = some (.int .i64 (q : Int)) := by
                  rcases HSI9.out with h | ⟨b7, o7, h, _, hc⟩
                  · have := HN.out; rw [h] at this; simp at this; omega
                  · refine ⟨b7, o7, h, ?_⟩
                    rw [hc κ (by rw [← HN.out]; exact hk1), hk2, hq]
                have hqw : IntKind.i64.wrap ((ai : Int) + t) = (q : Int) := by rw [IntKind.wrap_i64]; omega
                have hqi : (ai : Int) + t = (q : Int) := by omega
                have hqq : ((q : Int) != q) = false := by simp
                have hkN : (N ≤ κ) = False := eq_false (by omega)
                have hkN2 : (κ : Int) < N := by omega
                have HK := hid hκ
                have hκ2 : (κ : Int) ≤ 4096 := by omega
                have htc2 : (t < ci) = True := eq_true (by omega)
                clear hk1 hk2 hκ hq
                go_wp2_with fail
                go_quiet (fail)
                go_wp2_with fail
                go_roundw
                case rel => exact ⟨t + 1, j2 + nq, by omega, by go_num, by rw [show oi + (t + 1) = κ + 1 from by have := HK.out; omega]; go_num, by first | rfl | exact World.drewN_drewN _ _ _⟩
                case measure => simp [intOf]; omega
              · have HTE : Hid (t = ci) := hid (by omega)
                have htc2 : (t < ci) = False := eq_false (by omega)
                clear htc
                go_wp2_with fail
                go_roundw
                case rel => exact ⟨i + 1, j2, by omega, by go_num, by rw [HNX.out, HTE.out], rfl⟩
                case measure => simp [intOf]; omega
        · have hin2 : (i < n) = False := eq_false (by omega)
          have hie : offs l i = N := by
            have e : i = l.length := by have := HNL.out; omega
            rw [e, offs_all, HN.out, HEX.out, List.length_map]
          rw [hie]
          clear hin hie
          go_wp2_with fail
          go_ret
          exact ⟨by simp, HBW9.out.trans ((below_drewN w9 j).mono HBW9.out.size)⟩
end Go.Proofs.YtpdkfmanehgabaaDoor
