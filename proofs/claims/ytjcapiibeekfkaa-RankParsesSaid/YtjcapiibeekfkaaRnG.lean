/- CONTRACTS: rows made of bits, of places, of bytes. -/
import Derived.Test.YtjcapiibeekfkaaRnF
import Derived.Test.YtjcapiibeekfkaaVarC
namespace Go.Inc
open Go.RowKit
theorem inB_getE {l : List Bool} {j : Nat} (h : j < l.length) : inB l j = l[j] := by
  unfold inB; rw [List.getD_eq_getElem?_getD, List.getElem?_eq_getElem h]; rfl
theorem bools_ext {l k : List Bool} (hl : l.length = k.length) (h : ∀ j, j < l.length → inB l j = inB k j) : l = k := by
  apply List.ext_getElem hl
  intro i h1 h2
  have := h i h1
  rwa [inB_getE h1, inB_getE h2] at this
/-- The first t bits alone. -/
def frB (m : List Bool) (t : Nat) : List Bool := (List.range m.length).map fun i => decide (i < t) && inB m i
theorem frB_len (m : List Bool) (t : Nat) : (frB m t).length = m.length := by simp [frB]
theorem inB_frB {m : List Bool} {t j : Nat} (h : j < m.length) : inB (frB m t) j = (decide (j < t) && inB m j) := by
  rw [inB_getE (by rw [frB_len]; exact h)]
  simp [frB]
theorem frB_zero (m : List Bool) : frB m 0 = List.replicate m.length false := by
  refine bools_ext (by rw [frB_len, List.length_replicate]) fun j hj => ?_
  rw [inB_frB (by rwa [frB_len] at hj), decide_eq_false (by omega), Bool.false_and, inB_zeros]
theorem frB_all (m : List Bool) : frB m m.length = m := by
  refine bools_ext (frB_len m _) fun j hj => ?_
  rw [frB_len] at hj
  rw [inB_frB hj, decide_eq_true hj, Bool.true_and]
theorem frB_in {m : List Bool} {t : Nat} (ht : t < m.length) (h : inB m t = true) : frB m (t + 1) = (frB m t).set t true := by
  refine bools_ext (by rw [List.length_set, frB_len, frB_len]) fun j hj => ?_
  rw [frB_len] at hj
  rw [inB_put, inB_frB hj, inB_frB hj, frB_len]
  by_cases e : t = j
  · subst e; rw [if_pos ⟨rfl, ht⟩, decide_eq_true (by omega), Bool.true_and, h]
  · rw [if_neg (fun hh => e hh.1)]
    congr 1
    rw [decide_eq_decide]
    omega
theorem frB_out {m : List Bool} {t : Nat} (h : inB m t = false) : frB m (t + 1) = frB m t := by
  refine bools_ext (by rw [frB_len, frB_len]) fun j hj => ?_
  rw [frB_len] at hj
  rw [inB_frB hj, inB_frB hj]
  by_cases e : t = j
  · subst e; rw [h, Bool.and_false, Bool.and_false]
  · congr 1
    rw [decide_eq_decide]
    omega
end Go.Inc
namespace Go.Proofs.Ytjcapiibeekfkaa
open Go.RowKit Go.Inc

theorem ownMv_below {x y : World} {v : Value} {B : Nat} (h : Mv (fun j => v.ownBlock = some j) x y) (hB : B ≤ x.heap.size) (hv : ∀ g, v.ownBlock = some g → B ≤ g) : Below B x y := h.below hB hv
/-- A new row. -/
def NewR (x : World) (m : List Bool) (e : Ending) (w' : World) : Prop := ∃ b v W, e = .returned (.tuple #[.pointer (some ⟨b, 0, none⟩), .int .i64 0]) ∧ RkN w' b m v W (.slice none 0 0) (.slice none 0 0) ∧ x.heap.size ≤ b ∧ (∀ g, v.ownBlock = some g → x.heap.size ≤ g)
set_option maxRecDepth 20000 in
set_option maxHeartbeats 1000000 in
theorem rNew_any (ok : Nat → Prop) (x : World) (a : Option Addr) (c : Nat) (m : List Bool) (hm : Bl ok x a m) (hl : m.length ≤ 65536) :
    Calls Try.prog 8 #[.slice a m.length c] x fun e w' => NewR x m e w' ∧ Below x.heap.size x w' := by
  have HM := hid hm
  have HZ := hid (rZeros_any x m.length hl)
  obtain ⟨n, hn⟩ : ∃ n, n = m.length := ⟨_, rfl⟩
  have HN := hid hn
  have hlb : (n : Int) ≤ 65536 := by omega
  have hlc : ((65536 : Int) < (n : Int)) = False := eq_false (by omega)
  have hlc2 : (65536 < n) = False := eq_false (by omega)
  rw [← hn] at HZ ⊢
  clear hm hn hl
  go_enter Try.func8, Try.ntmps8
  go_wp2_with fail
  refine HZ.out.mono ?_
  rintro e w1 ⟨b, g, c1, rfl, hbx, hgx, hr, hb⟩
  obtain ⟨v, hv⟩ : ∃ v, v = Value.slice (some ⟨g, 0, none⟩) ((n + 63) / 64) c1 := ⟨_, rfl⟩
  have HVX : Hid (∀ j, v.ownBlock = some j → x.heap.size ≤ j) := hid fun j hj => by
    rw [hv] at hj
    have : g = j := by simpa [Value.ownBlock] using hj
    omega
  rw [← hv] at hr
  have HR := hid hr
  have HB := hid hb
  have HBX := hid hbx
  have HW0 : Hid (WdR (List.replicate ((n + 63) / 64) 0) (frB m 0)) := hid (by rw [frB_zero, ← HN.out]; exact WdR.zeros n)
  clear hr hb hbx hgx hv HZ
  go_wp2_with fail
  go_loopw [15] (fun i wr => ∃ t : Nat, t ≤ n ∧ i = .int .i64 (t : Int) ∧ (∃ W, RwR wr b n v W 0 0 (.slice none 0 0) (.slice none 0 0) [] [] 0 ∧ WdR W (frB m t)) ∧ Below x.heap.size x wr) (fun i _ => n - (intOf i).toNat)
  case atStart => exact ⟨0, Nat.zero_le _, rfl, ⟨_, HR.out, HW0.out⟩, HB.out⟩
  case round =>
    clear HR HB HW0
    obtain ⟨t, ht, rfl, ⟨W, hr, hw⟩, hb⟩ := hrel
    by_cases hlt : (t : Int) < n
    · have htl : (t < n) = True := eq_true (by omega)
      have HT1 : Hid (t + 1 ≤ n) := hid (by omega)
      obtain ⟨b', o', rfl, hcb⟩ : ∃ b' o', a = some ⟨b', o', none⟩ ∧ wr.cell? ⟨b', o' + t, none⟩ = some (.bool (inB m t)) := by
        rcases HM.out.below hb with h1 | ⟨b', o', h1, _, hc⟩
        · have := HN.out; rw [h1] at this; simp at this; omega
        · exact ⟨b', o', h1, hc t (by have := HN.out; omega)⟩
      have HB := hid hb
      by_cases hbit : inB m t = true
      · have hst := hw.set (i := t) (by rw [frB_len]; have := HN.out; omega)
        rw [← frB_in (by have := HN.out; omega) hbit] at hst
        have HST := hid hst
        have HP := hid (rPut_any wr b n t 0 0 0 v _ _ W [] [] hr (by rw [hw.len, frB_len, HN.out]) hw.lt (by omega) (by omega))
        rw [hbit] at hcb
        clear hbit hst hr hw hb
        go_wp2_with fail
        refine HP.out.mono ?_
        rintro e w2 ⟨rfl, hr2, hm2⟩
        have HR2 := hid hr2
        have HB2 : Hid (Below x.heap.size x w2) := hid (HB.out.trans (ownMv_below hm2 HB.out.size HVX.out))
        clear hr2 hm2 HP hcb
        go_wp2_with fail
        go_roundw
        case rel => exact ⟨t + 1, HT1.out, by go_num, ⟨_, HR2.out, HST.out⟩, HB2.out⟩
        case measure => simp [intOf]; omega
      · have hbf : inB m t = false := by simpa using hbit
        rw [hbf] at hcb
        have HW : Hid (WdR W (frB m (t + 1))) := hid (by rw [frB_out hbf]; exact hw)
        have HR := hid hr
        clear hbit hbf hr hw hb
        go_wp2_with fail
        go_roundw
        case rel => exact ⟨t + 1, HT1.out, by go_num, ⟨_, HR.out, HW.out⟩, HB.out⟩
        case measure => simp [intOf]; omega
    · have htl : (t < n) = False := eq_false (by omega)
      have HT : Hid (t = m.length) := hid (by have := HN.out; omega)
      have HR := hid hr
      have HW := hid hw
      have HB := hid hb
      clear hlt hr hw hb
      go_wp2_with fail
      go_ret2
      refine ⟨⟨b, v, W, rfl, ⟨?_, ?_, by have := HN.out; omega, rfl, rfl⟩, HBX.out, HVX.out⟩, HB.out⟩
      · rw [← HN.out]; exact HR.out
      · have := HW.out; rw [HT.out, frB_all] at this; exact this
/-- Of. -/
def OfR (x : World) (n : Int) (zs : List Int) (e : Ending) (w' : World) : Prop := (ofE n zs = 0 ∧ NewR x (onesB n.toNat zs zs.length) e w') ∨ (ofE n zs ≠ 0 ∧ e = .returned (.tuple #[.pointer none, .int .i64 (ofE n zs)]))
theorem rOf_big (x : World) (n : Int) (u : Value) (h : 65536 < n) : Calls Try.prog 16 #[.int .i64 n, u] x fun e w' => e = .returned (.tuple #[.pointer none, .int .i64 2]) ∧ x = w' := by
  have hd : ((65536 : Int) < n) = True := eq_true h
  go_enter Try.func16, Try.ntmps16
  go_wp2_with fail
  go_ret2
  exact ⟨rfl, rfl⟩
theorem rOf_neg (x : World) (n : Int) (u : Value) (h : n < 0) : Calls Try.prog 16 #[.int .i64 n, u] x fun e w' => e = .returned (.tuple #[.pointer none, .int .i64 1]) ∧ x = w' := by
  have hd : ((65536 : Int) < n) = False := eq_false (by omega)
  go_enter Try.func16, Try.ntmps16
  go_wp2_with fail
  go_ret2
  exact ⟨rfl, rfl⟩
set_option maxRecDepth 20000 in
set_option maxHeartbeats 1000000 in
theorem rOf_some (ok : Nat → Prop) (x : World) (a : Option Addr) (c n : Nat) (zs : List Int) (hs : Si ok x a zs) (hn : n ≤ 65536) (hzl : zs.length ≤ 65536) :
    Calls Try.prog 16 #[.int .i64 (n : Int), .slice a zs.length c] x fun e w' => OfR x n zs e w' ∧ Below x.heap.size x w' := by
  have HS := hid hs
  have HZ := hid (rZeros_any x n hn)
  obtain ⟨L, hL⟩ : ∃ L, L = zs.length := ⟨_, rfl⟩
  have HL := hid hL
  have hLb : (L : Int) ≤ 65536 := by omega
  have hlb : (n : Int) ≤ 65536 := by omega
  have hlc : ((65536 : Int) < (n : Int)) = False := eq_false (by omega)
  have hlc2 : (65536 < n) = False := eq_false (by omega)
  have hlc3 : ((n : Int) < 0) = False := eq_false (by omega)
  have HNB := hid hn
  rw [← hL]
  clear hs hn hzl hL
  go_enter Try.func16, Try.ntmps16
  go_wp2_with fail
  refine HZ.out.mono ?_
  rintro e w1 ⟨b, g, c1, rfl, hbx, hgx, hr, hb⟩
  obtain ⟨v, hv⟩ : ∃ v, v = Value.slice (some ⟨g, 0, none⟩) ((n + 63) / 64) c1 := ⟨_, rfl⟩
  have HVX : Hid (∀ j, v.ownBlock = some j → x.heap.size ≤ j) := hid fun j hj => by
    rw [hv] at hj
    have : g = j := by simpa [Value.ownBlock] using hj
    omega
  rw [← hv] at hr
  have HR := hid hr
  have HB := hid hb
  have HBX := hid hbx
  have HW0 : Hid (WdR (List.replicate ((n + 63) / 64) 0) (onesB n zs 0)) := hid (WdR.zeros n)
  clear hr hb hbx hgx hv HZ
  go_wp2_with fail
  go_loopw [19] (fun i wr => ∃ t : Nat, t ≤ L ∧ i = .int .i64 (t : Int) ∧ (∃ W, RwR wr b n v W 0 0 (.slice none 0 0) (.slice none 0 0) [] [] 0 ∧ WdR W (onesB n zs t)) ∧ (∀ i, i < t → 0 ≤ zs.getD i 0 ∧ zs.getD i 0 < (n : Int)) ∧ Below x.heap.size x wr) (fun i _ => L - (intOf i).toNat)
  case atStart => exact ⟨0, Nat.zero_le _, rfl, ⟨_, HR.out, HW0.out⟩, fun i h => by omega, HB.out⟩
  case round =>
    clear HR HB HW0
    obtain ⟨t, ht, rfl, ⟨W, hr, hw⟩, hgd, hb⟩ := hrel
    have HG := hid hgd
    have HB := hid hb
    by_cases hlt : (t : Int) < L
    · have htl : (t < L) = True := eq_true (by omega)
      have HT1 : Hid (t + 1 ≤ L) := hid (by omega)
      obtain ⟨b', o', rfl, hcb⟩ : ∃ b' o', a = some ⟨b', o', none⟩ ∧ wr.cell? ⟨b', o' + t, none⟩ = some (.int .i64 (zs.getD t 0)) := by
        rcases HS.out.below hb with h1 | ⟨b', o', h1, _, hc⟩
        · have := HL.out; rw [h1] at this; simp at this; omega
        · exact ⟨b', o', h1, hc t (by have := HL.out; omega)⟩
      obtain ⟨z, hz⟩ : ∃ z, z = zs.getD t 0 := ⟨_, rfl⟩
      have HZT := hid hz
      have HTL : Hid (t < zs.length) := hid (by have := HL.out; omega)
      rw [← hz] at hcb
      have HH := hid (rHas_any wr b n z hr.c0)
      clear hgd hb hz
      by_cases hok : 0 ≤ z ∧ z < (n : Int)
      · have he : hasZ n z = true := decide_eq_true hok
        rw [he] at HH
        obtain ⟨j, rfl⟩ := Int.eq_ofNat_of_zero_le hok.1
        have hst := hw.set (i := j) (by rw [onesB_len]; omega)
        have HST : Hid (WdR (W.set (j / 64) (W.getD (j / 64) 0 ||| 2 ^ (j % 64))) (onesB n zs (t + 1))) := hid (by
          show WdR _ ((onesB n zs t).set (zs.getD t 0).toNat true)
          rw [← HZT.out]
          exact hst)
        have HP := hid (rPut_any wr b n j 0 0 0 v _ _ W [] [] hr (by rw [hw.len, onesB_len]) hw.lt HNB.out (by omega))
        have HG2 : Hid (∀ i, i < t + 1 → 0 ≤ zs.getD i 0 ∧ zs.getD i 0 < (n : Int)) := hid fun i hi => by
          by_cases e : i = t
          · subst e; rw [← HZT.out]; exact hok
          · exact HG.out i (by omega)
        clear he hst hr hw hok
        go_wp2_with fail
        refine HH.out.mono ?_
        rintro e w2 ⟨rfl, rfl⟩
        clear HH
        go_wp2_with fail
        refine HP.out.mono ?_
        rintro e w2 ⟨rfl, hr2, hm2⟩
        have HR2 := hid hr2
        have HB2 : Hid (Below x.heap.size x w2) := hid (HB.out.trans (ownMv_below hm2 HB.out.size HVX.out))
        clear hr2 hm2 HP hcb
        go_wp2_with fail
        go_roundw
        case rel => exact ⟨t + 1, HT1.out, by go_num, ⟨_, HR2.out, HST.out⟩, HG2.out, HB2.out⟩
        case measure => simp [intOf]; omega
      · have he : hasZ n z = false := decide_eq_false hok
        rw [he] at HH
        have HE : Hid (ofE n zs = 10) := hid (by
          unfold ofE
          rw [if_neg (by omega), if_neg (by omega), if_neg]
          intro h
          refine hok ?_
          rw [HZT.out, List.getD_eq_getElem?_getD, List.getElem?_eq_getElem HTL.out]
          exact h _ (List.getElem_mem _))
        clear he hr hw hok
        go_wp2_with fail
        refine HH.out.mono ?_
        rintro e w2 ⟨rfl, rfl⟩
        clear HH
        go_wp2_with fail
        go_ret2
        exact ⟨.inr ⟨by rw [HE.out]; decide, by rw [HE.out]; rfl⟩, HB.out⟩
    · have htl : (t < L) = False := eq_false (by omega)
      have HT : Hid (t = zs.length) := hid (by have := HL.out; omega)
      have HR := hid hr
      have HW := hid hw
      have HE : Hid (ofE n zs = 0) := hid (by
        unfold ofE
        rw [if_neg (by omega), if_neg (by omega), if_pos]
        intro z hz
        obtain ⟨i, hi, rfl⟩ := List.getElem_of_mem hz
        have h := HG.out i (by have := HT.out; omega)
        rw [List.getD_eq_getElem?_getD, List.getElem?_eq_getElem hi] at h
        exact h)
      clear hlt hr hw hb hgd
      go_wp2_with fail
      go_ret2
      refine ⟨.inl ⟨HE.out, b, v, W, rfl, ⟨?_, ?_, by rw [onesB_len]; exact HNB.out, rfl, rfl⟩, HBX.out, HVX.out⟩, HB.out⟩
      · rw [onesB_len]; exact HR.out
      · have := HW.out; rw [HT.out] at this; exact this
theorem rOf_any (ok : Nat → Prop) (x : World) (a : Option Addr) (c : Nat) (n : Int) (zs : List Int) (hs : Si ok x a zs) (hzl : zs.length ≤ 65536) :
    Calls Try.prog 16 #[.int .i64 n, .slice a zs.length c] x fun e w' => OfR x n zs e w' ∧ Below x.heap.size x w' := by
  by_cases h1 : 65536 < n
  · have he : ofE n zs = 2 := by unfold ofE; rw [if_pos h1]
    refine (rOf_big x n _ h1).mono ?_
    rintro e w' ⟨rfl, rfl⟩
    exact ⟨.inr ⟨by rw [he]; decide, by rw [he]⟩, Below.refl _ _⟩
  · by_cases h2 : n < 0
    · have he : ofE n zs = 1 := by unfold ofE; rw [if_neg h1, if_pos h2]
      refine (rOf_neg x n _ h2).mono ?_
      rintro e w' ⟨rfl, rfl⟩
      exact ⟨.inr ⟨by rw [he]; decide, by rw [he]⟩, Below.refl _ _⟩
    · obtain ⟨k, rfl⟩ := Int.eq_ofNat_of_zero_le (show 0 ≤ n by omega)
      exact rOf_some ok x a c k zs hs (by omega) hzl
end Go.Proofs.Ytjcapiibeekfkaa
