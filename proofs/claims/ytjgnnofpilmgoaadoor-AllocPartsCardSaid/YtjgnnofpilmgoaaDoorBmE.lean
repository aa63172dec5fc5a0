/- CONTRACTS: bits that are no number's cut off (trim); one word; the three ways to join. -/
import Derived.Test.YtjgnnofpilmgoaaDoorBmD
namespace Go.Proofs.YtjgnnofpilmgoaaDoor
open Go.RowKit Go.Inc

/-- What is a number's alone. -/
def Cut (size : Nat) (V V' : List Nat) : Prop := ∀ i, wbit V' i = (decide (i < size) && wbit V i)
/-- Was something else there? -/
def Over (size : Nat) (V : List Nat) (t : Bool) : Prop := (t = false ∧ ∀ i, size ≤ i → wbit V i = false) ∨ (t = true ∧ ∃ i, size ≤ i ∧ wbit V i = true)
theorem wbit_far {V : List Nat} {i : Nat} (h : V.length * 64 ≤ i) : wbit V i = false := by
  unfold wbit
  rw [List.getD_eq_getElem?_getD, List.getElem?_eq_none (by omega)]
  simp
theorem cut_even {size : Nat} {V : List Nat} (hl : V.length = (size + 63) / 64) (h : size % 64 = 0) : Cut size V V ∧ Over size V false := by
  have hf : ∀ i, size ≤ i → wbit V i = false := fun i hi => wbit_far (by omega)
  refine ⟨fun i => ?_, .inl ⟨rfl, hf⟩⟩
  by_cases hi : i < size
  · simp [hi]
  · rw [hf i (by omega)]; simp
theorem cut_odd {size o q x bey : Nat} {V : List Nat} (hl : V.length = (size + 63) / 64) (hf : ∀ x ∈ V, x < 18446744073709551616) (ho : o = size % 64) (h0 : o ≠ 0) (hq : q = size / 64) (hx : x = V.getD q 0) (hb : bey = x >>> o <<< o) :
    Cut size V (V.set q (x &&& (18446744073709551615 - bey))) ∧ Over size V (!((bey : Int) == 0)) := by
  have hql : q < V.length := by omega
  have hx64 : x < 18446744073709551616 := by rw [hx]; exact wget_lt hf q
  have hb64 : bey < 18446744073709551616 := by have := beyond_le x o; rw [hb]; omega
  have hw : ∀ j, j < 64 → wbit V (64 * q + j) = x.testBit j := fun j hj => by
    unfold wbit
    rw [show (64 * q + j) / 64 = q from by omega, show (64 * q + j) % 64 = j from by omega, hx]
  refine ⟨fun i => ?_, ?_⟩
  · rw [wbit_word hql]
    by_cases hi : i / 64 = q
    · rw [if_pos hi, andNot_bit hx64 hb64, hb, beyond_bit]
      have e : i = 64 * q + i % 64 := by omega
      rw [e, hw _ (by omega), ← e]
      have e2 : (i < size) = (i % 64 < o) := propext (by omega)
      simp only [e2]
      by_cases hj : i % 64 < o
      · simp [hj, show ¬ o ≤ i % 64 from by omega]
      · have hj2 : o ≤ i % 64 := by omega
        simp [hj, hj2]
    · rw [if_neg hi]
      by_cases hi2 : i < size
      · simp [hi2]
      · rw [wbit_far (by omega)]; simp
  · by_cases hz : bey = 0
    · refine .inl ⟨by rw [hz]; rfl, fun i hi => ?_⟩
      by_cases hi2 : i / 64 = q
      · have e : i = 64 * q + i % 64 := by omega
        rw [e, hw _ (by omega)]
        have hbb := beyond_bit x o (i % 64)
        rw [← hb, hz, Nat.zero_testBit, decide_eq_true (show o ≤ i % 64 by omega), Bool.true_and] at hbb
        exact hbb.symm
      · exact wbit_far (by omega)
    · refine .inr ⟨by have : ((bey : Int) == 0) = false := by rw [beq_eq_false_iff_ne]; omega
                      rw [this]; rfl, ?_⟩
      obtain ⟨j, hj⟩ := Nat.exists_testBit_of_ne_zero hz
      rw [hb, beyond_bit] at hj
      simp only [Bool.and_eq_true, decide_eq_true_eq] at hj
      have hj64 := lt_bit hx64 hj.2
      exact ⟨64 * q + j, by omega, by rw [hw j hj64]; exact hj.2⟩

set_option maxRecDepth 20000 in
set_option maxHeartbeats 1000000 in
theorem trim_any (b g c size : Nat) (V : List Nat) (w : World) (h : BmAt w b g c size V) :
    Calls Tryd.prog 60 #[.pointer (some ⟨b, 0, none⟩)] w fun e w' => (∃ t V', e = .returned (.bool t) ∧ BmAt w' b g c size V' ∧ Cut size V V' ∧ Over size V t) ∧ Mv (fun i => i = g) w w' := by
  have HAT := hid h
  have hc0 := h.hsz
  have hs2 : (size : Int) ≤ 2048 := by have := h.s2; omega
  obtain ⟨o, ho⟩ : ∃ o, o = size % 64 := ⟨_, rfl⟩
  have hqo : (size : Int) % 64 = (o : Int) := by omega
  have ho64 : (o : Int) < 64 := by omega
  by_cases h0 : o = 0
  · have HC := hid (cut_even h.len (by omega))
    subst h0
    clear h ho
    go_enter Tryd.func60, Tryd.ntmps60
    go_wp2_with fail
    go_ret
    exact ⟨⟨false, V, rfl, HAT.out, HC.out⟩, Mv.refl _ _⟩
  · obtain ⟨q, hq⟩ : ∃ q, q = size / 64 := ⟨_, rfl⟩
    obtain ⟨x, hx⟩ : ∃ x, x = V.getD q 0 := ⟨_, rfl⟩
    obtain ⟨bey, hb⟩ : ∃ bey, bey = x >>> o <<< o := ⟨_, rfl⟩
    obtain ⟨y, hy⟩ : ∃ y, y = x &&& (18446744073709551615 - bey) := ⟨_, rfl⟩
    have HC := hid (cut_odd h.len h.fits ho h0 hq hx hb)
    rw [← hy] at HC
    have hql : q < V.length := by have := h.len; omega
    have hx64 : x < 18446744073709551616 := by rw [hx]; exact wget_lt h.fits q
    have hb64 : bey < 18446744073709551616 := by have := beyond_le x o; rw [hb]; omega
    have hy64 : y < 18446744073709551616 := by rw [hy]; exact and_lt64 hx64 _
    have hc1 := h.hw
    have hc2 := h.cell hql
    have hfz := h.row.frozenAt q
    rw [← hx] at hc2
    obtain ⟨nw, hnw⟩ : ∃ nw, nw = V.length := ⟨_, rfl⟩
    rw [← hnw] at hc1
    have hqe : (nw : Int) - 1 = (q : Int) := by have := h.len; omega
    have hqn : (q : Int) < (nw : Int) := by omega
    have hq32 : (q : Int) < 32 := by omega
    have hqw : IntKind.i64.wrap (q : Int) = (q : Int) := by rw [IntKind.wrap_i64]; omega
    have ho0 : ((o : Int) == 0) = false := by rw [beq_eq_false_iff_ne]; omega
    have hop : bits .andNot .u64 (x : Int) (bey : Int) = (y : Int) := by rw [hy]; exact u64_andNot_nat x bey hx64 hb64
    have hbw : IntKind.u64.wrap (bey : Int) = (bey : Int) := wrap_nat hb64
    have hsh : (x : Int) / 2 ^ o * 2 ^ o = (bey : Int) := by
      rw [hb, Nat.shiftLeft_eq, Nat.shiftRight_eq_div_pow]
      simp
    have HNEW : Hid (∀ n, BmAt ((w.drewN n).setCell ⟨g, q, none⟩ (.int .u64 (y : Int))) b g c size (V.set q y) ∧ Mv (fun i => i = g) w ((w.drewN n).setCell ⟨g, q, none⟩ (.int .u64 (y : Int)))) := hid fun n => ⟨(HAT.out.below (below_drewN w n)).put q hy64, mv_setCell (F := fun i => i = g) (Mv.of_below (below_drewN w n)) rfl _⟩
    clear h hq hx hb hy hx64 hb64 hy64 ho hnw hql
    go_enter Tryd.func60, Tryd.ntmps60
    go_wp2_with fail
    go_quiet (fail)
    go_wp2_with fail
    go_ret
    exact ⟨⟨_, V.set q y, rfl, (HNEW.out _).1, HC.out⟩, (HNEW.out _).2⟩
/-- A set, with its words: none, or one that lies in blocks that are 'ok'. -/
def BmW (ok : Nat → Prop) (w : World) (v : Value) (m : List Bool) (W : List Nat) : Prop :=
  (v = .pointer none ∧ m = [] ∧ W = []) ∨ ∃ b g c, v = .pointer (some ⟨b, 0, none⟩) ∧ ok b ∧ ok g ∧ BmAt w b g c m.length W ∧ ∀ i, wbit W i = inB m i
section
variable {ok : Nat → Prop} {w w' : World} {v : Value} {m : List Bool} {W : List Nat}
theorem Bm.words (h : Bm ok w v m) : ∃ W, BmW ok w v m W := by
  rcases h with ⟨h1, h2⟩ | ⟨b, g, c, W, h1, h2, h3, h4, h5⟩
  · exact ⟨[], .inl ⟨h1, h2, rfl⟩⟩
  · exact ⟨W, .inr ⟨b, g, c, h1, h2, h3, h4, h5⟩⟩
theorem BmW.mv {F : Nat → Prop} (h : BmW ok w v m W) (hm : Mv F w w') (hk : ∀ i, ok i → ¬ F i) : BmW ok w' v m W := by
  rcases h with h | ⟨b, g, c, h1, h2, h3, h4, h5⟩
  · exact .inl h
  · exact .inr ⟨b, g, c, h1, h2, h3, h4.mv hm (hk b h2) (hk g h3), h5⟩
theorem BmW.below (h : BmW ok w v m W) (hb : Below w.heap.size w w') : BmW ok w' v m W := h.mv (F := fun _ => False) (Mv.of_below hb) fun _ _ => id
theorem BmW.bits (h : BmW ok w v m W) (i : Nat) : wbit W i = inB m i := by
  rcases h with ⟨_, rfl, rfl⟩ | ⟨b, g, c, h1, h2, h3, h4, h5⟩
  · rw [wbit_far (Nat.zero_le _), inB_far (Nat.zero_le _)]
  · exact h5 i
theorem BmW.fits (h : BmW ok w v m W) (q : Nat) : W.getD q 0 < 18446744073709551616 := by
  rcases h with ⟨_, rfl, rfl⟩ | ⟨b, g, c, h1, h2, h3, h4, h5⟩
  · simp
  · exact wget_lt h4.fits q
end
set_option maxRecDepth 20000 in
theorem word_any (ok : Nat → Prop) (v : Value) (m : List Bool) (W : List Nat) (q : Nat) (w : World) (h : BmW ok w v m W) (_hq : (q : Int) < 32) :
    Calls Tryd.prog 59 #[v, .int .i64 (q : Int)] w fun e w' => e = .returned (.int .u64 ((W.getD q 0 : Nat) : Int)) ∧ w = w' := by
  rcases h with ⟨rfl, rfl, rfl⟩ | ⟨b, g, c, rfl, _, _, h, _⟩
  · go_enter Tryd.func59, Tryd.ntmps59
    go_wp2_with fail
    go_ret
    exact ⟨rfl, rfl⟩
  · have hc1 := h.hw
    by_cases hlt : q < W.length
    · have hc2 := h.cell hlt
      have hx := h.fits
      obtain ⟨nw, hnw⟩ : ∃ nw, nw = W.length := ⟨_, rfl⟩
      rw [← hnw] at hc1 hlt
      obtain ⟨x, hx⟩ : ∃ x, x = W.getD q 0 := ⟨_, rfl⟩
      rw [← hx] at hc2 ⊢
      have hk : (q < nw) = True := eq_true hlt
      have hk2 : (q : Int) < (nw : Int) := by omega
      clear h hnw hx
      go_enter Tryd.func59, Tryd.ntmps59
      go_wp2_with fail
      go_ret
      exact ⟨rfl, rfl⟩
    · have hx : W.getD q 0 = 0 := by rw [List.getD_eq_getElem?_getD, List.getElem?_eq_none (by omega)]; rfl
      rw [hx]
      obtain ⟨nw, hnw⟩ : ∃ nw, nw = W.length := ⟨_, rfl⟩
      rw [← hnw] at hc1 hlt
      have hk : (nw ≤ q) = True := eq_true (by omega)
      have hk2 : (nw : Int) ≤ (q : Int) := by omega
      clear h hnw hx hlt
      go_enter Tryd.func59, Tryd.ntmps59
      go_wp2_with fail
      go_ret
      exact ⟨rfl, rfl⟩
theorem or_any (x y : Nat) (w : World) (hx : x < 18446744073709551616) (hy : y < 18446744073709551616) : Calls Tryd.prog 56 #[.int .u64 (x : Int), .int .u64 (y : Int)] w fun e w' => e = .returned (.int .u64 ((x ||| y : Nat) : Int)) ∧ w = w' := by
  have h := u64_or_nat x y hx hy
  generalize x ||| y = z at *
  go_enter Tryd.func56, Tryd.ntmps56
  go_wp2_with fail
  go_ret
  exact ⟨rfl, rfl⟩
end Go.Proofs.YtjgnnofpilmgoaaDoor

