/- CONTRACTS: a page's survivors, whatever waits; power, arming, counts, the image. -/
import Derived.Test.YtgppmnaidgkboaaDevG
namespace Go.Proofs.Ytgppmnaidgkboaa
open Go.RowKit Go.Inc

section
variable {C : Nat → Nat} {w w' : World} {g L c M p n : Nat} {f : Int → Option Value} {I : Int → List Item} {S : St}
theorem DevAt.ne_of (h : DevAt C w g L c M f I p n S) : g ≠ L ∧ g ≠ M ∧ L ≠ M := by
  have h1 := h.cg; have h2 := h.cL; have h3 := h.cM
  refine ⟨?_, ?_, ?_⟩ <;> (rintro rfl; omega)
/-- The device's own row has turned. -/
theorem DevAt.turn (h : DevAt C w g L c M f I p n S) {F : Nat → Prop} (hm : Mv F w w') (hF : ∀ b, F b → b = g) {on armed : Bool} {left r s t : Int} (hr : DevRow w' g on armed left (.slice (some ⟨L, 0, none⟩) (256 * p) c) (.map (some M)) r s t)
    (hl : 0 ≤ left ∧ left ≤ 9223372036854775807 ∨ armed = false) (hc : 0 ≤ r ∧ 0 ≤ s ∧ 0 ≤ t) : DevAt C w' g L c M f I p n { S with on := on, armed := armed, left := left, r := r, s := s, t := t } := by
  have hn : ∀ b, C b ≠ 1 → ¬ F b := fun b hb hf => hb (by rw [hF b hf]; exact h.cg)
  refine ⟨hr, owns_mv h.laid hm (fun b hb => ?_), h.map.mv hm (hn M (by rw [h.cM]; decide)), fun x v hv => ?_, h.non, h.dom, h.few, h.wait, h.cg, h.cL, h.cM, fun b hb => Nat.lt_of_lt_of_le (h.lt b hb) hm.size, h.pp, hl, hc⟩
  · cases hb
    exact hn L (by rw [h.cL]; decide)
  · have hV := h.ver x v hv
    refine ⟨owns_mv hV.own hm fun b hb => hn b (by rw [hV.col b hb]; omega), hV.col, hV.full, fun q hq => ?_⟩
    obtain ⟨h1, h2⟩ := hV.all q hq
    exact ⟨h1.mv hm fun b hb => hn b (by rw [hb]; decide), h2⟩
/-- What is laid has turned. -/
theorem DevAt.relay (h : DevAt C w g L c M f I p n S) {F : Nat → Prop} (hm : Mv F w w') (hF : ∀ b, F b → b = L) {B : List Nat} (hB : w'.ownsRow 0 5 1 (.slice (some ⟨L, 0, none⟩) (256 * p) c) (256 * p) (u8s B)) : DevAt C w' g L c M f I p n { S with B := B } := by
  have hn : ∀ b, C b ≠ 2 → ¬ F b := fun b hb hf => hb (by rw [hF b hf]; exact h.cL)
  refine ⟨hm.row h.row (hn g (by rw [h.cg]; decide)), hB, h.map.mv hm (hn M (by rw [h.cM]; decide)), fun x v hv => ?_, h.non, h.dom, h.few, h.wait, h.cg, h.cL, h.cM, fun b hb => Nat.lt_of_lt_of_le (h.lt b hb) hm.size, h.pp, h.lb, h.cnt⟩
  have hV := h.ver x v hv
  refine ⟨owns_mv hV.own hm fun b hb => hn b (by rw [hV.col b hb]; omega), hV.col, hV.full, fun q hq => ?_⟩
  obtain ⟨h1, h2⟩ := hV.all q hq
  exact ⟨h1.mv hm fun b hb => hn b (by rw [hb]; decide), h2⟩
/-- The map has lost keys. -/
theorem DevAt.remap (h : DevAt C w g L c M f I p n S) {F : Nat → Prop} (hm : Mv F w w') (hF : ∀ b, F b → b = M) {f' : Int → Option Value} {I' : Int → List Item} {n' : Nat} {W : Int → List (List Nat)} (hM : Mp Try.prog 3 w' M n' f')
    (hf : ∀ x v, f' x = some v → f x = some v ∧ I' x = I x) (hno : ∀ x, f' x = none → I' x = []) (hfew : ∀ x, (I' x).length ≤ n') (hW : ∀ x, W x = (I' x).map Item.b) : DevAt C w' g L c M f' I' p n' { S with W := W } := by
  have hn : ∀ b, C b ≠ 3 → ¬ F b := fun b hb hf => hb (by rw [hF b hf]; exact h.cM)
  refine ⟨hm.row h.row (hn g (by rw [h.cg]; decide)), owns_mv h.laid hm (fun b hb => ?_), hM, fun x v hv => ?_, hno, fun x v hv => h.dom x v (hf x v hv).1, hfew, hW, h.cg, h.cL, h.cM, fun b hb => Nat.lt_of_lt_of_le (h.lt b hb) hm.size, h.pp, h.lb, h.cnt⟩
  · cases hb
    exact hn L (by rw [h.cL]; decide)
  · obtain ⟨h1, h2⟩ := hf x v hv
    rw [h2]
    have hV := h.ver x v h1
    refine ⟨owns_mv hV.own hm fun b hb => hn b (by rw [hV.col b hb]; omega), hV.col, hV.full, fun q hq => ?_⟩
    obtain ⟨h1, h2⟩ := hV.all q hq
    exact ⟨h1.mv hm fun b hb => hn b (by rw [hb]; decide), h2⟩
theorem DevAt.cleared (h : DevAt C w g L c M f I p n S) (hg : w.grownBy w' (some M)) (hM : Mp Try.prog 3 w' M 0 noKeys) : DevAt C w' g L c M noKeys (fun _ => []) p 0 { S with W := fun _ => [] } :=
  h.remap (Mv.of_grown (F := fun b => b = M) hg fun g h _ => by cases h; rfl) (fun _ h => h) hM (fun _ _ h => by cases h) (fun _ _ => rfl) (fun _ => Nat.zero_le _) (fun _ => rfl)
theorem DevAt.len (h : DevAt C w g L c M f I p n S) : S.B.length = 256 * p := by
  have := h.laid.1
  rw [u8s_length] at this
  omega
theorem DevAt.wlen (h : DevAt C w g L c M f I p n S) (x : Int) : (S.W x).length = (I x).length := by rw [h.wait x, List.length_map]
theorem DevAt.wnil (h : DevAt C w g L c M f I p n S) {x : Int} (hx : I x = []) : S.W x = [] := by rw [h.wait x, hx]; rfl
end

theorem keptN_zero (N : Int) : keptN 0 N = 0 := by unfold keptN; omega
theorem keptN_le (m : Nat) (N : Int) : keptN m N ≤ m := by unfold keptN; omega
theorem keptB_nil (B : List Nat) (x : Nat) (N part : Int) : keptB B x [] N part = B := by
  unfold keptB
  simp [keptN_zero]

theorem survive_any {C w g L c M f I p n S} (h : DevAt C w g L c M f I p n S) (x N part : Int) (hx : -9223372036854775808 ≤ x ∧ x ≤ 9223372036854775807) (hn : n ≤ 1000000) :
    Calls Try.prog 39 #[.pointer (some ⟨g, 0, none⟩), .agg #[.int .i64 x, .int .i64 N, .int .i64 part]] w fun e w' => e = .returned (.int .i64 (keptN (S.W x).length N : Nat)) ∧
      DevAt C w' g L c M f I p n { S with B := keptB S.B x.toNat (S.W x) N part } ∧ Mv (fun b => b = L) w w' := by
  by_cases hI : I x = []
  · rw [h.wnil hI]
    refine (survive_none h x N part hx hI).mono ?_
    rintro e w' ⟨rfl, hb⟩
    refine ⟨ret_int (by simp [keptN_zero]), ?_, Mv.of_below hb⟩
    rw [keptB_nil]
    exact h.keep (Mv.of_below (F := fun _ => False) hb) fun _ h => h.elim
  · obtain ⟨v, hv, _⟩ := look_some h hI
    obtain ⟨k, rfl⟩ := Int.eq_ofNat_of_zero_le (h.dom _ _ hv).1
    rw [h.wlen]
    have hk : (Int.ofNat k).toNat = k := rfl
    have fin : ∀ {P : Ending → World → Prop}, Calls Try.prog 39 #[.pointer (some ⟨g, 0, none⟩), .agg #[.int .i64 (k : Int), .int .i64 N, .int .i64 part]] w (fun e w' => e = .returned (.int .i64 (keptN (I k).length N : Nat)) ∧
        w'.ownsRow 0 5 1 (.slice (some ⟨L, 0, none⟩) (256 * p) c) (256 * p) (u8s (keptB S.B k (S.W k) N part)) ∧ Mv (fun b => b = L) w w') →
        (∀ e w', (e = .returned (.int .i64 (keptN (I k).length N : Nat)) ∧ DevAt C w' g L c M f I p n { S with B := keptB S.B k (S.W k) N part } ∧ Mv (fun b => b = L) w w') → P e w') →
        Calls Try.prog 39 #[.pointer (some ⟨g, 0, none⟩), .agg #[.int .i64 (k : Int), .int .i64 N, .int .i64 part]] w P := fun hc hP => hc.mono fun e w' ⟨h1, h2, h3⟩ => hP e w' ⟨h1, h.relay h3 (fun _ h => h) h2, h3⟩
    by_cases h0 : keptN (I k).length N = 0
    · exact fin (survive_part h k N part hn hI h0) fun _ _ h => h
    · by_cases hl : keptN (I k).length N = (I k).length
      · exact fin (survive_first h k N part hn hI (by omega) hl) fun _ _ h => h
      · have := keptN_le (I k).length N
        exact fin (survive_both h k N part hn hI (by omega) (by omega)) fun _ _ h => h

theorem arm_some {C w g L c M f I p n S} (h : DevAt C w g L c M f I p n S) (k : Int) (hk : -9223372036854775808 ≤ k ∧ k ≤ 9223372036854775807) :
    Calls Try.prog 22 #[.pointer (some ⟨g, 0, none⟩), .int .i64 k] w fun e w' => e = .returned (.tuple #[]) ∧ DevAt C w' g L c M f I p n { S with armed := decide (0 ≤ k), left := k } ∧ Mv (fun b => b = g) w w' := by
  have H := hid (limit_any w g _ _ _ _ _ _ _ _ k h.row)
  have HD := hid h
  clear h
  go_enter Try.func22, Try.ntmps22
  go_wp2_with fail
  refine H.out.mono ?_
  rintro e w1 ⟨rfl, h1, h2⟩
  have hM : Mv (fun b => b = g) w w1 := Mv.of_grown h2 fun g h _ => by cases h; rfl
  have HM := hid hM
  have HT := hid (HD.out.turn hM (fun _ h => h) h1 (by by_cases h0 : 0 ≤ k; exact .inl ⟨h0, hk.2⟩; exact .inr (decide_eq_false h0)) HD.out.cnt)
  clear h1 h2 hM H
  go_wp2_with fail
  go_end0
  exact ⟨rfl, HT.out, HM.out⟩
theorem arm_nil (w : World) (k : Int) : Calls Try.prog 22 #[.pointer none, .int .i64 k] w fun e w' => e = .returned (.tuple #[]) ∧ w = w' := by
  go_enter Try.func22, Try.ntmps22
  go_wp2
  go_end0
  exact ⟨rfl, rfl⟩

theorem power_some {C w g L c M f I p n S} (h : DevAt C w g L c M f I p n S) :
    Calls Try.prog 20 #[.pointer (some ⟨g, 0, none⟩)] w fun e w' => e = .returned (.tuple #[]) ∧ DevAt C w' g L c M noKeys (fun _ => []) p 0 { S with on := true, armed := false, left := 0, W := fun _ => [] } ∧ Mv (fun b => C b ≠ 0) w w' := by
  have c4 := h.row.c4
  have HM := hid h.map
  have HD := hid h
  clear h
  go_enter Try.func20, Try.ntmps20
  go_wp2_with (refine wpList_clear _ rfl (.tmp 7) 72 rfl 3 46 Try.underlying72 M n f rfl HM.out ?_)
  intro w1 hm1 hg1
  have HD1 := hid (HD.out.cleared hg1 hm1)
  have H := hid (light_any w1 g _ _ _ _ _ _ _ _ HD1.out.row)
  have HG1 := hid hg1
  clear hm1 hg1 c4 HM
  go_wp2_with fail
  refine H.out.mono ?_
  rintro e w2 ⟨rfl, h1, h2⟩
  have hM : Mv (fun b => b = g) w1 w2 := Mv.of_grown h2 fun g h _ => by cases h; rfl
  have HT := hid (HD1.out.turn hM (fun _ h => h) h1 (.inr rfl) HD1.out.cnt)
  have HMV : Hid (Mv (fun b => C b ≠ 0) w w2) := hid ((Mv.of_grown HG1.out fun j h _ => by cases h; show C M ≠ 0; rw [HD1.out.cM]; decide).trans (hM.sub fun b _ h => by cases h; show C g ≠ 0; rw [HD1.out.cg]; decide))
  clear h1 h2 hM H
  go_wp2_with fail
  go_end0
  exact ⟨rfl, HT.out, HMV.out⟩
theorem power_nil (w : World) : Calls Try.prog 20 #[.pointer none] w fun e w' => e = .returned (.tuple #[]) ∧ w = w' := by
  go_enter Try.func20, Try.ntmps20
  go_wp2
  refine bodyPost_ret (results_none rfl _ _ _) rfl ?_
  exact ⟨rfl, rfl⟩
end Go.Proofs.Ytgppmnaidgkboaa
