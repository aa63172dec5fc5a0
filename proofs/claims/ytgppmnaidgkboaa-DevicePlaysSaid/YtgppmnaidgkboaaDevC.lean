/- CONTRACTS: how many versions wait in all. -/
import Derived.Test.YtgppmnaidgkboaaDevB
namespace Go.Proofs.Ytgppmnaidgkboaa
open Go.RowKit Go.Inc

/-- A sum over the first p numbers. -/
def tot (F : Nat → Nat) : Nat → Nat
  | 0 => 0
  | p + 1 => tot F p + F p
theorem tot_congr {F G : Nat → Nat} : ∀ {p : Nat}, (∀ i, i < p → F i = G i) → tot F p = tot G p
  | 0, _ => rfl
  | p + 1, h => by unfold tot; rw [tot_congr (p := p) fun i hi => h i (by omega), h p (by omega)]
theorem tot_zero {F : Nat → Nat} {p : Nat} (h : ∀ i, i < p → F i = 0) : tot F p = 0 := by
  induction p with
  | zero => rfl
  | succ p ih => unfold tot; rw [ih fun i hi => h i (by omega), h p (by omega)]
theorem tot_point {F G : Nat → Nat} {i : Nat} : ∀ {p : Nat}, i < p → (∀ j, j ≠ i → F j = G j) → F i = 0 → tot G p = tot F p + G i
  | 0, h, _, _ => by omega
  | p + 1, h, hF, h0 => by
    unfold tot
    by_cases hip : i = p
    · subst hip
      rw [tot_congr (F := F) (G := G) fun j hj => hF j (by omega), h0]
      omega
    · rw [tot_point (p := p) (by omega) hF h0, hF p (by omega)]
      omega
theorem tot_le {F G : Nat → Nat} : ∀ {p : Nat}, (∀ i, i < p → F i ≤ G i) → tot F p ≤ tot G p
  | 0, _ => Nat.le_refl _
  | p + 1, h => by
    have h1 := tot_le (p := p) fun i hi => h i (by omega)
    have h2 := h p (by omega)
    unfold tot
    omega
theorem tot_const {F : Nat → Nat} {n : Nat} : ∀ {p : Nat}, (∀ i, i < p → F i ≤ n) → tot F p ≤ p * n
  | 0, _ => Nat.zero_le _
  | p + 1, h => by
    have h1 := tot_const (p := p) fun i hi => h i (by omega)
    have h2 := h p (by omega)
    unfold tot
    rw [Nat.succ_mul]
    omega

/-- What of a range is done. -/
def doneOf (I : Int → List Item) (left : Int → Bool) (p : Nat) : Nat := tot (fun i => if left i then 0 else (I i).length) p
/-- How many versions wait in all. -/
def allOf (I : Int → List Item) (p : Nat) : Nat := tot (fun i => (I i).length) p

theorem done_step {I : Int → List Item} {left : Int → Bool} {p : Nat} {x : Int} (hx : 0 ≤ x ∧ x < p) (hl : left x = true) :
    doneOf I (fun z => left z && !decide (z = x)) p = doneOf I left p + (I x).length := by
  obtain ⟨i, rfl⟩ := Int.eq_ofNat_of_zero_le hx.1
  unfold doneOf
  rw [tot_point (F := fun i => if left i then 0 else (I i).length) (i := i) (by omega) (fun j hj => ?_) (by simp [hl])]
  · simp
  · have : ¬ ((j : Int) = (i : Int)) := by omega
    simp [this]
theorem done_all {I : Int → List Item} {left : Int → Bool} {p : Nat} (hl : ∀ x, left x = false) : doneOf I left p = allOf I p := by
  unfold doneOf allOf
  exact tot_congr fun i _ => by simp [hl]
theorem done_le {I : Int → List Item} {left : Int → Bool} {p : Nat} : doneOf I left p ≤ allOf I p := tot_le fun i _ => by split <;> omega

set_option maxHeartbeats 1000000 in
theorem all_any {C w g L c M f I p n S} (h : DevAt C w g L c M f I p n S) (hn : n ≤ 1000000) :
    Calls Try.prog 47 #[.map (some M)] w fun e w' => e = .returned (.int .i64 (allOf I p : Nat)) ∧ Below w.heap.size w w' := by
  have HM := hid h.map
  have HL := hid (look_any h)
  have hdom := hid h.dom
  have hnon := hid h.non
  have hMlt := h.map.lt
  have hT : allOf I p ≤ 4611686018427387904 := by
    have h1 : allOf I p ≤ p * n := tot_const fun i _ => h.few i
    have h2 : p * n ≤ 2048 * 1000000 := Nat.mul_le_mul h.pp.2 hn
    omega
  clear h
  obtain ⟨T, hTe⟩ : ∃ T, T = allOf I p := ⟨_, rfl⟩
  rw [← hTe] at hT ⊢
  have HT := hid hTe
  clear hTe
  go_enter Try.func47, Try.ntmps47
  go_wp2_with (at_range; refine wpList_rangeI _ rfl _ 72 rfl 3 46 Try.underlying3 Try.underlying72 M n f rfl HM.out ?_; intro w0 cnt0 hrg0 hb0 hs0)
  go_frame
  have HR0 := hid hrg0
  have HB0 := hid hb0
  obtain ⟨r, hr⟩ : ∃ r, r = w.heap.size := ⟨_, rfl⟩
  rw [← hr] at HR0 HB0 ⊢
  have Hr := hid hr
  clear hrg0 hb0 hr
  have h00 : doneOf I (fun x => (f x).isSome) p = 0 := by
    unfold doneOf
    exact tot_zero fun i _ => by
      cases hf : f i with
      | none => rw [hnon.out _ hf]; simp
      | some v => show (if (f (i : Int)).isSome = true then 0 else _) = 0; rw [hf]; rfl
  go_loopw [3] (fun s wr => ∃ left cnt d, Rg Try.prog 3 wr M r n f left cnt ∧ s = .int .i64 ((d : Nat) : Int) ∧ d = doneOf I left p ∧ Below r w wr) (fun _ wr => wr.rangeLeft M r)
  case atStart => exact ⟨_, _, 0, HR0.out, rfl, h00.symm, HB0.out⟩
  case round =>
    obtain ⟨left, cnt, d, hrg, rfl, hd, hbel⟩ := hrel
    have HRG := hid hrg
    have HD := hid hd
    have HB := hid hbel
    have hdT : d ≤ T := by rw [HT.out, HD.out]; exact done_le
    have hlt : r < wr.heap.size := hrg.lt
    clear hrg hd hbel
    go_wp2_with (at_next; refine wpList_nextI _ rfl _ rfl 3 Try.underlying3 M r n f left cnt rfl HRG.out ?_ ?_)
    · intro hl0
      have hdd : Hid (d = T) := hid (by rw [HT.out, HD.out]; exact done_all hl0)
      clear hl0
      go_wp2_with fail
      go_ret
      exact ⟨ret_int (by rw [hdd.out]), Hr.out ▸ HB.out⟩
    · intro x v w1 cnt1 hx1 hx2 hlx hfx hrg1 hlt1 hg1 hs1 hen
      obtain ⟨a, k', hv⟩ := HL.out x
      have HC := hid (count_any w1 M n f x a (I x).length k' hrg1.mp ⟨hx1, hx2⟩ hv)
      have hdx := hdom.out x v hfx
      have hstep := done_step (I := I) hdx hlx
      have hdT1 : d + (I x).length ≤ T := by rw [HT.out, HD.out, ← hstep]; exact done_le
      have HS := hid hstep
      have HRG1 := hid hrg1
      have HB1 : Hid (Below r w w1) := hid (HB.out.trans (grown_is_below hg1 (Nat.le_refl _) (by omega)))
      have hm1 : cnt1 < cnt := hlt1
      have hlft := hid hlx
      generalize hlen : (I x).length = l at *
      clear hlx hstep hrg1 hg1 hv hfx HL hlen
      go_wp2_with fail
      refine HC.out.mono ?_
      rintro e w2 ⟨rfl, rfl⟩
      go_wp2_with fail
      go_roundw
      case rel => exact ⟨_, cnt1, d + l, HRG1.out, by go_num, by rw [HS.out, HD.out], HB1.out⟩
      case measure => rw [HRG1.out.left_eq, HRG.out.left_eq]; exact hm1
end Go.Proofs.Ytgppmnaidgkboaa
