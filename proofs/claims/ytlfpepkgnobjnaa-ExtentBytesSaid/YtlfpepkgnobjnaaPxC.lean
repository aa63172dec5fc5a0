/- CONTRACTS: the short list of extents, or why there is none; Check, Of, the pages of a right list. -/
import Derived.Test.YtlfpepkgnobjnaaPxB
namespace Go.Proofs.Ytlfpepkgnobjnaa
open Go.RowKit Go.Inc

theorem ownsWeaken {W : World} {B B' e s n : Nat} {v : Value} {x : List Value} (h : W.ownsRow B e s v n x) (hb : B' ≤ B) : W.ownsRow B' e s v n x :=
  ⟨h.1, h.2.imp id fun ⟨g, cap, cur, h1, h2, r⟩ => ⟨g, cap, cur, h1, Nat.le_trans hb h2, r⟩⟩
set_option maxRecDepth 20000 in
set_option maxHeartbeats 4000000 in
theorem gather_any (ok : Nat → Prop) (a : Option Addr) (c : Nat) (xs : List Xt) (w : World) (hs : XtS ok w a xs) (hl : (xs.length : Int) ≤ 65536) (hbx : ∀ x ∈ xs, fitsX x) :
    Calls Try.prog 26 #[.slice a xs.length c] w fun e w' => (∃ v, e = .returned (.tuple #[v, .int .i64 (gaE xs)]) ∧ w'.ownsRow w.heap.size 57 2 v (gaX xs).length (xcells (gaX xs))) ∧ Below w.heap.size w w' := by
  have HS := hid hs.old
  have HBX := hid hbx
  have HSP : Hid (∀ y, Below w.heap.size w y → (∀ x ∈ xs, okX x = true) → Calls Try.prog 38 #[.slice a xs.length c] y fun e w' => (∃ v, e = .returned v ∧ w'.ownsRow y.heap.size 3 1 v (pagesX xs).length (zvals (pagesX xs))) ∧ Below y.heap.size y w') := hid fun y hy hok => spread_any ok a c xs y (hs.below hy) hok hl
  have HSH : Hid (∀ y, Below w.heap.size w y → (∀ x ∈ xs, okX x = true) → sumX xs ≤ 1024 → Calls Try.prog 40 #[.slice a xs.length c] y fun e w' => (∃ v, e = .returned v ∧ w'.ownsRow y.heap.size 57 2 v (shX xs xs.length).length (xcells (shX xs xs.length))) ∧ Below y.heap.size y w') := hid fun y hy hok hsum => shorten_any ok a c xs y (hs.below hy) hok hl hsum
  have HBAD : Hid (∀ (y : World) (E : Int), gaE xs = E → E ≠ 0 → (∃ v, Ending.returned (.tuple #[.slice none 0 0, .int .i64 E]) = .returned (.tuple #[v, .int .i64 (gaE xs)]) ∧ y.ownsRow w.heap.size 57 2 v (gaX xs).length (xcells (gaX xs)))) := hid fun y E hE hne => by
    have e : gaX xs = [] := if_neg (by rw [hE]; exact hne)
    rw [e, hE]
    exact ⟨_, rfl, World.ownsRow_nil _ _ _ _⟩
  obtain ⟨n, hn⟩ : ∃ n, n = xs.length := ⟨_, rfl⟩
  have HN := hid hn
  rw [← hn] at hl HSP ⊢
  have HSH2 : Hid (∀ y, Below w.heap.size w y → (∀ x ∈ xs, okX x = true) → sumX xs ≤ 1024 → Calls Try.prog 40 #[.slice a n c] y fun e w' => (∃ v, e = .returned v ∧ w'.ownsRow y.heap.size 57 2 v (shX xs xs.length).length (xcells (shX xs xs.length))) ∧ Below y.heap.size y w') := hid (by rw [hn]; exact HSH.out)
  clear hs hbx hn HSH
  go_enter Try.func26, Try.ntmps26
  go_wp2_with fail
  go_loopw [4, 11] (fun s i wr => ∃ k : Nat, k ≤ n ∧ i = .int .i64 (k : Int) ∧ s = .int .i64 (sumX (xs.take k)) ∧ (∀ x ∈ xs.take k, okX x = true) ∧ Below w.heap.size w wr) (fun _ i _ => n - (intOf i).toNat)
  case atStart => exact ⟨0, Nat.zero_le _, rfl, rfl, by simp, Below.refl _ _⟩
  case round =>
    obtain ⟨k, hk, rfl, rfl, hg, hb⟩ := hrel
    have HG := hid hg
    have HB := hid hb
    have hsb := sumX_bnd _ hg
    rw [List.length_take] at hsb
    obtain ⟨S, hS⟩ : ∃ S, S = sumX (xs.take k) := ⟨_, rfl⟩
    have HSS := hid hS
    rw [← hS] at hsb ⊢
    have hsb2 : 0 ≤ S ∧ S ≤ 140000000 := by omega
    clear hg hb hS hsb
    by_cases hlt : (k : Int) < n
    · have hkn : (k < n) = True := eq_true (by omega)
      have HSN := hid (takeSnoc (bs := xs) (d := ((0 : Int), (0 : Int))) (k := k) (by have := HN.out; omega))
      have HM := hid (memGetD (zs := xs) (d := ((0 : Int), (0 : Int))) (k := k) (by have := HN.out; omega))
      obtain ⟨b, o, rfl, hc1, hc2⟩ := (HS.out.below HB.out).cell (i := k) (by have := HN.out; omega)
      obtain ⟨⟨F, G⟩, hx⟩ : ∃ x, x = xs.getD k (0, 0) := ⟨_, rfl⟩
      rw [← hx] at HSN HM hc1 hc2
      simp only at hc1 hc2
      have hbF := HBX.out _ HM.out
      obtain ⟨hbF1, hbF2⟩ := hbF
      simp only at hbF1 hbF2
      obtain ⟨g5, hg5⟩ : ∃ g5, g5 = wr.heap.size := ⟨_, rfl⟩
      obtain ⟨w0, hw0⟩ : ∃ w0, w0 = wr.alloc (.cells #[.int .i64 F, .int .i64 G] 57) := ⟨_, rfl⟩
      have HW0 := hid hw0
      have HG5 := hid hg5
      have HBX0 : Hid (w0.heap[g5]? = some (.cells #[.int .i64 F, .int .i64 G] 57 (0, 0))) := hid (by rw [hw0, hg5]; exact heap_alloc_new wr _)
      have HBA : Hid (Below w.heap.size w w0) := hid (by rw [hw0]; exact HB.out.alloc HB.out.size _)
      have hxF : w0.cell? ⟨g5, 0, none⟩ = some (.int .i64 F) := by rw [cell_of_row _ _ _ _ _ _ HBX0.out]; rfl
      have hxG : w0.cell? ⟨g5, 1, none⟩ = some (.int .i64 G) := by rw [cell_of_row _ _ _ _ _ _ HBX0.out]; rfl
      have HMB := hid (mayBe_any F G w0 hbF1 hbF2)
      clear hx hw0 hg5
      by_cases hox : okX (F, G) = true
      · rw [hox] at HMB
        have HOX := hid hox
        have hgb : 1 ≤ G ∧ G ≤ 2046 := by have := okX_iff.1 hox; simp only at this; omega
        clear hox
        go_wp2_with fail
        rw [← HW0.out, ← HG5.out]
        go_wp2_with fail
        refine HMB.out.mono ?_
        clear HMB
        rintro e w1 ⟨rfl, hb1⟩
        have HB1 : Hid (Below w.heap.size w w1) := hid (HBA.out.trans (hb1.mono HBA.out.size))
        have hxG1 := (hb1.cell (cell_lt hxG)).trans hxG
        clear hb1 hxF hxG hc1 hc2 HB HBA
        go_wp2_with fail
        go_roundw
        case rel => exact ⟨k + 1, by omega, by go_num, by rw [HSN.out, sumX_snoc, ← HSS.out], by rw [HSN.out]; intro x hx; rcases snocMem.1 hx with h | h; exact HG.out x h; subst h; exact HOX.out, HB1.out⟩
        case measure => simp [intOf]; omega
      · have HO : Hid (gaE xs = 10) := hid (gaE_bad (badX_true HM.out (by simpa using hox)))
        rw [show okX (F, G) = false by simpa using hox] at HMB
        clear hox
        go_wp2_with fail
        rw [← HW0.out, ← HG5.out]
        go_wp2_with fail
        refine HMB.out.mono ?_
        clear HMB
        rintro e w1 ⟨rfl, hb1⟩
        have HB1 : Hid (Below w.heap.size w w1) := hid (HBA.out.trans (hb1.mono HBA.out.size))
        clear hb1 hxF hxG hc1 hc2 HB HBA
        go_wp2_with fail
        go_ret2
        exact ⟨HBAD.out w1 10 HO.out (by decide), HB1.out⟩
    · have hkf : (k < n) = False := eq_false (by omega)
      have HGA : Hid (∀ x ∈ xs, okX x = true) := hid (by have h := HG.out; rw [show k = n by omega, HN.out, List.take_length] at h; exact h)
      have HSA : Hid (S = sumX xs) := hid (by have h := HSS.out; rw [show k = n by omega, HN.out, List.take_length] at h; exact h)
      have HBF : Hid (badX xs = false) := hid (badX_false.2 HGA.out)
      obtain ⟨wi, hwi⟩ : ∃ wi, wi = wr := ⟨_, rfl⟩
      subst hwi
      clear hlt HG HSS
      by_cases hlong : (1024 : Int) < S
      · have HO : Hid (gaE xs = 2) := hid (gaE_long HBF.out (by rw [← HSA.out]; exact hlong))
        have hlongT : ((1024 : Int) < S) = True := eq_true hlong
        go_wp2_with fail
        go_ret2
        exact ⟨HBAD.out wi 2 HO.out (by decide), HB.out⟩
      have hlongF : ((1024 : Int) < S) = False := eq_false hlong
      have HSUM : Hid (sumX xs ≤ 1024) := hid (by rw [← HSA.out]; omega)
      clear hlong
      go_wp2_with fail
      refine (HSP.out wi HB.out HGA.out).mono ?_
      clear HSP
      rintro e w2 ⟨⟨v, rfl, hv⟩, hb2⟩
      have HB2 : Hid (Below w.heap.size w w2) := hid (HB.out.trans (hb2.mono HB.out.size))
      obtain ⟨a2, c2, rfl, -, hsi, -, -, -⟩ := ownedZ hv
      have HLP : Hid (((pagesX xs).length : Int) = S) := hid (by rw [HSA.out]; exact pagesX_len xs HGA.out)
      have HIN : Hid (∀ z ∈ pagesX xs, 0 ≤ z ∧ z < ((2048 : Nat) : Int)) := hid fun z hz => by have := pagesX_in HGA.out z hz; omega
      have HNEW := hid (new_any _ 2048 a2 c2 (pagesX xs) w2 hsi (by decide) (by decide) (by have := HLP.out; omega))
      have HCNT := hid (newB_cnt HIN.out)
      obtain ⟨P, hP⟩ : ∃ P, P = pagesX xs := ⟨_, rfl⟩
      have HPE := hid hP
      rw [← hP] at HNEW HCNT HLP ⊢
      clear hv hb2 hsi HB hP
      go_wp2_with fail
      refine HNEW.out.mono ?_
      clear HNEW
      rintro e w3 ⟨⟨v, rfl, hset⟩, hb3⟩
      have HB3 : Hid (Below w.heap.size w w3) := hid (HB2.out.trans (hb3.mono HB2.out.size))
      have HC := hid (count_any _ v _ w3 hset.bm)
      obtain ⟨N, hN⟩ : ∃ N, N = cntTo (inB (newB 2048 P)) (newB 2048 P).length := ⟨_, rfl⟩
      rw [← hN] at HC HCNT
      have hNb : (N : Int) ≤ 140000000 := by have := HCNT.out.1; have := HLP.out; omega
      clear hb3 hset HB2 hN
      go_wp2_with fail
      refine HC.out.mono ?_
      clear HC
      rintro e w4 ⟨rfl, rfl⟩
      by_cases hnd : P.Nodup
      · have hNS : (N : Int) = S := by have := HCNT.out.2.2 hnd; have := HLP.out; omega
        have HO : Hid (gaE xs = 0) := hid (gaE_ok HBF.out HSUM.out (by rw [← HPE.out]; exact hnd))
        have hd : ((N : Int) < S) = False := eq_false (by omega)
        have hd2 : decide ((N : Int) < S) = false := decide_eq_false (by omega)
        clear hnd hNS
        go_wp2_with fail
        refine (HSH2.out w3 HB3.out HGA.out HSUM.out).mono ?_
        clear HSH2
        rintro e w5 ⟨⟨v5, rfl, hv5⟩, hb5⟩
        have HB5 : Hid (Below w.heap.size w w5) := hid (HB3.out.trans (hb5.mono HB3.out.size))
        have HV5 : Hid (w5.ownsRow w.heap.size 57 2 v5 (gaX xs).length (xcells (gaX xs))) := hid (by
          rw [show gaX xs = shX xs xs.length from if_pos HO.out]
          exact ownsWeaken hv5 HB3.out.size)
        clear hv5 hb5
        go_wp2_with fail
        go_ret2
        exact ⟨⟨_, by rw [HO.out]; rfl, HV5.out⟩, HB5.out⟩
      · have hNS : (N : Int) < S := by
          have h1 := HCNT.out.1
          have h2 := HLP.out
          have h3 : N ≠ P.length := fun e => hnd (HCNT.out.2.1 e)
          omega
        have HO : Hid (gaE xs = 8) := hid (gaE_twice HBF.out HSUM.out (by rw [← HPE.out]; exact hnd))
        have hd : ((N : Int) < S) = True := eq_true hNS
        clear hnd
        go_wp2_with fail
        go_ret2
        exact ⟨HBAD.out w3 8 HO.out (by decide), HB3.out⟩
end Go.Proofs.Ytlfpepkgnobjnaa
