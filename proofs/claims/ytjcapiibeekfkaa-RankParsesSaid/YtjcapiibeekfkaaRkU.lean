/- THE WALK OF 'RankParses', over the program's contracts. -/
import Derived.Test.YtjcapiibeekfkaaRkR
import Derived.Test.YtjcapiibeekfkaaGrowX
namespace Go.Inc
open Go.RowKit
def EqR (v : Value) : World → Value → Prop := fun _ u => u = v
/-- The bits below t of a row's bytes, the others 0. -/
def plM (bs : List Nat) (t : Nat) : List Bool := (List.range (prN bs)).map fun i => decide (i < t) && (bs.getD (prP bs + i / 8) 0).testBit (i % 8)
theorem plM_len (bs : List Nat) (t : Nat) : (plM bs t).length = prN bs := by simp [plM]
theorem prL_len (bs : List Nat) : (prL bs).length = prN bs := by simp [prL]
theorem plM_zero (bs : List Nat) : plM bs 0 = List.replicate (prN bs) false := by
  rw [List.eq_replicate_iff]
  refine ⟨plM_len bs 0, fun x hx => ?_⟩
  obtain ⟨i, _, rfl⟩ := List.mem_map.1 hx
  simp
theorem plM_all (bs : List Nat) : plM bs (prN bs) = prL bs := by
  unfold plM prL
  refine List.map_congr_left fun i hi => ?_
  rw [decide_eq_true (List.mem_range.1 hi), Bool.true_and]
theorem plM_get {bs : List Nat} {t i : Nat} (h : i < (plM bs t).length) : (plM bs t)[i] = (decide (i < t) && (bs.getD (prP bs + i / 8) 0).testBit (i % 8)) := by simp [plM]
theorem plM_set (bs : List Nat) {t : Nat} (_ht : t < prN bs) : (plM bs t).set t ((bs.getD (prP bs + t / 8) 0).testBit (t % 8)) = plM bs (t + 1) := by
  apply List.ext_getElem
  · rw [List.length_set, plM_len, plM_len]
  · intro i h1 h2
    rw [List.getElem_set, plM_get h2]
    by_cases h : t = i
    · subst h
      rw [if_pos rfl, decide_eq_true (by omega), Bool.true_and]
    · rw [if_neg h, plM_get]
      congr 1
      apply Bool.eq_iff_iff.2
      rw [decide_eq_true_iff, decide_eq_true_iff]
      omega
theorem bit_int (y s u : Nat) (hu : u = y / 2 ^ s &&& 1) : ((u : Int) == 1) = y.testBit s := by
  rw [Nat.testBit_eq_decide_div_mod_eq, ← Nat.and_one_is_mod, ← hu]
  apply Bool.eq_iff_iff.2
  rw [beq_iff_eq, decide_eq_true_iff]
  omega
end Go.Inc
namespace Go.Proofs.Ytjcapiibeekfkaa
open Go.RowKit Go.Inc
set_option maxRecDepth 20000 in
set_option maxHeartbeats 8000000 in
/-- RankParses, where the bytes are a row's. -/
theorem rankParses_good {Rk : World → Nat → List Bool → (Nat → Prop) → Prop} (pr : PR Rk) (W : World) (a : Option Addr) (c : Nat) (bs0 bs : List Nat) (hs : Sl (fun _ => True) W a bs0) (hby0 : Bytes bs0) (hlc : bs0.length ≤ c) (hcm : c ≤ maxLen) (hn : a = none → c = 0) (hbs : bs = bs0.take 200) (hE : prE bs = 0) :
    Calls Try.prog 5 #[.slice a bs0.length c] W fun e w' => e = .returned (.bool true) ∧ Below W.heap.size W w' := by
  have hm9 : maxLen ≤ 9223372036854775807 := by unfold maxLen; omega
  have HS : Hid (Sl (fun i => i < W.heap.size) W a bs) := hid (by rw [hbs]; exact (hs.front 200).mono fun _ _ h => h)
  have hby : Bytes bs := fun x hx => hby0 x (by rw [hbs] at hx; exact List.mem_of_mem_take hx)
  have HBY := hid hby
  obtain ⟨L, hL⟩ : ∃ L, L = bs0.length := ⟨_, rfl⟩
  obtain ⟨nb, hnb⟩ : ∃ nb, nb = bs.length := ⟨_, rfl⟩
  have hmin : min (L : Int) 200 = (nb : Int) := by rw [hnb, hbs, List.length_take]; omega
  have hL0 : (0 : Int) ≤ L := by omega
  have hmL : (nb : Int) ≤ L := by omega
  have hmc : (nb : Int) ≤ c := by omega
  have hcb : (c : Int) ≤ 9223372036854775807 := by omega
  have hn200 : (nb : Int) ≤ 200 := by omega
  have HNB := hid hnb
  have hpp := pr.pParse _ W a c bs HS.out ⟨by omega, hcm⟩ hn hby (by omega) hE
  rw [← hnb] at hpp
  have hgt := fun y (hy : Below W.heap.size W y) => refGet_any _ a c 0 9223372036854775807 0 bs y (HS.out.below hy) hby (Nat.zero_le _) (by omega) (by omega) rfl
  unfold RefAns at hgt
  simp only [List.drop_zero, Nat.zero_add] at hgt
  rw [← hnb] at hgt
  have HGT := hid hgt
  have hple : prP bs ≤ nb := by rw [hnb]; exact Var.pos_le _ _
  obtain ⟨E, hEr⟩ : ∃ E, E = Var.err 9223372036854775807 bs := ⟨_, rfl⟩
  obtain ⟨V, hV⟩ : ∃ V, V = prN bs := ⟨_, rfl⟩
  obtain ⟨P, hP⟩ : ∃ P, P = prP bs := ⟨_, rfl⟩
  obtain ⟨Z, hZ⟩ : ∃ Z, Z = (V + 7) / 8 := ⟨_, rfl⟩
  have hPS : prS bs = P + Z := by unfold prS; rw [hZ, hV, hP]
  have HPS := hid hPS
  have HV := hid hV
  have HP := hid hP
  have HEE := hid hEr
  have HZ := hid hZ
  rw [show Var.val 9223372036854775807 bs = V from hV.symm, show Var.pos 9223372036854775807 bs = P from hP.symm, ← hEr] at HGT
  rw [← hP] at hple
  have hple2 : (P : Int) ≤ nb := by omega
  rw [← hL]
  have hcase : E = 0 ∧ V ≤ 65536 ∧ P + Z ≤ nb ∧ rowBs (prL bs) = bs.take (P + Z) := by
    unfold prE at hE
    rw [← hEr, ← hV, hPS, ← hnb] at hE
    split at hE
    · rename_i h; exact absurd hE h
    · rename_i h
      split at hE
      · omega
      · split at hE
        · omega
        · split at hE
          · rename_i h2 h3 h4; exact ⟨by omega, by omega, by omega, h4⟩
          · omega
  obtain ⟨rfl, hVb, hPZb, hgood⟩ := hcase
  have HGOOD := hid hgood
  rw [hPS] at hpp
  obtain ⟨nr, hnr⟩ : ∃ nr, nr = (bs.drop (P + Z)).length := ⟨_, rfl⟩
  rw [← hnr] at hpp
  have HPP := hid hpp
  have HNR := hid hnr
  have hVi : (V : Int) ≤ 65536 := by omega
  have hVw : IntKind.i64.wrap (V : Int) = (V : Int) := by rw [IntKind.wrap_i64]; omega
  have hZ1 : ((V : Int) + 7) / 8 = (Z : Int) := by omega
  have hZt : Int.tdiv ((V : Int) + 7) 8 = (Z : Int) := by rw [Int.tdiv_eq_ediv_of_nonneg (by omega)]; exact hZ1
  have hZn : ¬ ((nb : Int) - (P : Int) < (Z : Int)) := by omega
  have HCM := hid hcm
  have HLN : Hid ((bs.drop (P + Z)).length = nb - (P + Z)) := hid (by rw [List.length_drop, ← hnb])
  clear hs hby0 hlc hcm hn hbs hE hby hL hnb hpp hgt hEr hV hP hZ hPS hgood hnr
  go_enter Try.func5, Try.ntmps5
  go_wp2_with fail
  refine HPP.out.mono ?_
  rintro e y1 ⟨b, S, au, cu, rfl, hr, hs, hsl, hb1⟩
  have HR := hid hr
  have HG := hid hs
  have HSL := hid hsl
  have HB1 := hid hb1
  have HS1 := hid (HS.out.below hb1)
  have HGT1 := hid (HGT.out y1 hb1)
  have HWY : Hid (W.heap.size ≤ y1.heap.size) := hid hb1.size
  clear hr hs hsl hb1 HPP HGT HS
  go_wp2_with fail
  refine HGT1.out.mono ?_
  rintro e y1 ⟨rfl, rfl⟩
  clear HGT1
  obtain ⟨i0, hi, hz0, hz1, hz2⟩ := info_parts infoBool
  have HI := hid (And.intro hi (And.intro hz0 (And.intro hz1 hz2)))
  obtain ⟨B, hB⟩ : ∃ B, B = y1.heap.size := ⟨_, rfl⟩
  have HBE := hid hB
  clear hi hz0 hz1 hz2 hB
  go_wp2_with (refine wpList_make_full _ rfl _ _ 23 rfl B 4 i0 (.bool false) 1 Try.underlying23 HI.out.1 HI.out.2.1 HI.out.2.2.1 .i64 .i64 _ _ V rfl rfl rfl rfl (by rw [HI.out.2.2.2]; omega) (by unfold maxLen; omega) (by rw [HBE.out]; exact Nat.le_refl _) ?_)
  intro w1 hown hg
  have HR1 : Hid (w1.ownsRow B 4 1 (.slice (some ⟨y1.heap.size, 0, none⟩) V V) V (bvals (plM bs 0))) := hid (by rw [plM_zero, ← HV.out]; rw [bvals_zeros V] at hown; exact hown)
  have HBW1 : Hid (Below B y1 w1) := hid ⟨hg.os, hg.tape, hg.output, hg.size, fun i hi => hg.block i (by rw [HBE.out] at hi; exact hi) (by simp)⟩
  clear hown hg HI
  obtain ⟨g, hg⟩ : ∃ g, g = y1.heap.size := ⟨_, rfl⟩
  rw [← hg] at HR1 ⊢
  clear hg
  go_wp2_with fail
  go_loopw [11] (fun i wr => ∃ t : Nat, t ≤ V ∧ i = .int .i64 (t : Int) ∧ wr.ownsRow B 4 1 (.slice (some ⟨g, 0, none⟩) V V) V (bvals (plM bs t)) ∧ Below B y1 wr) (fun i _ => V - (intOf i).toNat)
  case atStart => exact ⟨0, Nat.zero_le _, rfl, HR1.out, HBW1.out⟩
  case round =>
    clear HR1 HBW1
    obtain ⟨t, ht, rfl, hr, hb⟩ := hrel
    have HRW := hid hr
    have HB := hid hb
    clear hr hb
    by_cases hlt : (t : Int) < V
    · have HTL : Hid (t < V) := hid (by omega)
      obtain ⟨q, hq⟩ : ∃ q, q = t / 8 := ⟨_, rfl⟩
      obtain ⟨r, hr⟩ : ∃ r, r = P + q := ⟨_, rfl⟩
      have hrL : r < nb := by
        have h1 := HZ.out
        have h2 := HTL.out
        omega
      obtain ⟨b0, o0, rfl, hc⟩ : ∃ b0 o0, a = some ⟨b0, o0, none⟩ ∧ wr.cell? ⟨b0, o0 + r, none⟩ = some (.int .u8 ((bs.getD r 0 : Nat) : Int)) := by
        rcases (HS1.out.kept (w' := wr) fun i _ hi => HB.out.block i (by rw [HBE.out]; exact hi)) with h | ⟨b0, o0, h, _, hc⟩
        · have := HNB.out; rw [h] at this; simp at this; omega
        · exact ⟨b0, o0, h, hc r (by rw [← HNB.out]; exact hrL)⟩
      have hby := HBY.out.getD r
      have HST := hid (plM_set bs (t := t) (by rw [← HV.out]; exact HTL.out))
      rw [← HP.out, ← hq, ← hr] at HST
      obtain ⟨y, hy⟩ : ∃ y, y = bs.getD r 0 := ⟨_, rfl⟩
      rw [← hy] at hc hby HST
      obtain ⟨s, hs⟩ : ∃ s, s = t % 8 := ⟨_, rfl⟩
      rw [← hs] at HST
      obtain ⟨v, hv⟩ : ∃ v, v = y / 2 ^ s := ⟨_, rfl⟩
      obtain ⟨u, hu⟩ : ∃ u, u = v &&& 1 := ⟨_, rfl⟩
      have hvy : v ≤ y := by rw [hv]; exact Nat.div_le_self _ _
      have hub := bit_int y s u (by rw [hu, hv])
      rw [← hub] at HST
      have f1 : (y : Int) / 2 ^ s = (v : Int) := by rw [hv]; simp
      have f2 : bits .and .u8 (v : Int) 1 = (u : Int) := by
        have key : ∀ n : Fin 256, bits .and .u8 (n.val : Int) 1 = ((n.val &&& 1 : Nat) : Int) := by decide +kernel
        rw [hu]; exact key ⟨v, by omega⟩
      have hq8 : (t : Int) / 8 = (q : Int) := by omega
      have hqt : Int.tdiv (t : Int) 8 = (q : Int) := by rw [Int.tdiv_eq_ediv_of_nonneg (by omega)]; exact hq8
      have hs8 : (t : Int) % 8 = (s : Int) := by omega
      have hst : Int.tmod (t : Int) 8 = (s : Int) := by rw [Int.tmod_eq_emod_of_nonneg (by omega)]; exact hs8
      have hrr : (P : Int) + (q : Int) = (r : Int) := by omega
      have hrLi : (r : Int) < (nb : Int) := by omega
      have hrL2 : (r < nb) = True := eq_true hrL
      have hsb : (s : Int) < 8 := by omega
      have hvb : (v : Int) < 256 := by omega
      have htb : (t : Int) < 65536 := by omega
      have htN : (t < V) = True := eq_true HTL.out
      have HNEW : Hid ((wr.setCell ⟨g, t, none⟩ (.bool ((u : Int) == 1))).ownsRow B 4 1 (.slice (some ⟨g, 0, none⟩) V V) V (bvals (plM bs (t + 1))) ∧ Below B y1 (wr.setCell ⟨g, t, none⟩ (.bool ((u : Int) == 1)))) := hid (by
        have h := HRW.out.stored t (.bool ((u : Int) == 1))
        rw [bvals_set, HST.out] at h
        exact ⟨h.1, below_grown HB.out h.2 (HRW.out.lt g rfl).1 (by have := HB.out.size; rw [HBE.out]; exact this)⟩)
      have j3 : wr.cell? ⟨g, t, none⟩ = some (.bool (inB (plM bs t) t)) := by
        have h := HRW.out.cells (g := g) rfl t _ (bvals_get (by rw [plM_len, ← HV.out]; exact HTL.out))
        rw [Addr.add_lit] at h
        simpa using h
      have jf := HRW.out.frozenAt t
      have htw : IntKind.i64.wrap (t : Int) = (t : Int) := by rw [IntKind.wrap_i64]; omega
      generalize inB (plM bs t) t = old at *
      clear hub HST
      generalize hub : ((u : Int) == 1) = ub at *
      clear hq hr hrL hy hs hv hu hvy hlt HRW HB
      go_wp2_with fail
      go_roundw
      case rel => exact ⟨t + 1, HTL.out, by go_num, HNEW.out.1, HNEW.out.2⟩
      case measure => simp [intOf]; have := HTL.out; omega
    · have hte : t = V := by omega
      have htN : (t < V) = False := eq_false (by omega)
      have HR2 : Hid (wr.ownsRow B 4 1 (.slice (some ⟨g, 0, none⟩) V V) V (bvals (prL bs))) := hid (by rw [← show plM bs t = prL bs from by rw [hte, HV.out, plM_all]]; exact HRW.out)
      have HB2 := hid HB.out
      clear hlt HRW HB hte
      have hbl : Bl (fun i => B ≤ i) wr (some ⟨g, 0, none⟩) (prL bs) := by
        obtain ⟨a1, c1, hv, -, -, -, -, hbl⟩ := Bl.owned HR2.out
        simp only [Value.slice.injEq] at hv
        obtain ⟨rfl, -, -⟩ := hv
        exact hbl
      have hsl2 : Sl (fun i => i < y1.heap.size) wr a bs := (HS1.out.kept (w' := wr) fun i _ hi => HB2.out.block i (by rw [HBE.out]; exact hi)).mono fun i hi _ => Nat.lt_of_lt_of_le hi HWY.out
      have HBL2 := hid hbl
      have HSL2 := hid hsl2
      have hRB : Hid (∀ y, Below wr.heap.size wr y → Calls Try.prog 25 #[.slice (some ⟨g, 0, none⟩) V V] y fun e w' => ∃ u, e = .returned u ∧ Row 5 y.heap.size w' u (rowBs (prL bs)) ∧ Below y.heap.size y w') := hid fun y hy => by
        have h := refBytes_any _ y (some ⟨g, 0, none⟩) V (prL bs) (HBL2.out.below hy) (by rw [prL_len, ← HV.out]; omega)
        rw [prL_len, ← HV.out] at h
        exact h
      have hSM : Hid (∀ y v, Below wr.heap.size wr y → Row 5 0 y v (rowBs (prL bs)) → Calls Try.prog 24 #[v, .slice a (P + Z) c] y fun e w' => e = .returned (.bool (decide (rowBs (prL bs) = bs.take (P + Z)))) ∧ Below y.heap.size y w') := hid fun y v hy hv => by
        obtain ⟨av, cv, rfl, -, -, -, hsv⟩ := Row.sl hv
        have h := same_any _ _ av a cv c _ (bs.take (P + Z)) y hsv ((HSL2.out.below hy).front (P + Z)) (by
          rw [rowBs_len, prL_len, ← HV.out]
          have := Var.put_ten (n := V) (by omega)
          omega)
        rw [List.length_take, show min (P + Z) bs.length = P + Z from by rw [← HNB.out]; omega] at h
        exact h
      have hPZ : (P : Int) + (Z : Int) ≤ nb := by omega
      obtain ⟨T, hT⟩ : ∃ T, T = decide (rowBs (prL bs) = bs.take (P + Z)) := ⟨_, rfl⟩
      rw [← hT] at hSM
      have HT := hid hT
      have hbw := Hid.out HB2
      clear hbl hsl2 hT hbw
      obtain ⟨R, hR⟩ : ∃ R, R = P + Z := ⟨_, rfl⟩
      have hRi : (P : Int) + (Z : Int) = (R : Int) := by omega
      have hRn : (R : Int) ≤ nb := by omega
      have hRc : (R : Int) ≤ c := by omega
      have hRw : IntKind.i64.wrap (R : Int) = (R : Int) := by rw [IntKind.wrap_i64]; omega
      have HRZ := hid hR
      rw [← hR] at hSM HT
      clear hR
      go_wp2_with fail
      refine wp_region_grows 9 [EqR (.slice (some ⟨g, 0, none⟩) V V), fun w v => Row 5 0 w v (rowBs (prL bs)), EqR (.slice a nb c), EqR (.int .i64 (P : Int)), EqR (.int .i64 (Z : Int)), EqR (.int .i64 (R : Int)), EqR (.slice a R c), EqR (.bool T), EqR (.bool (!T))] (by kernel_rfl) (by decide) (by kernel_rfl) ?_ ?_ ?_
      · repeat' (first | exact List.forall_mem_nil _ | refine List.forall_mem_cons.2 ⟨?_, ?_⟩)
        all_goals
          intro w w' v hw h
          first | exact h | exact Row.kept h hw
      · simp only [AllLt]
        refine ⟨⟨⟨⟨⟨⟨⟨⟨⟨trivial, ?_⟩, ?_⟩, ?_⟩, ?_⟩, ?_⟩, ?_⟩, ?_⟩, ?_⟩, ?_⟩
        all_goals
          intro o' ho
          simp at ho
          subst ho
          intro ρ w5 hR hL hS hG
          obtain ⟨hl1, hl2, -⟩ := hL
        · refine plainG rfl ?_
          intro bA K Q' hK
          have e10 := hS 10 (by kernel_rfl)
          change ρ (.tmp 10) = _ at e10
          simp only [execOp]
          go_simp
          exact hK _ _ rfl (Grew.refl _)
        · refine plainG rfl ?_
          intro bA K Q' hK
          have e95 := hG 0 95 (by decide) (by kernel_rfl) (by kernel_rfl)
          change ρ (.tmp 95) = _ at e95
          simp only [execOp]
          go_simp
          refine (hRB.out w5 ⟨hR.os, hR.tape, hR.output, hR.size, hR.block⟩).mono ?_
          rintro r9 w9 ⟨v9, rfl, hv9, hb9⟩
          exact hK _ _ (Row.weaken hv9 (Nat.zero_le _)) hb9
        · refine plainG rfl ?_
          intro bA K Q' hK
          have e0 := hS 0 (by kernel_rfl)
          change ρ (.tmp 0) = _ at e0
          simp only [execOp]
          go_simp
          exact hK _ _ rfl (Grew.refl _)
        · refine plainG rfl ?_
          intro bA K Q' hK
          have e7 := hS 7 (by kernel_rfl)
          change ρ (.tmp 7) = _ at e7
          simp only [execOp]
          go_simp
          exact hK _ _ rfl (Grew.refl _)
        · refine plainG rfl ?_
          intro bA K Q' hK
          have e9 := hS 9 (by kernel_rfl)
          change ρ (.tmp 9) = _ at e9
          simp only [execOp]
          go_simp
          exact hK _ _ rfl (Grew.refl _)
        · refine plainG rfl ?_
          intro bA K Q' hK
          have e98 := hG 3 98 (by decide) (by kernel_rfl) (by kernel_rfl)
          have e99 := hG 4 99 (by decide) (by kernel_rfl) (by kernel_rfl)
          change ρ (.tmp 98) = _ at e98
          change ρ (.tmp 99) = _ at e99
          simp only [execOp]
          go_simp
          exact hK _ _ rfl (Grew.refl _)
        · refine plainG rfl ?_
          intro bA K Q' hK
          have e97 := hG 2 97 (by decide) (by kernel_rfl) (by kernel_rfl)
          have e100 := hG 5 100 (by decide) (by kernel_rfl) (by kernel_rfl)
          change ρ (.tmp 97) = _ at e97
          change ρ (.tmp 100) = _ at e100
          simp only [execOp]
          go_simp
          exact hK _ _ rfl (Grew.refl _)
        · refine plainG rfl ?_
          intro bA K Q' hK
          have e96 := hG 1 96 (by decide) (by kernel_rfl) (by kernel_rfl)
          have e101 := hG 6 101 (by decide) (by kernel_rfl) (by kernel_rfl)
          change Row _ _ _ (ρ (.tmp 96)) _ at e96
          change ρ (.tmp 101) = _ at e101
          obtain ⟨v96, hv96⟩ : ∃ v, v = ρ (.tmp 96) := ⟨_, rfl⟩
          rw [← hv96] at e96
          have e96b := hv96.symm
          clear hv96
          have hCS := hSM.out w5 v96 ⟨hR.os, hR.tape, hR.output, hR.size, hR.block⟩ e96
          simp only [execOp]
          go_simp
          refine hCS.mono ?_
          rintro r9 w9 ⟨rfl, hb9⟩
          exact hK _ _ rfl hb9
        · refine plainG rfl ?_
          intro bA K Q' hK
          have e102 := hG 7 102 (by decide) (by kernel_rfl) (by kernel_rfl)
          change ρ (.tmp 102) = _ at e102
          simp only [execOp]
          go_simp
          exact hK _ _ rfl (Grew.refl _)
      · intro vv w2 hR hG
        have h8 : vv 8 = .bool (!T) := hG.2
        have hb2 : Below wr.heap.size wr w2 := ⟨hR.os, hR.tape, hR.output, hR.size, hR.block⟩
        have HB3 := hid hb2
        clear hG hR hb2 hRB hSM
        simp [stG, stU, dstAt, Act.put, h8]
        clear h8
        have HTT : T = true := by rw [HT.out, HRZ.out]; exact decide_eq_true HGOOD.out
        subst HTT
        have HKA := hid (pr.below (pr.below (Kp.start HR.out) (by rw [← HBE.out]; exact HB2.out)) HB3.out)
        have hkn : ∀ i, B ≤ i → ¬ S i := fun i hi hh => by
          have h := pr.lt HR.out i hh
          have h2 := HBE.out
          omega
        have HKN := hid hkn
        clear HT HGOOD HR2 HSL2 hkn
        go_wp2_with fail
        refine (known_any pr w2).mono ?_
        rintro e w3 ⟨rfl, hb3⟩
        have HKB := hid (pr.below HKA.out hb3)
        have htl := tells_any pr _ w3 b (prL bs) S (some ⟨g, 0, none⟩) V HKB.out.rk ((HBL2.out.below HB3.out).below hb3) HKN.out
        rw [prL_len, ← HV.out] at htl
        have HTL := hid htl
        clear hb3 HKA HBL2 HKN htl
        go_wp2_with fail
        refine HTL.out.mono ?_
        rintro e w4 ⟨S4, rfl, k4⟩
        have HKC := hid (HKB.out.trans k4)
        have HSR := hid (HKC.out.held_sl HSL.out fun i hi => hi)
        have HSB := hid (HKC.out.held_sl HS1.out fun i hi hh => absurd (HG.out i hh) (by omega))
        have HBYC := hid (HKC.out.belowW HB1.out HG.out)
        have hsame : ∀ a' c', (R < nb → a' = a.map (·.add R)) → Calls Try.prog 24 #[.slice au nr cu, .slice a' (nb - R) c'] w4 fun e w' => e = .returned (.bool true) ∧ Below w4.heap.size w4 w' := fun a' c' ha => by
          have hb := HSB.out.behind R a' (fun hk => ha (by rw [HNB.out]; exact hk))
          have h := same_any _ _ au a' cu c' (bs.drop (P + Z)) (bs.drop R) w4 HSR.out hb (by rw [← HNR.out, HNR.out, HLN.out]; omega)
          rw [HRZ.out, decide_eq_true rfl, ← HNR.out] at h
          rw [show nb - R = nr from by rw [HNR.out, HLN.out, HRZ.out]]
          exact h
        have HSAME := hid hsame
        clear k4 HTL HKB HSR HSB HSL HS1 HKC hsame
        go_wp2_with fail
        all_goals
          refine (HSAME.out _ _ (by intro hh; first | rfl | (exfalso; omega))).mono ?_
          rintro e w5 ⟨rfl, hb5⟩
          have HB5 := hid (HBYC.out.trans (hb5.mono HBYC.out.size))
          clear hb5 HSAME
          go_wp2_with fail
          go_ret
          exact ⟨rfl, HB5.out⟩
set_option maxRecDepth 20000 in
set_option maxHeartbeats 8000000 in
/-- RankParses, where the bytes are no row's. -/
theorem rankParses_bad {Rk : World → Nat → List Bool → (Nat → Prop) → Prop} (pr : PR Rk) (W : World) (a : Option Addr) (c : Nat) (bs0 bs : List Nat) (hs : Sl (fun _ => True) W a bs0) (hby0 : Bytes bs0) (hlc : bs0.length ≤ c) (hcm : c ≤ maxLen) (hn : a = none → c = 0) (hbs : bs = bs0.take 200) (hE : prE bs ≠ 0) :
    Calls Try.prog 5 #[.slice a bs0.length c] W fun e w' => e = .returned (.bool true) ∧ Below W.heap.size W w' := by
  have hm9 : maxLen ≤ 9223372036854775807 := by unfold maxLen; omega
  have HS : Hid (Sl (fun i => i < W.heap.size) W a bs) := hid (by rw [hbs]; exact (hs.front 200).mono fun _ _ h => h)
  have hby : Bytes bs := fun x hx => hby0 x (by rw [hbs] at hx; exact List.mem_of_mem_take hx)
  have HBY := hid hby
  obtain ⟨L, hL⟩ : ∃ L, L = bs0.length := ⟨_, rfl⟩
  obtain ⟨nb, hnb⟩ : ∃ nb, nb = bs.length := ⟨_, rfl⟩
  have hmin : min (L : Int) 200 = (nb : Int) := by rw [hnb, hbs, List.length_take]; omega
  have hL0 : (0 : Int) ≤ L := by omega
  have hmL : (nb : Int) ≤ L := by omega
  have hmc : (nb : Int) ≤ c := by omega
  have hcb : (c : Int) ≤ 9223372036854775807 := by omega
  have hn200 : (nb : Int) ≤ 200 := by omega
  have HNB := hid hnb
  have hpp := pr.pParseBad _ W a c bs HS.out ⟨by omega, hcm⟩ hn hby (by omega) hE
  rw [← hnb] at hpp
  have hgt := fun y (hy : Below W.heap.size W y) => refGet_any _ a c 0 9223372036854775807 0 bs y (HS.out.below hy) hby (Nat.zero_le _) (by omega) (by omega) rfl
  unfold RefAns at hgt
  simp only [List.drop_zero, Nat.zero_add] at hgt
  rw [← hnb] at hgt
  have HGT := hid hgt
  have hple : prP bs ≤ nb := by rw [hnb]; exact Var.pos_le _ _
  obtain ⟨E, hEr⟩ : ∃ E, E = Var.err 9223372036854775807 bs := ⟨_, rfl⟩
  obtain ⟨V, hV⟩ : ∃ V, V = prN bs := ⟨_, rfl⟩
  obtain ⟨P, hP⟩ : ∃ P, P = prP bs := ⟨_, rfl⟩
  obtain ⟨Z, hZ⟩ : ∃ Z, Z = (V + 7) / 8 := ⟨_, rfl⟩
  have hPS : prS bs = P + Z := by unfold prS; rw [hZ, hV, hP]
  have HPS := hid hPS
  have HV := hid hV
  have HP := hid hP
  have HEE := hid hEr
  have HZ := hid hZ
  rw [show Var.val 9223372036854775807 bs = V from hV.symm, show Var.pos 9223372036854775807 bs = P from hP.symm, ← hEr] at HGT
  rw [← hP] at hple
  have hple2 : (P : Int) ≤ nb := by omega
  rw [← hL]
  have hpe : prE bs = if E ≠ 0 then E else if 65536 < V then 3 else if nb < P + Z then 4 else if rowBs (prL bs) = bs.take (P + Z) then 0 else 3 := by
    unfold prE
    rw [← hEr, ← hV, hPS, ← hnb]
  obtain ⟨D, hD⟩ : ∃ D, D = prE bs := ⟨_, rfl⟩
  rw [← hD] at hpp hpe hE
  have HPP := hid hpp
  have HPE := hid hpe
  have HEN := hid hE
  clear hs hby0 hlc hcm hn hbs hE hby hL hnb hpp hgt hEr hV hP hZ hPS hpe hD
  go_enter Try.func5, Try.ntmps5
  go_wp2_with fail
  refine HPP.out.mono ?_
  rintro e y1 ⟨ux, rfl, hb1⟩
  have HB1 := hid hb1
  have HS1 := hid (HS.out.below hb1)
  have HGT1 := hid (HGT.out y1 hb1)
  have HWY : Hid (W.heap.size ≤ y1.heap.size) := hid hb1.size
  clear hb1 HPP HGT HS
  go_wp2_with fail
  refine HGT1.out.mono ?_
  rintro e y1 ⟨rfl, rfl⟩
  clear HGT1
  by_cases hE0 : E = 0
  · subst hE0
    by_cases hV0 : 65536 < V
    · have hD3 : D = 3 := by rw [HPE.out, if_neg (by omega), if_pos hV0]
      subst hD3
      have hVi : (65536 : Int) < V := by omega
      go_wp2_with fail
      refine (known_any pr y1).mono ?_
      rintro e w9 ⟨rfl, hb9⟩
      have HB9 := hid (HB1.out.trans (hb9.mono HB1.out.size))
      clear hb9
      go_wp2_with fail
      go_ret
      exact ⟨rfl, HB9.out⟩
    · have hVi : (V : Int) ≤ 65536 := by omega
      have hVb : V ≤ 65536 := by omega
      have hVw : IntKind.i64.wrap (V : Int) = (V : Int) := by rw [IntKind.wrap_i64]; omega
      have hZ1 : ((V : Int) + 7) / 8 = (Z : Int) := by have := HZ.out; omega
      have hZt : Int.tdiv ((V : Int) + 7) 8 = (Z : Int) := by rw [Int.tdiv_eq_ediv_of_nonneg (by omega)]; exact hZ1
      by_cases hsh : nb < P + Z
      · have hD4 : D = 4 := by rw [HPE.out, if_neg (by omega), if_neg hV0, if_pos hsh]
        subst hD4
        have hZn : (nb : Int) - (P : Int) < (Z : Int) := by omega
        go_wp2_with fail
        refine (known_any pr y1).mono ?_
        rintro e w9 ⟨rfl, hb9⟩
        have HB9 := hid (HB1.out.trans (hb9.mono HB1.out.size))
        clear hb9
        go_wp2_with fail
        go_ret
        exact ⟨rfl, HB9.out⟩
      · have hbr : D = 3 ∧ rowBs (prL bs) ≠ bs.take (P + Z) := by
          have h := HPE.out
          rw [if_neg (by omega), if_neg hV0, if_neg hsh] at h
          split at h
          · exact absurd h HEN.out
          · rename_i h2; exact ⟨h, h2⟩
        obtain ⟨rfl, hbr⟩ := hbr
        have HBADR := hid hbr
        have hPZb : P + Z ≤ nb := by omega
        have hZn : ¬ ((nb : Int) - (P : Int) < (Z : Int)) := by omega
        clear hbr hV0 hsh HPE HEN
        obtain ⟨i0, hi, hz0, hz1, hz2⟩ := info_parts infoBool
        have HI := hid (And.intro hi (And.intro hz0 (And.intro hz1 hz2)))
        obtain ⟨B, hB⟩ : ∃ B, B = y1.heap.size := ⟨_, rfl⟩
        have HBE := hid hB
        clear hi hz0 hz1 hz2 hB
        go_wp2_with (refine wpList_make_full _ rfl _ _ 23 rfl B 4 i0 (.bool false) 1 Try.underlying23 HI.out.1 HI.out.2.1 HI.out.2.2.1 .i64 .i64 _ _ V rfl rfl rfl rfl (by rw [HI.out.2.2.2]; omega) (by unfold maxLen; omega) (by rw [HBE.out]; exact Nat.le_refl _) ?_)
        intro w1 hown hg
        have HR1 : Hid (w1.ownsRow B 4 1 (.slice (some ⟨y1.heap.size, 0, none⟩) V V) V (bvals (plM bs 0))) := hid (by rw [plM_zero, ← HV.out]; rw [bvals_zeros V] at hown; exact hown)
        have HBW1 : Hid (Below B y1 w1) := hid ⟨hg.os, hg.tape, hg.output, hg.size, fun i hi => hg.block i (by rw [HBE.out] at hi; exact hi) (by simp)⟩
        clear hown hg HI
        obtain ⟨g, hg⟩ : ∃ g, g = y1.heap.size := ⟨_, rfl⟩
        rw [← hg] at HR1 ⊢
        clear hg
        go_wp2_with fail
        go_loopw [11] (fun i wr => ∃ t : Nat, t ≤ V ∧ i = .int .i64 (t : Int) ∧ wr.ownsRow B 4 1 (.slice (some ⟨g, 0, none⟩) V V) V (bvals (plM bs t)) ∧ Below B y1 wr) (fun i _ => V - (intOf i).toNat)
        case atStart => exact ⟨0, Nat.zero_le _, rfl, HR1.out, HBW1.out⟩
        case round =>
          clear HR1 HBW1
          obtain ⟨t, ht, rfl, hr, hb⟩ := hrel
          have HRW := hid hr
          have HB := hid hb
          clear hr hb
          by_cases hlt : (t : Int) < V
          · have HTL : Hid (t < V) := hid (by omega)
            obtain ⟨q, hq⟩ : ∃ q, q = t / 8 := ⟨_, rfl⟩
            obtain ⟨r, hr⟩ : ∃ r, r = P + q := ⟨_, rfl⟩
            have hrL : r < nb := by
              have h1 := HZ.out
              have h2 := HTL.out
              omega
            obtain ⟨b0, o0, rfl, hc⟩ : ∃ b0 o0, a = some ⟨b0, o0, none⟩ ∧ wr.cell? ⟨b0, o0 + r, none⟩ = some (.int .u8 ((bs.getD r 0 : Nat) : Int)) := by
              rcases (HS1.out.kept (w' := wr) fun i _ hi => HB.out.block i (by rw [HBE.out]; exact hi)) with h | ⟨b0, o0, h, _, hc⟩
              · have := HNB.out; rw [h] at this; simp at this; omega
              · exact ⟨b0, o0, h, hc r (by rw [← HNB.out]; exact hrL)⟩
            have hby := HBY.out.getD r
            have HST := hid (plM_set bs (t := t) (by rw [← HV.out]; exact HTL.out))
            rw [← HP.out, ← hq, ← hr] at HST
            obtain ⟨y, hy⟩ : ∃ y, y = bs.getD r 0 := ⟨_, rfl⟩
            rw [← hy] at hc hby HST
            obtain ⟨s, hs⟩ : ∃ s, s = t % 8 := ⟨_, rfl⟩
            rw [← hs] at HST
            obtain ⟨v, hv⟩ : ∃ v, v = y / 2 ^ s := ⟨_, rfl⟩
            obtain ⟨u, hu⟩ : ∃ u, u = v &&& 1 := ⟨_, rfl⟩
            have hvy : v ≤ y := by rw [hv]; exact Nat.div_le_self _ _
            have hub := bit_int y s u (by rw [hu, hv])
            rw [← hub] at HST
            have f1 : (y : Int) / 2 ^ s = (v : Int) := by rw [hv]; simp
            have f2 : bits .and .u8 (v : Int) 1 = (u : Int) := by
              have key : ∀ n : Fin 256, bits .and .u8 (n.val : Int) 1 = ((n.val &&& 1 : Nat) : Int) := by decide +kernel
              rw [hu]; exact key ⟨v, by omega⟩
            have hq8 : (t : Int) / 8 = (q : Int) := by omega
            have hqt : Int.tdiv (t : Int) 8 = (q : Int) := by rw [Int.tdiv_eq_ediv_of_nonneg (by omega)]; exact hq8
            have hs8 : (t : Int) % 8 = (s : Int) := by omega
            have hst : Int.tmod (t : Int) 8 = (s : Int) := by rw [Int.tmod_eq_emod_of_nonneg (by omega)]; exact hs8
            have hrr : (P : Int) + (q : Int) = (r : Int) := by omega
            have hrLi : (r : Int) < (nb : Int) := by omega
            have hrL2 : (r < nb) = True := eq_true hrL
            have hsb : (s : Int) < 8 := by omega
            have hvb : (v : Int) < 256 := by omega
            have htb : (t : Int) < 65536 := by omega
            have htN : (t < V) = True := eq_true HTL.out
            have HNEW : Hid ((wr.setCell ⟨g, t, none⟩ (.bool ((u : Int) == 1))).ownsRow B 4 1 (.slice (some ⟨g, 0, none⟩) V V) V (bvals (plM bs (t + 1))) ∧ Below B y1 (wr.setCell ⟨g, t, none⟩ (.bool ((u : Int) == 1)))) := hid (by
              have h := HRW.out.stored t (.bool ((u : Int) == 1))
              rw [bvals_set, HST.out] at h
              exact ⟨h.1, below_grown HB.out h.2 (HRW.out.lt g rfl).1 (by have := HB.out.size; rw [HBE.out]; exact this)⟩)
            have j3 : wr.cell? ⟨g, t, none⟩ = some (.bool (inB (plM bs t) t)) := by
              have h := HRW.out.cells (g := g) rfl t _ (bvals_get (by rw [plM_len, ← HV.out]; exact HTL.out))
              rw [Addr.add_lit] at h
              simpa using h
            have jf := HRW.out.frozenAt t
            have htw : IntKind.i64.wrap (t : Int) = (t : Int) := by rw [IntKind.wrap_i64]; omega
            generalize inB (plM bs t) t = old at *
            clear hub HST
            generalize hub : ((u : Int) == 1) = ub at *
            clear hq hr hrL hy hs hv hu hvy hlt HRW HB
            go_wp2_with fail
            go_roundw
            case rel => exact ⟨t + 1, HTL.out, by go_num, HNEW.out.1, HNEW.out.2⟩
            case measure => simp [intOf]; have := HTL.out; omega
          · have hte : t = V := by omega
            have htN : (t < V) = False := eq_false (by omega)
            have HR2 : Hid (wr.ownsRow B 4 1 (.slice (some ⟨g, 0, none⟩) V V) V (bvals (prL bs))) := hid (by rw [← show plM bs t = prL bs from by rw [hte, HV.out, plM_all]]; exact HRW.out)
            have HB2 := hid HB.out
            clear hlt HRW HB hte
            have hbl : Bl (fun i => B ≤ i) wr (some ⟨g, 0, none⟩) (prL bs) := by
              obtain ⟨a1, c1, hv, -, -, -, -, hbl⟩ := Bl.owned HR2.out
              simp only [Value.slice.injEq] at hv
              obtain ⟨rfl, -, -⟩ := hv
              exact hbl
            have hsl2 : Sl (fun i => i < y1.heap.size) wr a bs := (HS1.out.kept (w' := wr) fun i _ hi => HB2.out.block i (by rw [HBE.out]; exact hi)).mono fun i hi _ => Nat.lt_of_lt_of_le hi HWY.out
            have HBL2 := hid hbl
            have HSL2 := hid hsl2
            have hRB : Hid (∀ y, Below wr.heap.size wr y → Calls Try.prog 25 #[.slice (some ⟨g, 0, none⟩) V V] y fun e w' => ∃ u, e = .returned u ∧ Row 5 y.heap.size w' u (rowBs (prL bs)) ∧ Below y.heap.size y w') := hid fun y hy => by
              have h := refBytes_any _ y (some ⟨g, 0, none⟩) V (prL bs) (HBL2.out.below hy) (by rw [prL_len, ← HV.out]; omega)
              rw [prL_len, ← HV.out] at h
              exact h
            have hSM : Hid (∀ y v, Below wr.heap.size wr y → Row 5 0 y v (rowBs (prL bs)) → Calls Try.prog 24 #[v, .slice a (P + Z) c] y fun e w' => e = .returned (.bool (decide (rowBs (prL bs) = bs.take (P + Z)))) ∧ Below y.heap.size y w') := hid fun y v hy hv => by
              obtain ⟨av, cv, rfl, -, -, -, hsv⟩ := Row.sl hv
              have h := same_any _ _ av a cv c _ (bs.take (P + Z)) y hsv ((HSL2.out.below hy).front (P + Z)) (by
                rw [rowBs_len, prL_len, ← HV.out]
                have := Var.put_ten (n := V) (by omega)
                omega)
              rw [List.length_take, show min (P + Z) bs.length = P + Z from by rw [← HNB.out]; omega] at h
              exact h
            have hPZ : (P : Int) + (Z : Int) ≤ nb := by omega
            obtain ⟨T, hT⟩ : ∃ T, T = decide (rowBs (prL bs) = bs.take (P + Z)) := ⟨_, rfl⟩
            rw [← hT] at hSM
            have HT := hid hT
            have hbw := Hid.out HB2
            clear hbl hsl2 hT hbw
            obtain ⟨R, hR⟩ : ∃ R, R = P + Z := ⟨_, rfl⟩
            have hRi : (P : Int) + (Z : Int) = (R : Int) := by omega
            have hRn : (R : Int) ≤ nb := by omega
            have hRc : (R : Int) ≤ c := by omega
            have hRw : IntKind.i64.wrap (R : Int) = (R : Int) := by rw [IntKind.wrap_i64]; omega
            have HRZ := hid hR
            rw [← hR] at hSM HT
            clear hR
            go_wp2_with fail
            refine wp_region_grows 9 [EqR (.slice (some ⟨g, 0, none⟩) V V), fun w v => Row 5 0 w v (rowBs (prL bs)), EqR (.slice a nb c), EqR (.int .i64 (P : Int)), EqR (.int .i64 (Z : Int)), EqR (.int .i64 (R : Int)), EqR (.slice a R c), EqR (.bool T), EqR (.bool (!T))] (by kernel_rfl) (by decide) (by kernel_rfl) ?_ ?_ ?_
            · repeat' (first | exact List.forall_mem_nil _ | refine List.forall_mem_cons.2 ⟨?_, ?_⟩)
              all_goals
                intro w w' v hw h
                first | exact h | exact Row.kept h hw
            · simp only [AllLt]
              refine ⟨⟨⟨⟨⟨⟨⟨⟨⟨trivial, ?_⟩, ?_⟩, ?_⟩, ?_⟩, ?_⟩, ?_⟩, ?_⟩, ?_⟩, ?_⟩
              all_goals
                intro o' ho
                simp at ho
                subst ho
                intro ρ w5 hR hL hS hG
                obtain ⟨hl1, hl2, -⟩ := hL
              · refine plainG rfl ?_
                intro bA K Q' hK
                have e10 := hS 10 (by kernel_rfl)
                change ρ (.tmp 10) = _ at e10
                simp only [execOp]
                go_simp
                exact hK _ _ rfl (Grew.refl _)
              · refine plainG rfl ?_
                intro bA K Q' hK
                have e95 := hG 0 95 (by decide) (by kernel_rfl) (by kernel_rfl)
                change ρ (.tmp 95) = _ at e95
                simp only [execOp]
                go_simp
                refine (hRB.out w5 ⟨hR.os, hR.tape, hR.output, hR.size, hR.block⟩).mono ?_
                rintro r9 w9 ⟨v9, rfl, hv9, hb9⟩
                exact hK _ _ (Row.weaken hv9 (Nat.zero_le _)) hb9
              · refine plainG rfl ?_
                intro bA K Q' hK
                have e0 := hS 0 (by kernel_rfl)
                change ρ (.tmp 0) = _ at e0
                simp only [execOp]
                go_simp
                exact hK _ _ rfl (Grew.refl _)
              · refine plainG rfl ?_
                intro bA K Q' hK
                have e7 := hS 7 (by kernel_rfl)
                change ρ (.tmp 7) = _ at e7
                simp only [execOp]
                go_simp
                exact hK _ _ rfl (Grew.refl _)
              · refine plainG rfl ?_
                intro bA K Q' hK
                have e9 := hS 9 (by kernel_rfl)
                change ρ (.tmp 9) = _ at e9
                simp only [execOp]
                go_simp
                exact hK _ _ rfl (Grew.refl _)
              · refine plainG rfl ?_
                intro bA K Q' hK
                have e98 := hG 3 98 (by decide) (by kernel_rfl) (by kernel_rfl)
                have e99 := hG 4 99 (by decide) (by kernel_rfl) (by kernel_rfl)
                change ρ (.tmp 98) = _ at e98
                change ρ (.tmp 99) = _ at e99
                simp only [execOp]
                go_simp
                exact hK _ _ rfl (Grew.refl _)
              · refine plainG rfl ?_
                intro bA K Q' hK
                have e97 := hG 2 97 (by decide) (by kernel_rfl) (by kernel_rfl)
                have e100 := hG 5 100 (by decide) (by kernel_rfl) (by kernel_rfl)
                change ρ (.tmp 97) = _ at e97
                change ρ (.tmp 100) = _ at e100
                simp only [execOp]
                go_simp
                exact hK _ _ rfl (Grew.refl _)
              · refine plainG rfl ?_
                intro bA K Q' hK
                have e96 := hG 1 96 (by decide) (by kernel_rfl) (by kernel_rfl)
                have e101 := hG 6 101 (by decide) (by kernel_rfl) (by kernel_rfl)
                change Row _ _ _ (ρ (.tmp 96)) _ at e96
                change ρ (.tmp 101) = _ at e101
                obtain ⟨v96, hv96⟩ : ∃ v, v = ρ (.tmp 96) := ⟨_, rfl⟩
                rw [← hv96] at e96
                have e96b := hv96.symm
                clear hv96
                have hCS := hSM.out w5 v96 ⟨hR.os, hR.tape, hR.output, hR.size, hR.block⟩ e96
                simp only [execOp]
                go_simp
                refine hCS.mono ?_
                rintro r9 w9 ⟨rfl, hb9⟩
                exact hK _ _ rfl hb9
              · refine plainG rfl ?_
                intro bA K Q' hK
                have e102 := hG 7 102 (by decide) (by kernel_rfl) (by kernel_rfl)
                change ρ (.tmp 102) = _ at e102
                simp only [execOp]
                go_simp
                exact hK _ _ rfl (Grew.refl _)
            · intro vv w2 hR hG
              have h8 : vv 8 = .bool (!T) := hG.2
              have hb2 : Below wr.heap.size wr w2 := ⟨hR.os, hR.tape, hR.output, hR.size, hR.block⟩
              have HB3 := hid hb2
              clear hG hR hb2 hRB hSM
              simp [stG, stU, dstAt, Act.put, h8]
              clear h8
              have HTT : T = false := by rw [HT.out, HRZ.out]; exact decide_eq_false HBADR.out
              subst HTT
              have HBA := hid ((HB1.out.trans (HB2.out.mono (by rw [HBE.out]; exact HB1.out.size))).trans (HB3.out.mono (by
                have h1 := HB2.out.size
                have h2 := HB1.out.size
                omega)))
              clear HT HBADR HR2 HBL2 HSL2
              go_wp2_with fail
              refine (known_any pr w2).mono ?_
              rintro e w9 ⟨rfl, hb9⟩
              have HB9 := hid (HBA.out.trans (hb9.mono HBA.out.size))
              clear hb9
              go_wp2_with fail
              go_ret
              exact ⟨rfl, HB9.out⟩
  · have hD3 : D = E := by rw [HPE.out, if_pos hE0]
    subst hD3
    have hEi : ((D : Int) != 0) = true := by rw [bne_iff_ne]; omega
    go_wp2_with fail
    refine (known_any pr y1).mono ?_
    rintro e w9 ⟨rfl, hb9⟩
    have HB9 := hid (HB1.out.trans (hb9.mono HB1.out.size))
    clear hb9
    go_wp2_with fail
    go_ret
    exact ⟨rfl, HB9.out⟩
/-- RankParses. -/
theorem rankParses_walk {Rk : World → Nat → List Bool → (Nat → Prop) → Prop} (pr : PR Rk) (W : World) (a : Option Addr) (c : Nat) (bs0 : List Nat) (hs : Sl (fun _ => True) W a bs0) (hby0 : Bytes bs0) (hlc : bs0.length ≤ c) (hcm : c ≤ maxLen) (hn : a = none → c = 0) :
    Calls Try.prog 5 #[.slice a bs0.length c] W fun e w' => e = .returned (.bool true) ∧ Below W.heap.size W w' := by
  by_cases hE : prE (bs0.take 200) = 0
  · exact rankParses_good pr W a c bs0 _ hs hby0 hlc hcm hn rfl hE
  · exact rankParses_bad pr W a c bs0 _ hs hby0 hlc hcm hn rfl hE
end Go.Proofs.Ytjcapiibeekfkaa
