/- CONTRACTS OF THE DOCUMENT's DEVICE: writing, walked. -/
import Derived.Test.YtgppmnaidgkboaaRefD
namespace Go.Proofs.Ytgppmnaidgkboaa
open Go.RowKit Go.Inc

theorem infoWrite : (Try.prog.info? 83).map (fun i => (i.zero, i.size, i.bytes)) = some (some (.agg #[.int .i64 0, .slice none 0 0]), 2, 32) := by kernel_rfl
theorem cell_two_new (w : World) (x y : Value) (t : TypeId) : ∀ j u, [x, y][j]? = some u → (w.alloc (.cells #[x, y] t)).cell? ((⟨w.heap.size, 0, none⟩ : Addr).add j) = some u := by
  intro j u hj
  have hlt : j < 2 := (List.getElem?_eq_some_iff.1 hj).1
  rw [Addr.add_lit, cell_of_row _ w.heap.size _ _ _ _ (heap_alloc_new w _)]
  match j, hj, hlt with
  | 0, hj, _ => exact hj
  | 1, hj, _ => exact hj

set_option maxRecDepth 20000 in
set_option maxHeartbeats 2000000 in
theorem rwrite_any {K w h ldv llv P L R} (H : RefAt K w h ldv llv P L R) (k : Nat) (ok : Nat → Prop) (a : Option Addr) (cb : Nat) (bs : List Nat) (hsl : Sl ok w a bs) (hok : ∀ b, ok b → K b = 0) (hbl : bs.length = 256) (ho : R.off = false) (hk : k < P.length) (hpl : P.length ≤ 20) (hll : L.length ≤ 1000) (h0 : R.left ≠ 0) (hs : R.s ≤ 1000000) :
    Calls Try.prog 13 #[.pointer (some ⟨h, 0, none⟩), .int .i64 (k : Int), .slice a 256 cb] w fun e w' => e = .returned (.int .i64 0) ∧
      (∃ K' llv' L', RefAt K' w' h ldv llv' P L' { R with L := R.L ++ [((k : Int), bs)], left := useLeft R.left, s := R.s + 1 } ∧ ∀ b, b < w.heap.size → K' b = K b) ∧ Mv (fun b => K b ≠ 0) w w' := by
  have c2 := H.row.c2
  have c0 := H.row.c0
  rw [ho] at c2
  have HU := hid (use_any H)
  obtain ⟨pb, pc, hpe, _⟩ := H.pshape (by omega)
  have hd : decide (R.left ≠ 0) = true := by simp [h0]
  have he : ({ R with off := R.off || decide (R.left = 0), left := useLeft R.left } : Rs) = { R with left := useLeft R.left } := by
    have : decide (R.left = 0) = false := by simp [h0]
    rw [this, ho]
    obtain ⟨p, l, off, left, r, s, t⟩ := R
    simp only at ho
    subst ho
    rfl
  rw [hd, he] at HU
  subst hpe
  obtain ⟨p, hp⟩ : ∃ p, p = P.length := ⟨_, rfl⟩
  have h1 : decide ((k : Int) < 0) = false := decide_eq_false (by omega)
  have h2 : decide ((P.length : Int) ≤ (k : Int)) = false := decide_eq_false (by omega)
  have HH := hid H
  have HSL := hid hsl
  have HOK := hid hok
  have HBL := hid hbl
  have hks : (k : Int) < P.length ∧ (0 : Int) ≤ k := by omega
  obtain ⟨ad, rfl, hadk, hads, _⟩ := Sl.addr hsl (by omega)
  rw [← hp] at c0 h2 hks HU
  obtain ⟨i0, hi, hz0, hz1, hz2⟩ := info_parts infoU8
  have HI := hid (And.intro hi (And.intro hz0 (And.intro hz1 hz2)))
  obtain ⟨i1, hi', hz0', hz1', hz2'⟩ := info_parts infoWrite
  have HI1 := hid (And.intro hi' (And.intro hz0' (And.intro hz1' hz2')))
  have HPp := hid hp
  have HPL := hid hpl
  have HLL := hid hll
  have HSS := hid hs
  clear H hsl hok hbl ho h0 hd he hi hz0 hz1 hz2 hi' hz0' hz1' hz2' hp hk hpl hll hs
  go_enter Try.func13, Try.ntmps13
  go_wp2_with fail
  refine HU.out.mono ?_
  rintro e w1 ⟨rfl, hr, hm⟩
  have HR := hid hr
  have HM := hid hm
  have c5 := hr.row.c5
  have f5 := hr.row.fz 5
  have hrs := hr.cnt.2.1
  simp only at hrs
  obtain ⟨s, hss⟩ : ∃ s, s = R.s := ⟨_, rfl⟩
  have c5' : w1.cell? ⟨h, 5, none⟩ = some (.int .i64 s) := by rw [hss]; exact c5
  have hsb : (0 : Int) ≤ s ∧ s ≤ 1000000 := by have := HSS.out; rw [hss]; omega
  have hm2 : Mv (fun b => b = h) w1 (w1.setCell ⟨h, 5, none⟩ (.int .i64 (s + 1))) := Mv.of_grown (r := some h) (grown_setCell (grown_refl _ _) (.inl rfl) _) fun g h _ => by cases h; rfl
  have hR2 := hr.turn hm2 (fun _ h => h) (hr.row.s5 (s + 1)) hr.lb (by have h := hr.cnt; simp only at h ⊢; omega)
  obtain ⟨w2, hw2⟩ : ∃ w2, w2 = w1.setCell ⟨h, 5, none⟩ (.int .i64 (s + 1)) := ⟨_, rfl⟩
  rw [← hw2] at hm2 hR2
  have HW2 := hid hw2
  have HR2 := hid hR2
  have HM2 := hid (hm.trans hm2)
  have HSs := hid hss
  clear hr hm hm2 hw2 hss c5 HR HM
  -- what the region needs
  obtain ⟨wa, hwa⟩ : ∃ wa, wa = (w2.alloc (.cells #[] 5)).drew := ⟨_, rfl⟩
  have hba : Below w2.heap.size w2 wa := by rw [hwa]; exact ((Below.refl _ _).alloc (Nat.le_refl _) _).drew
  have hoa : wa.ownsRow w2.heap.size 5 1 (.slice (some ⟨w2.heap.size, 0, none⟩) 0 0) 0 (u8s []) := by
    rw [hwa]
    exact World.ownsRow_lit w2 #[] 0 (Nat.le_refl _) (Nat.zero_le _) rfl
  have hsa : Sl (fun b => K b = 0 ∧ b < w.heap.size) wa (some ad) bs := (((HSL.out.mono fun b h1 h2 => (⟨HOK.out b h1, h2⟩ : K b = 0 ∧ b < w.heap.size)).mv HM2.out fun b hb e => by
    have h1 := hb.1; rw [e, HH.out.kh] at h1; omega)).below hba
  have hra : RefRow wa h (.slice (some ⟨pb, 0, none⟩) p pc) llv R.off (useLeft R.left) R.r (s + 1) R.t := row_below hR2.row hba
  have c1 := hR2.row.c1
  have hone := hsa.cells ad rfl
  have hhl : h < w2.heap.size := row_lt hR2.row
  have HWA := hid hwa
  have HBA := hid hba
  have HOA := hid hoa
  have HRA := hid hra
  have hllo : Hid (wa.ownsRow 0 83 2 llv L.length (lcells L)) := hid (owns_mv hR2.ll (Mv.of_below (F := fun _ => False) hba) fun _ _ h => h)
  have hlb : Hid (∀ b, llv.ownBlock = some b → b < w2.heap.size ∧ b ≠ h) := hid fun b hb => ⟨hR2.lt b (by rw [hR2.kl b hb]; decide), by rintro rfl; have h1 := hR2.kl _ hb; have h2 := hR2.kh; omega⟩
  obtain ⟨m, hmL⟩ : ∃ m, m = L.length := ⟨_, rfl⟩
  rw [← hmL] at hllo
  have HML := hid hmL
  have hm1000 : m ≤ 1000 := by rw [hmL]; exact HLL.out
  clear hwa hba hoa hsa hra hR2 hmL c0 c2
  go_wp2_with fail
  rw [← HW2.out]
  go_region_law (first
    | (refine step_append_at rfl (.tmp 41) (.tmp 42) 31 rfl w2.heap.size 5 i0 (.int .u8 0) 1 1 Try.underlying31 HI.out.1 HI.out.2.1 HI.out.2.2.1 HI.out.2.2.2 rfl (by decide) (.slice (some ⟨w2.heap.size, 0, none⟩) 0 0) 0 (u8s []) rfl (by rw [HWA.out] at HOA; exact HOA.out) ad 256 cb (u8s bs) rfl (by rw [u8s_length, HBL.out]) (by rw [HWA.out] at hone; exact hone) (u8s_one _) (by omega) (by unfold maxLen; omega) (by omega) (by simp) ?_; intro g1 cp1 wb ho1 hg1 hat1; have hg1' : wa.grownBy wb (some w2.heap.size) := (by rw [HWA.out]; exact hg1); have hbb : Below w2.heap.size w2 wb := HBA.out.trans (grown_is_below hg1' (Nat.le_refl _) HBA.out.size); have hrb : RefRow wb h (.slice (some ⟨pb, 0, none⟩) p pc) llv R.off (useLeft R.left) R.r (s + 1) R.t := row_grown HRA.out hg1' (fun e => by simp only [Option.some.injEq] at e; omega); have hcb1 := hrb.c1; have hhb : h < wb.heap.size := row_lt hrb; have hcb2 : ∀ o, (wb.alloc o).cell? ⟨h, 1, none⟩ = some llv := (fun o => (((Below.refl wb.heap.size wb).alloc (Nat.le_refl _) o).cell hhb).trans hcb1); have hlb1 : wb.ownsRow 0 83 2 llv m (lcells L) := owns_mv hllo.out (Mv.of_grown (F := fun b => b = w2.heap.size) hg1' (fun g h _ => by simp only [Option.some.injEq] at h; exact h.symm)) (fun b hb e => by have := (hlb.out b hb).1; omega))
    | (refine step_append_at rfl (.tmp 39) (.tmp 45) 47 rfl 0 83 i1 (.agg #[.int .i64 0, .slice none 0 0]) 2 32 Try.underlying47 HI1.out.1 HI1.out.2.1 HI1.out.2.2.1 HI1.out.2.2.2 rfl (by decide) llv m (lcells L) rfl (owns_mv hlb1 (Mv.of_below (F := fun _ => False) ((Below.refl _ _).alloc (Nat.le_refl _) _)) (fun _ _ h => h)) ⟨wb.heap.size, 0, none⟩ 1 1 [.int .i64 (k : Int), .slice (some ⟨g1, 0, none⟩) 256 cp1] rfl rfl (cell_two_new _ _ _ _) (by simp [Value.oneCell']) (by omega) (by unfold maxLen; omega) (by omega) (Nat.zero_le _) ?_; intro g2 cp2 w5 ho2 hg2 hat2; have hr5 : RefRow w5 h (.slice (some ⟨pb, 0, none⟩) p pc) llv R.off (useLeft R.left) R.r (s + 1) R.t := row_grown (row_below hrb ((Below.refl _ _).alloc (Nat.le_refl _) _)) hg2 (fun e => (hlb.out h e).2 rfl); have hc5 := hr5.c1; have hf5 := hr5.fz 1))
  all_goals
    have ho1' : wb.ownsRow w2.heap.size 5 1 (.slice (some ⟨g1, 0, none⟩) 256 cp1) 256 (u8s bs) := by simpa [u8s] using ho1
    have hrow1 : Row 5 w2.heap.size wb (.slice (some ⟨g1, 0, none⟩) 256 cp1) bs := by unfold Row; rw [HBL.out]; exact ho1'
    have hcap1 := own_cap ho1'
    obtain ⟨a1, c1', hv1, _, _, _, hs1⟩ := hrow1.sl
    simp only [Value.slice.injEq] at hv1
    obtain ⟨hv1, _, hv3⟩ := hv1
    rw [← hv1] at hs1
    obtain ⟨wm, hwm⟩ : ∃ wm, wm = wb.alloc (.cells #[.int .i64 (k : Int), .slice (some ⟨g1, 0, none⟩) 256 cp1] 83) := ⟨_, rfl⟩
    rw [← hwm] at hg2 hat2
    have hbm : Below w2.heap.size w2 wm := by rw [hwm]; exact hbb.alloc hbb.size _
    have hsm : Sl (fun b => w2.heap.size ≤ b) wm (some ⟨g1, 0, none⟩) bs := by rw [hwm]; exact hs1.below ((Below.refl _ _).alloc (Nat.le_refl _) _)
    have hszm : wb.heap.size < wm.heap.size := by rw [hwm]; simp
    have hgh : g2 ≠ h := by
      rcases hat2 with h1 | h1
      · exact (hlb.out g2 h1.symm).2
      · omega
    obtain ⟨w6, hw6⟩ : ∃ w6, w6 = w5.setCell ⟨h, 1, none⟩ (.slice (some ⟨g2, 0, none⟩) (m + 1) cp2) := ⟨_, rfl⟩
    have hg6 : w5.grownBy w6 (some h) := by rw [hw6]; exact grown_setCell (grown_refl _ _) (.inl rfl) _
    have hm6 : Mv (fun b => b = h) w5 w6 := Mv.of_grown hg6 fun g hg _ => by simp only [Option.some.injEq] at hg; exact hg.symm
    have hmm : Mv (fun b => llv.ownBlock = some b ∨ b = h) wm w6 := (Mv.of_grown (F := fun b => llv.ownBlock = some b ∨ b = h) hg2 fun g hg _ => .inl hg).trans' hm6 fun _ _ e => .inr e
    have hown6 : w6.ownsRow 0 83 2 (.slice (some ⟨g2, 0, none⟩) (m + 1) cp2) (L.length + 1) (lcells L ++ [.int .i64 (k : Int), (⟨some ⟨g1, 0, none⟩, cp1, bs⟩ : Item).val]) := by
      rw [← HML.out]
      exact owns_mv ho2 hm6 fun b hb e => by simp only [Value.ownBlock, Option.some.injEq] at hb; omega
    have hrow6 : RefRow w6 h (.slice (some ⟨pb, 0, none⟩) p pc) (.slice (some ⟨g2, 0, none⟩) (m + 1) cp2) R.off (useLeft R.left) R.r (s + 1) R.t := by rw [hw6]; exact hr5.s1 _
    have hR2 := HR2.out
    obtain ⟨K2, hR6, hext⟩ := hR2.grewL (q := ⟨some ⟨g1, 0, none⟩, cp1, bs⟩) (no := (k : Int)) hbm hsm ⟨HBL.out, hcap1.1, hcap1.2⟩ ⟨by omega, by rw [← HPp.out]; exact hks.1⟩ hown6 (by
      rcases hat2 with h1 | h1
      · exact .inl h1
      · exact .inr ⟨g2, rfl, by omega⟩) hmm hrow6
    have HR6 := hid hR6
    have HX6 : Hid (∀ b, b < w.heap.size → K2 b = K b) := hid fun b hb => hext b (Nat.lt_of_lt_of_le hb HM2.out.size)
    have HM6 : Hid (Mv (fun b => K b ≠ 0) w w6) := hid (by
      have hKh : K h ≠ 0 := by rw [HH.out.kh]; decide
      refine ((HM2.out.sub fun b _ e => by subst e; exact hKh).trans' (Mv.of_below (F := fun _ => False) hbm) fun _ _ h => h.elim).trans' hmm fun b _ hf => ?_
      rcases hf with hf | hf
      · show K b ≠ 0; rw [HH.out.kl b hf]; decide
      · subst hf; exact hKh)
    rw [← hw6]
    clear hw6 hR6 hext hown6 hrow6 hmm hm6 hg6 hR2 hszm hsm hbm hwm hat2 hg2 hs1 hv1 hv3 hrow1 ho1' ho1 ho2 hr5 hc5 hf5 hlb1 hcb2 hcb1 hrb hg1 hg1' hat1 hone
    go_wp2_with fail
    go_ret
    have h6 := HR6.out
    rw [HSs.out] at h6
    rw [HPp.out] at h6
    exact ⟨rfl, ⟨K2, ⟨_, _, h6⟩, HX6.out⟩, HM6.out⟩
end Go.Proofs.Ytgppmnaidgkboaa
