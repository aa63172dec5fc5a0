/- CONTRACTS: setsOf, New. -/
import Derived.Test.YtjgnnofpilmgoaaDoorAlE
namespace Go.Proofs.YtjgnnofpilmgoaaDoor
open Go.RowKit Go.Inc

/-- Three new sets, each in blocks of its own. -/
structure Three3 (W0 A B D : Nat) (w : World) (b1 b2 b3 n : Nat) : Prop where
  o1 : W0 ≤ A
  o2 : A ≤ B
  o3 : B ≤ D
  o4 : D ≤ w.heap.size
  s1 : Sm (fun b => A ≤ b ∧ b < B) w (.pointer (some ⟨b1, 0, none⟩)) (List.replicate n false)
  s2 : Sm (fun b => B ≤ b ∧ b < D) w (.pointer (some ⟨b2, 0, none⟩)) (List.replicate n false)
  s3 : Sm (fun b => D ≤ b) w (.pointer (some ⟨b3, 0, none⟩)) (List.replicate n false)
theorem Three3.below {W0 A B D : Nat} {w w' : World} {b1 b2 b3 n : Nat} (h : Three3 W0 A B D w b1 b2 b3 n) (hb : Below w.heap.size w w') : Three3 W0 A B D w' b1 b2 b3 n :=
  ⟨h.o1, h.o2, h.o3, Nat.le_trans h.o4 hb.size, h.s1.below hb, h.s2.below hb, h.s3.below hb⟩
theorem NewSet.ptr {B : Nat} {w : World} {v : Value} {m : List Bool} (h : NewSet B w v m) : ∃ b, v = .pointer (some ⟨b, 0, none⟩) ∧ Sm (fun b => B ≤ b ∧ b < w.heap.size) w (.pointer (some ⟨b, 0, none⟩)) m := by
  obtain ⟨b, g, c, W, rfl, h2, h3, h4, h5⟩ := h
  exact ⟨b, rfl, b, g, c, W, rfl, ⟨h2, h4.blt⟩, ⟨h3, h4.glt⟩, h4, h5⟩
set_option maxHeartbeats 2000000 in
theorem setsOf_any (n : Nat) (w : World) (h1 : (1 : Int) ≤ n) (h2 : (n : Int) ≤ 2048) :
    Calls Tryd.prog 28 #[.int .i64 (n : Int)] w fun e w' => (∃ b1 b2 b3 A B D, e = .returned (.agg #[.pointer (some ⟨b1, 0, none⟩), .pointer (some ⟨b2, 0, none⟩), .pointer (some ⟨b3, 0, none⟩)]) ∧ Three3 w.heap.size A B D w' b1 b2 b3 n) ∧ Below w.heap.size w w' := by
  have H := hid fun x => setOf_any n x h1 h2
  obtain ⟨w0, hw0⟩ : ∃ w0, w0 = w.alloc (.cells #[.pointer none, .pointer none, .pointer none] 55) := ⟨_, rfl⟩
  have HB0 : Hid (Below w.heap.size w w0) := hid (by rw [hw0]; exact alloc_below w _)
  have HR0 : Hid (w0.heap[w.heap.size]? = some (.cells #[.pointer none, .pointer none, .pointer none] 55 (0, 0))) := hid (by rw [hw0]; exact heap_alloc_new w _)
  have HSZ : Hid (w.heap.size < w0.heap.size) := hid (row_lt HR0.out)
  have HW0 := hid hw0
  clear hw0 h1 h2
  go_enter Tryd.func28, Tryd.ntmps28
  go_wp2_with fail
  rw [← HW0.out]
  refine (H.out w0).mono ?_
  rintro e w1 ⟨⟨u1, rfl, hv1⟩, hb1⟩
  obtain ⟨b1, rfl, hs1⟩ := hv1.ptr
  have HS1 := hid hs1
  have HB1 := hid hb1
  have HR1 := hid (row_below HR0.out hb1)
  clear hv1 hs1 hb1
  go_wp2_with fail
  refine (H.out w1).mono ?_
  rintro e w2 ⟨⟨u2, rfl, hv2⟩, hb2⟩
  obtain ⟨b2, rfl, hs2⟩ := hv2.ptr
  have HS2 := hid hs2
  have HB2 := hid hb2
  have HR2 := hid (row_below HR1.out hb2)
  clear hv2 hs2 hb2
  go_wp2_with fail
  refine (H.out w2).mono ?_
  rintro e w3 ⟨⟨u3, rfl, hv3⟩, hb3⟩
  obtain ⟨b3, rfl, hs3⟩ := hv3.ptr
  have HB3 := hid hb3
  have HT : Hid (Three3 w0.heap.size w0.heap.size w1.heap.size w2.heap.size w3 b1 b2 b3 n) := hid ⟨Nat.le_refl _, HB1.out.size, HB2.out.size, HB3.out.size, (HS1.out.below HB2.out).below HB3.out, HS2.out.below HB3.out, hs3.mono fun _ h _ => h.1⟩
  have HR3 := hid (row_below HR2.out hb3)
  clear hv3 hs3 hb3
  go_wp2_with (refine wpList_store_own rfl 55 _ _ rfl w.heap.size #[.pointer (some ⟨b1, 0, none⟩), .pointer (some ⟨b2, 0, none⟩), .pointer (some ⟨b3, 0, none⟩)] rfl rfl 55 _ HR3.out (by kernel_rfl) rfl (by simp [Value.oneCell']) ?_)
  intro w4 hr4 hg4
  have HR4 := hid hr4
  have HM4 : Hid (Mv (fun i => i = w.heap.size) w3 w4) := hid (Mv.of_grown hg4 fun g h _ => by cases h; rfl)
  clear hr4 hg4
  go_wp2_with fail
  have hne : ∀ i, w0.heap.size ≤ i → ¬ (i = w.heap.size) := fun i hi e => by have := HSZ.out; omega
  refine bodyPost_ret (v := .agg #[.pointer (some ⟨b1, 0, none⟩), .pointer (some ⟨b2, 0, none⟩), .pointer (some ⟨b3, 0, none⟩)]) (results_cell_row rfl _ _ w.heap.size 55 _ (0, 0) _ rfl HR4.out Tryd.underlying55 rfl (by kernel_rfl)) rfl ⟨⟨b1, b2, b3, w0.heap.size, w1.heap.size, w2.heap.size, rfl, ⟨HB0.out.size, HB1.out.size, HB2.out.size, Nat.le_trans HB3.out.size HM4.out.size, HT.out.s1.mv HM4.out fun i hi => hne i hi.1, HT.out.s2.mv HM4.out fun i hi => hne i (Nat.le_trans HB1.out.size hi.1), HT.out.s3.mv HM4.out fun i hi => hne i (Nat.le_trans HB1.out.size (Nat.le_trans HB2.out.size hi))⟩⟩, ?_⟩
  have hb03 : Below w.heap.size w w3 := HB0.out.trans ((HB1.out.trans ((HB2.out.trans (HB3.out.mono HB2.out.size)).mono HB1.out.size)).mono HB0.out.size)
  exact hb03.trans (HM4.out.below hb03.size fun i hi => by rw [show i = w.heap.size from hi]; exact Nat.le_refl _)
theorem allocNew_bad (v : Value) (n : Int) (w : World) (h : n < 2 ∨ 2048 < n) :
    Calls Tryd.prog 7 #[.int .i64 n, v] w fun e w' => e = .returned (.tuple #[.pointer none, .int .i64 1]) ∧ w = w' := by
  by_cases h1 : n < 2
  · go_enter Tryd.func7, Tryd.ntmps7
    go_wp2_with fail
    go_ret2
    exact ⟨rfl, rfl⟩
  · have h2 : 2048 < n := by omega
    have h3 : 2 ≤ n := by omega
    clear h
    go_enter Tryd.func7, Tryd.ntmps7
    go_wp2_with fail
    go_ret2
    exact ⟨rfl, rfl⟩
def newE (n : Nat) (zs : List Int) : Int := chkE (freshK n) zs isF 8
def newK (n : Nat) (zs : List Int) : List Nat := putK (freshK n) zs 2
theorem newK_len (n : Nat) (zs : List Int) : (newK n zs).length = n := by unfold newK; rw [putK_len, freshK_len]
theorem newK_ks {n : Nat} {zs : List Int} (h1 : 2 ≤ n) (h2 : n ≤ 2048) (h : newE n zs = 0) : Ks (newK n zs) := by
  have := (chkE_zero (by decide) h).1
  exact (Ks.fresh h1 h2).put this (by decide) (by decide)
/-- What New answers: an allocator, new; or none, and what is wrong. -/
def NewAns (n : Nat) (zs : List Int) (W0 : Nat) (w' : World) (e : Ending) : Prop :=
  (newE n zs = 0 ∧ ∃ C p v1 v2 v3, e = .returned (.tuple #[.pointer (some ⟨p, 0, none⟩), .int .i64 0]) ∧ Al C w' p v1 v2 v3 (newK n zs) ∧ ∀ i, C i ≠ 0 → W0 ≤ i) ∨
    (newE n zs ≠ 0 ∧ e = .returned (.tuple #[.pointer none, .int .i64 (newE n zs)]))
set_option maxHeartbeats 4000000 in
theorem allocNew_any (okz : Nat → Prop) (n : Nat) (a : Option Addr) (cz : Nat) (zs : List Int) (w : World) (hz : Si okz w a zs) (h1 : (2 : Int) ≤ n) (h2 : (n : Int) ≤ 2048) (hl : (zs.length : Int) ≤ 9223372036854775807) (ht : Tab w) :
    Calls Tryd.prog 7 #[.int .i64 (n : Int), .slice a zs.length cz] w fun e w' => NewAns n zs w.heap.size w' e ∧ Below w.heap.size w w' := by
  have HZ : Hid (Si (fun b => b < w.heap.size) w a zs) := hid (hz.mono fun _ _ h => h)
  have HW : Hid (0 < w.heap.size) := hid (cell_lt (ht 0 (by decide)))
  have HL := hid hl
  have HE := hid (chkE_bnd (freshK n) zs isF (wrong := 8) (by decide))
  obtain ⟨E, hE⟩ : ∃ E, E = newE n zs := ⟨_, rfl⟩
  have HEE := hid hE
  have HKF : Hid (Ks (freshK n)) := hid (Ks.fresh (by omega) (by omega))
  obtain ⟨nz, hnz⟩ : ∃ k, k = zs.length := ⟨_, rfl⟩
  have HNZ := hid hnz
  rw [show chkE (freshK n) zs isF 8 = E from hE.symm] at HE
  have HO := hid (setsOf_any n w (by omega) h2)
  rw [← hnz]
  clear hz ht hl hE hnz
  go_enter Tryd.func7, Tryd.ntmps7
  go_wp2_with fail
  refine HO.out.mono ?_
  clear HO
  rintro e w1 ⟨⟨b1, b2, b3, A, B, D, rfl, hT⟩, hb1⟩
  have HB1 := hid hb1
  obtain ⟨wn, hwn⟩ : ∃ wn, wn = w1.alloc (.cells #[.pointer (some ⟨b1, 0, none⟩), .pointer (some ⟨b2, 0, none⟩), .pointer (some ⟨b3, 0, none⟩)] 58) := ⟨_, rfl⟩
  have hbn : Below w1.heap.size w1 wn := by rw [hwn]; exact alloc_below w1 _
  have hrow : wn.heap[w1.heap.size]? = some (.cells #[.pointer (some ⟨b1, 0, none⟩), .pointer (some ⟨b2, 0, none⟩), .pointer (some ⟨b3, 0, none⟩)] 58 (0, 0)) := by rw [hwn]; exact heap_alloc_new w1 _
  have hszn : w1.heap.size < wn.heap.size := row_lt hrow
  obtain ⟨C, hC⟩ : ∃ C : Nat → Nat, C = fun i => if i = w1.heap.size then 1 else if A ≤ i ∧ i < B then 2 else if B ≤ i ∧ i < D then 3 else if D ≤ i ∧ i < w1.heap.size then 4 else 0 := ⟨_, rfl⟩
  have o1 := hT.o1
  have o2 := hT.o2
  have o3 := hT.o3
  have o4 := hT.o4
  have k1 : C w1.heap.size = 1 := by rw [hC]; exact if_pos rfl
  have k2 : ∀ i, A ≤ i ∧ i < B → C i = 2 := fun i hi => by
    rw [hC]
    show (if i = w1.heap.size then 1 else if A ≤ i ∧ i < B then 2 else if B ≤ i ∧ i < D then 3 else if D ≤ i ∧ i < w1.heap.size then 4 else 0) = 2
    rw [if_neg (by omega), if_pos hi]
  have k3 : ∀ i, B ≤ i ∧ i < D → C i = 3 := fun i hi => by
    rw [hC]
    show (if i = w1.heap.size then 1 else if A ≤ i ∧ i < B then 2 else if B ≤ i ∧ i < D then 3 else if D ≤ i ∧ i < w1.heap.size then 4 else 0) = 3
    rw [if_neg (by omega), if_neg (by omega), if_pos hi]
  have k4 : ∀ i, D ≤ i ∧ i < w1.heap.size → C i = 4 := fun i hi => by
    rw [hC]
    show (if i = w1.heap.size then 1 else if A ≤ i ∧ i < B then 2 else if B ≤ i ∧ i < D then 3 else if D ≤ i ∧ i < w1.heap.size then 4 else 0) = 4
    rw [if_neg (by omega), if_neg (by omega), if_neg (by omega), if_pos hi]
  have k0 : ∀ i, C i ≠ 0 → w.heap.size ≤ i ∧ i ≤ w1.heap.size := fun i hi => by
    rw [hC] at hi
    have hi2 : (if i = w1.heap.size then 1 else if A ≤ i ∧ i < B then 2 else if B ≤ i ∧ i < D then 3 else if D ≤ i ∧ i < w1.heap.size then 4 else 0) ≠ 0 := hi
    have := HB1.out.size
    by_cases h1 : i = w1.heap.size
    · omega
    · by_cases h2 : A ≤ i ∧ i < B
      · omega
      · by_cases h3 : B ≤ i ∧ i < D
        · omega
        · by_cases h4 : D ≤ i ∧ i < w1.heap.size
          · omega
          · rw [if_neg h1, if_neg h2, if_neg h3, if_neg h4] at hi2
            exact absurd rfl hi2
  have HK0 := hid k0
  have HALN : Hid (Al C wn w1.heap.size (.pointer (some ⟨b1, 0, none⟩)) (.pointer (some ⟨b2, 0, none⟩)) (.pointer (some ⟨b3, 0, none⟩)) (freshK n)) := hid (by
    unfold Al
    rw [freshK_none (p := isC) rfl rfl, freshK_none (p := isS) rfl rfl, freshK_none (p := isP) rfl rfl]
    refine ⟨Decidable.byContradiction fun h => by have := (k0 0 h).1; have := HW.out; omega, fun i hi => by have := (k0 i hi).2; omega, k1, cell_of_row wn _ 0 _ _ _ hrow, cell_of_row wn _ 1 _ _ _ hrow, cell_of_row wn _ 2 _ _ _ hrow, ?_, ?_, ?_⟩
    · exact (hT.s1.below hbn).mono fun b h _ => k2 b h
    · exact (hT.s2.below hbn).mono fun b h _ => k3 b h
    · exact (hT.s3.mono (ok' := fun b => D ≤ b ∧ b < w1.heap.size) (fun b h1 h2 => ⟨h1, h2⟩)).below hbn |>.mono fun b h _ => k4 b h)
  have HBN : Hid (Below w.heap.size w wn) := hid (HB1.out.trans (hbn.mono HB1.out.size))
  have HWN := hid hwn
  have HP : Hid (w.heap.size ≤ w1.heap.size) := hid HB1.out.size
  have HB5 := hid (alloc_below wn (.cells #[.int .i64 1] 3))
  have hc := check_any (wrong := 8) (fun b => b < w.heap.size) (fun b => b = wn.heap.size) a (some ⟨wn.heap.size, 0, none⟩) cz 1 zs [1] (HALN.out.below HB5.out) HKF.out ((HZ.out.below HBN.out).below HB5.out) (si_one wn 1 3) HL.out (by simp)
  rw [goodK_F, show chkE (freshK n) zs isF 8 = E from HEE.out.symm, ← HNZ.out] at hc
  have hszw : wn.heap.size = w1.heap.size + 1 := by rw [hwn]; simp
  rw [hszw, hwn] at hc
  have HCH := hid hc
  clear hT hb1 hbn hrow hszn hC o1 o2 o3 o4 k1 k2 k3 k4 k0 hc hwn hszw
  go_wp2_with fail
  refine HCH.out.mono ?_
  clear HCH
  rw [← HWN.out]
  rintro e w2 ⟨rfl, hb⟩
  have HB2 : Hid (Below wn.heap.size wn w2) := hid (HB5.out.trans (hb.mono HB5.out.size))
  have HALW : Hid (Al C w2 w1.heap.size (.pointer (some ⟨b1, 0, none⟩)) (.pointer (some ⟨b2, 0, none⟩)) (.pointer (some ⟨b3, 0, none⟩)) (freshK n)) := hid (HALN.out.below HB2.out)
  have HBW : Hid (Below w.heap.size w w2) := hid (HBN.out.trans (HB2.out.mono HBN.out.size))
  clear hb
  by_cases he : E = 0
  · subst he
    have HIN := hid (chkE_zero (by decide) (show chkE (freshK n) zs isF 8 = 0 from HEE.out.symm))
    have hadd := addS_any (fun b => C b = 2) (fun b => b < w.heap.size) (.pointer (some ⟨b1, 0, none⟩)) _ a cz zs w2 HALW.out.s1 (HZ.out.below HBW.out) (fun i hi hc => by have := (HK0.out i (by rw [show C i = 2 from hc]; decide)).1; omega) HL.out
    rw [setK_put_on (p := isC) (k := 2) rfl, ← HNZ.out] at hadd
    have HADD := hid hadd
    have c0 := HALW.out.c0
    clear hadd
    go_wp2_with fail
    refine HADD.out.mono ?_
    clear c0 HADD
    rintro e w3 ⟨rfl, hs, hm⟩
    have HS := hid hs
    have HM := hid hm
    clear hs hm
    go_wp2_with fail
    go_ret2
    refine ⟨.inl ⟨HEE.out.symm, C, w1.heap.size, .pointer (some ⟨b1, 0, none⟩), .pointer (some ⟨b2, 0, none⟩), .pointer (some ⟨b3, 0, none⟩), rfl, ?_, fun i hi => (HK0.out i hi).1⟩, HBW.out.trans (HM.out.below HBW.out.size fun i hi => (HK0.out i (by rw [show C i = 2 from hi]; decide)).1)⟩
    have hh := HALW.out.turn1 HM.out HS.out
    have e1 : setK isS (freshK n) = setK isS (putK (freshK n) zs 2) := (setK_put_same fun z hz => by
      have h1 := isF_iff.1 (HIN.out.2.1 z hz)
      rw [h1]; decide).symm
    have e2 : setK isP (freshK n) = setK isP (putK (freshK n) zs 2) := (setK_put_same fun z hz => by
      have h1 := isF_iff.1 (HIN.out.2.1 z hz)
      rw [h1]; decide).symm
    rw [e1, e2] at hh
    exact hh
  · have hne : (E != 0) = true := by rw [bne_iff_ne]; exact he
    have HNE := hid he
    clear he
    go_wp2_with fail
    go_ret2
    exact ⟨.inr ⟨by rw [← HEE.out]; exact HNE.out, by rw [← HEE.out]; rfl⟩, HBW.out⟩
end Go.Proofs.YtjgnnofpilmgoaaDoor
