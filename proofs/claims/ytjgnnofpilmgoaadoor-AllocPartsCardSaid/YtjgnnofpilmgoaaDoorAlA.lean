/- CONTRACTS: an allocator in memory; small ones: Pages, Kind, setOf, Contains. -/
import Derived.Test.YtjgnnofpilmgoaaDoorAlMath
import Derived.Lib.Slices
namespace Go.Proofs.YtjgnnofpilmgoaaDoor
open Go.RowKit Go.Inc

/-- A set in blocks that are 'ok'. -/
def Sm (ok : Nat → Prop) (w : World) (v : Value) (m : List Bool) : Prop :=
  ∃ b g c W, v = .pointer (some ⟨b, 0, none⟩) ∧ ok b ∧ ok g ∧ BmAt w b g c m.length W ∧ ∀ i, wbit W i = inB m i
section
variable {ok ok' : Nat → Prop} {w w' : World} {v : Value} {m : List Bool}
theorem Sm.bm (h : Sm ok w v m) : Bm ok w v m := .inr h
theorem Sm.mv {F : Nat → Prop} (h : Sm ok w v m) (hm : Mv F w w') (hk : ∀ i, ok i → ¬ F i) : Sm ok w' v m := by
  obtain ⟨b, g, c, W, h1, h2, h3, h4, h5⟩ := h
  exact ⟨b, g, c, W, h1, h2, h3, h4.mv hm (hk b h2) (hk g h3), h5⟩
theorem Sm.below (h : Sm ok w v m) (hb : Below w.heap.size w w') : Sm ok w' v m := h.mv (F := fun _ => False) (Mv.of_below hb) fun _ _ => id
theorem Sm.mono (h : Sm ok w v m) (hk : ∀ b, ok b → b < w.heap.size → ok' b) : Sm ok' w v m := by
  obtain ⟨b, g, c, W, h1, h2, h3, h4, h5⟩ := h
  exact ⟨b, g, c, W, h1, hk b h2 h4.blt, hk g h3 h4.glt, h4, h5⟩
end
/-- Three sets lie there: a block of three pointers; C colours the blocks: 1 its own, 2, 3, 4 those of its sets. -/
structure Al3 (C : Nat → Nat) (w : World) (p : Nat) (v1 v2 v3 : Value) (m1 m2 m3 : List Bool) : Prop where
  z0 : C 0 = 0
  old : ∀ i, C i ≠ 0 → i < w.heap.size
  col : C p = 1
  c0 : w.cell? ⟨p, 0, none⟩ = some v1
  c1 : w.cell? ⟨p, 1, none⟩ = some v2
  c2 : w.cell? ⟨p, 2, none⟩ = some v3
  s1 : Sm (fun b => C b = 2) w v1 m1
  s2 : Sm (fun b => C b = 3) w v2 m2
  s3 : Sm (fun b => C b = 4) w v3 m3
/-- An allocator of these kinds. -/
abbrev Al (C : Nat → Nat) (w : World) (p : Nat) (v1 v2 v3 : Value) (ks : List Nat) : Prop := Al3 C w p v1 v2 v3 (setK isC ks) (setK isS ks) (setK isP ks)
section
variable {C : Nat → Nat} {w w' : World} {p : Nat} {v1 v2 v3 : Value} {m1 m2 m3 m' : List Bool}
theorem Al3.mv {F : Nat → Prop} (h : Al3 C w p v1 v2 v3 m1 m2 m3) (hm : Mv F w w') (hF : ∀ i, F i → C i = 0) : Al3 C w' p v1 v2 v3 m1 m2 m3 := by
  have hn : ∀ i k, C i = k → k ≠ 0 → ¬ F i := fun i k h1 h2 h3 => h2 (by rw [← h1]; exact hF i h3)
  exact ⟨h.z0, fun i hi => Nat.lt_of_lt_of_le (h.old i hi) hm.size, h.col, hm.cell h.c0 (hn _ _ h.col (by decide)), hm.cell h.c1 (hn _ _ h.col (by decide)), hm.cell h.c2 (hn _ _ h.col (by decide)),
    h.s1.mv hm fun i hi => hn _ _ hi (by decide), h.s2.mv hm fun i hi => hn _ _ hi (by decide), h.s3.mv hm fun i hi => hn _ _ hi (by decide)⟩
theorem Al3.below (h : Al3 C w p v1 v2 v3 m1 m2 m3) (hb : Below w.heap.size w w') : Al3 C w' p v1 v2 v3 m1 m2 m3 := h.mv (F := fun _ => False) (Mv.of_below hb) fun _ h => h.elim
theorem Al3.lt (h : Al3 C w p v1 v2 v3 m1 m2 m3) : p < w.heap.size := cell_lt h.c0
/-- One of its sets turns. -/
theorem Al3.turn1 (h : Al3 C w p v1 v2 v3 m1 m2 m3) (hm : Mv (fun i => C i = 2) w w') (h1 : Sm (fun b => C b = 2) w' v1 m') : Al3 C w' p v1 v2 v3 m' m2 m3 := by
  have hn : ∀ i k, C i = k → k ≠ 2 → ¬ (C i = 2) := fun i k h1 h2 h3 => h2 (by rw [← h1]; exact h3)
  exact ⟨h.z0, fun i hi => Nat.lt_of_lt_of_le (h.old i hi) hm.size, h.col, hm.cell h.c0 (hn _ _ h.col (by decide)), hm.cell h.c1 (hn _ _ h.col (by decide)), hm.cell h.c2 (hn _ _ h.col (by decide)), h1, h.s2.mv hm fun i hi => hn _ _ hi (by decide), h.s3.mv hm fun i hi => hn _ _ hi (by decide)⟩
theorem Al3.turn2 (h : Al3 C w p v1 v2 v3 m1 m2 m3) (hm : Mv (fun i => C i = 3) w w') (h2 : Sm (fun b => C b = 3) w' v2 m') : Al3 C w' p v1 v2 v3 m1 m' m3 := by
  have hn : ∀ i k, C i = k → k ≠ 3 → ¬ (C i = 3) := fun i k h1 h2 h3 => h2 (by rw [← h1]; exact h3)
  exact ⟨h.z0, fun i hi => Nat.lt_of_lt_of_le (h.old i hi) hm.size, h.col, hm.cell h.c0 (hn _ _ h.col (by decide)), hm.cell h.c1 (hn _ _ h.col (by decide)), hm.cell h.c2 (hn _ _ h.col (by decide)), h.s1.mv hm fun i hi => hn _ _ hi (by decide), h2, h.s3.mv hm fun i hi => hn _ _ hi (by decide)⟩
theorem Al3.turn3 (h : Al3 C w p v1 v2 v3 m1 m2 m3) (hm : Mv (fun i => C i = 4) w w') (h3 : Sm (fun b => C b = 4) w' v3 m') : Al3 C w' p v1 v2 v3 m1 m2 m' := by
  have hn : ∀ i k, C i = k → k ≠ 4 → ¬ (C i = 4) := fun i k h1 h2 h3 => h2 (by rw [← h1]; exact h3)
  exact ⟨h.z0, fun i hi => Nat.lt_of_lt_of_le (h.old i hi) hm.size, h.col, hm.cell h.c0 (hn _ _ h.col (by decide)), hm.cell h.c1 (hn _ _ h.col (by decide)), hm.cell h.c2 (hn _ _ h.col (by decide)), h.s1.mv hm fun i hi => hn _ _ hi (by decide), h.s2.mv hm fun i hi => hn _ _ hi (by decide), h3⟩
end
/-- Add, Drop on a set that lies in blocks of one colour. -/
theorem addS_any (ok okz : Nat → Prop) (v : Value) (m : List Bool) (a : Option Addr) (cz : Nat) (zs : List Int) (w : World) (h : Sm ok w v m) (hz : Si okz w a zs) (hd : ∀ i, okz i → ¬ ok i) (hl : (zs.length : Int) ≤ 9223372036854775807) :
    Calls Tryd.prog 30 #[v, .slice a zs.length cz] w fun e w' => e = .returned (.int .i64 ((putTo true m zs zs.length).2 : Int)) ∧ Sm ok w' v (putTo true m zs zs.length).1 ∧ Mv ok w w' := by
  obtain ⟨b, g, c, W, rfl, h2, h3, h4, h5⟩ := h
  refine (add_any okz b g c m W a cz zs w h4 h5 hz (fun i hi e => hd i hi (by rw [e]; exact h3)) hl).mono ?_
  rintro e w' ⟨rfl, ⟨W', h6, h7⟩, h8⟩
  exact ⟨rfl, ⟨b, g, c, W', rfl, h2, h3, by rw [putTo_len]; exact h6, h7⟩, h8.sub fun i _ e => by subst e; exact h3⟩
theorem dropS_any (ok okz : Nat → Prop) (v : Value) (m : List Bool) (a : Option Addr) (cz : Nat) (zs : List Int) (w : World) (h : Sm ok w v m) (hz : Si okz w a zs) (hd : ∀ i, okz i → ¬ ok i) (hl : (zs.length : Int) ≤ 9223372036854775807) :
    Calls Tryd.prog 33 #[v, .slice a zs.length cz] w fun e w' => e = .returned (.int .i64 ((putTo false m zs zs.length).2 : Int)) ∧ Sm ok w' v (putTo false m zs zs.length).1 ∧ Mv ok w w' := by
  obtain ⟨b, g, c, W, rfl, h2, h3, h4, h5⟩ := h
  refine (drop_any okz b g c m W a cz zs w h4 h5 hz (fun i hi e => hd i hi (by rw [e]; exact h3)) hl).mono ?_
  rintro e w' ⟨rfl, ⟨W', h6, h7⟩, h8⟩
  exact ⟨rfl, ⟨b, g, c, W', rfl, h2, h3, by rw [putTo_len]; exact h6, h7⟩, h8.sub fun i _ e => by subst e; exact h3⟩

theorem pages_nil (w : World) : Calls Tryd.prog 27 #[.pointer none] w fun e w' => e = .returned (.int .i64 0) ∧ w = w' := by
  go_enter Tryd.func27, Tryd.ntmps27
  go_wp2_with fail
  go_ret
  exact ⟨rfl, rfl⟩
theorem pages_any {C : Nat → Nat} {p : Nat} {v1 v2 v3 : Value} {ks : List Nat} {w : World} (h : Al C w p v1 v2 v3 ks) :
    Calls Tryd.prog 27 #[.pointer (some ⟨p, 0, none⟩)] w fun e w' => e = .returned (.int .i64 (ks.length : Int)) ∧ w = w' := by
  have H := hid (size_any _ v1 _ w h.s1.bm)
  rw [setK_len] at H
  have hc := h.c0
  obtain ⟨n, hn⟩ : ∃ n, n = ks.length := ⟨_, rfl⟩
  rw [← hn] at H ⊢
  clear h hn
  go_enter Tryd.func27, Tryd.ntmps27
  go_wp2_with fail
  refine H.out.mono ?_
  rintro e w1 ⟨rfl, rfl⟩
  go_wp2_with fail
  go_ret
  exact ⟨rfl, rfl⟩
theorem setOf_any (n : Nat) (w : World) (h1 : (1 : Int) ≤ n) (h2 : (n : Int) ≤ 2048) :
    Calls Tryd.prog 45 #[.int .i64 (n : Int)] w fun e w' => (∃ v, e = .returned v ∧ NewSet w.heap.size w' v (List.replicate n false)) ∧ Below w.heap.size w w' := by
  have H := hid (new_empty n w h1 h2)
  go_enter Tryd.func45, Tryd.ntmps45
  go_wp2_with fail
  refine H.out.mono ?_
  clear H
  rintro e w1 ⟨⟨v, rfl, hv⟩, hb⟩
  have HV := hid hv
  have HB := hid hb
  clear hv hb
  go_wp2_with fail
  go_ret
  exact ⟨⟨_, rfl, HV.out⟩, HB.out⟩
/-- What a page is, as it is told. -/
def kindK (ks : List Nat) (no : Int) : Nat := if 0 ≤ no ∧ no < (ks.length : Int) then kd ks no.toNat else 5
theorem kindK_nat {ks : List Nat} {i : Nat} (h : i < ks.length) : kindK ks (i : Int) = kd ks i := by
  unfold kindK
  rw [if_pos ⟨by omega, by omega⟩]; rfl
theorem kindK_out {ks : List Nat} {no : Int} (h : ¬ (0 ≤ no ∧ no < (ks.length : Int))) : kindK ks no = 5 := if_neg h
theorem kind_nil (no : Int) (w : World) : Calls Tryd.prog 26 #[.pointer none, .int .i64 no] w fun e w' => e = .returned (.int .i64 5) ∧ w = w' := by
  by_cases h0 : no < 0
  · go_enter Tryd.func26, Tryd.ntmps26
    go_wp2_with fail
    go_ret
    exact ⟨rfl, rfl⟩
  · have H := hid (pages_nil w)
    have h1 : (0 : Int) ≤ no := by omega
    go_enter Tryd.func26, Tryd.ntmps26
    go_wp2_with fail
    refine H.out.mono ?_
    rintro e w1 ⟨rfl, rfl⟩
    go_wp2_with fail
    go_ret
    exact ⟨rfl, rfl⟩
theorem kind_any {C : Nat → Nat} {p : Nat} {v1 v2 v3 : Value} {ks : List Nat} {w : World} (no : Int) (h : Al C w p v1 v2 v3 ks) (hk : Ks ks) :
    Calls Tryd.prog 26 #[.pointer (some ⟨p, 0, none⟩), .int .i64 no] w fun e w' => e = .returned (.int .i64 (kindK ks no : Int)) ∧ Below w.heap.size w w' := by
  have HP := hid (pages_any h)
  obtain ⟨n, hn⟩ : ∃ n, n = ks.length := ⟨_, rfl⟩
  have HN := hid hn
  rw [← hn] at HP
  by_cases h0 : no < 0
  · have HR : Hid (kindK ks no = 5) := hid (kindK_out (by omega))
    clear h hk hn
    go_enter Tryd.func26, Tryd.ntmps26
    go_wp2_with fail
    go_ret
    exact ⟨by rw [HR.out]; rfl, Below.refl _ _⟩
  by_cases h1 : (n : Int) ≤ no
  · have HR : Hid (kindK ks no = 5) := hid (kindK_out (by omega))
    clear h hk hn
    go_enter Tryd.func26, Tryd.ntmps26
    go_wp2_with fail
    refine HP.out.mono ?_
    rintro e w1 ⟨rfl, rfl⟩
    go_wp2_with fail
    go_ret
    exact ⟨by rw [HR.out]; rfl, Below.refl _ _⟩
  obtain ⟨i, rfl⟩ := Int.eq_ofNat_of_zero_le (show (0 : Int) ≤ no by omega)
  have hi : i < ks.length := by omega
  have HR : Hid (kindK ks (i : Int) = kd ks i) := hid (kindK_nat hi)
  by_cases h2 : i < 2
  · have HZ : Hid (kd ks i = 0) := hid (by
      obtain rfl | rfl : i = 0 ∨ i = 1 := by omega
      · exact hk.k0
      · exact hk.k1)
    have h2' : (i : Int) < 2 := by omega
    clear h hk hn h2
    go_enter Tryd.func26, Tryd.ntmps26
    go_wp2_with fail
    refine HP.out.mono ?_
    rintro e w1 ⟨rfl, rfl⟩
    go_wp2_with fail
    go_ret
    exact ⟨by rw [HR.out, HZ.out]; rfl, Below.refl _ _⟩
  have h2' : (2 : Int) ≤ (i : Int) := by omega
  have hr := hk.rest i (by omega) hi
  have H3 : ∀ x, Below w.heap.size w x → Calls Tryd.prog 23 #[v3, .int .i64 (i : Int)] x fun e w' => e = .returned (.bool (isP (kd ks i))) ∧ Below x.heap.size x w' := fun x hx =>
    (has_any _ v3 _ (i : Int) x (h.below hx).s3.bm).mono fun e w' h => ⟨by rw [h.1, hasB_nat, inB_setK hi], h.2⟩
  have H1 : ∀ x, Below w.heap.size w x → Calls Tryd.prog 23 #[v1, .int .i64 (i : Int)] x fun e w' => e = .returned (.bool (isC (kd ks i))) ∧ Below x.heap.size x w' := fun x hx =>
    (has_any _ v1 _ (i : Int) x (h.below hx).s1.bm).mono fun e w' h => ⟨by rw [h.1, hasB_nat, inB_setK hi], h.2⟩
  have H2 : ∀ x, Below w.heap.size w x → Calls Tryd.prog 23 #[v2, .int .i64 (i : Int)] x fun e w' => e = .returned (.bool (isS (kd ks i))) ∧ Below x.heap.size x w' := fun x hx =>
    (has_any _ v2 _ (i : Int) x (h.below hx).s2.bm).mono fun e w' h => ⟨by rw [h.1, hasB_nat, inB_setK hi], h.2⟩
  have G3 := hid H3
  have G1 := hid H1
  have G2 := hid H2
  have HL := hid h
  have c2 := h.c2
  obtain ⟨k, hkk⟩ : ∃ k, k = kd ks i := ⟨_, rfl⟩
  rw [← hkk] at HR G1 G2 G3 hr
  have HRR : Hid (1 ≤ k ∧ k ≤ 4) := hid hr
  clear h hk hn hkk H1 H2 H3 h2 hi hr
  go_enter Tryd.func26, Tryd.ntmps26
  go_wp2_with fail
  refine HP.out.mono ?_
  rintro e w1 ⟨rfl, rfl⟩
  go_wp2_with fail
  refine (G3.out w (Below.refl _ _)).mono ?_
  clear c2
  rintro e w1 ⟨rfl, hb1⟩
  have HB1 := hid hb1
  clear hb1
  by_cases k4 : k = 4
  · subst k4
    have e1 : isP 4 = true := rfl
    go_wp2_with fail
    go_ret
    exact ⟨by rw [HR.out]; rfl, HB1.out⟩
  have e1 : isP k = false := by simp [isP, k4]
  have c0 := (HL.out.below HB1.out).c0
  go_wp2_with fail
  refine (G1.out w1 HB1.out).mono ?_
  clear c0
  rintro e w2 ⟨rfl, hb2⟩
  have HB2 : Hid (Below w.heap.size w w2) := hid (HB1.out.trans (hb2.mono HB1.out.size))
  clear hb2
  by_cases k2 : k = 2
  · subst k2
    have e2 : isC 2 = true := rfl
    go_wp2_with fail
    go_ret
    exact ⟨by rw [HR.out]; rfl, HB2.out⟩
  have e2 : isC k = false := by simp [isC, k4, k2]
  have c1 := (HL.out.below HB2.out).c1
  go_wp2_with fail
  refine (G2.out w2 HB2.out).mono ?_
  clear c1
  rintro e w3 ⟨rfl, hb3⟩
  have HB3 : Hid (Below w.heap.size w w3) := hid (HB2.out.trans (hb3.mono HB2.out.size))
  clear hb3
  by_cases k3 : k = 3
  · subst k3
    have e3 : isS 3 = true := rfl
    go_wp2_with fail
    go_ret
    exact ⟨by rw [HR.out]; rfl, HB3.out⟩
  have e3 : isS k = false := by simp [isS, k3]
  have HK1 : Hid (k = 1) := hid (by have := HRR.out; omega)
  go_wp2_with fail
  go_ret
  exact ⟨by rw [HR.out, HK1.out]; rfl, HB3.out⟩
end Go.Proofs.YtjgnnofpilmgoaaDoor
