/- CONTRACTS OF THE DOCUMENT's DEVICE: syncing. -/
import Derived.Test.YtgppmnaidgkboaaRefE
namespace Go.Proofs.Ytgppmnaidgkboaa
open Go.RowKit Go.Inc

/-- A page is laid. -/
theorem RefAt.setP {K w h b len c llv P L R} (H : RefAt K w h (.slice (some ⟨b, 0, none⟩) len c) llv P L R) (hlen : len = P.length) {no : Nat} {q : Item} (hq : Good K w q) :
    RefAt K (w.setCell ⟨b, no, none⟩ (.slice q.a 256 q.c)) h (.slice (some ⟨b, 0, none⟩) len c) llv (P.set no q) L { R with P := R.P.set no q.b } ∧ Mv (fun x => x = b) w (w.setCell ⟨b, no, none⟩ (.slice q.a 256 q.c)) := by
  have hKb : K b = 2 := H.kp b rfl
  have hg : w.grownBy (w.setCell ⟨b, no, none⟩ (.slice q.a 256 q.c)) (some b) := grown_setCell (grown_refl _ _) (.inl rfl) _
  have hm : Mv (fun x => x = b) w (w.setCell ⟨b, no, none⟩ (.slice q.a 256 q.c)) := Mv.of_grown hg fun g h _ => by cases h; rfl
  have hn : ∀ x, K x ≠ 2 → ¬ x = b := fun x hx e => hx (by rw [e]; exact hKb)
  refine ⟨{ H with
    row := hm.row H.row (hn h (by rw [H.kh]; decide))
    ld := ?_
    ll := owns_mv H.ll hm fun x hx => hn x (by rw [H.kl x hx]; decide)
    pall := fun x hx => ?_
    lall := fun e he => ⟨(H.lall e he).1.mv hm fun x hx => by rw [hx, hKb]; decide, by rw [List.length_set]; exact (H.lall e he).2⟩
    pe := by show R.P.set no q.b = _; rw [H.pe, List.map_set]
    lt := fun x hx => Nat.lt_of_lt_of_le (H.lt x hx) hm.size }, hm⟩
  · have hld := H.ld
    rw [hlen] at hld ⊢
    have := (hld.stored no (.slice q.a 256 q.c)).1
    rw [List.length_set, List.map_set]
    exact this
  · rcases List.mem_or_eq_of_mem_set hx with hx | hx
    · exact (H.pall x hx).mv hm fun x hx => by rw [hx, hKb]; decide
    · subst hx
      exact hq.mv hm fun x hx => by rw [hx, hKb]; decide

def syncI (P : List Item) (L : List (Int × Item)) : List Item := L.foldl (fun P e => P.set e.1.toNat e.2) P
def syncB (P : List (List Nat)) (L : List (Int × List Nat)) : List (List Nat) := L.foldl (fun P e => P.set e.1.toNat e.2) P
theorem syncI_snoc (P : List Item) {L : List (Int × Item)} {j : Nat} {e : Int × Item} (h : L[j]? = some e) : syncI P (L.take (j + 1)) = (syncI P (L.take j)).set e.1.toNat e.2 := by
  obtain ⟨hj, he⟩ := List.getElem?_eq_some_iff.1 h
  unfold syncI
  rw [List.take_succ_eq_append_getElem hj, List.foldl_append, he]
  rfl
theorem syncI_len (P : List Item) (L : List (Int × Item)) : (syncI P L).length = P.length := by
  induction L generalizing P with
  | nil => rfl
  | cons e r ih =>
    show (syncI (P.set e.1.toNat e.2) r).length = _
    rw [ih, List.length_set]
theorem syncI_b : ∀ (L : List (Int × Item)) (P : List Item), (syncI P L).map Item.b = syncB (P.map Item.b) (L.map fun e => (e.1, e.2.b))
  | [], _ => rfl
  | e :: r, P => by
    show (syncI (P.set e.1.toNat e.2) r).map Item.b = syncB ((P.map Item.b).set e.1.toNat e.2.b) (r.map _)
    rw [syncI_b r, List.map_set]
theorem syncB_len : ∀ (L : List (Int × List Nat)) (P : List (List Nat)), (syncB P L).length = P.length
  | [], _ => rfl
  | e :: r, P => by
    show (syncB (P.set e.1.toNat e.2) r).length = _
    rw [syncB_len r, List.length_set]
theorem syncB_get {k : Nat} : ∀ (L : List (Int × List Nat)) (P : List (List Nat)), k < P.length → (∀ e ∈ L, 0 ≤ e.1) → (syncB P L).getD k [] = lastOr (P.getD k []) (vsOf L k)
  | [], P, _, _ => rfl
  | e :: r, P, hk, hL => by
    show (syncB (P.set e.1.toNat e.2) r).getD k [] = _
    have he := hL e List.mem_cons_self
    rw [syncB_get r _ (by rw [List.length_set]; exact hk) fun x hx => hL x (List.mem_cons_of_mem _ hx)]
    unfold vsOf
    by_cases h : e.1 = (k : Int)
    · have hk' : e.1.toNat = k := by omega
      simp only [h, decide_true, List.filter_cons_of_pos, List.map_cons]
      rw [lastOr_cons]
      congr 1
      rw [List.getD_eq_getElem?_getD, show ((k : Int)).toNat = k from rfl, List.getElem?_set_self hk]
      rfl
    · have hk' : e.1.toNat ≠ k := by omega
      rw [List.filter_cons_of_neg (by simpa using h)]
      congr 1
      rw [List.getD_eq_getElem?_getD, List.getElem?_set_ne hk', List.getD_eq_getElem?_getD]

theorem rsync_down {K w h ldv llv P L R} (H : RefAt K w h ldv llv P L R) (ho : R.off = true) : Calls Try.prog 16 #[.pointer (some ⟨h, 0, none⟩)] w fun e w' => e = .returned (.int .i64 9) ∧ w = w' := by
  have c2 := H.row.c2
  rw [ho] at c2
  clear H ho
  go_enter Try.func16, Try.ntmps16
  go_wp2
  go_ret
  exact ⟨rfl, rfl⟩
theorem rsync_spent {K w h ldv llv P L R} (H : RefAt K w h ldv llv P L R) (ho : R.off = false) (h0 : R.left = 0) :
    Calls Try.prog 16 #[.pointer (some ⟨h, 0, none⟩)] w fun e w' => e = .returned (.int .i64 9) ∧ RefAt K w' h ldv llv P L { R with off := true } ∧ Mv (fun b => b = h) w w' := by
  have c2 := H.row.c2
  rw [ho] at c2
  have HU := hid (use_any H)
  have hd : decide (R.left ≠ 0) = false := by simp [h0]
  have he : ({ R with off := R.off || decide (R.left = 0), left := useLeft R.left } : Rs) = { R with off := true } := by
    rw [ho, h0]; rfl
  rw [hd, he] at HU
  clear H ho h0 hd he
  go_enter Try.func16, Try.ntmps16
  go_wp2_with fail
  refine HU.out.mono ?_
  rintro e w1 ⟨rfl, hr, hm⟩
  have HR := hid hr
  have HM := hid hm
  clear hr hm
  go_wp2_with fail
  go_ret
  exact ⟨rfl, HR.out, HM.out⟩

set_option maxRecDepth 20000 in
set_option maxHeartbeats 2000000 in
theorem rsync_any {K w h ldv llv P L R} (H : RefAt K w h ldv llv P L R) (hp : 0 < P.length) (hpl : P.length ≤ 20) (hll : L.length ≤ 1000) (ho : R.off = false) (h0 : R.left ≠ 0) (ht : R.t ≤ 1000000) :
    Calls Try.prog 16 #[.pointer (some ⟨h, 0, none⟩)] w fun e w' => e = .returned (.int .i64 0) ∧ RefAt K w' h ldv (.slice none 0 0) (syncI P L) [] { R with P := syncB R.P R.L, L := [], left := useLeft R.left, t := R.t + 1 } ∧ Mv (fun b => K b ≠ 0) w w' := by
  have c2 := H.row.c2
  rw [ho] at c2
  have HU := hid (use_any H)
  have hd : decide (R.left ≠ 0) = true := by simp [h0]
  have he : ({ R with off := R.off || decide (R.left = 0), left := useLeft R.left } : Rs) = { R with left := useLeft R.left } := by
    have : decide (R.left = 0) = false := by simp [h0]
    rw [this, ho]
    obtain ⟨p, l, off, left, r, s, t⟩ := R
    simp only at ho
    subst ho
    rfl
  rw [hd, he] at HU
  obtain ⟨pb, pc, rfl, hpc, hpm, hKp, _⟩ := H.pshape hp
  have HH := hid H
  have HT := hid ht
  have HPl := hid hpl
  have hpl20 : (P.length : Int) ≤ 20 := by omega
  clear H ho h0 hd he hpm
  go_enter Try.func16, Try.ntmps16
  go_wp2_with fail
  refine HU.out.mono ?_
  rintro e w1 ⟨rfl, hr, hm⟩
  have HM := hid hm
  have c6 := hr.row.c6
  have f6 := hr.row.fz 6
  obtain ⟨t, htt⟩ : ∃ t, t = R.t := ⟨_, rfl⟩
  have c6' : w1.cell? ⟨h, 6, none⟩ = some (.int .i64 t) := by rw [htt]; exact c6
  have htb : (0 : Int) ≤ t ∧ t ≤ 1000000 := by have := HT.out; have h := hr.cnt.2.2; simp only at h; rw [htt]; omega
  have hm2 : Mv (fun b => b = h) w1 (w1.setCell ⟨h, 6, none⟩ (.int .i64 (t + 1))) := Mv.of_grown (r := some h) (grown_setCell (grown_refl _ _) (.inl rfl) _) fun g h _ => by cases h; rfl
  have hR2 := hr.turn hm2 (fun _ h => h) (hr.row.s6 (t + 1)) hr.lb (by have h := hr.cnt; simp only at h ⊢; omega)
  obtain ⟨w2, hw2⟩ : ∃ w2, w2 = w1.setCell ⟨h, 6, none⟩ (.int .i64 (t + 1)) := ⟨_, rfl⟩
  rw [← hw2] at hm2 hR2
  have HW2 := hid hw2
  have HM2 : Hid (Mv (fun b => b = h ∨ b = pb) w w2) := hid ((hm.trans hm2).sub fun _ _ h => .inl h)
  obtain ⟨R2, hR2e⟩ : ∃ R2 : Rs, R2 = { P := R.P, L := R.L, off := R.off, left := useLeft R.left, r := R.r, s := R.s, t := t + 1 } := ⟨_, rfl⟩
  have hR2' : RefAt K w2 h (.slice (some ⟨pb, 0, none⟩) P.length pc) llv P L R2 := by rw [hR2e]; exact hR2
  have HR2 := hid hR2'
  have HRE := hid hR2e
  have HTT := hid htt
  clear hr hm hm2 hw2 hR2 hR2' hR2e htt c6
  obtain ⟨la, lc, hle, hlc1, hlc2, _⟩ := HR2.out.lshape
  obtain ⟨m, hmL⟩ : ∃ m, m = L.length := ⟨_, rfl⟩
  have HML := hid hmL
  have hm1000 : m ≤ 1000 := by omega
  rw [← hmL] at hle hlc1
  subst hle
  clear hmL hlc2
  obtain ⟨p, hpP⟩ : ∃ p, p = P.length := ⟨_, rfl⟩
  rw [← hpP] at HR2 hpl20 hpc HH
  have HPP := hid hpP
  clear hpP hp
  go_wp2_with fail
  rw [← HW2.out]
  go_loopw [3] (fun i wr => ∃ j : Nat, j ≤ m ∧ i = .int .i64 (j : Int) ∧ RefAt K wr h (.slice (some ⟨pb, 0, none⟩) p pc) (.slice la m lc) (syncI P (L.take j)) L { R2 with P := (syncI P (L.take j)).map Item.b } ∧ Mv (fun b => b = h ∨ b = pb) w wr) (fun i _ => m - (intOf i).toNat)
  case atStart =>
    refine ⟨0, Nat.zero_le _, rfl, ?_, HM2.out⟩
    have h2 := HR2.out
    have hpe : R2.P = P.map Item.b := h2.pe
    show RefAt K w2 h _ _ P L { R2 with P := P.map Item.b }
    rw [← hpe]
    exact h2
  case round =>
    obtain ⟨j, hj, rfl, hr, hm⟩ := hrel
    have HR := hid hr
    have HM3 := hid hm
    have c0 := hr.row.c0
    have c1 := hr.row.c1
    by_cases hlt : (j : Int) < m
    · obtain ⟨e, he⟩ : ∃ e, L[j]? = some e := ⟨_, List.getElem?_eq_getElem (by rw [← HML.out]; omega)⟩
      obtain ⟨la', lc', hle', _, _, hlcell⟩ := hr.lshape
      simp only [Value.slice.injEq] at hle'
      obtain ⟨b', hb', hKb', e0, e1⟩ := hlcell j e he
      rw [hb'] at hle'
      obtain ⟨hg1, hg2, hg3⟩ := hr.lall e (List.mem_of_getElem? he)
      rw [syncI_len, ← HPP.out] at hg3
      obtain ⟨no, hno⟩ := Int.eq_ofNat_of_zero_le hg2
      have hpc0 := HR.out.pshape (by rw [syncI_len, ← HPP.out]; omega)
      obtain ⟨pb', pc', hpe', -, -, -, hpcell⟩ := hpc0
      simp only [Value.slice.injEq, Option.some.injEq, Addr.mk.injEq, and_true] at hpe'
      have hpe1 := hpe'.1
      clear hpe'
      subst hpe1
      obtain ⟨q, hq⟩ : ∃ q, (syncI P (L.take j))[no]? = some q := ⟨_, List.getElem?_eq_getElem (by rw [syncI_len, ← HPP.out]; omega)⟩
      have hold := hpcell no q hq
      have hld0 := HR.out.ld
      rw [syncI_len, ← HPP.out] at hld0
      have hfz : wr.frozen? ⟨pb, no, none⟩ = false := hld0.frozenAt no
      have hset := hr.setP (by rw [syncI_len, ← HPP.out]) (no := no) (q := e.2) hg1
      have hsn := hid (syncI_snoc P he)
      obtain ⟨x, q'⟩ := e
      simp only at hno e0 e1 hset
      subst hno
      obtain ⟨hle1, hle2, hle3⟩ := hle'
      subst hle1
      have HSET := hid hset
      have hnoi : (no : Int) < p ∧ (0 : Int) ≤ no := by simp only at hg3; omega
      clear hset he hlcell hg1 hg2 hg3 hpcell hq hr hm hld0 hle2 hle3 hKb'
      go_wp2_with fail
      go_still_tail 21, mixed
      change wpList _ _ _ _ _ wr.drew
      obtain ⟨w4, hw4⟩ : ∃ w4, w4 = (wr.setCell ⟨pb, no, none⟩ (.slice q'.a 256 q'.c)).drew := ⟨_, rfl⟩
      have HW4 := hid hw4
      have HR4 : Hid (RefAt K w4 h (.slice (some ⟨pb, 0, none⟩) p pc) (.slice (some ⟨b', 0, none⟩) m lc) (syncI P (L.take (j + 1))) L { R2 with P := (syncI P (L.take (j + 1))).map Item.b }) := hid (by
        have h4 := HSET.out.1.keep (w' := w4) (F := fun _ => False) (by rw [hw4]; exact (Mv.refl _ _).drew) fun _ h => h.elim
        rw [hsn.out, List.map_set]
        exact h4)
      have HM4 : Hid (Mv (fun b => b = h ∨ b = pb) w w4) := hid (by rw [hw4]; exact (HM3.out.trans (HSET.out.2.sub fun b _ e => .inr e)).drew)
      clear hw4
      go_wp2_with fail
      have hww : w4 = (wr.setCell ⟨pb, no, none⟩ (.slice q'.a 256 q'.c)).drew := HW4.out
      rw [← hww]
      clear hww
      go_roundw
      case rel => exact ⟨j + 1, by omega, by go_num, HR4.out, HM4.out⟩
      case measure => simp [intOf]; omega
    · have hge : (m : Int) ≤ j := by omega
      have hjm : Hid (L.take j = L) := hid (by rw [List.take_of_length_le]; rw [← HML.out]; omega)
      have f1 := hr.row.fz 1
      clear hlt hr hm
      go_wp2_with fail
      go_ret
      have h1 := HR.out
      rw [hjm.out] at h1
      have hm1 : Mv (fun b => b = h) wr (wr.setCell ⟨h, 1, none⟩ (.slice none 0 0)) := Mv.of_grown (r := some h) (grown_setCell (grown_refl _ _) (.inl rfl) _) fun g h _ => by cases h; rfl
      have h2 := h1.emptied hm1 (fun _ h => h) (h1.row.s1 (.slice none 0 0)) h1.lb h1.cnt
      have hKh : K h ≠ 0 := by rw [HH.out.kh]; decide
      refine ⟨rfl, ?_, ((HM3.out.sub fun b _ e => by
        rcases e with e | e
        · subst e; exact hKh
        · subst e; show K _ ≠ 0; rw [hKp]; decide).trans (hm1.sub fun b _ e => by subst e; exact hKh))⟩
      rw [← HPP.out]
      have hst : ({ R with P := syncB R.P R.L, L := [], left := useLeft R.left, t := R.t + 1 } : Rs) = { R2 with P := (syncI P L).map Item.b, L := [] } := by
        rw [HRE.out, syncI_b, HH.out.pe, HH.out.le, HTT.out]
      rw [hst]
      exact h2
end Go.Proofs.Ytgppmnaidgkboaa
