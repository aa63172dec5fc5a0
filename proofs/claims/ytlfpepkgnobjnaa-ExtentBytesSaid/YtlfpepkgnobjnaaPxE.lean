/- CONTRACTS: At, Find, Of, Part. -/
import Derived.Test.YtlfpepkgnobjnaaPxD
namespace Go.Inc
theorem idxOf_at {x : Int} : ∀ {zs : List Int} {k : Nat}, k < zs.length → zs.getD k 0 = x → x ∉ zs.take k → zs.idxOf x = k
  | [], k, h, _, _ => by simp at h
  | z :: r, 0, _, he, _ => by
    have : z = x := by simpa using he
    subst this
    simp
  | z :: r, k + 1, h, he, hn => by
    have h1 : z ≠ x := fun e => hn (by rw [e]; simp)
    have h2 : x ∉ r.take k := fun hh => hn (by simp [hh])
    have ih := idxOf_at (zs := r) (k := k) (by simpa using h) (by simpa using he) h2
    have h3 : (z == x) = false := by rw [beq_eq_false_iff_ne]; exact h1
    simp [List.idxOf_cons, h3, ih]
/-- Where a number stands; -1 where it doesn't. -/
def ixZ (zs : List Int) (x : Int) : Int := if x ∈ zs then (zs.idxOf x : Int) else -1
end Go.Inc
namespace Go.Proofs.Ytlfpepkgnobjnaa
open Go.RowKit Go.Inc

theorem zeroX_cells (n : Nat) : (madeCells #[.int .i64 0, .int .i64 0] (n * 2)).toList = xcells (List.replicate n (0, 0)) := by
  have e : xcells (List.replicate n ((0 : Int), (0 : Int))) = List.replicate (n * 2) (.int .i64 0) := by
    induction n with
    | zero => rfl
    | succ n ih => rw [List.replicate_succ, show (n + 1) * 2 = n * 2 + 1 + 1 by omega, List.replicate_succ, List.replicate_succ]; simp only [xcells, ih]
  rw [e]
  apply List.ext_getElem?
  intro i
  by_cases h : i < n * 2
  · have h2 : i % 2 = 0 ∨ i % 2 = 1 := by omega
    rcases h2 with h2 | h2 <;> simp [madeCells, h, h2]
  · simp [madeCells, h]
theorem putX_cells (A B : List Xt) (y : Int) : ((xcells (A ++ (0, 0) :: B)).set (A.length * 2) (.int .i64 y)).set (A.length * 2 + 1) (.int .i64 1) = xcells (A ++ [(y, 1)] ++ B) := by
  rw [List.append_assoc, xcells_app, xcells_app, List.set_append, if_neg (by rw [xcells_len]; omega), xcells_len, Nat.sub_self, List.set_append, if_neg (by rw [xcells_len]; omega), xcells_len, show A.length * 2 + 1 - A.length * 2 = 1 from by omega]
  rfl
set_option maxRecDepth 20000 in
set_option maxHeartbeats 1500000 in
theorem zindex_any (ok : Nat → Prop) (a : Option Addr) (c : Nat) (zs : List Int) (x : Int) (w : World) (hs : Si ok w a zs) (hl : (zs.length : Int) ≤ 65536) (_hx : -9223372036854775808 ≤ x ∧ x ≤ 9223372036854775807) :
    Calls Try.prog 29 #[.slice a zs.length c, .int .i64 x] w fun e w' => e = .returned (.int .i64 (ixZ zs x)) ∧ Below w.heap.size w w' := by
  have HS : Hid (Si (fun b => b < w.heap.size) w a zs) := hid (hs.mono fun _ _ h => h)
  obtain ⟨n, hn⟩ : ∃ n, n = zs.length := ⟨_, rfl⟩
  have HN := hid hn
  rw [← hn] at hl ⊢
  clear hs hn
  go_enter Try.func29, Try.ntmps29
  go_wp2_with fail
  go_loopw [8] (fun i wr => ∃ k : Nat, k ≤ n ∧ i = .int .i64 (k : Int) ∧ x ∉ zs.take k ∧ Below w.heap.size w wr) (fun i _ => n - (intOf i).toNat)
  case atStart => exact ⟨0, Nat.zero_le _, rfl, by simp, Below.refl _ _⟩
  case round =>
    obtain ⟨k, hk, rfl, hni, hb⟩ := hrel
    have HNI := hid hni
    have HB := hid hb
    clear hni hb
    by_cases hlt : (k : Int) < n
    · have hkn : (k < n) = True := eq_true (by omega)
      obtain ⟨b, o, rfl, hck⟩ := siCell (HS.out.below HB.out) (k := k) (by have := HN.out; omega)
      have HSN := hid (takeSnoc (bs := zs) (d := 0) (k := k) (by have := HN.out; omega))
      have HM := hid (memGetD (zs := zs) (d := 0) (k := k) (by have := HN.out; omega))
      obtain ⟨y, hy⟩ : ∃ y, y = zs.getD k 0 := ⟨_, rfl⟩
      have HY := hid hy
      rw [← hy] at hck HSN HM
      clear hy
      by_cases hxy : x = y
      · have he : (x == y) = true := by rw [beq_iff_eq]; exact hxy
        have HO : Hid (ixZ zs x = (k : Int)) := hid (by
          unfold ixZ
          rw [if_pos (by rw [hxy]; exact HM.out), idxOf_at (by have := HN.out; omega) (by rw [hxy, HY.out]) HNI.out])
        clear hxy
        go_wp2_with fail
        go_ret
        exact ⟨by rw [HO.out]; rfl, HB.out⟩
      · have he : (x == y) = false := by rw [beq_eq_false_iff_ne]; exact hxy
        have HXY := hid hxy
        clear hxy
        go_wp2_with fail
        go_roundw
        case rel => exact ⟨k + 1, by omega, by go_num, by rw [HSN.out]; intro h; rcases snocMem.1 h with h | h; exact HNI.out h; exact HXY.out h, HB.out⟩
        case measure => simp [intOf]; omega
    · have hkf : (k < n) = False := eq_false (by omega)
      have HO : Hid (ixZ zs x = -1) := hid (if_neg (by have h := HNI.out; rw [show k = n by omega, HN.out, List.take_length] at h; exact h))
      clear hlt
      go_wp2_with fail
      go_ret
      exact ⟨by rw [HO.out]; rfl, HB.out⟩
set_option maxRecDepth 20000 in
set_option maxHeartbeats 1500000 in
theorem pxFind (ok : Nat → Prop) (a : Option Addr) (c : Nat) (xs : List Xt) (page : Int) (w : World) (hs : XtS ok w a xs) (hl : (xs.length : Int) ≤ 65536) (hbx : ∀ x ∈ xs, fitsX x) (hp : -9223372036854775808 ≤ page ∧ page ≤ 9223372036854775807) :
    Calls Try.prog 18 #[.slice a xs.length c, .int .i64 page] w fun e w' => (∃ k, e = .returned (.tuple #[.int .i64 k, .int .i64 (fdE xs page)]) ∧ (fdE xs page = 0 → k = ((pagesX xs).idxOf page : Int))) ∧ Below w.heap.size w w' := by
  have HO := hid (open_any ok a c xs w hs hl hbx)
  have hcb := chkX_bnd xs
  obtain ⟨n, hn⟩ : ∃ n, n = xs.length := ⟨_, rfl⟩
  rw [← hn] at hl HO ⊢
  obtain ⟨E, hE⟩ : ∃ E, E = chkX xs := ⟨_, rfl⟩
  rw [← hE] at hcb HO
  have HE := hid hE
  have HP := hid hp
  clear hs hbx hn hE
  go_enter Try.func18, Try.ntmps18
  go_wp2_with fail
  refine HO.out.mono ?_
  clear HO
  rintro e w1 ⟨⟨v, rfl, hv⟩, hb⟩
  have HB := hid hb
  by_cases h0 : E = 0
  · have hE0 : (E != 0) = false := by rw [h0]; rfl
    have H0 : Hid (chkX xs = 0) := hid (by rw [← HE.out, h0])
    subst h0
    obtain ⟨a2, c2, rfl, -, hsi, -, -, -⟩ := ownedZ hv
    have HIX := hid (zindex_any _ a2 c2 (pgX xs) page w1 hsi (by have := pgX_cnt xs; omega) HP.out)
    rw [pgX_good H0.out] at HIX ⊢
    obtain ⟨m, hm⟩ : ∃ m, m = (pagesX xs).length := ⟨_, rfl⟩
    rw [← hm] at HIX ⊢
    clear hv hb hsi hm
    go_wp2_with fail
    by_cases hin : page ∈ pagesX xs
    · have HIN := hid hin
      rw [show ixZ (pagesX xs) page = (((pagesX xs).idxOf page : Nat) : Int) from if_pos hin] at HIX
      obtain ⟨q, hq⟩ : ∃ q, q = (pagesX xs).idxOf page := ⟨_, rfl⟩
      rw [← hq] at HIX
      have HQ := hid hq
      have hq0 : decide ((q : Int) < 0) = false := decide_eq_false (by omega)
      clear hin hq
      refine HIX.out.mono ?_
      clear HIX
      rintro e w2 ⟨rfl, hb2⟩
      have HB2 : Hid (Below w.heap.size w w2) := hid (HB.out.trans (hb2.mono HB.out.size))
      clear hb2
      go_wp2_with fail
      go_ret2
      exact ⟨⟨_, by rw [fdE_in H0.out HIN.out]; rfl, fun _ => by rw [← HQ.out]⟩, HB2.out⟩
    · have HIN := hid hin
      rw [show ixZ (pagesX xs) page = -1 from if_neg hin] at HIX
      clear hin
      refine HIX.out.mono ?_
      clear HIX
      rintro e w2 ⟨rfl, hb2⟩
      have HB2 : Hid (Below w.heap.size w w2) := hid (HB.out.trans (hb2.mono HB.out.size))
      clear hb2
      go_wp2_with fail
      go_ret2
      exact ⟨⟨_, by rw [fdE_out H0.out HIN.out]; rfl, fun h => by rw [fdE_out H0.out HIN.out] at h; cases h⟩, HB2.out⟩
  · have hE0 : (E != 0) = true := by rw [bne_iff_ne]; exact h0
    have HF : Hid (fdE xs page = E) := hid (by rw [HE.out]; exact fdE_bad (by rw [← HE.out]; exact h0))
    have H0 := hid h0
    clear h0 hv hb
    go_wp2_with fail
    go_ret2
    exact ⟨⟨_, by rw [HF.out]; rfl, fun h => absurd (HF.out.symm.trans h) H0.out⟩, HB.out⟩
set_option maxRecDepth 20000 in
set_option maxHeartbeats 1500000 in
theorem pxAt (ok : Nat → Prop) (a : Option Addr) (c : Nat) (xs : List Xt) (i : Int) (w : World) (hs : XtS ok w a xs) (hl : (xs.length : Int) ≤ 65536) (hbx : ∀ x ∈ xs, fitsX x) (hp : -9223372036854775808 ≤ i ∧ i ≤ 9223372036854775807) :
    Calls Try.prog 17 #[.slice a xs.length c, .int .i64 i] w fun e w' => (∃ p, e = .returned (.tuple #[.int .i64 p, .int .i64 (atE xs i)]) ∧ (atE xs i = 0 → p = (pagesX xs).getD i.toNat 0)) ∧ Below w.heap.size w w' := by
  have HO := hid (open_any ok a c xs w hs hl hbx)
  have hcb := chkX_bnd xs
  obtain ⟨n, hn⟩ : ∃ n, n = xs.length := ⟨_, rfl⟩
  rw [← hn] at hl HO ⊢
  obtain ⟨E, hE⟩ : ∃ E, E = chkX xs := ⟨_, rfl⟩
  rw [← hE] at hcb HO
  have HE := hid hE
  clear hs hbx hn hE
  go_enter Try.func17, Try.ntmps17
  go_wp2_with fail
  refine HO.out.mono ?_
  clear HO
  rintro e w1 ⟨⟨v, rfl, hv⟩, hb⟩
  have HB := hid hb
  by_cases h0 : E = 0
  · have hE0 : (E != 0) = false := by rw [h0]; rfl
    have H0 : Hid (chkX xs = 0) := hid (by rw [← HE.out, h0])
    subst h0
    have hpc := pages_cnt H0.out
    rw [pgX_good H0.out] at hv
    obtain ⟨a2, c2, rfl, -, hsi, -, -, -⟩ := ownedZ hv
    have HSI := hid hsi
    obtain ⟨m, hm⟩ : ∃ m, m = (pagesX xs).length := ⟨_, rfl⟩
    have HM := hid hm
    rw [← hm] at hpc ⊢
    clear hv hb hsi hm
    by_cases hi0 : i < 0
    · have hd : decide (i < 0) = true := decide_eq_true hi0
      have HA : Hid (atE xs i = 10) := hid (atE_out H0.out (.inl hi0))
      clear hi0
      go_wp2_with fail
      go_ret2
      exact ⟨⟨_, by rw [HA.out]; rfl, fun h => by rw [HA.out] at h; cases h⟩, HB.out⟩
    · have hd : decide (i < 0) = false := decide_eq_false hi0
      obtain ⟨j, rfl⟩ := Int.eq_ofNat_of_zero_le (show (0 : Int) ≤ i by omega)
      by_cases him : (m : Int) ≤ (j : Int)
      · have hd2 : (m ≤ j) = True := eq_true (by omega)
        have HA : Hid (atE xs (j : Int) = 10) := hid (atE_out H0.out (.inr (by rw [← HM.out]; exact him)))
        clear hi0 him
        go_wp2_with fail
        go_ret2
        exact ⟨⟨_, by rw [HA.out]; rfl, fun h => by rw [HA.out] at h; cases h⟩, HB.out⟩
      · have hd2 : (m ≤ j) = False := eq_false (by omega)
        have HA : Hid (atE xs (j : Int) = 0) := hid (atE_in H0.out (by omega) (by rw [← HM.out]; omega))
        obtain ⟨b, o, rfl, hck⟩ := siCell HSI.out (k := j) (by rw [← HM.out]; omega)
        obtain ⟨y, hy⟩ : ∃ y, y = (pagesX xs).getD j 0 := ⟨_, rfl⟩
        have HY := hid hy
        rw [← hy] at hck
        have hjm : (j : Int) < m := by omega
        have hjm2 : (j < m) = True := eq_true (by omega)
        clear hi0 him hy
        go_wp2_with fail
        go_ret2
        exact ⟨⟨_, by rw [HA.out]; rfl, fun _ => HY.out⟩, HB.out⟩
  · have hE0 : (E != 0) = true := by rw [bne_iff_ne]; exact h0
    have HF : Hid (atE xs i = E) := hid (by rw [HE.out]; exact atE_bad (by rw [← HE.out]; exact h0))
    have H0 := hid h0
    clear h0 hv hb
    go_wp2_with fail
    go_ret2
    exact ⟨⟨_, by rw [HF.out]; rfl, fun h => absurd (HF.out.symm.trans h) H0.out⟩, HB.out⟩

set_option maxRecDepth 20000 in
set_option maxHeartbeats 4000000 in
theorem pxOf (ok : Nat → Prop) (a : Option Addr) (c : Nat) (ps : List Int) (w : World) (hs : Si ok w a ps) (hl : (ps.length : Int) ≤ 65536) (hz : ∀ z ∈ ps, -9223372036854775808 ≤ z ∧ z ≤ 9223372036854775807) :
    Calls Try.prog 6 #[.slice a ps.length c] w fun e w' => (∃ v, e = .returned (.tuple #[v, .int .i64 (ofE ps)]) ∧ w'.ownsRow w.heap.size 57 2 v (ofX ps).length (xcells (ofX ps))) ∧ Below w.heap.size w w' := by
  obtain ⟨i0, hi, hz0, hz1, hz2⟩ := info_parts infoPX
  have HI := hid (And.intro hi (And.intro hz0 (And.intro hz1 hz2)))
  have HS : Hid (Si (fun b => b < w.heap.size) w a ps) := hid (hs.mono fun _ _ h => h)
  have HZ := hid hz
  obtain ⟨n, hn⟩ : ∃ n, n = ps.length := ⟨_, rfl⟩
  have HN := hid hn
  rw [← hn] at hl ⊢
  clear hs hi hz0 hz1 hz2 hn hz
  go_enter Try.func6, Try.ntmps6
  go_wp2_with (refine wpList_make_full _ rfl _ _ 23 rfl w.heap.size 57 i0 (.agg #[.int .i64 0, .int .i64 0]) 2 Try.underlying23 HI.out.1 HI.out.2.1 HI.out.2.2.1 .i64 .i64 _ _ n rfl rfl rfl rfl (by rw [HI.out.2.2.2]; omega) (by unfold maxLen; omega) (Nat.le_refl _) ?_)
  intro w1 hown hg
  have HR : Hid (w1.ownsRow w.heap.size 57 2 (.slice (some ⟨w.heap.size, 0, none⟩) n n) n (xcells (onesX (ps.take 0) ++ List.replicate (n - 0) (0, 0)))) := hid (by
    have e : (madeCells #[.int .i64 0, .int .i64 0] (n * 2)).toList = xcells (List.replicate n (0, 0)) := zeroX_cells n
    rw [e] at hown
    exact hown)
  have HB1 : Hid (Below w.heap.size w w1) := hid ⟨hg.os, hg.tape, hg.output, hg.size, fun i hi => hg.block i hi (by simp)⟩
  clear hown hg
  go_wp2_with fail
  go_loopw [12] (fun i wr => ∃ k : Nat, k ≤ n ∧ i = .int .i64 (k : Int) ∧ wr.ownsRow w.heap.size 57 2 (.slice (some ⟨w.heap.size, 0, none⟩) n n) n (xcells (onesX (ps.take k) ++ List.replicate (n - k) (0, 0))) ∧ Below w.heap.size w wr) (fun i _ => n - (intOf i).toNat)
  case atStart => exact ⟨0, Nat.zero_le _, rfl, HR.out, HB1.out⟩
  case round =>
    clear HR HB1
    obtain ⟨k, hk, rfl, hr, hb⟩ := hrel
    have HR := hid hr
    have HB := hid hb
    clear hr hb
    by_cases hlt : (k : Int) < n
    · have hkn : (k < n) = True := eq_true (by omega)
      obtain ⟨b, o, rfl, hck⟩ := siCell (HS.out.below HB.out) (k := k) (by have := HN.out; omega)
      have HSN := hid (takeSnoc (bs := ps) (d := 0) (k := k) (by have := HN.out; omega))
      obtain ⟨y, hy⟩ : ∃ y, y = ps.getD k 0 := ⟨_, rfl⟩
      rw [← hy] at hck HSN
      have hrow := HR.out
      have hrep : List.replicate (n - k) ((0 : Int), (0 : Int)) = (0, 0) :: List.replicate (n - (k + 1)) (0, 0) := by
        rw [show n - k = n - (k + 1) + 1 by omega, List.replicate_succ]
      have hAl : (onesX (ps.take k)).length = k := by rw [onesX_len, List.length_take]; have := HN.out; omega
      rw [hrep] at hrow
      have hget := xcells_get (onesX (ps.take k) ++ (0, 0) :: List.replicate (n - (k + 1)) (0, 0)) k (by simp [hAl])
      have hg0 : (onesX (ps.take k) ++ (0, 0) :: List.replicate (n - (k + 1)) (0, 0)).getD k (0, 0) = (0, 0) := by
        rw [List.getD_eq_getElem?_getD, List.getElem?_append_right (by omega), hAl, Nat.sub_self]; rfl
      rw [hg0] at hget
      have hs1 := (hrow.stored (k * 2) (.int .i64 y)).1
      have hs2 := (hs1.stored (k * 2 + 1) (.int .i64 1)).1
      have hc1 : wr.cell? ⟨w.heap.size, k * 2, none⟩ = some (.int .i64 0) := by
        have h := hrow.cells (g := w.heap.size) rfl (k * 2) _ hget.1
        rw [Addr.add_lit] at h
        simpa only [Nat.zero_add] using h
      have hc2 : (wr.setCell ⟨w.heap.size, k * 2, none⟩ (.int .i64 y)).cell? ⟨w.heap.size, k * 2 + 1, none⟩ = some (.int .i64 0) := by
        have h := hs1.cells (g := w.heap.size) rfl (k * 2 + 1) (.int .i64 0) (by rw [List.getElem?_set_ne (by omega)]; exact hget.2)
        rw [Addr.add_lit] at h
        simpa only [Nat.zero_add] using h
      have hfz1 := hrow.frozenAt (k * 2)
      have hfz2 := hs1.frozenAt (k * 2 + 1)
      have HR2 : Hid (((wr.setCell ⟨w.heap.size, k * 2, none⟩ (.int .i64 y)).setCell ⟨w.heap.size, k * 2 + 1, none⟩ (.int .i64 1)).ownsRow w.heap.size 57 2 (.slice (some ⟨w.heap.size, 0, none⟩) n n) n (xcells (onesX (ps.take (k + 1)) ++ List.replicate (n - (k + 1)) (0, 0)))) := hid (by
        have h := putX_cells (onesX (ps.take k)) (List.replicate (n - (k + 1)) (0, 0)) y
        rw [hAl] at h
        rw [h] at hs2
        rw [HSN.out, onesX_snoc]
        exact hs2)
      have HB2 : Hid (Below w.heap.size w ((wr.setCell ⟨w.heap.size, k * 2, none⟩ (.int .i64 y)).setCell ⟨w.heap.size, k * 2 + 1, none⟩ (.int .i64 1))) := hid ((HB.out.setCell (p := ⟨w.heap.size, k * 2, none⟩) (Nat.le_refl _) _).setCell (p := ⟨w.heap.size, k * 2 + 1, none⟩) (Nat.le_refl _) _)
      clear hy hrow hrep hAl hget hg0 hs1 hs2 HR HB
      go_wp2_with fail
      go_roundw
      case rel => exact ⟨k + 1, by omega, by go_num, HR2.out, HB2.out⟩
      case measure => simp [intOf]; omega
    · have hkf : (k < n) = False := eq_false (by omega)
      have HKN : Hid (k = n) := hid (by omega)
      have HR3 : Hid (wr.ownsRow w.heap.size 57 2 (.slice (some ⟨w.heap.size, 0, none⟩) n n) n (xcells (onesX ps))) := hid (by
        have h := HR.out
        rw [HKN.out, Nat.sub_self, List.replicate_zero, List.append_nil, HN.out, List.take_length] at h
        rw [HN.out]
        exact h)
      obtain ⟨a2, c2, hv2, -, hxs, -, -, -⟩ := ownedX HR3.out
      have HGA := hid (gather_any _ a2 c2 (onesX ps) wr hxs (by rw [onesX_len, ← HN.out]; exact hl) (fun x hx => by
        obtain ⟨p, hp, rfl⟩ := List.mem_map.1 hx
        have := HZ.out p hp
        unfold fitsX
        simp only
        omega))
      rw [← hv2, ones_gaE, ones_gaX] at HGA
      clear hlt hv2 hxs
      go_wp2_with fail
      refine HGA.out.mono ?_
      clear HGA
      rintro e w3 ⟨⟨v, rfl, hv⟩, hb3⟩
      have HB3 : Hid (Below w.heap.size w w3) := hid (HB.out.trans (hb3.mono HB.out.size))
      have HV3 : Hid (w3.ownsRow w.heap.size 57 2 v (ofX ps).length (xcells (ofX ps))) := hid (ownsWeaken hv HB.out.size)
      clear hv hb3
      go_wp2_with fail
      go_ret2
      exact ⟨⟨_, rfl, HV3.out⟩, HB3.out⟩
end Go.Proofs.Ytlfpepkgnobjnaa
