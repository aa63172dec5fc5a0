/- CONTRACTS (suffix, as it landed): the closure that compares by two ranks; ranks anew. -/
import Derived.Test.YtclpoconppmapaaSuX
import Derived.Test.YtclpoconppmapaaSuW
namespace Go.Proofs.Ytclpoconppmapaa
open Go.RowKit Go.Inc
set_option maxRecDepth 20000 in
set_option maxHeartbeats 2000000 in
theorem scmp_any (y : World) (b1 b2 rb ro n c w : Nat) (R : List Int) (a b : Nat) (hn : (n : Int) ≤ 65536) (hw : (w : Int) ≤ 65536) (ha : a < n) (hb : b < n)
    (h1 : y.cell? ⟨b1, 0, none⟩ = some (.slice (some ⟨rb, ro, none⟩) n c)) (h2 : y.cell? ⟨b2, 0, none⟩ = some (.int .i64 (w : Int)))
    (hz : ∀ i, i < n → y.cell? ⟨rb, ro + i, none⟩ = some (.int .i64 (R.getD i 0))) (hs : R.getD a 0 = R.getD b 0 → a ≠ b → a + w < n ∧ b + w < n) :
    Calls Try.prog 34 #[.int .i64 (a : Int), .int .i64 (b : Int), .pointer (some ⟨b1, 0, none⟩), .pointer (some ⟨b2, 0, none⟩)] y fun e w' => e = .returned (.int .i64 (cfS R w a b)) ∧ ∃ q, w' = y.drewN q := by
  have hc1 := hz a ha
  have hc2 := hz b hb
  have HZ := hid hz
  have HS := hid hs
  have hai : (a : Int) < (n : Int) := by omega
  have hbi : (b : Int) < (n : Int) := by omega
  obtain ⟨a1, ha1⟩ : ∃ a1 : Nat, (a : Int) + (w : Int) = (a1 : Int) := ⟨a + w, by omega⟩
  obtain ⟨b1', hb1⟩ : ∃ b1' : Nat, (b : Int) + (w : Int) = (b1' : Int) := ⟨b + w, by omega⟩
  have haw : IntKind.i64.wrap (a1 : Int) = (a1 : Int) := by rw [IntKind.wrap_i64]; omega
  have hbw : IntKind.i64.wrap (b1' : Int) = (b1' : Int) := by rw [IntKind.wrap_i64]; omega
  have HA1 : Hid (a + w = a1) := hid (by omega)
  have HB1 : Hid (b + w = b1') := hid (by omega)
  have HR : Hid (cfS R w a b = if R.getD a 0 = R.getD b 0 ∧ a ≠ b then cmpI (R.getD a1 0) (R.getD b1' 0) else cmpI (R.getD a 0) (R.getD b 0)) := hid (by rw [← HA1.out, ← HB1.out]; rfl)
  rw [HA1.out, HB1.out] at HS
  have l0 : ∀ (p q : Int) (m j : Nat), Calls Try.prog 35 #[.int .i64 p, .int .i64 q] (y.drewN (m + j)) fun e w' => e = .returned (.int .i64 (cmpI p q)) ∧ ∃ n, w' = y.drewN (m + n) := fun p q m j => (compare_any p q (y.drewN (m + j))).mono fun _ _ h => ⟨h.1, j, h.2.symm⟩
  generalize R.getD a 0 = z at *
  generalize R.getD b 0 = z' at *
  clear hz hs
  by_cases he : z = z'
  · have hbe : (z != z') = false := by rw [bne_eq_false_iff_eq]; exact he
    by_cases hab : a = b
    · rw [if_neg (fun h => h.2 hab)] at HR
      have l1 := l0 z z'
      obtain ⟨q, hq⟩ : ∃ q, q = cmpI z z' := ⟨_, rfl⟩
      rw [← hq] at l1 HR
      have habt : ((a : Int) == (b : Int)) = true := by rw [beq_iff_eq]; omega
      have habn : (a = b) = True := eq_true hab
      clear he hab hq HS l0
      go_enter Try.func34, Try.ntmps34
      go_wp2_with fail
      go_quiet (fail)
      go_wp2_with fail
      go_quiet (with_reducible exact l1 _ _)
      go_wp2_with fail
      go_ret
      exact ⟨by rw [HR.out]; rfl, _, World.drewN_drewN ..⟩
    · rw [if_pos ⟨he, hab⟩] at HR
      have h3 := HS.out he hab
      have hp1 := HZ.out a1 h3.1
      have hp2 := HZ.out b1' h3.2
      have hai1 : (a1 : Int) < (n : Int) := by omega
      have hbi1 : (b1' : Int) < (n : Int) := by omega
      generalize R.getD a1 0 = r at *
      generalize R.getD b1' 0 = r' at *
      have l1 := l0 r r'
      obtain ⟨q, hq⟩ : ∃ q, q = cmpI r r' := ⟨_, rfl⟩
      rw [← hq] at l1 HR
      have habt : ((a : Int) == (b : Int)) = false := by rw [beq_eq_false_iff_ne]; omega
      have habn : (a = b) = False := eq_false hab
      clear he hab hq HS l0 h3
      go_enter Try.func34, Try.ntmps34
      go_wp2_with fail
      go_quiet (fail)
      go_wp2_with fail
      go_quiet (with_reducible exact l1 _ _)
      go_wp2_with fail
      go_ret
      exact ⟨by rw [HR.out]; rfl, _, World.drewN_drewN ..⟩
  · have hbe : (z != z') = true := by rw [bne_iff_ne]; exact he
    rw [if_neg (fun h => he h.1)] at HR
    have l1 := l0 z z'
    obtain ⟨q, hq⟩ : ∃ q, q = cmpI z z' := ⟨_, rfl⟩
    rw [← hq] at l1 HR
    clear he hq HS l0
    go_enter Try.func34, Try.ntmps34
    go_wp2_with fail
    go_quiet (fail)
    go_wp2_with fail
    go_quiet (with_reducible exact l1 _ _)
    go_wp2_with fail
    go_ret
    exact ⟨by rw [HR.out]; rfl, _, World.drewN_drewN ..⟩
set_option maxRecDepth 20000 in
set_option maxHeartbeats 2000000 in
theorem ranked_any (x : World) (g p1 p2 n : Nat) (l : List Nat) (cf : Nat → Nat → Int) (hl : l.length = n) (h0 : 0 < n) (hn : (n : Int) ≤ 65536) (hlt : ∀ a ∈ l, a < n) (hd : l.Nodup) (hs : Si (fun _ => True) x (some ⟨g, 0, none⟩) (zsN l))
    (hcmp : ∀ y, Below x.heap.size x y → ∀ a b : Nat, a < n → b < n → Calls Try.prog 34 #[.int .i64 (a : Int), .int .i64 (b : Int), .pointer (some ⟨p1, 0, none⟩), .pointer (some ⟨p2, 0, none⟩)] y fun e w' => e = .returned (.int .i64 (cf a b)) ∧ ∃ q, w' = y.drewN q) :
    Calls Try.prog 37 #[.slice (some ⟨g, 0, none⟩) n n, .func (Fn.func 34) #[] #[.pointer (some ⟨p1, 0, none⟩), .pointer (some ⟨p2, 0, none⟩)]] x fun e w' => ∃ g' R', e = .returned (.tuple #[.slice (some ⟨g', 0, none⟩) n n, .int .i64 (((rkT cf l n : Nat) : Int) + 1)]) ∧ x.heap.size ≤ g' ∧ w'.ownsRow x.heap.size 3 1 (.slice (some ⟨g', 0, none⟩) n n) n (nvals R') ∧ RkS cf l n R' ∧ Below x.heap.size x w' := by
  have HC := hid hcmp
  have HZ := hid (RkS.zero cf l)
  have HST := hid (fun (R : List Nat) (t : Nat) (h : RkS cf l t R) h2 => h.step hd (by rw [hl]; exact hlt) h2)
  have HRS := hid (fun (t : Nat) => rkT_succ cf l t)
  have HRL := hid (fun (t : Nat) => rkT_le cf l t)
  have HLT : Hid (∀ k, k < n → l.getD k 0 < n) := hid (fun k hk => hlt _ (by
    rw [List.getD_eq_getElem?_getD, List.getElem?_eq_getElem (by omega)]; exact List.getElem_mem _))
  have HCC : Hid (∀ y, Below x.heap.size x y → ∀ i, i < n → y.cell? ⟨g, i, none⟩ = some (.int .i64 ((l.getD i 0 : Nat) : Int))) := hid (fun y hy i hi => by
    obtain ⟨b, o, e, hc⟩ := siCell (hs.below hy) (k := i) (by rw [zsN_len]; omega)
    cases e
    rw [zsN_get, Nat.zero_add] at hc
    exact hc)
  have HRK : Hid (∀ (R : List Nat) (t : Nat), RkS cf l t R → R.length = n) := hid (fun R t h => by rw [h.1]; exact hl)
  obtain ⟨i0, hi, hz0, hz1, hz2⟩ := info_parts infoIntS
  have HI := hid (And.intro hi (And.intro hz0 (And.intro hz1 hz2)))
  rw [hl] at HZ HST
  clear hcmp hl hlt hd hs hi hz0 hz1 hz2
  go_enter Try.func37, Try.ntmps37
  go_wp2_with (refine wpList_make_full _ rfl _ _ 22 rfl x.heap.size 3 i0 (.int .i64 0) 1 Try.underlying22 HI.out.1 HI.out.2.1 HI.out.2.2.1 .i64 .i64 _ _ n rfl rfl rfl rfl (by rw [HI.out.2.2.2]; omega) (by unfold maxLen; omega) (Nat.le_refl _) ?_)
  intro w1 hown hg
  obtain ⟨g', hgg⟩ : ∃ g', g' = x.heap.size := ⟨_, rfl⟩
  have HG := hid hgg
  have HBX : Hid (Below x.heap.size x w1) := hid ⟨hg.os, hg.tape, hg.output, hg.size, fun i hi => hg.block i hi (by simp)⟩
  have HRW : Hid (w1.ownsRow x.heap.size 3 1 (.slice (some ⟨x.heap.size, 0, none⟩) n n) n (nvals (List.replicate n 0))) := hid (by rw [nvals_zerosU n] at hown; exact hown)
  rw [← hgg] at HRW ⊢
  clear hown hg HI hgg
  go_wp2_with fail
  go_loopw [7, 15] (fun rv i wr => ∃ (t : Nat) (R : List Nat), t ≤ n ∧ i = .int .i64 (t : Int) ∧ rv = .int .i64 ((rkT cf l t : Nat) : Int) ∧ RkS cf l t R ∧ wr.ownsRow g' 3 1 (.slice (some ⟨g', 0, none⟩) n n) n (nvals R) ∧ Below x.heap.size x wr) (fun _ i _ => n - (intOf i).toNat)
  case atStart => exact ⟨0, _, Nat.zero_le _, rfl, rfl, HZ.out, HRW.out, HBX.out⟩
  case round =>
    clear HRW HBX HZ
    obtain ⟨t, R, ht, rfl, rfl, hrs, hr, hb⟩ := hrel
    have HR := hid hr
    have HB := hid hb
    have HRL0 := hid (HRK.out R t hrs)
    have HSS := hid hrs
    clear hr hb
    by_cases hlt : t < n
    · have hti : (t < n) = True := eq_true hlt
      have HLTN := hid hlt
      have hc1 := HCC.out wr HB.out t hlt
      have ha := HLT.out t hlt
      have HST1 := hid (HST.out R t hrs hlt)
      have hr1 := HRS.out t
      have htb : (t : Int) ≤ 65536 := by omega
      have hrb := HRL.out t
      by_cases ht0 : t = 0
      · rw [if_neg (by omega), Nat.add_zero] at hr1
        rw [hr1] at HST1
        have HR1 := hid hr1
        obtain ⟨a, haa⟩ : ∃ a, a = l.getD t 0 := ⟨_, rfl⟩
        rw [← haa] at hc1 ha HST1
        obtain ⟨rk, hrk⟩ : ∃ rk, rk = rkT cf l t := ⟨_, rfl⟩
        have HRKK := hid hrk
        rw [hr1, ← hrk] at hrb
        rw [← hrk] at HST1
        rw [← hrk]
        have hai : (a : Int) < (n : Int) := by omega
        have hrki : (rk : Int) ≤ 65536 := by omega
        have htp : decide ((t : Int) > 0) = false := decide_eq_false (by omega)
        have htp2 : (0 < t) = False := eq_false (by omega)
        have HAN := hid ha
        have HNEW : Hid ((wr.setCell ⟨g', a, none⟩ (.int .i64 (rk : Int))).ownsRow g' 3 1 (.slice (some ⟨g', 0, none⟩) n n) n (nvals (R.set a rk)) ∧ Below x.heap.size x (wr.setCell ⟨g', a, none⟩ (.int .i64 (rk : Int)))) := hid (by
          have h1 := HR.out.stored a (.int .i64 (rk : Int))
          rw [nvals_setU] at h1
          exact ⟨h1.1, below_grown HB.out h1.2 (by rw [HG.out]; exact Nat.le_refl _) HB.out.size⟩)
        have j3 : wr.cell? ⟨g', a, none⟩ = some (.int .i64 ((R.getD a 0 : Nat) : Int)) := by
          have h1 := HR.out.cells (g := g') rfl a _ (nvals_get (by rw [HRL0.out]; exact ha))
          rw [Addr.add_lit] at h1
          simpa using h1
        have jf := HR.out.frozenAt a
        generalize R.getD a 0 = old at *
        clear hlt ht0 hr1 hrb haa hrk ha HR HB hrs HSS
        go_wp2_with fail
        go_roundw
        case rel => exact ⟨t + 1, _, HLTN.out, by go_num, by rw [HR1.out, ← HRKK.out]; rfl, HST1.out, HNEW.out.1, HNEW.out.2⟩
        case measure => simp [intOf]; have := HLTN.out; omega
      · have htp : (0 < t) = True := eq_true (by omega)
        have htpi : (0 : Int) < (t : Int) := by omega
        obtain ⟨t0, ht0'⟩ : ∃ t0 : Nat, (t : Int) - 1 = (t0 : Int) := ⟨t - 1, by omega⟩
        have HT0 : Hid (t - 1 = t0 ∧ t0 < n ∧ 0 < t) := hid (by omega)
        have hc0 := HCC.out wr HB.out t0 HT0.out.2.1
        have hb0 := HLT.out t0 HT0.out.2.1
        rw [HT0.out.1] at hr1
        have HCL := hid (HC.out wr HB.out (l.getD t0 0) (l.getD t 0) hb0 ha)
        have ht0n : (t0 : Int) < (n : Int) := by have := HT0.out; omega
        obtain ⟨a, haa⟩ : ∃ a, a = l.getD t 0 := ⟨_, rfl⟩
        rw [← haa] at hc1 ha HST1 HCL hr1
        obtain ⟨b, hbb⟩ : ∃ b, b = l.getD t0 0 := ⟨_, rfl⟩
        rw [← hbb] at hc0 hb0 HCL hr1
        obtain ⟨q, hq⟩ : ∃ q, q = cf b a := ⟨_, rfl⟩
        rw [← hq] at HCL hr1
        obtain ⟨rk, hrk⟩ : ∃ rk, rk = rkT cf l t := ⟨_, rfl⟩
        rw [← hrk] at hr1 ⊢
        obtain ⟨rk1, hrk1⟩ : ∃ rk1, rk1 = rkT cf l (t + 1) := ⟨_, rfl⟩
        have HRK1 := hid hrk1
        rw [← hrk1] at hr1 hrb HST1
        have hai : (a : Int) < (n : Int) := by omega
        have hrki : (rk1 : Int) ≤ 65536 := by omega
        have HAN := hid ha
        have HNEW : Hid (∀ q, (wr.drewN q).cell? ⟨g', a, none⟩ = some (.int .i64 ((R.getD a 0 : Nat) : Int)) ∧ (wr.drewN q).frozen? ⟨g', a, none⟩ = false ∧ ((wr.drewN q).setCell ⟨g', a, none⟩ (.int .i64 (rk1 : Int))).ownsRow g' 3 1 (.slice (some ⟨g', 0, none⟩) n n) n (nvals (R.set a rk1)) ∧ Below x.heap.size x ((wr.drewN q).setCell ⟨g', a, none⟩ (.int .i64 (rk1 : Int)))) := hid (fun q => by
          have hr4 : (wr.drewN q).ownsRow g' 3 1 (.slice (some ⟨g', 0, none⟩) n n) n (nvals R) := owns_mv (F := fun _ => False) HR.out (Mv.of_below (below_drewN wr q)) (fun _ _ => id)
          have hb4 : Below x.heap.size x (wr.drewN q) := HB.out.trans ((below_drewN wr q).mono HB.out.size)
          have h1 := hr4.stored a (.int .i64 (rk1 : Int))
          rw [nvals_setU] at h1
          have h2 := hr4.cells (g := g') rfl a _ (nvals_get (by rw [HRL0.out]; exact HAN.out))
          rw [Addr.add_lit] at h2
          exact ⟨by simpa using h2, hr4.frozenAt a, h1.1, below_grown hb4 h1.2 (by rw [HG.out]; exact Nat.le_refl _) hb4.size⟩)
        generalize R.getD a 0 = old at *
        clear hlt ht0 hrb haa hbb hrk hrk1 hq ha hb0 HR HB hrs HSS
        by_cases hq0 : q = 0
        · subst hq0
          rw [if_neg (fun h => h.2 rfl), Nat.add_zero] at hr1
          subst hr1
          go_wp2_with fail
          refine HCL.out.mono ?_
          rintro e w4 ⟨rfl, j, rfl⟩
          obtain ⟨j3, jf, -, -⟩ := HNEW.out j
          have HN2 := hid (HNEW.out j)
          clear HCL HNEW
          obtain ⟨w4, hw4⟩ : ∃ w4, w4 = wr.drewN j := ⟨_, rfl⟩
          rw [← hw4] at j3 jf HN2 ⊢
          clear hw4
          go_wp2_with fail
          go_roundw
          case rel => exact ⟨t + 1, _, HLTN.out, by go_num, by rw [← HRK1.out], HST1.out, HN2.out.2.2.1, HN2.out.2.2.2⟩
          case measure => simp [intOf]; have := HLTN.out; omega
        · have hqb : (q != 0) = true := by rw [bne_iff_ne]; exact hq0
          rw [if_pos ⟨HT0.out.2.2, hq0⟩] at hr1
          have hr1i : (rk : Int) + 1 = (rk1 : Int) := by omega
          clear hq0 hr1
          go_wp2_with fail
          refine HCL.out.mono ?_
          rintro e w4 ⟨rfl, j, rfl⟩
          obtain ⟨j3, jf, -, -⟩ := HNEW.out j
          have HN2 := hid (HNEW.out j)
          clear HCL HNEW
          obtain ⟨w4, hw4⟩ : ∃ w4, w4 = wr.drewN j := ⟨_, rfl⟩
          rw [← hw4] at j3 jf HN2 ⊢
          clear hw4
          go_wp2_with fail
          go_roundw
          case rel => exact ⟨t + 1, _, HLTN.out, by go_num, by rw [← HRK1.out], HST1.out, HN2.out.2.2.1, HN2.out.2.2.2⟩
          case measure => simp [intOf]; have := HLTN.out; omega
    · have hti : (t < n) = False := eq_false hlt
      obtain rfl : t = n := by omega
      have hrb : Hid (rkT cf l t ≤ t) := hid (by
        have := HRL.out (t - 1)
        rw [show t - 1 + 1 = t from by omega] at this; omega)
      obtain ⟨rk, hrk⟩ : ∃ rk, rk = rkT cf l t := ⟨_, rfl⟩
      rw [← hrk] at hrb ⊢
      have hrki : (rk : Int) ≤ 65536 := by have := hrb.out; omega
      have HRKF := hid hrk
      clear hlt hrs hrk
      go_wp2_with fail
      go_ret2
      exact ⟨g', R, by rw [← HRKF.out]; rfl, by rw [HG.out]; exact Nat.le_refl _, by rw [← HG.out]; exact HR.out, HSS.out, HB.out⟩
end Go.Proofs.Ytclpoconppmapaa
