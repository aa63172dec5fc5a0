/- CONTRACTS: the document's bytes of numbers of few bits. -/
import Derived.Test.YtcgapplblhbdlaaPkJ
namespace Go.Inc
open Go.RowKit
/-- The first k bits, as numbers. -/
def bitsTo (f : Nat → Bool) (k : Nat) : List Nat := (List.range k).map fun t => (f t).toNat
theorem bitsTo_len (f : Nat → Bool) (k : Nat) : (bitsTo f k).length = k := by simp [bitsTo]
theorem bitsTo_succ (f : Nat → Bool) (k : Nat) : bitsTo f (k + 1) = bitsTo f k ++ [(f k).toNat] := by
  unfold bitsTo
  rw [List.range_succ, List.map_append]; rfl
theorem bitsTo_get {f : Nat → Bool} {k t : Nat} (h : t < k) : (bitsTo f k).getD t 0 = (f t).toNat := by
  unfold bitsTo
  rw [List.getD_eq_getElem?_getD, List.getElem?_map, List.getElem?_range h]; rfl
theorem bit_next (z j : Nat) : z / 2 ^ j % 2 = (z.testBit j).toNat := by
  rw [Nat.testBit_eq_decide_div_mod_eq]
  rcases Nat.mod_two_eq_zero_or_one (z / 2 ^ j) with h | h <;> simp [h]
theorem rows_ne {w : World} {B B' E E' s s' n n' : Nat} {v v' : Value} {xs ys : List Value} (h : w.ownsRow B E s v n xs) (k : w.ownsRow B' E' s' v' n' ys) (hne : E ≠ E') : v.ownBlock = none ∨ v.ownBlock ≠ v'.ownBlock := by
  rcases h.2 with ⟨rfl, _⟩ | ⟨g, cap, cur, rfl, _, hg, _⟩
  · exact .inl rfl
  · refine .inr fun e => ?_
    rcases k.2 with ⟨rfl, _⟩ | ⟨g', cap', cur', rfl, _, hg', _⟩
    · cases e
    · have : g = g' := by simpa [Value.ownBlock] using e
      subst this
      rw [hg] at hg'
      simp at hg'
      exact hne hg'.2
end Go.Inc
namespace Go.Proofs.Ytcgapplblhbdlaa
open Go.RowKit Go.Inc

set_option maxRecDepth 20000 in
set_option maxHeartbeats 2000000 in
theorem refBytes_any (ok : Nat → Prop) (x : World) (w : Nat) (a : Option Addr) (c : Nat) (l : List Nat) (h1 : 1 ≤ w) (h2 : w ≤ 31) (hs : Si ok x a (nI l)) (hl : l.length ≤ 65536) (hfit : FitsP w l) :
    Calls Try.prog 27 #[.int .i64 (w : Int), .slice a l.length c] x fun e w' => ∃ u, e = .returned u ∧ Row 5 x.heap.size w' u (pkBs w l) ∧ Below x.heap.size x w' := by
  have HS := hid hs
  have HFIT := hid hfit
  obtain ⟨n, hn⟩ : ∃ n, n = l.length := ⟨_, rfl⟩
  have HN := hid hn
  have hw1 : (1 : Int) ≤ w := by omega
  have hwb : (w : Int) ≤ 31 := by omega
  have hw0 := hid h1
  have hnb : (n : Int) ≤ 65536 := by omega
  have HN64 : Hid (n < 18446744073709551616) := hid (by omega)
  have hn64 : IntKind.u64.wrap (n : Int) = (n : Int) := by rw [IntKind.wrap_u64]; omega
  have hwu : IntKind.u8.wrap (w : Int) = (w : Int) := by rw [IntKind.wrap_u8]; omega
  have HM : Hid (∀ i, i ≤ n → i * w ≤ 2031616) := hid fun i hi => mul_31 h2 (by omega)
  rw [← hn]
  clear hs hn h1 h2 hl hfit
  go_enter Try.func27, Try.ntmps27
  go_wp2_with fail
  go_loopw [5, 6] (fun u i wr => ∃ t : Nat, t ≤ n ∧ i = .int .i64 (t : Int) ∧ wr.ownsRow x.heap.size 3 1 u (t * w) (nvals (bitsTo (bitP w l) (t * w))) ∧ Below x.heap.size x wr) (fun _ i _ => n - (intOf i).toNat)
  case atStart => exact ⟨0, Nat.zero_le _, rfl, by rw [Nat.zero_mul]; exact World.ownsRow_nil _ _ _ _, Below.refl _ _⟩
  case round =>
    obtain ⟨t, ht, rfl, hr, hb⟩ := hrel
    have HR := hid hr
    have HB := hid hb
    clear hr hb
    by_cases hlt : (t : Int) < n
    · obtain ⟨b0, o0, rfl, hc⟩ : ∃ b0 o0, a = some ⟨b0, o0, none⟩ ∧ wr.cell? ⟨b0, o0 + t, none⟩ = some (.int .i64 ((nI l).getD t 0)) := by
        rcases HS.out.below HB.out with h | ⟨b0, o0, h, _, hc⟩
        · have := HN.out; rw [← nI_len, h] at this; simp at this; omega
        · exact ⟨b0, o0, h, hc t (by rw [nI_len, ← HN.out]; omega)⟩
      rw [nI_get] at hc
      have hzf := HFIT.out.get t
      have hp31 := pow31 (show w ≤ 31 by omega)
      have HBIT : Hid (∀ j, j < w → bitP w l (t * w + j) = (l.getD t 0).testBit j) := hid fun j hj => bitP_at l hj
      have hmt := HM.out (t + 1) (by omega)
      rw [Nat.add_mul, Nat.one_mul] at hmt
      obtain ⟨A, hA⟩ : ∃ A, A = t * w := ⟨_, rfl⟩
      have HA := hid hA
      rw [← hA] at HR HBIT hmt
      obtain ⟨z, hz⟩ : ∃ z, z = l.getD t 0 := ⟨_, rfl⟩
      rw [← hz] at hc HBIT hzf
      have hzb : (z : Int) < 2147483648 := by omega
      have htn : (t < n) = True := eq_true (by omega)
      clear hz hA hzf hp31
      generalize wr = wo at *
      go_wp2_with fail
      go_loopw [5, 7, 8] (fun u g k wr => ∃ j : Nat, j ≤ w ∧ k = .int .i64 (j : Int) ∧ g = .int .i64 ((z / 2 ^ j : Nat) : Int) ∧ wr.ownsRow x.heap.size 3 1 u (A + j) (nvals (bitsTo (bitP w l) (A + j))) ∧ Below x.heap.size x wr) (fun _ _ k _ => w - (intOf k).toNat)
      case atStart => exact ⟨0, Nat.zero_le _, rfl, by rw [Nat.pow_zero, Nat.div_one], HR.out, HB.out⟩
      case round =>
        clear HR HB hc
        obtain ⟨j, hj, rfl, rfl, hr, hb⟩ := hrel
        have HR := hid hr
        have HB := hid hb
        clear hr hb
        by_cases hjw : (j : Int) < w
        · have HSUC : Hid (nvals (bitsTo (bitP w l) (A + j + 1)) = nvals (bitsTo (bitP w l) (A + j)) ++ [.int .i64 ((z / 2 ^ j % 2 : Nat) : Int)]) := hid (by rw [bitsTo_succ, nvals_snoc, HBIT.out j (by omega), bit_next])
          have hdv : z / 2 ^ (j + 1) = z / 2 ^ j / 2 := by rw [Nat.pow_succ, Nat.div_div_eq_div_mul]
          have HDV := hid hdv
          have hzle : z / 2 ^ j ≤ z := Nat.div_le_self _ _
          obtain ⟨m, hm⟩ : ∃ m, m = z / 2 ^ j := ⟨_, rfl⟩
          rw [← hm] at HSUC HDV hzle ⊢
          obtain ⟨e, he⟩ : ∃ e, e = m % 2 := ⟨_, rfl⟩
          obtain ⟨m2, hm2⟩ : ∃ m2, m2 = m / 2 := ⟨_, rfl⟩
          rw [← he] at HSUC
          rw [← hm2] at HDV
          have f1 : (m : Int) % 2 = (e : Int) := by omega
          have f2 : Int.tmod (m : Int) 2 = (e : Int) := by rw [Int.tmod_eq_emod_of_nonneg (by omega)]; omega
          have f3 : (m : Int) / 2 = (m2 : Int) := by omega
          have f4 : Int.tdiv (m : Int) 2 = (m2 : Int) := by rw [Int.tdiv_eq_ediv_of_nonneg (by omega)]; omega
          have hmb : (m : Int) < 2147483648 := by omega
          have hjw' : (j < w) = True := eq_true (by omega)
          clear hm he hm2 hdv hzle
          go_wp2_with (refine wpList_append_any rfl (.tmp 28) (.tmp 31) 22 rfl x.heap.size 3 (.int .i64 0) 8 Try.underlying22 infoI64 rfl _ _ _ rfl (HR.out.alloc _) (some ⟨wr.heap.size, 0, none⟩) 1 1 _ rfl rfl (by intro h; cases h) (one_new wr _ _) (by simp [Value.oneCell']) (by unfold maxLen; omega) (by omega) (by have := HB.out.size; simp; omega) ?_)
          intro v3 w3 hv3 hg3 _
          have HB3 := hid (below_owned (w0 := x) (HB.out.alloc HB.out.size _) (HR.out.alloc _) (Nat.le_refl _) hg3)
          have HV3 : Hid (w3.ownsRow x.heap.size 3 1 v3 (A + j + 1) (nvals (bitsTo (bitP w l) (A + j + 1)))) := hid (by rw [HSUC.out]; exact hv3)
          clear hv3 hg3
          go_wp2_with fail
          go_roundw
          case rel => exact ⟨j + 1, by omega, by go_num, by rw [HDV.out], HV3.out, HB3.out⟩
          case measure => simp [intOf]; omega
        · have hjw' : (j < w) = False := eq_false (by omega)
          have HJW : Hid (j = w) := hid (by omega)
          clear hjw
          go_wp2_with fail
          go_roundw
          case rel => exact ⟨t + 1, by omega, by go_num, by
            have := HR.out
            rw [HJW.out, HA.out, show t * w + w = (t + 1) * w from by rw [Nat.add_mul, Nat.one_mul]] at this
            exact this, HB.out⟩
          case measure => simp [intOf]; omega
    · have htn : (t < n) = False := eq_false (by omega)
      have HT : Hid (t = n) := hid (by omega)
      have hP := HM.out n (Nat.le_refl _)
      obtain ⟨P, hPe⟩ : ∃ P, P = n * w := ⟨_, rfl⟩
      have HP := hid hPe
      rw [HT.out, ← hPe] at HR
      rw [← hPe] at hP
      obtain ⟨a1, c1, rfl⟩ : ∃ a1 c1, u5 = .slice a1 P c1 := by
        rcases HR.out.2 with ⟨h, h0⟩ | ⟨g, cap, cur, h, _⟩
        · exact ⟨none, 0, by rw [h, h0]⟩
        · exact ⟨_, _, h⟩
      obtain ⟨w1, hw1'⟩ : ∃ w1, w1 = wr.alloc (.cells #[.int .u8 (w : Int)] 5) := ⟨_, rfl⟩
      have hlit : w1.heap[wr.heap.size]? = some (.cells #[.int .u8 (w : Int)] 5 (0, 0)) := by rw [hw1']; exact heap_alloc_new wr _
      have hb1 : Below wr.heap.size wr w1 := by rw [hw1']; exact (Below.refl _ _).alloc (Nat.le_refl _) _
      have HPUT := hid (refPut_any n w1 HN64.out)
      have HLIT := hid hlit
      have HBL := hid hb1
      have HW1 := hid hw1'
      have hbs : (pkB w l).length = (P + 7) / 8 := by rw [pkB_len, HP.out, ← HN.out, Nat.mul_comm]
      have HBS := hid hbs
      have HPI : Hid (∀ q, q < (P + 7) / 8 → (pkB w l).getD q 0 = accB (bitP w l) (8 * q) 8) := hid fun q hq => by
        unfold pkB bytesB
        rw [HP.out, HN.out, Nat.mul_comm] at hq
        rw [List.getD_eq_getElem?_getD, List.getElem?_map, List.getElem?_range hq]; rfl
      have HFAR : Hid (∀ j, P ≤ j → bitP w l j = false) := hid fun j hj => bitP_far hw0.out (by rw [HP.out, HN.out, Nat.mul_comm] at hj; exact hj)
      have hPi : (P : Int) ≤ 2031616 := by omega
      clear hlt hPe hw1' hlit hb1 hbs HFIT HS
      go_wp2_with fail
      rw [← HW1.out]
      refine HPUT.out.mono ?_
      rintro e w2 ⟨v2, rfl, hr2, hb2⟩
      have HLIT2 := hid (row_below HLIT.out hb2)
      have HB2 := hid ((HB.out.trans (HBL.out.mono HB.out.size)).trans (hb2.mono (HB.out.trans (HBL.out.mono HB.out.size)).size))
      have HR2 : Hid (w2.ownsRow x.heap.size 3 1 (.slice a1 P c1) P (nvals (bitsTo (bitP w l) P))) := hid (owns_mv (F := fun _ => False) (owns_mv (F := fun _ => False) HR.out (Mv.of_below HBL.out) fun _ _ => id) (Mv.of_below hb2) fun _ _ => id)
      obtain ⟨a2, c2, rfl, hn2, hc2, hc3, hs2⟩ := Row.sl hr2
      have HS2 := hid hs2
      have hpl := Var.put_ten HN64.out
      obtain ⟨L, hL⟩ : ∃ L, L = (Var.put n).length := ⟨_, rfl⟩
      have HL := hid hL
      have hon := own_one HLIT2.out (show x.heap.size ≤ wr.heap.size from HB.out.size)
      rw [← hL] at hpl hc2 ⊢
      have HON := hid hon
      have HX2 := hid hs2.some_len
      clear hr2 hb2 HPUT HLIT HBL HLIT2 HR hs2 hL hon HW1 HB
      go_wp2_with (refine wpList_append_any rfl (.tmp 37) (.tmp 41) 44 rfl x.heap.size 5 (.int .u8 0) 1 Try.underlying44 infoU8 rfl _ _ _ rfl HON.out a2 L c2 (u8s (Var.put n)) rfl (by rw [u8s_length, HL.out]) (by rw [HL.out]; exact HX2.out) HS2.out.cells (u8s_one _) (by unfold maxLen; omega) (by omega) HB2.out.size ?_)
      intro v3 w3 hv3 hg3 _
      have HB3 := hid (HB2.out.grown hg3 HB2.out.size fun k hk => (HON.out.lt k hk).1)
      have HR3 : Hid (w3.ownsRow x.heap.size 3 1 (.slice a1 P c1) P (nvals (bitsTo (bitP w l) P))) := hid (World.ownsRow.kept HR2.out hg3 (rows_ne HR2.out HON.out (by decide)))
      have HV3 : Hid (Row 5 x.heap.size w3 v3 ((w :: Var.put n) ++ (pkB w l).take 0)) := hid (by
        rw [List.take_zero, List.append_nil]
        unfold Row
        rw [List.length_cons, Nat.add_comm, ← HL.out]
        exact hv3)
      clear hv3 hg3 HB2 HR2 HON HS2 HX2
      go_wp2_with fail
      go_loopw [9, 10] (fun u i wr => ∃ q : Nat, q ≤ (P + 7) / 8 ∧ i = .int .i64 ((8 * q : Nat) : Int) ∧ Row 5 x.heap.size wr u ((w :: Var.put n) ++ (pkB w l).take q) ∧ wr.ownsRow x.heap.size 3 1 (.slice a1 P c1) P (nvals (bitsTo (bitP w l) P)) ∧ Below x.heap.size x wr) (fun _ i _ => P + 8 - (intOf i).toNat)
      case atStart => exact ⟨0, Nat.zero_le _, rfl, HV3.out, HR3.out, HB3.out⟩
      case round =>
        clear HV3 HR3 HB3
        obtain ⟨q, hq, rfl, hv, hr, hb⟩ := hrel
        have HV := hid hv
        have HR := hid hr
        have HB := hid hb
        clear hv hr hb
        obtain ⟨no, hno⟩ : ∃ no, no = 8 * q := ⟨_, rfl⟩
        have HNO := hid hno
        rw [← hno]
        by_cases hlt : (no : Int) < P
        · have hqb : q < (P + 7) / 8 := by omega
          have HYB : Hid ((pkB w l).take (q + 1) = (pkB w l).take q ++ [accB (bitP w l) no 8]) := hid (by
            rw [take_snoc (by rw [HBS.out]; exact hqb), HPI.out q hqb, hno])
          obtain ⟨g, cap, cur, hsl, -⟩ : ∃ g cap cur, (.slice a1 P c1 : Value) = .slice (some ⟨g, 0, none⟩) P cap ∧ (cur : Nat) = 0 := by
            rcases HR.out.2 with ⟨h, h0⟩ | ⟨g, cap, cur, h, _⟩
            · omega
            · exact ⟨g, cap, 0, h, rfl⟩
          simp only [Value.slice.injEq, true_and] at hsl
          obtain ⟨rfl, rfl⟩ := hsl
          have HC : Hid (∀ j, j < P → wr.cell? ⟨g, 0 + j, none⟩ = some (.int .i64 (((bitP w l j).toNat : Nat) : Int))) := hid fun j hj => by
            have h := HR.out.cells (g := g) rfl j _ (nvals_get (by rw [bitsTo_len]; exact hj))
            rw [Addr.add_lit, bitsTo_get hj] at h
            exact h
          have hks : (no < P) = True := eq_true (by omega)
          clear hno
          go_wp2_with fail
          go_loop [11, 12] (fun c k => ∃ t : Nat, t ≤ 8 ∧ k = .int .i64 (7 - (t : Int)) ∧ c = .int .i64 ((accB (bitP w l) no t : Nat) : Int)) (fun _ k => (intOf k + 1).toNat)
          case atStart => exact ⟨0, by omega, rfl, rfl⟩
          case round =>
            obtain ⟨t, ht, rfl, rfl⟩ := hrel
            have HAC : Hid (accB (bitP w l) no (t + 1) = 2 * accB (bitP w l) no t + (bitP w l (no + (7 - t))).toNat) := hid rfl
            have hal := accB_lt (bitP w l) no t
            obtain ⟨ac, hac⟩ : ∃ ac, ac = accB (bitP w l) no t := ⟨_, rfl⟩
            have HA := hid hac
            rw [← hac] at hal HAC ⊢
            clear hac
            by_cases ht8 : t < 8
            · have hp : (2 : Nat) ^ t ≤ 128 := Nat.pow_le_pow_right (n := 2) (i := t) (j := 7) (by decide) (by omega)
              have hac2 : (ac : Int) < 128 := by omega
              clear hp hal
              obtain ⟨j, hj⟩ : ∃ j, j = no + (7 - t) := ⟨_, rfl⟩
              rw [← hj] at HAC
              have hji : (no : Int) + (7 - (t : Int)) = (j : Int) := by omega
              by_cases hjn : j < P
              · have hc := HC.out j hjn
                rw [Nat.zero_add] at hc
                obtain ⟨e, he⟩ : ∃ e, e = (bitP w l j).toNat := ⟨_, rfl⟩
                have he1 : e ≤ 1 := by rw [he]; exact Bool.toNat_le _
                rw [← he] at hc HAC
                have hei : (e : Int) ≤ 1 := by omega
                have hjP : (j < P) = True := eq_true hjn
                clear he hj hjn
                go_wp2_with fail
                go_round
                case rel => exact ⟨t + 1, by omega, by go_num, by rw [HAC.out]; go_num⟩
                case measure => simp [intOf]; omega
              · have HX : Hid (accB (bitP w l) no (t + 1) = 2 * ac) := hid (by rw [HAC.out, HFAR.out j (by omega)]; rfl)
                have hjf : (j < P) = False := eq_false hjn
                clear hjn hj
                go_wp2_with fail
                go_round
                case rel => exact ⟨t + 1, by omega, by go_num, by rw [HX.out]; go_num⟩
                case measure => simp [intOf]; omega
            · obtain rfl : t = 8 := by omega
              have hal2 : (ac : Int) < 256 := by have : ac < 2 ^ 8 := hal; omega
              have hau : IntKind.u8.wrap (ac : Int) = (ac : Int) := by rw [IntKind.wrap_u8]; omega
              have HLEN : Hid (((w :: Var.put n) ++ (pkB w l).take q).length ≤ 300000) := hid (by
                rw [List.length_append, List.length_cons, List.length_take, HBS.out]
                have := Var.put_ten HN64.out
                omega)
              have HL3 : Hid (((w :: Var.put n) ++ (pkB w l).take (q + 1)) = ((w :: Var.put n) ++ (pkB w l).take q) ++ [ac]) := hid (by rw [HYB.out, HA.out, List.append_assoc])
              obtain ⟨bs0, hbs0⟩ : ∃ bs0, bs0 = (w :: Var.put n) ++ (pkB w l).take q := ⟨_, rfl⟩
              rw [← hbs0] at HV HLEN HL3
              clear hal ht8 HAC hbs0 HC
              go_wp2_with (refine wpList_append_any rfl (.tmp 69) (.tmp 72) 44 rfl x.heap.size 5 (.int .u8 0) 1 Try.underlying44 infoU8 rfl _ _ _ rfl (HV.out.alloc _) (some ⟨wr.heap.size, 0, none⟩) 1 1 _ rfl rfl (by intro h; cases h) (one_new wr _ _) (by simp [Value.oneCell']) (by have := HLEN.out; unfold maxLen; omega) (by have := HLEN.out; omega) (by have := HB.out.size; simp; omega) ?_)
              intro v4 w4 hv4 hg4 _
              have HB4 := hid (below_owned (w0 := x) (HB.out.alloc HB.out.size _) (HV.out.alloc _) (Nat.le_refl _) hg4)
              have HR4 : Hid (w4.ownsRow x.heap.size 3 1 (.slice (some ⟨g, 0, none⟩) P c1) P (nvals (bitsTo (bitP w l) P))) := hid (World.ownsRow.kept (HR.out.alloc _) hg4 (rows_ne HR.out HV.out (by decide)))
              have HV4 := hid (row_one hv4 rfl rfl)
              rw [← HL3.out] at HV4
              clear hv4 hg4 HV HB HR
              go_wp2_with fail
              go_roundw
              case rel => exact ⟨q + 1, hqb, by rw [show 8 * (q + 1) = no + 8 from by have := HNO.out; omega]; go_num, HV4.out, HR4.out, HB4.out⟩
              case measure => simp [intOf]; omega
        · have hks : (no < P) = False := eq_false (by omega)
          have HKE : Hid (q = (pkB w l).length) := hid (by rw [HBS.out]; omega)
          clear hlt hno
          go_wp2_with fail
          go_ret
          refine ⟨_, rfl, ?_, HB.out⟩
          have h := HV.out
          rw [HKE.out, List.take_of_length_le (Nat.le_refl _)] at h
          unfold pkBs
          rw [← HN.out]
          exact h
end Go.Proofs.Ytcgapplblhbdlaa
