/- CONTRACTS: bytes laid into words; nothing behind the last number; an array of its bytes. -/
import Derived.Test.YtcgapplblhbdlaaPkN
namespace Go.Proofs.Ytcgapplblhbdlaa
open Go.RowKit Go.Inc

theorem pkB_get (w : Nat) (l : List Nat) (t : Nat) (h : t < (pkB w l).length) : (pkB w l).getD t 0 = accB (bitP w l) (8 * t) 8 := by
  rw [pkB_len] at h
  unfold pkB bytesB
  rw [List.getD_eq_getElem?_getD, List.getElem?_map, List.getElem?_range h]; rfl
set_option maxRecDepth 20000 in
set_option maxHeartbeats 1000000 in
theorem pkLay_any (ok : Nat → Prop) (x : World) (b B : Nat) (v : Value) (w : Nat) (l : List Nat) (nw : Nat) (a : Option Addr) (c : Nat) (h : PkR x b v w l.length (List.replicate nw 0) B) (h1 : 1 ≤ w) (h2 : w ≤ 31) (hn : l.length ≤ 65536) (hf : FitsP w l) (hnw : nw = (w * l.length + 63) / 64) (hs : Sl ok x a (pkB w l)) (hok : ∀ i, ok i → ¬ Own2 b v i) :
    Calls Try.prog 39 #[.pointer (some ⟨b, 0, none⟩), .slice a (pkB w l).length c] x fun e w' => e = .returned (.tuple #[]) ∧ (∃ V, PkAt w' b v w l V B) ∧ Mv (Own2 b v) x w' := by
  obtain ⟨S, hS⟩ : ∃ S, S = (pkB w l).length := ⟨_, rfl⟩
  have hSb : (S : Int) ≤ 253952 := by
    have := mul_31 h2 hn
    rw [Nat.mul_comm] at this
    rw [hS, pkB_len]
    omega
  have hnwb : (nw : Int) ≤ 31745 := by
    have := mul_31 h2 hn
    rw [Nat.mul_comm] at this
    omega
  have HH := hid h
  have HS := hid hs
  have HOK := hid hok
  have HSE := hid hS
  have HNW := hid hnw
  have HF := hid (And.intro h1 (And.intro h2 (And.intro hn hf)))
  have HQ : Hid (∀ t, t < S → t / 8 < nw) := hid fun t ht => by rw [hS, pkB_len] at ht; rw [hnw]; omega
  have HBYT := hid (pkB_bytes w l)
  rw [← hS]
  clear h hs hok hS hnw h1 h2 hn hf
  go_enter Try.func39, Try.ntmps39
  go_wp2_with fail
  go_loopw [8] (fun i wr => ∃ (t : Nat) (V : List Nat), t ≤ S ∧ i = .int .i64 (t : Int) ∧ V.length = nw ∧ PkR wr b v w l.length V B ∧ Laid (bitP w l) t V ∧ Mv (Own2 b v) x wr) (fun i _ => S - (intOf i).toNat)
  case atStart => exact ⟨0, _, Nat.zero_le _, rfl, List.length_replicate, HH.out, Laid.zero _ _, Mv.refl _ _⟩
  case round =>
    obtain ⟨t, V, ht, rfl, hvl, hr, hlaid, hm⟩ := hrel
    have HR := hid hr
    have HM := hid hm
    have HL := hid hlaid
    have HVL := hid hvl
    clear hm hlaid
    by_cases hlt : (t : Int) < S
    · obtain ⟨b0, o0, rfl, hc⟩ : ∃ b0 o0, a = some ⟨b0, o0, none⟩ ∧ wr.cell? ⟨b0, o0 + t, none⟩ = some (.int .u8 (((pkB w l).getD t 0 : Nat) : Int)) := by
        rcases HS.out.mv HM.out HOK.out with h | ⟨b0, o0, h, _, hc⟩
        · have := HSE.out; rw [h] at this; simp at this; omega
        · exact ⟨b0, o0, h, hc t (by rw [← HSE.out]; omega)⟩
      have hby := Bytes.getD HBYT.out t
      have hgd := pkB_get w l t (by rw [← HSE.out]; omega)
      obtain ⟨z, hz⟩ : ∃ z, z = (pkB w l).getD t 0 := ⟨_, rfl⟩
      rw [← hz] at hc hby hgd
      obtain ⟨q, hq⟩ : ∃ q, q = t / 8 := ⟨_, rfl⟩
      have hqn : q < nw := by rw [hq]; exact HQ.out t (by omega)
      obtain ⟨g, c0, hsl, -⟩ := hr.here (by rw [hvl]; omega)
      rw [hvl] at hsl
      subst hsl
      have hst := HL.out.step (by rw [← hq, hvl]; exact hqn)
      rw [← hq, ← hgd] at hst
      have k2 := hr.c2
      have kw := hr.word' hvl.symm (q := q) (by rw [hvl]; exact hqn)
      have kf : wr.frozen? ⟨g, q, none⟩ = false := by
        have h3 := hr.row
        rw [hvl] at h3
        exact h3.frozenAt q
      have hx0 := wget_lt HL.out.1 q
      obtain ⟨x0, hx0e⟩ : ∃ x0, x0 = V.getD q 0 := ⟨_, rfl⟩
      rw [← hx0e] at kw hst hx0
      obtain ⟨r8, hr8⟩ : ∃ r8, r8 = t % 8 := ⟨_, rfl⟩
      obtain ⟨s8, hs8⟩ : ∃ s8, s8 = 8 * r8 := ⟨_, rfl⟩
      rw [← hr8, ← hs8] at hst
      obtain ⟨y1, hy1⟩ : ∃ y1, y1 = z <<< s8 % 18446744073709551616 := ⟨_, rfl⟩
      obtain ⟨y, hy⟩ : ∃ y, y = x0 ||| y1 := ⟨_, rfl⟩
      rw [← hy1, ← hy] at hst
      have b1 : y1 < 18446744073709551616 := by rw [hy1]; exact mod64_lt _
      have f1 : IntKind.u64.wrap ((z : Int) * 2 ^ s8) = (y1 : Int) := by rw [IntKind.wrap_u64, hy1, Nat.shiftLeft_eq]; simp
      have f2 : bits .or .u64 (x0 : Int) (y1 : Int) = (y : Int) := by rw [u64_or_nat x0 y1 hx0 b1, hy]
      have f3 : IntKind.u64.wrap (z : Int) = (z : Int) := wrap_nat (by omega)
      have hzb : (z : Int) < 256 := by omega
      have hq8 : (t : Int) / 8 = (q : Int) := by omega
      have hr8i : (t : Int) % 8 = (r8 : Int) := by omega
      have hr8t : Int.tmod (t : Int) 8 = (r8 : Int) := by rw [Int.tmod_eq_emod_of_nonneg (by omega)]; omega
      have hs8i : 8 * (r8 : Int) = (s8 : Int) := by omega
      have hs64 : (s8 : Int) < 64 := by omega
      have hsw : IntKind.i64.wrap (s8 : Int) = (s8 : Int) := by rw [IntKind.wrap_i64]; omega
      have hqi : (q : Int) < (nw : Int) := by omega
      have hqw : IntKind.i64.wrap (q : Int) = (q : Int) := by rw [IntKind.wrap_i64]; omega
      have htS : (t < S) = True := eq_true (by omega)
      have HB1 : Hid (Below wr.heap.size wr wr.drew) := hid ((Below.refl _ _).drew)
      have HNEW : Hid (PkR (wr.drew.setCell ⟨g, q, none⟩ (.int .u64 (y : Int))) b (.slice (some ⟨g, 0, none⟩) nw c0) w l.length (V.set q y) B ∧ Mv (Own2 b (.slice (some ⟨g, 0, none⟩) nw c0)) x (wr.drew.setCell ⟨g, q, none⟩ (.int .u64 (y : Int)))) := hid ⟨(hr.below HB1.out).put' hvl.symm q y, mv_setCell (HM.out.trans (Mv.of_below HB1.out)) (.inr rfl) _⟩
      have HST := hid hst
      clear hst hr hby hgd hz hq hqn hx0 hx0e hr8 hs8 hy1 hy b1 HR HM HL HB1
      go_wp2_with fail
      go_still_tail 16, mixedP
      repeat still_step
      change wpList _ _ _ _ _ wr.drew
      have kw' : wr.drew.cell? ⟨g, q, none⟩ = some (.int .u64 (x0 : Int)) := kw
      have kf' : wr.drew.frozen? ⟨g, q, none⟩ = false := kf
      clear kw kf k2 hc
      generalize wr.drew = z1 at *
      go_wp2_with fail
      go_roundw
      case rel => exact ⟨t + 1, _, by omega, by go_num, by rw [List.length_set]; exact HVL.out, HNEW.out.1, HST.out, HNEW.out.2⟩
      case measure => simp [intOf]; omega
    · have htS : (t < S) = False := eq_false (by omega)
      have HT : Hid (t = S) := hid (by omega)
      clear hlt hr
      go_wp2_with fail
      refine bodyPost_end (results_none rfl _ _ _) rfl ⟨rfl, ⟨V, HR.out, HF.out.1, HF.out.2.1, HF.out.2.2.1, HF.out.2.2.2, ?_⟩, HM.out⟩
      refine HL.out.all HF.out.1 ?_ (by rw [HVL.out, HNW.out])
      rw [HT.out, HSE.out, pkB_len]
      omega
set_option maxRecDepth 20000 in
theorem pkMore_any (x : World) (b B : Nat) (v : Value) (w : Nat) (l W : List Nat) (h : PkAt x b v w l W B) :
    Calls Try.prog 40 #[.pointer (some ⟨b, 0, none⟩)] x fun e w' => e = .returned (.bool false) ∧ Below x.heap.size x w' := by
  obtain ⟨n, hn⟩ : ∃ n, n = l.length := ⟨_, rfl⟩
  obtain ⟨A, hA⟩ : ∃ A, A = n * w := ⟨_, rfl⟩
  obtain ⟨q, hq⟩ : ∃ q, q = A / 64 := ⟨_, rfl⟩
  obtain ⟨o, ho⟩ : ∃ o, o = A % 64 := ⟨_, rfl⟩
  have hAb : A ≤ 2031616 := by rw [hA, hn]; exact mul_31 h.w2 h.n
  have HP := hid (fun j => pkPlace_any (x.drewN j) b w n A q o (h.raw.below (below_drewN x j)).c0 (by rw [hA]; simp) (by omega) (by rw [hq]; omega) (by rw [ho]; omega))
  have k0 := h.raw.c0
  have k1 := h.raw.c1
  rw [← hn] at k1
  by_cases h0 : o = 0
  · subst h0
    clear hA hq ho hn h
    go_enter Try.func40, Try.ntmps40
    go_wp2_with fail
    refine (HP.out 0).mono ?_
    rintro e w1 ⟨rfl, m1, rfl⟩
    go_wp2_with fail
    go_ret
    exact ⟨rfl, below_drewN x m1⟩
  · have hql : q < W.length := by
      have h1 : A = w * l.length := by rw [hA, hn, Nat.mul_comm]
      rw [h.wd.len, ← h1]
      omega
    have hend := h.wd.end (q := q) (o := o) h.w1 (by rw [hq, hA, hn]) (by rw [ho, hA, hn])
    obtain ⟨g, c, rfl, -⟩ := h.raw.here (by omega)
    have k2 := h.raw.c2
    have kw := h.raw.word hql
    have hwl := h.wlen
    obtain ⟨x0, hx0e⟩ : ∃ x0, x0 = W.getD q 0 := ⟨_, rfl⟩
    rw [← hx0e] at kw hend
    have f1 : (x0 : Int) / 2 ^ o = 0 := by
      rw [Nat.shiftRight_eq_div_pow] at hend
      have : ((x0 / 2 ^ o : Nat) : Int) = 0 := by rw [hend]; rfl
      simpa using this
    obtain ⟨nw, hnw⟩ : ∃ nw, nw = W.length := ⟨_, rfl⟩
    rw [← hnw] at k2 hwl hql
    have hqn : (q : Int) < (nw : Int) := by omega
    have hq31 : (nw : Int) ≤ 31745 := by omega
    have ho0 : (0 : Int) < o := by omega
    have ho64 : (o : Int) < 64 := by omega
    clear hA hq ho hn h h0 hend hx0e hnw hwl hql
    go_enter Try.func40, Try.ntmps40
    go_wp2_with fail
    refine (HP.out 0).mono ?_
    rintro e w1 ⟨rfl, m1, rfl⟩
    go_wp2_with fail
    go_ret
    exact ⟨rfl, below_drewN x m1⟩
end Go.Proofs.Ytcgapplblhbdlaa
