/- STATEMENT: a page of which one byte is turned is no frame. For every frame, place and byte; bodies of at most 250 bytes. -/
import Derived.Test.YtmdimhijbmeioaaFrP
import Derived.Deep.CutBlock
namespace Go.Proofs.Ytmdimhijbmeioaa
open Go.RowKit Go.Inc

def atOf (x : Int) (n : Nat) : Nat := ((x % 18446744073709551616) % (n : Int)).toNat
theorem atOf_lt (x : Int) {n : Nat} (h : 0 < n) : atOf x n < n := by
  unfold atOf
  have h1 := Int.emod_nonneg (x % 18446744073709551616) (show (n : Int) ≠ 0 by omega)
  have h2 := Int.emod_lt_of_pos (x % 18446744073709551616) (show (0 : Int) < n by omega)
  omega
theorem atOf_walk (x : Int) {n : Nat} (h : 0 < n) : (IntKind.u64.wrap x).tmod (n : Int) = (atOf x n : Int) := by
  have h0 : 0 ≤ IntKind.u64.wrap x := by rw [IntKind.wrap_u64]; omega
  rw [Int.tmod_eq_emod_of_nonneg h0, IntKind.wrap_u64]
  unfold atOf
  have h1 := Int.emod_nonneg (x % 18446744073709551616) (show (n : Int) ≠ 0 by omega)
  rw [Int.toNat_of_nonneg h1]

set_option maxRecDepth 20000 in
set_option maxHeartbeats 4000000 in
theorem frameTurns_walk (ok : Nat → Prop) (k e pg : Int) (a : Option Addr) (c : Nat) (bs : List Nat) (x : Int) (b : Nat) (w : World) (hs : Sl ok w a bs) (hby : Bytes bs) (hc : bs.length ≤ c ∧ c ≤ maxLen) (hn : a = none → c = 0) (hb : (b : Int) < 256) :
    Calls Try.prog 5 #[.agg #[.int .i64 k, .int .i64 e, .int .i64 pg, .slice a bs.length c], .int .i64 x, .int .u8 (b : Int)] w fun r w' => r = .returned (.bool true) ∧ Below w.heap.size w w' := by
  have hb0 := (Below.refl w.heap.size w).alloc (Nat.le_refl _) (.cells #[.int .i64 k, .int .i64 e, .int .i64 pg, .slice a bs.length c] 24)
  have HT := hid (to_any ok k e pg a c bs _ (hs.below hb0) hc hn)
  have HB0 := hid hb0
  have hbh : Bytes (bs.take 250) := hby.take 250
  have hat : (IntKind.u64.wrap x).tmod 256 = (atOf x 256 : Int) := atOf_walk x (by decide)
  have hatl : (atOf x 256 : Int) < 256 := by have := atOf_lt x (n := 256) (by decide); omega
  clear hs hby hc hn hb0
  generalize atOf x 256 = M at *
  go_enter Try.func5, Try.ntmps5
  go_wp2_with fail
  refine HT.out.mono ?_
  rintro r w1 ⟨v, rfl, hv, hb1⟩
  obtain ⟨bh, hbhd⟩ : ∃ bh, bh = bs.take 250 := ⟨_, rfl⟩
  rw [← hbhd] at hv hbh
  have HBH := hid hbh
  obtain ⟨a1, c1, rfl, hs1, hlc1, hm1, hn1⟩ := hv
  have HB1 : Hid (Below w.heap.size w w1) := hid (HB0.out.trans (hb1.mono HB0.out.size))
  have HEN := hid (encode_any _ k e pg a1 c1 bh w1 hs1 hbh ⟨hlc1, hm1⟩ hn1)
  clear hbhd hbh hs1 hlc1 hm1 hn1 hb1 HT HB0
  go_wp2_with fail
  refine HEN.out.mono ?_
  rintro r w5 ⟨⟨v5, rfl, hv5⟩, hb5⟩
  have HB5 : Hid (Below w.heap.size w w5) := hid (HB1.out.trans (hb5.mono HB1.out.size))
  clear hb5 HEN HB1
  by_cases hq : chk ⟨k, e, pg, bh⟩ = 0
  · rw [hq] at hv5 ⊢
    rw [if_pos rfl] at hv5
    obtain ⟨a5, c5, rfl, hs5, hlc5, hm5, hn5⟩ := hv5
    have HFO : Hid (Fr.ok ⟨k, e, pg, bh⟩) := hid ((chk_zero _).1 hq)
    have HL : Hid ((enc ⟨k, e, pg, bh⟩).length = 256) := hid (enc_len HFO.out.2.2.2.2.2.2)
    have hby5 : Bytes (enc ⟨k, e, pg, bh⟩) := enc_bytes (f := ⟨k, e, pg, bh⟩) HBH.out
    have HTU := hid (turn_any _ a5 c5 _ (M : Int) b w5 hs5 (by rw [HL.out]; decide) hn5 hby5 (by omega))
    have HBT : Hid (Bytes (turned (enc ⟨k, e, pg, bh⟩) (M : Int) b)) := hid (turned_bytes hby5 _ (by omega))
    clear hq hs5 hlc5 hm5 hn5 hby5
    go_wp2_with fail
    refine HTU.out.mono ?_
    rintro r w6 ⟨v6, rfl, hv6, hb6⟩
    obtain ⟨a6, c6, rfl, hn6, hlc6, hm6, hs6⟩ := Row.sl (E := 5) (B := w5.heap.size) (w := w6) (v := v6) (bs := turned (enc ⟨k, e, pg, bh⟩) (M : Int) b) hv6
    have HB6 : Hid (Below w.heap.size w w6) := hid (HB5.out.trans (hb6.mono HB5.out.size))
    have HDC := hid (decode_any _ a6 c6 _ w6 hs6 HBT.out ⟨hlc6, hm6⟩)
    clear hv6 hb6 hn6 hlc6 hm6 hs6 HTU HB5
    go_wp2_with fail
    refine HDC.out.mono ?_
    rintro r w7 ⟨⟨v7, rfl, hv7⟩, hb7⟩
    have HB7 : Hid (Below w.heap.size w w7) := hid (HB6.out.trans (hb7.mono HB6.out.size))
    clear hb7 HDC HB6
    by_cases hb0 : b = 0
    · subst hb0
      have hE : decE (turned (enc ⟨k, e, pg, bh⟩) (M : Int) 0) = 0 := by rw [turned_zero]; exact decE_enc HFO.out
      rw [hE]
      obtain ⟨a7, c7, rfl, _, _, _, _⟩ := hv7
      clear hE HBT
      obtain ⟨w8, hw8⟩ : ∃ w8, w8 = w7.alloc (.cells #[.int .i64 (decF (turned (enc ⟨k, e, pg, bh⟩) (M : Int) 0)).k, .int .i64 (decF (turned (enc ⟨k, e, pg, bh⟩) (M : Int) 0)).e, .int .i64 (decF (turned (enc ⟨k, e, pg, bh⟩) (M : Int) 0)).p, .slice a7 (decF (turned (enc ⟨k, e, pg, bh⟩) (M : Int) 0)).b.length c7] 25) := ⟨_, rfl⟩
      have HB8 : Hid (Below w.heap.size w w8) := hid (by rw [hw8]; exact HB7.out.alloc HB7.out.size _)
      have HKN := hid (known_any w8)
      have HW8 := hid hw8
      clear hw8
      go_wp2_with fail
      rw [← HW8.out]
      refine HKN.out.mono ?_
      rintro r w9 ⟨rfl, hb9⟩
      have HB9 : Hid (Below w.heap.size w w9) := hid (HB8.out.trans (hb9.mono HB8.out.size))
      clear hb9 HKN HW8 HB8
      go_wp2_with fail
      go_ret
      exact ⟨rfl, HB9.out⟩
    · have hE : decE (turned (enc ⟨k, e, pg, bh⟩) (M : Int) b) = 5 := decE_turned HFO.out HBH.out (by omega) (by omega) hb0
      have hF : decF (turned (enc ⟨k, e, pg, bh⟩) (M : Int) b) = zeroFr := by unfold decF; rw [hE, if_neg (by decide)]
      rw [hF] at hv7
      rw [hE, hF]
      dsimp only [zeroFr] at hv7 ⊢
      have hbe : ((b : Int) == 0) = false := by rw [beq_eq_false_iff_ne]; omega
      obtain ⟨a7, c7, rfl, hs7, _, _, _⟩ := hv7
      clear hE hF hb0 HBT
      obtain ⟨w8, hw8⟩ : ∃ w8, w8 = w7.alloc (.cells #[.int .i64 0, .int .i64 0, .int .i64 0, .slice a7 0 c7] 25) := ⟨_, rfl⟩
      have HB8 : Hid (Below w.heap.size w w8) := hid (by rw [hw8]; exact HB7.out.alloc HB7.out.size _)
      have R8 : Hid (w8.heap[w7.heap.size]? = some (.cells #[.int .i64 0, .int .i64 0, .int .i64 0, .slice a7 0 c7] 25 (0, 0))) := hid (by rw [hw8]; exact heap_alloc_new w7 _)
      have HKN := hid (known_any w8)
      have HW8 := hid hw8
      clear hw8 hs7
      go_wp2_with fail
      rw [← HW8.out]
      refine HKN.out.mono ?_
      rintro r w9 ⟨rfl, hb9⟩
      have HB9 : Hid (Below w.heap.size w w9) := hid (HB8.out.trans (hb9.mono HB8.out.size))
      have R9 : Hid (w9.heap[w7.heap.size]? = _) := hid (row_below R8.out hb9)
      have HSM := hid (fsame_self (fun _ => True) (fun _ => True) 0 0 0 [] a7 none c7 0 w9 (Sl.nil _ _ _) (Sl.nil _ _ _) Bytes.nil)
      clear hb9 HKN HW8 HB8 R8
      have q0 := cell_of_row w9 _ 0 _ _ _ R9.out
      have q1 := cell_of_row w9 _ 1 _ _ _ R9.out
      have q2 := cell_of_row w9 _ 2 _ _ _ R9.out
      have q3 := cell_of_row w9 _ 3 _ _ _ R9.out
      go_wp2_with fail
      refine HSM.out.mono ?_
      rintro r w10 ⟨rfl, hb10⟩
      have HB10 : Hid (Below w.heap.size w w10) := hid (HB9.out.trans (hb10.mono HB9.out.size))
      clear hb10 HSM HB9 R9 q0 q1 q2 q3
      go_wp2_with fail
      go_ret
      exact ⟨rfl, HB10.out⟩
  · have hq1 : (((chk ⟨k, e, pg, bh⟩ : Nat) : Int) != 0) = true := by rw [bne_iff_ne]; omega
    have HKN := hid (known_any w5)
    clear hq hv5
    generalize chk ⟨k, e, pg, bh⟩ = q at *
    go_wp2_with fail
    refine HKN.out.mono ?_
    rintro r w9 ⟨rfl, hb9⟩
    have HB9 : Hid (Below w.heap.size w w9) := hid (HB5.out.trans (hb9.mono HB5.out.size))
    clear hb9 HKN
    go_wp2_with fail
    go_ret
    exact ⟨rfl, HB9.out⟩
namespace frameTurns
open Go.ChangeShapes Go.WideShapes Go.ChangeAt

theorem own : ownKnob Try.prog.godebug = none := by kernel_rfl
theorem laidOut : laidOutB Try.prog = true := by kernel_rfl

set_option maxRecDepth 100000 in
theorem lifted (os : Os) (started : os.Started) (H : Type) (enc : TypeId × Value → H) :
    ReturnsInHanded {} Try.checked os 5 .any (Rows.frameTurnsSpec.pre6 enc Try.prog Try.f5 Rows.frameTurnsRow.domain false) (Rows.frameTurnsSpec.post enc Try.prog Try.f5 false true false false) := by
  refine returnsInHanded_of_change (C := Try.checked) own started (by kernel_rfl) Try.func5
    (ChangeSpec.witness6 (enc := enc) (C := Try.checked) false ⟨#[], #[.agg #[.int .i64 0, .int .i64 0, .int .i64 0, .slice none 0 0], .int .i64 0, .int .u8 0], []⟩ 8 (by kernel_rfl) (by kernel_rfl) (by kernel_rfl) (by kernel_rfl)) ?_
  intro W base args ds gs before hval0 hW hcnd _
  have hval : ∀ (j : Nat) t v, Try.f5.params[j]? = some t → args[j]? = some v → Value.okWide Try.prog W .any base t v := hval0
  have hW' := hW
  obtain ⟨p, q, hA0, hV, rfl, hfz, hnd⟩ := hW
  have hA : DataW.TrodAll enc Try.prog W 0 (fun _ => true) true Try.f5.params.toList args.toList ds p := hA0
  rw [Try.params5] at hA hval
  obtain ⟨v0, vs0, d0, ds0, p0, q0, hargs, rfl, rfl, h0, r0⟩ := trodAll_cons hA
  obtain ⟨v1, vs1, d1, ds1, p1, q1, rfl, rfl, rfl, h1, r1⟩ := trodAll_cons r0
  obtain ⟨v2, vs2, d2, ds2, p2, q2, rfl, rfl, rfl, h2, r2⟩ := trodAll_cons r1
  obtain ⟨rfl, rfl, rfl⟩ := trodAll_nil r2
  obtain rfl : args = #[v0, v1, v2] := by cases args; simp_all
  obtain ⟨rfl, rfl⟩ := trodVars_none hV
  have k0 := h0
  have lt0 : ∀ x ∈ p0, x.block < W.heap.size := by obtain ⟨m, hm⟩ := k0; exact DataW.trod_lt m _ _ _ hm
  obtain ⟨K0, E0, G0, a0, cap0, bs0, rfl, hKE0, hby0, hsl0, hlc0, hcm0, hn0⟩ := open_fr (hval 0 24 v0 rfl rfl) h0
  obtain ⟨x1, rfl, rfl, rfl, wf1⟩ := open_int Try.underlying3 (hval 1 3 v1 rfl rfl) h1
  have hx1 := bounds_i64 wf1
  obtain ⟨x2, rfl, rfl, rfl, wf2⟩ := open_int Try.underlying5 (hval 2 5 v2 rfl rfl) h2
  have hx2 := u8_wf wf2
  obtain ⟨b2, rfl⟩ := Int.eq_ofNat_of_zero_le hx2.1
  clear hA0 hval0
  refine (frameTurns_walk _ K0 E0 G0 a0 cap0 bs0 x1 b2 W hsl0 hby0 ⟨hlc0, hcm0⟩ hn0 hx2.2).mono fun e W' ⟨he, bel⟩ => ?_
  subst he
  exact ⟨_, rfl, _, _, _, [], _, [], hW', trodAll_mk1 (shut_bool Try.underlying4 _), (trodAll_cons_mk (Below.trod laidOut (by kernel_rfl) (of_decide_eq_true (by kernel_rfl)) k0 bel lt0) (trodAll_cons_mk (shut_int Try.underlying3 wf1) (trodAll_cons_mk (shut_int Try.underlying5 wf2) trodAll_mk0))), rfl, bel.frame _, fun h => by cases h⟩

/-- THE STATEMENT. -/
theorem proved : Rows.FrameTurnsSaid :=
  OpenClaim.holds_of_wide 5 Try.f5 rfl rfl rfl rfl rfl rfl rfl ⟨rfl, rfl, rfl, rfl, rfl⟩ rfl rfl rfl rfl rfl (by kernel_rfl) Try.func5 (by kernel_rfl)
    (of_decide_eq_true (by kernel_rfl)) (by unfold Func.isWrapper; first | (rw [if_pos (by decide +kernel)]; kernel_rfl) | (rw [if_neg (by decide +kernel)]; exact ⟨rfl, rfl⟩))
    (fun os started H enc _ => lifted os started H enc)
end frameTurns
end Go.Proofs.Ytmdimhijbmeioaa
