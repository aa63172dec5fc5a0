/- CONTRACTS: an array made; a number set; what nil tells. -/
import Derived.Test.YtcgapplblhbdlaaPkF
namespace Go.Proofs.Ytcgapplblhbdlaa
open Go.RowKit Go.Inc

theorem PkAt.empty {x : World} {b w B : Nat} (h : x.heap[b]? = some (.cells #[.int .i64 (w : Int), .int .i64 0, .slice none 0 0] 56 (0, 0))) (h1 : 1 ≤ w) (h2 : w ≤ 31) : PkAt x b (.slice none 0 0) w [] [] B :=
  ⟨⟨h, World.ownsRow_nil _ _ _ _, fun e => by cases e⟩, h1, h2, Nat.zero_le _, (fun _ h => by cases h), Wd.none w⟩
theorem pkNew_width (x : World) (z : Int) (s : Value) (h : isW z = false) : Calls Try.prog 6 #[.int .i64 z, s] x fun e w' => e = .returned (.tuple #[.pointer none, .int .i64 1]) ∧ x = w' := by
  have H := hid (pkIsWidth_any z x)
  rw [h] at H
  clear h
  go_enter Try.func6, Try.ntmps6
  go_wp2_with fail
  refine H.out.mono ?_
  rintro e w1 ⟨rfl, rfl⟩
  go_wp2_with fail
  go_ret2
  exact ⟨rfl, rfl⟩
theorem pkNew_bad (ok : Nat → Prop) (x : World) (w : Nat) (a : Option Addr) (c : Nat) (zs : List Int) (h1 : 1 ≤ w) (h2 : w ≤ 31) (hs : Si ok x a zs) (hl : zs.length ≤ 9223372036854775807) (hbad : allF w zs = false) :
    Calls Try.prog 6 #[.int .i64 (w : Int), .slice a zs.length c] x fun e w' => e = .returned (.tuple #[.pointer none, .int .i64 10]) ∧ Below x.heap.size x w' := by
  have H := hid (pkIsWidth_any (w : Int) x)
  rw [isW_nat h1 h2] at H
  obtain ⟨x1, hx1⟩ : ∃ x1, x1 = x.alloc (.cells #[.int .i64 (w : Int), .int .i64 0, .slice none 0 0] 56) := ⟨_, rfl⟩
  have hb1 : Below x.heap.size x x1 := by rw [hx1]; exact (Below.refl _ _).alloc (Nat.le_refl _) _
  have hrow : x1.heap[x.heap.size]? = some (.cells #[.int .i64 (w : Int), .int .i64 0, .slice none 0 0] 56 (0, 0)) := by rw [hx1]; exact heap_alloc_new x _
  have HA := hid (pkAdd_bad ok x1 x.heap.size x.heap.size (.slice none 0 0) w [] [] a c zs (PkAt.empty hrow h1 h2) (hs.below hb1) hl hbad)
  have HX := hid hx1
  have HB := hid hb1
  clear hs hl hbad hb1 hrow hx1 h1 h2
  go_enter Try.func6, Try.ntmps6
  go_wp2_with fail
  refine H.out.mono ?_
  rintro e w1 ⟨rfl, rfl⟩
  go_wp2_with fail
  rw [← HX.out]
  refine HA.out.mono ?_
  rintro e w2 ⟨rfl, hb2⟩
  have HB2 := hid (HB.out.trans (hb2.mono HB.out.size))
  clear hb2
  go_wp2_with fail
  go_ret2
  exact ⟨rfl, HB2.out⟩
/-- An array, new. -/
def NewPk (x : World) (w' : World) (p : Value) (w : Nat) (l : List Nat) : Prop := ∃ b v V, p = .pointer (some ⟨b, 0, none⟩) ∧ x.heap.size ≤ b ∧ PkAt w' b v w l V x.heap.size
theorem pkNew_any (ok : Nat → Prop) (x : World) (w : Nat) (a : Option Addr) (c : Nat) (ms : List Nat) (h1 : 1 ≤ w) (h2 : w ≤ 31) (hs : Si ok x a (nI ms)) (hl : ms.length ≤ 65536) (hfit : FitsP w ms) :
    Calls Try.prog 6 #[.int .i64 (w : Int), .slice a ms.length c] x fun e w' => (∃ p, e = .returned (.tuple #[p, .int .i64 0]) ∧ NewPk x w' p w ms) ∧ Below x.heap.size x w' := by
  have H := hid (pkIsWidth_any (w : Int) x)
  rw [isW_nat h1 h2] at H
  obtain ⟨x1, hx1⟩ : ∃ x1, x1 = x.alloc (.cells #[.int .i64 (w : Int), .int .i64 0, .slice none 0 0] 56) := ⟨_, rfl⟩
  have hb1 : Below x.heap.size x x1 := by rw [hx1]; exact (Below.refl _ _).alloc (Nat.le_refl _) _
  have hrow : x1.heap[x.heap.size]? = some (.cells #[.int .i64 (w : Int), .int .i64 0, .slice none 0 0] 56 (0, 0)) := by rw [hx1]; exact heap_alloc_new x _
  have HA := hid (pkAdd_any (fun i => i < x.heap.size) x1 x.heap.size x.heap.size (.slice none 0 0) w [] [] a c ms (PkAt.empty hrow h1 h2) ((hs.mono fun i _ h => h).below hb1) (fun i hi hf => by
    rcases hf with rfl | hf
    · omega
    · cases hf) (by simpa using hl) hfit hb1.size)
  have HX := hid hx1
  have HB := hid hb1
  clear hs hl hb1 hrow hx1 h1 h2 hfit
  go_enter Try.func6, Try.ntmps6
  go_wp2_with fail
  refine H.out.mono ?_
  rintro e w1 ⟨rfl, rfl⟩
  go_wp2_with fail
  rw [← HX.out]
  refine HA.out.mono ?_
  rintro e w2 ⟨rfl, ⟨v', V, hat, -⟩, hm⟩
  have HAT := hid hat
  have HB2 : Hid (Below x.heap.size x w2) := hid (HB.out.trans (hm.below HB.out.size fun i hi => by
    rcases hi with rfl | hi
    · exact Nat.le_refl _
    · cases hi))
  clear hat hm
  go_wp2_with fail
  go_ret2
  exact ⟨⟨_, rfl, _, v', V, rfl, Nat.le_refl _, HAT.out⟩, HB2.out⟩

theorem pkSet_nil (x : World) (i n : Int) : Calls Try.prog 12 #[.pointer none, .int .i64 i, .int .i64 n] x fun e w' => e = .returned (.int .i64 11) ∧ x = w' := by
  go_enter Try.func12, Try.ntmps12
  go_wp2_with fail
  go_ret
  exact ⟨rfl, rfl⟩
theorem pkSet_bad (x : World) (b B : Nat) (v : Value) (w : Nat) (l W : List Nat) (i n : Int) (h : PkAt x b v w l W B) (hbad : ¬ (hasZ l.length i = true ∧ fitsZ w n = true)) :
    Calls Try.prog 12 #[.pointer (some ⟨b, 0, none⟩), .int .i64 i, .int .i64 n] x fun e w' => e = .returned (.int .i64 10) ∧ x = w' := by
  have H := hid (pkHas_any x b l.length i h.raw.c1)
  have HF := hid (pkFits_any x b w n h.raw.c0 h.w1 h.w2)
  cases hh : hasZ l.length i with
  | false =>
    rw [hh] at H
    clear h hbad hh HF
    go_enter Try.func12, Try.ntmps12
    go_wp2_with fail
    refine H.out.mono ?_
    rintro e w1 ⟨rfl, rfl⟩
    go_wp2_with fail
    go_ret
    exact ⟨rfl, rfl⟩
  | true =>
    rw [hh] at H
    have hf : fitsZ w n = false := by
      cases hf : fitsZ w n with
      | false => rfl
      | true => exact absurd ⟨hh, hf⟩ hbad
    rw [hf] at HF
    clear h hbad hh hf
    go_enter Try.func12, Try.ntmps12
    go_wp2_with fail
    refine H.out.mono ?_
    rintro e w1 ⟨rfl, rfl⟩
    go_wp2_with fail
    refine HF.out.mono ?_
    rintro e w1 ⟨rfl, rfl⟩
    go_wp2_with fail
    go_ret
    exact ⟨rfl, rfl⟩
theorem fitsZ_nat {w n : Nat} : fitsZ w (n : Int) = decide (n < 2 ^ w) := by
  unfold fitsZ
  rw [Bool.eq_iff_iff, decide_eq_true_iff, decide_eq_true_iff]
  omega
theorem pkSet_any (x : World) (b i B n : Nat) (v : Value) (w : Nat) (l W : List Nat) (h : PkAt x b v w l W B) (hi : i < l.length) (hn : n < 2 ^ w) :
    Calls Try.prog 12 #[.pointer (some ⟨b, 0, none⟩), .int .i64 (i : Int), .int .i64 (n : Int)] x fun e w' => e = .returned (.int .i64 0) ∧ (∃ V, PkAt w' b v w (l.set i n) V B) ∧ Mv (Own2 b v) x w' := by
  have H := hid (pkHas_any x b l.length i h.raw.c1)
  have HF := hid (pkFits_any x b w n h.raw.c0 h.w1 h.w2)
  rw [hasZ_nat, decide_eq_true hi] at H
  rw [fitsZ_nat, decide_eq_true hn] at HF
  have HP := hid (pkPut_any x b i B n v w l W h hi hn)
  clear h hi hn
  go_enter Try.func12, Try.ntmps12
  go_wp2_with fail
  refine H.out.mono ?_
  rintro e w1 ⟨rfl, rfl⟩
  go_wp2_with fail
  refine HF.out.mono ?_
  rintro e w1 ⟨rfl, rfl⟩
  go_wp2_with fail
  refine HP.out.mono ?_
  rintro e w2 ⟨rfl, ⟨V, hV⟩, hm⟩
  have HV := hid hV
  have HM := hid hm
  clear hV hm
  go_wp2_with fail
  go_ret
  exact ⟨rfl, ⟨V, HV.out⟩, HM.out⟩

theorem pkLen_nil (x : World) : Calls Try.prog 22 #[.pointer none] x fun e w' => e = .returned (.int .i64 0) ∧ x = w' := by
  go_enter Try.func22, Try.ntmps22
  go_wp2_with fail
  go_ret
  exact ⟨rfl, rfl⟩
theorem pkWidth_nil (x : World) : Calls Try.prog 23 #[.pointer none] x fun e w' => e = .returned (.int .i64 0) ∧ x = w' := by
  go_enter Try.func23, Try.ntmps23
  go_wp2_with fail
  go_ret
  exact ⟨rfl, rfl⟩
theorem pkCopy_nil (x : World) : Calls Try.prog 9 #[.pointer none] x fun e w' => e = .returned (.pointer none) ∧ x = w' := by
  go_enter Try.func9, Try.ntmps9
  go_wp2_with fail
  go_ret
  exact ⟨rfl, rfl⟩
theorem pkBytes_nil (x : World) : Calls Try.prog 20 #[.pointer none] x fun e w' => e = .returned (.slice none 0 0) ∧ x = w' := by
  go_enter Try.func20, Try.ntmps20
  go_wp2_with fail
  go_ret
  exact ⟨rfl, rfl⟩
theorem pkAll_nil (x : World) : Calls Try.prog 24 #[.pointer none] x fun e w' => e = .returned (.slice none 0 0) ∧ x = w' := by
  have H := hid (pkLen_nil x)
  go_enter Try.func24, Try.ntmps24
  go_wp2_with fail
  refine H.out.mono ?_
  rintro e w1 ⟨rfl, rfl⟩
  go_wp2_with fail
  go_loop [3, 7] (fun v i => v = .slice none 0 0 ∧ i = .int .i64 0) (fun _ _ => 0)
  case atStart => exact ⟨rfl, rfl⟩
  case round =>
    obtain ⟨rfl, rfl⟩ := hrel
    go_wp2_with fail
    go_ret
    exact ⟨rfl, rfl⟩
theorem pkSame_nil (x : World) : Calls Try.prog 11 #[.pointer none, .pointer none] x fun e w' => e = .returned (.bool true) ∧ x = w' := by
  go_enter Try.func11, Try.ntmps11
  go_wp2_with fail
  go_ret
  exact ⟨rfl, rfl⟩
end Go.Proofs.Ytcgapplblhbdlaa
