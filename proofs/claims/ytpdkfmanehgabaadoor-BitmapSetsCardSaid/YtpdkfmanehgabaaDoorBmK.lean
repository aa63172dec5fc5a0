/- CONTRACTS: Parse. -/
import Derived.Test.YtpdkfmanehgabaaDoorBmI
namespace Go.Proofs.YtpdkfmanehgabaaDoor
open Go.RowKit Go.Inc

/-- The set that bytes tell. -/
def parseB (S : Nat) (bs : List Nat) : List Bool := (List.range S).map fun i => (bs.getD (i / 8) 0).testBit (i % 8)
theorem parseB_len (S : Nat) (bs : List Nat) : (parseB S bs).length = S := by simp [parseB]
theorem parseB_get (S : Nat) (bs : List Nat) (i : Nat) : inB (parseB S bs) i = (decide (i < S) && (bs.getD (i / 8) 0).testBit (i % 8)) := by
  by_cases h : i < S
  · unfold parseB
    rw [decide_eq_true h, Bool.true_and]
    conv => lhs; unfold inB
    rw [List.getD_eq_getElem?_getD, List.getElem?_map, List.getElem?_range h]
    rfl
  · rw [inB_far (by rw [parseB_len]; omega)]; simp [h]
/-- The bits of the first k bytes. -/
def Told (bs : List Nat) (k : Nat) (V : List Nat) : Prop := ∀ i, wbit V i = (decide (i < 8 * k) && (bs.getD (i / 8) 0).testBit (i % 8))
theorem told_step {bs V : List Nat} {k q r x s y : Nat} (h : Told bs k V) (hx : x = bs.getD k 0) (hx8 : x < 256) (hq : q = 8 * k / 64) (hr : r = 8 * k % 64) (hql : q < V.length) (hs : s = x <<< r) (hy : y = V.getD q 0 ||| s) : Told bs (k + 1) (V.set q y) := fun i => by
  rw [wbit_word hql]
  by_cases hi : i / 64 = q
  · rw [if_pos hi, hy, Nat.testBit_or, hs, Nat.testBit_shiftLeft]
    have e := h i
    unfold wbit at e
    rw [hi] at e
    rw [e]
    by_cases h1 : i < 8 * k
    · have h2 : ¬ r ≤ i % 64 := by omega
      simp [h1, h2, show i < 8 * (k + 1) from by omega]
    · have h2 : r ≤ i % 64 := by omega
      by_cases h3 : i < 8 * (k + 1)
      · rw [decide_eq_true h2, decide_eq_true h3, decide_eq_false h1, Bool.false_and, Bool.true_and, Bool.true_and, Bool.false_or, hx, show i / 8 = k from by omega, show i % 64 - r = i % 8 from by omega]
      · have h4 : x.testBit (i % 64 - r) = false := Nat.testBit_lt_two_pow (Nat.lt_of_lt_of_le hx8 (by rw [show 256 = 2 ^ 8 from rfl]; exact Nat.pow_le_pow_right (by decide) (by omega)))
        rw [h4, decide_eq_false h1, decide_eq_false h3]; simp
  · rw [if_neg hi, h i]
    by_cases h1 : i < 8 * k
    · simp [h1, show i < 8 * (k + 1) from by omega]
    · have : ¬ i < 8 * (k + 1) := by omega
      simp [h1, this]
theorem parse_yes {S : Nat} {bs V V' : List Nat} (hb : Bytes bs) (hl : bs.length = (S + 7) / 8) (h : Told bs bs.length V) (hc : Cut S V V') (ho : ∀ i, S ≤ i → wbit V i = false) : bytesB (inB (parseB S bs)) S = bs ∧ ∀ i, wbit V' i = inB (parseB S bs) i := by
  refine ⟨?_, fun i => ?_⟩
  · apply List.ext_getElem?
    intro k
    by_cases hk : k < (S + 7) / 8
    · have e1 : (bytesB (inB (parseB S bs)) S).getD k 0 = bs.getD k 0 := by
        rw [bytesB_get _ _ hk]
        refine byte_ext (accB_lt _ _ 8) (hb.getD k) fun j hj => ?_
        rw [accB_bit _ _ 8 j (Nat.le_refl _) hj, parseB_get, show 8 * k + (8 - 8 + j) = 8 * k + j from by omega, show (8 * k + j) / 8 = k from by omega, show (8 * k + j) % 8 = j from by omega]
        by_cases hi : 8 * k + j < S
        · simp [hi]
        · have := ho (8 * k + j) (by omega)
          rw [h, decide_eq_true (by omega : 8 * k + j < 8 * bs.length), show (8 * k + j) / 8 = k from by omega, show (8 * k + j) % 8 = j from by omega, Bool.true_and] at this
          rw [this]; simp
      rw [List.getElem?_eq_getElem (by rw [bytesB_len]; exact hk), List.getElem?_eq_getElem (by omega)]
      rw [List.getD_eq_getElem?_getD, List.getD_eq_getElem?_getD, List.getElem?_eq_getElem (by rw [bytesB_len]; exact hk), List.getElem?_eq_getElem (by omega)] at e1
      exact congrArg some e1
    · rw [List.getElem?_eq_none (by rw [bytesB_len]; omega), List.getElem?_eq_none (by omega)]
  · rw [hc i, h i, parseB_get]
    by_cases hi : i < S
    · simp [hi, show i < 8 * bs.length from by omega]
    · simp [hi]
theorem parse_no {S : Nat} {bs V : List Nat} (hl : bs.length = (S + 7) / 8) (h : Told bs bs.length V) (ho : ∃ i, S ≤ i ∧ wbit V i = true) : bytesB (inB (parseB S bs)) S ≠ bs := fun e => by
  obtain ⟨i, hi, hw⟩ := ho
  rw [h i] at hw
  simp only [Bool.and_eq_true, decide_eq_true_eq] at hw
  have e2 : (bytesB (inB (parseB S bs)) S).getD (i / 8) 0 = bs.getD (i / 8) 0 := by rw [e]
  rw [bytesB_get _ _ (by omega)] at e2
  have e3 := accB_bit (inB (parseB S bs)) (8 * (i / 8)) 8 (i % 8) (Nat.le_refl _) (by omega)
  rw [e2, hw.2, parseB_get, decide_eq_false (by omega)] at e3
  simp at e3
/-- What Parse answers. -/
def Parsed (B : Nat) (S : Nat) (bs : List Nat) (w' : World) (e : Ending) : Prop :=
  (bytesB (inB (parseB S bs)) S = bs ∧ ∃ v, e = .returned (.tuple #[v, .int .i64 0]) ∧ NewSet B w' v (parseB S bs)) ∨ (bytesB (inB (parseB S bs)) S ≠ bs ∧ e = .returned (.tuple #[.pointer none, .int .i64 3]))
theorem new_empty (S : Nat) (w : World) (h1 : (1 : Int) ≤ S) (h2 : (S : Int) ≤ 2048) : Calls Tryd.prog 7 #[.int .i64 (S : Int), .slice none 0 0] w fun e w' => (∃ v, e = .returned (.tuple #[v, .int .i64 0]) ∧ NewSet w.heap.size w' v (List.replicate S false)) ∧ Below w.heap.size w w' :=
  new_any (fun _ => True) S none 0 [] w (Si.nil _ _ _) h1 h2 (by decide)
theorem parse_bad (v : Value) (size : Int) (w : World) (h : size < 1 ∨ 2048 < size) :
    Calls Tryd.prog 15 #[.int .i64 size, v] w fun e w' => e = .returned (.tuple #[.pointer none, .int .i64 1]) ∧ w = w' := by
  have HN := hid (new_bad (.slice none 0 0) size w h)
  clear h
  go_enter Tryd.func15, Tryd.ntmps15
  go_wp2_with fail
  refine HN.out.mono ?_
  rintro e w1 ⟨rfl, rfl⟩
  go_wp2_with fail
  go_ret2
  exact ⟨rfl, rfl⟩
set_option maxRecDepth 20000 in
set_option maxHeartbeats 4000000 in
theorem parse_any (ok : Nat → Prop) (S : Nat) (a : Option Addr) (c0 : Nat) (bs : List Nat) (w : World) (hs : Sl ok w a bs) (hby : Bytes bs) (h1 : (1 : Int) ≤ S) (h2 : (S : Int) ≤ 2048) (hl : (bs.length : Int) ≤ 9223372036854775807) :
    Calls Tryd.prog 15 #[.int .i64 (S : Int), .slice a bs.length c0] w fun e w' => Parsed w.heap.size S bs w' e ∧ Below w.heap.size w w' := by
  have HS := hid (hs.mono fun b _ hb => hb)
  have HBY := hid hby
  have HN := hid (new_empty S w h1 h2)
  have HP := hid (fun z : World => parts8_any S z (by omega))
  obtain ⟨n, hn⟩ : ∃ n, n = bs.length := ⟨_, rfl⟩
  have HL := hid hn
  obtain ⟨n8, hn8⟩ : ∃ n8, n8 = (S + 7) / 8 := ⟨_, rfl⟩
  have HN8 := hid hn8
  have HP8 : Hid (∀ z : World, Calls Tryd.prog 31 #[.int .i64 (S : Int), .int .i64 8] z fun e w' => e = .returned (.int .i64 (n8 : Int)) ∧ z = w') := hid fun z => by rw [hn8]; exact HP.out z
  rw [← hn] at hl ⊢
  clear hs hby hn HP
  go_enter Tryd.func15, Tryd.ntmps15
  go_wp2_with fail
  refine HN.out.mono ?_
  clear HN
  rintro e w1 ⟨⟨v, rfl, hv⟩, hb⟩
  have HB1 := hid hb
  obtain ⟨b, g, c, W, rfl, hb2, hg2, hat, hbits⟩ := hv
  rw [List.length_replicate] at hat
  have HAT1 := hid hat
  have HBI1 := hid hbits
  clear hb hat hbits
  by_cases hne : n = n8
  · have hneb : ((n : Int) != n8) = false := by rw [bne_eq_false_iff_eq]; omega
    have HNE := hid hne
    have hn256 : (n : Int) ≤ 256 := by omega
    clear hne hn8
    go_wp2_with fail
    refine (HP8.out _).mono ?_
    rintro e w2 ⟨rfl, rfl⟩
    go_wp2_with fail
    go_loopw [26] (fun i wr => ∃ (k : Nat) (V : List Nat), k ≤ n ∧ i = .int .i64 (k : Int) ∧ BmAt wr b g c S V ∧ Told bs k V ∧ Below w.heap.size w wr) (fun i _ => n - (intOf i).toNat)
    case atStart => exact ⟨0, W, Nat.zero_le _, rfl, HAT1.out, fun i => by rw [HBI1.out, inB_zeros]; simp, HB1.out⟩
    case round =>
      obtain ⟨k, V, hk, rfl, hat, htold, hb⟩ := hrel
      have HAT := hid hat
      have HTO := hid htold
      have HB := hid hb
      clear hat htold hb HAT1 HBI1 HB1
      by_cases hlt : (k : Int) < n
      · obtain ⟨b0, o0, rfl, hok0, hc0⟩ : ∃ b0 o0, a = some ⟨b0, o0, none⟩ ∧ b0 < w.heap.size ∧ wr.cell? ⟨b0, o0 + k, none⟩ = some (.int .u8 ((bs.getD k 0 : Nat) : Int)) := by
          rcases HS.out with h | ⟨b0, o0, h, hok0, hc⟩
          · have := HL.out; rw [h] at this; simp at this; omega
          · exact ⟨b0, o0, h, hok0, (HB.out.cell hok0).trans (hc k (by have := HL.out; omega))⟩
        obtain ⟨x, hx⟩ : ∃ x, x = bs.getD k 0 := ⟨_, rfl⟩
        have hx8 : x < 256 := by rw [hx]; exact HBY.out.getD k
        rw [← hx] at hc0
        obtain ⟨no, hno⟩ : ∃ no, no = 8 * k := ⟨_, rfl⟩
        have hnoi : 8 * (k : Int) = (no : Int) := by omega
        obtain ⟨q, hq⟩ : ∃ q, q = no / 64 := ⟨_, rfl⟩
        obtain ⟨r, hr⟩ : ∃ r, r = no % 64 := ⟨_, rfl⟩
        obtain ⟨nw, hnw⟩ : ∃ nw, nw = V.length := ⟨_, rfl⟩
        obtain ⟨u, hu⟩ : ∃ u, u = V.getD q 0 := ⟨_, rfl⟩
        obtain ⟨s, hs⟩ : ∃ s, s = x <<< r := ⟨_, rfl⟩
        obtain ⟨y, hy⟩ : ∃ y, y = u ||| s := ⟨_, rfl⟩
        have hr56 : r ≤ 56 := by omega
        have hqn0 : q < V.length := by have := HAT.out.len; have := HN8.out; have := HNE.out; omega
        have hu64 : u < 18446744073709551616 := by rw [hu]; exact wget_lt HAT.out.fits q
        have hs64 : s < 18446744073709551616 := by
          rw [hs, Nat.shiftLeft_eq]
          have : (2 : Nat) ^ r ≤ 2 ^ 56 := Nat.pow_le_pow_right (by decide) hr56
          have h3 : x * 2 ^ r ≤ 255 * 2 ^ 56 := Nat.mul_le_mul (by omega) this
          omega
        have hy64 : y < 18446744073709551616 := by rw [hy]; exact or_lt64 hu64 hs64
        have hop : bits .or .u64 (u : Int) (s : Int) = (y : Int) := by rw [hy]; exact u64_or_nat u s hu64 hs64
        have hsl : (x : Int) * 2 ^ r = (s : Int) := by rw [hs, Nat.shiftLeft_eq]; simp
        have hsw : IntKind.u64.wrap (s : Int) = (s : Int) := wrap_nat hs64
        have hxw : IntKind.u64.wrap (x : Int) = (x : Int) := wrap_nat (by omega)
        have HBITS : Hid (Told bs (k + 1) (V.set q y)) := hid (told_step HTO.out hx hx8 (by rw [hq, hno]) (by rw [hr, hno]) hqn0 hs (by rw [hy, hu]))
        have HC : Hid (∀ z, Grew wr.drew z → z.cell? ⟨b, 1, none⟩ = some (.slice (some ⟨g, 0, none⟩) nw c) ∧ z.cell? ⟨g, q, none⟩ = some (.int .u64 (u : Int))) := hid fun z hz => by
          have hbz : Below wr.heap.size wr z := ⟨hz.os, hz.tape, hz.output, hz.size, hz.block⟩
          have h := HAT.out.below hbz
          exact ⟨by rw [hnw]; exact h.hw, by rw [hu]; exact h.cell hqn0⟩
        have HFZ : Hid (∀ z, Grew wr.drew z → z.frozen? ⟨g, q, none⟩ = false) := hid fun z hz => by
          have hbz : Below wr.heap.size wr z := ⟨hz.os, hz.tape, hz.output, hz.size, hz.block⟩
          exact (HAT.out.below hbz).row.frozenAt q
        have HNEW : Hid (∀ z, Grew wr.drew z → BmAt (z.setCell ⟨g, q, none⟩ (.int .u64 (y : Int))) b g c S (V.set q y) ∧ Below w.heap.size w (z.setCell ⟨g, q, none⟩ (.int .u64 (y : Int)))) := hid fun z hz => by
          have hbz : Below wr.heap.size wr z := ⟨hz.os, hz.tape, hz.output, hz.size, hz.block⟩
          exact ⟨(HAT.out.below hbz).put q hy64, (HB.out.trans (hbz.mono HB.out.size)).setCell (p := ⟨g, q, none⟩) hg2 _⟩
        have hqi : (no : Int) / 64 = (q : Int) := by omega
        have hri : (no : Int) % 64 = (r : Int) := by omega
        have hrt : (no : Int).tmod 64 = (r : Int) := by rw [Int.tmod_eq_emod_of_nonneg (by omega)]; omega
        have hqn : (q : Int) < (nw : Int) := by omega
        have hq32 : (q : Int) < 32 := by have := HAT.out.wlen; omega
        have hr64 : (r : Int) < 64 := by omega
        have hno2 : (no : Int) < 2048 := by omega
        have hqw : IntKind.i64.wrap (q : Int) = (q : Int) := by rw [IntKind.wrap_i64]; omega
        have hrw : IntKind.i64.wrap (r : Int) = (r : Int) := by rw [IntKind.wrap_i64]; omega
        have hkn : (k < n) = True := eq_true (by omega)
        have hx8' : (x : Int) < 256 := by omega
        clear hx hq hr hnw hu hs hy hno hu64 hs64 hy64 hqn0 hr56 hx8 HTO HAT hok0
        go_upto_region 10 with fail
        refine wp_region_grows 15 [Eqv' (.pointer (some ⟨b, 0, none⟩)), Eqv' (.pointer (some ⟨b, 0, none⟩)), Eqv' (.pointer (some ⟨b, 1, none⟩)), Eqv' (.slice (some ⟨g, 0, none⟩) nw c), Eqv' (.int .i64 (no : Int)), Eqv' (.int .i64 (q : Int)), Eqv' (.pointer (some ⟨g, q, none⟩)), Eqv' (.int .u64 (u : Int)), Eqv' (.int .u8 (x : Int)), Eqv' (.int .u64 (x : Int)), Eqv' (.int .i64 (no : Int)), Eqv' (.int .i64 (r : Int)), Eqv' (.int .u64 (s : Int)), Eqv' (.int .u64 (y : Int)), Eqv' (.pointer (some ⟨g, q, none⟩))] (by kernel_rfl) (by decide) (by kernel_rfl) ?_ ?_ ?_
        · repeat' (first | exact List.forall_mem_nil _ | refine List.forall_mem_cons.2 ⟨?_, ?_⟩)
          all_goals
            intro w w' v hw h
            exact h
        · simp only [AllLt]
          refine ⟨⟨⟨⟨⟨⟨⟨⟨⟨⟨⟨⟨⟨⟨⟨trivial, ?_⟩, ?_⟩, ?_⟩, ?_⟩, ?_⟩, ?_⟩, ?_⟩, ?_⟩, ?_⟩, ?_⟩, ?_⟩, ?_⟩, ?_⟩, ?_⟩, ?_⟩
          all_goals
            intro o' ho
            simp at ho
            subst ho
            intro ρ w2 hR hL hS hG
            obtain ⟨hl1, hl2, -⟩ := hL
          · refine plainG rfl ?_
            intro bA K Q' hK
            have e6 := hS 6 (by kernel_rfl)
            change ρ (.tmp 6) = _ at e6
            simp only [execOp]
            go_simp
            exact hK _ _ rfl (Grew.refl _)
          · refine plainG rfl ?_
            intro bA K Q' hK
            have e33 := hG 0 33 (by decide) (by kernel_rfl) (by kernel_rfl)
            change ρ (.tmp 33) = _ at e33
            simp only [execOp]
            go_simp
            exact hK _ _ rfl (Grew.refl _)
          · refine plainG rfl ?_
            intro bA K Q' hK
            have e34 := hG 1 34 (by decide) (by kernel_rfl) (by kernel_rfl)
            change ρ (.tmp 34) = _ at e34
            simp only [execOp]
            go_simp
            exact hK _ _ rfl (Grew.refl _)
          · refine plainG rfl ?_
            intro bA K Q' hK
            have e35 := hG 2 35 (by decide) (by kernel_rfl) (by kernel_rfl)
            change ρ (.tmp 35) = _ at e35
            obtain ⟨x0, x1⟩ := HC.out w2 hR
            simp only [execOp]
            go_simp
            exact hK _ _ rfl (Grew.refl _)
          · refine plainG rfl ?_
            intro bA K Q' hK
            have e10 := hS 10 (by kernel_rfl)
            change ρ (.tmp 10) = _ at e10
            simp only [execOp]
            go_simp
            exact hK _ _ rfl (Grew.refl _)
          · refine plainG rfl ?_
            intro bA K Q' hK
            have e37 := hG 4 37 (by decide) (by kernel_rfl) (by kernel_rfl)
            change ρ (.tmp 37) = _ at e37
            simp only [execOp]
            go_simp
            exact hK _ _ rfl (Grew.refl _)
          · refine plainG rfl ?_
            intro bA K Q' hK
            have e36 := hG 3 36 (by decide) (by kernel_rfl) (by kernel_rfl)
            have e38 := hG 5 38 (by decide) (by kernel_rfl) (by kernel_rfl)
            change ρ (.tmp 36) = _ at e36
            change ρ (.tmp 38) = _ at e38
            simp only [execOp]
            go_simp
            exact hK _ _ rfl (Grew.refl _)
          · refine plainG rfl ?_
            intro bA K Q' hK
            have e39 := hG 6 39 (by decide) (by kernel_rfl) (by kernel_rfl)
            change ρ (.tmp 39) = _ at e39
            obtain ⟨x0, x1⟩ := HC.out w2 hR
            simp only [execOp]
            go_simp
            exact hK _ _ rfl (Grew.refl _)
          · refine plainG rfl ?_
            intro bA K Q' hK
            have e9 := hS 9 (by kernel_rfl)
            change ρ (.tmp 9) = _ at e9
            simp only [execOp]
            go_simp
            exact hK _ _ rfl (Grew.refl _)
          · refine plainG rfl ?_
            intro bA K Q' hK
            have e41 := hG 8 41 (by decide) (by kernel_rfl) (by kernel_rfl)
            change ρ (.tmp 41) = _ at e41
            simp only [execOp]
            go_simp
            exact hK _ _ rfl (Grew.refl _)
          · refine plainG rfl ?_
            intro bA K Q' hK
            have e10 := hS 10 (by kernel_rfl)
            change ρ (.tmp 10) = _ at e10
            simp only [execOp]
            go_simp
            exact hK _ _ rfl (Grew.refl _)
          · refine plainG rfl ?_
            intro bA K Q' hK
            have e43 := hG 10 43 (by decide) (by kernel_rfl) (by kernel_rfl)
            change ρ (.tmp 43) = _ at e43
            simp only [execOp]
            go_simp
            exact hK _ _ rfl (Grew.refl _)
          · refine plainG rfl ?_
            intro bA K Q' hK
            have e42 := hG 9 42 (by decide) (by kernel_rfl) (by kernel_rfl)
            have e44 := hG 11 44 (by decide) (by kernel_rfl) (by kernel_rfl)
            change ρ (.tmp 42) = _ at e42
            change ρ (.tmp 44) = _ at e44
            simp only [execOp]
            go_simp
            exact hK _ _ rfl (Grew.refl _)
          · refine plainG rfl ?_
            intro bA K Q' hK
            have e40 := hG 7 40 (by decide) (by kernel_rfl) (by kernel_rfl)
            have e45 := hG 12 45 (by decide) (by kernel_rfl) (by kernel_rfl)
            change ρ (.tmp 40) = _ at e40
            change ρ (.tmp 45) = _ at e45
            simp only [execOp]
            go_simp
            exact hK _ _ rfl (Grew.refl _)
          · refine plainG rfl ?_
            intro bA K Q' hK
            have e36 := hG 3 36 (by decide) (by kernel_rfl) (by kernel_rfl)
            have e38 := hG 5 38 (by decide) (by kernel_rfl) (by kernel_rfl)
            change ρ (.tmp 36) = _ at e36
            change ρ (.tmp 38) = _ at e38
            simp only [execOp]
            go_simp
            exact hK _ _ rfl (Grew.refl _)
        · intro v w3 hR hG
          have h10 : v 13 = .int .u64 (y : Int) := hG.1.2
          have h11 : v 14 = .pointer (some ⟨g, q, none⟩) := hG.2
          obtain ⟨x0, x1⟩ := HC.out w3 hR
          have HX := hid (HNEW.out w3 hR)
          have hfz := HFZ.out w3 hR
          clear hG hR HC HNEW HFZ
          simp [stG, stU, dstAt, Act.put, h10, h11]
          go_wp2_with fail
          go_roundw
          case rel => exact ⟨k + 1, V.set q y, by omega, by go_num, HX.out.1, HBITS.out, HX.out.2⟩
          case measure => simp [intOf]; omega
      · have hkf : (k < n) = False := eq_false (by omega)
        have hke : k = bs.length := by have := HL.out; omega
        subst hke
        have HLEN : Hid (bs.length = (S + 7) / 8) := hid (by rw [← HL.out, HNE.out, HN8.out])
        have HTR := hid (trim_any b g c S V wr HAT.out)
        clear hlt
        go_wp2_with fail
        refine HTR.out.mono ?_
        clear HTR
        rintro e w5 ⟨⟨t, V', rfl, hV, hcut, hov⟩, hmv⟩
        have HB5 : Hid (Below w.heap.size w w5) := hid (HB.out.trans (hmv.below HB.out.size fun i hi => by subst hi; exact hg2))
        have HV := hid hV
        have HCU := hid hcut
        clear hV hcut hmv HB
        rcases hov with ⟨rfl, hf⟩ | ⟨rfl, hf⟩
        · have HR := hid (parse_yes HBY.out HLEN.out HTO.out HCU.out hf)
          clear hf
          go_wp2_with fail
          go_ret2
          exact ⟨.inl ⟨HR.out.1, _, rfl, b, g, c, V', rfl, hb2, hg2, by rw [parseB_len]; exact HV.out, HR.out.2⟩, HB5.out⟩
        · have HR := hid (parse_no HLEN.out HTO.out hf)
          clear hf
          go_wp2_with fail
          go_ret2
          exact ⟨.inr ⟨HR.out, rfl⟩, HB5.out⟩
  · have hneb : ((n : Int) != n8) = true := by rw [bne_iff_ne]; omega
    have HNE : Hid (bytesB (inB (parseB S bs)) S ≠ bs) := hid fun e => by
      have := congrArg List.length e
      rw [bytesB_len, ← hn8, ← HL.out] at this
      exact hne this.symm
    clear hne hn8
    go_wp2_with fail
    refine (HP8.out _).mono ?_
    rintro e w2 ⟨rfl, rfl⟩
    go_wp2_with fail
    go_ret2
    exact ⟨.inr ⟨HNE.out, rfl⟩, HB1.out⟩
end Go.Proofs.YtpdkfmanehgabaaDoor
