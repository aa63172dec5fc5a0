/- CONTRACTS: do the last four bytes hold the sum of all ahead of them? In whatever order Go reads and calls. PLAIN FACTS: marked bytes hold; with one byte turned they don't; turned twice they are as they were. PLAIN FACTS OF FRAMES: their bytes, what is picked from bytes, when bytes are a frame's, torn pages. PLAIN FACTS: when bytes are a frame's, in the document's words. -/
import Derived.Test.YtebacgkeolofmaaU3
import Derived.Deep.RegionHeld3
import Derived.Test.YtebacgkeolofmaaU0
namespace Go.Proofs.Ytebacgkeolofmaa
open Go.RowKit Go.Inc

theorem holds_short (a : Option Addr) (n c : Nat) (w : World) (h : (n : Int) < 4) :
    Calls Try.prog 78 #[.slice a n c] w fun e w' => e = .returned (.bool false) ∧ w = w' := by
  have h0 : (n : Int) - 4 < 0 := by omega
  go_enter Try.func78, Try.ntmps78
  go_wp2_with fail
  go_ret
  exact ⟨rfl, rfl⟩

/-- What the region reads. -/
def Four (w w' : World) (b o : Nat) (x0 x1 x2 x3 : Nat) : Prop :=
  Below w.heap.size w w' ∧ w'.cell? ⟨b, o, none⟩ = some (.int .u8 (x0 : Int)) ∧ w'.cell? ⟨b, o + 1, none⟩ = some (.int .u8 (x1 : Int)) ∧ w'.cell? ⟨b, o + 2, none⟩ = some (.int .u8 (x2 : Int)) ∧ w'.cell? ⟨b, o + 3, none⟩ = some (.int .u8 (x3 : Int))
theorem Four.of {w w' : World} {b o x0 x1 x2 x3 : Nat} (h : Four w w b o x0 x1 x2 x3) (hB : Below w.heap.size w w') : Four w w' b o x0 x1 x2 x3 :=
  ⟨hB, (hB.cell (cell_lt h.2.1)).trans h.2.1, (hB.cell (cell_lt h.2.2.1)).trans h.2.2.1, (hB.cell (cell_lt h.2.2.2.1)).trans h.2.2.2.1, (hB.cell (cell_lt h.2.2.2.2)).trans h.2.2.2.2⟩
theorem pt_pre {w wx : World} {b o : Nat} {pre : List Nat} (hp : Sl (fun b => b < w.heap.size) w (some ⟨b, o, none⟩) pre) (hb : Bytes pre) (hB : Below w.heap.size w wx) (c : Nat) (hc : pre.length ≤ c ∧ c ≤ maxLen) (T : TypeId) (k : Nat) (hk : pre.length = k) :
    Pt (fun b => b < w.heap.size ∨ b = wx.heap.size) (wx.alloc (.cells #[.slice (some ⟨b, o, none⟩) k c] T)) (some ⟨wx.heap.size, 0, none⟩) [pre] := by
  subst hk
  exact Pt.one (hp.below hB) hb c hc T
theorem arr4 (w : World) (a : Addr) (c : Nat) : (Instr.arrayAt 76 (.slice (some a) 4 c)).run Try.prog w = .ok (.pointer (some a)) w := by
  simp [Instr.arrayAt, go_sem]
theorem eq4 (w : World) (x0 x1 x2 x3 y0 y1 y2 y3 : Int) :
    (Op.equalIn 10000 76 (.agg #[.int .u8 x0, .int .u8 x1, .int .u8 x2, .int .u8 x3]) (.agg #[.int .u8 y0, .int .u8 y1, .int .u8 y2, .int .u8 y3])).run Try.prog w =
      .ok (x0 == y0 && (x1 == y1 && (x2 == y2 && x3 == y3))) w := by
  have hi : ∃ i, Try.prog.info? 5 = some i ∧ i.size = 1 := by obtain ⟨i, h1, _, h2, _⟩ := info_parts infoU8; exact ⟨i, h1, h2⟩
  obtain ⟨i, hi, hs⟩ := hi
  have hp : ∀ (cs : Array Value) (n : Nat) (v : Value) (w : World), cs[n]? = some v → (part 5 cs n).run Try.prog w = .ok v w := by
    intro cs n v w h
    simp [part, isAgg, Sem.run_bind, run_underlying Try.underlying5, h]
  unfold Op.equalIn
  simp only [Sem.run_bind, run_underlying Try.underlying76, Result.andThen_ok]
  simp [sizeOf, typeInfo, hi, hs, List.range', hp, run_equalIn_int _ _ _ _ _ _ _ Try.underlying5]
  by_cases h0 : x0 = y0 <;> by_cases h1 : x1 = y1 <;> by_cases h2 : x2 = y2 <;> by_cases h3 : x3 = y3 <;> simp [h0, h1, h2, h3]

theorem eq_low (w : World) (x0 x1 x2 x3 s : Nat) :
    (Op.equalIn 10000 76 (.agg #[.int .u8 x0, .int .u8 x1, .int .u8 x2, .int .u8 x3]) (.agg (u8s (low s)).toArray)).run Try.prog w = .ok (decide ([x0, x1, x2, x3] = low s)) w := by
  refine (eq4 w x0 x1 x2 x3 _ _ _ _).trans ?_
  congr 1
  rw [Bool.eq_iff_iff]
  simp only [low, List.cons.injEq, and_true, Bool.and_eq_true, beq_iff_eq, decide_eq_true_eq]
  omega
set_option maxRecDepth 20000 in
set_option maxHeartbeats 2000000 in
theorem holds_long (b o k c : Nat) (pre : List Nat) (x0 x1 x2 x3 : Nat) (w : World) (hk : pre.length = k) (hb : Bytes pre)
    (hpre : Sl (fun b => b < w.heap.size) w (some ⟨b, o, none⟩) pre) (hf : Four w w b (o + k) x0 x1 x2 x3) (hc : ((k + 4 : Nat) : Int) ≤ c) (hm : (c : Int) ≤ 9223372036854775807) :
    Calls Try.prog 78 #[.slice (some ⟨b, o, none⟩) (k + 4) c] w fun e w' => e = .returned (.bool (decide ([x0, x1, x2, x3] = low (Crc.sum pre)))) ∧ Below w.heap.size w w' := by
  have hk0 : (0 : Int) ≤ k := by omega
  have HK := hid hk
  have HP := hid hpre
  have HF := hid hf
  have HB := hid hb
  have hc2 : Hid (pre.length ≤ c ∧ c ≤ maxLen) := hid ⟨by omega, by unfold maxLen; omega⟩
  have hfl : Hid ([pre].flatten = pre) := hid (by simp)
  have hck : (k : Int) ≤ c := by omega
  have hck4 : (k : Int) ≤ k + 4 := by omega
  have hpt := Pt.below (pt_pre hpre hb (Below.refl _ _) c hc2.out 26 k hk) ((Below.refl _ _).drew)
  have H9 := hid (sum_any _ 1 _ _ _ hpt (by show [pre].flatten.length ≤ _; rw [hfl.out]; omega) (by simp))
  have HBX : Hid (Below w.heap.size w (w.alloc (.cells #[.slice (some ⟨b, o, none⟩) k c] 26)).drew) := hid (((Below.refl _ _).alloc (Nat.le_refl _) _).drew)
  have hsl := Crc.sum_lt pre hb
  rw [hfl.out] at H9
  generalize Crc.sum pre = s at *
  clear hk hpre hf hb hpt
  have harr := arr4
  have heqq := fun w => eq_low w x0 x1 x2 x3 s
  go_enter Try.func78, Try.ntmps78
  go_wp2_with fail
  go_region_held3 (fun w' => Below w.heap.size w w' ∧ w'.cell? ⟨b, o + k, none⟩ = some (.int .u8 (x0 : Int)) ∧ w'.cell? ⟨b, o + k + 1, none⟩ = some (.int .u8 (x1 : Int)) ∧ w'.cell? ⟨b, o + k + 2, none⟩ = some (.int .u8 (x2 : Int)) ∧ w'.cell? ⟨b, o + k + 3, none⟩ = some (.int .u8 (x3 : Int)))
    (exact HF.out.of (by repeat (first | exact Below.refl _ _ | assumption | apply Below.drew | refine Below.alloc ?_ (by first | exact Nat.le_refl _ | (simp; done)) _)))
    (first | (go_at_call 40; refine H9.out.mono ?_; rintro e w1 ⟨rfl, hb1⟩; have hbw := Below.trans HBX.out (hb1.mono HBX.out.size); clear hb1) | (go_at_call 39; refine (ending_any _ _ hsl).mono ?_; rintro e w2 ⟨rfl, hb2⟩; have hbw2 := Below.trans hbw (hb2.mono hbw.size); clear hb2))
  all_goals
    go_wp2_with fail
    go_ret
    exact ⟨rfl, by assumption⟩

/-- Are the last four bytes the sum of all ahead of them? -/
def holds (bs : List Nat) : Bool := decide (4 ≤ bs.length ∧ bs.drop (bs.length - 4) = low (Crc.sum (bs.take (bs.length - 4))))
theorem last_four {l : List Nat} (h : l.length = 4) : l = [l.getD 0 0, l.getD 1 0, l.getD 2 0, l.getD 3 0] := by
  match l, h with
  | [a, b, c, d], _ => rfl
theorem holds_any (ok : Nat → Prop) (a : Option Addr) (c : Nat) (bs : List Nat) (w : World) (hs : Sl ok w a bs) (hby : Bytes bs) (hc : bs.length ≤ c) (hm : c ≤ maxLen) :
    Calls Try.prog 78 #[.slice a bs.length c] w fun e w' => e = .returned (.bool (holds bs)) ∧ Below w.heap.size w w' := by
  by_cases h4 : bs.length < 4
  · refine (holds_short a bs.length c w (by omega)).mono ?_
    rintro e w' ⟨rfl, rfl⟩
    refine ⟨ret_bool ?_, Below.refl _ _⟩
    symm
    unfold holds
    rw [decide_eq_false_iff_not]
    omega
  · have hs' : Sl (fun b => b < w.heap.size) w a bs := hs.mono fun _ _ h => h
    rcases hs with rfl | ⟨b, o, rfl, _, hcell⟩
    · simp at h4
    · have hk : bs.length - 4 + 4 = bs.length := by omega
      have hpl : (bs.take (bs.length - 4)).length = bs.length - 4 := by rw [List.length_take]; omega
      have hdl : (bs.drop (bs.length - 4)).length = 4 := by rw [List.length_drop]; omega
      have hd : ∀ j, j < 4 → (bs.drop (bs.length - 4)).getD j 0 = bs.getD (bs.length - 4 + j) 0 := by
        intro j hj
        simp only [List.getD_eq_getElem?_getD, List.getElem?_drop]
      have hf : Four w w b (o + (bs.length - 4)) ((bs.drop (bs.length - 4)).getD 0 0) ((bs.drop (bs.length - 4)).getD 1 0) ((bs.drop (bs.length - 4)).getD 2 0) ((bs.drop (bs.length - 4)).getD 3 0) := by
        refine ⟨Below.refl _ _, ?_, ?_, ?_, ?_⟩
        · rw [hd 0 (by omega), ← hcell _ (by omega)]; rfl
        · rw [hd 1 (by omega), ← hcell _ (by omega)]; rfl
        · rw [hd 2 (by omega), ← hcell _ (by omega)]; rfl
        · rw [hd 3 (by omega), ← hcell _ (by omega)]; rfl
      have H := holds_long b o (bs.length - 4) c (bs.take (bs.length - 4)) _ _ _ _ w hpl (hby.take _) (hs'.front _) hf (by omega) (by unfold maxLen at hm; omega)
      rw [hk] at H
      refine H.mono ?_
      rintro e w' ⟨rfl, hb⟩
      refine ⟨ret_bool ?_, hb⟩
      rw [← last_four hdl]
      unfold holds
      congr 1
      simp [show 4 ≤ bs.length by omega]
end Go.Proofs.Ytebacgkeolofmaa
namespace Go.Proofs.Ytebacgkeolofmaa
open Go.RowKit Go.Inc

theorem holds_mark (bs : List Nat) : holds (mark bs) = true := by
  unfold holds
  rw [decide_eq_true_iff, mark_len]
  refine ⟨by omega, ?_⟩
  rw [show bs.length + 4 - 4 = bs.length from by omega]
  unfold mark
  rw [List.drop_left, List.take_left]

/-- A byte that is turned by nothing is as it was; turned twice, too. -/
theorem turned_twice (bs : List Nat) (k : Int) (b : Nat) : turned (turned bs k b) k b = bs := by
  by_cases h : 0 ≤ k ∧ k < bs.length
  · obtain ⟨m, rfl⟩ := Int.eq_ofNat_of_zero_le h.1
    have hm : m < bs.length := by omega
    rw [turned_in hm, turned_in (by simpa using hm)]
    apply List.ext_getElem?
    intro i
    rw [List.getElem?_set, List.getElem?_set]
    by_cases hi : m = i
    · subst hi
      simp [hm, List.getD_eq_getElem?_getD, Nat.xor_assoc]
    · simp [hi]
  · have h1 : turned bs k b = bs := turned_out (by omega)
    rw [h1, h1]
theorem turned_zero (bs : List Nat) (k : Int) : turned bs k 0 = bs := by
  unfold turned
  split
  · rename_i h
    obtain ⟨m, rfl⟩ := Int.eq_ofNat_of_zero_le h.1
    have hm : m < bs.length := by omega
    apply List.ext_getElem?
    intro i
    rw [List.getElem?_set]
    by_cases hi : m = i
    · subst hi
      simp [hm, List.getD_eq_getElem?_getD]
    · simp [show (m : Int).toNat = m from rfl, hi]
  · rfl

theorem set_mid (bs : List Nat) (m x : Nat) (h : m < bs.length) : bs.set m x = bs.take m ++ x :: bs.drop (m + 1) := List.set_eq_take_append_cons_drop.trans (by rw [if_pos h])

/-- A marked list with one byte turned holds no more. -/
theorem holds_turned (bs : List Nat) (hby : Bytes bs) (m b : Nat) (hm : m < (mark bs).length) (hb : b < 256) (hb0 : b ≠ 0) : holds (turned (mark bs) m b) = false := by
  rw [turned_in hm]
  unfold holds
  rw [decide_eq_false_iff_not, List.length_set, mark_len]
  rintro ⟨_, h⟩
  rw [show bs.length + 4 - 4 = bs.length from by omega] at h
  rw [mark_len] at hm
  by_cases hin : m < bs.length
  · have e1 : (mark bs).getD m 0 = bs.getD m 0 := by
      unfold mark
      simp only [List.getD_eq_getElem?_getD, List.getElem?_append_left hin]
    have e2 : (mark bs).set m ((mark bs).getD m 0 ^^^ b) = bs.set m (bs.getD m 0 ^^^ b) ++ low (Crc.sum bs) := by
      rw [e1]
      unfold mark
      rw [List.set_append_left _ _ hin]
    rw [e2, List.drop_left' (by simp), List.take_left' (by simp)] at h
    have h := low_inj h
    have hx := hby.getD m
    have e3 : bs = bs.take m ++ bs.getD m 0 :: bs.drop (m + 1) := by
      rw [← set_mid bs m _ hin]
      apply List.ext_getElem?
      intro i
      rw [List.getElem?_set]
      by_cases hi : m = i
      · subst hi; simp [hin, List.getD_eq_getElem?_getD]
      · simp [hi]
    rw [set_mid bs m _ hin] at h
    conv at h => lhs; rw [e3]
    have := Crc.sum_turned (hby.take m) (hby.drop (m + 1)) hx (Nat.xor_lt_two_pow (n := 8) hx hb) h
    have h2 : bs.getD m 0 ^^^ (bs.getD m 0 ^^^ b) = bs.getD m 0 ^^^ bs.getD m 0 := by rw [← this]
    rw [← Nat.xor_assoc, Nat.xor_self, Nat.zero_xor] at h2
    exact hb0 h2
  · obtain ⟨j, rfl⟩ : ∃ j, m = bs.length + j := ⟨m - bs.length, by omega⟩
    have hj : j < (low (Crc.sum bs)).length := by
      have : (low (Crc.sum bs)).length = 4 := rfl
      omega
    have e2 : (mark bs).set (bs.length + j) ((mark bs).getD (bs.length + j) 0 ^^^ b) = bs ++ (low (Crc.sum bs)).set j ((low (Crc.sum bs)).getD j 0 ^^^ b) := by
      unfold mark
      rw [List.set_append_right _ _ (by omega), List.getD_eq_getElem?_getD, List.getD_eq_getElem?_getD, List.getElem?_append_right (by omega)]
      rw [show bs.length + j - bs.length = j from by omega]
    rw [e2, List.drop_left, List.take_left] at h
    have h2 := congrArg (fun l => l.getD j 0) h
    simp only [List.getD_eq_getElem?_getD, List.getElem?_set_self hj, Option.getD_some] at h2
    generalize (low (Crc.sum bs))[j]?.getD 0 = x at h2
    have h3 : x ^^^ (x ^^^ b) = x ^^^ x := by rw [h2]
    rw [← Nat.xor_assoc, Nat.xor_self, Nat.zero_xor] at h3
    exact hb0 h3

theorem own_cap {w : World} {B e n c m : Nat} {a : Option Addr} {x : List Value} (h : w.ownsRow B e 1 (.slice a n c) m x) : n ≤ c ∧ c ≤ maxLen := by
  rcases h.2 with ⟨h, _⟩ | ⟨g, cap', cur, h, _, _, h1, h2, _⟩
  · simp only [Value.slice.injEq] at h
    unfold maxLen
    omega
  · simp only [Value.slice.injEq] at h
    omega
end Go.Proofs.Ytebacgkeolofmaa
namespace Go.Proofs.Ytebacgkeolofmaa
open Go.RowKit Go.Inc

/-- A frame. -/
structure Fr where
  k : Int
  e : Int
  p : Int
  b : List Nat

def Fr.ok (f : Fr) : Prop := 1 ≤ f.k ∧ f.k ≤ 9 ∧ 0 ≤ f.e ∧ f.e ≤ 4294967295 ∧ 0 ≤ f.p ∧ f.p ≤ 2047 ∧ f.b.length ≤ 238
/-- Is it right? -/
def chk (f : Fr) : Nat := if f.k < 1 ∨ 9 < f.k then 13 else if f.e < 0 ∨ 4294967295 < f.e ∨ f.p < 0 ∨ 2047 < f.p then 10 else if 238 < f.b.length then 2 else 0
theorem chk_zero (f : Fr) : chk f = 0 ↔ f.ok := by
  unfold chk Fr.ok
  repeat' split
  all_goals omega
theorem chk_ok {f : Fr} (h : f.ok) : chk f = 0 := (chk_zero f).2 h

def fr2 (n : Nat) : List Nat := [n % 256, n / 256 % 256]
def fr4 (n : Nat) : List Nat := [n % 256, n / 256 % 256, n / 65536 % 256, n / 16777216 % 256]
theorem fr2_bytes (n : Nat) : Bytes (fr2 n) := by intro x hx; simp only [fr2, List.mem_cons, List.not_mem_nil, or_false] at hx; omega
theorem fr4_bytes (n : Nat) : Bytes (fr4 n) := by intro x hx; simp only [fr4, List.mem_cons, List.not_mem_nil, or_false] at hx; omega
/-- The bytes but the sum. -/
def laid (f : Fr) : List Nat := [241, f.k.toNat % 256] ++ fr4 f.e.toNat ++ fr2 f.p.toNat ++ fr2 f.b.length ++ f.b ++ List.replicate (238 - f.b.length) 0 ++ fr4 f.e.toNat
theorem laid_len {f : Fr} (h : f.b.length ≤ 238) : (laid f).length = 252 := by
  simp [laid, fr4, fr2]; omega
theorem laid_bytes {f : Fr} (hb : Bytes f.b) : Bytes (laid f) := by
  unfold laid
  refine (((((Bytes.append ?_ (fr4_bytes _)).append (fr2_bytes _)).append (fr2_bytes _)).append hb).append ?_).append (fr4_bytes _)
  · intro x hx; simp at hx; omega
  · intro x hx; rw [List.mem_replicate] at hx; omega
def enc (f : Fr) : List Nat := mark (laid f)
theorem enc_len {f : Fr} (h : f.b.length ≤ 238) : (enc f).length = 256 := by unfold enc; rw [mark_len, laid_len h]
theorem enc_bytes {f : Fr} (hb : Bytes f.b) : Bytes (enc f) := mark_bytes (laid_bytes hb)
theorem enc_take {f : Fr} (h : f.b.length ≤ 238) : (enc f).take 252 = laid f := by unfold enc mark; exact List.take_left' (laid_len h)

/-- Bytes from a place on. -/
def frAt (bs : List Nat) (i j : Nat) : List Nat := (bs.drop i).take j
theorem frAt_len {bs : List Nat} {i j : Nat} (h : i + j ≤ bs.length) : (frAt bs i j).length = j := by unfold frAt; rw [List.length_take, List.length_drop]; omega
theorem frAt_bytes {bs : List Nat} (h : Bytes bs) (i j : Nat) : Bytes (frAt bs i j) := (h.drop i).take j
theorem frAt_get {bs : List Nat} {i j x : Nat} (h : x < j) : (frAt bs i j).getD x 0 = bs.getD (i + x) 0 := by
  unfold frAt
  rw [List.getD_eq_getElem?_getD, List.getElem?_take, if_pos h, List.getElem?_drop, ← List.getD_eq_getElem?_getD]
theorem frAt_take (bs : List Nat) (i j m : Nat) (h : i + j ≤ m) : frAt (bs.take m) i j = frAt bs i j := by
  unfold frAt
  rw [List.drop_take, List.take_take, Nat.min_eq_left (by omega)]
theorem frAt_left {a b : List Nat} {i j : Nat} (h : i + j ≤ a.length) : frAt (a ++ b) i j = frAt a i j := by
  have := frAt_take (a ++ b) i j a.length h
  rw [List.take_left] at this
  exact this.symm
theorem frAt_mid (a b c : List Nat) {i j : Nat} (hi : a.length = i) (hj : b.length = j) : frAt (a ++ b ++ c) i j = b := by
  unfold frAt
  rw [List.append_assoc, List.drop_left' hi, List.take_left' hj]
theorem num2 (a b : Nat) : Var.num [a, b] = a + 256 * b := by simp [Var.num]; try omega
theorem num1 (a : Nat) : Var.num [a] = a := by simp [Var.num]
theorem num4 (a b c d : Nat) : Var.num [a, b, c, d] = a + 256 * b + 65536 * c + 16777216 * d := by simp [Var.num]; omega
theorem of_len1 {l : List Nat} (h : l.length = 1) : l = [l.getD 0 0] := by
  match l, h with
  | [a], _ => rfl
theorem of_len2 {l : List Nat} (h : l.length = 2) : l = [l.getD 0 0, l.getD 1 0] := by
  match l, h with
  | [a, b], _ => rfl
theorem fr2_num {l : List Nat} (h : l.length = 2) (hb : Bytes l) : fr2 (Var.num l) = l := by
  match l, h with
  | [a, b], _ =>
    have ha := hb a (by simp)
    have hb := hb b (by simp)
    rw [num2]; unfold fr2
    congr 1
    · omega
    · congr 1; omega
theorem fr4_num {l : List Nat} (h : l.length = 4) (hb : Bytes l) : fr4 (Var.num l) = l := by
  match l, h with
  | [a, b, c, d], _ =>
    have ha := hb a (by simp)
    have hb' := hb b (by simp)
    have hc := hb c (by simp)
    have hd := hb d (by simp)
    rw [num4]; unfold fr4
    congr 1
    · omega
    · congr 1
      · omega
      · congr 1
        · omega
        · congr 1; omega
theorem num_fr2 {n : Nat} (h : n < 65536) : Var.num (fr2 n) = n := by unfold fr2; rw [num2]; omega
theorem num_fr4 {n : Nat} (h : n < 4294967296) : Var.num (fr4 n) = n := by unfold fr4; rw [num4]; omega
theorem num_lt2 {l : List Nat} (h : l.length = 2) (hb : Bytes l) : Var.num l < 65536 := by
  match l, h with
  | [a, b], _ =>
    have ha := hb a (by simp)
    have hb := hb b (by simp)
    rw [num2]; omega
theorem num_lt4 {l : List Nat} (h : l.length = 4) (hb : Bytes l) : Var.num l < 4294967296 := by
  match l, h with
  | [a, b, c, d], _ =>
    have ha := hb a (by simp)
    have hb' := hb b (by simp)
    have hc := hb c (by simp)
    have hd := hb d (by simp)
    rw [num4]; omega

/-- The size of the body, as the bytes tell it. -/
def frN (bs : List Nat) : Nat := Var.num (frAt bs 8 2)
/-- What stands in a page's bytes, right or not. -/
def picked (bs : List Nat) : Fr := ⟨(Var.num (frAt bs 1 1) : Nat), (Var.num (frAt bs 2 4) : Nat), (Var.num (frAt bs 6 2) : Nat), frAt bs 10 (min (frN bs) 238)⟩
theorem picked_bytes {bs : List Nat} (h : Bytes bs) : Bytes (picked bs).b := frAt_bytes h _ _
theorem picked_len {bs : List Nat} (h : bs.length = 256) : (picked bs).b.length = min (frN bs) 238 := by unfold picked; exact frAt_len (by omega)
theorem picked_248 {a b : List Nat} (h : a.take 248 = b.take 248) : picked a = picked b := by
  have key : ∀ i j, i + j ≤ 248 → frAt a i j = frAt b i j := fun i j hij => by rw [← frAt_take a i j 248 hij, h, frAt_take b i j 248 hij]
  have hn : frN a = frN b := by unfold frN; rw [key 8 2 (by omega)]
  unfold picked
  rw [key 1 1 (by omega), key 2 4 (by omega), key 6 2 (by omega), hn, key 10 _ (by omega)]

theorem picked_laid {f : Fr} (h : f.ok) (t : List Nat) : picked (laid f ++ t) = f := by
  obtain ⟨h1, h2, h3, h4, h5, h6, h7⟩ := h
  have hl := laid_len h7
  have e : ∀ i j, i + j ≤ 252 → frAt (laid f ++ t) i j = frAt (laid f) i j := fun i j hij => frAt_left (by omega)
  have p0 : frAt (laid f) 1 1 = [f.k.toNat % 256] := by
    unfold laid frAt
    simp
  have p2 : frAt (laid f) 2 4 = fr4 f.e.toNat := by
    unfold laid
    rw [List.append_assoc, List.append_assoc, List.append_assoc, List.append_assoc]
    exact frAt_mid [241, f.k.toNat % 256] (fr4 f.e.toNat) _ rfl rfl
  have p6 : frAt (laid f) 6 2 = fr2 f.p.toNat := by
    unfold laid
    rw [List.append_assoc, List.append_assoc, List.append_assoc]
    exact frAt_mid ([241, f.k.toNat % 256] ++ fr4 f.e.toNat) (fr2 f.p.toNat) _ rfl rfl
  have p8 : frAt (laid f) 8 2 = fr2 f.b.length := by
    unfold laid
    rw [List.append_assoc, List.append_assoc]
    exact frAt_mid ([241, f.k.toNat % 256] ++ fr4 f.e.toNat ++ fr2 f.p.toNat) (fr2 f.b.length) _ rfl rfl
  have p10 : frAt (laid f) 10 f.b.length = f.b := by
    unfold laid
    rw [List.append_assoc]
    exact frAt_mid ([241, f.k.toNat % 256] ++ fr4 f.e.toNat ++ fr2 f.p.toNat ++ fr2 f.b.length) f.b _ rfl rfl
  have hn : frN (laid f ++ t) = f.b.length := by unfold frN; rw [e 8 2 (by omega), p8, num_fr2 (by omega)]
  unfold picked
  rw [hn, Nat.min_eq_left h7, e 1 1 (by omega), e 2 4 (by omega), e 6 2 (by omega), e 10 _ (by omega), p0, p2, p6, p10, num1, num_fr4 (by omega), num_fr2 (by omega)]
  have a1 : ((f.k.toNat % 256 : Nat) : Int) = f.k := by omega
  have a2 : ((f.e.toNat : Nat) : Int) = f.e := by omega
  have a3 : ((f.p.toNat : Nat) : Int) = f.p := by omega
  rw [a1, a2, a3]
theorem picked_enc {f : Fr} (h : f.ok) : picked (enc f) = f := picked_laid h _

/-- Bytes are a frame's: the document's list of what is asked. -/
def Form (bs : List Nat) : Prop := bs.getD 0 0 = 241 ∧ frN bs ≤ 238 ∧ frAt bs (10 + frN bs) (238 - frN bs) = List.replicate (238 - frN bs) 0 ∧ frAt bs 248 4 = frAt bs 2 4
theorem split252 (bs : List Nat) (m : Nat) (hm : m ≤ 238) : bs.take 252 = bs.take 2 ++ frAt bs 2 4 ++ frAt bs 6 2 ++ frAt bs 8 2 ++ frAt bs 10 m ++ frAt bs (10 + m) (238 - m) ++ frAt bs 248 4 := by
  unfold frAt
  rw [show 252 = 248 + 4 from rfl, List.take_add]
  have h1 : bs.take 248 = bs.take (10 + m) ++ (bs.drop (10 + m)).take (238 - m) := by rw [← List.take_add]; congr 1; omega
  rw [h1, List.take_add (i := 10), show 10 = 8 + 2 from rfl, List.take_add (i := 8), show 8 = 6 + 2 from rfl, List.take_add (i := 6), show 6 = 2 + 4 from rfl, List.take_add (i := 2)]
theorem form_laid {bs : List Nat} (h : bs.length = 256) (hb : Bytes bs) : laid (picked bs) = bs.take 252 ↔ Form bs := by
  have hm : min (frN bs) 238 ≤ 238 := Nat.min_le_right _ _
  have hpl := picked_len h
  have h2 : bs.take 2 = [bs.getD 0 0, bs.getD 1 0] := by
    have := of_len2 (l := bs.take 2) (by rw [List.length_take]; omega)
    rw [this]
    simp only [List.getD_eq_getElem?_getD, List.getElem?_take]
    rfl
  have hk : (Var.num (frAt bs 1 1) : Nat) = bs.getD 1 0 := by
    have := of_len1 (l := frAt bs 1 1) (frAt_len (by omega))
    rw [this, num1, frAt_get (by omega)]
  have hk2 := hb.getD 1
  have e4 : fr4 (Var.num (frAt bs 2 4)) = frAt bs 2 4 := fr4_num (frAt_len (by omega)) (frAt_bytes hb _ _)
  have e2 : fr2 (Var.num (frAt bs 6 2)) = frAt bs 6 2 := fr2_num (frAt_len (by omega)) (frAt_bytes hb _ _)
  have e8 : fr2 (frN bs) = frAt bs 8 2 := fr2_num (frAt_len (by omega)) (frAt_bytes hb _ _)
  have hN : frN bs < 65536 := num_lt2 (frAt_len (by omega)) (frAt_bytes hb _ _)
  have hlaid : laid (picked bs) = [241, bs.getD 1 0] ++ frAt bs 2 4 ++ frAt bs 6 2 ++ fr2 (min (frN bs) 238) ++ frAt bs 10 (min (frN bs) 238) ++ List.replicate (238 - min (frN bs) 238) 0 ++ frAt bs 2 4 := by
    unfold laid
    rw [hpl]
    unfold picked
    simp only [Int.toNat_natCast]
    rw [hk, e4, e2, Nat.mod_eq_of_lt hk2]
  rw [hlaid, split252 bs _ hm, h2]
  have l4 : (frAt bs 248 4).length = 4 := frAt_len (by omega)
  have l2 : (frAt bs 2 4).length = 4 := frAt_len (by omega)
  have lz : (frAt bs (10 + min (frN bs) 238) (238 - min (frN bs) 238)).length = 238 - min (frN bs) 238 := frAt_len (by omega)
  have l8 : (frAt bs 8 2).length = 2 := frAt_len (by omega)
  constructor
  · intro hx
    obtain ⟨hx, x4⟩ := List.append_inj' hx (by rw [l2, l4])
    obtain ⟨hx, xz⟩ := List.append_inj' hx (by rw [lz, List.length_replicate])
    obtain ⟨hx, _⟩ := List.append_inj' hx rfl
    obtain ⟨hx, x8⟩ := List.append_inj' hx (by rw [l8]; rfl)
    obtain ⟨hx, _⟩ := List.append_inj' hx rfl
    obtain ⟨hx, _⟩ := List.append_inj' hx rfl
    have hn : frN bs = min (frN bs) 238 := by
      have := congrArg Var.num x8
      rw [num_fr2 (by omega)] at this
      exact this.symm
    rw [← hn] at xz
    refine ⟨?_, by omega, xz.symm, x4.symm⟩
    injection hx with hx _
    exact hx.symm
  · rintro ⟨f0, fn, fz, f4⟩
    rw [Nat.min_eq_left fn, fz, f4, f0, e8]

/-- What is wrong with bytes. -/
def decE (bs : List Nat) : Nat := if bs.length ≠ 256 then 2 else if holds bs = false then 5 else if chk (picked bs) = 0 ∧ laid (picked bs) = bs.take 252 then 0 else 3
def zeroFr : Fr := ⟨0, 0, 0, []⟩
def decF (bs : List Nat) : Fr := if decE bs = 0 then picked bs else zeroFr
theorem decE_zero {bs : List Nat} (h : decE bs = 0) : bs.length = 256 ∧ holds bs = true ∧ (picked bs).ok ∧ laid (picked bs) = bs.take 252 := by
  unfold decE at h
  split at h
  · cases h
  · split at h
    · cases h
    · split at h
      · rename_i a b c
        exact ⟨by omega, by simpa using b, (chk_zero _).1 c.1, c.2⟩
      · cases h
theorem decE_enc {f : Fr} (h : f.ok) : decE (enc f) = 0 := by
  have hl := h.2.2.2.2.2.2
  unfold decE
  rw [if_neg (by rw [enc_len hl]; simp), if_neg (by unfold enc; rw [holds_mark]; simp), if_pos]
  rw [picked_enc h]
  exact ⟨chk_ok h, (enc_take hl).symm⟩
theorem decF_enc {f : Fr} (h : f.ok) : decF (enc f) = f := by unfold decF; rw [if_pos (decE_enc h), picked_enc h]
theorem enc_dec {bs : List Nat} (h : decE bs = 0) : enc (picked bs) = bs := by
  obtain ⟨hl, hh, hok, hld⟩ := decE_zero h
  unfold enc
  rw [hld]
  unfold mark
  unfold holds at hh
  rw [decide_eq_true_iff, hl] at hh
  rw [← hh.2]
  exact List.take_append_drop 252 bs
theorem decE_turned {f : Fr} (h : f.ok) (hb : Bytes f.b) {m b : Nat} (hm : m < 256) (hb2 : b < 256) (h0 : b ≠ 0) : decE (turned (enc f) m b) = 5 := by
  have hl := enc_len h.2.2.2.2.2.2
  unfold decE
  rw [if_neg (by rw [turned_len, hl]; simp), if_pos]
  exact holds_turned _ (laid_bytes hb) m b (by unfold enc at hl; omega) hb2 h0
theorem decE_zeros : decE (List.replicate 256 0) = 5 := by
  unfold decE
  rw [if_neg (by rw [List.length_replicate]; decide), if_pos (by decide +kernel)]

theorem getD_append_left {a b : List Nat} {i : Nat} (h : i < a.length) : (a ++ b).getD i 0 = a.getD i 0 := by
  simp only [List.getD_eq_getElem?_getD, List.getElem?_append_left h]
theorem getD_append_right {a b : List Nat} {i : Nat} (h : a.length ≤ i) : (a ++ b).getD i 0 = b.getD (i - a.length) 0 := by
  simp only [List.getD_eq_getElem?_getD, List.getElem?_append_right h]
theorem getD_take {a : List Nat} {i m : Nat} (h : i < m) : (a.take m).getD i 0 = a.getD i 0 := by
  simp only [List.getD_eq_getElem?_getD, List.getElem?_take, if_pos h]
theorem getD_drop (a : List Nat) (i m : Nat) : (a.drop m).getD i 0 = a.getD (m + i) 0 := by
  simp only [List.getD_eq_getElem?_getD, List.getElem?_drop]
/-- The first byte of the epoch, at both ends. -/
theorem enc_2 (f : Fr) : (enc f).getD 2 0 = f.e.toNat % 256 := by
  unfold enc mark laid
  simp only [List.append_assoc]
  rfl
theorem enc_248 {f : Fr} (h : f.b.length ≤ 238) : (enc f).getD 248 0 = f.e.toNat % 256 := by
  unfold enc mark
  rw [getD_append_left (by rw [laid_len h]; omega)]
  unfold laid
  rw [getD_append_right (by simp [fr4, fr2]; omega)]
  have : ([241, f.k.toNat % 256] ++ fr4 f.e.toNat ++ fr2 f.p.toNat ++ fr2 f.b.length ++ f.b ++ List.replicate (238 - f.b.length) 0).length = 248 := by simp [fr4, fr2]; omega
  rw [this]
  rfl
theorem enc_two {f : Fr} (h : f.ok) : (enc f).take 2 = [241, f.k.toNat] := by
  have h2 : (enc f).take 2 = [241, f.k.toNat % 256] := by
    unfold enc mark laid
    simp only [List.append_assoc]
    rfl
  have := h.1
  have := h.2.1
  rw [h2, Nat.mod_eq_of_lt (by omega)]
theorem enc_parts {f : Fr} (h : f.ok) : enc f = [241, f.k.toNat] ++ (enc f).drop 2 := by rw [← enc_two h, List.take_append_drop]
/-- A page of which a beginning is a frame's, and the rest another one's of another epoch. -/
theorem torn {x y : Fr} (hx : x.ok) (hy : y.ok) (hxb : Bytes x.b) (hyb : Bytes y.b) (he : y.e = x.e + 2) (part : Nat) (hp : part ≤ 256) (h : decE ((enc y).take part ++ (enc x).drop part) = 0) :
    picked ((enc y).take part ++ (enc x).drop part) = x ∨ picked ((enc y).take part ++ (enc x).drop part) = y := by
  have lx := enc_len hx.2.2.2.2.2.2
  have ly := enc_len hy.2.2.2.2.2.2
  obtain ⟨hl, hh, hok, hld⟩ := decE_zero h
  have x2 := enc_parts hx
  have y2 := enc_parts hy
  have lt : ((enc y).take part).length = part := by rw [List.length_take]; omega
  by_cases h248 : 248 < part
  · right
    have e : ((enc y).take part ++ (enc x).drop part).take 248 = (enc y).take 248 := by
      rw [List.take_append_of_le_length (by omega), List.take_take, Nat.min_eq_left (by omega)]
    rw [picked_248 e, picked_enc hy]
  · by_cases h3 : 3 ≤ part
    · exfalso
      have hby : Bytes ((enc y).take part ++ (enc x).drop part) := ((enc_bytes hyb).take _).append ((enc_bytes hxb).drop _)
      have hf := (form_laid hl hby).1 hld
      have h4 := congrArg (fun l => l.getD 0 0) hf.2.2.2
      rw [frAt_get (by omega), frAt_get (by omega), getD_append_right (by omega), getD_append_left (by omega), getD_drop, getD_take (by omega), lt] at h4
      rw [show part + (248 + 0 - part) = 248 from by omega, enc_248 hx.2.2.2.2.2.2, show 2 + 0 = 2 from rfl, enc_2, he] at h4
      have := hx.2.2.1
      omega
    · left
      have h012 : part = 0 ∨ part = 1 ∨ part = 2 := by omega
      rcases h012 with rfl | rfl | rfl
      · rw [List.take_zero, List.nil_append, List.drop_zero, picked_enc hx]
      · have e : (enc y).take 1 ++ (enc x).drop 1 = enc x := by
          conv => lhs; rw [x2, y2]
          rw [x2]
          simp
        rw [e, picked_enc hx]
      · have e : (enc y).take 2 = [241, y.k.toNat] := enc_two hy
        rw [e] at h hh ⊢
        by_cases hk : y.k.toNat = x.k.toNat
        · rw [hk, ← x2, picked_enc hx]
        · exfalso
          have et : turned (enc x) (1 : Nat) (x.k.toNat ^^^ y.k.toNat) = [241, y.k.toNat] ++ (enc x).drop 2 := by
            rw [turned_in (by omega)]
            conv => lhs; rw [x2]
            simp [← Nat.xor_assoc]
          have hne : x.k.toNat ^^^ y.k.toNat ≠ 0 := by
            intro h0
            have h1 : x.k.toNat ^^^ (x.k.toNat ^^^ y.k.toNat) = x.k.toNat ^^^ 0 := by rw [h0]
            rw [← Nat.xor_assoc, Nat.xor_self, Nat.zero_xor, Nat.xor_zero] at h1
            exact hk h1
          have := decE_turned hx hxb (m := 1) (b := x.k.toNat ^^^ y.k.toNat) (by omega) (Nat.xor_lt_two_pow (n := 8) (by have := hx.2.1; omega) (by have := hy.2.1; omega)) hne
          rw [et] at this
          rw [this] at h
          cases h
end Go.Proofs.Ytebacgkeolofmaa
namespace Go.Proofs.Ytebacgkeolofmaa
open Go.RowKit Go.Inc

/-- The numbers that stand at the head. -/
theorem picked_nums {bs : List Nat} (h : bs.length = 256) : (picked bs).k = (bs.getD 1 0 : Nat) ∧ (picked bs).e = ((bs.getD 2 0 + 256 * bs.getD 3 0 + 65536 * bs.getD 4 0 + 16777216 * bs.getD 5 0 : Nat) : Int) ∧ (picked bs).p = ((bs.getD 6 0 + 256 * bs.getD 7 0 : Nat) : Int) ∧ frN bs = bs.getD 8 0 + 256 * bs.getD 9 0 := by
  have g : ∀ i j x, i + j ≤ 256 → x < j → (frAt bs i j).getD x 0 = bs.getD (i + x) 0 := fun i j x _ hx => frAt_get hx
  have l1 := of_len1 (l := frAt bs 1 1) (frAt_len (by omega))
  have l6 := of_len2 (l := frAt bs 6 2) (frAt_len (by omega))
  have l8 := of_len2 (l := frAt bs 8 2) (frAt_len (by omega))
  have l2 := last_four (l := frAt bs 2 4) (frAt_len (by omega))
  refine ⟨?_, ?_, ?_, ?_⟩
  · show ((Var.num (frAt bs 1 1) : Nat) : Int) = _
    rw [l1, num1, g 1 1 0 (by omega) (by omega)]
  · show ((Var.num (frAt bs 2 4) : Nat) : Int) = _
    rw [l2, num4, g 2 4 0 (by omega) (by omega), g 2 4 1 (by omega) (by omega), g 2 4 2 (by omega) (by omega), g 2 4 3 (by omega) (by omega)]
  · show ((Var.num (frAt bs 6 2) : Nat) : Int) = _
    rw [l6, num2, g 6 2 0 (by omega) (by omega), g 6 2 1 (by omega) (by omega)]
  · unfold frN
    rw [l8, num2, g 8 2 0 (by omega) (by omega), g 8 2 1 (by omega) (by omega)]

theorem zeros_iff {bs : List Nat} (h : bs.length = 256) {n : Nat} (hn : n ≤ 238) : frAt bs (10 + n) (238 - n) = List.replicate (238 - n) 0 ↔ ∀ i, 10 + n ≤ i → i < 248 → bs.getD i 0 = 0 := by
  constructor
  · intro he i h1 h2
    have := frAt_get (bs := bs) (i := 10 + n) (j := 238 - n) (x := i - (10 + n)) (by omega)
    rw [he] at this
    rw [show 10 + n + (i - (10 + n)) = i from by omega] at this
    rw [← this, List.getD_eq_getElem?_getD, List.getElem?_replicate]
    split <;> rfl
  · intro hz
    apply List.ext_getElem
    · rw [frAt_len (by omega), List.length_replicate]
    · intro i h1 h2
      rw [frAt_len (by omega)] at h1
      have hg := frAt_get (bs := bs) (i := 10 + n) (j := 238 - n) (x := i) h1
      rw [hz (10 + n + i) (by omega) (by omega)] at hg
      rw [List.getElem_replicate]
      rw [List.getD_eq_getElem?_getD, List.getElem?_eq_getElem (by rw [frAt_len (by omega)]; exact h1)] at hg
      exact hg

def refOk (bs : List Nat) : Prop := bs.getD 0 0 = 241 ∧ frN bs ≤ 238 ∧ 1 ≤ (picked bs).k ∧ (picked bs).k ≤ 9 ∧ (picked bs).p ≤ 2047 ∧ (∀ i, 10 + frN bs ≤ i → i < 248 → bs.getD i 0 = 0) ∧ frAt bs 248 4 = frAt bs 2 4
theorem refOk_iff {bs : List Nat} (h : bs.length = 256) (hb : Bytes bs) : (chk (picked bs) = 0 ∧ laid (picked bs) = bs.take 252) ↔ refOk bs := by
  have hpl := picked_len h
  have he : (picked bs).e ≤ 4294967295 ∧ 0 ≤ (picked bs).e ∧ 0 ≤ (picked bs).p := by
    have h4 := num_lt4 (l := frAt bs 2 4) (frAt_len (by omega)) (frAt_bytes hb _ _)
    have e1 : (picked bs).e = (Var.num (frAt bs 2 4) : Nat) := rfl
    have e2 : (picked bs).p = (Var.num (frAt bs 6 2) : Nat) := rfl
    rw [e1, e2]
    omega
  rw [chk_zero, form_laid h hb]
  unfold Fr.ok Form refOk
  constructor
  · rintro ⟨⟨a1, a2, _, _, _, a6, _⟩, b1, b2, b3, b4⟩
    exact ⟨b1, b2, a1, a2, a6, (zeros_iff h b2).1 b3, b4⟩
  · rintro ⟨b1, b2, a1, a2, a6, b3, b4⟩
    exact ⟨⟨a1, a2, he.2.1, he.1, he.2.2, a6, by omega⟩, b1, b2, (zeros_iff h b2).2 b3, b4⟩
theorem decE_ok {bs : List Nat} (h : bs.length = 256) (hb : Bytes bs) (hh : holds bs = true) (hr : refOk bs) : decE bs = 0 := by
  unfold decE
  rw [if_neg (by omega), if_neg (by rw [hh]; simp), if_pos ((refOk_iff h hb).2 hr)]
theorem decE_no {bs : List Nat} (h : bs.length = 256) (hb : Bytes bs) (hh : holds bs = true) (hr : ¬ refOk bs) : decE bs = 3 := by
  unfold decE
  rw [if_neg (by omega), if_neg (by rw [hh]; simp), if_neg (fun hx => hr ((refOk_iff h hb).1 hx))]
theorem decF_ok {bs : List Nat} (h : decE bs = 0) : decF bs = picked bs := by unfold decF; rw [if_pos h]
theorem holds_256 {bs : List Nat} (h : bs.length = 256) : holds bs = decide (bs.drop 252 = low (Crc.sum (bs.take 252))) := by
  unfold holds
  rw [h]
  by_cases hx : bs.drop 252 = low (Crc.sum (bs.take 252)) <;> simp [hx]
end Go.Proofs.Ytebacgkeolofmaa
