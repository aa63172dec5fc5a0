/- CONTRACT: a copy of bytes. CONTRACTS OF THE LAWS' SMALL FUNCTIONS: the known examples hold; at most twelve parts of at most 100 bytes. CONTRACT: the same bytes, wherever they lie. CONTRACTS: a sum's four bytes, the same bytes, a copy, one behind the other. CONTRACTS: marked bytes, bytes of which one is turned. -/
import Derived.Test.YtebacgkeolofmaaRows
import Derived.Test.YtebacgkeolofmaaU1
import Derived.Deep.QuietTactic
import Derived.BigQuiet
import Derived.Test.YtebacgkeolofmaaU2
namespace Go.Proofs.Ytebacgkeolofmaa
open Go.RowKit Go.Inc

theorem infoU8 : (Try.prog.info? 5).map (fun i => (i.zero, i.size, i.bytes)) = some (some (.int .u8 0), 1, 1) := by kernel_rfl

theorem clone_nil (w : World) : Calls Try.prog 45 #[.slice none 0 0] w fun e w' => e = .returned (.slice none 0 0) ∧ w = w' := by
  have hq := fun w a l c => Go.Lib.run_eql_slice_nil (P := Try.prog) w 26 5 a l c 0 0 Try.underlying26
  go_enter Try.func45, Try.ntmps45
  go_wp2
  go_ret
  exact ⟨rfl, rfl⟩

theorem clone_some (ok : Nat → Prop) (ad : Addr) (c : Nat) (bs : List Nat) (w : World) (hs : Sl ok w (some ad) bs) (hbb : bs.length ≤ 140737488355328) :
    Calls Try.prog 45 #[.slice (some ad) bs.length c] w fun e w' => ∃ v, e = .returned v ∧ w'.ownsRow w.heap.size 5 1 v bs.length (u8s bs) ∧ Below w.heap.size w w' := by
  have HS := hid hs
  clear hs
  have hq := fun w a l c => Go.Lib.run_eql_slice_nil (P := Try.prog) w 26 5 a l c 0 0 Try.underlying26
  go_enter Try.func45, Try.ntmps45
  have hown : Hid ((w.alloc (.cells #[] 5)).ownsRow w.heap.size 5 1 (.slice (some ⟨w.heap.size, 0, none⟩) 0 0) 0 (u8s [])) := hid (World.ownsRow_lit w #[] 0 (Nat.le_refl _) (Nat.zero_le _) rfl)
  have hb1 : Below w.heap.size w (w.alloc (.cells #[] 5)) := (Below.refl _ _).alloc (Nat.le_refl _) _
  have HS1 := hid (HS.out.below hb1)
  have HB1 := hid hb1
  clear hb1 HS
  go_wp2_with (refine wpList_append_any rfl (.tmp 5) (.tmp 6) 26 rfl w.heap.size 5 (.int .u8 0) 1 Try.underlying26 infoU8 rfl _ _ _ rfl hown.out (some ad) _ _ (u8s bs) rfl (u8s_length _) (by intro h; cases h) HS1.out.cells (u8s_one _) (by unfold maxLen; omega) (by omega) (by simp) ?_)
  intro v w2 hv hg _
  have hb2 := below_owned HB1.out hown.out (Nat.le_refl _) hg
  have HV := hid hv
  clear hv hg
  go_wp2_with fail
  go_ret
  refine ⟨_, rfl, ?_, hb2⟩
  have := HV.out
  simpa [u8s] using this

theorem clone_any (ok : Nat → Prop) (a : Option Addr) (c : Nat) (bs : List Nat) (w : World) (hs : Sl ok w a bs) (hbb : bs.length ≤ 140737488355328) (hn : a = none → c = 0) :
    Calls Try.prog 45 #[.slice a bs.length c] w fun e w' => ∃ v, e = .returned v ∧ w'.ownsRow w.heap.size 5 1 v bs.length (u8s bs) ∧ Below w.heap.size w w' := by
  cases a with
  | none =>
    have h0 := hs.some_len rfl
    have hbs : bs = [] := List.eq_nil_of_length_eq_zero h0
    subst hbs
    rw [hn rfl]
    refine (clone_nil w).mono ?_
    rintro e w' ⟨rfl, rfl⟩
    exact ⟨_, rfl, World.ownsRow_nil _ _ _ _, Below.refl _ _⟩
  | some ad => exact clone_some ok ad c bs w hs hbb

end Go.Proofs.Ytebacgkeolofmaa
namespace Go.Proofs.Ytebacgkeolofmaa
open Go.RowKit Go.Inc

theorem owns_step {w : World} {B e n m : Nat} {v : Value} {a c : List Nat} (h : w.ownsRow B e 1 v (n + m) (u8s a ++ u8s c)) (hn : n = a.length) (hm : m = c.length) : w.ownsRow B e 1 v (a ++ c).length (u8s (a ++ c)) := by
  rw [u8s_append, List.length_append, ← hn, ← hm]; exact h
/-- The document's sum, of bytes wherever they lie. -/
theorem refSum_any (ok : Nat → Prop) (a : Option Addr) (cap : Nat) (bs : List Nat) (w : World) (hs : Sl ok w a bs) (hb : Bytes bs) (hl : bs.length ≤ 9223372036854775807) :
    Calls Try.prog 63 #[.slice a bs.length cap] w fun e w' => e = .returned (.int .u32 (Crc.sum bs : Nat)) ∧ w = w' := by
  rcases hs with rfl | ⟨b, off, rfl, _, hc⟩
  · exact refSum_none a cap w
  · exact refSum_some b off bs.length cap bs w rfl (by omega) hc hb
end Go.Proofs.Ytebacgkeolofmaa
namespace Go.Proofs.Ytebacgkeolofmaa
open Go.RowKit Go.Inc

theorem same_len (a b : Option Addr) (m n c d : Nat) (w : World) (h : (m : Int) ≠ n) :
    Calls Try.prog 16 #[.slice a m c, .slice b n d] w fun e w' => e = .returned (.bool false) ∧ w = w' := by
  have h' : ((m : Int) != n) = true := by rw [bne_iff_ne]; exact h
  clear h
  go_enter Try.func16, Try.ntmps16
  go_wp2
  go_ret
  exact ⟨rfl, rfl⟩

theorem same_nil (a b : Option Addr) (c d : Nat) (w : World) :
    Calls Try.prog 16 #[.slice a 0 c, .slice b 0 d] w fun e w' => e = .returned (.bool true) ∧ w = w' := by
  go_enter Try.func16, Try.ntmps16
  go_wp2
  go_loop [5] (fun i => i = .int .i64 0) (fun _ => 0)
  case atStart => rfl
  case round =>
    subst hrel
    go_wp2
    go_ret
    exact ⟨rfl, rfl⟩

set_option maxHeartbeats 1000000 in
theorem same_some (ab ao bb bo n c d : Nat) (xs ys : List Nat) (w : World) (ha : xs.length = n) (hb : ys.length = n) (hm : (n : Int) ≤ 9223372036854775807)
    (hac : ∀ i, i < n → w.cell? ⟨ab, ao + i, none⟩ = some (.int .u8 ((xs.getD i 0 : Nat) : Int))) (hbc : ∀ i, i < n → w.cell? ⟨bb, bo + i, none⟩ = some (.int .u8 ((ys.getD i 0 : Nat) : Int))) :
    Calls Try.prog 16 #[.slice (some ⟨ab, ao, none⟩) n c, .slice (some ⟨bb, bo, none⟩) n d] w fun e w' => e = .returned (.bool (decide (xs = ys))) ∧ Below w.heap.size w w' := by
  have HA := hid ha
  have HB := hid hb
  have HAC := hid hac
  have HBC := hid hbc
  clear ha hb hac hbc
  go_enter Try.func16, Try.ntmps16
  go_wp2
  go_loopw [5] (fun i wr => ∃ k : Nat, k ≤ n ∧ i = .int .i64 k ∧ xs.take k = ys.take k ∧ Below w.heap.size w wr) (fun i _ => n - (intOf i).toNat)
  case atStart => exact ⟨0, Nat.zero_le _, rfl, rfl, Below.refl _ _⟩
  case round =>
    obtain ⟨k, hk, rfl, heq, hbel⟩ := hrel
    have HEQ := hid heq
    clear heq
    by_cases hlt : (k : Int) < n
    · have ca := HAC.out k (by omega)
      have cb := HBC.out k (by omega)
      rw [← hbel.cell (cell_lt ca)] at ca
      rw [← hbel.cell (cell_lt cb)] at cb
      have hsa := hid (take_snoc (bs := xs) (k := k) (by rw [HA.out]; omega))
      have hsb := hid (take_snoc (bs := ys) (k := k) (by rw [HB.out]; omega))
      generalize xs.getD k 0 = x at *
      generalize ys.getD k 0 = y at *
      by_cases hxy : (x : Int) = y
      · have hne : ((x : Int) != y) = false := by rw [bne_eq_false_iff_eq]; exact hxy
        have HXY := hid hxy
        clear hxy
        go_wp2_with fail
        go_quiet (fail)
        have hbq : Below w.heap.size w (wr.drewN nq) := ⟨hbel.os, hbel.tape, hbel.output, hbel.size, hbel.block⟩
        go_wp2_with fail
        go_roundw
        case rel => exact ⟨k + 1, by omega, by go_num, by rw [hsa.out, hsb.out, HEQ.out, Int.ofNat.inj HXY.out], hbq⟩
        case measure => simp [intOf]; omega
      · have hne : ((x : Int) != y) = true := by rw [bne_iff_ne]; exact hxy
        have HXY := hid hxy
        clear hxy
        have hdec : Hid (decide (xs = ys) = false) := hid (by
          rw [decide_eq_false_iff_not]
          rintro rfl
          have h := hsa.out.symm.trans hsb.out
          simp at h
          exact HXY.out (by rw [h]))
        go_wp2_with fail
        go_quiet (fail)
        have hbq : Below w.heap.size w (wr.drewN nq) := ⟨hbel.os, hbel.tape, hbel.output, hbel.size, hbel.block⟩
        go_wp2_with fail
        go_ret
        exact ⟨by rw [hdec.out]; rfl, hbq⟩
    · have hdec : Hid (decide (xs = ys) = true) := hid (by
        rw [decide_eq_true_iff]
        have h := HEQ.out
        rwa [List.take_of_length_le (by rw [HA.out]; omega), List.take_of_length_le (by rw [HB.out]; omega)] at h)
      have hge : (n : Int) ≤ k := by omega
      clear hlt
      go_wp2_with fail
      go_ret
      exact ⟨by rw [hdec.out]; rfl, hbel⟩

/-- The same bytes? -/
theorem same_any (ok ok' : Nat → Prop) (a b : Option Addr) (c d : Nat) (xs ys : List Nat) (w : World) (ha : Sl ok w a xs) (hb : Sl ok' w b ys) (hm : xs.length ≤ 9223372036854775807) :
    Calls Try.prog 16 #[.slice a xs.length c, .slice b ys.length d] w fun e w' => e = .returned (.bool (decide (xs = ys))) ∧ Below w.heap.size w w' := by
  by_cases hl : xs.length = ys.length
  · rcases ha with rfl | ⟨ab, ao, rfl, _, hac⟩
    · have : ys = [] := List.eq_nil_of_length_eq_zero (by simpa using hl.symm)
      subst this
      refine (same_nil a b c d w).mono ?_
      rintro e w' ⟨rfl, rfl⟩
      exact ⟨rfl, Below.refl _ _⟩
    · rcases hb with rfl | ⟨bb, bo, rfl, _, hbc⟩
      · have : xs = [] := List.eq_nil_of_length_eq_zero (by simpa using hl)
        subst this
        refine (same_nil _ b c d w).mono ?_
        rintro e w' ⟨rfl, rfl⟩
        exact ⟨rfl, Below.refl _ _⟩
      · have h := same_some ab ao bb bo xs.length c d xs ys w rfl hl.symm (by omega) hac (fun i hi => hbc i (by omega))
        rw [← hl]; exact h
  · refine (same_len a b xs.length ys.length c d w (by omega)).mono ?_
    rintro e w' ⟨rfl, rfl⟩
    refine ⟨ret_bool ?_, Below.refl _ _⟩
    symm
    rw [decide_eq_false_iff_not]
    rintro rfl
    exact hl rfl
end Go.Proofs.Ytebacgkeolofmaa
namespace Go.Proofs.Ytebacgkeolofmaa
open Go.RowKit Go.Inc

/-- A number's four bytes, the lowest first. -/
def low (n : Nat) : List Nat := [n % 256, n / 256 % 256, n / 65536 % 256, n / 16777216]
theorem low_bytes {n : Nat} (h : n < 4294967296) : Bytes (low n) := by
  intro x hx
  simp only [low, List.mem_cons, List.not_mem_nil, or_false] at hx
  omega
theorem low_inj {m n : Nat} (h : low m = low n) : m = n := by
  simp only [low, List.cons.injEq, and_true] at h
  omega

theorem ending_any (n : Nat) (w : World) (h : n < 4294967296) :
    Calls Try.prog 39 #[.int .u32 (n : Int)] w fun e w' => e = .returned (.agg (u8s (low n)).toArray) ∧ Below w.heap.size w w' := by
  go_enter Try.func39, Try.ntmps39
  go_wp2
  simp [bodyPost, results, Try.results39, go_sem]
  exact ⟨rfl, (Below.refl _ _).alloc (Nat.le_refl _) _⟩

theorem low_any (n : Nat) (w : World) (h : n < 4294967296) :
    Calls Try.prog 62 #[.int .u32 (n : Int)] w fun e w' => e = .returned (.slice (some ⟨w.heap.size, 0, none⟩) 4 4) ∧ Sl (fun b => b = w.heap.size) w' (some ⟨w.heap.size, 0, none⟩) (low n) ∧ Below w.heap.size w w' := by
  go_enter Try.func62, Try.ntmps62
  go_wp2
  go_ret
  exact ⟨rfl, Sl.row (low n) (heap_alloc_new w _), (Below.refl _ _).alloc (Nat.le_refl _) _⟩

theorem grow_zero (w : World) : Calls Try.prog 66 #[.slice none 0 0, .int .i64 0] w fun e w' => e = .returned (.slice none 0 0) ∧ w = w' := by
  go_enter Try.func66, Try.ntmps66
  go_wp2
  go_ret
  exact ⟨rfl, rfl⟩

theorem grow_some (n : Nat) (w : World) (h0 : (0 : Int) < n) (h1 : (n : Int) ≤ 140737488355328) :
    Calls Try.prog 66 #[.slice none 0 0, .int .i64 (n : Int)] w fun e w' => ∃ v, e = .returned v ∧ w'.ownsRow w.heap.size 5 1 v 0 (u8s []) ∧ Below w.heap.size w w' := by
  go_enter Try.func66, Try.ntmps66
  go_wp2_with (refine wpList_append_zeros rfl (.tmp 20) (.tmp 21) 26 3 rfl 5 (.int .u8 0) 1 Try.underlying26 .i64 .i64 Try.underlying3 infoU8 rfl n rfl rfl (by omega) (by unfold maxLen; omega) (by omega) ?_)
  intro w1 cur hrow hnc hm hb
  have HROW := hid hrow
  have hnN : (n : Int) ≤ cur.size := by omega
  go_wp2_with fail
  go_ret
  exact ⟨_, rfl, ⟨rfl, .inr ⟨w.heap.size, cur.size, cur, rfl, Nat.le_refl _, HROW.out, Nat.zero_le _, hm, by rw [Nat.mul_one], rfl⟩⟩, hb⟩

theorem grow_any (n : Nat) (w : World) (h1 : n ≤ 140737488355328) :
    Calls Try.prog 66 #[.slice none 0 0, .int .i64 (n : Int)] w fun e w' => ∃ v, e = .returned v ∧ w'.ownsRow w.heap.size 5 1 v 0 (u8s []) ∧ Below w.heap.size w w' := by
  by_cases h : n = 0
  · subst h
    refine (grow_zero w).mono ?_
    rintro e w' ⟨rfl, rfl⟩
    exact ⟨_, rfl, World.ownsRow_nil _ _ _ _, Below.refl _ _⟩
  · exact grow_some n w (by omega) (by omega)

/-- The first k parts' bytes. -/
def flatTo (ps : List (List Nat)) (k : Nat) : List Nat := (ps.take k).flatten
theorem flatTo_succ {ps : List (List Nat)} {k : Nat} (h : k < ps.length) : flatTo ps (k + 1) = flatTo ps k ++ ps.getD k [] := flat_snoc h
theorem flatTo_le (ps : List (List Nat)) (k : Nat) : (flatTo ps k).length ≤ totC ps := flat_le ps k
theorem flatTo_all (ps : List (List Nat)) : flatTo ps ps.length = ps.flatten := by unfold flatTo; rw [List.take_of_length_le (Nat.le_refl _)]
set_option maxHeartbeats 2000000 in
theorem concat_some (ok : Nat → Prop) (b o cap : Nat) (ps : List (List Nat)) (A : Nat → Option Addr) (C : Nat → Nat) (w : World) (hp : Parts ok w b o ps A C) (hl : (ps.length : Int) ≤ 9223372036854775807) (ht : totC ps ≤ 140737488355328) :
    Calls Try.prog 41 #[.slice (some ⟨b, o, none⟩) ps.length cap] w fun e w' => ∃ v, e = .returned v ∧ w'.ownsRow w.heap.size 5 1 v (totC ps) (u8s ps.flatten) ∧ Below w.heap.size w w' := by
  have HP := hid hp
  clear hp
  go_enter Try.func41, Try.ntmps41
  go_wp2
  go_loop [3, 11] (fun n i => ∃ k : Nat, k ≤ ps.length ∧ i = .int .i64 k ∧ n = .int .i64 (flatTo ps k).length) (fun _ i => ps.length - (intOf i).toNat)
  case atStart => exact ⟨0, Nat.zero_le _, rfl, rfl⟩
  case round =>
    obtain ⟨k, hk, rfl, rfl⟩ := hrel
    have hle := flatTo_le ps k
    by_cases hlt : (k : Int) < ps.length
    · have hcell := HP.out.cell k (by omega)
      have hs : Hid ((flatTo ps (k + 1)).length = (flatTo ps k).length + (ps.getD k []).length) := hid (by rw [flatTo_succ (by omega), List.length_append])
      have hle2 : (flatTo ps k).length + (ps.getD k []).length ≤ 140737488355328 := by
        have := flatTo_le ps (k + 1)
        have := hs.out
        omega
      generalize ps.getD k [] = p at *
      have hz : (0 : Int) ≤ (flatTo ps k).length + p.length := by omega
      have hle3 : ((flatTo ps k).length : Int) + p.length ≤ 140737488355328 := by omega
      go_wp2_with fail
      go_round
      case rel => exact ⟨k + 1, by omega, by go_num, by rw [hs.out]; rfl⟩
      case measure => simp [intOf]; omega
    · have hge : (ps.length : Int) ≤ k := by omega
      have hall : Hid ((flatTo ps k).length = totC ps) := hid (by
        have : k = ps.length := by omega
        rw [this, flatTo_all]; rfl)
      clear hlt
      have H := hid (grow_any (flatTo ps k).length w (by have := hall.out; omega))
      go_wp2_with fail
      refine H.out.mono ?_
      clear H
      rintro e w1 ⟨v, rfl, hown, hb⟩
      have HOWN := hid hown
      clear hown
      go_wp2_with fail
      go_loopw [6, 27] (fun v i wr => ∃ k : Nat, k ≤ ps.length ∧ i = .int .i64 k ∧ wr.ownsRow w.heap.size 5 1 v (flatTo ps k).length (u8s (flatTo ps k)) ∧ Below w.heap.size w wr) (fun _ i _ => ps.length - (intOf i).toNat)
      case atStart => exact ⟨0, Nat.zero_le _, rfl, HOWN.out, hb⟩
      case round =>
        clear hk hle hge hall HOWN hb
        obtain ⟨q, hk, rfl, hown, hbel⟩ := hrel
        have HOWN := hid hown
        clear hown
        by_cases hlt : (q : Int) < ps.length
        · have hcell : wr.cell? ⟨b, o + q, none⟩ = some (.slice (A q) (ps.getD q []).length (C q)) := by
            rw [hbel.cell (cell_lt (HP.out.cell q (by omega)))]; exact HP.out.cell q (by omega)
          have HS := hid ((HP.out.sl q (by omega)).below hbel)
          have hs := hid (flatTo_succ (ps := ps) (k := q) (by omega))
          have hle2 : Hid ((flatTo ps q).length + (ps.getD q []).length ≤ 140737488355328) := hid (by
            have h1 := flatTo_le ps (q + 1)
            rw [hs.out, List.length_append] at h1
            omega)
          have hbz := hid hbel.size
          generalize ps.getD q [] = p at *
          generalize A q = ak at *
          generalize C q = ck at *
          go_wp2_with (refine wpList_append_any rfl (.tmp 31) (.tmp 32) 26 rfl w.heap.size 5 (.int .u8 0) 1 Try.underlying26 infoU8 rfl _ _ _ rfl HOWN.out ak _ _ (u8s p) rfl (u8s_length _) HS.out.some_len HS.out.cells (u8s_one _) (by have := hle2.out; unfold maxLen; omega) (by have := hle2.out; omega) hbz.out ?_)
          intro v2 w2 hv2 hg2 _
          have hb2 := below_owned hbel HOWN.out (Nat.le_refl _) hg2
          have HV2 := hid (owns_step hv2 rfl rfl)
          clear hv2 hg2
          go_wp2_with fail
          go_roundw
          case rel => exact ⟨q + 1, by omega, by go_num, by rw [hs.out]; exact HV2.out, hb2⟩
          case measure => simp [intOf]; omega
        · have hge : (ps.length : Int) ≤ q := by omega
          have hall : Hid (flatTo ps q = ps.flatten) := hid (by
            have : q = ps.length := by omega
            rw [this, flatTo_all])
          clear hlt
          go_wp2_with fail
          go_ret
          exact ⟨_, rfl, by have h := HOWN.out; rw [hall.out] at h; exact h, hbel⟩
end Go.Proofs.Ytebacgkeolofmaa
namespace Go.Proofs.Ytebacgkeolofmaa
open Go.RowKit Go.Inc

/-- Bytes, and their sum behind them. -/
def mark (bs : List Nat) : List Nat := bs ++ low (Crc.sum bs)
theorem mark_len (bs : List Nat) : (mark bs).length = bs.length + 4 := by simp [mark, low]
theorem mark_bytes {bs : List Nat} (h : Bytes bs) : Bytes (mark bs) := h.append (low_bytes (Crc.sum_lt bs h))
theorem four_zero : ((Try.prog.info? 76).bind (·.zero)).map (·.cells) = some #[.int .u8 0, .int .u8 0, .int .u8 0, .int .u8 0] := by kernel_rfl

theorem _root_.Go.World.ownsRow.weaken {w : World} {b b' e s n : Nat} {v : Value} {x : List Value} (h : w.ownsRow b e s v n x) (hb : b' ≤ b) : w.ownsRow b' e s v n x :=
  ⟨h.1, h.2.imp id fun ⟨g, cap, cur, h1, h2, r⟩ => ⟨g, cap, cur, h1, Nat.le_trans hb h2, r⟩⟩
set_option maxHeartbeats 1000000 in
theorem mark_any (ok : Nat → Prop) (a : Option Addr) (c : Nat) (bs : List Nat) (w : World) (hs : Sl ok w a bs) (hb : Bytes bs) (hc : bs.length ≤ c ∧ c ≤ maxLen) (hl : bs.length ≤ 1000000) :
    Calls Try.prog 19 #[.slice a bs.length c] w fun e w' => ∃ v, e = .returned v ∧ w'.ownsRow w.heap.size 5 1 v (mark bs).length (u8s (mark bs)) ∧ Below w.heap.size w w' := by
  have HS := hid hs
  have HPx := Pt.one hs hb c hc 26
  have hflat : Hid ([bs].flatten = bs) := hid (by simp)
  have H4 := hid (sum_any _ 1 _ _ _ HPx (by show [bs].flatten.length ≤ _; rw [hflat.out]; omega) (by simp))
  have hbx := hid ((Below.refl w.heap.size w).alloc (Nat.le_refl _) (.cells #[.slice a bs.length c] 26))
  clear HPx hs
  go_enter Try.func19, Try.ntmps19
  go_wp2_with fail
  refine H4.out.mono ?_
  rintro e w1 ⟨rfl, hb1⟩
  rw [hflat.out]
  have hb01 := hid (hbx.out.trans (hb1.mono hbx.out.size))
  have hsl := Crc.sum_lt bs hb
  have hlb := hid (low_bytes hsl)
  have hmk : Hid (mark bs = bs ++ low (Crc.sum bs)) := hid rfl
  have hml := hid (mark_len bs)
  generalize hmkk : mark bs = mk at *
  have HMK := hid hmkk
  clear hmkk
  generalize Crc.sum bs = n at *
  have H5 := hid (ending_any n w1 hsl)
  clear hb1 H4 hbx
  go_wp2_with fail
  refine H5.out.mono ?_
  rintro e w2 ⟨rfl, hb2⟩
  have hb02 := hid (hb01.out.trans (hb2.mono hb01.out.size))
  clear hb2 H5 hb01
  have hll : Hid ((low n).length = 4) := hid rfl
  generalize low n = ln at *
  have hs4 : (u8s ln).toArray.size = 4 := by rw [List.size_toArray, u8s_length, hll.out]
  have hi4 : Hid ((Try.prog.info? 76).map (·.size) = some (u8s ln).toArray.size) := hid (by rw [hs4]; kernel_rfl)
  have ho4 : Hid ((#[.int .u8 0, .int .u8 0, .int .u8 0, .int .u8 0] : Array Value).size = (u8s ln).toArray.size) := hid (by rw [hs4]; rfl)
  have hall : Hid ((u8s ln).toArray.all (·.oneCell') = true) := hid (by rw [List.all_toArray, List.all_eq_true]; exact u8s_one ln)
  clear hs4
  go_wp2_with (refine wpList_alloc_own rfl 76 rfl _ four_zero ?_)
  intro w3 hrow3 hb3
  go_wp2_with (refine wpList_store_own rfl 76 _ _ rfl w2.heap.size (u8s ln).toArray rfl rfl 76 _ hrow3 hi4.out ho4.out hall.out ?_)
  intro w4 hrow4 hg4
  have hsl4 := Sl.row ln hrow4
  have hb04 := below_grown (hb02.out.trans (hb3.mono hb02.out.size)) hg4 hb02.out.size (Nat.le_trans hb02.out.size hb3.size)
  have HS4 := (HS.out.mono (fun _ _ h => h)).below hb04
  have hw : w.heap.size ≤ w4.heap.size := hb04.size
  have hPt := Parts.two (ok := fun b => b < w.heap.size ∨ b = w2.heap.size) (HS4.mono fun b h _ => .inl h) (hsl4.mono fun b h _ => .inr h) c 4 hc ⟨by rw [hll.out]; omega, by unfold maxLen; omega⟩ 26
  have htot : Hid (totC [bs, ln] = mk.length) := hid (by rw [hmk.out]; simp [totC])
  have hfl : Hid ([bs, ln].flatten = mk) := hid (by rw [hmk.out]; simp)
  have H6 := hid (concat_some _ w4.heap.size 0 2 [bs, ln] _ _ _ hPt (by simp) (by rw [htot.out, hml.out]; omega))
  have hb05 := hid (hb04.alloc hw (.cells #[.slice a bs.length c, .slice (some ⟨w2.heap.size, 0, none⟩) ln.length 4] 26))
  have hll2 := hll.out
  clear hPt HS4 hsl4 hrow4 hg4 hb04 hrow3 hb3 hi4 ho4 hall hll
  have H7 := H6.out
  rw [hll2, htot.out, hfl.out] at H7
  rw [hll2] at hb05
  have H8 := hid H7
  clear H6 H7 hll2
  go_wp2_with fail
  refine H8.out.mono ?_
  rintro e w5 ⟨v, rfl, hv, hb5⟩
  go_wp2_with fail
  go_ret
  refine ⟨v, rfl, ?_, hb05.out.trans (hb5.mono hb05.out.size)⟩
  rw [HMK.out]; exact hv.weaken hb05.out.size

/-- The bits of 'by' turned in the byte at that place, if there is such a place. -/
def turned (bs : List Nat) (at_ : Int) (b : Nat) : List Nat := if 0 ≤ at_ ∧ at_ < bs.length then bs.set at_.toNat (bs.getD at_.toNat 0 ^^^ b) else bs
theorem turned_len (bs : List Nat) (at_ : Int) (b : Nat) : (turned bs at_ b).length = bs.length := by unfold turned; split <;> simp
theorem turned_bytes {bs : List Nat} (h : Bytes bs) (at_ : Int) {b : Nat} (hb : b < 256) : Bytes (turned bs at_ b) := by
  unfold turned
  split
  · intro x hx
    rcases List.mem_or_eq_of_mem_set hx with h1 | h1
    · exact h x h1
    · rw [h1]; exact Nat.xor_lt_two_pow (n := 8) (h.getD _) hb
  · exact h
theorem turned_in {bs : List Nat} {k b : Nat} (h : k < bs.length) : turned bs k b = bs.set k (bs.getD k 0 ^^^ b) := by unfold turned; rw [if_pos (by omega)]; rfl
theorem turned_out {bs : List Nat} {at_ : Int} {b : Nat} (h : at_ < 0 ∨ (bs.length : Int) ≤ at_) : turned bs at_ b = bs := by unfold turned; rw [if_neg (by omega)]

theorem u8s_get {bs : List Nat} {k : Nat} (h : k < bs.length) : (u8s bs)[k]? = some (.int .u8 ((bs.getD k 0 : Nat) : Int)) := by
  rw [List.getD_eq_getElem?_getD, List.getElem?_eq_getElem h]
  simp [u8s, h]
theorem u8s_set (bs : List Nat) (k x : Nat) : (u8s bs).set k (.int .u8 (x : Int)) = u8s (bs.set k x) := by
  simp [u8s, List.map_set]
end Go.Proofs.Ytebacgkeolofmaa
