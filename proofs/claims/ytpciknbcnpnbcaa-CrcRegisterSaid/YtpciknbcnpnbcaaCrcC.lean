/- CONTRACTS: a sum's four bytes, the same bytes, a copy, one behind the other. -/
import Derived.Test.YtpciknbcnpnbcaaCrcFew
namespace Go.Proofs.Ytpciknbcnpnbcaa
open Go.RowKit Go.Inc

/-- A number's four bytes, the lowest first. -/
def low (n : Nat) : List Nat := [n % 256, n / 256 % 256, n / 65536 % 256, n / 16777216]
theorem low_bytes {n : Nat} (h : n < 4294967296) : Bytes (low n) := by
  intro x hx
  simp only [low, List.mem_cons, List.not_mem_nil, or_false] at hx
  omega
theorem low_inj {m n : Nat} (h : low m = low n) : m = n := by
  simp only [low, List.cons.injEq, and_true] at h
  omega

theorem ending_any (n : Nat) (w : World) (h : n < 4294967296) :
    Calls Try.prog 20 #[.int .u32 (n : Int)] w fun e w' => e = .returned (.agg (u8s (low n)).toArray) ∧ Below w.heap.size w w' := by
  go_enter Try.func20, Try.ntmps20
  go_wp2
  simp [bodyPost, results, Try.results20, go_sem]
  exact ⟨rfl, (Below.refl _ _).alloc (Nat.le_refl _) _⟩

theorem low_any (n : Nat) (w : World) (h : n < 4294967296) :
    Calls Try.prog 15 #[.int .u32 (n : Int)] w fun e w' => e = .returned (.slice (some ⟨w.heap.size, 0, none⟩) 4 4) ∧ Sl (fun b => b = w.heap.size) w' (some ⟨w.heap.size, 0, none⟩) (low n) ∧ Below w.heap.size w w' := by
  go_enter Try.func15, Try.ntmps15
  go_wp2
  go_ret
  exact ⟨rfl, Sl.row (low n) (heap_alloc_new w _), (Below.refl _ _).alloc (Nat.le_refl _) _⟩

theorem same_len (a b : Option Addr) (m n c d : Nat) (w : World) (h : (m : Int) ≠ n) :
    Calls Try.prog 16 #[.slice a m c, .slice b n d] w fun e w' => e = .returned (.bool false) ∧ w = w' := by
  have h' : ((m : Int) != n) = true := by rw [bne_iff_ne]; exact h
  clear h
  go_enter Try.func16, Try.ntmps16
  go_wp2
  go_ret
  exact ⟨rfl, rfl⟩

theorem same_nil (a b : Option Addr) (c d : Nat) (w : World) :
    Calls Try.prog 16 #[.slice a 0 c, .slice b 0 d] w fun e w' => e = .returned (.bool true) ∧ w = w' := by
  go_enter Try.func16, Try.ntmps16
  go_wp2
  go_loop [5] (fun i => i = .int .i64 0) (fun _ => 0)
  case atStart => rfl
  case round =>
    subst hrel
    go_wp2
    go_ret
    exact ⟨rfl, rfl⟩

set_option maxHeartbeats 1000000 in
theorem same_some (ab ao bb bo n c d : Nat) (xs ys : List Nat) (w : World) (ha : xs.length = n) (hb : ys.length = n) (hm : (n : Int) ≤ 9223372036854775807)
    (hac : ∀ i, i < n → w.cell? ⟨ab, ao + i, none⟩ = some (.int .u8 ((xs.getD i 0 : Nat) : Int))) (hbc : ∀ i, i < n → w.cell? ⟨bb, bo + i, none⟩ = some (.int .u8 ((ys.getD i 0 : Nat) : Int))) :
    Calls Try.prog 16 #[.slice (some ⟨ab, ao, none⟩) n c, .slice (some ⟨bb, bo, none⟩) n d] w fun e w' => e = .returned (.bool (decide (xs = ys))) ∧ Below w.heap.size w w' := by
  have HA := hid ha
  have HB := hid hb
  have HAC := hid hac
  have HBC := hid hbc
  clear ha hb hac hbc
  go_enter Try.func16, Try.ntmps16
  go_wp2
  go_loopw [5] (fun i wr => ∃ k : Nat, k ≤ n ∧ i = .int .i64 k ∧ xs.take k = ys.take k ∧ Below w.heap.size w wr) (fun i _ => n - (intOf i).toNat)
  case atStart => exact ⟨0, Nat.zero_le _, rfl, rfl, Below.refl _ _⟩
  case round =>
    obtain ⟨k, hk, rfl, heq, hbel⟩ := hrel
    have HEQ := hid heq
    clear heq
    by_cases hlt : (k : Int) < n
    · have ca := HAC.out k (by omega)
      have cb := HBC.out k (by omega)
      rw [← hbel.cell (cell_lt ca)] at ca
      rw [← hbel.cell (cell_lt cb)] at cb
      have hsa := hid (take_snoc (bs := xs) (k := k) (by rw [HA.out]; omega))
      have hsb := hid (take_snoc (bs := ys) (k := k) (by rw [HB.out]; omega))
      generalize xs.getD k 0 = x at *
      generalize ys.getD k 0 = y at *
      by_cases hxy : (x : Int) = y
      · have hne : ((x : Int) != y) = false := by rw [bne_eq_false_iff_eq]; exact hxy
        have HXY := hid hxy
        clear hxy
        go_wp2_with fail
        go_quiet (fail)
        have hbq : Below w.heap.size w (wr.drewN nq) := ⟨hbel.os, hbel.tape, hbel.output, hbel.size, hbel.block⟩
        go_wp2_with fail
        go_roundw
        case rel => exact ⟨k + 1, by omega, by go_num, by rw [hsa.out, hsb.out, HEQ.out, Int.ofNat.inj HXY.out], hbq⟩
        case measure => simp [intOf]; omega
      · have hne : ((x : Int) != y) = true := by rw [bne_iff_ne]; exact hxy
        have HXY := hid hxy
        clear hxy
        have hdec : Hid (decide (xs = ys) = false) := hid (by
          rw [decide_eq_false_iff_not]
          rintro rfl
          have h := hsa.out.symm.trans hsb.out
          simp at h
          exact HXY.out (by rw [h]))
        go_wp2_with fail
        go_quiet (fail)
        have hbq : Below w.heap.size w (wr.drewN nq) := ⟨hbel.os, hbel.tape, hbel.output, hbel.size, hbel.block⟩
        go_wp2_with fail
        go_ret
        exact ⟨by rw [hdec.out]; rfl, hbq⟩
    · have hdec : Hid (decide (xs = ys) = true) := hid (by
        rw [decide_eq_true_iff]
        have h := HEQ.out
        rwa [List.take_of_length_le (by rw [HA.out]; omega), List.take_of_length_le (by rw [HB.out]; omega)] at h)
      have hge : (n : Int) ≤ k := by omega
      clear hlt
      go_wp2_with fail
      go_ret
      exact ⟨by rw [hdec.out]; rfl, hbel⟩

/-- The same bytes? -/
theorem same_any (ok ok' : Nat → Prop) (a b : Option Addr) (c d : Nat) (xs ys : List Nat) (w : World) (ha : Sl ok w a xs) (hb : Sl ok' w b ys) (hm : xs.length ≤ 9223372036854775807) :
    Calls Try.prog 16 #[.slice a xs.length c, .slice b ys.length d] w fun e w' => e = .returned (.bool (decide (xs = ys))) ∧ Below w.heap.size w w' := by
  by_cases hl : xs.length = ys.length
  · rcases ha with rfl | ⟨ab, ao, rfl, _, hac⟩
    · have : ys = [] := List.eq_nil_of_length_eq_zero (by simpa using hl.symm)
      subst this
      refine (same_nil a b c d w).mono ?_
      rintro e w' ⟨rfl, rfl⟩
      exact ⟨rfl, Below.refl _ _⟩
    · rcases hb with rfl | ⟨bb, bo, rfl, _, hbc⟩
      · have : xs = [] := List.eq_nil_of_length_eq_zero (by simpa using hl)
        subst this
        refine (same_nil _ b c d w).mono ?_
        rintro e w' ⟨rfl, rfl⟩
        exact ⟨rfl, Below.refl _ _⟩
      · have h := same_some ab ao bb bo xs.length c d xs ys w rfl hl.symm (by omega) hac (fun i hi => hbc i (by omega))
        rw [← hl]; exact h
  · refine (same_len a b xs.length ys.length c d w (by omega)).mono ?_
    rintro e w' ⟨rfl, rfl⟩
    refine ⟨ret_bool ?_, Below.refl _ _⟩
    symm
    rw [decide_eq_false_iff_not]
    rintro rfl
    exact hl rfl
theorem clone_nil (w : World) : Calls Try.prog 22 #[.slice none 0 0] w fun e w' => e = .returned (.slice none 0 0) ∧ w = w' := by
  have hq := fun w a l c => Go.Lib.run_eql_slice_nil (P := Try.prog) w 23 5 a l c 0 0 Try.underlying23
  go_enter Try.func22, Try.ntmps22
  go_wp2
  go_ret
  exact ⟨rfl, rfl⟩

theorem clone_some (ok : Nat → Prop) (ad : Addr) (c : Nat) (bs : List Nat) (w : World) (hs : Sl ok w (some ad) bs) (hbb : bs.length ≤ 140737488355328) :
    Calls Try.prog 22 #[.slice (some ad) bs.length c] w fun e w' => ∃ v, e = .returned v ∧ w'.ownsRow w.heap.size 5 1 v bs.length (u8s bs) ∧ Below w.heap.size w w' := by
  have HS := hid hs
  clear hs
  have hq := fun w a l c => Go.Lib.run_eql_slice_nil (P := Try.prog) w 23 5 a l c 0 0 Try.underlying23
  go_enter Try.func22, Try.ntmps22
  have hown : Hid ((w.alloc (.cells #[] 5)).ownsRow w.heap.size 5 1 (.slice (some ⟨w.heap.size, 0, none⟩) 0 0) 0 (u8s [])) := hid (World.ownsRow_lit w #[] 0 (Nat.le_refl _) (Nat.zero_le _) rfl)
  have hb1 : Below w.heap.size w (w.alloc (.cells #[] 5)) := (Below.refl _ _).alloc (Nat.le_refl _) _
  have HS1 := hid (HS.out.below hb1)
  have HB1 := hid hb1
  clear hb1 HS
  go_wp2_with (refine wpList_append_any rfl (.tmp 5) (.tmp 6) 23 rfl w.heap.size 5 (.int .u8 0) 1 Try.underlying23 infoU8 rfl _ _ _ rfl hown.out (some ad) _ _ (u8s bs) rfl (u8s_length _) (by intro h; cases h) HS1.out.cells (u8s_one _) (by unfold maxLen; omega) (by omega) (by simp) ?_)
  intro v w2 hv hg _
  have hb2 := below_owned HB1.out hown.out (Nat.le_refl _) hg
  have HV := hid hv
  clear hv hg
  go_wp2_with fail
  go_ret
  refine ⟨_, rfl, ?_, hb2⟩
  have := HV.out
  simpa [u8s] using this

theorem grow_zero (w : World) : Calls Try.prog 24 #[.slice none 0 0, .int .i64 0] w fun e w' => e = .returned (.slice none 0 0) ∧ w = w' := by
  go_enter Try.func24, Try.ntmps24
  go_wp2
  go_ret
  exact ⟨rfl, rfl⟩

theorem grow_some (n : Nat) (w : World) (h0 : (0 : Int) < n) (h1 : (n : Int) ≤ 140737488355328) :
    Calls Try.prog 24 #[.slice none 0 0, .int .i64 (n : Int)] w fun e w' => ∃ v, e = .returned v ∧ w'.ownsRow w.heap.size 5 1 v 0 (u8s []) ∧ Below w.heap.size w w' := by
  go_enter Try.func24, Try.ntmps24
  go_wp2_with (refine wpList_append_zeros rfl (.tmp 20) (.tmp 21) 23 3 rfl 5 (.int .u8 0) 1 Try.underlying23 .i64 .i64 Try.underlying3 infoU8 rfl n rfl rfl (by omega) (by unfold maxLen; omega) (by omega) ?_)
  intro w1 cur hrow hnc hm hb
  have HROW := hid hrow
  have hnN : (n : Int) ≤ cur.size := by omega
  go_wp2_with fail
  go_ret
  exact ⟨_, rfl, ⟨rfl, .inr ⟨w.heap.size, cur.size, cur, rfl, Nat.le_refl _, HROW.out, Nat.zero_le _, hm, by rw [Nat.mul_one], rfl⟩⟩, hb⟩

theorem grow_any (n : Nat) (w : World) (h1 : n ≤ 140737488355328) :
    Calls Try.prog 24 #[.slice none 0 0, .int .i64 (n : Int)] w fun e w' => ∃ v, e = .returned v ∧ w'.ownsRow w.heap.size 5 1 v 0 (u8s []) ∧ Below w.heap.size w w' := by
  by_cases h : n = 0
  · subst h
    refine (grow_zero w).mono ?_
    rintro e w' ⟨rfl, rfl⟩
    exact ⟨_, rfl, World.ownsRow_nil _ _ _ _, Below.refl _ _⟩
  · exact grow_some n w (by omega) (by omega)

/-- The first k parts' bytes. -/
def flatTo (ps : List (List Nat)) (k : Nat) : List Nat := (ps.take k).flatten
theorem flatTo_succ {ps : List (List Nat)} {k : Nat} (h : k < ps.length) : flatTo ps (k + 1) = flatTo ps k ++ ps.getD k [] := flat_snoc h
theorem flatTo_le (ps : List (List Nat)) (k : Nat) : (flatTo ps k).length ≤ tot ps := flat_le ps k
theorem flatTo_all (ps : List (List Nat)) : flatTo ps ps.length = ps.flatten := by unfold flatTo; rw [List.take_of_length_le (Nat.le_refl _)]
set_option maxHeartbeats 2000000 in
theorem concat_some (ok : Nat → Prop) (b o cap : Nat) (ps : List (List Nat)) (A : Nat → Option Addr) (C : Nat → Nat) (w : World) (hp : Parts ok w b o ps A C) (hl : (ps.length : Int) ≤ 9223372036854775807) (ht : tot ps ≤ 140737488355328) :
    Calls Try.prog 21 #[.slice (some ⟨b, o, none⟩) ps.length cap] w fun e w' => ∃ v, e = .returned v ∧ w'.ownsRow w.heap.size 5 1 v (tot ps) (u8s ps.flatten) ∧ Below w.heap.size w w' := by
  have HP := hid hp
  clear hp
  go_enter Try.func21, Try.ntmps21
  go_wp2
  go_loop [3, 11] (fun n i => ∃ k : Nat, k ≤ ps.length ∧ i = .int .i64 k ∧ n = .int .i64 (flatTo ps k).length) (fun _ i => ps.length - (intOf i).toNat)
  case atStart => exact ⟨0, Nat.zero_le _, rfl, rfl⟩
  case round =>
    obtain ⟨k, hk, rfl, rfl⟩ := hrel
    have hle := flatTo_le ps k
    by_cases hlt : (k : Int) < ps.length
    · have hcell := HP.out.cell k (by omega)
      have hs : Hid ((flatTo ps (k + 1)).length = (flatTo ps k).length + (ps.getD k []).length) := hid (by rw [flatTo_succ (by omega), List.length_append])
      have hle2 : (flatTo ps k).length + (ps.getD k []).length ≤ 140737488355328 := by
        have := flatTo_le ps (k + 1)
        have := hs.out
        omega
      generalize ps.getD k [] = p at *
      have hz : (0 : Int) ≤ (flatTo ps k).length + p.length := by omega
      have hle3 : ((flatTo ps k).length : Int) + p.length ≤ 140737488355328 := by omega
      go_wp2_with fail
      go_round
      case rel => exact ⟨k + 1, by omega, by go_num, by rw [hs.out]; rfl⟩
      case measure => simp [intOf]; omega
    · have hge : (ps.length : Int) ≤ k := by omega
      have hall : Hid ((flatTo ps k).length = tot ps) := hid (by
        have : k = ps.length := by omega
        rw [this, flatTo_all]; rfl)
      clear hlt
      have H := hid (grow_any (flatTo ps k).length w (by have := hall.out; omega))
      go_wp2_with fail
      refine H.out.mono ?_
      clear H
      rintro e w1 ⟨v, rfl, hown, hb⟩
      have HOWN := hid hown
      clear hown
      go_wp2_with fail
      go_loopw [6, 27] (fun v i wr => ∃ k : Nat, k ≤ ps.length ∧ i = .int .i64 k ∧ wr.ownsRow w.heap.size 5 1 v (flatTo ps k).length (u8s (flatTo ps k)) ∧ Below w.heap.size w wr) (fun _ i _ => ps.length - (intOf i).toNat)
      case atStart => exact ⟨0, Nat.zero_le _, rfl, HOWN.out, hb⟩
      case round =>
        clear hk hle hge hall HOWN hb
        obtain ⟨q, hk, rfl, hown, hbel⟩ := hrel
        have HOWN := hid hown
        clear hown
        by_cases hlt : (q : Int) < ps.length
        · have hcell : wr.cell? ⟨b, o + q, none⟩ = some (.slice (A q) (ps.getD q []).length (C q)) := by
            rw [hbel.cell (cell_lt (HP.out.cell q (by omega)))]; exact HP.out.cell q (by omega)
          have HS := hid ((HP.out.sl q (by omega)).below hbel)
          have hs := hid (flatTo_succ (ps := ps) (k := q) (by omega))
          have hle2 : Hid ((flatTo ps q).length + (ps.getD q []).length ≤ 140737488355328) := hid (by
            have h1 := flatTo_le ps (q + 1)
            rw [hs.out, List.length_append] at h1
            omega)
          have hbz := hid hbel.size
          generalize ps.getD q [] = p at *
          generalize A q = ak at *
          generalize C q = ck at *
          go_wp2_with (refine wpList_append_any rfl (.tmp 31) (.tmp 32) 23 rfl w.heap.size 5 (.int .u8 0) 1 Try.underlying23 infoU8 rfl _ _ _ rfl HOWN.out ak _ _ (u8s p) rfl (u8s_length _) HS.out.some_len HS.out.cells (u8s_one _) (by have := hle2.out; unfold maxLen; omega) (by have := hle2.out; omega) hbz.out ?_)
          intro v2 w2 hv2 hg2 _
          have hb2 := below_owned hbel HOWN.out (Nat.le_refl _) hg2
          have HV2 := hid (owns_step hv2 rfl rfl)
          clear hv2 hg2
          go_wp2_with fail
          go_roundw
          case rel => exact ⟨q + 1, by omega, by go_num, by rw [hs.out]; exact HV2.out, hb2⟩
          case measure => simp [intOf]; omega
        · have hge : (ps.length : Int) ≤ q := by omega
          have hall : Hid (flatTo ps q = ps.flatten) := hid (by
            have : q = ps.length := by omega
            rw [this, flatTo_all])
          clear hlt
          go_wp2_with fail
          go_ret
          exact ⟨_, rfl, by have h := HOWN.out; rw [hall.out] at h; exact h, hbel⟩
end Go.Proofs.Ytpciknbcnpnbcaa
