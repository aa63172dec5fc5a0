/- CONTRACT: the document's reading of a number at a place. -/
import Derived.Test.YtjcapiibeekfkaaVarX
namespace Go.Proofs.Ytjcapiibeekfkaa
open Go.RowKit Go.Inc

/-- The number at a place, the place behind it, the error. -/
def RefAns (G at_ : Nat) (bs : List Nat) (w : World) (e : Ending) (w' : World) : Prop :=
  e = .returned (.tuple #[.int .u64 (Var.val G (bs.drop at_) : Nat), .int .i64 ((at_ + Var.pos G (bs.drop at_) : Nat) : Int), .int .i64 (Var.err G (bs.drop at_) : Nat)]) ∧ w = w'
theorem ref_end {G at_ k v E : Nat} {bs : List Nat} (w : World) (hE : Var.get G 0 0 (bs.drop at_) = (v, k, E)) : RefAns G at_ bs w (.returned (.tuple #[.int .u64 (v : Int), .int .i64 ((at_ + k : Nat) : Int), .int .i64 (E : Int)])) w := by
  unfold RefAns Var.val Var.pos Var.err
  rw [hE]
  exact ⟨rfl, rfl⟩
theorem quo_nat {G n x k : Nat} (hn : n ≤ G) : (((G : Int) - n) / ((128 ^ k : Nat) : Int) < (x : Int) % 128) = ((G - n) / 128 ^ k < x % 128) := by
  have h1 : ((G : Int) - n) / ((128 ^ k : Nat) : Int) = (((G - n) / 128 ^ k : Nat) : Int) := by
    rw [Int.natCast_ediv, Int.natCast_sub hn]
  rw [h1]
  apply propext
  omega

set_option maxHeartbeats 4000000 in
set_option maxRecDepth 100000 in
theorem refGet_some (b off c at_ G : Nat) (bs : List Nat) (w : World) (hc : ∀ i, i < bs.length → w.cell? ⟨b, off + i, none⟩ = some (.int .u8 ((bs.getD i 0 : Nat) : Int))) (hby : Bytes bs) (hat : at_ ≤ bs.length) (hl : bs.length ≤ 70368744177664) (hG : G ≤ 18446744073709551615) :
    Calls Try.prog 23 #[.slice (some ⟨b, off, none⟩) bs.length c, .int .i64 (at_ : Int), .int .u64 (G : Int)] w (RefAns G at_ bs w) := by
  have HC := hid hc
  have HBY := hid hby
  have hli : (bs.length : Int) ≤ 70368744177664 := by omega
  have hGi : (G : Int) ≤ 18446744073709551615 := by omega
  have hai : (at_ : Int) ≤ 70368744177664 := by omega
  clear hc hby hl hG
  go_enter Try.func23, Try.ntmps23
  go_wp2_with fail
  go_loop [1, 9] (fun a1 n1 => ∃ (k n : Nat), at_ + k ≤ bs.length ∧ k ≤ 10 ∧ a1 = .int .i64 ((at_ + k : Nat) : Int) ∧ n1 = .int .u64 (n : Int) ∧ n ≤ G ∧ n < 128 ^ k ∧ Var.get G 0 0 (bs.drop at_) = Var.get G k n (bs.drop (at_ + k))) (fun a1 _ => bs.length - (intOf a1).toNat)
  case atStart => exact ⟨0, 0, by omega, by omega, rfl, rfl, by omega, by omega, by simp⟩
  case round =>
    obtain ⟨k, n, hk, hk10, rfl, rfl, hnG, hn, hget⟩ := hrel
    have HG := hid hget
    have HNK := hid hn
    have hnGi : (n : Int) ≤ G := by omega
    clear hget hn
    obtain ⟨p, hp⟩ : ∃ p, p = at_ + k := ⟨_, rfl⟩
    have HP := hid hp
    rw [← hp] at hk HG ⊢
    have hki : (p : Int) - at_ = k := by omega
    clear hp
    by_cases hlt : p < bs.length
    · have hcell := HC.out p hlt
      have hcb := Bytes.getD HBY.out p
      have hdr : Hid (bs.drop p = bs.getD p 0 :: bs.drop (p + 1)) := hid (by
        rw [List.drop_eq_getElem_cons hlt, List.getD_eq_getElem?_getD, List.getElem?_eq_getElem hlt]; rfl)
      generalize bs.getD p 0 = x at *
      have hx2 : (x : Int) < 256 := by omega
      have HCB := hid hcb
      have hpl : (p : Int) < bs.length := by omega
      have hpl2 : (p < bs.length) = True := eq_true hlt
      clear hcb hlt hk
      by_cases h10 : k = 10
      · have ht : decide ((9 : Int) < k) = true := decide_eq_true (by omega)
        have H10 := hid h10
        clear h10 hk10 hnG
        go_wp2_with fail
        go_ret3
        rw [HP.out]
        exact ref_end w (HG.out.trans (by rw [hdr.out]; exact Var.get_bad (.inl H10.out)))
      · have ht : decide ((9 : Int) < k) = false := decide_eq_false (by omega)
        have hk9 : (k : Int) ≤ 9 := by omega
        have H10 := hid h10
        clear h10 hk10
        have htn := hid (quo_nat (G := G) (n := n) (x := x) (k := k) hnG)
        go_wp2_with fail
        go_loop [13, 14] (fun t1 j1 => ∃ j : Nat, j ≤ k ∧ j1 = .int .i64 (j : Int) ∧ t1 = .int .u64 ((128 ^ j : Nat) : Int)) (fun _ j1 => k - (intOf j1).toNat)
        case atStart => exact ⟨0, Nat.zero_le _, rfl, rfl⟩
        case round =>
          obtain ⟨j, hj, rfl, rfl⟩ := hrel
          by_cases hjk : j < k
          · have hpw : Hid (128 ^ (j + 1) = 128 ^ j * 128) := hid (Nat.pow_succ _ _)
            have hle : 128 ^ j ≤ 128 ^ 8 := Nat.pow_le_pow_right (by decide) (by omega)
            have hji : (j < k) = True := eq_true hjk
            have hjx : (j : Int) < k := by omega
            clear hjk
            generalize 128 ^ j = t at *
            have hti : (t : Int) ≤ 72057594037927936 := by omega
            clear hle
            go_wp2_with fail
            go_round
            case rel => exact ⟨j + 1, by omega, by go_num, by rw [hpw.out]; rfl⟩
            case measure => simp [intOf]; omega
          · have hjk2 : j = k := by omega
            subst hjk2
            have hji : (j < j) = False := eq_false (by omega)
            have hTp : 1 ≤ 128 ^ j := Nat.one_le_pow _ _ (by decide)
            have hT9 : 128 ^ j ≤ 128 ^ 9 := Nat.pow_le_pow_right (by decide) (by omega)
            have HNX := hid (Var.next_le (G := G) (k := j) (n := n) (c := x) hnG)
            have HNL := hid (Var.next_lt (c := x) HNK.out)
            have HGB := hid (@Var.get_bad G j n x (bs.drop (p + 1)))
            have HGL := hid (@Var.get_last G j n x (bs.drop (p + 1)))
            have HGN := hid (@Var.get_next G j n x (bs.drop (p + 1)))
            clear hnG hj
            generalize 128 ^ j = T at *
            have hTi : (1 : Int) ≤ T := by omega
            have hTi9 : (T : Int) ≤ 9223372036854775808 := by omega
            clear hTp hT9
            by_cases hT : (G - n) / T < x % 128
            · have q0 : 0 < x % 128 := Nat.lt_of_le_of_lt (Nat.zero_le _) hT
              have q1 : decide ((0 : Int) < (x : Int) % 128) = true := decide_eq_true (by omega)
              clear q0
              have q2 : (((G : Int) - n) / (T : Int) < (x : Int) % 128) = True := by rw [htn.out]; exact eq_true hT
              have HE : Hid (Var.get G 0 0 (bs.drop at_) = (0, j, 3)) := hid (HG.out.trans (by rw [hdr.out]; exact HGB.out (.inr (.inr hT))))
              clear hT
              go_wp2_with fail
              go_ret3
              rw [HP.out]
              exact ref_end w HE.out
            · have q2 : (((G : Int) - n) / (T : Int) < (x : Int) % 128) = False := by rw [htn.out]; exact eq_false hT
              by_cases hB : 0 < j ∧ x = 0
              · have q1 : decide ((0 : Int) < (x : Int) % 128) = false := decide_eq_false (by omega)
                have q3 : ((x : Int) == 0) = true := by rw [beq_iff_eq]; omega
                have q4 : (0 < j) = True := eq_true hB.1
                have HE : Hid (Var.get G 0 0 (bs.drop at_) = (0, j, 3)) := hid (HG.out.trans (by rw [hdr.out]; exact HGB.out (.inr (.inl hB))))
                clear hT hB
                go_wp2_with fail
                go_ret3
                rw [HP.out]
                exact ref_end w HE.out
              · have HNO : Hid (¬ (j = 10 ∨ (0 < j ∧ x = 0) ∨ (G - n) / T < x % 128)) := hid (by
                  have := H10.out
                  omega)
                have hmG := HNX.out hT
                obtain ⟨P, hP⟩ : ∃ P, P = x % 128 * T := ⟨_, rfl⟩
                have hPi : (x : Int) % 128 * (T : Int) = (P : Int) := by rw [hP, Int.natCast_mul]; rfl
                rw [← hP] at hmG
                have hPle : (P : Int) ≤ 18446744073709551615 := by omega
                have hsum : (n : Int) + P ≤ 18446744073709551615 := by omega
                have HMG := hid hmG
                have HML : Hid (n + P < 128 ^ (j + 1)) := hid (by rw [hP]; exact HNL.out)
                have HL2 : Hid (x < 128 → Var.get G 0 0 (bs.drop at_) = (n + P, j + 1, 0)) := hid fun h => HG.out.trans (by rw [hdr.out, hP]; exact HGL.out HNO.out h)
                have HN2 : Hid (¬ x < 128 → Var.get G 0 0 (bs.drop at_) = Var.get G (j + 1) (n + P) (bs.drop (p + 1))) := hid fun h => HG.out.trans (by rw [hdr.out, hP]; exact HGN.out HNO.out h)
                rcases (show Hid (((x : Int) == 0) = false) ∨ Hid (((x : Int) == 0) = true ∧ (0 < j) = False) by
                  by_cases h : x = 0
                  · exact .inr (hid ⟨by rw [beq_iff_eq]; omega, eq_false (by omega)⟩)
                  · exact .inl (hid (by rw [beq_eq_false_iff_ne]; omega))) with hz | hz
                all_goals
                  clear hB hT hmG hP
                  have hz2 := hz.out
                  clear hz
                  rcases (show Hid (decide ((0 : Int) < (x : Int) % 128) = true) ∨ Hid (decide ((0 : Int) < (x : Int) % 128) = false) by
                    cases h : decide ((0 : Int) < (x : Int) % 128)
                    · exact .inr (hid rfl)
                    · exact .inl (hid rfl)) with hq | hq
                  all_goals
                    have q1 := hq.out
                    clear hq
                    by_cases hx : (x : Int) < 128
                    · have hg2 := hid (HL2.out (by omega))
                      clear HL2 HN2
                      try obtain ⟨hz3, hz4⟩ := hz2
                      go_wp2_with fail
                      go_ret3
                      rw [show (p : Int) + 1 = ((at_ + (j + 1) : Nat) : Int) from by have := HP.out; omega]
                      exact ref_end w hg2.out
                    · have hx3 : ((x : Int) < 128) = False := eq_false hx
                      have hg2 := hid (HN2.out (by omega))
                      clear HL2 HN2 hx
                      try obtain ⟨hz3, hz4⟩ := hz2
                      go_wp2_with fail
                      go_round
                      case rel =>
                        refine ⟨j + 1, n + P, by have := HP.out; omega, by omega, by rw [HP.out]; go_num, by go_num, HMG.out, HML.out, ?_⟩
                        rw [hg2.out, HP.out]; rfl
                      case measure => simp [intOf]; omega
    · have hdr : Hid (bs.drop p = []) := hid (List.drop_eq_nil_of_le (by omega))
      have hpl2 : (p < bs.length) = False := eq_false hlt
      clear hlt hk hnG
      go_wp2_with fail
      go_ret3
      rw [HP.out]
      exact ref_end w (HG.out.trans (by rw [hdr.out]; exact Var.get_nil _ _ _))

theorem refGet_nil (a : Option Addr) (c G : Nat) (w : World) (hG : G ≤ 18446744073709551615) :
    Calls Try.prog 23 #[.slice a 0 c, .int .i64 0, .int .u64 (G : Int)] w (RefAns G 0 [] w) := by
  have hGi : (G : Int) ≤ 18446744073709551615 := by omega
  clear hG
  go_enter Try.func23, Try.ntmps23
  go_wp2_with fail
  go_loop [1, 9] (fun a1 n1 => a1 = .int .i64 0 ∧ n1 = .int .u64 0) (fun _ _ => 0)
  case atStart => exact ⟨rfl, rfl⟩
  case round =>
    obtain ⟨rfl, rfl⟩ := hrel
    go_wp2_with fail
    go_ret3
    exact ref_end w (at_ := 0) (k := 0) (v := 0) (E := 4) (bs := []) rfl
theorem refGet_any (ok : Nat → Prop) (a : Option Addr) (c at_ G : Nat) (z : Int) (bs : List Nat) (w : World) (hs : Sl ok w a bs) (hby : Bytes bs) (hat : at_ ≤ bs.length) (hl : bs.length ≤ 70368744177664) (hG : G ≤ 18446744073709551615) (hz : z = at_) :
    Calls Try.prog 23 #[.slice a bs.length c, .int .i64 z, .int .u64 (G : Int)] w (RefAns G at_ bs w) := by
  subst hz
  rcases hs with rfl | ⟨b, off, rfl, _, hc⟩
  · obtain rfl : at_ = 0 := by simpa using hat
    exact refGet_nil a c G w hG
  · exact refGet_some b off c at_ G bs w hc hby hat hl hG
end Go.Proofs.Ytjcapiibeekfkaa

