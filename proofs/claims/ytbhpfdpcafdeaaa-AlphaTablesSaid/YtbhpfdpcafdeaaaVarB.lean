/- CONTRACTS OF THE READER: made over bytes; a number read; what is left, copied. -/
import Derived.Test.YtbhpfdpcafdeaaaVarA
import Derived.WalkMore
import Derived.Deep.LoopGhost
namespace Go.Proofs.Ytbhpfdpcafdeaaa
open Go.RowKit Go.Inc

/-- A reader in a row of its own: what is left, and its fault. -/
def Rd (ok : Nat → Prop) (w : World) (g : Nat) (bs : List Nat) (f : Nat) : Prop :=
  ∃ a c, w.heap[g]? = some (.cells #[.slice a bs.length c, .int .i64 (f : Int)] 87 (0, 0)) ∧ Sl ok w a bs ∧ bs.length ≤ c ∧ c ≤ maxLen ∧ (a = none → c = 0)

theorem andNot128 (x : Nat) (h : x < 256) : bits .andNot .u8 (x : Int) 128 = ((x % 128 : Nat) : Int) := by
  have key : ∀ n : Fin 256, bits .andNot .u8 (n.val : Int) 128 = ((n.val % 128 : Nat) : Int) := by decide +kernel
  exact key ⟨x, h⟩

theorem over_any (ok : Nat → Prop) (a : Option Addr) (c : Nat) (bs : List Nat) (w : World) (hs : Sl ok w a bs) (hc : bs.length ≤ c ∧ c ≤ maxLen) (hn : a = none → c = 0) :
    Calls Try.prog 51 #[.slice a bs.length c] w fun e w' => e = .returned (.pointer (some ⟨w.heap.size, 0, none⟩)) ∧ Rd ok w' w.heap.size bs 0 ∧ Below w.heap.size w w' := by
  have HS := hid hs
  clear hs
  have hn := hid hn
  go_enter Try.func51, Try.ntmps51
  go_wp2
  go_ret
  have hb : Below w.heap.size w (w.alloc (.cells #[.slice a bs.length c, .int .i64 0] 87)) := (Below.refl _ _).alloc (Nat.le_refl _) _
  exact ⟨rfl, ⟨a, c, heap_alloc_new w _, HS.out.below hb, hc.1, hc.2, hn.out⟩, hb⟩

set_option maxHeartbeats 1000000 in
theorem take_yes (ok : Nat → Prop) (g k f : Nat) (bs : List Nat) (w : World) (hr : Rd ok w g bs f) (hg : ∀ b, ok b → b ≠ g) (hk : k ≤ bs.length) (z : Int) (hz : z = k) :
    Calls Try.prog 65 #[.pointer (some ⟨g, 0, none⟩), .int .i64 z] w fun e w' => ∃ a' c', e = .returned (.tuple #[.slice a' k c', .bool true]) ∧ Sl ok w' a' (bs.take k) ∧ (a' = none → c' = 0) ∧ k ≤ c' ∧ c' ≤ maxLen ∧ Rd ok w' g (bs.drop k) f ∧ w.grownBy w' (some g) := by
  subst hz
  obtain ⟨a, c, hrow, hs, hc, hm, hn⟩ := hr
  have HN := hid hn
  have HS := hid hs
  have c0 : w.cell? ⟨g, 0, none⟩ = some (.slice a bs.length c) := cell_of_row w g 0 _ _ _ hrow
  have fz := frozen_of_row w g 0 _ _ hrow
  have HR := hid hrow
  clear hn hs hrow
  generalize hL : bs.length = L at *
  have HL := hid hL
  clear hL
  have hm' := hm
  unfold maxLen at hm'
  go_enter Try.func65, Try.ntmps65
  go_wp2
  all_goals
    go_ret2
    have hrow := HR.out
    have hL := HL.out
    subst hL
  · have hg1 : w.grownBy (w.setCell ⟨g, 0, none⟩ (.slice a (bs.length - k) 0)) (some g) := grown_setCell (grown_refl _ _) (.inl rfl) _
    have hS := HS.out.grown hg1 hg
    refine ⟨a, k, rfl, hS.front k, fun h => by have := HN.out h; omega, Nat.le_refl _, by unfold maxLen; omega, ⟨a, 0, ?_, hS.behind k a (fun h => by omega), by rw [List.length_drop]; omega, by omega, fun _ => rfl⟩, hg1⟩
    rw [List.length_drop]
    exact heap_setCell_same w g 0 _ _ _ hrow
  · have hg1 : w.grownBy (w.setCell ⟨g, 0, none⟩ (.slice (a.map (·.add k)) (bs.length - k) (c - k))) (some g) := grown_setCell (grown_refl _ _) (.inl rfl) _
    have hS := HS.out.grown hg1 hg
    refine ⟨a, c, rfl, hS.front k, HN.out, by omega, by unfold maxLen; omega, ⟨_, c - k, ?_, hS.behind k _ (fun _ => rfl), by rw [List.length_drop]; omega, by omega, fun h => by have := HN.out (by simpa using h); omega⟩, hg1⟩
    rw [List.length_drop]
    exact heap_setCell_same w g 0 _ _ _ hrow

theorem apart_any (ok : Nat → Prop) (g f : Nat) (bs : List Nat) (w : World) (hr : Rd ok w g bs f) (hl : bs.length ≤ 70368744177664) :
    Calls Try.prog 60 #[.pointer (some ⟨g, 0, none⟩)] w fun e w' => ∃ v, e = .returned v ∧ Row 5 w.heap.size w' v bs ∧ Below w.heap.size w w' := by
  obtain ⟨a, c, hrow, hs, hc, hm, hn⟩ := hr
  have c0 : w.cell? ⟨g, 0, none⟩ = some (.slice a bs.length c) := cell_of_row w g 0 _ _ _ hrow
  have H := hid (clone_any ok a c bs w hs (by omega) hn)
  clear hn hs hrow
  go_enter Try.func60, Try.ntmps60
  go_wp2_with fail
  refine H.out.mono ?_
  rintro e w' ⟨v, rfl, hr, hb⟩
  have HR : Hid (Row 5 w.heap.size w' v bs) := hid hr
  clear hr
  go_wp2_with fail
  go_ret
  exact ⟨_, rfl, HR.out, hb⟩

/-- What reading a number leaves, and the fault behind it. -/
def leftOf (G : Nat) (bs : List Nat) : List Nat := if Var.err G bs = 0 then bs.drop (Var.pos G bs) else bs
def faultOf (G f : Nat) (bs : List Nat) : Nat := if Var.err G bs = 0 then f else Var.err G bs
def Read (ok : Nat → Prop) (G g f : Nat) (bs : List Nat) (w w' : World) : Prop := Rd ok w' g (leftOf G bs) (faultOf G f bs) ∧ w.grownBy w' (some g)

theorem read_bad {ok : Nat → Prop} {G g f k E : Nat} {bs : List Nat} {w : World} (hr : Rd ok w g bs f) (hg : ∀ b, ok b → b ≠ g) (hE : Var.get G 0 0 bs = (0, k, E)) (h0 : E ≠ 0) :
    (0 : Int) = (Var.val G bs : Nat) ∧ Read ok G g f bs w (w.setCell ⟨g, 1, none⟩ (.int .i64 (E : Int))) := by
  have h1 : Var.err G bs = E := by unfold Var.err; rw [hE]
  refine ⟨by unfold Var.val; rw [hE]; rfl, ?_⟩
  have hgr : w.grownBy (w.setCell ⟨g, 1, none⟩ (.int .i64 (E : Int))) (some g) := grown_setCell (grown_refl _ _) (.inl rfl) _
  unfold Read leftOf faultOf
  rw [h1, if_neg h0, if_neg h0]
  obtain ⟨a, c, hrow, hs, r⟩ := hr
  exact ⟨⟨a, c, heap_setCell_same w g 1 _ _ _ hrow, hs.grown hgr hg, r⟩, hgr⟩
theorem read_good {ok : Nat → Prop} {G g f m k : Nat} {bs : List Nat} {w w' : World} (hE : Var.get G 0 0 bs = (m, k, 0)) (hr : Rd ok w' g (bs.drop k) f) (hg : w.grownBy w' (some g)) :
    (m : Int) = (Var.val G bs : Nat) ∧ Read ok G g f bs w w' := by
  have h1 : Var.err G bs = 0 := by unfold Var.err; rw [hE]
  have h2 : Var.pos G bs = k := by unfold Var.pos; rw [hE]
  refine ⟨by unfold Var.val; rw [hE], ?_⟩
  unfold Read leftOf faultOf
  rw [h1, h2]
  exact ⟨hr, hg⟩
theorem or_wrap {G n x k : Nat} (hn : n < 128 ^ k) (hx : n + x % 128 * 128 ^ k ≤ G) (hG : G < 18446744073709551616) :
    bits .or .u64 (n : Int) (IntKind.u64.wrap ((x : Int) % 128 * 2 ^ (7 * k))) = ((n + x % 128 * 128 ^ k : Nat) : Int) := by
  have h1 : (x : Int) % 128 * 2 ^ (7 * k) = ((x % 128 * 128 ^ k : Nat) : Int) := by
    rw [← Var.pow_128, Int.natCast_mul, Int.natCast_pow]; rfl
  rw [h1, IntWalk.u64_in _ (by omega), u64_or_nat n _ (by omega) (by omega), Var.or_next hn]
theorem test_nat {G n x k : Nat} (hn : n ≤ G) : (((G : Int) - n) / 2 ^ (7 * k) < (x : Int) % 128) = ((G - n) / 128 ^ k < x % 128) := by
  have h1 : ((G : Int) - n) / 2 ^ (7 * k) = (((G - n) / 128 ^ k : Nat) : Int) := by
    rw [← Var.pow_128, Int.natCast_ediv, Int.natCast_pow, Int.natCast_sub hn]; rfl
  rw [h1]
  apply propext
  omega

set_option maxHeartbeats 2000000 in
theorem number_any (ok : Nat → Prop) (G g f : Nat) (bs : List Nat) (w : World) (hr : Rd ok w g bs f) (hg : ∀ b, ok b → b ≠ g) (hby : Bytes bs) (hG : G ≤ 18446744073709551615) :
    Calls Try.prog 64 #[.pointer (some ⟨g, 0, none⟩), .int .u64 (G : Int)] w fun e w' => e = .returned (.int .u64 (Var.val G bs : Nat)) ∧ Read ok G g f bs w w' := by
  have hr0 := hid hr
  obtain ⟨a, c, hrow, hs, hc, hm, hn⟩ := hr
  have HN := hid hn
  have HS := hid hs
  have HBY := hid hby
  have HGG := hid hg
  have c0 : w.cell? ⟨g, 0, none⟩ = some (.slice a bs.length c) := cell_of_row w g 0 _ _ _ hrow
  have c1 : w.cell? ⟨g, 1, none⟩ = some (.int .i64 (f : Int)) := cell_of_row w g 1 _ _ _ hrow
  have fz := frozen_of_row w g 1 _ _ hrow
  have HR := hid hrow
  clear hn hs hrow hby hg
  have hGi : (G : Int) ≤ 18446744073709551615 := by omega
  clear hG
  have hm' : (c : Int) ≤ 9223372036854775807 := by unfold maxLen at hm; omega
  have hc' : (bs.length : Int) ≤ 9223372036854775807 := by omega
  clear hm
  go_enter Try.func64, Try.ntmps64
  go_wp2_with fail
  go_step3
  go_wp2_with fail
  go_step3
  go_wp2_with fail
  go_loop [5, 6, 17] (fun n1 f1 i1 => ∃ (k n : Nat), k ≤ bs.length ∧ k ≤ 10 ∧ i1 = .int .i64 (k : Int) ∧ f1 = .int .i64 4 ∧ n1 = .int .u64 (n : Int) ∧ n ≤ G ∧ n < 128 ^ k ∧ Var.get G 0 0 bs = Var.get G k n (bs.drop k)) (fun _ _ i1 => bs.length - (intOf i1).toNat)
  case atStart => exact ⟨0, 0, by omega, by omega, rfl, rfl, rfl, by omega, by omega, by simp⟩
  case round =>
    obtain ⟨k, n, hk, hk10, rfl, rfl, rfl, hnG, hn, hget⟩ := hrel
    have HG := hid hget
    clear hget
    by_cases hlt : (k : Int) < bs.length
    · have hcell : ∃ b off, Hid (a = some ⟨b, off, none⟩) ∧ w.cell? ⟨b, off + k, none⟩ = some (.int .u8 ((bs.getD k 0 : Nat) : Int)) := by
        rcases HS.out with h | ⟨b, off, h, _, hc⟩
        · rw [h] at hlt; simp at hlt; omega
        · exact ⟨b, off, hid h, hc k (by omega)⟩
      obtain ⟨b, off, ha, hcell⟩ := hcell
      have hcb := Bytes.getD HBY.out k
      have hdr : Hid (bs.drop k = bs.getD k 0 :: bs.drop (k + 1)) := hid (by
        rw [List.drop_eq_getElem_cons (by omega), List.getD_eq_getElem?_getD, List.getElem?_eq_getElem (by omega)]; rfl)
      generalize bs.getD k 0 = x at *
      have hx2 : (x : Int) < 256 := by omega
      have ha2 := ha.out
      subst ha2
      have han := andNot128 x hcb
      have HCB := hid hcb
      have HNK := hid hn
      clear hcb hn
      have hnG' : (n : Int) ≤ G := by omega
      clear hnG
      have hkn := hid hk
      clear hk
      by_cases h10 : (k : Int) = 10
      · have hd : ((k : Int) == 10) = true := by rw [beq_iff_eq]; exact h10
        have H10 := hid h10
        clear h10
        go_wp2_with fail
        go_ret
        have hb := read_bad hr0.out HGG.out (HG.out.trans (by rw [hdr.out]; exact Var.get_bad (.inl (by have := H10.out; omega)))) (by decide)
        exact ⟨ret_u64 hb.1, hb.2⟩
      · have hd : ((k : Int) == 10) = false := by rw [beq_eq_false_iff_ne]; exact h10
        have hk9 : (k : Int) ≤ 9 := by omega
        have H10 := hid h10
        clear h10 hk10
        by_cases hB : 0 < k ∧ x = 0
        · have hz : (0 < k) = True := eq_true hB.1
          have hx0 : ((x : Int) == 0) = true := by rw [beq_iff_eq]; omega
          have HB := hid hB
          clear hB
          go_wp2_with fail
          go_ret
          have hb := read_bad hr0.out HGG.out (HG.out.trans (by rw [hdr.out]; exact Var.get_bad (.inr (.inl HB.out)))) (by decide)
          exact ⟨ret_u64 hb.1, hb.2⟩
        · have HB := hid hB
          have htn := hid (test_nat (G := G) (n := n) (x := x) (k := k) (by omega))
          rcases (show Hid ((0 < k) = False) ∨ Hid ((0 < k) = True ∧ ((x : Int) == 0) = false) by
            by_cases h : 0 < k
            · exact .inr (hid ⟨eq_true h, by rw [beq_eq_false_iff_ne]; omega⟩)
            · exact .inl (hid (eq_false h))) with hz | hz
          all_goals
            clear hB
            have hz2 := hz.out
            clear hz
            by_cases hT : (G - n) / 128 ^ k < x % 128
            · have hT2 : (((G : Int) - n) / 2 ^ (7 * k) < (x : Int) % 128) = True := by rw [htn.out]; exact eq_true hT
              have HT := hid hT
              clear hT
              try obtain ⟨hz3, hz4⟩ := hz2
              go_wp2_with fail
              go_ret
              have hb := read_bad hr0.out HGG.out (HG.out.trans (by rw [hdr.out]; exact Var.get_bad (.inr (.inr HT.out)))) (by decide)
              exact ⟨ret_u64 hb.1, hb.2⟩
            · have hT2 : (((G : Int) - n) / 2 ^ (7 * k) < (x : Int) % 128) = False := by rw [htn.out]; exact eq_false hT
              have HN2 := hid (Var.next_le (c := x) (by omega) hT)
              have HL := hid (Var.next_lt (c := x) HNK.out)
              have hor := or_wrap HNK.out HN2.out (by omega)
              have HC : Hid (¬ (k = 10 ∨ (0 < k ∧ x = 0) ∨ (G - n) / 128 ^ k < x % 128)) := hid (by
                have := H10.out
                have := HB.out
                omega)
              clear hT
              by_cases hl : (x : Int) < 128
              · have hg2 : Hid (Var.get G 0 0 bs = (n + x % 128 * 128 ^ k, k + 1, 0)) := hid (HG.out.trans (by rw [hdr.out]; exact Var.get_last HC.out (by omega)))
                generalize n + x % 128 * 128 ^ k = m at *
                have hmi : (m : Int) ≤ 18446744073709551615 := by have := HN2.out; omega
                have Ht := hid (take_yes ok g (k + 1) f bs w hr0.out HGG.out (by omega) ((k : Int) + 1) (by omega))
                try obtain ⟨hz3, hz4⟩ := hz2
                go_wp2_with fail
                refine Ht.out.mono ?_
                rintro e w' ⟨a', c', rfl, hs, _, _, _, hr', hg'⟩
                have hb := hid (read_good hg2.out hr' hg')
                clear hs hr' hg'
                go_wp2_with fail
                rw [Exit.noGoto_ret]
                go_ret
                exact ⟨ret_u64 hb.out.1, hb.out.2⟩
              · have hl2 : ((x : Int) < 128) = False := eq_false hl
                have hg2 : Hid (Var.get G 0 0 bs = Var.get G (k + 1) (n + x % 128 * 128 ^ k) (bs.drop (k + 1))) := hid (HG.out.trans (by rw [hdr.out]; exact Var.get_next HC.out (by omega)))
                clear hl
                generalize n + x % 128 * 128 ^ k = m at *
                have hmi : (m : Int) ≤ 18446744073709551615 := by have := HN2.out; omega
                try obtain ⟨hz3, hz4⟩ := hz2
                go_wp2_with fail
                go_round
                case rel => exact ⟨k + 1, m, by omega, by omega, by go_num, rfl, rfl, HN2.out, HL.out, hg2.out⟩
                case measure => simp [intOf]; omega
    · have hlt' : (bs.length : Int) ≤ k := by omega
      have hnG' : (n : Int) ≤ G := by omega
      have HNK := hid hn
      have hdr : Hid (bs.drop k = []) := hid (List.drop_eq_nil_of_le (by omega))
      clear hn hnG hlt
      go_wp2_with fail
      go_ret
      have hb := read_bad hr0.out HGG.out (HG.out.trans (by rw [hdr.out]; exact Var.get_nil _ _ _)) (by decide)
      exact ⟨ret_u64 hb.1, hb.2⟩
end Go.Proofs.Ytbhpfdpcafdeaaa

