/- CONTRACTS OF THE LAWS' HELPERS: a page filled up; keeps; the example. -/
import Derived.Test.YtmdimhijbmeioaaDevM
namespace Go.Proofs.Ytmdimhijbmeioaa
open Go.RowKit Go.Inc

def fillTo (bs : List Nat) (k : Nat) : List Nat := bs.take k ++ List.replicate (256 - k) 0
def fill (bs : List Nat) : List Nat := fillTo bs (min bs.length 256)
theorem fillTo_len {bs : List Nat} {k : Nat} (h1 : k ≤ bs.length) (h2 : k ≤ 256) : (fillTo bs k).length = 256 := by unfold fillTo; simp; omega
theorem fill_len (bs : List Nat) : (fill bs).length = 256 := fillTo_len (by omega) (by omega)
theorem fillTo_set {bs : List Nat} {k : Nat} (h1 : k < bs.length) (h2 : k < 256) : (fillTo bs k).set k (bs.getD k 0) = fillTo bs (k + 1) := by
  unfold fillTo
  rw [take_snoc h1, List.set_append]
  rw [List.length_take, Nat.min_eq_left (by omega), if_neg (by omega), Nat.sub_self]
  obtain ⟨m, hm⟩ : ∃ m, 256 - k = m + 1 := ⟨255 - k, by omega⟩
  have hm' : 256 - (k + 1) = m := by omega
  rw [hm, hm', List.replicate_succ, List.set_cons_zero, List.append_assoc]
  rfl

set_option maxRecDepth 20000 in
set_option maxHeartbeats 1000000 in
theorem full_any (ok : Nat → Prop) (a : Option Addr) (c : Nat) (bs : List Nat) (w : World) (hs : Sl ok w a bs) (hl : bs.length ≤ 9223372036854775807) :
    Calls Try.prog 19 #[.slice a bs.length c] w fun e w' => e = .returned (.slice (some ⟨w.heap.size, 0, none⟩) 256 256) ∧ w'.ownsRow w.heap.size 5 1 (.slice (some ⟨w.heap.size, 0, none⟩) 256 256) 256 (u8s (fill bs)) ∧ Below w.heap.size w w' := by
  obtain ⟨i0, hi, hz0, hz1, hz2⟩ := info_parts infoU8
  have HI := hid (And.intro hi (And.intro hz0 (And.intro hz1 hz2)))
  have HS := hid hs
  clear hi hz0 hz1 hz2 hs
  obtain ⟨n, hn⟩ : ∃ n, n = bs.length := ⟨_, rfl⟩
  rw [← hn] at hl ⊢
  have HN := hid hn
  clear hn
  go_enter Try.func19, Try.ntmps19
  go_wp2_with (at_make; refine wpList_make_full _ rfl _ _ 22 rfl w.heap.size 5 i0 (.int .u8 0) 1 Try.underlying22 HI.out.1 HI.out.2.1 HI.out.2.2.1 .i64 .i64 _ _ 256 rfl rfl rfl rfl (by rw [HI.out.2.2.2]; omega) (by unfold maxLen; omega) (Nat.le_refl _) ?_)
  intro w1 hown hg
  rw [madeU8] at hown
  have HR : Hid (w1.ownsRow w.heap.size 5 1 (.slice (some ⟨w.heap.size, 0, none⟩) 256 256) 256 (u8s (fillTo bs 0))) := hid hown
  have HB1 : Hid (Below w.heap.size w w1) := hid ⟨hg.os, hg.tape, hg.output, hg.size, fun i hi => hg.block i hi (by simp)⟩
  clear hown hg
  go_wp2_with fail
  go_loopw [4] (fun i wr => ∃ k : Nat, k ≤ n ∧ k ≤ 256 ∧ i = .int .i64 (k : Int) ∧ wr.ownsRow w.heap.size 5 1 (.slice (some ⟨w.heap.size, 0, none⟩) 256 256) 256 (u8s (fillTo bs k)) ∧ Below w.heap.size w wr) (fun i _ => n - (intOf i).toNat)
  case atStart => exact ⟨0, Nat.zero_le _, Nat.zero_le _, rfl, HR.out, HB1.out⟩
  case round =>
    obtain ⟨k, hk, hk2, rfl, hr, hb⟩ := hrel
    have HRR := hid hr
    have HBB := hid hb
    by_cases hlt : (k : Int) < n
    · by_cases hlt2 : (k : Int) < 256
      · rcases HS.out with h0 | ⟨b, off, rfl, _, hc⟩
        · have := HN.out; rw [h0] at this; simp at this; omega
        have hcell0 := hc k (by rw [← HN.out]; omega)
        have hcb : wr.cell? ⟨b, off + k, none⟩ = _ := (hb.cell (cell_lt hcell0)).trans hcell0
        have hcell := hr.cells (g := w.heap.size) rfl k (.int .u8 (((fillTo bs k).getD k 0 : Nat) : Int)) (u8s_get (by rw [fillTo_len (by rw [← HN.out]; exact hk) hk2]; omega))
        rw [Addr.add_lit] at hcell
        simp only [Nat.zero_add] at hcell
        have hfz : wr.frozen? ⟨w.heap.size, k, none⟩ = false := hr.frozenAt k
        have hst := hid (hr.stored k (.int .u8 ((bs.getD k 0 : Nat) : Int)))
        have hset := hid (fillTo_set (bs := bs) (k := k) (by rw [← HN.out]; omega) (by omega))
        have HB2 := hid (hb.setCell (p := ⟨w.heap.size, k, none⟩) (Nat.le_refl _) (.int .u8 ((bs.getD k 0 : Nat) : Int)))
        generalize bs.getD k 0 = x at *
        generalize (fillTo bs k).getD k 0 = old at *
        clear hr hb hcell0 hc
        have hm : n - (k + 1) < n - k := by omega
        go_wp2_with fail
        go_roundw
        case rel =>
          refine ⟨k + 1, by omega, by omega, by go_num, ?_, HB2.out⟩
          rw [← hset.out, ← u8s_set]; exact hst.out.1
        case measure => simp [intOf]; omega
      · have hd : (256 : Int) ≤ k := by omega
        have hk256 : Hid (fillTo bs k = fill bs) := hid (by unfold fill; rw [Nat.min_eq_right (by rw [← HN.out]; omega)]; congr 1; omega)
        clear hlt2 hr hb
        go_wp2_with fail
        go_ret
        exact ⟨rfl, by rw [← hk256.out]; exact HRR.out, HBB.out⟩
    · have hd : (n : Int) ≤ k := by omega
      have hkn : Hid (fillTo bs k = fill bs) := hid (by unfold fill; rw [Nat.min_eq_left (by rw [← HN.out]; omega), ← HN.out]; congr 1; omega)
      clear hlt hr hb
      go_wp2_with fail
      go_ret
      exact ⟨rfl, by rw [← hkn.out]; exact HRR.out, HBB.out⟩
end Go.Proofs.Ytmdimhijbmeioaa

