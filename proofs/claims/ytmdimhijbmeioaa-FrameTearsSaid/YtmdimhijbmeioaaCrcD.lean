/- CONTRACTS: marked bytes, bytes of which one is turned. -/
import Derived.Test.YtmdimhijbmeioaaCrcC
import Derived.Test.YtmdimhijbmeioaaClone
namespace Go.Proofs.Ytmdimhijbmeioaa
open Go.RowKit Go.Inc

/-- Bytes, and their sum behind them. -/
def mark (bs : List Nat) : List Nat := bs ++ low (Crc.sum bs)
theorem mark_len (bs : List Nat) : (mark bs).length = bs.length + 4 := by simp [mark, low]
theorem mark_bytes {bs : List Nat} (h : Bytes bs) : Bytes (mark bs) := h.append (low_bytes (Crc.sum_lt bs h))
theorem four_zero : ((Try.prog.info? 64).bind (·.zero)).map (·.cells) = some #[.int .u8 0, .int .u8 0, .int .u8 0, .int .u8 0] := by kernel_rfl

theorem _root_.Go.World.ownsRow.weaken {w : World} {b b' e s n : Nat} {v : Value} {x : List Value} (h : w.ownsRow b e s v n x) (hb : b' ≤ b) : w.ownsRow b' e s v n x :=
  ⟨h.1, h.2.imp id fun ⟨g, cap, cur, h1, h2, r⟩ => ⟨g, cap, cur, h1, Nat.le_trans hb h2, r⟩⟩
set_option maxHeartbeats 1000000 in
theorem mark_any (ok : Nat → Prop) (a : Option Addr) (c : Nat) (bs : List Nat) (w : World) (hs : Sl ok w a bs) (hb : Bytes bs) (hc : bs.length ≤ c ∧ c ≤ maxLen) (hl : bs.length ≤ 1000000) :
    Calls Try.prog 18 #[.slice a bs.length c] w fun e w' => ∃ v, e = .returned v ∧ w'.ownsRow w.heap.size 5 1 v (mark bs).length (u8s (mark bs)) ∧ Below w.heap.size w w' := by
  have HS := hid hs
  have HPx := Pt.one hs hb c hc 22
  have hflat : Hid ([bs].flatten = bs) := hid (by simp)
  have H4 := hid (sum_any _ 1 _ _ _ HPx (by show [bs].flatten.length ≤ _; rw [hflat.out]; omega) (by simp))
  have hbx := hid ((Below.refl w.heap.size w).alloc (Nat.le_refl _) (.cells #[.slice a bs.length c] 22))
  clear HPx hs
  go_enter Try.func18, Try.ntmps18
  go_wp2_with fail
  refine H4.out.mono ?_
  rintro e w1 ⟨rfl, hb1⟩
  rw [hflat.out]
  have hb01 := hid (hbx.out.trans (hb1.mono hbx.out.size))
  have hsl := Crc.sum_lt bs hb
  have hlb := hid (low_bytes hsl)
  have hmk : Hid (mark bs = bs ++ low (Crc.sum bs)) := hid rfl
  have hml := hid (mark_len bs)
  generalize hmkk : mark bs = mk at *
  have HMK := hid hmkk
  clear hmkk
  generalize Crc.sum bs = n at *
  have H5 := hid (ending_any n w1 hsl)
  clear hb1 H4 hbx
  go_wp2_with fail
  refine H5.out.mono ?_
  rintro e w2 ⟨rfl, hb2⟩
  have hb02 := hid (hb01.out.trans (hb2.mono hb01.out.size))
  clear hb2 H5 hb01
  have hll : Hid ((low n).length = 4) := hid rfl
  generalize low n = ln at *
  have hs4 : (u8s ln).toArray.size = 4 := by rw [List.size_toArray, u8s_length, hll.out]
  have hi4 : Hid ((Try.prog.info? 64).map (·.size) = some (u8s ln).toArray.size) := hid (by rw [hs4]; kernel_rfl)
  have ho4 : Hid ((#[.int .u8 0, .int .u8 0, .int .u8 0, .int .u8 0] : Array Value).size = (u8s ln).toArray.size) := hid (by rw [hs4]; rfl)
  have hall : Hid ((u8s ln).toArray.all (·.oneCell') = true) := hid (by rw [List.all_toArray, List.all_eq_true]; exact u8s_one ln)
  clear hs4
  go_wp2_with (refine wpList_alloc_own rfl 64 rfl _ four_zero ?_)
  intro w3 hrow3 hb3
  go_wp2_with (refine wpList_store_own rfl 64 _ _ rfl w2.heap.size (u8s ln).toArray rfl rfl 64 _ hrow3 hi4.out ho4.out hall.out ?_)
  intro w4 hrow4 hg4
  have hsl4 := Sl.row ln hrow4
  have hb04 := below_grown (hb02.out.trans (hb3.mono hb02.out.size)) hg4 hb02.out.size (Nat.le_trans hb02.out.size hb3.size)
  have HS4 := (HS.out.mono (fun _ _ h => h)).below hb04
  have hw : w.heap.size ≤ w4.heap.size := hb04.size
  have hPt := Parts.two (ok := fun b => b < w.heap.size ∨ b = w2.heap.size) (HS4.mono fun b h _ => .inl h) (hsl4.mono fun b h _ => .inr h) c 4 hc ⟨by rw [hll.out]; omega, by unfold maxLen; omega⟩ 22
  have htot : Hid (totC [bs, ln] = mk.length) := hid (by rw [hmk.out]; simp [totC])
  have hfl : Hid ([bs, ln].flatten = mk) := hid (by rw [hmk.out]; simp)
  have H6 := hid (concat_some _ w4.heap.size 0 2 [bs, ln] _ _ _ hPt (by simp) (by rw [htot.out, hml.out]; omega))
  have hb05 := hid (hb04.alloc hw (.cells #[.slice a bs.length c, .slice (some ⟨w2.heap.size, 0, none⟩) ln.length 4] 22))
  have hll2 := hll.out
  clear hPt HS4 hsl4 hrow4 hg4 hb04 hrow3 hb3 hi4 ho4 hall hll
  have H7 := H6.out
  rw [hll2, htot.out, hfl.out] at H7
  rw [hll2] at hb05
  have H8 := hid H7
  clear H6 H7 hll2
  go_wp2_with fail
  refine H8.out.mono ?_
  rintro e w5 ⟨v, rfl, hv, hb5⟩
  go_wp2_with fail
  go_ret
  refine ⟨v, rfl, ?_, hb05.out.trans (hb5.mono hb05.out.size)⟩
  rw [HMK.out]; exact hv.weaken hb05.out.size

/-- The bits of 'by' turned in the byte at that place, if there is such a place. -/
def turned (bs : List Nat) (at_ : Int) (b : Nat) : List Nat := if 0 ≤ at_ ∧ at_ < bs.length then bs.set at_.toNat (bs.getD at_.toNat 0 ^^^ b) else bs
theorem turned_len (bs : List Nat) (at_ : Int) (b : Nat) : (turned bs at_ b).length = bs.length := by unfold turned; split <;> simp
theorem turned_bytes {bs : List Nat} (h : Bytes bs) (at_ : Int) {b : Nat} (hb : b < 256) : Bytes (turned bs at_ b) := by
  unfold turned
  split
  · intro x hx
    rcases List.mem_or_eq_of_mem_set hx with h1 | h1
    · exact h x h1
    · rw [h1]; exact Nat.xor_lt_two_pow (n := 8) (h.getD _) hb
  · exact h
theorem turned_in {bs : List Nat} {k b : Nat} (h : k < bs.length) : turned bs k b = bs.set k (bs.getD k 0 ^^^ b) := by unfold turned; rw [if_pos (by omega)]; rfl
theorem turned_out {bs : List Nat} {at_ : Int} {b : Nat} (h : at_ < 0 ∨ (bs.length : Int) ≤ at_) : turned bs at_ b = bs := by unfold turned; rw [if_neg (by omega)]

theorem u8s_get {bs : List Nat} {k : Nat} (h : k < bs.length) : (u8s bs)[k]? = some (.int .u8 ((bs.getD k 0 : Nat) : Int)) := by
  rw [List.getD_eq_getElem?_getD, List.getElem?_eq_getElem h]
  simp [u8s, h]
theorem u8s_set (bs : List Nat) (k x : Nat) : (u8s bs).set k (.int .u8 (x : Int)) = u8s (bs.set k x) := by
  simp [u8s, List.map_set]
set_option maxHeartbeats 1000000 in
theorem turn_in (ok : Nat → Prop) (a : Option Addr) (c : Nat) (bs : List Nat) (k b : Nat) (w : World) (hs : Sl ok w a bs) (hbb : bs.length ≤ 140737488355328) (hn : a = none → c = 0) (hby : Bytes bs) (hk : (k : Int) < bs.length) (hb : b < 256) :
    Calls Try.prog 24 #[.slice a bs.length c, .int .i64 (k : Int), .int .u8 (b : Int)] w fun e w' => ∃ v, e = .returned v ∧ w'.ownsRow w.heap.size 5 1 v bs.length (u8s (turned bs k b)) ∧ Below w.heap.size w w' := by
  have H := hid (clone_any ok a c bs w hs hbb hn)
  have hx : Hid (bits .xor .u8 ((bs.getD k 0 : Nat) : Int) (b : Int) = ((bs.getD k 0 ^^^ b : Nat) : Int)) := hid (u8_xor_nat _ _ (hby.getD k) hb)
  have hxl : bs.getD k 0 < 256 := hby.getD k
  have ht := hid (turned_in (b := b) (show k < bs.length by omega))
  clear hs
  go_enter Try.func24, Try.ntmps24
  go_wp2_with fail
  refine H.out.mono ?_
  clear H
  rintro e w1 ⟨v, rfl, hv, hb1⟩
  rcases hv.2 with ⟨rfl, h0⟩ | ⟨g, cap, cur, rfl, hg, hrow, hnc, hm, hcs, htk⟩
  · omega
  · have hcell := hv.cells (g := g) rfl k (.int .u8 ((bs.getD k 0 : Nat) : Int)) (u8s_get (by omega))
    rw [Addr.add_lit] at hcell
    have hfz := frozen_of_row w1 g k _ _ hrow
    have hst := hid (hv.stored k (.int .u8 ((bs.getD k 0 ^^^ b : Nat) : Int)))
    have HV := hid hv
    clear hv htk hcs
    simp only [Nat.zero_add] at hcell
    have hk2 : (k : Int) < (bs.length : Int) := hk
    generalize bs.getD k 0 = x at *
    have hb2 : Hid (Below w.heap.size w (w1.setCell ⟨g, k, none⟩ (.int .u8 ((x ^^^ b : Nat) : Int)))) := hid (hb1.setCell (p := ⟨g, k, none⟩) hg _)
    go_wp2_with fail
    go_ret
    refine ⟨_, rfl, ?_, ?_⟩
    · rw [hx.out, ht.out, ← u8s_set]; exact hst.out.1
    · rw [hx.out]; exact hb2.out

theorem turn_out (ok : Nat → Prop) (a : Option Addr) (c : Nat) (bs : List Nat) (k : Int) (b : Int) (w : World) (hs : Sl ok w a bs) (hbb : bs.length ≤ 140737488355328) (hn : a = none → c = 0) (hk : k < 0 ∨ (bs.length : Int) ≤ k) :
    Calls Try.prog 24 #[.slice a bs.length c, .int .i64 k, .int .u8 b] w fun e w' => ∃ v, e = .returned v ∧ w'.ownsRow w.heap.size 5 1 v bs.length (u8s bs) ∧ Below w.heap.size w w' := by
  have H := hid (clone_any ok a c bs w hs hbb hn)
  clear hs
  rcases hk with hk | hk
  · have h0 : decide ((0 : Int) ≤ k) = false := by rw [decide_eq_false_iff_not]; omega
    go_enter Try.func24, Try.ntmps24
    go_wp2_with fail
    refine H.out.mono ?_
    clear H
    rintro e w1 ⟨v, rfl, hv, hb1⟩
    have HV := hid hv
    clear hv
    go_wp2_with fail
    go_ret
    exact ⟨_, rfl, HV.out, hb1⟩
  · have h0 : (0 : Int) ≤ k := by omega
    go_enter Try.func24, Try.ntmps24
    go_wp2_with fail
    refine H.out.mono ?_
    clear H
    rintro e w1 ⟨v, rfl, hv, hb1⟩
    obtain ⟨a1, c1, rfl, hl, _, _⟩ := Sl.owned hv
    have HV := hid hv
    clear hv hl
    go_wp2_with fail
    go_ret
    exact ⟨_, rfl, HV.out, hb1⟩

/-- Turn, at whatever place. -/
theorem turn_any (ok : Nat → Prop) (a : Option Addr) (c : Nat) (bs : List Nat) (k : Int) (b : Nat) (w : World) (hs : Sl ok w a bs) (hbb : bs.length ≤ 140737488355328) (hn : a = none → c = 0) (hby : Bytes bs) (hb : b < 256) :
    Calls Try.prog 24 #[.slice a bs.length c, .int .i64 k, .int .u8 (b : Int)] w fun e w' => ∃ v, e = .returned v ∧ w'.ownsRow w.heap.size 5 1 v (turned bs k b).length (u8s (turned bs k b)) ∧ Below w.heap.size w w' := by
  rw [turned_len]
  by_cases h : k < 0 ∨ (bs.length : Int) ≤ k
  · rw [turned_out h]
    exact turn_out ok a c bs k b w hs hbb hn h
  · obtain ⟨m, rfl⟩ := Int.eq_ofNat_of_zero_le (show 0 ≤ k by omega)
    exact turn_in ok a c bs m b w hs hbb hn hby (by omega) hb
end Go.Proofs.Ytmdimhijbmeioaa

