/- CONTRACTS: a frame's bytes; two frames, the same? (the program's); the document's. -/
import Derived.Test.YtmdimhijbmeioaaFrB
import Derived.Test.YtmdimhijbmeioaaFrE
import Derived.Test.YtmdimhijbmeioaaFrA
import Derived.Test.YtmdimhijbmeioaaSame
import Derived.Test.YtmdimhijbmeioaaCrcD
namespace Go.Proofs.Ytmdimhijbmeioaa
open Go.RowKit Go.Inc

theorem chk_small (f : Fr) : chk f ≤ 13 := by
  unfold chk
  repeat' split
  all_goals omega
/-- What Encode answers: its error, and the bytes where there is none. -/
def EncAns (f : Fr) (B : Nat) (r : Ending) (w' : World) : Prop := ∃ v, r = .returned (.tuple #[v, .int .i64 (chk f : Nat)]) ∧ Bb (fun b => B ≤ b) w' v (if chk f = 0 then enc f else [])
set_option maxHeartbeats 2000000 in
theorem encode_any (ok : Nat → Prop) (k e p : Int) (a : Option Addr) (c : Nat) (bs : List Nat) (w : World) (hs : Sl ok w a bs) (hby : Bytes bs) (hc : bs.length ≤ c ∧ c ≤ maxLen) (hn : a = none → c = 0) :
    Calls Try.prog 10 #[.agg #[.int .i64 k, .int .i64 e, .int .i64 p, .slice a bs.length c]] w fun r w' => EncAns ⟨k, e, p, bs⟩ w.heap.size r w' ∧ Below w.heap.size w w' := by
  have hb := (Below.refl w.heap.size w).alloc (Nat.le_refl _) (.cells #[.int .i64 k, .int .i64 e, .int .i64 p, .slice a bs.length c] 25)
  have HC := hid (check_any k e p a c bs (w.alloc (.cells #[.int .i64 k, .int .i64 e, .int .i64 p, .slice a bs.length c] 25)))
  have HSL := hid (hs.below hb)
  have HB := hid hb
  have HROW := hid (heap_alloc_new w (.cells #[.int .i64 k, .int .i64 e, .int .i64 p, .slice a bs.length c] 25))
  have HBY := hid hby
  have HCC := hid hc
  have HN := hid hn
  clear hs hby hc hn hb
  go_enter Try.func10, Try.ntmps10
  go_wp2_with fail
  refine HC.out.mono ?_
  rintro r w1 ⟨rfl, hb1⟩
  have HSL1 := hid (HSL.out.below hb1)
  have HB1 : Hid (Below w.heap.size w w1) := hid (HB.out.trans (hb1.mono HB.out.size))
  have hrow1 : w1.heap[w.heap.size]? = _ := row_below HROW.out hb1
  clear HSL HB HROW hb1 HC
  have c0 := cell_of_row w1 _ 0 _ _ _ hrow1
  have c1 := cell_of_row w1 _ 1 _ _ _ hrow1
  have c2 := cell_of_row w1 _ 2 _ _ _ hrow1
  have c3 := cell_of_row w1 _ 3 _ _ _ hrow1
  have HF : Hid (chk ⟨k, e, p, bs⟩ = 0 → Fr.ok ⟨k, e, p, bs⟩) := hid (chk_zero _).1
  have HA : Hid (∀ w' v, Bb (fun b => w.heap.size ≤ b) w' v (if chk ⟨k, e, p, bs⟩ = 0 then enc ⟨k, e, p, bs⟩ else []) → EncAns ⟨k, e, p, bs⟩ w.heap.size (.returned (.tuple #[v, .int .i64 (chk ⟨k, e, p, bs⟩ : Nat)])) w') := hid fun w' v h => ⟨v, rfl, h⟩
  generalize chk ⟨k, e, p, bs⟩ = q at *
  clear hrow1
  by_cases hq : q = 0
  · subst hq
    have HL := hid (lay_any ok k e p a c bs w1 (HF.out rfl) HSL1.out HBY.out HCC.out HN.out)
    have hlb : Bytes (laid ⟨k, e, p, bs⟩) := laid_bytes HBY.out
    have hll : (laid ⟨k, e, p, bs⟩).length = 252 := laid_len (HF.out rfl).2.2.2.2.2.2
    have HE : Hid (enc ⟨k, e, p, bs⟩ = mark (laid ⟨k, e, p, bs⟩)) := hid rfl
    have HLB := hid hlb
    have HLL := hid hll
    clear hlb hll
    go_wp2_with fail
    refine HL.out.mono ?_
    rintro r w2 ⟨v, rfl, hv, hb2⟩
    obtain ⟨a2, c2', rfl, hn2, hc2, hm2, hs2⟩ := hv.sl
    have HM := hid (mark_any _ a2 c2' _ w2 hs2 HLB.out ⟨hc2, hm2⟩ (by rw [HLL.out]; decide))
    have HB2 : Hid (Below w.heap.size w w2) := hid (HB1.out.trans (hb2.mono HB1.out.size))
    clear hv hs2 hb2 HL hn2 hc2 hm2 c0 c1 c2 c3
    go_wp2_with fail
    refine HM.out.mono ?_
    rintro r w3 ⟨v3, rfl, hv3, hb3⟩
    have hv3' : Row 5 w2.heap.size w3 v3 (enc ⟨k, e, p, bs⟩) := by rw [HE.out]; exact hv3
    have HV3 := hid (hv3'.bb.mono (ok' := fun b => w.heap.size ≤ b) fun b h _ => Nat.le_trans HB2.out.size h)
    have HB3 : Hid (Below w.heap.size w w3) := hid (HB2.out.trans (hb3.mono HB2.out.size))
    clear hv3 hv3' hb3 HM
    go_wp2_with fail
    go_ret2
    exact ⟨HA.out w3 v3 (by simp only [if_true]; exact HV3.out), HB3.out⟩
  · have hq1 : ((q : Int) != 0) = true := by rw [bne_iff_ne]; omega
    have HQ := hid hq
    clear hq
    go_wp2_with fail
    go_ret2
    exact ⟨HA.out _ _ (by rw [if_neg HQ.out]; exact ⟨none, 0, rfl, Sl.nil _ _ _, Nat.le_refl _, Nat.zero_le _, fun _ => rfl⟩), HB1.out⟩
end Go.Proofs.Ytmdimhijbmeioaa
