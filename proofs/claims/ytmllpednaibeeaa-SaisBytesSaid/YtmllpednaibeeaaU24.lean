/- CONTRACTS (sais, as it landed): Bytes; what the law of documents asks. -/
import Derived.Test.YtmllpednaibeeaaU16
import Derived.Test.YtmllpednaibeeaaU22
import Derived.Test.YtmllpednaibeeaaU23
namespace Go.Proofs.Ytmllpednaibeeaa
open Go.RowKit Go.Inc
theorem spBytes (ok : Nat → Prop) (w : World) (a : Option Addr) (c : Nat) (ds : List (List Nat)) (hs : Pt ok w a ds) (hl : (txtD ds).length ≤ 60000) :
    Calls Try.prog 23 #[.slice a ds.length c] w fun e w' => ∃ u, e = .returned (.tuple #[u, .int .i64 0]) ∧ So (fun g => w.heap.size ≤ g) w' u (zsN (srT (zsN (txtD ds ++ [0])) (txtD ds ++ [0]).length)) ∧ Below w.heap.size w w' := by
  have HT := hid (pText_any ok w a c ds hs (by omega))
  have hck : ckT (zsN (txtD ds ++ [0])) = 0 := ckT_made3 (by omega) (txtD_codes hs.1)
  have HO : Hid (∀ (w1 : World) (u1 : Value), So (fun g => w.heap.size ≤ g) w1 u1 (zsN (txtD ds ++ [0])) → Calls Try.prog 9 #[u1] w1 fun e w' => ∃ u, e = .returned (.tuple #[u, .int .i64 0]) ∧ So (fun g => w1.heap.size ≤ g) w' u (zsN (srT (zsN (txtD ds ++ [0])) (txtD ds ++ [0]).length)) ∧ Below w1.heap.size w1 w') := hid fun w1 u1 hu => by
    have h1 := spOrder _ w1 u1 _ hu (by rw [zsN_len, List.length_append, List.length_singleton]; omega) hck
    rw [zsN_len] at h1
    exact h1
  have HZ : Hid (zsN (txtD ds ++ [0]) = nZ (txtD ds ++ [0])) := hid rfl
  have HP : Hid (nZ (txtD ds ++ [0]) ≠ []) := hid (by unfold nZ; simp)
  generalize zsN (srT (zsN (txtD ds ++ [0])) (txtD ds ++ [0]).length) = R at *
  have HM : Hid ((zsN (txtD ds ++ [0])).length = (txtD ds ++ [0]).length) := hid (zsN_len _)
  generalize zsN (txtD ds ++ [0]) = X at *
  generalize nZ (txtD ds ++ [0]) = Y at *
  generalize (txtD ds ++ [0]).length = m at *
  generalize ds.length = n at *
  clear hs hl hck
  go_enter Try.func23, Try.ntmps23
  go_wp2_with fail
  refine HT.out.mono ?_
  rintro e w1 ⟨u, cu, rfl, hu, hb, hc1, hc2⟩
  have HB := hid hb
  have hso : So (fun g => w.heap.size ≤ g) w1 (.slice u m cu) X := ⟨u, cu, by rw [HM.out], by rw [HZ.out]; exact hu, by rw [HM.out]; exact hc1, hc2, fun e => by
    subst e
    rcases hu with h | ⟨b, o, h, -⟩
    · exact absurd h HP.out
    · cases h⟩
  have HN := hid (HO.out w1 _ hso)
  clear hb hu HT HO hso
  go_wp2_with fail
  refine HN.out.mono ?_
  rintro e w2 ⟨u2, rfl, hu, hb⟩
  have HR := hid (So.mono hu fun b hb _ => Nat.le_trans HB.out.size hb : So (fun g => w.heap.size ≤ g) w2 u2 R)
  have HB2 := hid (HB.out.trans (hb.mono HB.out.size))
  clear hb hu HN HB
  go_wp2_with fail
  go_ret2
  exact ⟨_, rfl, HR.out, HB2.out⟩
theorem pb : PB17 where
  bKnown x := known17_any ps x
  bBytes ok w a c ds hs _ hl := spBytes ok w a c ds hs hl
  bOrder ok w v zs h hl hk := ps.pOrder ok w v zs h hl hk
  bRight ok ok' w v v' zs ls h h' hl hz hl' hz' := ps.pRight ok ok' w v v' zs ls h h' hl hz hl' hz'
end Go.Proofs.Ytmllpednaibeeaa
