/- CONTRACTS: a list at the beginning of any bytes, and the rest. -/
import Derived.Test.YtbhpfdpcafdeaaaVarT
import Derived.OwnWalk
namespace Go.Proofs.Ytbhpfdpcafdeaaa
open Go.RowKit Go.Inc

/-- Numbers one behind the other: the error, the numbers, the rest. -/
def manyErr : Nat → List Nat → Nat
  | 0, _ => 0
  | n + 1, bs => if Var.err 9223372036854775807 bs ≠ 0 then Var.err 9223372036854775807 bs else manyErr n (bodyOf bs)
def manyVals : Nat → List Nat → List Nat
  | 0, _ => []
  | n + 1, bs => Var.val 9223372036854775807 bs :: manyVals n (bodyOf bs)
def manyRest : Nat → List Nat → List Nat
  | 0, bs => bs
  | n + 1, bs => manyRest n (bodyOf bs)
theorem many_good {n : Nat} {bs : List Nat} (h : Var.err 9223372036854775807 bs = 0) : manyErr (n + 1) bs = manyErr n (bodyOf bs) := by
  rw [manyErr, if_neg (by simpa using h)]
theorem many_bad {n : Nat} {bs : List Nat} (h : Var.err 9223372036854775807 bs ≠ 0) : manyErr (n + 1) bs = Var.err 9223372036854775807 bs := by
  rw [manyErr, if_pos h]

/-- A list: its error, its numbers, the rest. -/
def listErr (bs : List Nat) : Nat :=
  if Var.err 9223372036854775807 bs ≠ 0 then Var.err 9223372036854775807 bs else if 65536 < Var.val 9223372036854775807 bs then 2 else manyErr (Var.val 9223372036854775807 bs) (bodyOf bs)
def listVals (bs : List Nat) : List Nat := if listErr bs = 0 then manyVals (Var.val 9223372036854775807 bs) (bodyOf bs) else []
def listRest (bs : List Nat) : List Nat := if listErr bs = 0 then manyRest (Var.val 9223372036854775807 bs) (bodyOf bs) else []

def lenOf' : Value → Nat
  | .slice _ n _ => n
  | _ => 0
def i64s (vs : List Nat) : List Value := vs.map fun x : Nat => Value.int .i64 (x : Int)
/-- A slice of numbers in a row of the call's own. -/
def IRow (B : Nat) (w : World) (v : Value) (vs : List Nat) : Prop := w.ownsRow B 3 1 v vs.length (i64s vs)
theorem irow_one {w : World} {B n m : Nat} {v : Value} {vs : List Nat} {x : Nat} (h : w.ownsRow B 3 1 v (n + m) (i64s vs ++ [.int .i64 (x : Int)])) (hn : n = vs.length) (hm : m = 1) : IRow B w v (vs ++ [x]) := by
  subst hn hm
  have : i64s (vs ++ [x]) = i64s vs ++ [.int .i64 (x : Int)] := by simp [i64s]
  unfold IRow
  rw [this, List.length_append]
  exact h
theorem infoInt : (Try.prog.info? 3).map (fun i => (i.zero, i.size, i.bytes)) = some (some (.int .i64 0), 1, 8) := by kernel_rfl

/-- A reader's bytes only get fewer. -/
theorem body_len (bs : List Nat) : (bodyOf bs).length ≤ bs.length := by unfold bodyOf; simp

/-- What a reader has behind a list. -/
def ListRd (bs : List Nat) (B g : Nat) (w : World) (e : Ending) (w' : World) : Prop :=
  ∃ v l, e = .returned v ∧ (listErr bs = 0 → IRow B w' v (listVals bs)) ∧ l.length ≤ bs.length ∧ restOf (listErr bs) l = listRest bs ∧ Rd (fun b => b < g) w' g l (listErr bs) ∧ Below g w w'

theorem Rd.grown {ok : Nat → Prop} {w w' : World} {g f : Nat} {bs : List Nat} {r : Option Nat} (hr : Rd ok w g bs f) (hg : w.grownBy w' r) (h1 : r ≠ some g) (h2 : ∀ b, ok b → r ≠ some b) : Rd ok w' g bs f := by
  obtain ⟨a, c, hrow, hs, h⟩ := hr
  exact ⟨a, c, row_grown hrow hg h1, hs.kept (fun b hb hlt => hg.block b hlt (fun e => h2 b hb e.symm)), h⟩
theorem read_rd {G g : Nat} {bs : List Nat} {w w' : World} {ok : Nat → Prop} (h : Read ok G g 0 bs w w') : Rd ok w' g (leftOf G bs) (Var.err G bs) := by
  have := h.1
  rwa [(tail_is _ _).2] at this

/-- Where the loop of a list stands: k numbers were read, the next ones are to come; or one was wrong. -/
def Mid (n : Nat) (body : List Nat) (k : Nat) (vs l : List Nat) (f : Nat) : Prop :=
  k ≤ n ∧ l.length ≤ body.length ∧ vs.length = k ∧ ((f = 0 ∧ manyErr n body = manyErr (n - k) l ∧ manyVals n body = vs ++ manyVals (n - k) l ∧ manyRest n body = manyRest (n - k) l) ∨ (f ≠ 0 ∧ manyErr n body = f))
theorem Mid.start (n : Nat) (body : List Nat) : Mid n body 0 [] body 0 := ⟨Nat.zero_le _, Nat.le_refl _, rfl, .inl ⟨rfl, rfl, rfl, rfl⟩⟩
theorem Mid.next {n k : Nat} {body vs l : List Nat} (h : Mid n body k vs l 0) (hk : k < n) : Mid n body (k + 1) (vs ++ [Var.val 9223372036854775807 l]) (leftOf 9223372036854775807 l) (Var.err 9223372036854775807 l) := by
  obtain ⟨h1, h2, h3, h | h⟩ := h
  · obtain ⟨_, he, hv, hr⟩ := h
    have hnk : n - k = (n - (k + 1)) + 1 := by omega
    rw [hnk] at he hv hr
    refine ⟨hk, Nat.le_trans (left_len _ _) h2, by simp [h3], ?_⟩
    by_cases h0 : Var.err 9223372036854775807 l = 0
    · left
      have hl : leftOf 9223372036854775807 l = bodyOf l := by unfold leftOf bodyOf; rw [if_pos h0]
      rw [hl]
      refine ⟨h0, by rw [he, many_good h0], ?_, by rw [hr]; rfl⟩
      rw [hv, manyVals, List.append_assoc]; rfl
    · right
      exact ⟨h0, by rw [he, many_bad h0]⟩
  · exact absurd rfl h.1

theorem Mid.stop {n k f : Nat} {body vs l : List Nat} (h : Mid n body k vs l f) (hk : f ≠ 0 ∨ k = n) : manyErr n body = f ∧ (f = 0 → manyVals n body = vs ∧ manyRest n body = l) := by
  obtain ⟨h1, h2, h3, ⟨hf, he, hv, hr⟩ | ⟨hf, he⟩⟩ := h
  · subst hf
    have : k = n := by omega
    subst this
    rw [Nat.sub_self] at he hv hr
    exact ⟨he, fun _ => ⟨by simpa [manyVals] using hv, hr⟩⟩
  · exact ⟨he, fun h => absurd h hf⟩
theorem left_bytes {G : Nat} {bs : List Nat} (h : Bytes bs) : Bytes (leftOf G bs) := by
  unfold leftOf; split
  · exact h.drop _
  · exact h
theorem irow_sl {B : Nat} {w : World} {v : Value} {vs : List Nat} (h : IRow B w v vs) : ∃ a c, v = .slice a vs.length c := by
  rcases h.2 with ⟨rfl, h0⟩ | ⟨g, cap, cur, rfl, _⟩
  · exact ⟨none, 0, by rw [h0]⟩
  · exact ⟨_, _, rfl⟩
theorem irow_past {g : Nat} {w : World} {v : Value} {vs : List Nat} (h : IRow (g + 1) w v vs) : v.ownBlock = none ∨ v.ownBlock ≠ some g := by
  cases hv : v.ownBlock with
  | none => exact .inl rfl
  | some k => right; intro e; cases e; have := (h.lt g hv).1; omega

set_option maxHeartbeats 2000000 in
theorem list_read (g : Nat) (bs : List Nat) (w : World) (hr : Rd (fun b => b < g) w g bs 0) (hby : Bytes bs) (hl : bs.length ≤ 70368744177664) :
    Calls Try.prog 53 #[.pointer (some ⟨g, 0, none⟩)] w (ListRd bs (g + 1) g w) := by
  have hgw : g < w.heap.size := by obtain ⟨a, c, h, _⟩ := hr; exact row_lt h
  have hok : ∀ b, b < g → b ≠ g := fun b h e => by omega
  have H := hid (plain_any _ g 0 bs w hr hok hby)
  have HGW := hid hgw
  have HL := hid hl
  have HOK := hid hok
  have HBY := hid hby
  clear hr hby hgw hl hok
  go_enter Try.func53, Try.ntmps53
  go_wp2_with fail
  refine H.out.mono ?_
  rintro e w1 ⟨rfl, hr1⟩
  have hb1 : Below g w w1 := grown_is_below hr1.2 (Nat.le_refl _) (Nat.le_of_lt HGW.out)
  have HGW1 : Hid (g < w1.heap.size) := hid (Nat.lt_of_lt_of_le HGW.out hr1.2.size)
  have HR := hid (read_rd hr1)
  have HB1 := hid hb1
  clear hr1 hb1 H
  have hv := Var.val_le 9223372036854775807 bs
  by_cases hbig : (65536 : Int) < (Var.val 9223372036854775807 bs : Nat)
  · -- above the greatest count
    have h0 : Var.err 9223372036854775807 bs = 0 := by
      by_cases h : Var.err 9223372036854775807 bs = 0
      · exact h
      · rw [Var.val_bad h] at hbig; omega
    have E2 : Hid (listErr bs = 2) := hid (by unfold listErr; rw [if_neg (by simpa using h0), if_pos (by omega)])
    have hr2 : Rd (fun b => b < g) w1 g (bodyOf bs) 0 := by
      have := HR.out
      rw [h0] at this
      unfold leftOf at this
      rw [if_pos h0] at this
      exact this
    obtain ⟨c1, fz⟩ := hr2.c1
    have HR3 := hid (hr2.fault HOK.out 2)
    clear h0 hr2 hv
    generalize Var.val 9223372036854775807 bs = v at *
    go_wp2_with fail
    go_ret
    refine ⟨_, bodyOf bs, rfl, (fun h => by rw [E2.out] at h; cases h), body_len bs, ?_, ?_, ?_⟩
    · unfold listRest; rw [E2.out]; rfl
    · rw [E2.out]; exact HR3.out
    · exact HB1.out.trans (grown_is_below (grown_setCell (grown_refl _ _) (.inl rfl) _) (Nat.le_refl _) (Nat.le_of_lt HGW1.out))
  · have hsm : ((Var.val 9223372036854775807 bs : Nat) : Int) ≤ 65536 := by omega
    clear hbig hv
    obtain ⟨a, c, hrow, hs, hc, hm, hn⟩ := HR.out
    have c0 : w1.cell? ⟨g, 0, none⟩ = some (.slice a (leftOf 9223372036854775807 bs).length c) := cell_of_row w1 g 0 _ _ _ hrow
    obtain ⟨c1, fz⟩ := HR.out.c1
    have HLL := hid (left_len 9223372036854775807 bs)
    have hll : ((leftOf 9223372036854775807 bs).length : Int) ≤ 70368744177664 := by have := HLL.out; have := HL.out; omega
    clear hrow hs hc hm hn
    have HLB0 := hid (left_bytes (G := 9223372036854775807) HBY.out)
    have HEV : Hid (Var.err 9223372036854775807 bs ≠ 0 → Var.val 9223372036854775807 bs = 0) := hid fun h => Var.val_bad h
    have HEL : Hid (Var.err 9223372036854775807 bs = 0 → leftOf 9223372036854775807 bs = bodyOf bs) := hid fun h => by unfold leftOf bodyOf; rw [if_pos h]
    have HLE : Hid (listErr bs = if Var.err 9223372036854775807 bs ≠ 0 then Var.err 9223372036854775807 bs else manyErr (Var.val 9223372036854775807 bs) (bodyOf bs)) := hid (by
      unfold listErr
      split
      · rfl
      · rw [if_neg (by omega)])
    have HLV : Hid (listVals bs = if listErr bs = 0 then manyVals (Var.val 9223372036854775807 bs) (bodyOf bs) else []) := hid rfl
    have HLR : Hid (listRest bs = if listErr bs = 0 then manyRest (Var.val 9223372036854775807 bs) (bodyOf bs) else []) := hid rfl
    generalize Var.val 9223372036854775807 bs = v at *
    generalize Var.err 9223372036854775807 bs = e0 at *
    generalize leftOf 9223372036854775807 bs = lf at *
    obtain ⟨m, hm⟩ : ∃ m : Nat, min (v : Int) (lf.length : Int) = (m : Int) := ⟨min v lf.length, by omega⟩
    have hmv : (m : Int) ≤ 65536 := by omega
    obtain ⟨i0, hi, hz0, hz1, hz2⟩ := info_parts infoInt
    have HI := hid (And.intro hi (And.intro hz0 (And.intro hz1 hz2)))
    clear hi hz0 hz1 hz2
    go_wp2_with (refine wpList_make_own _ rfl _ _ 23 rfl (g + 1) 3 i0 (.int .i64 0) 1 Try.underlying23 HI.out.1 HI.out.2.1 HI.out.2.2.1 .i64 .i64 _ m rfl rfl rfl (by rw [HI.out.2.2.2]; omega) (by unfold maxLen; omega) HGW1.out ?_)
    intro w2 hown hg2
    have HOW : Hid (IRow (g + 1) w2 (.slice (some ⟨w1.heap.size, 0, none⟩) 0 m) []) := hid hown
    have HR2 := hid (HR.out.grown hg2 (by simp) (by simp))
    have HB2 : Hid (Below g w w2) := hid (HB1.out.trans ⟨hg2.os, hg2.tape, hg2.output, hg2.size, fun i hi => hg2.block i (Nat.lt_trans hi HGW1.out) (by simp)⟩)
    have HGW2 : Hid (g < w2.heap.size) := hid (Nat.lt_of_lt_of_le HGW1.out hg2.size)
    clear hown hg2 c0 c1 fz hm HB1 HR HGW1
    go_wp2_with fail
    go_loopw [4] (fun v4 wr => ∃ (k f : Nat) (vs l : List Nat), IRow (g + 1) wr v4 vs ∧ Rd (fun b => b < g) wr g l f ∧ Below g w wr ∧ g < wr.heap.size ∧ l.length ≤ lf.length ∧ Bytes l ∧
      ((e0 ≠ 0 ∧ vs = [] ∧ f = e0) ∨ (e0 = 0 ∧ Mid v (bodyOf bs) k vs l f))) (fun v4 _ => v - lenOf' v4)
    case atStart =>
      refine ⟨0, e0, [], lf, HOW.out, HR2.out, HB2.out, HGW2.out, Nat.le_refl _, HLB0.out, ?_⟩
      by_cases h : e0 = 0
      · right
        refine ⟨h, ?_⟩
        rw [h, HEL.out h]
        exact Mid.start _ _
      · exact .inl ⟨h, rfl, rfl⟩
    case round =>
      clear HOW HR2 HB2 HGW2
      obtain ⟨k, f, vs, l, hir, hrd, hb, hgw, hll2, hlb, hmid⟩ := hrel
      have HLBY := hid hlb
      obtain ⟨a4, c4, rfl⟩ := irow_sl hir
      have HIR := hid hir
      have HRD := hid hrd
      have HB := hid hb
      have HGW3 := hid hgw
      have HLL2 := hid hll2
      have HMID := hid hmid
      obtain ⟨c1, fz⟩ := hrd.c1
      have hvl : vs.length ≤ v := by
        rcases hmid with ⟨_, rfl, _⟩ | ⟨_, h1, _, h3, _⟩
        · simp
        · omega
      have HVL := hid hvl
      clear hir hrd hb hgw hll2 hmid hvl hlb
      by_cases hgo : (vs.length : Int) < v ∧ f = 0
      · obtain ⟨hlt, hf⟩ := hgo
        subst hf
        have hmd : Mid v (bodyOf bs) k vs l 0 := by
          rcases HMID.out with ⟨h1, rfl, h2⟩ | ⟨_, h⟩
          · exact absurd h2.symm h1
          · exact h
        have hk : k = vs.length := hmd.2.2.1.symm
        subst hk
        have HMN := hid (hmd.next (by omega))
        have HE0 : Hid (e0 = 0) := hid (by
          rcases HMID.out with ⟨h1, _, h2⟩ | ⟨h, _⟩
          · exact h2.symm
          · exact h)
        have HLB : Hid (l.length ≤ 70368744177664) := hid (by have := HLL2.out; omega)
        have HP := hid (plain_any _ g 0 l wr HRD.out HOK.out HLBY.out)
        clear hmd HMID
        go_wp2_with fail
        refine HP.out.mono ?_
        rintro e w3 ⟨rfl, hr3⟩
        have HG3 := hid hr3.2
        have HR3 := hid (read_rd hr3)
        have HIR3 : Hid (IRow (g + 1) w3 (.slice a4 vs.length c4) vs) := hid (HIR.out.kept hr3.2 (irow_past HIR.out))
        have HLN := hid (left_len 9223372036854775807 l)
        have HLY := hid (left_bytes (G := 9223372036854775807) HLBY.out)
        clear hr3 c1 fz HP
        generalize Var.val 9223372036854775807 l = x at *
        generalize Var.err 9223372036854775807 l = f2 at *
        generalize leftOf 9223372036854775807 l = l2 at *
        have HW3 : Hid (g + 1 ≤ w3.heap.size) := hid (Nat.le_trans HGW3.out HG3.out.size)
        go_wp2_with (refine wpList_append_any rfl (.tmp 32) (.tmp 35) 23 rfl (g + 1) 3 (.int .i64 0) 8 Try.underlying23 infoInt rfl _ _ _ rfl (HIR3.out.alloc _) (some ⟨w3.heap.size, 0, none⟩) 1 1 _ rfl rfl (by intro h; cases h) (one_new w3 _ _) (by simp [Value.oneCell']) (by have := HVL.out; unfold maxLen; omega) (by have := HVL.out; omega) (by have := HW3.out; simp; omega) ?_)
        intro v36 w4 hv36 hg4 _
        have HV := hid (irow_one hv36 rfl rfl)
        have hb3 : Below g w w3 := HB.out.trans (grown_is_below HG3.out (Nat.le_refl _) (Nat.le_of_lt HGW3.out))
        have HR4 : Hid (Rd (fun b => b < g) w4 g l2 f2) := hid ((HR3.out.grown (World.grownBy_alloc w3 _ none) (by simp) (by simp)).grown hg4 (by
          intro e
          have := (HIR3.out.lt g e).1
          omega) (by
          intro b hb e
          have := (HIR3.out.lt b e).1
          omega))
        have HB4 : Hid (Below g w w4) := hid ((hb3.alloc (Nat.le_of_succ_le HW3.out) _).grown hg4 (by have := HW3.out; simp; omega) fun j hj => by have := (HIR3.out.lt j hj).1; omega)
        have HW4 : Hid (g < w4.heap.size) := hid (Nat.lt_of_lt_of_le HW3.out (Nat.le_trans (by simp) hg4.size))
        clear hv36 hg4 hb3
        go_wp2_with fail
        go_roundw
        case rel => exact ⟨vs.length + 1, f2, vs ++ [x], l2, HV.out, HR4.out, HB4.out, HW4.out, by have := HLN.out; have := HLL2.out; omega, HLY.out, .inr ⟨HE0.out, HMN.out⟩⟩
        case measure =>
          obtain ⟨a5, c5, h5⟩ := irow_sl HV.out
          simp [lenOf', h5]
          omega
      · have hend : listErr bs = f ∧ (f = 0 → listVals bs = vs ∧ listRest bs = l) := by
          rcases HMID.out with ⟨h1, rfl, rfl⟩ | ⟨h1, h2⟩
          · have h3 : listErr bs = f := by rw [HLE.out, if_pos h1]
            exact ⟨h3, fun h => absurd h h1⟩
          · have h3 := h2.stop (by
              by_cases hf : f = 0
              · right
                have := h2.1
                have := h2.2.2.1
                omega
              · exact .inl hf)
            have h4 : listErr bs = f := by rw [HLE.out, if_neg (by simpa using h1)]; exact h3.1
            refine ⟨h4, fun h => ?_⟩
            rw [HLV.out, HLR.out, h4, if_pos h, if_pos h]
            exact h3.2 h
        have HEND := hid hend
        clear hend HMID
        have fin : ∀ wx, wx = wr → ListRd bs (g + 1) g w (.returned (.slice a4 vs.length c4)) wx := by
          rintro wx rfl
          refine ⟨_, l, rfl, ?_, by have := HLL2.out; have := HLL.out; omega, ?_, ?_, HB.out⟩
          · intro h
            rw [(HEND.out.2 (HEND.out.1.symm.trans h)).1]
            exact HIR.out
          · rw [HEND.out.1]
            unfold restOf
            by_cases h : f = 0
            · rw [if_pos h, (HEND.out.2 h).2]
            · rw [if_neg h, HLR.out, HEND.out.1, if_neg h]
          · rw [HEND.out.1]; exact HRD.out
        have FIN := hid fin
        clear fin
        rcases (show (v : Int) ≤ vs.length ∨ ((vs.length : Int) < v ∧ ((f : Int) == 0) = false) by
          by_cases h : (vs.length : Int) < v
          · exact .inr ⟨h, by rw [beq_eq_false_iff_ne]; omega⟩
          · exact .inl (by omega)) with h1 | ⟨h1, h2⟩
        all_goals
          clear hgo
          go_wp2_with fail
          go_ret
          exact FIN.out _ rfl

/-- Three results, the first a slice of numbers. -/
def AnsL (us : List Nat) (f : Nat) (rest : List Nat) (B : Nat) (e : Ending) (w' : World) : Prop :=
  ∃ u v, e = .returned (.tuple #[u, v, .int .i64 (f : Int)]) ∧ IRow B w' u us ∧ Row 5 B w' v rest
theorem answerL_good (ok : Nat → Prop) (g : Nat) (u : Value) (bs : List Nat) (w : World) (hr : Rd ok w g bs 0) (hl : bs.length ≤ 70368744177664) :
    Calls Try.prog 52 #[.pointer (some ⟨g, 0, none⟩), u] w fun e w' => (∃ v, e = .returned (.tuple #[u, v, .int .i64 0]) ∧ Row 5 w.heap.size w' v bs) ∧ Below w.heap.size w w' := by
  have H := hid (apart_any ok g 0 bs w hr hl)
  obtain ⟨c1, fz⟩ := hr.c1
  clear hr
  go_enter Try.func52, Try.ntmps52
  go_wp2_with fail
  refine H.out.mono ?_
  rintro e w' ⟨u, rfl, hr, hb⟩
  have HR := hid hr
  clear hr
  go_wp2_with fail
  go_ret3
  exact ⟨⟨_, rfl, HR.out⟩, hb⟩
theorem answerL_bad (ok : Nat → Prop) (g f : Nat) (u : Value) (bs : List Nat) (w : World) (hr : Rd ok w g bs f) (hf : f ≠ 0) :
    Calls Try.prog 52 #[.pointer (some ⟨g, 0, none⟩), u] w fun e w' => e = .returned (.tuple #[.slice none 0 0, .slice none 0 0, .int .i64 (f : Int)]) ∧ Below w.heap.size w w' := by
  obtain ⟨c1, fz⟩ := hr.c1
  have hf1 : ((f : Int) != 0) = true := by rw [bne_iff_ne]; omega
  clear hr hf
  go_enter Try.func52, Try.ntmps52
  go_wp2_with fail
  go_quiet (fail)
  go_wp2_with fail
  go_ret3
  exact ⟨rfl, ⟨rfl, rfl, rfl, Nat.le_refl _, fun _ _ => rfl⟩⟩
theorem answerL_any (ok : Nat → Prop) (g f B : Nat) (u : Value) (us bs : List Nat) (w : World) (hr : Rd ok w g bs f) (hl : bs.length ≤ 70368744177664) (hu : f = 0 → IRow B w u us) (hB : B ≤ w.heap.size) :
    Calls Try.prog 52 #[.pointer (some ⟨g, 0, none⟩), u] w fun e w' => AnsL (if f = 0 then us else []) f (restOf f bs) B e w' ∧ Below w.heap.size w w' := by
  by_cases h : f = 0
  · subst h
    refine (answerL_good ok g u bs w hr hl).mono ?_
    rintro e w' ⟨⟨v, rfl, hv⟩, hb⟩
    have h' : w.grownBy w' none := ⟨hb.os, hb.tape, hb.output, hb.size, fun i hi _ => hb.block i hi⟩
    refine ⟨⟨u, v, rfl, World.ownsRow.kept (hu rfl) h' ?_, hv.weaken hB⟩, hb⟩
    cases hv : u.ownBlock with
    | none => exact .inl rfl
    | some _ => exact .inr (by simp)
  · refine (answerL_bad ok g f u bs w hr h).mono ?_
    rintro e w' ⟨rfl, hb⟩
    unfold restOf
    rw [if_neg h, if_neg h]
    exact ⟨⟨_, _, rfl, World.ownsRow_nil _ _ _ _, Row.nil _ _ _⟩, hb⟩

theorem getList_any (ok : Nat → Prop) (a : Option Addr) (c : Nat) (bs : List Nat) (w : World) (hs : Sl ok w a bs) (hc : bs.length ≤ c ∧ c ≤ maxLen) (hn : a = none → c = 0) (hby : Bytes bs) (hl : bs.length ≤ 70368744177664) :
    Calls Try.prog 30 #[.slice a bs.length c] w fun e w' => AnsL (listVals bs) (listErr bs) (listRest bs) w.heap.size e w' ∧ Below w.heap.size w w' := by
  have H := hid (over_any (fun b => b < w.heap.size) a c bs w (hs.mono fun b _ h => h) hc hn)
  have HBY := hid hby
  have HL := hid hl
  clear hs hn hby hl hc
  go_enter Try.func30, Try.ntmps30
  go_wp2_with fail
  refine H.out.mono ?_
  rintro e w1 ⟨rfl, hr, hb1⟩
  have hgw : w.heap.size < w1.heap.size := by obtain ⟨a, c, h, _⟩ := hr; exact row_lt h
  have H1 := hid (list_read w.heap.size bs w1 hr HBY.out HL.out)
  have HB1 := hid hb1
  have HGW := hid hgw
  clear hr hb1 hgw H
  go_wp2_with fail
  refine H1.out.mono ?_
  rintro e w2 ⟨u, l, rfl, hu, hll, hre, hr2, hb2⟩
  have H2 := hid (answerL_any _ w.heap.size _ w.heap.size u _ l w2 hr2 (by have := HL.out; omega) (fun h => own_weaken (hu h) (Nat.le_succ _)) (Nat.le_trans HB1.out.size hb2.size))
  have HB2 := hid (HB1.out.trans hb2)
  have HRE := hid hre
  have HTV : Hid ((if listErr bs = 0 then listVals bs else []) = listVals bs) := hid (by unfold listVals; split <;> rfl)
  clear hu hll hre hr2 hb2 H1
  go_wp2_with fail
  refine H2.out.mono ?_
  rintro e w3 ⟨⟨u', v, rfl, hu, hv⟩, hb3⟩
  rw [HRE.out] at hv
  rw [HTV.out] at hu
  have HU := hid hu
  have HV := hid hv
  have HB3 := hid (HB2.out.trans (hb3.mono HB2.out.size))
  clear hu hv hb3
  go_wp2_with fail
  go_ret3
  exact ⟨⟨_, _, rfl, HU.out, HV.out⟩, HB3.out⟩
end Go.Proofs.Ytbhpfdpcafdeaaa

