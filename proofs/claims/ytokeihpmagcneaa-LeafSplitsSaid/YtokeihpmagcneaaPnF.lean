/- CONTRACTS: a node read off bytes. -/
import Derived.Test.YtokeihpmagcneaaPnR
import Derived.Test.YtokeihpmagcneaaVarC
namespace Go.Proofs.Ytokeihpmagcneaa
open Go.RowKit Go.Inc

theorem resNF (w : World) (g : Nat) (cs : Array Value) (tmps : Array Value) (h2 : tmps.getD 2 undef = .pointer (some ⟨g, 0, none⟩)) (hg : w.heap[g]? = some (.cells cs 27 (0, 0))) (hs : cs.size = 2) :
    (results Try.f37 tmps).run Try.prog w = .ok (.tuple #[.agg cs, tmps.getD 3 undef]) w :=
  res_cell_tmp2 rfl tmps w g 27 cs (0, 0) _ h2 hg Try.underlying27 rfl (by rw [hs]; kernel_rfl)
/-- Bytes that are read: old ones, or those of a row of the call's own. -/
def RestS (B : Nat) (w : World) (a : Option Addr) (n c : Nat) (bs : List Nat) : Prop := Sl (fun b => b < B) w a bs ∨ Row 5 B w (.slice a n c) bs
theorem RestS.sl {B : Nat} {w : World} {a : Option Addr} {n c : Nat} {bs : List Nat} (h : RestS B w a n c bs) : Sl (fun _ => True) w a bs := by
  rcases h with h | h
  · exact h.mono fun _ _ _ => trivial
  · obtain ⟨a', c', e, -, -, -, hs⟩ := h.sl
    cases e
    exact hs.mono fun _ _ _ => trivial
def RestIn (B : Nat) (w : World) (v : Value) (bs : List Nat) : Prop :=
  ∃ a n c, v = .slice a n c ∧ RestS B w a n c bs ∧ n = bs.length ∧ (n ≤ c ∧ c ≤ maxLen) ∧ (a = none → c = 0) ∧ Bytes bs ∧ n ≤ 1000
theorem RestIn.below {B : Nat} {w w' : World} {v : Value} {bs : List Nat} (h : RestIn B w v bs) (hb : Below w.heap.size w w') : RestIn B w' v bs := by
  obtain ⟨a, n, c, h1, h2, h3⟩ := h
  exact ⟨a, n, c, h1, h2.imp (fun h => h.below hb) (fun h => h.kept hb), h3⟩
theorem RestIn.grown {B E k : Nat} {w w' : World} {v u : Value} {bs : List Nat} {xs : List Value} (h : RestIn B w v bs) (hr : w.ownsRow B E 3 u k xs) (hg : w.grownBy w' u.ownBlock) (hne : E ≠ 5) : RestIn B w' v bs := by
  obtain ⟨a, n, c, h1, h2, h3⟩ := h
  refine ⟨a, n, c, h1, ?_, h3⟩
  rcases h2 with h2 | h2
  · left
    refine h2.kept fun b hb hlt => hg.block b hlt fun e => ?_
    have := (hr.lt b e.symm).1
    omega
  · right
    refine World.ownsRow.kept h2 hg ?_
    rcases h2.2 with ⟨e, _⟩ | ⟨g1, cap, cur, e, _, hg1, _⟩
    · left; rw [e]; rfl
    · right
      have h9 := rowNot hne hr hg1
      rw [e]
      intro e2
      exact h9 e2.symm
theorem RestIn.set {B g : Nat} {w : World} {v : Value} {bs : List Nat} {cs : Array Value} (h : RestIn B w v bs) (hr : w.heap[g]? = some (.cells cs 80 (0, 0))) (hg : B ≤ g) (k : Nat) (u : Value) : RestIn B (w.setCell ⟨g, k, none⟩ u) v bs := by
  obtain ⟨a, n, c, h1, h2, h3⟩ := h
  refine ⟨a, n, c, h1, ?_, h3⟩
  rcases h2 with h2 | h2
  · left
    exact h2.kept fun b hb _ => Below.heap_setCell _ _ _ _ (by simp; omega)
  · right
    exact ownsRow_setCell_other h2 (rowNot (by decide) h2 hr) _
theorem row_setOther {w : World} {g h k : Nat} {cs ds : Array Value} {T U : TypeId} (hx : w.heap[g]? = some (.cells cs T (0, 0))) (ht : w.heap[h]? = some (.cells ds U (0, 0))) (hne : T ≠ U) (u : Value) : (w.setCell ⟨h, k, none⟩ u).heap[g]? = some (.cells cs T (0, 0)) := by
  have hgh : g ≠ h := fun e => by
    subst e
    rw [hx] at ht
    simp at ht
    exact hne ht.2
  rw [← hx]
  exact Below.heap_setCell _ _ _ _ (by simp; omega)
theorem get_x (ok : Nat → Prop) (a : Option Addr) (n c : Nat) (bs : List Nat) (w : World) (hs : Sl ok w a bs) (hn : n = bs.length) (hc : n ≤ c ∧ c ≤ maxLen) (hno : a = none → c = 0) (hby : Bytes bs) (hl : n ≤ 1000) :
    Calls Try.prog 48 #[.slice a n c] w fun e w' => (∃ v, e = .returned (.tuple #[.int .i64 ((vM bs : Nat) : Int), v, .int .i64 ((eM bs : Nat) : Int)]) ∧ Row 5 w.heap.size w' v (tM bs)) ∧ Below w.heap.size w w' := by
  subst hn
  exact get_any ok a c bs w hs hc hno hby (by omega)
theorem one_et (w : World) (T : TypeId) (s z p : Int) : EtS (fun _ => True) (w.alloc (.cells #[.int .i64 s, .int .i64 z, .int .i64 p] T)) (some ⟨w.heap.size, 0, none⟩) [((s, z), p)] := by
  refine .inr ⟨_, _, rfl, trivial, fun i hi => ?_⟩
  have h0 := newCells w [.int .i64 s, .int .i64 z, .int .i64 p] T
  match i, hi with
  | 0, _ => exact ⟨h0 0 _ rfl, h0 1 _ rfl, h0 2 _ rfl⟩
  | i + 1, hi => simp at hi
set_option maxRecDepth 20000 in
set_option maxHeartbeats 1000000 in
theorem read_short (a : Option Addr) (n c : Nat) (bs : List Nat) (w : World) (hn : n = bs.length) (hl : n < 2) : Calls Try.prog 37 #[.slice a n c] w (RdAns 57 w bs) := by
  have HN : Hid (¬ decM bs) := hid fun h => by have := h.1; omega
  have hq : decide ((n : Int) < 2) = true := decide_eq_true (by omega)
  have hq2 : (n < 2) = True := eq_true hl
  clear hl hn
  go_enter Try.func37, Try.ntmps37
  go_wp2_with fail
  go_step3
  go_wp2_with fail
  rw [Exit.noGoto_ret]
  refine bodyPost_ret (v := .tuple #[.agg #[.bool false, .slice none 0 0], .bool false]) (resNF _ _ #[.bool false, .slice none 0 0] _ rfl (heap_alloc_new w _) rfl) rfl (RdAns.none ?_ HN.out)
  exact allocBelow w _
set_option maxRecDepth 20000 in
set_option maxHeartbeats 1000000 in
theorem read_first (ok : Nat → Prop) (a : Option Addr) (n c : Nat) (bs : List Nat) (w : World) (hs : Sl ok w a bs) (hn : n = bs.length) (hl : 2 ≤ n) (h1 : 1 < bs.getD 0 0) : Calls Try.prog 37 #[.slice a n c] w (RdAns 57 w bs) := by
  have HN : Hid (¬ decM bs) := hid fun h => by have := h.2.1; omega
  rcases hs with rfl | ⟨b, off, rfl, _, hc⟩
  · simp at hn; omega
  have hx0 := hc 0 (by omega)
  obtain ⟨x, hx⟩ : ∃ x, x = bs.getD 0 0 := ⟨_, rfl⟩
  rw [← hx] at hx0 h1
  have hq : decide ((n : Int) < 2) = false := decide_eq_false (by omega)
  have hq2 : (n < 2) = False := eq_false (by omega)
  have hq0 : (0 : Int) < n := by omega
  have hq3 : decide ((1 : Int) < x) = true := decide_eq_true (by omega)
  have hq4 : (1 < x) = True := eq_true h1
  have hx1 : (w.alloc (.cells #[.bool false, .slice none 0 0] 27)).cell? ⟨b, off, none⟩ = some (.int .u8 (x : Int)) := (Below.cell (allocBelow w _) (cell_lt hx0)).trans hx0
  have HB := hid (allocBelow w (.cells #[.bool false, .slice none 0 0] 27))
  have HX := hid (heap_alloc_new w (.cells #[.bool false, .slice none 0 0] 27))
  obtain ⟨w0, hw0⟩ : ∃ w0, w0 = w.alloc (.cells #[.bool false, .slice none 0 0] 27) := ⟨_, rfl⟩
  have HW0 := hid hw0
  rw [← hw0] at HB HX
  clear hl hn h1 hx hc hx0 hw0
  go_enter Try.func37, Try.ntmps37
  go_wp2_with fail
  go_step3
  go_wp2_with fail
  rw [Exit.noGoto_ret]
  rw [← HW0.out]
  exact bodyPost_ret (v := .tuple #[.agg #[.bool false, .slice none 0 0], .bool false]) (resNF _ _ #[.bool false, .slice none 0 0] _ rfl HX.out rfl) rfl (RdAns.none HB.out HN.out)
set_option maxRecDepth 20000 in
set_option maxHeartbeats 1000000 in
theorem read_second (ok : Nat → Prop) (a : Option Addr) (n c : Nat) (bs : List Nat) (w : World) (hs : Sl ok w a bs) (hn : n = bs.length) (hl : 2 ≤ n) (h0 : bs.getD 0 0 ≤ 1) (h1 : 16 < bs.getD 1 0) : Calls Try.prog 37 #[.slice a n c] w (RdAns 57 w bs) := by
  have HN : Hid (¬ decM bs) := hid fun h => by have := h.2.2.1; unfold ctN at this; omega
  rcases hs with rfl | ⟨b, off, rfl, _, hc⟩
  · simp at hn; omega
  have hx0 := hc 0 (by omega)
  have hy0 := hc 1 (by omega)
  obtain ⟨x, hx⟩ : ∃ x, x = bs.getD 0 0 := ⟨_, rfl⟩
  obtain ⟨y, hy⟩ : ∃ x, x = bs.getD 1 0 := ⟨_, rfl⟩
  rw [← hx] at hx0 h0
  rw [← hy] at hy0 h1
  have hq : decide ((n : Int) < 2) = false := decide_eq_false (by omega)
  have hq2 : (n < 2) = False := eq_false (by omega)
  have hq0 : (0 : Int) < n := by omega
  have hq1 : (1 : Int) < n := by omega
  have hq3 : decide ((1 : Int) < x) = false := decide_eq_false (by omega)
  have hq4 : (1 < x) = False := eq_false (by omega)
  have hq5 : decide ((16 : Int) < y) = true := decide_eq_true (by omega)
  have hq6 : (16 < y) = True := eq_true h1
  have hx1 : (w.alloc (.cells #[.bool false, .slice none 0 0] 27)).cell? ⟨b, off, none⟩ = some (.int .u8 (x : Int)) := (Below.cell (allocBelow w _) (cell_lt hx0)).trans hx0
  have hy1 : (w.alloc (.cells #[.bool false, .slice none 0 0] 27)).cell? ⟨b, off + 1, none⟩ = some (.int .u8 (y : Int)) := (Below.cell (allocBelow w _) (cell_lt hy0)).trans hy0
  have HB := hid (allocBelow w (.cells #[.bool false, .slice none 0 0] 27))
  have HX := hid (heap_alloc_new w (.cells #[.bool false, .slice none 0 0] 27))
  obtain ⟨w0, hw0⟩ : ∃ w0, w0 = w.alloc (.cells #[.bool false, .slice none 0 0] 27) := ⟨_, rfl⟩
  have HW0 := hid hw0
  rw [← hw0] at HB HX
  clear hl hn h0 h1 hx hy hc hx0 hy0 hw0
  go_enter Try.func37, Try.ntmps37
  go_wp2_with fail
  go_step3
  go_wp2_with fail
  rw [Exit.noGoto_ret]
  rw [← HW0.out]
  exact bodyPost_ret (v := .tuple #[.agg #[.bool false, .slice none 0 0], .bool false]) (resNF _ _ #[.bool false, .slice none 0 0] _ rfl HX.out rfl) rfl (RdAns.none HB.out HN.out)
set_option maxRecDepth 20000 in
set_option maxHeartbeats 8000000 in
theorem read_two (ok : Nat → Prop) (a : Option Addr) (n c : Nat) (bs : List Nat) (w : World) (hs : Sl ok w a bs) (hn : n = bs.length) (hc : n ≤ c ∧ c ≤ maxLen) (hby : Bytes bs) (hl : n ≤ 1000) (hl2 : 2 ≤ n) (h0 : bs.getD 0 0 ≤ 1) (h1 : bs.getD 1 0 ≤ 16) (hcc : c = 2) : Calls Try.prog 37 #[.slice a n c] w (RdAns 57 w bs) := by
  have HS0 := hid (hs.mono (ok' := fun b => b < w.heap.size) fun _ _ h => h)
  have HN := hid hn
  rcases hs with rfl | ⟨b, off, rfl, _, hcell⟩
  · simp at hn; omega
  have HS := HS0
  clear HS0
  have HC : Hid (∀ y, Below w.heap.size w y → y.cell? ⟨b, off, none⟩ = some (.int .u8 ((bs.getD 0 0 : Nat) : Int)) ∧ y.cell? ⟨b, off + 1, none⟩ = some (.int .u8 ((bs.getD 1 0 : Nat) : Int))) := hid fun y hy => by
    have q0 := hcell 0 (by omega)
    have q1 := hcell 1 (by omega)
    exact ⟨(hy.cell (cell_lt q0)).trans q0, (hy.cell (cell_lt q1)).trans q1⟩
  obtain ⟨R, hR⟩ : ∃ R, R = bs.drop 2 := ⟨_, rfl⟩
  have HRS0 : Hid (∀ y, Below w.heap.size w y → RestIn w.heap.size y (.slice (some ⟨b, off, none⟩) (n - 2) (c - 2)) R) := hid fun y hy => by
    have hR0 : R = [] := List.eq_nil_of_length_eq_zero (by rw [hR, List.length_drop]; omega)
    exact ⟨_, n - 2, c - 2, rfl, .inl (.inl hR0), by rw [hR, List.length_drop, HN.out], by omega, fun h => (by cases h), by rw [hR]; exact hby.dropN 2, by omega⟩
  obtain ⟨lf, hlf⟩ : ∃ lf, lf = lfN bs := ⟨_, rfl⟩
  obtain ⟨N, hN⟩ : ∃ N, N = ctN bs := ⟨_, rfl⟩
  have HCT := hid (And.intro hN (And.intro hR hlf))
  have HLEN : Hid (2 ≤ bs.length ∧ bs.getD 0 0 ≤ 1 ∧ ctN bs ≤ 16) := hid ⟨by omega, h0, h1⟩
  obtain ⟨x, hx⟩ : ∃ x, x = bs.getD 0 0 := ⟨_, rfl⟩
  have hNe : bs.getD 1 0 = N := hN.symm
  have hlf2 : ((x : Int) == 1) = lf := by
    rw [hlf, hx]
    unfold lfN
    by_cases h : bs.getD 0 0 = 1
    · rw [h]; rfl
    · rw [decide_eq_false h, beq_eq_false_iff_ne]; omega
  have hx1 : x ≤ 1 := by omega
  have hN16 : N ≤ 16 := by omega
  rw [← hx, hNe] at HC
  obtain ⟨g, hg⟩ : ∃ g, g = w.heap.size := ⟨_, rfl⟩
  have HG := hid hg
  obtain ⟨w0, hw0⟩ : ∃ w0, w0 = w.alloc (.cells #[.bool false, .slice none 0 0] 27) := ⟨_, rfl⟩
  have HW0 := hid hw0
  have HB0 : Hid (Below w.heap.size w w0) := hid (by rw [hw0]; exact allocBelow w _)
  have HX0 : Hid (w0.heap[g]? = some (.cells #[.bool false, .slice none 0 0] 27 (0, 0))) := hid (by rw [hw0, hg]; exact heap_alloc_new w _)
  have hq : decide ((n : Int) < 2) = false := decide_eq_false (by omega)
  have hq2 : (n < 2) = False := eq_false (by omega)
  have hq0 : (0 : Int) < n := by omega
  have hq1 : (1 : Int) < n := by omega
  have hq3 : decide ((1 : Int) < x) = false := decide_eq_false (by omega)
  have hq4 : (1 < x) = False := eq_false (by omega)
  have hq5 : decide ((16 : Int) < N) = false := decide_eq_false (by omega)
  have hq6 : (16 < N) = False := eq_false (by omega)
  have hnc : (n : Int) ≤ (c : Int) := by omega
  have hn2 : (2 : Int) ≤ n := by omega
  have hN16i : (N : Int) ≤ 16 := by omega
  have hc2 : (c = 2) = True := eq_true hcc
  obtain ⟨hx0, hy0⟩ := HC.out w0 HB0.out
  clear hn hc hby hl h0 h1 hcc hcell hR hlf hN hx hNe hx1 hN16 hg hw0 hl2
  go_enter Try.func37, Try.ntmps37
  go_wp2_with fail
  go_step3
  go_upto_region 1 with fail
  rw [← HW0.out, ← HG.out]
  clear HW0
  go_wp2_with fail
  go_quiet (fail)
  have hbq := belowDrew w0 nq
  have HBQ : Hid (Below w.heap.size w (w0.drewN nq)) := hid (HB0.out.trans (hbq.mono HB0.out.size))
  have HX0q := hid (row_below HX0.out hbq)
  generalize w0.drewN nq = wq at *
  have HRS := hid (HRS0.out wq HBQ.out)
  clear hbq HB0 HX0 hx0 hy0 HRS0 hq hq2 hq1 hq3 hq4 hq5 hq6 hnc hn2 hc2
  go_wp2_with fail
  go_step3
  go_wp2_with fail
  go_loopw [5, 6, 35] (fun rv lv i wr => ∃ k : Nat, k ≤ N ∧ i = .int .i64 (k : Int) ∧ gdM R k ∧ RestIn w.heap.size wr rv (rsM R k) ∧ wr.ownsRow w.heap.size 57 3 lv k (ecells (esM R k)) ∧ wr.heap[g]? = some (.cells #[.bool false, .slice none 0 0] 27 (0, 0)) ∧ Below w.heap.size w wr) (fun _ _ i _ => N - (intOf i).toNat)
  case atStart => exact ⟨0, Nat.zero_le _, rfl, fun i hi => absurd hi (by omega), HRS.out, World.ownsRow_nil _ _ _ _, HX0q.out, HBQ.out⟩
  case round =>
    clear HRS HX0q HBQ
    obtain ⟨k, hk, rfl, hgd, hrs, hl, hx, hb⟩ := hrel
    have HGD := hid hgd
    have HRS := hid hrs
    have HL := hid hl
    have HX := hid hx
    have HB := hid hb
    clear hgd hrs hl hx hb
    by_cases hlt : (k : Int) < N
    · have hkn : (k < N) = True := eq_true (by omega)
      have HKN : Hid (k < N) := hid (by omega)
      obtain ⟨wj, hwj⟩ : ∃ wj, wj = wr := ⟨_, rfl⟩
      subst hwj
      obtain ⟨tg, hh⟩ : ∃ tg, tg = wj.heap.size := ⟨_, rfl⟩
      have HH := hid hh
      obtain ⟨w5, hw5⟩ : ∃ w5, w5 = wj.alloc (.cells #[.int .i64 0, .int .i64 0, .int .i64 0] 80) := ⟨_, rfl⟩
      have HW5 := hid hw5
      have hb5 : Below wj.heap.size wj w5 := by rw [hw5]; exact allocBelow wj _
      have HRS5 := hid (HRS.out.below hb5)
      have HL5 : Hid (w5.ownsRow w.heap.size 57 3 u6 k (ecells (esM R k))) := hid (by rw [hw5]; exact HL.out.alloc _)
      have HX5 := hid (row_below HX.out hb5)
      have HB5 : Hid (Below w.heap.size w w5) := hid (HB.out.trans (hb5.mono HB.out.size))
      have HT5 : Hid (w5.heap[tg]? = some (.cells #[.int .i64 0, .int .i64 0, .int .i64 0] 80 (0, 0))) := hid (by rw [hw5, hh]; exact heap_alloc_new wj _)
      have HHB : Hid (w.heap.size ≤ tg) := hid (by rw [hh]; exact HB.out.size)
      clear hh hw5 hb5 HRS HL HX HB
      go_upto_region 8 with fail
      rw [← HW5.out, ← HH.out]
      clear HW5 HH
      go_wp2_with fail
      go_loopw [5, 37] (fun rv i wr => ∃ (j : Nat) (x0 x1 x2 : Int), j ≤ 3 ∧ i = .int .i64 (j : Int) ∧ ((0 < j → eM (tJ (rsM R k) 0) = 0 ∧ x0 = (vM (tJ (rsM R k) 0) : Nat)) ∧ (1 < j → eM (tJ (rsM R k) 1) = 0 ∧ x1 = (vM (tJ (rsM R k) 1) : Nat)) ∧ (2 < j → eM (tJ (rsM R k) 2) = 0 ∧ x2 = (vM (tJ (rsM R k) 2) : Nat))) ∧ RestIn w.heap.size wr rv (tJ (rsM R k) j) ∧ wr.ownsRow w.heap.size 57 3 u6 k (ecells (esM R k)) ∧ wr.heap[g]? = some (.cells #[.bool false, .slice none 0 0] 27 (0, 0)) ∧ wr.heap[tg]? = some (.cells #[.int .i64 x0, .int .i64 x1, .int .i64 x2] 80 (0, 0)) ∧ Below w.heap.size w wr) (fun _ i _ => 3 - (intOf i).toNat)
      case atStart => exact ⟨0, 0, 0, 0, Nat.zero_le _, rfl, ⟨fun h => absurd h (by omega), fun h => absurd h (by omega), fun h => absurd h (by omega)⟩, HRS5.out, HL5.out, HX5.out, HT5.out, HB5.out⟩
      case round =>
        clear HRS5 HL5 HX5 HT5 HB5
        obtain ⟨j, x0, x1, x2, hj, rfl, hxs, hrs, hl, hx, ht, hb⟩ := hrel
        have HXS := hid hxs
        have HL := hid hl
        have HX := hid hx
        have HT := hid ht
        have HB := hid hb
        obtain ⟨wi, hwi⟩ : ∃ wi, wi = wr := ⟨_, rfl⟩
        subst hwi
        clear hxs hl hx ht hb
        obtain ⟨a5, n5, c5, rfl, hsl, hn5, hc5, hno5, hby5, hle5⟩ := hrs
        have HSL := hid hsl
        have HN5 := hid hn5
        have hnb : (n5 : Int) ≤ 1000 := by omega
        have HFACT := hid (And.intro hc5 (And.intro hno5 hby5))
        clear hsl hn5 hc5 hno5 hby5 hle5
        rcases (show Hid (j = 0) ∨ Hid (j = 1) ∨ Hid (j = 2) ∨ Hid (j = 3) by
          rcases (show j = 0 ∨ j = 1 ∨ j = 2 ∨ j = 3 by omega) with h | h | h | h
          · exact .inl (hid h)
          · exact .inr (.inl (hid h))
          · exact .inr (.inr (.inl (hid h)))
          · exact .inr (.inr (.inr (hid h)))) with hjj | hjj | hjj | hjj
        · obtain rfl := hjj.out
          clear hjj hj
          obtain ⟨v, hv⟩ : ∃ v, v = vM (tJ (rsM R k) 0) := ⟨_, rfl⟩
          obtain ⟨E, hE⟩ : ∃ E, E = eM (tJ (rsM R k) 0) := ⟨_, rfl⟩
          obtain ⟨Tl, hTl⟩ : ∃ T, T = tM (tJ (rsM R k) 0) := ⟨_, rfl⟩
          have HV := hid (And.intro hE (And.intro hv hTl))
          have hvb : (v : Int) ≤ 9223372036854775807 := by have := vM_le (tJ (rsM R k) 0); omega
          have HCALL := hid (get_x _ a5 n5 c5 _ wi HSL.out.sl HN5.out HFACT.out.1 HFACT.out.2.1 HFACT.out.2.2 (by omega))
          rw [← hv, ← hE, ← hTl] at HCALL
          have hTlen : Tl.length ≤ 1000 := by rw [hTl]; exact Nat.le_trans (tM_len _) (by have := HN5.out; omega)
          have hTby : Bytes Tl := by rw [hTl]; exact tM_bytes HFACT.out.2.2
          have HTT := hid (And.intro hTlen hTby)
          clear hv hE hTl hTlen hTby
          by_cases hE0 : E = 0
          · have HE0 := hid hE0
            have hEn : ((E : Int) != 0) = false := by simp [hE0]
            have hEn2 : (E = 0) = True := eq_true hE0
            clear hE0
            go_wp2_with fail
            refine HCALL.out.mono ?_
            clear HCALL
            rintro e w6 ⟨⟨y6, rfl, hr6⟩, hb6⟩
            obtain ⟨a6, c6, rfl, hn6, hc6, hm6, hs6⟩ := hr6.sl
            have HRS6 : Hid (RestIn w.heap.size w6 (.slice a6 Tl.length c6) (tJ (rsM R k) 1)) := hid ⟨a6, Tl.length, c6, rfl, .inr (by have h := hr6.weaken HB.out.size; rw [show Tl = tJ (rsM R k) 1 from HV.out.2.2] at h ⊢; exact h), by rw [show Tl = tJ (rsM R k) 1 from HV.out.2.2], ⟨hc6, hm6⟩, hn6, by rw [← show Tl = tJ (rsM R k) 1 from HV.out.2.2]; exact HTT.out.2, HTT.out.1⟩
            have HL6 : Hid (w6.ownsRow w.heap.size 57 3 u6 k (ecells (esM R k))) := hid (owns_mv (F := fun _ => False) HL.out (Mv.of_below hb6) fun _ _ => id)
            have HX6 := hid (row_below HX.out hb6)
            have ht6 := row_below HT.out hb6
            have HT6 := hid ht6
            have HB6 : Hid (Below w.heap.size w w6) := hid (HB.out.trans (hb6.mono HB.out.size))
            have hcell : w6.cell? ⟨tg, 0, none⟩ = some (.int .i64 x0) := by rw [cell_of_row _ _ _ _ _ _ ht6]; rfl
            have hfro : w6.frozen? ⟨tg, 0, none⟩ = false := frozen_of_row _ _ _ _ _ ht6
            obtain ⟨n6, hn66⟩ : ∃ n, n = Tl.length := ⟨_, rfl⟩
            rw [← hn66] at HRS6 ⊢
            have HN66 := hid hn66
            clear hr6 hn6 hc6 hm6 hs6 hb6 ht6 HL HX HT HB HSL HN5 HFACT hn66
            have HRS7 : Hid (RestIn w.heap.size (w6.setCell ⟨tg, 0, none⟩ (.int .i64 (v : Int))) (.slice a6 n6 c6) (tJ (rsM R k) 1)) := hid (HRS6.out.set HT6.out HHB.out _ _)
            have HL7 : Hid ((w6.setCell ⟨tg, 0, none⟩ (.int .i64 (v : Int))).ownsRow w.heap.size 57 3 u6 k (ecells (esM R k))) := hid (ownsRow_setCell_other HL6.out (rowNot (by decide) HL6.out HT6.out) _)
            have HX7 : Hid ((w6.setCell ⟨tg, 0, none⟩ (.int .i64 (v : Int))).heap[g]? = some (.cells #[.bool false, .slice none 0 0] 27 (0, 0))) := hid (row_setOther HX6.out HT6.out (by decide) _)
            have HT7 : Hid ((w6.setCell ⟨tg, 0, none⟩ (.int .i64 (v : Int))).heap[tg]? = some (.cells #[.int .i64 (v : Int), .int .i64 x1, .int .i64 x2] 80 (0, 0))) := hid (heap_setCell_same w6 tg 0 _ _ _ HT6.out)
            have HB7 : Hid (Below w.heap.size w (w6.setCell ⟨tg, 0, none⟩ (.int .i64 (v : Int)))) := hid (HB6.out.setCell (p := ⟨tg, 0, none⟩) HHB.out _)
            go_wp2_with fail
            go_roundw
            case rel => exact ⟨0 + 1, (v : Int), x1, x2, by omega, rfl, ⟨fun _ => ⟨HV.out.1.symm.trans HE0.out, by rw [← HV.out.2.1]⟩, fun h => absurd h (by decide), fun h => absurd h (by decide)⟩, HRS7.out, HL7.out, HX7.out, HT7.out, HB7.out⟩
            case measure => simp [intOf]
          · have hEn : ((E : Int) != 0) = true := by rw [bne_iff_ne]; omega
            have hEn2 : (E = 0) = False := eq_false hE0
            have HNO : Hid (¬ decM bs) := hid fun h => hE0 (by
              have h9 := h.2.2.2.1 k (by rw [← HCT.out.1]; exact HKN.out)
              rw [← HCT.out.2.1] at h9
              rw [HV.out.1]
              exact h9.1)
            clear hE0
            go_wp2_with fail
            refine HCALL.out.mono ?_
            clear HCALL
            rintro e w6 ⟨⟨y6, rfl, hr6⟩, hb6⟩
            have HL6 : Hid (w6.ownsRow w.heap.size 57 3 u6 k (ecells (esM R k))) := hid (owns_mv (F := fun _ => False) HL.out (Mv.of_below hb6) fun _ _ => id)
            obtain ⟨a9, c9, hu9, hk9, -⟩ := ownedE HL6.out
            rw [esM_len] at hu9
            have HROWL := hid HL6.out
            subst hu9
            have HX6 := hid (row_below HX.out hb6)
            have HB6 : Hid (Below w.heap.size w w6) := hid (HB.out.trans (hb6.mono HB.out.size))
            have hkk : ((k : Int) == N) = false := by rw [beq_eq_false_iff_ne]; have := HKN.out; omega
            have hkk2 : (k = N) = False := eq_false (by have := HKN.out; omega)
            clear hr6 hb6 HL HX HT HB HSL HN5 HFACT hk9
            obtain ⟨hx0, -⟩ := HC.out w6 HB6.out
            go_wp2_with (refine wpList_store_own rfl 27 _ _ rfl g #[.bool lf, .slice a9 k c9] rfl rfl 27 _ HX6.out (by kernel_rfl) rfl (by simp [Value.oneCell']) ?_)
            intro w9 hr9 hg9
            have HB9 : Hid (Below w.heap.size w w9) := hid (HB6.out.grown hg9 HB6.out.size fun k hk => by have := HG.out; cases hk; omega)
            have HR9 := hid hr9
            have HL9 : Hid (w9.ownsRow w.heap.size 57 3 (.slice a9 k c9) k (ecells (esM R k))) := hid (HROWL.out.kept hg9 (.inr (rowNot (by decide) HROWL.out HX6.out)))
            clear hg9 hr9 hx0
            go_wp2_with fail
            rw [Exit.noGoto_ret]
            refine bodyPost_ret (v := .tuple #[.agg #[.bool lf, .slice a9 k c9], .bool false]) (resNF _ _ #[.bool lf, .slice a9 k c9] _ rfl HR9.out rfl) rfl ?_
            exact ⟨⟨_, lf, esM R k, false, rfl, ⟨_, rfl, by rw [esM_len]; exact HL9.out⟩, fun h => (by cases h), fun _ => HNO.out⟩, HB9.out⟩
        · obtain rfl := hjj.out
          clear hjj hj
          obtain ⟨v, hv⟩ : ∃ v, v = vM (tJ (rsM R k) 1) := ⟨_, rfl⟩
          obtain ⟨E, hE⟩ : ∃ E, E = eM (tJ (rsM R k) 1) := ⟨_, rfl⟩
          obtain ⟨Tl, hTl⟩ : ∃ T, T = tM (tJ (rsM R k) 1) := ⟨_, rfl⟩
          have HV := hid (And.intro hE (And.intro hv hTl))
          have hvb : (v : Int) ≤ 9223372036854775807 := by have := vM_le (tJ (rsM R k) 1); omega
          have HCALL := hid (get_x _ a5 n5 c5 _ wi HSL.out.sl HN5.out HFACT.out.1 HFACT.out.2.1 HFACT.out.2.2 (by omega))
          rw [← hv, ← hE, ← hTl] at HCALL
          have hTlen : Tl.length ≤ 1000 := by rw [hTl]; exact Nat.le_trans (tM_len _) (by have := HN5.out; omega)
          have hTby : Bytes Tl := by rw [hTl]; exact tM_bytes HFACT.out.2.2
          have HTT := hid (And.intro hTlen hTby)
          clear hv hE hTl hTlen hTby
          by_cases hE0 : E = 0
          · have HE0 := hid hE0
            have hEn : ((E : Int) != 0) = false := by simp [hE0]
            have hEn2 : (E = 0) = True := eq_true hE0
            clear hE0
            go_wp2_with fail
            refine HCALL.out.mono ?_
            clear HCALL
            rintro e w6 ⟨⟨y6, rfl, hr6⟩, hb6⟩
            obtain ⟨a6, c6, rfl, hn6, hc6, hm6, hs6⟩ := hr6.sl
            have HRS6 : Hid (RestIn w.heap.size w6 (.slice a6 Tl.length c6) (tJ (rsM R k) 2)) := hid ⟨a6, Tl.length, c6, rfl, .inr (by have h := hr6.weaken HB.out.size; rw [show Tl = tJ (rsM R k) 2 from HV.out.2.2] at h ⊢; exact h), by rw [show Tl = tJ (rsM R k) 2 from HV.out.2.2], ⟨hc6, hm6⟩, hn6, by rw [← show Tl = tJ (rsM R k) 2 from HV.out.2.2]; exact HTT.out.2, HTT.out.1⟩
            have HL6 : Hid (w6.ownsRow w.heap.size 57 3 u6 k (ecells (esM R k))) := hid (owns_mv (F := fun _ => False) HL.out (Mv.of_below hb6) fun _ _ => id)
            have HX6 := hid (row_below HX.out hb6)
            have ht6 := row_below HT.out hb6
            have HT6 := hid ht6
            have HB6 : Hid (Below w.heap.size w w6) := hid (HB.out.trans (hb6.mono HB.out.size))
            have hcell : w6.cell? ⟨tg, 1, none⟩ = some (.int .i64 x1) := by rw [cell_of_row _ _ _ _ _ _ ht6]; rfl
            have hfro : w6.frozen? ⟨tg, 1, none⟩ = false := frozen_of_row _ _ _ _ _ ht6
            obtain ⟨n6, hn66⟩ : ∃ n, n = Tl.length := ⟨_, rfl⟩
            rw [← hn66] at HRS6 ⊢
            have HN66 := hid hn66
            clear hr6 hn6 hc6 hm6 hs6 hb6 ht6 HL HX HT HB HSL HN5 HFACT hn66
            have HRS7 : Hid (RestIn w.heap.size (w6.setCell ⟨tg, 1, none⟩ (.int .i64 (v : Int))) (.slice a6 n6 c6) (tJ (rsM R k) 2)) := hid (HRS6.out.set HT6.out HHB.out _ _)
            have HL7 : Hid ((w6.setCell ⟨tg, 1, none⟩ (.int .i64 (v : Int))).ownsRow w.heap.size 57 3 u6 k (ecells (esM R k))) := hid (ownsRow_setCell_other HL6.out (rowNot (by decide) HL6.out HT6.out) _)
            have HX7 : Hid ((w6.setCell ⟨tg, 1, none⟩ (.int .i64 (v : Int))).heap[g]? = some (.cells #[.bool false, .slice none 0 0] 27 (0, 0))) := hid (row_setOther HX6.out HT6.out (by decide) _)
            have HT7 : Hid ((w6.setCell ⟨tg, 1, none⟩ (.int .i64 (v : Int))).heap[tg]? = some (.cells #[.int .i64 x0, .int .i64 (v : Int), .int .i64 x2] 80 (0, 0))) := hid (heap_setCell_same w6 tg 1 _ _ _ HT6.out)
            have HB7 : Hid (Below w.heap.size w (w6.setCell ⟨tg, 1, none⟩ (.int .i64 (v : Int)))) := hid (HB6.out.setCell (p := ⟨tg, 1, none⟩) HHB.out _)
            go_wp2_with fail
            go_roundw
            case rel => exact ⟨1 + 1, x0, (v : Int), x2, by omega, rfl, ⟨fun _ => HXS.out.1 (by decide), fun _ => ⟨HV.out.1.symm.trans HE0.out, by rw [← HV.out.2.1]⟩, fun h => absurd h (by decide)⟩, HRS7.out, HL7.out, HX7.out, HT7.out, HB7.out⟩
            case measure => simp [intOf]
          · have hEn : ((E : Int) != 0) = true := by rw [bne_iff_ne]; omega
            have hEn2 : (E = 0) = False := eq_false hE0
            have HNO : Hid (¬ decM bs) := hid fun h => hE0 (by
              have h9 := h.2.2.2.1 k (by rw [← HCT.out.1]; exact HKN.out)
              rw [← HCT.out.2.1] at h9
              rw [HV.out.1]
              exact h9.2.1)
            clear hE0
            go_wp2_with fail
            refine HCALL.out.mono ?_
            clear HCALL
            rintro e w6 ⟨⟨y6, rfl, hr6⟩, hb6⟩
            have HL6 : Hid (w6.ownsRow w.heap.size 57 3 u6 k (ecells (esM R k))) := hid (owns_mv (F := fun _ => False) HL.out (Mv.of_below hb6) fun _ _ => id)
            obtain ⟨a9, c9, hu9, hk9, -⟩ := ownedE HL6.out
            rw [esM_len] at hu9
            have HROWL := hid HL6.out
            subst hu9
            have HX6 := hid (row_below HX.out hb6)
            have HB6 : Hid (Below w.heap.size w w6) := hid (HB.out.trans (hb6.mono HB.out.size))
            have hkk : ((k : Int) == N) = false := by rw [beq_eq_false_iff_ne]; have := HKN.out; omega
            have hkk2 : (k = N) = False := eq_false (by have := HKN.out; omega)
            clear hr6 hb6 HL HX HT HB HSL HN5 HFACT hk9
            obtain ⟨hx0, -⟩ := HC.out w6 HB6.out
            go_wp2_with (refine wpList_store_own rfl 27 _ _ rfl g #[.bool lf, .slice a9 k c9] rfl rfl 27 _ HX6.out (by kernel_rfl) rfl (by simp [Value.oneCell']) ?_)
            intro w9 hr9 hg9
            have HB9 : Hid (Below w.heap.size w w9) := hid (HB6.out.grown hg9 HB6.out.size fun k hk => by have := HG.out; cases hk; omega)
            have HR9 := hid hr9
            have HL9 : Hid (w9.ownsRow w.heap.size 57 3 (.slice a9 k c9) k (ecells (esM R k))) := hid (HROWL.out.kept hg9 (.inr (rowNot (by decide) HROWL.out HX6.out)))
            clear hg9 hr9 hx0
            go_wp2_with fail
            rw [Exit.noGoto_ret]
            refine bodyPost_ret (v := .tuple #[.agg #[.bool lf, .slice a9 k c9], .bool false]) (resNF _ _ #[.bool lf, .slice a9 k c9] _ rfl HR9.out rfl) rfl ?_
            exact ⟨⟨_, lf, esM R k, false, rfl, ⟨_, rfl, by rw [esM_len]; exact HL9.out⟩, fun h => (by cases h), fun _ => HNO.out⟩, HB9.out⟩
        · obtain rfl := hjj.out
          clear hjj hj
          obtain ⟨v, hv⟩ : ∃ v, v = vM (tJ (rsM R k) 2) := ⟨_, rfl⟩
          obtain ⟨E, hE⟩ : ∃ E, E = eM (tJ (rsM R k) 2) := ⟨_, rfl⟩
          obtain ⟨Tl, hTl⟩ : ∃ T, T = tM (tJ (rsM R k) 2) := ⟨_, rfl⟩
          have HV := hid (And.intro hE (And.intro hv hTl))
          have hvb : (v : Int) ≤ 9223372036854775807 := by have := vM_le (tJ (rsM R k) 2); omega
          have HCALL := hid (get_x _ a5 n5 c5 _ wi HSL.out.sl HN5.out HFACT.out.1 HFACT.out.2.1 HFACT.out.2.2 (by omega))
          rw [← hv, ← hE, ← hTl] at HCALL
          have hTlen : Tl.length ≤ 1000 := by rw [hTl]; exact Nat.le_trans (tM_len _) (by have := HN5.out; omega)
          have hTby : Bytes Tl := by rw [hTl]; exact tM_bytes HFACT.out.2.2
          have HTT := hid (And.intro hTlen hTby)
          clear hv hE hTl hTlen hTby
          by_cases hE0 : E = 0
          · have HE0 := hid hE0
            have hEn : ((E : Int) != 0) = false := by simp [hE0]
            have hEn2 : (E = 0) = True := eq_true hE0
            clear hE0
            go_wp2_with fail
            refine HCALL.out.mono ?_
            clear HCALL
            rintro e w6 ⟨⟨y6, rfl, hr6⟩, hb6⟩
            obtain ⟨a6, c6, rfl, hn6, hc6, hm6, hs6⟩ := hr6.sl
            have HRS6 : Hid (RestIn w.heap.size w6 (.slice a6 Tl.length c6) (tJ (rsM R k) 3)) := hid ⟨a6, Tl.length, c6, rfl, .inr (by have h := hr6.weaken HB.out.size; rw [show Tl = tJ (rsM R k) 3 from HV.out.2.2] at h ⊢; exact h), by rw [show Tl = tJ (rsM R k) 3 from HV.out.2.2], ⟨hc6, hm6⟩, hn6, by rw [← show Tl = tJ (rsM R k) 3 from HV.out.2.2]; exact HTT.out.2, HTT.out.1⟩
            have HL6 : Hid (w6.ownsRow w.heap.size 57 3 u6 k (ecells (esM R k))) := hid (owns_mv (F := fun _ => False) HL.out (Mv.of_below hb6) fun _ _ => id)
            have HX6 := hid (row_below HX.out hb6)
            have ht6 := row_below HT.out hb6
            have HT6 := hid ht6
            have HB6 : Hid (Below w.heap.size w w6) := hid (HB.out.trans (hb6.mono HB.out.size))
            have hcell : w6.cell? ⟨tg, 2, none⟩ = some (.int .i64 x2) := by rw [cell_of_row _ _ _ _ _ _ ht6]; rfl
            have hfro : w6.frozen? ⟨tg, 2, none⟩ = false := frozen_of_row _ _ _ _ _ ht6
            obtain ⟨n6, hn66⟩ : ∃ n, n = Tl.length := ⟨_, rfl⟩
            rw [← hn66] at HRS6 ⊢
            have HN66 := hid hn66
            clear hr6 hn6 hc6 hm6 hs6 hb6 ht6 HL HX HT HB HSL HN5 HFACT hn66
            have HRS7 : Hid (RestIn w.heap.size (w6.setCell ⟨tg, 2, none⟩ (.int .i64 (v : Int))) (.slice a6 n6 c6) (tJ (rsM R k) 3)) := hid (HRS6.out.set HT6.out HHB.out _ _)
            have HL7 : Hid ((w6.setCell ⟨tg, 2, none⟩ (.int .i64 (v : Int))).ownsRow w.heap.size 57 3 u6 k (ecells (esM R k))) := hid (ownsRow_setCell_other HL6.out (rowNot (by decide) HL6.out HT6.out) _)
            have HX7 : Hid ((w6.setCell ⟨tg, 2, none⟩ (.int .i64 (v : Int))).heap[g]? = some (.cells #[.bool false, .slice none 0 0] 27 (0, 0))) := hid (row_setOther HX6.out HT6.out (by decide) _)
            have HT7 : Hid ((w6.setCell ⟨tg, 2, none⟩ (.int .i64 (v : Int))).heap[tg]? = some (.cells #[.int .i64 x0, .int .i64 x1, .int .i64 (v : Int)] 80 (0, 0))) := hid (heap_setCell_same w6 tg 2 _ _ _ HT6.out)
            have HB7 : Hid (Below w.heap.size w (w6.setCell ⟨tg, 2, none⟩ (.int .i64 (v : Int)))) := hid (HB6.out.setCell (p := ⟨tg, 2, none⟩) HHB.out _)
            go_wp2_with fail
            go_roundw
            case rel => exact ⟨2 + 1, x0, x1, (v : Int), by omega, rfl, ⟨fun _ => HXS.out.1 (by decide), fun _ => HXS.out.2.1 (by decide), fun _ => ⟨HV.out.1.symm.trans HE0.out, by rw [← HV.out.2.1]⟩⟩, HRS7.out, HL7.out, HX7.out, HT7.out, HB7.out⟩
            case measure => simp [intOf]
          · have hEn : ((E : Int) != 0) = true := by rw [bne_iff_ne]; omega
            have hEn2 : (E = 0) = False := eq_false hE0
            have HNO : Hid (¬ decM bs) := hid fun h => hE0 (by
              have h9 := h.2.2.2.1 k (by rw [← HCT.out.1]; exact HKN.out)
              rw [← HCT.out.2.1] at h9
              rw [HV.out.1]
              exact h9.2.2)
            clear hE0
            go_wp2_with fail
            refine HCALL.out.mono ?_
            clear HCALL
            rintro e w6 ⟨⟨y6, rfl, hr6⟩, hb6⟩
            have HL6 : Hid (w6.ownsRow w.heap.size 57 3 u6 k (ecells (esM R k))) := hid (owns_mv (F := fun _ => False) HL.out (Mv.of_below hb6) fun _ _ => id)
            obtain ⟨a9, c9, hu9, hk9, -⟩ := ownedE HL6.out
            rw [esM_len] at hu9
            have HROWL := hid HL6.out
            subst hu9
            have HX6 := hid (row_below HX.out hb6)
            have HB6 : Hid (Below w.heap.size w w6) := hid (HB.out.trans (hb6.mono HB.out.size))
            have hkk : ((k : Int) == N) = false := by rw [beq_eq_false_iff_ne]; have := HKN.out; omega
            have hkk2 : (k = N) = False := eq_false (by have := HKN.out; omega)
            clear hr6 hb6 HL HX HT HB HSL HN5 HFACT hk9
            obtain ⟨hx0, -⟩ := HC.out w6 HB6.out
            go_wp2_with (refine wpList_store_own rfl 27 _ _ rfl g #[.bool lf, .slice a9 k c9] rfl rfl 27 _ HX6.out (by kernel_rfl) rfl (by simp [Value.oneCell']) ?_)
            intro w9 hr9 hg9
            have HB9 : Hid (Below w.heap.size w w9) := hid (HB6.out.grown hg9 HB6.out.size fun k hk => by have := HG.out; cases hk; omega)
            have HR9 := hid hr9
            have HL9 : Hid (w9.ownsRow w.heap.size 57 3 (.slice a9 k c9) k (ecells (esM R k))) := hid (HROWL.out.kept hg9 (.inr (rowNot (by decide) HROWL.out HX6.out)))
            clear hg9 hr9 hx0
            go_wp2_with fail
            rw [Exit.noGoto_ret]
            refine bodyPost_ret (v := .tuple #[.agg #[.bool lf, .slice a9 k c9], .bool false]) (resNF _ _ #[.bool lf, .slice a9 k c9] _ rfl HR9.out rfl) rfl ?_
            exact ⟨⟨_, lf, esM R k, false, rfl, ⟨_, rfl, by rw [esM_len]; exact HL9.out⟩, fun h => (by cases h), fun _ => HNO.out⟩, HB9.out⟩
        · obtain rfl := hjj.out
          clear hjj hj
          have HOKT : Hid (okM (rsM R k) ∧ ((x0, x1), x2) = etM (rsM R k)) := hid (by
            obtain ⟨p0, p1, p2⟩ := HXS.out
            have q0 := p0 (by decide)
            have q1 := p1 (by decide)
            have q2 := p2 (by decide)
            exact ⟨⟨q0.1, q1.1, q2.1⟩, by rw [q0.2, q1.2, q2.2]; rfl⟩)
          have HRS8 : Hid (RestIn w.heap.size wi (.slice a5 n5 c5) (rsM R (k + 1))) := hid ⟨a5, n5, c5, rfl, HSL.out, HN5.out, HFACT.out.1, HFACT.out.2.1, HFACT.out.2.2, by omega⟩
          have hc0 : wi.cell? ⟨tg, 0, none⟩ = some (.int .i64 x0) := by rw [cell_of_row _ _ _ _ _ _ HT.out]; rfl
          have hc1 : wi.cell? ⟨tg, 1, none⟩ = some (.int .i64 x1) := by rw [cell_of_row _ _ _ _ _ _ HT.out]; rfl
          have hc2 : wi.cell? ⟨tg, 2, none⟩ = some (.int .i64 x2) := by rw [cell_of_row _ _ _ _ _ _ HT.out]; rfl
          have HONE : Hid (EtS (fun _ => True) (wi.alloc (.cells #[.int .i64 x0, .int .i64 x1, .int .i64 x2] 57)) (some ⟨wi.heap.size, 0, none⟩) [((x0, x1), x2)]) := hid (one_et wi 57 x0 x1 x2)
          clear HSL HN5 HFACT
          go_wp2_with (refine wpList_append_es rfl (.tmp 53) (.tmp 62) 25 rfl w.heap.size 57 Try.underlying25 infoLE _ _ _ rfl (HL.out.alloc _) _ _ _ _ [((x0, x1), x2)] rfl rfl HONE.out (by omega) (by omega) (by have := HB.out.size; simp; omega) ?_)
          intro v4 w4 hv4 hg4
          have hba : Below w.heap.size w (wi.alloc (.cells #[.int .i64 x0, .int .i64 x1, .int .i64 x2] 57)) := HB.out.alloc HB.out.size _
          have HB4 : Hid (Below w.heap.size w w4) := hid (below_owned hba (HL.out.alloc _) (Nat.le_refl _) hg4)
          have HX4 := hid (rowApart (by decide) (HL.out.alloc _) hg4 (row_below HX.out (allocBelow wi _)))
          have HRS4 := hid ((HRS8.out.below (allocBelow wi _)).grown (HL.out.alloc _) hg4 (by decide))
          have HL4 : Hid (w4.ownsRow w.heap.size 57 3 v4 (k + 1) (ecells (esM R (k + 1)))) := hid (by
            show w4.ownsRow w.heap.size 57 3 v4 (k + 1) (ecells (esM R k ++ [etM (rsM R k)]))
            rw [← HOKT.out.2]; exact hv4)
          clear hv4 hg4 hba hc0 hc1 hc2 HONE HL HX HT HB HRS8
          go_wp2_with fail
          go_roundw
          case rel => exact ⟨k + 1, by have := HKN.out; omega, by go_num, fun i hi => by
              by_cases hik : i = k
              · rw [hik]; exact HOKT.out.1
              · exact HGD.out i (by omega), HRS4.out, HL4.out, HX4.out, HB4.out⟩
          case measure => have := HKN.out; simp [intOf]; omega
    · have hkf : (k < N) = False := eq_false (by omega)
      have HKE : Hid (k = N) := hid (by omega)
      obtain ⟨wj, hwj⟩ : ∃ wj, wj = wr := ⟨_, rfl⟩
      subst hwj
      clear hlt
      obtain ⟨a5, n5, c5, rfl, hsl, hn5, hc5, hno5, hby5, hle5⟩ := HRS.out
      have HN5 := hid hn5
      obtain ⟨a9, c9, hu9, hk9, -⟩ := ownedE HL.out
      rw [esM_len] at hu9
      have HROWL := hid HL.out
      subst hu9
      have hkk : ((k : Int) == N) = true := by rw [beq_iff_eq]; have := HKE.out; omega
      clear hsl hn5 hc5 hno5 hby5 hle5 HRS hk9 HL
      obtain ⟨hx0, -⟩ := HC.out wj HB.out
      by_cases hz : n5 = 0
      · have HYES : Hid (decM bs) := hid ⟨HLEN.out.1, HLEN.out.2.1, HLEN.out.2.2, by rw [← HCT.out.1, ← HKE.out, ← HCT.out.2.1]; exact HGD.out, by rw [← HCT.out.1, ← HKE.out, ← HCT.out.2.1]; exact List.eq_nil_of_length_eq_zero (by rw [← HN5.out, hz])⟩
        subst hz
        go_wp2_with (refine wpList_store_own rfl 27 _ _ rfl g #[.bool lf, .slice a9 k c9] rfl rfl 27 _ HX.out (by kernel_rfl) rfl (by simp [Value.oneCell']) ?_)
        intro w9 hr9 hg9
        have HB9 : Hid (Below w.heap.size w w9) := hid (HB.out.grown hg9 HB.out.size fun k hk => by have := HG.out; cases hk; omega)
        have HR9 := hid hr9
        have HL9 : Hid (w9.ownsRow w.heap.size 57 3 (.slice a9 k c9) k (ecells (esM R k))) := hid (HROWL.out.kept hg9 (.inr (rowNot (by decide) HROWL.out HX.out)))
        clear hg9 hr9 hx0
        go_wp2_with fail
        rw [Exit.noGoto_ret]
        refine bodyPost_ret (v := .tuple #[.agg #[.bool lf, .slice a9 k c9], .bool true]) (resNF _ _ #[.bool lf, .slice a9 k c9] _ rfl HR9.out rfl) rfl ?_
        exact ⟨⟨_, lf, esM R k, true, rfl, ⟨_, rfl, by rw [esM_len]; exact HL9.out⟩, fun _ => ⟨HYES.out, HCT.out.2.2, by rw [HKE.out, HCT.out.1, HCT.out.2.1]⟩, fun h => (by cases h)⟩, HB9.out⟩
      · have HNO : Hid (¬ decM bs) := hid fun h => hz (by
          have h9 := h.2.2.2.2
          rw [← HCT.out.1, ← HKE.out, ← HCT.out.2.1] at h9
          rw [HN5.out, h9]; rfl)
        have hz1 : ((n5 : Int) == 0) = false := by rw [beq_eq_false_iff_ne]; omega
        have hz2 : (n5 = 0) = False := eq_false hz
        clear hz
        go_wp2_with (refine wpList_store_own rfl 27 _ _ rfl g #[.bool lf, .slice a9 k c9] rfl rfl 27 _ HX.out (by kernel_rfl) rfl (by simp [Value.oneCell']) ?_)
        intro w9 hr9 hg9
        have HB9 : Hid (Below w.heap.size w w9) := hid (HB.out.grown hg9 HB.out.size fun k hk => by have := HG.out; cases hk; omega)
        have HR9 := hid hr9
        have HL9 : Hid (w9.ownsRow w.heap.size 57 3 (.slice a9 k c9) k (ecells (esM R k))) := hid (HROWL.out.kept hg9 (.inr (rowNot (by decide) HROWL.out HX.out)))
        clear hg9 hr9 hx0
        go_wp2_with fail
        rw [Exit.noGoto_ret]
        refine bodyPost_ret (v := .tuple #[.agg #[.bool lf, .slice a9 k c9], .bool false]) (resNF _ _ #[.bool lf, .slice a9 k c9] _ rfl HR9.out rfl) rfl ?_
        exact ⟨⟨_, lf, esM R k, false, rfl, ⟨_, rfl, by rw [esM_len]; exact HL9.out⟩, fun h => (by cases h), fun _ => HNO.out⟩, HB9.out⟩
set_option maxRecDepth 20000 in
set_option maxHeartbeats 8000000 in
theorem read_more (ok : Nat → Prop) (a : Option Addr) (n c : Nat) (bs : List Nat) (w : World) (hs : Sl ok w a bs) (hn : n = bs.length) (hc : n ≤ c ∧ c ≤ maxLen) (hby : Bytes bs) (hl : n ≤ 1000) (hl2 : 2 ≤ n) (h0 : bs.getD 0 0 ≤ 1) (h1 : bs.getD 1 0 ≤ 16) (hcc : c ≠ 2) : Calls Try.prog 37 #[.slice a n c] w (RdAns 57 w bs) := by
  have HS0 := hid (hs.mono (ok' := fun b => b < w.heap.size) fun _ _ h => h)
  have HN := hid hn
  rcases hs with rfl | ⟨b, off, rfl, _, hcell⟩
  · simp at hn; omega
  have HS := HS0
  clear HS0
  have HC : Hid (∀ y, Below w.heap.size w y → y.cell? ⟨b, off, none⟩ = some (.int .u8 ((bs.getD 0 0 : Nat) : Int)) ∧ y.cell? ⟨b, off + 1, none⟩ = some (.int .u8 ((bs.getD 1 0 : Nat) : Int))) := hid fun y hy => by
    have q0 := hcell 0 (by omega)
    have q1 := hcell 1 (by omega)
    exact ⟨(hy.cell (cell_lt q0)).trans q0, (hy.cell (cell_lt q1)).trans q1⟩
  obtain ⟨R, hR⟩ : ∃ R, R = bs.drop 2 := ⟨_, rfl⟩
  have HRS0 : Hid (∀ y, Below w.heap.size w y → RestIn w.heap.size y (.slice (some ⟨b, off + 2, none⟩) (n - 2) (c - 2)) R) := hid fun y hy => by
    have hsl : Sl (fun b => b < w.heap.size) y (some ⟨b, off + 2, none⟩) R := by
      rw [hR]
      refine (Sl.behind (HS.out.below hy) 2 _ fun _ => ?_)
      simp [Addr.add]
    exact ⟨_, n - 2, c - 2, rfl, .inl hsl, by rw [hR, List.length_drop, HN.out], by unfold maxLen at *; omega, fun h => (by cases h), by rw [hR]; exact hby.dropN 2, by omega⟩
  obtain ⟨lf, hlf⟩ : ∃ lf, lf = lfN bs := ⟨_, rfl⟩
  obtain ⟨N, hN⟩ : ∃ N, N = ctN bs := ⟨_, rfl⟩
  have HCT := hid (And.intro hN (And.intro hR hlf))
  have HLEN : Hid (2 ≤ bs.length ∧ bs.getD 0 0 ≤ 1 ∧ ctN bs ≤ 16) := hid ⟨by omega, h0, h1⟩
  obtain ⟨x, hx⟩ : ∃ x, x = bs.getD 0 0 := ⟨_, rfl⟩
  have hNe : bs.getD 1 0 = N := hN.symm
  have hlf2 : ((x : Int) == 1) = lf := by
    rw [hlf, hx]
    unfold lfN
    by_cases h : bs.getD 0 0 = 1
    · rw [h]; rfl
    · rw [decide_eq_false h, beq_eq_false_iff_ne]; omega
  have hx1 : x ≤ 1 := by omega
  have hN16 : N ≤ 16 := by omega
  rw [← hx, hNe] at HC
  obtain ⟨g, hg⟩ : ∃ g, g = w.heap.size := ⟨_, rfl⟩
  have HG := hid hg
  obtain ⟨w0, hw0⟩ : ∃ w0, w0 = w.alloc (.cells #[.bool false, .slice none 0 0] 27) := ⟨_, rfl⟩
  have HW0 := hid hw0
  have HB0 : Hid (Below w.heap.size w w0) := hid (by rw [hw0]; exact allocBelow w _)
  have HX0 : Hid (w0.heap[g]? = some (.cells #[.bool false, .slice none 0 0] 27 (0, 0))) := hid (by rw [hw0, hg]; exact heap_alloc_new w _)
  have hq : decide ((n : Int) < 2) = false := decide_eq_false (by omega)
  have hq2 : (n < 2) = False := eq_false (by omega)
  have hq0 : (0 : Int) < n := by omega
  have hq1 : (1 : Int) < n := by omega
  have hq3 : decide ((1 : Int) < x) = false := decide_eq_false (by omega)
  have hq4 : (1 < x) = False := eq_false (by omega)
  have hq5 : decide ((16 : Int) < N) = false := decide_eq_false (by omega)
  have hq6 : (16 < N) = False := eq_false (by omega)
  have hnc : (n : Int) ≤ (c : Int) := by omega
  have hn2 : (2 : Int) ≤ n := by omega
  have hN16i : (N : Int) ≤ 16 := by omega
  have hc2 : (c = 2) = False := eq_false hcc
  obtain ⟨hx0, hy0⟩ := HC.out w0 HB0.out
  clear hn hc hby hl h0 h1 hcc hcell hR hlf hN hx hNe hx1 hN16 hg hw0 hl2
  go_enter Try.func37, Try.ntmps37
  go_wp2_with fail
  go_step3
  go_upto_region 1 with fail
  rw [← HW0.out, ← HG.out]
  clear HW0
  go_wp2_with fail
  go_quiet (fail)
  have hbq := belowDrew w0 nq
  have HBQ : Hid (Below w.heap.size w (w0.drewN nq)) := hid (HB0.out.trans (hbq.mono HB0.out.size))
  have HX0q := hid (row_below HX0.out hbq)
  generalize w0.drewN nq = wq at *
  have HRS := hid (HRS0.out wq HBQ.out)
  clear hbq HB0 HX0 hx0 hy0 HRS0 hq hq2 hq1 hq3 hq4 hq5 hq6 hnc hn2 hc2
  go_wp2_with fail
  go_step3
  go_wp2_with fail
  go_loopw [5, 6, 35] (fun rv lv i wr => ∃ k : Nat, k ≤ N ∧ i = .int .i64 (k : Int) ∧ gdM R k ∧ RestIn w.heap.size wr rv (rsM R k) ∧ wr.ownsRow w.heap.size 57 3 lv k (ecells (esM R k)) ∧ wr.heap[g]? = some (.cells #[.bool false, .slice none 0 0] 27 (0, 0)) ∧ Below w.heap.size w wr) (fun _ _ i _ => N - (intOf i).toNat)
  case atStart => exact ⟨0, Nat.zero_le _, rfl, fun i hi => absurd hi (by omega), HRS.out, World.ownsRow_nil _ _ _ _, HX0q.out, HBQ.out⟩
  case round =>
    clear HRS HX0q HBQ
    obtain ⟨k, hk, rfl, hgd, hrs, hl, hx, hb⟩ := hrel
    have HGD := hid hgd
    have HRS := hid hrs
    have HL := hid hl
    have HX := hid hx
    have HB := hid hb
    clear hgd hrs hl hx hb
    by_cases hlt : (k : Int) < N
    · have hkn : (k < N) = True := eq_true (by omega)
      have HKN : Hid (k < N) := hid (by omega)
      obtain ⟨wj, hwj⟩ : ∃ wj, wj = wr := ⟨_, rfl⟩
      subst hwj
      obtain ⟨tg, hh⟩ : ∃ tg, tg = wj.heap.size := ⟨_, rfl⟩
      have HH := hid hh
      obtain ⟨w5, hw5⟩ : ∃ w5, w5 = wj.alloc (.cells #[.int .i64 0, .int .i64 0, .int .i64 0] 80) := ⟨_, rfl⟩
      have HW5 := hid hw5
      have hb5 : Below wj.heap.size wj w5 := by rw [hw5]; exact allocBelow wj _
      have HRS5 := hid (HRS.out.below hb5)
      have HL5 : Hid (w5.ownsRow w.heap.size 57 3 u6 k (ecells (esM R k))) := hid (by rw [hw5]; exact HL.out.alloc _)
      have HX5 := hid (row_below HX.out hb5)
      have HB5 : Hid (Below w.heap.size w w5) := hid (HB.out.trans (hb5.mono HB.out.size))
      have HT5 : Hid (w5.heap[tg]? = some (.cells #[.int .i64 0, .int .i64 0, .int .i64 0] 80 (0, 0))) := hid (by rw [hw5, hh]; exact heap_alloc_new wj _)
      have HHB : Hid (w.heap.size ≤ tg) := hid (by rw [hh]; exact HB.out.size)
      clear hh hw5 hb5 HRS HL HX HB
      go_upto_region 8 with fail
      rw [← HW5.out, ← HH.out]
      clear HW5 HH
      go_wp2_with fail
      go_loopw [5, 37] (fun rv i wr => ∃ (j : Nat) (x0 x1 x2 : Int), j ≤ 3 ∧ i = .int .i64 (j : Int) ∧ ((0 < j → eM (tJ (rsM R k) 0) = 0 ∧ x0 = (vM (tJ (rsM R k) 0) : Nat)) ∧ (1 < j → eM (tJ (rsM R k) 1) = 0 ∧ x1 = (vM (tJ (rsM R k) 1) : Nat)) ∧ (2 < j → eM (tJ (rsM R k) 2) = 0 ∧ x2 = (vM (tJ (rsM R k) 2) : Nat))) ∧ RestIn w.heap.size wr rv (tJ (rsM R k) j) ∧ wr.ownsRow w.heap.size 57 3 u6 k (ecells (esM R k)) ∧ wr.heap[g]? = some (.cells #[.bool false, .slice none 0 0] 27 (0, 0)) ∧ wr.heap[tg]? = some (.cells #[.int .i64 x0, .int .i64 x1, .int .i64 x2] 80 (0, 0)) ∧ Below w.heap.size w wr) (fun _ i _ => 3 - (intOf i).toNat)
      case atStart => exact ⟨0, 0, 0, 0, Nat.zero_le _, rfl, ⟨fun h => absurd h (by omega), fun h => absurd h (by omega), fun h => absurd h (by omega)⟩, HRS5.out, HL5.out, HX5.out, HT5.out, HB5.out⟩
      case round =>
        clear HRS5 HL5 HX5 HT5 HB5
        obtain ⟨j, x0, x1, x2, hj, rfl, hxs, hrs, hl, hx, ht, hb⟩ := hrel
        have HXS := hid hxs
        have HL := hid hl
        have HX := hid hx
        have HT := hid ht
        have HB := hid hb
        obtain ⟨wi, hwi⟩ : ∃ wi, wi = wr := ⟨_, rfl⟩
        subst hwi
        clear hxs hl hx ht hb
        obtain ⟨a5, n5, c5, rfl, hsl, hn5, hc5, hno5, hby5, hle5⟩ := hrs
        have HSL := hid hsl
        have HN5 := hid hn5
        have hnb : (n5 : Int) ≤ 1000 := by omega
        have HFACT := hid (And.intro hc5 (And.intro hno5 hby5))
        clear hsl hn5 hc5 hno5 hby5 hle5
        rcases (show Hid (j = 0) ∨ Hid (j = 1) ∨ Hid (j = 2) ∨ Hid (j = 3) by
          rcases (show j = 0 ∨ j = 1 ∨ j = 2 ∨ j = 3 by omega) with h | h | h | h
          · exact .inl (hid h)
          · exact .inr (.inl (hid h))
          · exact .inr (.inr (.inl (hid h)))
          · exact .inr (.inr (.inr (hid h)))) with hjj | hjj | hjj | hjj
        · obtain rfl := hjj.out
          clear hjj hj
          obtain ⟨v, hv⟩ : ∃ v, v = vM (tJ (rsM R k) 0) := ⟨_, rfl⟩
          obtain ⟨E, hE⟩ : ∃ E, E = eM (tJ (rsM R k) 0) := ⟨_, rfl⟩
          obtain ⟨Tl, hTl⟩ : ∃ T, T = tM (tJ (rsM R k) 0) := ⟨_, rfl⟩
          have HV := hid (And.intro hE (And.intro hv hTl))
          have hvb : (v : Int) ≤ 9223372036854775807 := by have := vM_le (tJ (rsM R k) 0); omega
          have HCALL := hid (get_x _ a5 n5 c5 _ wi HSL.out.sl HN5.out HFACT.out.1 HFACT.out.2.1 HFACT.out.2.2 (by omega))
          rw [← hv, ← hE, ← hTl] at HCALL
          have hTlen : Tl.length ≤ 1000 := by rw [hTl]; exact Nat.le_trans (tM_len _) (by have := HN5.out; omega)
          have hTby : Bytes Tl := by rw [hTl]; exact tM_bytes HFACT.out.2.2
          have HTT := hid (And.intro hTlen hTby)
          clear hv hE hTl hTlen hTby
          by_cases hE0 : E = 0
          · have HE0 := hid hE0
            have hEn : ((E : Int) != 0) = false := by simp [hE0]
            have hEn2 : (E = 0) = True := eq_true hE0
            clear hE0
            go_wp2_with fail
            refine HCALL.out.mono ?_
            clear HCALL
            rintro e w6 ⟨⟨y6, rfl, hr6⟩, hb6⟩
            obtain ⟨a6, c6, rfl, hn6, hc6, hm6, hs6⟩ := hr6.sl
            have HRS6 : Hid (RestIn w.heap.size w6 (.slice a6 Tl.length c6) (tJ (rsM R k) 1)) := hid ⟨a6, Tl.length, c6, rfl, .inr (by have h := hr6.weaken HB.out.size; rw [show Tl = tJ (rsM R k) 1 from HV.out.2.2] at h ⊢; exact h), by rw [show Tl = tJ (rsM R k) 1 from HV.out.2.2], ⟨hc6, hm6⟩, hn6, by rw [← show Tl = tJ (rsM R k) 1 from HV.out.2.2]; exact HTT.out.2, HTT.out.1⟩
            have HL6 : Hid (w6.ownsRow w.heap.size 57 3 u6 k (ecells (esM R k))) := hid (owns_mv (F := fun _ => False) HL.out (Mv.of_below hb6) fun _ _ => id)
            have HX6 := hid (row_below HX.out hb6)
            have ht6 := row_below HT.out hb6
            have HT6 := hid ht6
            have HB6 : Hid (Below w.heap.size w w6) := hid (HB.out.trans (hb6.mono HB.out.size))
            have hcell : w6.cell? ⟨tg, 0, none⟩ = some (.int .i64 x0) := by rw [cell_of_row _ _ _ _ _ _ ht6]; rfl
            have hfro : w6.frozen? ⟨tg, 0, none⟩ = false := frozen_of_row _ _ _ _ _ ht6
            obtain ⟨n6, hn66⟩ : ∃ n, n = Tl.length := ⟨_, rfl⟩
            rw [← hn66] at HRS6 ⊢
            have HN66 := hid hn66
            clear hr6 hn6 hc6 hm6 hs6 hb6 ht6 HL HX HT HB HSL HN5 HFACT hn66
            have HRS7 : Hid (RestIn w.heap.size (w6.setCell ⟨tg, 0, none⟩ (.int .i64 (v : Int))) (.slice a6 n6 c6) (tJ (rsM R k) 1)) := hid (HRS6.out.set HT6.out HHB.out _ _)
            have HL7 : Hid ((w6.setCell ⟨tg, 0, none⟩ (.int .i64 (v : Int))).ownsRow w.heap.size 57 3 u6 k (ecells (esM R k))) := hid (ownsRow_setCell_other HL6.out (rowNot (by decide) HL6.out HT6.out) _)
            have HX7 : Hid ((w6.setCell ⟨tg, 0, none⟩ (.int .i64 (v : Int))).heap[g]? = some (.cells #[.bool false, .slice none 0 0] 27 (0, 0))) := hid (row_setOther HX6.out HT6.out (by decide) _)
            have HT7 : Hid ((w6.setCell ⟨tg, 0, none⟩ (.int .i64 (v : Int))).heap[tg]? = some (.cells #[.int .i64 (v : Int), .int .i64 x1, .int .i64 x2] 80 (0, 0))) := hid (heap_setCell_same w6 tg 0 _ _ _ HT6.out)
            have HB7 : Hid (Below w.heap.size w (w6.setCell ⟨tg, 0, none⟩ (.int .i64 (v : Int)))) := hid (HB6.out.setCell (p := ⟨tg, 0, none⟩) HHB.out _)
            go_wp2_with fail
            go_roundw
            case rel => exact ⟨0 + 1, (v : Int), x1, x2, by omega, rfl, ⟨fun _ => ⟨HV.out.1.symm.trans HE0.out, by rw [← HV.out.2.1]⟩, fun h => absurd h (by decide), fun h => absurd h (by decide)⟩, HRS7.out, HL7.out, HX7.out, HT7.out, HB7.out⟩
            case measure => simp [intOf]
          · have hEn : ((E : Int) != 0) = true := by rw [bne_iff_ne]; omega
            have hEn2 : (E = 0) = False := eq_false hE0
            have HNO : Hid (¬ decM bs) := hid fun h => hE0 (by
              have h9 := h.2.2.2.1 k (by rw [← HCT.out.1]; exact HKN.out)
              rw [← HCT.out.2.1] at h9
              rw [HV.out.1]
              exact h9.1)
            clear hE0
            go_wp2_with fail
            refine HCALL.out.mono ?_
            clear HCALL
            rintro e w6 ⟨⟨y6, rfl, hr6⟩, hb6⟩
            have HL6 : Hid (w6.ownsRow w.heap.size 57 3 u6 k (ecells (esM R k))) := hid (owns_mv (F := fun _ => False) HL.out (Mv.of_below hb6) fun _ _ => id)
            obtain ⟨a9, c9, hu9, hk9, -⟩ := ownedE HL6.out
            rw [esM_len] at hu9
            have HROWL := hid HL6.out
            subst hu9
            have HX6 := hid (row_below HX.out hb6)
            have HB6 : Hid (Below w.heap.size w w6) := hid (HB.out.trans (hb6.mono HB.out.size))
            have hkk : ((k : Int) == N) = false := by rw [beq_eq_false_iff_ne]; have := HKN.out; omega
            have hkk2 : (k = N) = False := eq_false (by have := HKN.out; omega)
            clear hr6 hb6 HL HX HT HB HSL HN5 HFACT hk9
            obtain ⟨hx0, -⟩ := HC.out w6 HB6.out
            go_wp2_with (refine wpList_store_own rfl 27 _ _ rfl g #[.bool lf, .slice a9 k c9] rfl rfl 27 _ HX6.out (by kernel_rfl) rfl (by simp [Value.oneCell']) ?_)
            intro w9 hr9 hg9
            have HB9 : Hid (Below w.heap.size w w9) := hid (HB6.out.grown hg9 HB6.out.size fun k hk => by have := HG.out; cases hk; omega)
            have HR9 := hid hr9
            have HL9 : Hid (w9.ownsRow w.heap.size 57 3 (.slice a9 k c9) k (ecells (esM R k))) := hid (HROWL.out.kept hg9 (.inr (rowNot (by decide) HROWL.out HX6.out)))
            clear hg9 hr9 hx0
            go_wp2_with fail
            rw [Exit.noGoto_ret]
            refine bodyPost_ret (v := .tuple #[.agg #[.bool lf, .slice a9 k c9], .bool false]) (resNF _ _ #[.bool lf, .slice a9 k c9] _ rfl HR9.out rfl) rfl ?_
            exact ⟨⟨_, lf, esM R k, false, rfl, ⟨_, rfl, by rw [esM_len]; exact HL9.out⟩, fun h => (by cases h), fun _ => HNO.out⟩, HB9.out⟩
        · obtain rfl := hjj.out
          clear hjj hj
          obtain ⟨v, hv⟩ : ∃ v, v = vM (tJ (rsM R k) 1) := ⟨_, rfl⟩
          obtain ⟨E, hE⟩ : ∃ E, E = eM (tJ (rsM R k) 1) := ⟨_, rfl⟩
          obtain ⟨Tl, hTl⟩ : ∃ T, T = tM (tJ (rsM R k) 1) := ⟨_, rfl⟩
          have HV := hid (And.intro hE (And.intro hv hTl))
          have hvb : (v : Int) ≤ 9223372036854775807 := by have := vM_le (tJ (rsM R k) 1); omega
          have HCALL := hid (get_x _ a5 n5 c5 _ wi HSL.out.sl HN5.out HFACT.out.1 HFACT.out.2.1 HFACT.out.2.2 (by omega))
          rw [← hv, ← hE, ← hTl] at HCALL
          have hTlen : Tl.length ≤ 1000 := by rw [hTl]; exact Nat.le_trans (tM_len _) (by have := HN5.out; omega)
          have hTby : Bytes Tl := by rw [hTl]; exact tM_bytes HFACT.out.2.2
          have HTT := hid (And.intro hTlen hTby)
          clear hv hE hTl hTlen hTby
          by_cases hE0 : E = 0
          · have HE0 := hid hE0
            have hEn : ((E : Int) != 0) = false := by simp [hE0]
            have hEn2 : (E = 0) = True := eq_true hE0
            clear hE0
            go_wp2_with fail
            refine HCALL.out.mono ?_
            clear HCALL
            rintro e w6 ⟨⟨y6, rfl, hr6⟩, hb6⟩
            obtain ⟨a6, c6, rfl, hn6, hc6, hm6, hs6⟩ := hr6.sl
            have HRS6 : Hid (RestIn w.heap.size w6 (.slice a6 Tl.length c6) (tJ (rsM R k) 2)) := hid ⟨a6, Tl.length, c6, rfl, .inr (by have h := hr6.weaken HB.out.size; rw [show Tl = tJ (rsM R k) 2 from HV.out.2.2] at h ⊢; exact h), by rw [show Tl = tJ (rsM R k) 2 from HV.out.2.2], ⟨hc6, hm6⟩, hn6, by rw [← show Tl = tJ (rsM R k) 2 from HV.out.2.2]; exact HTT.out.2, HTT.out.1⟩
            have HL6 : Hid (w6.ownsRow w.heap.size 57 3 u6 k (ecells (esM R k))) := hid (owns_mv (F := fun _ => False) HL.out (Mv.of_below hb6) fun _ _ => id)
            have HX6 := hid (row_below HX.out hb6)
            have ht6 := row_below HT.out hb6
            have HT6 := hid ht6
            have HB6 : Hid (Below w.heap.size w w6) := hid (HB.out.trans (hb6.mono HB.out.size))
            have hcell : w6.cell? ⟨tg, 1, none⟩ = some (.int .i64 x1) := by rw [cell_of_row _ _ _ _ _ _ ht6]; rfl
            have hfro : w6.frozen? ⟨tg, 1, none⟩ = false := frozen_of_row _ _ _ _ _ ht6
            obtain ⟨n6, hn66⟩ : ∃ n, n = Tl.length := ⟨_, rfl⟩
            rw [← hn66] at HRS6 ⊢
            have HN66 := hid hn66
            clear hr6 hn6 hc6 hm6 hs6 hb6 ht6 HL HX HT HB HSL HN5 HFACT hn66
            have HRS7 : Hid (RestIn w.heap.size (w6.setCell ⟨tg, 1, none⟩ (.int .i64 (v : Int))) (.slice a6 n6 c6) (tJ (rsM R k) 2)) := hid (HRS6.out.set HT6.out HHB.out _ _)
            have HL7 : Hid ((w6.setCell ⟨tg, 1, none⟩ (.int .i64 (v : Int))).ownsRow w.heap.size 57 3 u6 k (ecells (esM R k))) := hid (ownsRow_setCell_other HL6.out (rowNot (by decide) HL6.out HT6.out) _)
            have HX7 : Hid ((w6.setCell ⟨tg, 1, none⟩ (.int .i64 (v : Int))).heap[g]? = some (.cells #[.bool false, .slice none 0 0] 27 (0, 0))) := hid (row_setOther HX6.out HT6.out (by decide) _)
            have HT7 : Hid ((w6.setCell ⟨tg, 1, none⟩ (.int .i64 (v : Int))).heap[tg]? = some (.cells #[.int .i64 x0, .int .i64 (v : Int), .int .i64 x2] 80 (0, 0))) := hid (heap_setCell_same w6 tg 1 _ _ _ HT6.out)
            have HB7 : Hid (Below w.heap.size w (w6.setCell ⟨tg, 1, none⟩ (.int .i64 (v : Int)))) := hid (HB6.out.setCell (p := ⟨tg, 1, none⟩) HHB.out _)
            go_wp2_with fail
            go_roundw
            case rel => exact ⟨1 + 1, x0, (v : Int), x2, by omega, rfl, ⟨fun _ => HXS.out.1 (by decide), fun _ => ⟨HV.out.1.symm.trans HE0.out, by rw [← HV.out.2.1]⟩, fun h => absurd h (by decide)⟩, HRS7.out, HL7.out, HX7.out, HT7.out, HB7.out⟩
            case measure => simp [intOf]
          · have hEn : ((E : Int) != 0) = true := by rw [bne_iff_ne]; omega
            have hEn2 : (E = 0) = False := eq_false hE0
            have HNO : Hid (¬ decM bs) := hid fun h => hE0 (by
              have h9 := h.2.2.2.1 k (by rw [← HCT.out.1]; exact HKN.out)
              rw [← HCT.out.2.1] at h9
              rw [HV.out.1]
              exact h9.2.1)
            clear hE0
            go_wp2_with fail
            refine HCALL.out.mono ?_
            clear HCALL
            rintro e w6 ⟨⟨y6, rfl, hr6⟩, hb6⟩
            have HL6 : Hid (w6.ownsRow w.heap.size 57 3 u6 k (ecells (esM R k))) := hid (owns_mv (F := fun _ => False) HL.out (Mv.of_below hb6) fun _ _ => id)
            obtain ⟨a9, c9, hu9, hk9, -⟩ := ownedE HL6.out
            rw [esM_len] at hu9
            have HROWL := hid HL6.out
            subst hu9
            have HX6 := hid (row_below HX.out hb6)
            have HB6 : Hid (Below w.heap.size w w6) := hid (HB.out.trans (hb6.mono HB.out.size))
            have hkk : ((k : Int) == N) = false := by rw [beq_eq_false_iff_ne]; have := HKN.out; omega
            have hkk2 : (k = N) = False := eq_false (by have := HKN.out; omega)
            clear hr6 hb6 HL HX HT HB HSL HN5 HFACT hk9
            obtain ⟨hx0, -⟩ := HC.out w6 HB6.out
            go_wp2_with (refine wpList_store_own rfl 27 _ _ rfl g #[.bool lf, .slice a9 k c9] rfl rfl 27 _ HX6.out (by kernel_rfl) rfl (by simp [Value.oneCell']) ?_)
            intro w9 hr9 hg9
            have HB9 : Hid (Below w.heap.size w w9) := hid (HB6.out.grown hg9 HB6.out.size fun k hk => by have := HG.out; cases hk; omega)
            have HR9 := hid hr9
            have HL9 : Hid (w9.ownsRow w.heap.size 57 3 (.slice a9 k c9) k (ecells (esM R k))) := hid (HROWL.out.kept hg9 (.inr (rowNot (by decide) HROWL.out HX6.out)))
            clear hg9 hr9 hx0
            go_wp2_with fail
            rw [Exit.noGoto_ret]
            refine bodyPost_ret (v := .tuple #[.agg #[.bool lf, .slice a9 k c9], .bool false]) (resNF _ _ #[.bool lf, .slice a9 k c9] _ rfl HR9.out rfl) rfl ?_
            exact ⟨⟨_, lf, esM R k, false, rfl, ⟨_, rfl, by rw [esM_len]; exact HL9.out⟩, fun h => (by cases h), fun _ => HNO.out⟩, HB9.out⟩
        · obtain rfl := hjj.out
          clear hjj hj
          obtain ⟨v, hv⟩ : ∃ v, v = vM (tJ (rsM R k) 2) := ⟨_, rfl⟩
          obtain ⟨E, hE⟩ : ∃ E, E = eM (tJ (rsM R k) 2) := ⟨_, rfl⟩
          obtain ⟨Tl, hTl⟩ : ∃ T, T = tM (tJ (rsM R k) 2) := ⟨_, rfl⟩
          have HV := hid (And.intro hE (And.intro hv hTl))
          have hvb : (v : Int) ≤ 9223372036854775807 := by have := vM_le (tJ (rsM R k) 2); omega
          have HCALL := hid (get_x _ a5 n5 c5 _ wi HSL.out.sl HN5.out HFACT.out.1 HFACT.out.2.1 HFACT.out.2.2 (by omega))
          rw [← hv, ← hE, ← hTl] at HCALL
          have hTlen : Tl.length ≤ 1000 := by rw [hTl]; exact Nat.le_trans (tM_len _) (by have := HN5.out; omega)
          have hTby : Bytes Tl := by rw [hTl]; exact tM_bytes HFACT.out.2.2
          have HTT := hid (And.intro hTlen hTby)
          clear hv hE hTl hTlen hTby
          by_cases hE0 : E = 0
          · have HE0 := hid hE0
            have hEn : ((E : Int) != 0) = false := by simp [hE0]
            have hEn2 : (E = 0) = True := eq_true hE0
            clear hE0
            go_wp2_with fail
            refine HCALL.out.mono ?_
            clear HCALL
            rintro e w6 ⟨⟨y6, rfl, hr6⟩, hb6⟩
            obtain ⟨a6, c6, rfl, hn6, hc6, hm6, hs6⟩ := hr6.sl
            have HRS6 : Hid (RestIn w.heap.size w6 (.slice a6 Tl.length c6) (tJ (rsM R k) 3)) := hid ⟨a6, Tl.length, c6, rfl, .inr (by have h := hr6.weaken HB.out.size; rw [show Tl = tJ (rsM R k) 3 from HV.out.2.2] at h ⊢; exact h), by rw [show Tl = tJ (rsM R k) 3 from HV.out.2.2], ⟨hc6, hm6⟩, hn6, by rw [← show Tl = tJ (rsM R k) 3 from HV.out.2.2]; exact HTT.out.2, HTT.out.1⟩
            have HL6 : Hid (w6.ownsRow w.heap.size 57 3 u6 k (ecells (esM R k))) := hid (owns_mv (F := fun _ => False) HL.out (Mv.of_below hb6) fun _ _ => id)
            have HX6 := hid (row_below HX.out hb6)
            have ht6 := row_below HT.out hb6
            have HT6 := hid ht6
            have HB6 : Hid (Below w.heap.size w w6) := hid (HB.out.trans (hb6.mono HB.out.size))
            have hcell : w6.cell? ⟨tg, 2, none⟩ = some (.int .i64 x2) := by rw [cell_of_row _ _ _ _ _ _ ht6]; rfl
            have hfro : w6.frozen? ⟨tg, 2, none⟩ = false := frozen_of_row _ _ _ _ _ ht6
            obtain ⟨n6, hn66⟩ : ∃ n, n = Tl.length := ⟨_, rfl⟩
            rw [← hn66] at HRS6 ⊢
            have HN66 := hid hn66
            clear hr6 hn6 hc6 hm6 hs6 hb6 ht6 HL HX HT HB HSL HN5 HFACT hn66
            have HRS7 : Hid (RestIn w.heap.size (w6.setCell ⟨tg, 2, none⟩ (.int .i64 (v : Int))) (.slice a6 n6 c6) (tJ (rsM R k) 3)) := hid (HRS6.out.set HT6.out HHB.out _ _)
            have HL7 : Hid ((w6.setCell ⟨tg, 2, none⟩ (.int .i64 (v : Int))).ownsRow w.heap.size 57 3 u6 k (ecells (esM R k))) := hid (ownsRow_setCell_other HL6.out (rowNot (by decide) HL6.out HT6.out) _)
            have HX7 : Hid ((w6.setCell ⟨tg, 2, none⟩ (.int .i64 (v : Int))).heap[g]? = some (.cells #[.bool false, .slice none 0 0] 27 (0, 0))) := hid (row_setOther HX6.out HT6.out (by decide) _)
            have HT7 : Hid ((w6.setCell ⟨tg, 2, none⟩ (.int .i64 (v : Int))).heap[tg]? = some (.cells #[.int .i64 x0, .int .i64 x1, .int .i64 (v : Int)] 80 (0, 0))) := hid (heap_setCell_same w6 tg 2 _ _ _ HT6.out)
            have HB7 : Hid (Below w.heap.size w (w6.setCell ⟨tg, 2, none⟩ (.int .i64 (v : Int)))) := hid (HB6.out.setCell (p := ⟨tg, 2, none⟩) HHB.out _)
            go_wp2_with fail
            go_roundw
            case rel => exact ⟨2 + 1, x0, x1, (v : Int), by omega, rfl, ⟨fun _ => HXS.out.1 (by decide), fun _ => HXS.out.2.1 (by decide), fun _ => ⟨HV.out.1.symm.trans HE0.out, by rw [← HV.out.2.1]⟩⟩, HRS7.out, HL7.out, HX7.out, HT7.out, HB7.out⟩
            case measure => simp [intOf]
          · have hEn : ((E : Int) != 0) = true := by rw [bne_iff_ne]; omega
            have hEn2 : (E = 0) = False := eq_false hE0
            have HNO : Hid (¬ decM bs) := hid fun h => hE0 (by
              have h9 := h.2.2.2.1 k (by rw [← HCT.out.1]; exact HKN.out)
              rw [← HCT.out.2.1] at h9
              rw [HV.out.1]
              exact h9.2.2)
            clear hE0
            go_wp2_with fail
            refine HCALL.out.mono ?_
            clear HCALL
            rintro e w6 ⟨⟨y6, rfl, hr6⟩, hb6⟩
            have HL6 : Hid (w6.ownsRow w.heap.size 57 3 u6 k (ecells (esM R k))) := hid (owns_mv (F := fun _ => False) HL.out (Mv.of_below hb6) fun _ _ => id)
            obtain ⟨a9, c9, hu9, hk9, -⟩ := ownedE HL6.out
            rw [esM_len] at hu9
            have HROWL := hid HL6.out
            subst hu9
            have HX6 := hid (row_below HX.out hb6)
            have HB6 : Hid (Below w.heap.size w w6) := hid (HB.out.trans (hb6.mono HB.out.size))
            have hkk : ((k : Int) == N) = false := by rw [beq_eq_false_iff_ne]; have := HKN.out; omega
            have hkk2 : (k = N) = False := eq_false (by have := HKN.out; omega)
            clear hr6 hb6 HL HX HT HB HSL HN5 HFACT hk9
            obtain ⟨hx0, -⟩ := HC.out w6 HB6.out
            go_wp2_with (refine wpList_store_own rfl 27 _ _ rfl g #[.bool lf, .slice a9 k c9] rfl rfl 27 _ HX6.out (by kernel_rfl) rfl (by simp [Value.oneCell']) ?_)
            intro w9 hr9 hg9
            have HB9 : Hid (Below w.heap.size w w9) := hid (HB6.out.grown hg9 HB6.out.size fun k hk => by have := HG.out; cases hk; omega)
            have HR9 := hid hr9
            have HL9 : Hid (w9.ownsRow w.heap.size 57 3 (.slice a9 k c9) k (ecells (esM R k))) := hid (HROWL.out.kept hg9 (.inr (rowNot (by decide) HROWL.out HX6.out)))
            clear hg9 hr9 hx0
            go_wp2_with fail
            rw [Exit.noGoto_ret]
            refine bodyPost_ret (v := .tuple #[.agg #[.bool lf, .slice a9 k c9], .bool false]) (resNF _ _ #[.bool lf, .slice a9 k c9] _ rfl HR9.out rfl) rfl ?_
            exact ⟨⟨_, lf, esM R k, false, rfl, ⟨_, rfl, by rw [esM_len]; exact HL9.out⟩, fun h => (by cases h), fun _ => HNO.out⟩, HB9.out⟩
        · obtain rfl := hjj.out
          clear hjj hj
          have HOKT : Hid (okM (rsM R k) ∧ ((x0, x1), x2) = etM (rsM R k)) := hid (by
            obtain ⟨p0, p1, p2⟩ := HXS.out
            have q0 := p0 (by decide)
            have q1 := p1 (by decide)
            have q2 := p2 (by decide)
            exact ⟨⟨q0.1, q1.1, q2.1⟩, by rw [q0.2, q1.2, q2.2]; rfl⟩)
          have HRS8 : Hid (RestIn w.heap.size wi (.slice a5 n5 c5) (rsM R (k + 1))) := hid ⟨a5, n5, c5, rfl, HSL.out, HN5.out, HFACT.out.1, HFACT.out.2.1, HFACT.out.2.2, by omega⟩
          have hc0 : wi.cell? ⟨tg, 0, none⟩ = some (.int .i64 x0) := by rw [cell_of_row _ _ _ _ _ _ HT.out]; rfl
          have hc1 : wi.cell? ⟨tg, 1, none⟩ = some (.int .i64 x1) := by rw [cell_of_row _ _ _ _ _ _ HT.out]; rfl
          have hc2 : wi.cell? ⟨tg, 2, none⟩ = some (.int .i64 x2) := by rw [cell_of_row _ _ _ _ _ _ HT.out]; rfl
          have HONE : Hid (EtS (fun _ => True) (wi.alloc (.cells #[.int .i64 x0, .int .i64 x1, .int .i64 x2] 57)) (some ⟨wi.heap.size, 0, none⟩) [((x0, x1), x2)]) := hid (one_et wi 57 x0 x1 x2)
          clear HSL HN5 HFACT
          go_wp2_with (refine wpList_append_es rfl (.tmp 53) (.tmp 62) 25 rfl w.heap.size 57 Try.underlying25 infoLE _ _ _ rfl (HL.out.alloc _) _ _ _ _ [((x0, x1), x2)] rfl rfl HONE.out (by omega) (by omega) (by have := HB.out.size; simp; omega) ?_)
          intro v4 w4 hv4 hg4
          have hba : Below w.heap.size w (wi.alloc (.cells #[.int .i64 x0, .int .i64 x1, .int .i64 x2] 57)) := HB.out.alloc HB.out.size _
          have HB4 : Hid (Below w.heap.size w w4) := hid (below_owned hba (HL.out.alloc _) (Nat.le_refl _) hg4)
          have HX4 := hid (rowApart (by decide) (HL.out.alloc _) hg4 (row_below HX.out (allocBelow wi _)))
          have HRS4 := hid ((HRS8.out.below (allocBelow wi _)).grown (HL.out.alloc _) hg4 (by decide))
          have HL4 : Hid (w4.ownsRow w.heap.size 57 3 v4 (k + 1) (ecells (esM R (k + 1)))) := hid (by
            show w4.ownsRow w.heap.size 57 3 v4 (k + 1) (ecells (esM R k ++ [etM (rsM R k)]))
            rw [← HOKT.out.2]; exact hv4)
          clear hv4 hg4 hba hc0 hc1 hc2 HONE HL HX HT HB HRS8
          go_wp2_with fail
          go_roundw
          case rel => exact ⟨k + 1, by have := HKN.out; omega, by go_num, fun i hi => by
              by_cases hik : i = k
              · rw [hik]; exact HOKT.out.1
              · exact HGD.out i (by omega), HRS4.out, HL4.out, HX4.out, HB4.out⟩
          case measure => have := HKN.out; simp [intOf]; omega
    · have hkf : (k < N) = False := eq_false (by omega)
      have HKE : Hid (k = N) := hid (by omega)
      obtain ⟨wj, hwj⟩ : ∃ wj, wj = wr := ⟨_, rfl⟩
      subst hwj
      clear hlt
      obtain ⟨a5, n5, c5, rfl, hsl, hn5, hc5, hno5, hby5, hle5⟩ := HRS.out
      have HN5 := hid hn5
      obtain ⟨a9, c9, hu9, hk9, -⟩ := ownedE HL.out
      rw [esM_len] at hu9
      have HROWL := hid HL.out
      subst hu9
      have hkk : ((k : Int) == N) = true := by rw [beq_iff_eq]; have := HKE.out; omega
      clear hsl hn5 hc5 hno5 hby5 hle5 HRS hk9 HL
      obtain ⟨hx0, -⟩ := HC.out wj HB.out
      by_cases hz : n5 = 0
      · have HYES : Hid (decM bs) := hid ⟨HLEN.out.1, HLEN.out.2.1, HLEN.out.2.2, by rw [← HCT.out.1, ← HKE.out, ← HCT.out.2.1]; exact HGD.out, by rw [← HCT.out.1, ← HKE.out, ← HCT.out.2.1]; exact List.eq_nil_of_length_eq_zero (by rw [← HN5.out, hz])⟩
        subst hz
        go_wp2_with (refine wpList_store_own rfl 27 _ _ rfl g #[.bool lf, .slice a9 k c9] rfl rfl 27 _ HX.out (by kernel_rfl) rfl (by simp [Value.oneCell']) ?_)
        intro w9 hr9 hg9
        have HB9 : Hid (Below w.heap.size w w9) := hid (HB.out.grown hg9 HB.out.size fun k hk => by have := HG.out; cases hk; omega)
        have HR9 := hid hr9
        have HL9 : Hid (w9.ownsRow w.heap.size 57 3 (.slice a9 k c9) k (ecells (esM R k))) := hid (HROWL.out.kept hg9 (.inr (rowNot (by decide) HROWL.out HX.out)))
        clear hg9 hr9 hx0
        go_wp2_with fail
        rw [Exit.noGoto_ret]
        refine bodyPost_ret (v := .tuple #[.agg #[.bool lf, .slice a9 k c9], .bool true]) (resNF _ _ #[.bool lf, .slice a9 k c9] _ rfl HR9.out rfl) rfl ?_
        exact ⟨⟨_, lf, esM R k, true, rfl, ⟨_, rfl, by rw [esM_len]; exact HL9.out⟩, fun _ => ⟨HYES.out, HCT.out.2.2, by rw [HKE.out, HCT.out.1, HCT.out.2.1]⟩, fun h => (by cases h)⟩, HB9.out⟩
      · have HNO : Hid (¬ decM bs) := hid fun h => hz (by
          have h9 := h.2.2.2.2
          rw [← HCT.out.1, ← HKE.out, ← HCT.out.2.1] at h9
          rw [HN5.out, h9]; rfl)
        have hz1 : ((n5 : Int) == 0) = false := by rw [beq_eq_false_iff_ne]; omega
        have hz2 : (n5 = 0) = False := eq_false hz
        clear hz
        go_wp2_with (refine wpList_store_own rfl 27 _ _ rfl g #[.bool lf, .slice a9 k c9] rfl rfl 27 _ HX.out (by kernel_rfl) rfl (by simp [Value.oneCell']) ?_)
        intro w9 hr9 hg9
        have HB9 : Hid (Below w.heap.size w w9) := hid (HB.out.grown hg9 HB.out.size fun k hk => by have := HG.out; cases hk; omega)
        have HR9 := hid hr9
        have HL9 : Hid (w9.ownsRow w.heap.size 57 3 (.slice a9 k c9) k (ecells (esM R k))) := hid (HROWL.out.kept hg9 (.inr (rowNot (by decide) HROWL.out HX.out)))
        clear hg9 hr9 hx0
        go_wp2_with fail
        rw [Exit.noGoto_ret]
        refine bodyPost_ret (v := .tuple #[.agg #[.bool lf, .slice a9 k c9], .bool false]) (resNF _ _ #[.bool lf, .slice a9 k c9] _ rfl HR9.out rfl) rfl ?_
        exact ⟨⟨_, lf, esM R k, false, rfl, ⟨_, rfl, by rw [esM_len]; exact HL9.out⟩, fun h => (by cases h), fun _ => HNO.out⟩, HB9.out⟩
theorem read_any (ok : Nat → Prop) (a : Option Addr) (n c : Nat) (bs : List Nat) (w : World) (hs : Sl ok w a bs) (hn : n = bs.length) (hc : n ≤ c ∧ c ≤ maxLen) (hby : Bytes bs) (hl : n ≤ 1000) : Calls Try.prog 37 #[.slice a n c] w (RdAns 57 w bs) := by
  by_cases h : n < 2
  · exact read_short a n c bs w hn h
  · by_cases h0 : bs.getD 0 0 ≤ 1
    · by_cases h1 : bs.getD 1 0 ≤ 16
      · by_cases hcc : c = 2
        · exact read_two ok a n c bs w hs hn hc hby hl (by omega) h0 h1 hcc
        · exact read_more ok a n c bs w hs hn hc hby hl (by omega) h0 h1 hcc
      · exact read_second ok a n c bs w hs hn (by omega) h0 (by omega)
    · exact read_first ok a n c bs w hs hn (by omega) (by omega)
end Go.Proofs.Ytokeihpmagcneaa
