/- CONTRACTS (induce, as it landed): slices.Equal, Clone and Sort of numbers (the last one by the shelf's contract); Heads, Tails; isAll; Back. (CONTRACTS (induce, as it landed): slices.Max; the heads and tails of a text's buckets.) -/
import Derived.Test.YtmllpednaibeeaaU8
import Derived.Test.YtmllpednaibeeaaU10
import Derived.Test.YtmllpednaibeeaaU11
import Derived.Shelf.SortM.Plain
import Derived.Shelf.SortM.SortNone
import Derived.BigQuiet
namespace Go.Inc
open Go.RowKit
theorem qvl_congr {a b : Nat → Nat} {n : Nat} (h : ∀ p, p < n → a p = b p) : qvl a n = qvl b n := by
  unfold qvl
  congr 1
  apply List.map_congr_left
  intro p hp
  exact h p (List.mem_range.1 hp)
/-- Counting one more. -/
theorem cnt_step (c : Nat → Nat) (t G : Nat) : qvl (updF (szC t c) (c t) (szC t c (c t) + 1)) G = qvl (szC (t + 1) c) G := qvl_congr fun p _ => by
  rw [szC_step]
  by_cases e : p = c t
  · subst e; rw [updF_at, if_pos rfl]
  · rw [updF_ne _ _ e, if_neg (fun h => e h.symm)]; rfl
/-- The first t of a row are told, the others still 0. -/
def fst0 (f : Nat → Nat) (t s : Nat) : Nat := if s < t then f s else 0
theorem fst0_step (f : Nat → Nat) (t G : Nat) : qvl (updF (fst0 f t) t (f t)) G = qvl (fst0 f (t + 1)) G := qvl_congr fun p _ => by
  unfold fst0
  by_cases e : p = t
  · subst e; rw [updF_at, if_pos (Nat.lt_succ_self _)]
  · rw [updF_ne _ _ e]
    by_cases h : p < t
    · rw [if_pos h, if_pos (by omega)]
    · rw [if_neg h, if_neg (by omega)]
theorem fst0_all (f : Nat → Nat) (G : Nat) : qvl (fst0 f G) G = qvl f G := qvl_congr fun p hp => by unfold fst0; rw [if_pos hp]
theorem fst0_zero (f : Nat → Nat) (G : Nat) : qvl (fun _ => 0) G = qvl (fst0 f 0) G := qvl_congr fun p _ => by unfold fst0; rw [if_neg (by omega)]
theorem gr_one (x : List Int) : grT x 1 = cdT x 0 := by show max 0 (cdT x 0) = cdT x 0; exact Nat.zero_max _
end Go.Inc
namespace Go.Proofs.Ytmllpednaibeeaa
open Go.RowKit Go.Inc
set_option maxHeartbeats 1000000 in
theorem max_any (ok : Nat → Prop) (x : World) (a : Option Addr) (c : Nat) (zs : List Int) (hs : Si ok x a zs) (hi : InT zs) (hl : (zs.length : Int) ≤ 65536) :
    Calls Try.prog 83 #[.slice a zs.length c] x fun e w' => e = .returned (.int .i64 ((grT zs zs.length : Nat) : Int)) ∧ x = w' := by
  have HI := hid hi
  obtain ⟨n, hn⟩ : ∃ n, n = zs.length := ⟨_, rfl⟩
  have HN := hid hn
  have hpos : 0 < n := by rw [hn]; exact hi.right.1
  obtain ⟨b, o, rfl, hcs⟩ : ∃ b o, a = some ⟨b, o, none⟩ ∧ ∀ i, i < n → x.cell? ⟨b, o + i, none⟩ = some (.int .i64 ((cdT zs i : Nat) : Int)) := by
    rcases hs with h | ⟨b, o, h, _, hc⟩
    · rw [h] at hn; simp at hn; omega
    · exact ⟨b, o, h, fun i hi2 => by rw [hc i (by rw [← hn]; exact hi2), hi.cd (by rw [← hn]; exact hi2)]⟩
  have HCS := hid hcs
  rw [← hn] at hl ⊢
  have h1 : decide ((n : Int) < 1) = false := decide_eq_false (by omega)
  have hp : (0 < n) = True := eq_true hpos
  have hpi : (0 : Int) < (n : Int) := by omega
  have hc0 : x.cell? ⟨b, o, none⟩ = some (.int .i64 ((cdT zs 0 : Nat) : Int)) := hcs 0 hpos
  have HP := hid hpos
  have HG1 := hid (gr_one zs)
  clear hs hi hn hpos hcs
  go_enter Try.func83, Try.ntmps83
  go_wp2_with fail
  go_loop [3, 4] (fun g i => ∃ t : Nat, 1 ≤ t ∧ t ≤ n ∧ i = .int .i64 (t : Int) ∧ g = .int .i64 ((grT zs t : Nat) : Int)) (fun _ i => n - (intOf i).toNat)
  case atStart => exact ⟨1, Nat.le_refl _, HP.out, rfl, by rw [HG1.out]⟩
  case round =>
    clear hc0
    obtain ⟨t, ht1, ht, rfl, rfl⟩ := hrel
    by_cases hlt : t < n
    · have hti : (t < n) = True := eq_true hlt
      have HLT := hid hlt
      have hc := HCS.out t hlt
      obtain ⟨m, hm⟩ : ∃ m, m = grT zs (t + 1) := ⟨_, rfl⟩
      have hmx : max ((grT zs t : Nat) : Int) ((cdT zs t : Nat) : Int) = (m : Int) := by
        rw [hm]; show _ = ((max (grT zs t) (cdT zs t) : Nat) : Int); omega
      have HM := hid hm
      generalize grT zs t = g0 at *
      generalize cdT zs t = y at *
      clear hlt hm
      go_wp2_with fail
      go_round
      case rel => exact ⟨t + 1, by omega, HLT.out, by go_num, by rw [HM.out]⟩
      case measure => simp [intOf]; have := HLT.out; omega
    · have hti : (t < n) = False := eq_false hlt
      obtain rfl : t = n := by omega
      clear hlt
      go_wp2_with fail
      go_ret
      exact ⟨rfl, rfl⟩
/-- Two rows of numbers in new memory: what the buckets are told by. -/
def BkP (x : World) (zs : List Int) (e : Ending) (w' : World) : Prop :=
  ∃ g1 g2, e = .returned (.tuple #[.slice (some ⟨g1, 0, none⟩) (grT zs zs.length + 1) (grT zs zs.length + 1), .slice (some ⟨g2, 0, none⟩) (grT zs zs.length + 1) (grT zs zs.length + 1)]) ∧ g1 ≠ g2 ∧
    w'.ownsRow x.heap.size 3 1 (.slice (some ⟨g1, 0, none⟩) (grT zs zs.length + 1) (grT zs zs.length + 1)) (grT zs zs.length + 1) (qvl (hdC zs.length (cdT zs)) (grT zs zs.length + 1)) ∧
    w'.ownsRow x.heap.size 3 1 (.slice (some ⟨g2, 0, none⟩) (grT zs zs.length + 1) (grT zs zs.length + 1)) (grT zs zs.length + 1) (qvl (fun s => hdC zs.length (cdT zs) (s + 1)) (grT zs zs.length + 1)) ∧ Below x.heap.size x w'
/-- Three rows of numbers, apart. -/
structure Bk3 (w : World) (B g0 g1 g2 G : Nat) (q0 q1 q2 : Nat → Nat) : Prop where
  r0 : w.ownsRow B 3 1 (.slice (some ⟨g0, 0, none⟩) G G) G (qvl q0 G)
  r1 : w.ownsRow B 3 1 (.slice (some ⟨g1, 0, none⟩) G G) G (qvl q1 G)
  r2 : w.ownsRow B 3 1 (.slice (some ⟨g2, 0, none⟩) G G) G (qvl q2 G)
  n01 : g0 ≠ g1
  n02 : g0 ≠ g2
  n12 : g1 ≠ g2
theorem rowCell {w : World} {B E g n G : Nat} {q : Nat → Nat} (h : w.ownsRow B E 1 (.slice (some ⟨g, 0, none⟩) n n) n (qvl q G)) {s : Nat} (hs : s < G) : w.cell? ⟨g, s, none⟩ = some (.int .i64 ((q s : Nat) : Int)) := by
  have h1 := h.cells (g := g) rfl s _ (qvl_get hs)
  rw [Addr.add_lit] at h1
  simpa using h1
theorem rowBase {w : World} {B E g n m c : Nat} {l : List Value} (h : w.ownsRow B E 1 (.slice (some ⟨g, 0, none⟩) n c) m l) : B ≤ g := ownBase h rfl
theorem rowSlot {w : World} {B E g n m c : Nat} {l : List Value} (h : w.ownsRow B E 1 (.slice (some ⟨g, 0, none⟩) n c) m l) : g < w.heap.size := by
  rcases h.2 with ⟨h, _⟩ | ⟨g', _, _, h, _, hh, _⟩
  · cases h
  · cases h; exact row_lt hh
theorem Bk3.set1 {w : World} {B g0 g1 g2 G : Nat} {q0 q1 q2 : Nat → Nat} (h : Bk3 w B g0 g1 g2 G q0 q1 q2) (s v : Nat) : Bk3 (w.setCell ⟨g1, s, none⟩ (.int .i64 (v : Int))) B g0 g1 g2 G q0 (updF q1 s v) q2 := by
  have h1 := h.r1.stored s (.int .i64 (v : Int))
  rw [qvl_set] at h1
  exact ⟨h.r0.kept h1.2 (.inr (by simp [Value.ownBlock]; exact fun e => h.n01 e)), h1.1, h.r2.kept h1.2 (.inr (by simp [Value.ownBlock]; exact fun e => h.n12 e.symm)), h.n01, h.n02, h.n12⟩
theorem Bk3.set2 {w : World} {B g0 g1 g2 G : Nat} {q0 q1 q2 : Nat → Nat} (h : Bk3 w B g0 g1 g2 G q0 q1 q2) (s v : Nat) : Bk3 (w.setCell ⟨g2, s, none⟩ (.int .i64 (v : Int))) B g0 g1 g2 G q0 q1 (updF q2 s v) := by
  have h1 := h.r2.stored s (.int .i64 (v : Int))
  rw [qvl_set] at h1
  exact ⟨h.r0.kept h1.2 (.inr (by simp [Value.ownBlock]; exact fun e => h.n02 e)), h.r1.kept h1.2 (.inr (by simp [Value.ownBlock]; exact fun e => h.n12 e)), h1.1, h.n01, h.n02, h.n12⟩
set_option maxRecDepth 20000 in
set_option maxHeartbeats 2000000 in
theorem buckets_any (ok : Nat → Prop) (x : World) (a : Option Addr) (c : Nat) (zs : List Int) (hs : Si ok x a zs) (hck : ckT zs = 0) (hl : (zs.length : Int) ≤ 65536) :
    Calls Try.prog 76 #[.slice a zs.length c] x (BkP x zs) := by
  have hI := InT.of hck
  have HMX := hid (max_any ok x a c zs hs hI hl)
  obtain ⟨n, hn⟩ : ∃ n, n = zs.length := ⟨_, rfl⟩
  have HN := hid hn
  have hpos : 0 < n := by rw [hn]; exact hI.right.1
  obtain ⟨b, o, rfl, hcs⟩ : ∃ b o, a = some ⟨b, o, none⟩ ∧ ∀ i, i < n → x.cell? ⟨b, o + i, none⟩ = some (.int .i64 ((cdT zs i : Nat) : Int)) := by
    rcases hs with h | ⟨b, o, h, _, hc⟩
    · rw [h] at hn; simp at hn; omega
    · exact ⟨b, o, h, fun i hi2 => by rw [hc i (by rw [← hn]; exact hi2), hI.cd (by rw [← hn]; exact hi2)]⟩
  have HCS : Hid (∀ y, Below x.heap.size x y → ∀ i, i < n → y.cell? ⟨b, o + i, none⟩ = some (.int .i64 ((cdT zs i : Nat) : Int))) := hid fun y hy i hi => by
    rw [← hcs i hi]; exact World.cell?_of_block (hy.block b (cell_lt (hcs i hi)))
  have hgb : grT zs n ≤ 65535 := grT_bd (fun i hi => ck_cd hck hi) n (by omega)
  obtain ⟨G, hGe⟩ : ∃ G, G = grT zs n + 1 := ⟨_, rfl⟩
  have HGE := hid hGe
  have HG : Hid (∀ i, i < n → cdT zs i < G) := hid fun i hi => by
    have := grT_le zs n i hi; omega
  rw [← hn] at HMX hl ⊢
  have hgi : ((grT zs n : Nat) : Int) + 1 = (G : Int) := by omega
  have hGb : (G : Int) ≤ 65536 := by omega
  obtain ⟨i0, hi, hz0, hz1, hz2⟩ := info_parts infoIntS
  have HINF := hid (And.intro hi (And.intro hz0 (And.intro hz1 hz2)))
  have HST := hid (fun t => cnt_step (cdT zs) t G)
  have HHD := hid (fun s => hdC_succ n (cdT zs) s)
  have HH0 := hid (hd_zero n (cdT zs))
  have HHL : Hid (∀ s, hdC n (cdT zs) s ≤ n) := hid fun s => hdC_le n (cdT zs) s
  have HSL : Hid (∀ t s, t ≤ n → szC t (cdT zs) s ≤ n) := hid fun t s ht => by
    unfold szC
    have := List.length_filter_le (fun i => cdT zs i == s) (List.range t)
    rw [List.length_range] at this
    omega
  unfold BkP
  rw [← hn, ← hGe]
  clear hs hI hn hpos hcs hck hgb hGe hi hz0 hz1 hz2
  go_enter Try.func76, Try.ntmps76
  go_wp2_with fail
  refine HMX.out.mono ?_
  rintro e w1 ⟨rfl, rfl⟩
  clear HMX
  go_wp2_with (refine wpList_make_full _ rfl _ _ 22 rfl x.heap.size 3 i0 (.int .i64 0) 1 Try.underlying22 HINF.out.1 HINF.out.2.1 HINF.out.2.2.1 .i64 .i64 _ _ G rfl rfl rfl rfl (by rw [HINF.out.2.2.2]; omega) (by unfold maxLen; omega) (Nat.le_refl _) ?_)
  intro w2 ho2 hg2
  rw [zero_cells] at ho2
  obtain ⟨g0, hg0⟩ : ∃ g0, g0 = x.heap.size := ⟨_, rfl⟩
  have HG0 := hid hg0
  have hO2 : w2.ownsRow x.heap.size 3 1 (.slice (some ⟨g0, 0, none⟩) G G) G (qvl (szC 0 (cdT zs)) G) := by rw [hg0]; exact ho2
  rw [← hg0]
  have HO2 := hid hO2
  have HB2 : Hid (Below x.heap.size x w2) := hid ⟨hg2.os, hg2.tape, hg2.output, hg2.size, fun i hi => hg2.block i hi (by simp)⟩
  clear ho2 hg2 hg0 hO2
  go_wp2_with fail
  go_loopw [16] (fun i wr => ∃ t : Nat, t ≤ n ∧ i = .int .i64 (t : Int) ∧ wr.ownsRow x.heap.size 3 1 (.slice (some ⟨g0, 0, none⟩) G G) G (qvl (szC t (cdT zs)) G) ∧ Below x.heap.size x wr) (fun i _ => n - (intOf i).toNat)
  case atStart => exact ⟨0, Nat.zero_le _, rfl, HO2.out, HB2.out⟩
  case round =>
    clear HO2 HB2
    obtain ⟨t, ht, rfl, ho, hb⟩ := hrel
    have HO := hid ho
    have HB := hid hb
    clear ho hb
    by_cases hlt : t < n
    · have hti : (t < n) = True := eq_true hlt
      have HLT := hid hlt
      have hct := HCS.out wr HB.out t hlt
      have hsG := HG.out t hlt
      obtain ⟨s, hse⟩ : ∃ s, s = cdT zs t := ⟨_, rfl⟩
      rw [← hse] at hct hsG
      have hst := HST.out t
      rw [← hse] at hst
      have hsN : (s < G) = True := eq_true hsG
      have hsb : (s : Int) < (G : Int) := by omega
      have hc0 := rowCell HO.out hsG
      have f0 := HO.out.frozenAt s
      have hsl := HSL.out t s (by omega)
      obtain ⟨y, hy⟩ : ∃ y, y = szC t (cdT zs) s := ⟨_, rfl⟩
      rw [← hy] at hc0 hst hsl
      have hyb : (y : Int) ≤ 65536 := by omega
      have HS1 : Hid ((wr.setCell ⟨g0, s, none⟩ (.int .i64 ((y : Int) + 1))).ownsRow x.heap.size 3 1 (.slice (some ⟨g0, 0, none⟩) G G) G (qvl (szC (t + 1) (cdT zs)) G) ∧ Below x.heap.size x (wr.setCell ⟨g0, s, none⟩ (.int .i64 ((y : Int) + 1)))) := hid (by
        have h := HO.out.stored s (.int .i64 ((y + 1 : Nat) : Int))
        rw [qvl_set, hst] at h
        rw [show ((y + 1 : Nat) : Int) = (y : Int) + 1 from by omega] at h
        exact ⟨h.1, below_grown HB.out h.2 (rowBase HO.out) HB.out.size⟩)
      clear hlt hse hst hsl hy HO HB hsG
      go_wp2_with fail
      go_roundw
      case rel => exact ⟨t + 1, HLT.out, by go_num, HS1.out.1, HS1.out.2⟩
      case measure => simp [intOf]; have := HLT.out; omega
    · have hti : (t < n) = False := eq_false hlt
      obtain rfl : t = n := by omega
      clear hlt
      have HXB : Hid (x.heap.size ≤ wr.heap.size) := hid HB.out.size
      go_wp2_with (refine wpList_make_full _ rfl _ _ 22 rfl x.heap.size 3 i0 (.int .i64 0) 1 Try.underlying22 HINF.out.1 HINF.out.2.1 HINF.out.2.2.1 .i64 .i64 _ _ G rfl rfl rfl rfl (by rw [HINF.out.2.2.2]; omega) (by unfold maxLen; omega) HXB.out ?_)
      intro w3 ho3 hg3
      rw [zero_cells, fst0_zero (hdC t (cdT zs))] at ho3
      obtain ⟨g1, hg1⟩ : ∃ g1, g1 = wr.heap.size := ⟨_, rfl⟩
      rw [← hg1] at ho3 ⊢
      have HNE : Hid (g0 ≠ g1) := hid (by have := rowSlot HO.out; omega)
      have HR0 := hid (HO.out.kept hg3 (.inr (by simp [Value.ownBlock])))
      have HR1 := hid ho3
      have HB3 : Hid (Below x.heap.size x w3) := hid (HB.out.trans ⟨hg3.os, hg3.tape, hg3.output, hg3.size, fun i hi => hg3.block i (by have := HXB.out; omega) (by simp)⟩)
      have HXB3 : Hid (x.heap.size ≤ w3.heap.size) := hid HB3.out.size
      clear ho3 hg3 hg1 HO HB
      go_wp2_with (refine wpList_make_full _ rfl _ _ 22 rfl x.heap.size 3 i0 (.int .i64 0) 1 Try.underlying22 HINF.out.1 HINF.out.2.1 HINF.out.2.2.1 .i64 .i64 _ _ G rfl rfl rfl rfl (by rw [HINF.out.2.2.2]; omega) (by unfold maxLen; omega) HXB3.out ?_)
      intro w4 ho4 hg4
      rw [zero_cells, fst0_zero (fun s => hdC t (cdT zs) (s + 1))] at ho4
      obtain ⟨g2, hg2⟩ : ∃ g2, g2 = w3.heap.size := ⟨_, rfl⟩
      rw [← hg2] at ho4 ⊢
      have HK : Hid (Bk3 w4 x.heap.size g0 g1 g2 G (szC t (cdT zs)) (fst0 (hdC t (cdT zs)) 0) (fst0 (fun s => hdC t (cdT zs) (s + 1)) 0)) := hid ⟨HR0.out.kept hg4 (.inr (by simp [Value.ownBlock])), HR1.out.kept hg4 (.inr (by simp [Value.ownBlock])), ho4, HNE.out, by have := rowSlot HR0.out; omega, by have := rowSlot HR1.out; omega⟩
      have HB4 : Hid (Below x.heap.size x w4) := hid (HB3.out.trans ⟨hg4.os, hg4.tape, hg4.output, hg4.size, fun i hi => hg4.block i (by have := HXB3.out; omega) (by simp)⟩)
      clear ho4 hg4 hg2 HR0 HR1 HB3
      go_wp2_with fail
      go_loopw [7, 35] (fun aa i wr => ∃ s : Nat, s ≤ G ∧ i = .int .i64 (s : Int) ∧ aa = .int .i64 ((hdC t (cdT zs) s : Nat) : Int) ∧ Bk3 wr x.heap.size g0 g1 g2 G (szC t (cdT zs)) (fst0 (hdC t (cdT zs)) s) (fst0 (fun s => hdC t (cdT zs) (s + 1)) s) ∧ Below x.heap.size x wr) (fun _ i _ => G - (intOf i).toNat)
      case atStart => exact ⟨0, Nat.zero_le _, rfl, by rw [HH0.out]; rfl, HK.out, HB4.out⟩
      case round =>
        clear HK HB4
        generalize hwr : wr = w5 at *
        obtain ⟨s, hs, rfl, rfl, hk, hb⟩ := hrel
        have HK := hid hk
        have HB := hid hb
        clear hk hb
        by_cases hlt : s < G
        · have hsi : (s < G) = True := eq_true hlt
          have hsb : (s : Int) < (G : Int) := by omega
          have HLT := hid hlt
          have hc0 := rowCell HK.out.r0 hlt
          have f1 := HK.out.r1.frozenAt s
          have hc1 := rowCell HK.out.r1 hlt
          generalize ((fst0 (hdC t (cdT zs)) s s : Nat) : Int) = o1 at hc1
          have hhd := HHD.out s
          have hhl := HHL.out (s + 1)
          obtain ⟨y, hy⟩ : ∃ y, y = hdC t (cdT zs) s := ⟨_, rfl⟩
          obtain ⟨z, hz⟩ : ∃ z, z = szC t (cdT zs) s := ⟨_, rfl⟩
          obtain ⟨yz, hyz⟩ : ∃ yz, yz = hdC t (cdT zs) (s + 1) := ⟨_, rfl⟩
          have hs1 := HK.out.set1 s y
          rw [show updF (fst0 (hdC t (cdT zs)) s) s y = updF (fst0 (hdC t (cdT zs)) s) s (hdC t (cdT zs) s) from by rw [hy]] at hs1
          have f2 := hs1.r2.frozenAt s
          have hc2 := rowCell hs1.r2 hlt
          generalize ((fst0 (fun s => hdC t (cdT zs) (s + 1)) s s : Nat) : Int) = o2 at hc2
          have hs2 := hs1.set2 s yz
          have HK2 : Hid (Bk3 ((w5.setCell ⟨g1, s, none⟩ (.int .i64 (y : Int))).setCell ⟨g2, s, none⟩ (.int .i64 (yz : Int))) x.heap.size g0 g1 g2 G (szC t (cdT zs)) (fst0 (hdC t (cdT zs)) (s + 1)) (fst0 (fun s => hdC t (cdT zs) (s + 1)) (s + 1))) := hid (by
            obtain ⟨k0, k1, k2, k3, k4, k5⟩ := hs2
            rw [fst0_step] at k1
            rw [hyz] at k2 ⊢
            rw [hyz] at k0 k1
            rw [fst0_step (fun s => hdC t (cdT zs) (s + 1))] at k2
            exact ⟨k0, k1, k2, k3, k4, k5⟩)
          have HB2 : Hid (Below x.heap.size x ((w5.setCell ⟨g1, s, none⟩ (.int .i64 (y : Int))).setCell ⟨g2, s, none⟩ (.int .i64 (yz : Int)))) := hid ((HB.out.setCell (p := ⟨g1, s, none⟩) (rowBase HK.out.r1) _).setCell (p := ⟨g2, s, none⟩) (rowBase HK.out.r2) _)
          rw [← hy, ← hz, ← hyz] at hhd
          rw [← hz] at hc0
          rw [← hyz] at hhl
          have hsum : (y : Int) + (z : Int) = (yz : Int) := by omega
          have hyb : (yz : Int) ≤ 65536 := by omega
          have HYZ := hid hyz
          rw [← hy]
          clear hlt hy hz hyz hs1 hs2 hhd hhl HK HB
          go_wp2_with fail
          go_roundw
          case rel => exact ⟨s + 1, HLT.out, by go_num, by rw [← HYZ.out], HK2.out, HB2.out⟩
          case measure => simp [intOf]; have := HLT.out; omega
        · have hsi : (s < G) = False := eq_false hlt
          obtain rfl : s = G := by omega
          have hr1 := HK.out.r1
          have hr2 := HK.out.r2
          rw [fst0_all] at hr1 hr2
          have HR1 := hid hr1
          have HR2 := hid hr2
          clear hlt hr1 hr2
          go_wp2_with fail
          go_ret2
          exact ⟨g1, g2, rfl, HK.out.n12, HR1.out, HR2.out, HB.out⟩
end Go.Proofs.Ytmllpednaibeeaa
namespace Go.Inc
open Go.RowKit
theorem ext_getD {xs ys : List Int} (hl : xs.length = ys.length) (h : ∀ i, i < xs.length → xs.getD i 0 = ys.getD i 0) : xs = ys := by
  apply List.ext_getElem hl
  intro i h1 h2
  have h3 := h i h1
  rw [List.getD_eq_getElem?_getD, List.getD_eq_getElem?_getD, List.getElem?_eq_getElem h1, List.getElem?_eq_getElem h2] at h3
  exact h3
theorem zsN_perm {l m : List Nat} (h : l.Perm m) : (zsN l).Perm (zsN m) := h.map _
theorem zsN_inj : ∀ {l m : List Nat}, zsN l = zsN m → l = m
  | [], [], _ => rfl
  | [], _ :: _, h => by cases h
  | _ :: _, [], h => by cases h
  | a :: l, b :: m, h => by
    have h1 : (a : Int) :: zsN l = (b : Int) :: zsN m := h
    simp only [List.cons.injEq] at h1
    rw [zsN_inj h1.2, show a = b by omega]
/-- These numbers are the first Ss: in order they are the list of them. -/
theorem isFsI_sort {x ls : List Int} : isFsI x ls ↔ (ls.mergeSort fun a b => decide (a ≤ b)) = zsN (fsT x x.length) := by
  have hp := List.mergeSort_perm ls (fun a b => decide (a ≤ b))
  have hnd : (fsT x x.length).Nodup := (isFs_own x).1
  constructor
  · rintro ⟨fs, rfl, hf⟩
    have h1 : fs.Perm (fsT x x.length) := (List.perm_ext_iff_of_nodup hf.1 hnd).2 hf.2
    have h2 := hp.trans (zsN_perm h1)
    have h3 : ((zsN fs).mergeSort fun a b => decide (a ≤ b)).Pairwise (· ≤ ·) := by
      have h4 := List.pairwise_mergeSort (le := fun a b : Int => decide (a ≤ b)) (fun a b c h k => decide_eq_true (Int.le_trans (of_decide_eq_true h) (of_decide_eq_true k))) (fun a b => by
        rcases Int.le_total a b with h | h
        · simp [h]
        · simp [h]) (zsN fs)
      exact h4.imp fun h => of_decide_eq_true h
    refine h2.eq_of_pairwise (le := (· ≤ ·)) (fun a b _ _ h k => Int.le_antisymm h k) h3 ((fsZ_rise x.length).imp fun h => Int.le_of_lt h)
  · intro h
    rw [h] at hp
    refine ⟨ls.map Int.toNat, ?_, ?_, fun j => ?_⟩
    · unfold zsN
      rw [List.map_map]
      conv => lhs; rw [← List.map_id ls]
      apply List.map_congr_left
      intro z hz
      have h1 := hp.mem_iff.2 hz
      obtain ⟨k, hk, rfl⟩ := List.mem_map.1 h1
      simp
    · have h1 := hp.map Int.toNat
      have h2 : (zsN (fsT x x.length)).map Int.toNat = fsT x x.length := by
        unfold zsN
        rw [List.map_map]
        conv => rhs; rw [← List.map_id (fsT x x.length)]
        apply List.map_congr_left
        intro k _
        simp
      rw [h2] at h1
      exact h1.nodup hnd
    · have h1 := hp.map Int.toNat
      have h2 : (zsN (fsT x x.length)).map Int.toNat = fsT x x.length := by
        unfold zsN
        rw [List.map_map]
        conv => rhs; rw [← List.map_id (fsT x x.length)]
        apply List.map_congr_left
        intro k _
        simp
      rw [h2] at h1
      exact h1.mem_iff.symm
theorem bk_row (x : List Int) (l : List Nat) : qvl (fun t => (fsT x x.length).getD (l.getD t 0) 0) l.length = nvals (bkT x l) := by
  unfold qvl bkT
  congr 1
  apply List.ext_getElem (by simp)
  intro i h1 h2
  have hi : i < l.length := by simpa using h2
  simp [List.getD_eq_getElem?_getD, List.getElem?_eq_getElem hi]
end Go.Inc
namespace Go.Proofs.Ytmllpednaibeeaa
open Go.RowKit Go.Inc
open Go.Shelf
def sortN_ren : Go.Shelf.Ren := ⟨fun | 5 => 62 | 8 => 37 | 7 => 77 | 19 => 56 | 20 => 57 | 10 => 84 | 11 => 85 | 12 => 86 | 13 => 87 | 14 => 88 | 15 => 89 | 16 => 90 | 17 => 91 | 18 => 92 | 30 => 94 | 31 => 95 | 32 => 96 | 33 => 97 | 34 => 98 | 35 => 99 | 40 => 100 | n => n, fun | 23 => 22 | 25 => 3 | 3 => 3 | 32 => 54 | 22 => 22 | 0 => 0 | 44 => 73 | 46 => 33 | 4 => 4 | 36 => 106 | 35 => 105 | 41 => 109 | 5 => 5 | 9 => 9 | 53 => 111 | 57 => 115 | 63 => 117 | 64 => 70 | n => n, fun | n => n⟩
theorem sortN : Go.Proofs.SlLaysM.n5 Try.prog sortN_ren where
  mixed := by kernel_rfl
  f5 := ⟨ "slices.Sort[[]int,int]", by decide, Try.func62.trans (congrArg some (by kernel_rfl))⟩
  f7 := ⟨ "slices.pdqsortOrdered[int]", by decide, Try.func77.trans (congrArg some (by kernel_rfl))⟩
  f8 := Try.func37.trans (congrArg some (by kernel_rfl))
  f10 := ⟨ "slices.insertionSortOrdered[int]", by decide, Try.func84.trans (congrArg some (by kernel_rfl))⟩
  f11 := ⟨ "slices.heapSortOrdered[int]", by decide, Try.func85.trans (congrArg some (by kernel_rfl))⟩
  f12 := ⟨ "slices.breakPatternsOrdered[int]", by decide, Try.func86.trans (congrArg some (by kernel_rfl))⟩
  f13 := ⟨ "slices.choosePivotOrdered[int]", by decide, Try.func87.trans (congrArg some (by kernel_rfl))⟩
  f14 := ⟨ "slices.reverseRangeOrdered[int]", by decide, Try.func88.trans (congrArg some (by kernel_rfl))⟩
  f15 := ⟨ "slices.partialInsertionSortOrdered[int]", by decide, Try.func89.trans (congrArg some (by kernel_rfl))⟩
  f16 := ⟨ "cmp.Less[int]", by decide, Try.func90.trans (congrArg some (by kernel_rfl))⟩
  f17 := ⟨ "slices.partitionEqualOrdered[int]", by decide, Try.func91.trans (congrArg some (by kernel_rfl))⟩
  f18 := ⟨ "slices.partitionOrdered[int]", by decide, Try.func92.trans (congrArg some (by kernel_rfl))⟩
  f19 := Try.func56.trans (congrArg some (by kernel_rfl))
  f20 := Try.func57.trans (congrArg some (by kernel_rfl))
  f30 := ⟨ "slices.siftDownOrdered[int]", by decide, Try.func94.trans (congrArg some (by kernel_rfl))⟩
  f31 := Try.func95.trans (congrArg some (by kernel_rfl))
  f32 := Try.func96.trans (congrArg some (by kernel_rfl))
  f33 := ⟨ "slices.medianAdjacentOrdered[int]", by decide, Try.func97.trans (congrArg some (by kernel_rfl))⟩
  f34 := ⟨ "slices.medianOrdered[int]", by decide, Try.func98.trans (congrArg some (by kernel_rfl))⟩
  f35 := ⟨ "cmp.isNaN[int]", by decide, Try.func99.trans (congrArg some (by kernel_rfl))⟩
  f40 := ⟨ "slices.order2Ordered[int]", by decide, Try.func100.trans (congrArg some (by kernel_rfl))⟩
  t0 := Try.underlying0
  a0 := Try.isAgg0
  z0 := Try.sizeOf0
  v0 := Try.zeroValue0
  t3 := Try.underlying3
  a3 := Try.isAgg3
  z3 := Try.sizeOf3
  v3 := Try.zeroValue3
  t4 := Try.underlying4
  a4 := Try.isAgg4
  z4 := Try.sizeOf4
  v4 := Try.zeroValue4
  t5 := Try.underlying5
  a5 := Try.isAgg5
  z5 := Try.sizeOf5
  v5 := Try.zeroValue5
  t9 := Try.underlying9
  a9 := Try.isAgg9
  z9 := Try.sizeOf9
  v9 := Try.zeroValue9
  t22 := Try.underlying22
  a22 := Try.isAgg22
  z22 := Try.sizeOf22
  v22 := Try.zeroValue22
  t23 := Try.underlying22
  a23 := Try.isAgg22
  z23 := Try.sizeOf22
  v23 := Try.zeroValue22
  t25 := Try.underlying3
  a25 := Try.isAgg3
  z25 := Try.sizeOf3
  v25 := Try.zeroValue3
  t32 := Try.underlying54
  a32 := Try.isAgg54
  z32 := Try.sizeOf54
  v32 := Try.zeroValue54
  t35 := Try.underlying105
  a35 := Try.isAgg105
  z35 := Try.sizeOf105
  v35 := Try.zeroValue105
  t36 := Try.underlying106
  a36 := Try.isAgg106
  z36 := Try.sizeOf106
  v36 := Try.zeroValue106
  t41 := Try.underlying109
  a41 := Try.isAgg109
  z41 := Try.sizeOf109
  v41 := Try.zeroValue109
  t44 := Try.underlying73
  a44 := Try.isAgg73
  z44 := Try.sizeOf73
  v44 := Try.zeroValue73
  t46 := Try.underlying33
  a46 := Try.isAgg33
  z46 := Try.sizeOf33
  v46 := Try.zeroValue33
  t53 := Try.underlying111
  a53 := Try.isAgg111
  z53 := Try.sizeOf111
  v53 := Try.zeroValue111
  t57 := Try.underlying115
  a57 := Try.isAgg115
  z57 := Try.sizeOf115
  v57 := Try.zeroValue115
  t63 := Try.underlying117
  a63 := Try.isAgg117
  z63 := Try.sizeOf117
  v63 := Try.zeroValue117
  t64 := Try.underlying70
  a64 := Try.isAgg70
  z64 := Try.sizeOf70
  v64 := Try.zeroValue70
end Go.Proofs.Ytmllpednaibeeaa
namespace Go.Proofs.Ytmllpednaibeeaa
open Go.RowKit Go.Inc
theorem equalI_len (a b : Option Addr) (n m c d : Nat) (w : World) (h : n ≠ m) : Calls Try.prog 63 #[.slice a n c, .slice b m d] w fun e w' => e = .returned (.bool false) ∧ w = w' := by
  have hne : ((n : Int) != (m : Int)) = true := by rw [bne_iff_ne]; omega
  have hne2 : (n = m) = False := eq_false h
  clear h
  go_enter Try.func63, Try.ntmps63
  go_wp2_with fail
  go_ret
  exact ⟨rfl, rfl⟩
set_option maxRecDepth 20000 in
set_option maxHeartbeats 1000000 in
theorem equalI_any (ok ok' : Nat → Prop) (x : World) (a b : Option Addr) (c d : Nat) (xs ys : List Int) (hs : Si ok x a xs) (ht : Si ok' x b ys) (hl : (xs.length : Int) ≤ 65536) :
    Calls Try.prog 63 #[.slice a xs.length c, .slice b ys.length d] x fun e w' => e = .returned (.bool (decide (xs = ys))) ∧ Below x.heap.size x w' := by
  by_cases he : xs.length = ys.length
  · have HS := hid hs
    have HT := hid ht
    have HE : Hid ((∀ i, i < xs.length → xs.getD i 0 = ys.getD i 0) → decide (xs = ys) = true) := hid fun h => decide_eq_true (ext_getD he h)
    have HNE : Hid (∀ i, i < xs.length → xs.getD i 0 ≠ ys.getD i 0 → decide (xs = ys) = false) := hid fun i _ h => decide_eq_false fun e => h (by rw [e])
    have HL := hid he
    obtain ⟨R, hR⟩ : ∃ R, R = decide (xs = ys) := ⟨_, rfl⟩
    rw [← hR] at HE HNE ⊢
    rw [← he]
    obtain ⟨n, hn⟩ : ∃ n, n = xs.length := ⟨_, rfl⟩
    have HN := hid hn
    rw [← hn] at HE HNE hl ⊢
    clear hs ht he hR hn
    go_enter Try.func63, Try.ntmps63
    go_wp2_with fail
    go_loopw [13] (fun i wr => ∃ t : Nat, t ≤ n ∧ i = .int .i64 (t : Int) ∧ (∀ i, i < t → xs.getD i 0 = ys.getD i 0) ∧ Below x.heap.size x wr) (fun i _ => n - (intOf i).toNat)
    case atStart => exact ⟨0, Nat.zero_le _, rfl, fun i hi => absurd hi (by omega), Below.refl _ _⟩
    case round =>
      obtain ⟨t, ht, rfl, hq, hb⟩ := hrel
      have HQ := hid hq
      have HB := hid hb
      clear hq hb
      by_cases hlt : t < n
      · have hti : (t < n) = True := eq_true hlt
        have htb : (t : Int) < (n : Int) := by omega
        have HLT := hid hlt
        obtain ⟨b1, o1, rfl, h1⟩ := siCell (HS.out.below HB.out) (k := t) (by have := HN.out; omega)
        obtain ⟨b2, o2, rfl, h2⟩ := siCell (HT.out.below HB.out) (k := t) (by have := HN.out; have := HL.out; omega)
        have HNE1 := hid (HNE.out t hlt)
        have HST : Hid (xs.getD t 0 = ys.getD t 0 → ∀ i, i < t + 1 → xs.getD i 0 = ys.getD i 0) := hid fun e i hi => by
          by_cases h : i = t
          · rw [h]; exact e
          · exact HQ.out i (by omega)
        generalize xs.getD t 0 = u at *
        generalize ys.getD t 0 = v at *
        clear hlt HQ
        go_wp2_with fail
        go_quiet (fail)
        have hbq := belowDrew wr nq
        have HBQ : Hid (Below x.heap.size x (wr.drewN nq)) := hid (HB.out.trans (hbq.mono HB.out.size))
        generalize wr.drewN nq = wq at *
        clear hbq
        by_cases huv : u = v
        · have huv1 : (u != v) = false := by rw [huv]; simp
          have HST2 := hid (HST.out huv)
          subst huv
          clear HST HNE1
          go_wp2_with fail
          go_roundw
          case rel => exact ⟨t + 1, HLT.out, by go_num, HST2.out, HBQ.out⟩
          case measure => simp [intOf]; have := HLT.out; omega
        · have huv1 : (u != v) = true := by rw [bne_iff_ne]; exact huv
          have HR := hid (HNE1.out huv)
          clear huv HST HNE1
          go_wp2_with fail
          go_ret
          exact ⟨by rw [HR.out]; rfl, HBQ.out⟩
      · have hti : (t < n) = False := eq_false hlt
        obtain rfl : n = t := by omega
        have HR := hid (HE.out HQ.out)
        clear hlt
        go_wp2_with fail
        go_ret
        exact ⟨by rw [HR.out]; rfl, HB.out⟩
  · refine (equalI_len a b _ _ c d x he).mono ?_
    rintro e w' ⟨rfl, rfl⟩
    exact ⟨by rw [decide_eq_false fun e => he (by rw [e])], Below.refl _ _⟩
theorem cloneR_any (ok : Nat → Prop) (w : World) (v : Value) (zs : List Int) (h : So ok w v zs) (hl : zs.length ≤ 65536) :
    Calls Try.prog 32 #[v] w fun e w' => ∃ u, e = .returned u ∧ w'.ownsRow w.heap.size 3 1 u zs.length (zvals zs) ∧ Below w.heap.size w w' := by
  obtain ⟨a, c, rfl, hs, hlc, hcm, hn⟩ := h
  cases a with
  | none =>
    have h0 : zs = [] := by
      rcases hs with h | ⟨b, o, h, -⟩
      · exact h
      · cases h
    have hc0 := hn rfl
    subst h0 hc0
    have hq := Go.Lib.run_eql_slice_nil (P := Try.prog) w 22 3 none 0 0 0 0 Try.underlying22
    simp only [List.length_nil]
    go_enter Try.func32, Try.ntmps32
    go_wp2_with fail
    go_ret
    exact ⟨_, rfl, World.ownsRow_nil _ _ _ _, Below.refl _ _⟩
  | some ad =>
    obtain ⟨n, hnn⟩ : ∃ n, n = zs.length := ⟨_, rfl⟩
    rw [← hnn] at hl ⊢
    have hb1 : Below w.heap.size w (w.alloc (.cells #[] 3)) := allocU w _
    have HC : Hid (∀ a, (some ad : Option Addr) = some a → ∀ j u, (zvals zs)[j]? = some u → (w.alloc (.cells #[] 3)).cell? (a.add j) = some u) := hid fun a ha j u hu => by
      cases ha
      have hj : j < zs.length := by
        have := (List.getElem?_eq_some_iff.1 hu).1
        simpa [zvals] using this
      rw [zvals_get hj] at hu
      cases hu
      rcases hs.below hb1 with h | ⟨b, o, h, -, hc⟩
      · rw [h] at hj; simp at hj
      · cases h
        rw [Addr.add_lit]; exact hc j hj
    have hown : Hid ((w.alloc (.cells #[] 3)).ownsRow w.heap.size 3 1 (.slice (some ⟨w.heap.size, 0, none⟩) 0 0) 0 (zvals [])) := hid (World.ownsRow_lit w #[] 0 (Nat.le_refl _) (Nat.zero_le _) rfl)
    have HB1 := hid hb1
    have HN := hid hnn
    have hq := fun w a l c => Go.Lib.run_eql_slice_nil (P := Try.prog) w 22 3 a l c 0 0 Try.underlying22
    clear hs hb1 hnn hlc hcm hn
    go_enter Try.func32, Try.ntmps32
    go_wp2_with (refine wpList_append_any rfl (.tmp 5) (.tmp 6) 22 rfl w.heap.size 3 (.int .i64 0) 8 Try.underlying22 infoIntS rfl _ 0 (zvals []) rfl hown.out (some ad) n c (zvals zs) rfl (by rw [zvals_len]; exact HN.out.symm) (by intro h; cases h) HC.out (zvals_one zs) (by unfold maxLen; omega) (by omega) (by simp) ?_)
    intro v w2 hv hg _
    have hb2 := below_owned HB1.out hown.out (Nat.le_refl _) hg
    have HV : Hid (w2.ownsRow w.heap.size 3 1 v n (zvals zs)) := hid hv
    clear hv hg
    go_wp2_with fail
    go_ret
    exact ⟨_, rfl, HV.out, hb2⟩
theorem sortMv (w : World) (g n : Nat) (d : Array Int) (os : Array Obj) : Mv (fun b => b = g) w (Go.Sort.grow (Go.Sort.putRow (Value.int .i64) (Go.Sort.ahead w n) g 0 d) os) := by
  refine ⟨rfl, rfl, rfl, ?_, fun i hi hn => ?_⟩
  · rw [Go.Sort.size_grow, Go.Sort.size_putRow]
    exact Nat.le_add_right _ _
  · unfold Go.Sort.grow Go.Sort.putRow Go.Sort.mapBlock
    show ((w.heap.modify g _) ++ os)[i]? = _
    rw [Array.getElem?_append_left (by simpa using hi), Array.getElem?_modify, if_neg (fun e => hn e.symm)]
/-- slices.Sort of an own row of numbers. -/
theorem sort_any (w : World) (B n : Nat) (v : Value) (l : List Int) (h : w.ownsRow B 3 1 v n (zvals l)) (hn : n ≤ 65536) :
    Calls Try.prog 62 #[v] w fun e w' => e = .returned (.tuple #[]) ∧ So (fun g => B ≤ g) w' v (l.mergeSort fun x y => decide (x ≤ y)) ∧ Mv (fun b => B ≤ b) w w' := by
  obtain ⟨a, c, rfl, rfl, hsi, hlc, hcm, hna⟩ := ownedZ h
  have hml : (l.mergeSort fun x y => decide (x ≤ y)).length = l.length := List.length_mergeSort ..
  by_cases h0 : l.length = 0
  · have e0 : l = [] := List.eq_nil_of_length_eq_zero h0
    subst e0
    have hc := Go.Proofs.AnyM.slices_Sort_int_none sortN a c w
    change Calls Try.prog 62 _ _ _ at hc
    refine hc.mono ?_
    rintro e w' ⟨rfl, rfl⟩
    exact ⟨rfl, ⟨a, c, by simp, by simpa using Si.nil _ _ _, by simp, hcm, hna⟩, Mv.refl _ _⟩
  · rcases h.2 with ⟨e, _⟩ | ⟨g, cap, cur, e, hb, hg, hnc, hm, hcs, ht⟩
    · simp only [Value.slice.injEq] at e; omega
    · simp only [Value.slice.injEq, true_and] at e
      obtain ⟨rfl, rfl⟩ := e
      have hlt : g < w.heap.size := row_lt hg
      have hH : Go.Sort.Holds (Value.int .i64) w g 0 l.toArray := fun j hj => by
        have hj' : j < l.length := by simpa using hj
        refine ⟨?_, h.frozenAt (0 + j)⟩
        have h1 := h.cells (g := g) rfl j _ (zvals_get hj')
        rw [Addr.add_lit] at h1
        rw [h1, getElem!_pos l.toArray j (by simpa using hj'), List.getD_eq_getElem?_getD, List.getElem?_eq_getElem hj']
        rfl
      have hc := Go.Proofs.AnyM.slices_Sort_int sortN g 0 c l w hH hlt (by omega)
      change Calls Try.prog 62 _ _ _ at hc
      refine hc.mono ?_
      rintro e w' ⟨rfl, m, os, rfl⟩
      have hH2 : Go.Sort.Holds (Value.int .i64) (Go.Sort.grow (Go.Sort.putRow (Value.int .i64) (Go.Sort.ahead w m) g 0 (l.mergeSort fun x y => decide (x ≤ y)).toArray) os) g 0 (l.mergeSort fun x y => decide (x ≤ y)).toArray :=
        Go.Sort.holds_grow _ _ _ _ _ _ (by rw [Go.Sort.size_putRow]; exact hlt) (Go.Sort.holds_putRow _ _ _ _ l.toArray _ (Go.Sort.holds_ahead _ _ _ _ _ _ hH) (by simp))
      refine ⟨rfl, ⟨some ⟨g, 0, none⟩, c, by rw [hml], .inr ⟨g, 0, rfl, hb, fun i hi => ?_⟩, by rw [hml]; exact hlc, hcm, fun h => by cases h⟩, (sortMv w g m _ os).sub fun i _ e => by rw [e]; exact hb⟩
      have h1 := (hH2 i (by simpa using hi)).1
      rw [h1, getElem!_pos _ i (by simpa using hi), List.getD_eq_getElem?_getD, List.getElem?_eq_getElem hi]
      rfl
set_option maxRecDepth 20000 in
set_option maxHeartbeats 1000000 in
theorem ivHeads (ok : Nat → Prop) (w : World) (v : Value) (zs : List Int) (h : So ok w v zs) (hl : zs.length ≤ 65536) (hk : ckT zs = 0) :
    Calls Try.prog 60 #[v] w fun e w' => ∃ u, e = .returned (.tuple #[u, .int .i64 0]) ∧ So (fun g => w.heap.size ≤ g) w' u (zsN (hdsT zs)) ∧ Below w.heap.size w w' := by
  have HC := hid (check_any ok w v zs h hl (ckT_i64 hk))
  rw [hk] at HC
  obtain ⟨a, c, rfl, hsi, -, -, -⟩ := h
  have HK := hid (buckets_any ok w a c zs hsi hk (by omega))
  obtain ⟨n, hn⟩ : ∃ n, n = zs.length := ⟨_, rfl⟩
  rw [← hn] at HK HC ⊢
  have HN := hid hn
  clear hsi hl hk hn
  go_enter Try.func60, Try.ntmps60
  go_wp2_with fail
  refine HC.out.mono ?_
  rintro e w' ⟨rfl, rfl⟩
  go_wp2_with fail
  refine HK.out.mono ?_
  rintro e w1 ⟨g1, g2, rfl, -, hr1, -, hb⟩
  rw [← HN.out] at hr1 ⊢
  have HR : Hid (So (fun g => w.heap.size ≤ g) w1 (.slice (some ⟨g1, 0, none⟩) (grT zs n + 1) (grT zs n + 1)) (zsN (hdsT zs))) := hid (by unfold hdsT; rw [← HN.out]; exact So.ownedN hr1)
  have HB := hid hb
  generalize grT zs n + 1 = G at *
  clear HK HC hr1 hb
  go_wp2_with fail
  go_ret2
  exact ⟨_, rfl, HR.out, HB.out⟩
end Go.Proofs.Ytmllpednaibeeaa
