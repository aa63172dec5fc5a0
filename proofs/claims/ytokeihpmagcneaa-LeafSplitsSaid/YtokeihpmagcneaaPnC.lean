/- CONTRACTS: entries that are the same; copies of entries, one behind the other. -/
import Derived.Test.YtokeihpmagcneaaPnB
import Derived.Lib.AppendZeros
namespace Go.Inc
open Go.RowKit
theorem EtS.cellsX {ok : Nat → Prop} {w : World} {es : List Et} {ad : Addr} (h : EtS ok w (some ad) es) : ∀ j u, (ecells es)[j]? = some u → w.cell? (ad.add j) = some u := by
  intro j u hu
  rcases h with rfl | ⟨b, o, hb, _, hc⟩
  · simp [ecells] at hu
  · cases hb
    have hj : j < es.length * 3 := by
      have := (List.getElem?_eq_some_iff.1 hu).1
      rwa [ecells_len] at this
    obtain ⟨i, r, rfl, hr⟩ : ∃ i r, j = i * 3 + r ∧ r < 3 := ⟨j / 3, j % 3, by omega, by omega⟩
    have hi : i < es.length := by omega
    obtain ⟨g1, g2, g3⟩ := ecells_get es i hi
    obtain ⟨q1, q2, q3⟩ := hc i hi
    rw [Addr.add_lit]
    rcases (show r = 0 ∨ r = 1 ∨ r = 2 by omega) with rfl | rfl | rfl
    · rw [Nat.add_zero] at hu ⊢
      rw [g1] at hu; cases hu; exact q1
    · rw [g2] at hu; cases hu; rw [← Nat.add_assoc]; exact q2
    · rw [g3] at hu; cases hu; rw [← Nat.add_assoc]; exact q3
/-- Entries appended onto an own row. -/
theorem run_append_es {P : Program} (w : World) {B E : Nat} (t ty : TypeId) (ht : P.underlying t = some (.slice E)) (hi0 : (P.info? E).map (fun i => (i.zero, i.size, i.bytes)) = some (some (.agg #[.int .i64 0, .int .i64 0, .int .i64 0]), 3, 24))
    {v : Value} {k : Nat} {xs : List Et} (hown : w.ownsRow B E 3 v k (ecells xs)) {ok : Nat → Prop} {a : Option Addr} {n c : Nat} {ys : List Et} (h1 : n = ys.length) (h2 : EtS ok w a ys) (hk : k ≤ 2000) (hn : n ≤ 2000) (hB : B ≤ w.heap.size) :
    ∃ v' w', (Builtin.append_ #[t, t] ty #[v, .slice a n c]).run P w = .ok v' w' ∧ w'.ownsRow B E 3 v' (k + n) (ecells (xs ++ ys)) ∧ w.grownBy w' v.ownBlock := by
  obtain ⟨i, hi, hz, hs, hb⟩ := info_parts hi0
  cases a with
  | none =>
    have hy : ys = [] := by
      rcases h2 with h | ⟨b, o, h, _⟩
      · exact h
      · cases h
    subst hy
    obtain rfl : n = 0 := h1
    exact ⟨v, w, run_append_nil_any t ty i ht hi v k c _ hown, by rw [List.append_nil]; exact hown, grown_refl _ _⟩
  | some ad =>
    obtain ⟨v', w', hr, ho, hg, -⟩ := run_append_own (P := P) w B t ty E i (.agg #[.int .i64 0, .int .i64 0, .int .i64 0]) 3 24 ht hi hz hs hb rfl (by decide) v k (ecells xs) hown ad n c (ecells ys) (by rw [ecells_len, h1]) h2.cellsX (ecells_one _) (by unfold maxLen; omega) (by omega) hB
    exact ⟨v', w', hr, by rw [ecells_app]; exact ho, hg⟩
theorem wpList_append_es {P : Program} {w : World} {ops : Array Oper} {rest : List Oper} {o : Oper} {a : Act} {Q : Exit → Act → World → Prop} (hgd : o.guard = none) (s x : Operand) (t : TypeId)
    (ho : o.op = .call { callee := .builtin .append, args := #[s, x], argTypes := #[t, t] }) (B E : Nat) (ht : P.underlying t = some (.slice E)) (hi0 : (P.info? E).map (fun i => (i.zero, i.size, i.bytes)) = some (some (.agg #[.int .i64 0, .int .i64 0, .int .i64 0]), 3, 24))
    (v : Value) (k : Nat) (xs : List Et) (hs : a.eval s = v) (hown : w.ownsRow B E 3 v k (ecells xs)) (ok : Nat → Prop) (ao : Option Addr) (n c : Nat) (ys : List Et) (hx : a.eval x = .slice ao n c) (h1 : n = ys.length) (h2 : EtS ok w ao ys) (hk : k ≤ 2000) (hn : n ≤ 2000) (hB : B ≤ w.heap.size)
    (h : ∀ v' w', w'.ownsRow B E 3 v' (k + n) (ecells (xs ++ ys)) → w.grownBy w' v.ownBlock → wpList P ops Q rest (a.put o.dst v') w') : wpList P ops Q (o :: rest) a w := by
  obtain ⟨v', w', hr, h3, h4⟩ := run_append_es (P := P) w t o.type ht hi0 hown (c := c) h1 h2 hk hn hB
  exact Go.Lib.wpList_append_run w hgd s x t t ho _ _ hs hx v' w' hr (h v' w' h3 h4)
/-- n entries of zeros appended onto nil. -/
theorem wpList_append_zeros3 {P : Program} {w : World} {ops : Array Oper} {rest : List Oper} {o : Oper} {a : Act} {Q : Exit → Act → World → Prop} (hgd : o.guard = none) (s x : Operand) (t tn : TypeId)
    (ho : o.op = .call { callee := .builtin .append, args := #[s, x], argTypes := #[t, tn] }) (e : TypeId) (ht : P.underlying t = some (.slice e)) (k kn : IntKind) (htn : P.underlying tn = some (.int kn))
    (hi : (P.info? e).map (fun i => (i.zero, i.size, i.bytes)) = some (some (.agg #[.int .i64 0, .int .i64 0, .int .i64 0]), 3, 24)) (n : Nat) (hs : a.eval s = .slice none 0 0) (hx : a.eval x = .int k n) (h0 : 0 < n) (h63 : n ≤ 1000000)
    (h : ∀ w' cap cur, w'.heap[w.heap.size]? = some (.cells cur e (0, 0)) → n ≤ cap → cap ≤ maxLen → cur.size = cap * 3 → Below w.heap.size w w' → wpList P ops Q rest (a.put o.dst (.slice (some ⟨w.heap.size, 0, none⟩) n cap)) w') : wpList P ops Q (o :: rest) a w := by
  obtain ⟨i, hi, hz0, hz1, hz2⟩ := info_parts hi
  have hge := grownCap_ge w n 0 e
  refine Go.Lib.wpList_append_run w hgd s x t tn ho _ _ hs hx _ _ (Go.Lib.run_append_nil_zeros w t tn o.type e i _ k kn ht htn hi hz0 n h0 (by omega) (by omega) (by rw [hz2]; omega)) ?_
  refine h _ _ _ (heap_alloc_new w.drew (.cells (Builtin.zeroCells (Value.cells (.agg #[.int .i64 0, .int .i64 0, .int .i64 0])) n ++ Builtin.zeroCells (Value.cells (.agg #[.int .i64 0, .int .i64 0, .int .i64 0])) (grownCap w n 0 e - n)) e)) hge (grownCap_le_maxLen w n 0 e (by unfold maxLen; omega)) ?_ (((Below.refl _ _).drew).alloc (Nat.le_refl _) _)
  rw [Array.size_append, size_zeroCells, size_zeroCells, show (Value.cells (.agg #[.int .i64 0, .int .i64 0, .int .i64 0])).size = 3 from rfl]
  omega
end Go.Inc
namespace Go.Proofs.Ytokeihpmagcneaa
open Go.RowKit Go.Inc

set_option maxRecDepth 20000 in
set_option maxHeartbeats 4000000 in
theorem equal_eq {ok ok' : Nat → Prop} {a b : Option Addr} (n c d : Nat) (es : List Et) {w : World} (ha : EtS ok w a es) (hb : EtS ok' w b es) (hn : n = es.length) (hm : (n : Int) ≤ 1000000) :
    Calls Try.prog 36 #[.slice a n c, .slice b n d] w fun e w' => e = .returned (.bool true) ∧ Below w.heap.size w w' := by
  have HA := hid ha.old
  have HB := hid hb.old
  have HN := hid hn
  have hnn : ((n : Int) != n) = false := by simp
  clear ha hb hn
  go_enter Try.func36, Try.ntmps36
  go_wp2_with fail
  go_loopw [13] (fun i wr => ∃ k : Nat, k ≤ n ∧ i = .int .i64 (k : Int) ∧ Below w.heap.size w wr) (fun i _ => n - (intOf i).toNat)
  case atStart => exact ⟨0, Nat.zero_le _, rfl, Below.refl _ _⟩
  case round =>
    obtain ⟨k, hk, rfl, hb⟩ := hrel
    have HBL := hid hb
    clear hb
    by_cases hlt : (k : Int) < n
    · have hkn : (k < n) = True := eq_true (by omega)
      obtain ⟨b1, o1, rfl, hc1, hc2, hc3⟩ := (HA.out.below HBL.out).cell (i := k) (by have := HN.out; omega)
      obtain ⟨b2, o2, rfl, hd1, hd2, hd3⟩ := (HB.out.below HBL.out).cell (i := k) (by have := HN.out; omega)
      obtain ⟨⟨⟨s, z⟩, p⟩, hx⟩ : ∃ x, x = es.getD k et0 := ⟨_, rfl⟩
      rw [← hx] at hc1 hc2 hc3 hd1 hd2 hd3
      simp only at hc1 hc2 hc3 hd1 hd2 hd3
      have h1 : ((s : Int) != s) = false := by simp
      have h2 : ((z : Int) != z) = false := by simp
      have h3 : ((p : Int) != p) = false := by simp
      have h4 : ((s : Int) == s) = true := by simp
      have h5 : ((z : Int) == z) = true := by simp
      have h6 : ((p : Int) == p) = true := by simp
      clear hx
      go_wp2_with fail
      go_quiet (fail)
      have hbq := belowDrew wr nq
      have HBQ : Hid (Below w.heap.size w (wr.drewN nq)) := hid (HBL.out.trans (hbq.mono HBL.out.size))
      generalize wr.drewN nq = wq at *
      clear hc1 hc2 hc3 hd1 hd2 hd3 hbq
      go_wp2_with fail
      go_roundw
      case rel => exact ⟨k + 1, by omega, by go_num, HBQ.out⟩
      case measure => simp [intOf]; omega
    · have hkf : (k < n) = False := eq_false (by omega)
      clear hlt
      go_wp2_with fail
      go_ret
      exact ⟨rfl, HBL.out⟩
set_option maxRecDepth 20000 in
set_option maxHeartbeats 4000000 in
theorem same_eq (a b : Option Addr) (n m c d : Nat) (lf : Bool) (es : List Et) (w : World) (ha : NdOk w a n c es) (hb : NdOk w b m d es) :
    Calls Try.prog 13 #[.agg #[.bool lf, .slice a n c], .agg #[.bool lf, .slice b m d]] w fun e w' => e = .returned (.bool true) ∧ Below w.heap.size w w' := by
  obtain rfl : m = n := by rw [ha.1, hb.1]
  obtain ⟨g, hg⟩ : ∃ g, g = w.heap.size := ⟨_, rfl⟩
  have HG := hid hg
  obtain ⟨w0, hw0⟩ : ∃ w0, w0 = (w.alloc (.cells #[.bool lf, .slice a m c] 27)).alloc (.cells #[.bool lf, .slice b m d] 27) := ⟨_, rfl⟩
  have HW0 := hid hw0
  have hb0 : Below w.heap.size w w0 := by rw [hw0]; exact ((Below.refl _ _).alloc (Nat.le_refl _) _).alloc (by simp) _
  have HB0 := hid hb0
  have hx1 : w0.heap[g]? = some (.cells #[.bool lf, .slice a m c] 27 (0, 0)) := by rw [hw0, hg]; exact heap_alloc2_old w _ _
  have hx2 : w0.heap[g + 1]? = some (.cells #[.bool lf, .slice b m d] 27 (0, 0)) := by rw [hw0, hg]; exact heap_alloc2_new w _ _
  have HE := hid (equal_eq m c d es (ha.2.1.below hb0) (hb.2.1.below hb0) ha.1 (by have := ha.2.2.1; omega))
  have hc0 : w0.cell? ⟨g, 0, none⟩ = some (.bool lf) := by rw [cell_of_row _ _ _ _ _ _ hx1]; rfl
  have hc1 : w0.cell? ⟨g, 1, none⟩ = some (.slice a m c) := by rw [cell_of_row _ _ _ _ _ _ hx1]; rfl
  have hd0 : w0.cell? ⟨g + 1, 0, none⟩ = some (.bool lf) := by rw [cell_of_row _ _ _ _ _ _ hx2]; rfl
  have hd1 : w0.cell? ⟨g + 1, 1, none⟩ = some (.slice b m d) := by rw [cell_of_row _ _ _ _ _ _ hx2]; rfl
  clear ha hb hw0 hb0 hx1 hx2 hg
  have hll : ((lf : Bool) == lf) = true := by simp
  go_enter Try.func13, Try.ntmps13
  go_upto_region 1 with fail
  rw [← HW0.out, ← HG.out]
  go_wp2_with fail
  refine HE.out.mono ?_
  clear HE
  rintro e w1 ⟨rfl, hb1⟩
  have HB1 : Hid (Below w.heap.size w w1) := hid (HB0.out.trans (hb1.mono HB0.out.size))
  clear hb1
  go_wp2_with fail
  go_ret
  exact ⟨rfl, HB1.out⟩
theorem cloneE_nil (w : World) : Calls Try.prog 43 #[.slice none 0 0] w fun e w' => e = .returned (.slice none 0 0) ∧ w = w' := by
  have hq := fun w a l c => Go.Lib.run_eql_slice_nil (P := Try.prog) w 25 57 a l c 0 0 Try.underlying25
  go_enter Try.func43, Try.ntmps43
  go_wp2
  go_ret
  exact ⟨rfl, rfl⟩
theorem cloneE_some (ok : Nat → Prop) (ad : Addr) (n c : Nat) (es : List Et) (w : World) (hs : EtS ok w (some ad) es) (hn : n = es.length) (hl : n ≤ 1000) :
    Calls Try.prog 43 #[.slice (some ad) n c] w fun e w' => (∃ v, e = .returned v ∧ w'.ownsRow w.heap.size 57 3 v n (ecells es)) ∧ Below w.heap.size w w' := by
  have HS := hid hs
  have HN := hid hn
  clear hs hn
  have hq := fun w a l c => Go.Lib.run_eql_slice_nil (P := Try.prog) w 25 57 a l c 0 0 Try.underlying25
  go_enter Try.func43, Try.ntmps43
  have hown : Hid ((w.alloc (.cells #[] 57)).ownsRow w.heap.size 57 3 (.slice (some ⟨w.heap.size, 0, none⟩) 0 0) 0 (ecells [])) := hid (World.ownsRow_lit w #[] 0 (Nat.le_refl _) (Nat.zero_le _) rfl)
  have hb1 : Below w.heap.size w (w.alloc (.cells #[] 57)) := (Below.refl _ _).alloc (Nat.le_refl _) _
  have HS1 := hid (HS.out.below hb1)
  have HB1 := hid hb1
  clear hb1 HS
  go_wp2_with (refine wpList_append_es rfl (.tmp 5) (.tmp 6) 25 rfl w.heap.size 57 Try.underlying25 infoLE _ _ [] rfl hown.out _ _ _ _ es rfl HN.out HS1.out (by omega) (by omega) (by simp) ?_)
  intro v w2 hv hg
  have hb2 := below_owned HB1.out hown.out (Nat.le_refl _) hg
  have HV := hid hv
  clear hv hg
  go_wp2_with fail
  go_ret
  refine ⟨⟨_, rfl, ?_⟩, hb2⟩
  exact HV.out
theorem cloneE_any (a : Option Addr) (n c : Nat) (es : List Et) (w : World) (h : NdOk w a n c es) :
    Calls Try.prog 43 #[.slice a n c] w fun e w' => (∃ v, e = .returned v ∧ w'.ownsRow w.heap.size 57 3 v n (ecells es)) ∧ Below w.heap.size w w' := by
  cases a with
  | none =>
    have he : es = [] := by
      rcases h.2.1 with h1 | ⟨b, o, h1, _⟩
      · exact h1
      · cases h1
    subst he
    have h0 := h.1
    have hc := h.2.2.2.2.2 rfl
    subst h0 hc
    refine (cloneE_nil w).mono ?_
    rintro e w' ⟨rfl, rfl⟩
    exact ⟨⟨_, rfl, World.ownsRow_nil _ _ _ _⟩, Below.refl _ _⟩
  | some ad => exact cloneE_some _ ad n c es w h.2.1 h.1 h.2.2.1
set_option maxRecDepth 20000 in
set_option maxHeartbeats 2000000 in
theorem growE_any (n : Nat) (w : World) (hl : n ≤ 100000) :
    Calls Try.prog 49 #[.slice none 0 0, .int .i64 (n : Int)] w fun e w' => (∃ v, e = .returned v ∧ w'.ownsRow w.heap.size 57 3 v 0 (ecells [])) ∧ Below w.heap.size w w' := by
  have hn0 : decide ((n : Int) < 0) = false := decide_eq_false (by omega)
  by_cases h0 : n = 0
  · subst h0
    go_enter Try.func49, Try.ntmps49
    go_wp2_with fail
    go_ret
    exact ⟨⟨_, rfl, World.ownsRow_nil _ _ _ _⟩, Below.refl _ _⟩
  · have h1 : 0 < n := by omega
    have h2 : (0 < n) = True := eq_true h1
    have h3 : (0 : Int) < n := by omega
    clear h0
    go_enter Try.func49, Try.ntmps49
    go_wp2_with (refine wpList_append_zeros3 rfl (.tmp 20) (.tmp 21) 25 3 rfl 57 Try.underlying25 .i64 .i64 Try.underlying3 infoLE n rfl rfl h1 (by omega) ?_)
    intro w' cap cur hr h4 h5 h6 hb
    have HR : Hid (w'.ownsRow w.heap.size 57 3 (.slice (some ⟨w.heap.size, 0, none⟩) 0 cap) 0 (ecells [])) := hid ⟨rfl, .inr ⟨w.heap.size, cap, cur, rfl, Nat.le_refl _, hr, Nat.zero_le _, h5, h6, by simp [ecells]⟩⟩
    have HB := hid hb
    clear hr hb h6
    go_wp2_with fail
    go_ret
    exact ⟨⟨_, rfl, HR.out⟩, HB.out⟩
set_option maxRecDepth 20000 in
set_option maxHeartbeats 4000000 in
theorem concat_any {ok ok' : Nat → Prop} (a b : Option Addr) (n m c d g : Nat) (es fs : List Et) (w : World) (T : TypeId) (hg : w.heap[g]? = some (.cells #[.slice a n c, .slice b m d] T (0, 0))) (ha : EtS ok w a es) (hb : EtS ok' w b fs) (hn : n = es.length) (hm : m = fs.length) (hl : n ≤ 1000 ∧ m ≤ 1000) :
    Calls Try.prog 42 #[.slice (some ⟨g, 0, none⟩) 2 2] w fun e w' => (∃ v, e = .returned v ∧ w'.ownsRow w.heap.size 57 3 v (n + m) (ecells (es ++ fs))) ∧ Below w.heap.size w w' := by
  have HA := hid ha
  have HB := hid hb
  have HNM := hid (And.intro hn hm)
  have HROW := hid hg
  have HC : Hid (∀ y, Below w.heap.size w y → y.cell? ⟨g, 0, none⟩ = some (.slice a n c) ∧ y.cell? ⟨g, 1, none⟩ = some (.slice b m d)) := hid fun y hy => by
    have h := row_below HROW.out hy
    exact ⟨by rw [cell_of_row _ _ _ _ _ _ h]; rfl, by rw [cell_of_row _ _ _ _ _ _ h]; rfl⟩
  have hl1 : (n : Int) ≤ 1000 := by omega
  have hl2 : (m : Int) ≤ 1000 := by omega
  have HGR := hid (growE_any (n + m) w (by omega))
  clear ha hb hn hm hg hl HROW
  obtain ⟨hc0, hc1⟩ := HC.out w (Below.refl _ _)
  go_enter Try.func42, Try.ntmps42
  go_wp2_with fail
  go_loop [3, 11] (fun z i => ∃ k s : Nat, i = .int .i64 (k : Int) ∧ z = .int .i64 (s : Int) ∧ (k = 0 ∧ s = 0 ∨ k = 1 ∧ s = n ∨ k = 2 ∧ s = n + m)) (fun _ i => 2 - (intOf i).toNat)
  case atStart => exact ⟨0, 0, rfl, rfl, .inl ⟨rfl, rfl⟩⟩
  case round =>
    obtain ⟨k, s, rfl, rfl, ⟨rfl, rfl⟩ | ⟨rfl, rfl⟩ | ⟨rfl, rfl⟩⟩ := hrel
    · go_wp2_with fail
      go_round
      case rel => exact ⟨1, n, by go_num, by go_num, .inr (.inl ⟨rfl, rfl⟩)⟩
      case measure => simp [intOf]
    · go_wp2_with fail
      go_round
      case rel => exact ⟨2, s + m, by go_num, by go_num, .inr (.inr ⟨rfl, rfl⟩)⟩
      case measure => simp [intOf]
    · go_wp2_with fail
      refine HGR.out.mono ?_
      clear HGR hc0 hc1
      rintro e w1 ⟨⟨v, rfl, hv⟩, hb1⟩
      have HV := hid hv
      have HB1 := hid hb1
      clear hv hb1
      go_wp2_with fail
      go_loopw [6, 27] (fun v i wr => ∃ (k s : Nat) (ls : List Et), i = .int .i64 (k : Int) ∧ (k = 0 ∧ s = 0 ∧ ls = [] ∨ k = 1 ∧ s = n ∧ ls = es ∨ k = 2 ∧ s = n + m ∧ ls = es ++ fs) ∧ wr.ownsRow w.heap.size 57 3 v s (ecells ls) ∧ Below w.heap.size w wr) (fun _ i _ => 2 - (intOf i).toNat)
      case atStart => exact ⟨0, 0, [], rfl, .inl ⟨rfl, rfl, rfl⟩, HV.out, HB1.out⟩
      case round =>
        clear HV HB1
        obtain ⟨k, s, ls, rfl, h3, hv, hb2⟩ := hrel
        have HV := hid hv
        have HB2 := hid hb2
        obtain ⟨hc0, hc1⟩ := HC.out wr hb2
        clear hv hb2
        rcases h3 with ⟨rfl, rfl, rfl⟩ | ⟨rfl, rfl, rfl⟩ | ⟨rfl, rfl, rfl⟩
        · go_wp2_with (refine wpList_append_es rfl (.tmp 31) (.tmp 32) 25 rfl w.heap.size 57 Try.underlying25 infoLE _ _ _ rfl HV.out _ _ _ _ es rfl HNM.out.1 (HA.out.below HB2.out) (by omega) (by omega) HB2.out.size ?_)
          intro v2 w2 hv2 hg2
          have HB3 := hid (below_owned HB2.out HV.out (Nat.le_refl _) hg2)
          have HV2 := hid hv2
          clear hv2 hg2 HV hc0 hc1
          go_wp2_with fail
          go_roundw
          case rel => exact ⟨1, n, es, by go_num, .inr (.inl ⟨rfl, rfl, rfl⟩), HV2.out, HB3.out⟩
          case measure => simp [intOf]
        · go_wp2_with (refine wpList_append_es rfl (.tmp 31) (.tmp 32) 25 rfl w.heap.size 57 Try.underlying25 infoLE _ _ _ rfl HV.out _ _ _ _ fs rfl HNM.out.2 (HB.out.below HB2.out) (by omega) (by omega) HB2.out.size ?_)
          intro v2 w2 hv2 hg2
          have HB3 := hid (below_owned HB2.out HV.out (Nat.le_refl _) hg2)
          have HV2 := hid hv2
          clear hv2 hg2 HV hc0 hc1
          go_wp2_with fail
          go_roundw
          case rel => exact ⟨2, _, _, by go_num, .inr (.inr ⟨rfl, rfl, rfl⟩), HV2.out, HB3.out⟩
          case measure => simp [intOf]
        · clear hc0 hc1
          go_wp2_with fail
          go_ret
          exact ⟨⟨_, rfl, HV.out⟩, HB2.out⟩
end Go.Proofs.Ytokeihpmagcneaa
