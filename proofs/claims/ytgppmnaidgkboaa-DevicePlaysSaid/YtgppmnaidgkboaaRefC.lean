/- CONTRACTS OF THE DOCUMENT's DEVICE: reading; the image. -/
import Derived.Test.YtgppmnaidgkboaaRefB
namespace Go.Proofs.Ytgppmnaidgkboaa
open Go.RowKit Go.Inc

/-- What waits of a page. -/
def vsOf (L : List (Int × List Nat)) (x : Int) : List (List Nat) := (L.filter fun e => e.1 = x).map (·.2)
theorem vsOf_snoc (L : List (Int × List Nat)) (y x : Int) (b : List Nat) : vsOf (L ++ [(y, b)]) x = if y = x then vsOf L x ++ [b] else vsOf L x := by
  unfold vsOf
  by_cases h : y = x <;> simp [h]
/-- The last one, or the page. -/
def lastOr (q : List Nat) (vs : List (List Nat)) : List Nat := if vs = [] then q else vs.getD (vs.length - 1) []
theorem lastOr_snoc (q : List Nat) (vs : List (List Nat)) (b : List Nat) : lastOr q (vs ++ [b]) = b := by
  unfold lastOr
  rw [if_neg (by simp)]
  simp [List.getD_eq_getElem?_getD]
/-- The item that is read, of the first ones of what waits. -/
def curOf (q : Item) (x : Int) : List (Int × Item) → Item
  | [] => q
  | e :: r => curOf (if e.1 = x then e.2 else q) x r
theorem curOf_snoc (q : Item) (x : Int) (L : List (Int × Item)) (e : Int × Item) : curOf q x (L ++ [e]) = if e.1 = x then e.2 else curOf q x L := by
  induction L generalizing q with
  | nil => rfl
  | cons a r ih => exact ih _
theorem lastOr_cons (q b : List Nat) (vs : List (List Nat)) : lastOr q (b :: vs) = lastOr b vs := by
  unfold lastOr
  cases vs with
  | nil => rfl
  | cons a r => simp
theorem curOf_b (x : Int) : ∀ (L : List (Int × Item)) (q : Item), (curOf q x L).b = lastOr q.b (vsOf (L.map fun e => (e.1, e.2.b)) x)
  | [], q => rfl
  | e :: r, q => by
    show (curOf (if e.1 = x then e.2 else q) x r).b = _
    rw [curOf_b x r]
    unfold vsOf
    by_cases h : e.1 = x
    · simp only [h, List.map_cons, decide_true, List.filter_cons_of_pos, if_true]
      rw [lastOr_cons]
    · simp only [h, List.map_cons, if_false]
      rw [List.filter_cons_of_neg (by simp [h])]
theorem curOf_good {K : Nat → Nat} {w : World} {x : Int} {L : List (Int × Item)} {q : Item} (hq : Good K w q) (hL : ∀ e ∈ L, Good K w e.2) : Good K w (curOf q x L) := by
  induction L generalizing q with
  | nil => exact hq
  | cons a r ih =>
    refine ih ?_ fun e he => hL e (List.mem_cons_of_mem _ he)
    split
    · exact hL a List.mem_cons_self
    · exact hq
/-- What the document reads. -/
def rread (R : Rs) (k : Nat) : List Nat := lastOr (R.P.getD k []) (vsOf R.L k)

theorem rread_down {K w h ldv llv P L R} (H : RefAt K w h ldv llv P L R) (x : Int) (ho : R.off = true) : Calls Try.prog 24 #[.pointer (some ⟨h, 0, none⟩), .int .i64 x] w fun e w' => e = .returned (.tuple #[.slice none 0 0, .int .i64 9]) ∧ w = w' := by
  have c2 := H.row.c2
  rw [ho] at c2
  clear H ho
  go_enter Try.func24, Try.ntmps24
  go_wp2
  go_ret2
  exact ⟨rfl, rfl⟩
theorem rread_range {K w h ldv llv P L R} (H : RefAt K w h ldv llv P L R) (hp : 0 < P.length) (x : Int) (ho : R.off = false) (hx : ¬ (0 ≤ x ∧ x < P.length)) : Calls Try.prog 24 #[.pointer (some ⟨h, 0, none⟩), .int .i64 x] w fun e w' => e = .returned (.tuple #[.slice none 0 0, .int .i64 10]) ∧ w = w' := by
  have c2 := H.row.c2
  have c0 := H.row.c0
  rw [ho] at c2
  obtain ⟨b, c, rfl, _⟩ := H.pshape hp
  generalize P.length = p at *
  clear H ho
  by_cases h0 : x < 0
  · have h1 : decide (x < 0) = true := decide_eq_true h0
    go_enter Try.func24, Try.ntmps24
    go_wp2
    go_ret2
    exact ⟨rfl, rfl⟩
  · have h1 : decide (x < 0) = false := decide_eq_false h0
    have h2 : decide ((p : Int) ≤ x) = true := decide_eq_true (by omega)
    go_enter Try.func24, Try.ntmps24
    go_wp2
    go_ret2
    exact ⟨rfl, rfl⟩

set_option maxRecDepth 20000 in
set_option maxHeartbeats 1000000 in
theorem rread_any {K w h ldv llv P L R} (H : RefAt K w h ldv llv P L R) (k : Nat) (hk : k < P.length) (hpl : P.length ≤ 20) (hll : L.length ≤ 1000) (ho : R.off = false) (hr : R.r ≤ 1000000) :
    Calls Try.prog 24 #[.pointer (some ⟨h, 0, none⟩), .int .i64 (k : Int)] w fun e w' => ∃ q : Item, e = .returned (.tuple #[.slice q.a 256 q.c, .int .i64 0]) ∧ Good K w' q ∧ q.b = rread R k ∧ RefAt K w' h ldv llv P L { R with r := R.r + 1 } ∧ Mv (fun b => b = h) w w' := by
  have c2 := H.row.c2
  have c0 := H.row.c0
  have c4 := H.row.c4
  have f4 := H.row.fz 4
  rw [ho] at c2
  obtain ⟨b, c, rfl, hpc, hpm, hKb, hpcell⟩ := H.pshape (by omega)
  obtain ⟨la, lc, hle, hlc1, hlc2, hlcell⟩ := H.lshape
  subst hle
  obtain ⟨q0, hq0⟩ : ∃ q0, P[k]? = some q0 := ⟨_, List.getElem?_eq_getElem hk⟩
  have hb0 := hpcell k q0 hq0
  have hbh : b ≠ h := by rintro rfl; rw [H.kh] at hKb; omega
  have hcnt := H.cnt
  have hrb : (0 : Int) ≤ R.r := H.cnt.1
  obtain ⟨r, hrr⟩ : ∃ r, r = R.r := ⟨_, rfl⟩
  rw [← hrr] at c4 hr hrb
  have hm1 : Mv (fun b => b = h) w (w.setCell ⟨h, 4, none⟩ (.int .i64 (r + 1))) := Mv.of_grown (r := some h) (grown_setCell (grown_refl _ _) (.inl rfl) _) fun g h _ => by cases h; rfl
  have HR1 := H.turn hm1 (fun _ h => h) (H.row.s4 (r + 1)) H.lb (show 0 ≤ r + 1 ∧ 0 ≤ R.s ∧ 0 ≤ R.t from ⟨by omega, hcnt.2.1, hcnt.2.2⟩)
  have hread : Hid ((curOf q0 k L).b = rread R k) := hid (by
    rw [curOf_b]
    unfold rread
    rw [H.le, H.pe, List.getD_eq_getElem?_getD, List.getElem?_map, hq0]
    rfl)
  have hgood0 : Good K w q0 := H.pall _ (List.mem_of_getElem? hq0)
  have hgoodL : ∀ e ∈ L, Good K w e.2 := fun e he => (H.lall e he).1
  have hKh := H.kh
  have hgood : Hid (Good K (w.setCell ⟨h, 4, none⟩ (.int .i64 (r + 1))) (curOf q0 k L)) := hid ((curOf_good hgood0 hgoodL).mv hm1 fun b hb => by rw [hb, hKh]; decide)
  have hb1 : (w.setCell ⟨h, 4, none⟩ (.int .i64 (r + 1))).cell? ⟨b, k, none⟩ = some (.slice q0.a 256 q0.c) := hm1.cell hb0 hbh
  have hlcell1 : Hid (∀ i e, L[i]? = some e → ∃ b, la = some ⟨b, 0, none⟩ ∧ (w.setCell ⟨h, 4, none⟩ (.int .i64 (r + 1))).cell? ⟨b, i * 2, none⟩ = some (.int .i64 e.1) ∧ (w.setCell ⟨h, 4, none⟩ (.int .i64 (r + 1))).cell? ⟨b, i * 2 + 1, none⟩ = some (.slice e.2.a 256 e.2.c)) := hid (fun i e he => by
    obtain ⟨b', h1, h2, h3, h4⟩ := hlcell i e he
    have hbh' : b' ≠ h := by rintro rfl; omega
    exact ⟨b', h1, hm1.cell h3 hbh', hm1.cell h4 hbh'⟩)
  have c01 := HR1.row.c0
  have c11 := HR1.row.c1
  have hp0 : (k : Int) < (P.length : Int) ∧ (0 : Int) ≤ k := by omega
  have t1 : decide ((k : Int) < 0) = false := decide_eq_false (by omega)
  have t2 : decide ((P.length : Int) ≤ (k : Int)) = false := decide_eq_false (by omega)
  obtain ⟨m, hm⟩ : ∃ m, m = L.length := ⟨_, rfl⟩
  rw [← hm] at c11 HR1 hll hlc1
  have HMm := hid hm
  obtain ⟨p, hp⟩ : ∃ p, p = P.length := ⟨_, rfl⟩
  rw [← hp] at c0 c01 hp0 t2 HR1 hpl hpc ⊢
  have HRR := hid hrr
  have HR1h := hid HR1
  have HM1 := hid hm1
  rw [← hm]
  clear H HR1 hm1 hb0 hlcell hpcell hq0 hm hp hrr hcnt hgood0 hgoodL hk ho hKb hpm hlc2 hbh hKh
  go_enter Try.func24, Try.ntmps24
  go_wp2_with fail
  obtain ⟨w1, hw1⟩ : ∃ w1, w1 = w.setCell ⟨h, 4, none⟩ (.int .i64 (r + 1)) := ⟨_, rfl⟩
  rw [← hw1] at hgood hb1 hlcell1 c01 c11 HR1h HM1 ⊢
  clear hw1 c0 c2 c4 f4
  go_loopw [6, 7] (fun v i wr => ∃ (j : Nat) (q : Item), Value.slice q.a 256 q.c = v ∧ j ≤ m ∧ i = .int .i64 (j : Int) ∧ q = curOf q0 k (L.take j) ∧ w1 = wr) (fun _ i _ => m - (intOf i).toNat)
  case atStart => exact ⟨0, q0, rfl, Nat.zero_le _, rfl, rfl, rfl⟩
  case round =>
    obtain ⟨j, q, rfl, hj, rfl, hq, rfl⟩ := hrel
    have HQ := hid hq
    clear hq
    by_cases hlt : (j : Int) < m
    · obtain ⟨e, he⟩ : ∃ e, L[j]? = some e := ⟨_, List.getElem?_eq_getElem (by rw [← HMm.out]; omega)⟩
      obtain ⟨b', rfl, e0, e1⟩ := hlcell1.out j e he
      have hsn := hid (show curOf q0 k (L.take (j + 1)) = if e.1 = (k : Int) then e.2 else curOf q0 k (L.take j) from by
        obtain ⟨hj', he'⟩ := List.getElem?_eq_some_iff.1 he
        rw [List.take_succ_eq_append_getElem hj', he', curOf_snoc])
      obtain ⟨x, q'⟩ := e
      simp only at e0 e1
      clear he
      by_cases hx : x = (k : Int)
      · have hx' : (x == (k : Int)) = true := by simpa using hx
        have Hx := hid hx
        clear hx
        go_wp2_with fail
        go_roundw
        case rel => exact ⟨j + 1, q', rfl, by omega, by go_num, by rw [hsn.out, if_pos Hx.out], trivial⟩
        case measure => simp [intOf]; omega
      · have hx' : (x == (k : Int)) = false := by simpa using hx
        have Hx := hid hx
        clear hx
        go_wp2_with fail
        go_roundw
        case rel => exact ⟨j + 1, q, rfl, by omega, by go_num, by rw [hsn.out, if_neg Hx.out, HQ.out], trivial⟩
        case measure => simp [intOf]; omega
    · have hge : (m : Int) ≤ j := by omega
      have hjm : Hid (L.take j = L) := hid (by rw [List.take_of_length_le]; rw [← HMm.out]; omega)
      clear hlt
      go_wp2_with fail
      go_ret2
      have hq := HQ.out
      rw [hjm.out] at hq
      refine ⟨q, rfl, by rw [hq]; exact hgood.out, by rw [hq]; exact hread.out, ?_, HM1.out⟩
      have := HR1h.out
      rw [HRR.out] at this
      exact this
end Go.Proofs.Ytgppmnaidgkboaa
