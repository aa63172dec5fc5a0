/- OPENING WHAT CAME IN: a superblock, slices of superblocks. SMALL FACTS FOR THE STATEMENTS: cells of a slice of superblocks, a page's bytes, counts that grow. PLAIN FACTS: what is there behind a flip that a crash follows. -/
import Derived.Test.YtebacgkeolofmaaRows
import Derived.Test.YtebacgkeolofmaaU7
import Derived.Test.YtebacgkeolofmaaU29
import Derived.Test.YtebacgkeolofmaaU22
import Derived.Lib.SmallJoins
import Derived.Carry
import Derived.Test.YtebacgkeolofmaaU28
namespace Go.Proofs.Ytebacgkeolofmaa
open Go.RowKit Go.Inc Go.Deep Go.ChangeShapes Go.WideShapes

theorem cellsSup : Try.prog.cellsOf 23 = 4 := by kernel_rfl
theorem supFields : ∃ fs, Try.prog.underlying 23 = some (.struct fs) ∧ (fs[0]?).map (fun f => (f.offset, f.type)) = some (0, 3) ∧ (fs[1]?).map (fun f => (f.offset, f.type)) = some (1, 3) ∧ (fs[2]?).map (fun f => (f.offset, f.type)) = some (2, 3) ∧ (fs[3]?).map (fun f => (f.offset, f.type)) = some (3, 3) :=
  ⟨_, Try.underlying23, rfl, rfl, rfl, rfl⟩
def i64b (n : Int) : Prop := -9223372036854775808 ≤ n ∧ n ≤ 9223372036854775807
def Sp.fits (x : Sp) : Prop := i64b x.e ∧ i64b x.r ∧ i64b x.s ∧ i64b x.t
set_option maxRecDepth 100000 in
theorem open_sup {H : Type} {enc : TypeId × Value → H} {w : World} {base b0 : Nat} {held : Bool} {r : Reach} {v : Value} {d : DataW H} {p : List MemPlace} (hv : Value.okWide Try.prog w r b0 23 v) (h : DataW.Trod enc Try.prog w base (fun _ => true) held 23 v d p) :
    ∃ x : Sp, v = .agg #[.int .i64 x.e, .int .i64 x.r, .int .i64 x.s, .int .i64 x.t] ∧ x.fits := by
  obtain ⟨v0, v1, v2, v3, y0, y1, y2, y3, n, rfl, _, _, t0, t1, t2, t3⟩ := Go.Joins.open_agg4 Try.underlying23 (by kernel_rfl) cellsSup hv h
  obtain ⟨x0, e0, _, w0⟩ := DataW.trod_int Try.underlying3 t0
  obtain ⟨x1, e1, _, w1⟩ := DataW.trod_int Try.underlying3 t1
  obtain ⟨x2, e2, _, w2⟩ := DataW.trod_int Try.underlying3 t2
  obtain ⟨x3, e3, _, w3⟩ := DataW.trod_int Try.underlying3 t3
  simp only [List.cons.injEq, and_true] at e0 e1 e2 e3
  subst e0 e1 e2 e3
  exact ⟨⟨x0, x1, x2, x3⟩, rfl, bounds_i64 w0, bounds_i64 w1, bounds_i64 w2, bounds_i64 w3⟩
section
variable {H : Type} {enc : TypeId × Value → H} {w : World} {base : Nat} {held : Bool}
theorem open_sups {fuel : Nat} {v : Value} {x : DataW H × List MemPlace} {T : TypeId} (hT : Try.prog.underlying T = some (.slice 23)) (h : DataW.trod enc Try.prog w base (fun _ => true) held fuel T [v] = some x) :
    ∃ a c l, v = .slice a (List.length l) c ∧ SpS (fun _ => True) w a l ∧ (∀ y ∈ l, y.fits) ∧ l.length ≤ c ∧ c ≤ maxLen := by
  rcases open_slice hT h with ⟨hcs, _⟩ | ⟨a, len, cap, m, n, D, Pl, hcs, _, hl, hm, hmm, _, hi⟩
  · simp at hcs
    exact ⟨none, 0, [], hcs, .inl rfl, (fun k h => by cases h), Nat.le_refl _, Nat.zero_le _⟩
  · simp only [List.cons.injEq, and_true] at hcs
    simp only [if_true] at hmm
    subst hmm
    obtain ⟨fs, hu, f0, f1, f2, f3⟩ := supFields
    rw [cellsSup] at hi
    have each : ∀ i, i < m → ∃ y : Sp, w.cell? (a.add (i * 4)) = some (.int .i64 y.e) ∧ w.cell? ((a.add (i * 4)).add 1) = some (.int .i64 y.r) ∧ w.cell? ((a.add (i * 4)).add 2) = some (.int .i64 y.s) ∧ w.cell? ((a.add (i * 4)).add 3) = some (.int .i64 y.t) ∧ y.fits := by
      intro i him
      obtain ⟨cs, hc, ht⟩ := hi i him
      obtain ⟨v0, z0, n0, q0, t0⟩ := open_cell hu f0 rfl cells3 (by decide) hc ht
      obtain ⟨v1, z1, n1, q1, t1⟩ := open_cell hu f1 rfl cells3 (by decide) hc ht
      obtain ⟨v2, z2, n2, q2, t2⟩ := open_cell hu f2 rfl cells3 (by decide) hc ht
      obtain ⟨v3, z3, n3, q3, t3⟩ := open_cell hu f3 rfl cells3 (by decide) hc ht
      obtain ⟨x0, e0, _, w0⟩ := DataW.trod_int Try.underlying3 t0
      obtain ⟨x1, e1, _, w1⟩ := DataW.trod_int Try.underlying3 t1
      obtain ⟨x2, e2, _, w2⟩ := DataW.trod_int Try.underlying3 t2
      obtain ⟨x3, e3, _, w3⟩ := DataW.trod_int Try.underlying3 t3
      simp only [List.cons.injEq, and_true] at e0 e1 e2 e3
      subst e0 e1 e2 e3
      exact ⟨⟨x0, x1, x2, x3⟩, by rw [add_add, Nat.add_zero] at q0; exact q0, q1, q2, q3, bounds_i64 w0, bounds_i64 w1, bounds_i64 w2, bounds_i64 w3⟩
    haveI : Inhabited Sp := ⟨zeroSp⟩
    obtain ⟨y, hy⟩ := choose_lt each
    have hlen : ((List.range len).map y).length = len := by simp
    refine ⟨some a, m, (List.range len).map y, by rw [hlen]; exact hcs, ?_, fun k hk => ?_, by rw [hlen]; exact hl, hm⟩
    · by_cases h0 : len = 0
      · left; subst h0; rfl
      · have h00 := (hy 0 (by omega)).1
        rw [Nat.zero_mul] at h00
        obtain ⟨b, o, rfl⟩ := add_spot h00
        refine .inr ⟨b, o, rfl, trivial, fun i k hk => ?_⟩
        rw [List.getElem?_map] at hk
        obtain ⟨i', hi1, rfl⟩ := Option.map_eq_some_iff.1 hk
        obtain ⟨hi2, hi3⟩ := List.getElem?_eq_some_iff.1 hi1
        rw [List.length_range] at hi2
        rw [List.getElem_range] at hi3
        subst hi3
        obtain ⟨q0, q1, q2, q3, _⟩ := hy i (by omega)
        rw [add3] at q1 q2 q3
        rw [Addr.add_lit] at q0
        exact ⟨q0, q1, q2, q3⟩
    · obtain ⟨i, hi1, rfl⟩ := List.mem_map.1 hk
      exact (hy i (by have := List.mem_range.1 hi1; omega)).2.2.2.2
end
end Go.Proofs.Ytebacgkeolofmaa
namespace Go.Proofs.Ytebacgkeolofmaa
open Go.RowKit Go.Inc

theorem Idle.up {S : St} {P Q : List Nat} {m m' : Int} (h : Idle S P Q m) (hm : m ≤ m') : Idle S P Q m' := ⟨h.on, h.arm, h.W, h.pa, h.pb, Int.le_trans h.r hm, Int.le_trans h.s hm, Int.le_trans h.t hm⟩
theorem Dd.up {B0 : Nat} {C : Nat → Nat} {w : World} {g : Nat} {S : St} {P Q : List Nat} {m m' : Int} (h : Dd B0 C w g S P Q m) (hm : m ≤ m') : Dd B0 C w g S P Q m' := ⟨h.dv, h.idle.up hm, h.pb, h.qb, h.hi⟩
/-- The cells of a slice that came in. -/
theorem SpS.cells {ok : Nat → Prop} {w x : World} {a : Option Addr} {l : List Sp} (h : SpS ok w a l) (hb : Below w.heap.size w x) {k : Nat} (hk : k < l.length) :
    ∃ b o, a = some ⟨b, o, none⟩ ∧ x.cell? ⟨b, o + k * 4, none⟩ = some (.int .i64 (l.getD k zeroSp).e) ∧ x.cell? ⟨b, o + k * 4 + 1, none⟩ = some (.int .i64 (l.getD k zeroSp).r) ∧ x.cell? ⟨b, o + k * 4 + 2, none⟩ = some (.int .i64 (l.getD k zeroSp).s) ∧ x.cell? ⟨b, o + k * 4 + 3, none⟩ = some (.int .i64 (l.getD k zeroSp).t) := by
  rcases h.below hb with h | ⟨b, o, h1, _, h3⟩
  · rw [h] at hk; simp at hk
  · obtain ⟨c0, c1, c2, c3⟩ := h3 k (l.getD k zeroSp) (by rw [List.getD_eq_getElem?_getD, List.getElem?_eq_getElem hk]; rfl)
    exact ⟨b, o, h1, c0, c1, c2, c3⟩
theorem flFill_bytes {bs : List Nat} (h : Bytes bs) : Bytes (fill bs) := by
  unfold fill fillTo
  refine (h.take _).append ?_
  intro x hx; rw [List.mem_replicate] at hx; omega
end Go.Proofs.Ytebacgkeolofmaa
namespace Go.Proofs.Ytebacgkeolofmaa
open Go.RowKit Go.Inc

theorem flips_e {A B : List Nat} {k : Int} (h : Flips A B k) : (fiS A B).e = k := by
  rcases find_flips h with ⟨h0, _, h2⟩ | ⟨_, _, h3, _⟩
  · rw [h2, h0]; rfl
  · exact h3
theorem keptPg_bytes {X Y : List Nat} {N part : Int} (hX : Bytes X) (hY : Bytes Y) : Bytes (keptPg X [Y] N part) := by
  rcases kept_one X Y N part with h | ⟨m, _, h⟩
  · rw [h]; exact hY
  · rw [h]; exact (hY.take _).append (hX.drop _)
theorem pgOf_dry {s : (Int → List (List Nat)) × List Nat × Nat} {ks : List Kp} {k : Nat} (h : s.1 k = []) : pgOf s ks k = pg s.2.1 k := by
  unfold pgOf
  split
  · rw [h, keptPg_nil]
  · rfl
theorem pgOf_one {s : (Int → List (List Nat)) × List Nat × Nat} {ks : List Kp} {k : Nat} {Y : List Nat} (h : s.1 k = [Y]) (hX : Bytes (pg s.2.1 k)) (hY : Bytes Y) :
    Bytes (pgOf s ks k) ∧ (pgOf s ks k = pg s.2.1 k ∨ pgOf s ks k = Y ∨ ∃ m, m ≤ 256 ∧ pgOf s ks k = Y.take m ++ (pg s.2.1 k).drop m) := by
  unfold pgOf
  split
  · rename_i q _
    rw [h]
    exact ⟨keptPg_bytes hX hY, .inr (kept_one _ _ _ _)⟩
  · exact ⟨hX, .inl rfl⟩
/-- What a flip answers, and what the two pages are behind a crash. -/
def CrashOut (P Q : List Nat) (nx : Sp) (S' : St) (err : Nat) (ks : List Kp) : Prop :=
  ∃ A2 B2, pg (crashAll S' ks).2.1 0 = A2 ∧ pg (crashAll S' ks).2.1 1 = B2 ∧ Bytes A2 ∧ Bytes B2 ∧
    ((err = 0 ∧ fiE A2 B2 = 0 ∧ fiS A2 B2 = nx) ∨ (err ≠ 0 ∧ ((fiE A2 B2 = fiE P Q ∧ fiS A2 B2 = fiS P Q) ∨ (nx.ok = true ∧ fiE A2 B2 = 0 ∧ fiS A2 B2 = nx))))
theorem crash_out {C : Nat → Nat} {w : World} {g n' : Nat} {S2 S' : St} {P Q : List Nat} {K : Int} {nx : Sp} {x : Ending} (hW : ∀ y, S2.W y = []) (hP : pg S2.B 0 = P) (hQ : pg S2.B 1 = Q) (hF : Flips P Q K) (he : nx.e = K + 1) (hend : FlipEnd S2 nx x S' n') (hd : Dv C w g 2 n' S') :
    n' ≤ 1 ∧ S'.r = S2.r ∧ ∃ (z : Sp) (err : Nat), x = .returned (.tuple #[.agg #[.int .i64 z.e, .int .i64 z.r, .int .i64 z.s, .int .i64 z.t], .int .i64 (err : Nat)]) ∧ ∀ ks, CrashOut P Q nx S' err ks := by
  have hfb := hF.bytes
  have dry : ∀ (hW' : ∀ y, S'.W y = []) (ks : List Kp), pg (crashAll S' ks).2.1 0 = pg S'.B 0 ∧ pg (crashAll S' ks).2.1 1 = pg S'.B 1 := fun hW' ks => ⟨crash_dry hd ks (by decide) (hW' _), crash_dry hd ks (by decide) (hW' _)⟩
  have hse : slot nx.e = slot (K + 1) := by rw [he]
  have hsn := slot_next K
  rcases hend with ⟨h1, h2, rfl, rfl⟩ | ⟨h1, h2, h3, rfl, rfl⟩ | ⟨h1, h2, h3, h4, rfl, rfl⟩ | ⟨h1, h2, h3, h4, rfl, L, rfl, hL⟩
  · refine ⟨by omega, rfl, zeroSp, 10, h2, fun ks => ⟨P, Q, ?_, ?_, hfb.1, hfb.2, .inr ⟨by decide, .inl ⟨rfl, rfl⟩⟩⟩⟩
    · rw [(dry hW ks).1, hP]
    · rw [(dry hW ks).2, hQ]
  · refine ⟨by omega, rfl, zeroSp, 9, h3, fun ks => ⟨P, Q, ?_, ?_, hfb.1, hfb.2, .inr ⟨by decide, .inl ⟨rfl, rfl⟩⟩⟩⟩
    · rw [(dry hW ks).1]; exact hP
    · rw [(dry hW ks).2]; exact hQ
  · refine ⟨by omega, rfl, zeroSp, 9, h4, fun ks => ?_⟩
    have hw : ∀ j : Nat, ((wrote S2 (slot nx.e) (spEnc nx)).W (j : Int)) = if slot nx.e = j then [spEnc nx] else [] := fun j => by
      unfold wrote addW
      by_cases hj : slot nx.e = j
      · subst hj; simp [hW]
      · have : ¬ ((j : Int) = ((slot nx.e : Nat) : Int)) := by omega
        simp only [this, if_false, if_neg hj, hW]
    have c0 := crash_pg hd ks (k := 0) (by decide)
    have c1 := crash_pg hd ks (k := 1) (by decide)
    have hsp := spEnc_bytes nx
    have hlt := slot_lt nx.e
    rcases slot_cases nx.e with hs | hs
    · -- page 0 was written
      have hd1 := pgOf_dry (s := ((wrote S2 (slot nx.e) (spEnc nx)).W, S2.B, 0)) (ks := ks) (k := 1) (by show (wrote S2 (slot nx.e) (spEnc nx)).W ((1 : Nat) : Int) = []; rw [hw 1, if_neg (by omega)])
      obtain ⟨hb0, ho0⟩ := pgOf_one (s := ((wrote S2 (slot nx.e) (spEnc nx)).W, S2.B, 0)) (ks := ks) (k := 0) (Y := spEnc nx) (by show (wrote S2 (slot nx.e) (spEnc nx)).W ((0 : Nat) : Int) = [spEnc nx]; rw [hw 0, if_pos hs]) (by show Bytes (pg S2.B 0); rw [hP]; exact hfb.1) hsp
      have e0 : pg S2.B 0 = P := hP
      have e1 : pg S2.B 1 = Q := hQ
      refine ⟨_, _, c0, c1, hb0, ?_, .inr ⟨by decide, ?_⟩⟩
      · have h : pgOf ((wrote S2 (slot nx.e) (spEnc nx)).W, S2.B, 0) ks 1 = Q := hd1.trans e1
        have h' : Bytes (pgOf ((wrote S2 (slot nx.e) (spEnc nx)).W, S2.B, 0) ks 1) := by rw [h]; exact hfb.2
        exact h'
      · have hk : slot K = 1 := by have := slot_lt K; omega
        have hsK : slot (K + 1) = 0 := by omega
        have hfc := find_crash (A := P) (B := Q) (A2 := pgOf ((wrote S2 (slot nx.e) (spEnc nx)).W, S2.B, 0) ks 0) (B2 := pgOf ((wrote S2 (slot nx.e) (spEnc nx)).W, S2.B, 0) ks 1) hF h1 he (by
          rw [hk]; exact hd1.trans e1) (by
          rw [hsK]
          have ho0' : pgOf ((wrote S2 (slot nx.e) (spEnc nx)).W, S2.B, 0) ks 0 = pg S2.B 0 ∨ _ := ho0
          rw [e0] at ho0'
          exact ho0')
        rcases hfc with h | h
        · exact .inl h
        · exact .inr ⟨h1, h⟩
    · -- page 1 was written
      have hd0 := pgOf_dry (s := ((wrote S2 (slot nx.e) (spEnc nx)).W, S2.B, 0)) (ks := ks) (k := 0) (by show (wrote S2 (slot nx.e) (spEnc nx)).W ((0 : Nat) : Int) = []; rw [hw 0, if_neg (by omega)])
      obtain ⟨hb1, ho1⟩ := pgOf_one (s := ((wrote S2 (slot nx.e) (spEnc nx)).W, S2.B, 0)) (ks := ks) (k := 1) (Y := spEnc nx) (by show (wrote S2 (slot nx.e) (spEnc nx)).W ((1 : Nat) : Int) = [spEnc nx]; rw [hw 1, if_pos hs]) (by show Bytes (pg S2.B 1); rw [hQ]; exact hfb.2) hsp
      have e0 : pg S2.B 0 = P := hP
      have e1 : pg S2.B 1 = Q := hQ
      refine ⟨_, _, c0, c1, ?_, hb1, .inr ⟨by decide, ?_⟩⟩
      · have h : pgOf ((wrote S2 (slot nx.e) (spEnc nx)).W, S2.B, 0) ks 0 = P := hd0.trans e0
        have h' : Bytes (pgOf ((wrote S2 (slot nx.e) (spEnc nx)).W, S2.B, 0) ks 0) := by rw [h]; exact hfb.1
        exact h'
      · have hk : slot K = 0 := by have := slot_lt K; omega
        have hsK : slot (K + 1) = 1 := by omega
        have hfc := find_crash (A := P) (B := Q) (A2 := pgOf ((wrote S2 (slot nx.e) (spEnc nx)).W, S2.B, 0) ks 0) (B2 := pgOf ((wrote S2 (slot nx.e) (spEnc nx)).W, S2.B, 0) ks 1) hF h1 he (by
          rw [hk]; exact hd0.trans e0) (by
          rw [hsK]
          have ho1' : pgOf ((wrote S2 (slot nx.e) (spEnc nx)).W, S2.B, 0) ks 1 = pg S2.B 1 ∨ _ := ho1
          rw [e1] at ho1'
          exact ho1')
        rcases hfc with h | h
        · exact .inl h
        · exact .inr ⟨h1, h⟩
  · have hl0 : pg L 0 = newA nx P := by
      rw [hL 0 (by decide), rd_wrote1 hW]
      unfold newA
      by_cases h0 : slot nx.e = 0
      · rw [if_pos h0, if_pos h0]
      · rw [if_neg h0, if_neg h0]; exact hP
    have hl1 : pg L 1 = newB nx Q := by
      rw [hL 1 (by decide), rd_wrote1 hW]
      unfold newB
      have := slot_cases nx.e
      by_cases h0 : slot nx.e = 0
      · rw [if_neg (by omega), if_pos h0]; exact hQ
      · rw [if_pos (by omega), if_neg h0]
    have hfn := find_new (A := P) (B := Q) h1 (by rw [flips_e hF]; exact he)
    refine ⟨by omega, rfl, nx, 0, h4, fun ks => ⟨newA nx P, newB nx Q, ?_, ?_, newA_bytes hfb.1, newB_bytes hfb.2, .inl ⟨rfl, hfn.1, hfn.2⟩⟩⟩
    · rw [(dry (fun _ => rfl) ks).1]; exact hl0
    · rw [(dry (fun _ => rfl) ks).2]; exact hl1
end Go.Proofs.Ytebacgkeolofmaa
