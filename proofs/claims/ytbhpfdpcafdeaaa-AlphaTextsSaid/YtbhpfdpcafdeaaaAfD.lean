/- CONTRACTS: documents in memory; the law's Docs, the document's Docs. -/
import Derived.Test.YtbhpfdpcafdeaaaAfL
import Derived.Test.YtbhpfdpcafdeaaaGrowX
import Derived.Lib.MinMax
namespace Go.Inc
open Go.RowKit
abbrev EqN (x : Value) : World → Value → Prop := fun _ v => v = x
theorem uponAppend {P : Program} {o : Oper} {b : Act} {K : Act → World → Prop} {Q : Exit → Act → World → Prop} {ρ : Operand → Value} {w w' : World} {v u v' : Value} (s x : Operand) (t : TypeId)
    (ho : o.op = .call { callee := .builtin .append, args := #[s, x], argTypes := #[t, t] }) (hs : ρ s = v) (hx : ρ x = u) (hr : (Builtin.append_ #[t, t] o.type #[v, u]).run P w = .ok v' w') (hk : K (b.put o.dst v') w') :
    o.upon P b K Q ((execOp ρ o).run P w) := by
  unfold execOp
  simp only [ho, resolve, invoke, builtin, Sem.run_bind, Sem.run_pure, Result.andThen_ok, List.map_toArray, List.map_cons, List.map_nil, hs, hx, hr]
  exact hk
theorem own_slice {w : World} {B E n : Nat} {v : Value} {xs : List Value} (h : w.ownsRow B E 1 v n xs) : ∃ a c, v = .slice a n c := by
  rcases h.2 with ⟨rfl, h1⟩ | ⟨g, cap, cur, rfl, h1, _, h2, h3, _⟩
  · exact ⟨none, 0, by rw [h1]⟩
  · exact ⟨_, _, rfl⟩
theorem own_here {w : World} {B E n : Nat} {v : Value} {xs : List Value} (h : w.ownsRow B E 1 v n xs) (h0 : 0 < n) : ∃ g c, v = .slice (some ⟨g, 0, none⟩) n c ∧ n ≤ c ∧ c ≤ maxLen := by
  rcases h.2 with ⟨rfl, h1⟩ | ⟨g, cap, cur, rfl, h1, _, h2, h3, _⟩
  · omega
  · exact ⟨g, cap, rfl, h2, h3⟩
theorem owned_one {w : World} {B E s n : Nat} {v : Value} {xs : List Value} (h : w.ownsRow B E s v n xs) : v.oneCell' = true := by
  rcases h.2 with ⟨rfl, _⟩ | ⟨g, cap, cur, rfl, _⟩ <;> rfl
theorem one_all {s : Value} (h : s.oneCell' = true) : ∀ y ∈ [s], y.oneCell' = true := fun y hy => by
  obtain rfl : y = s := by simpa using hy
  exact h
theorem own_cells {w : World} {B E n c : Nat} {a : Option Addr} {xs : List Value} (h : w.ownsRow B E 1 (.slice a n c) n xs) : ∀ ad, a = some ad → ∀ j u, xs[j]? = some u → w.cell? (ad.add j) = some u := fun ad ha j u hu => by
  rcases h.2 with ⟨e, _⟩ | ⟨g, cap, cur, e, _⟩
  · cases e; cases ha
  · simp only [Value.slice.injEq] at e
    obtain ⟨rfl, -, -⟩ := e
    cases ha
    exact h.cells (g := g) rfl j u hu
theorem one_at {z : World} {bx : Nat} {u : Value} {T : TypeId} (h : z.heap[bx]? = some (.cells #[u] T (0, 0))) : ∀ j y, ([u] : List Value)[j]? = some y → z.cell? ((⟨bx, 0, none⟩ : Addr).add j) = some y := by
  intro j y hy
  rw [Addr.add_lit, cell_of_row _ _ _ _ _ _ h]
  match j, hy with
  | 0, hy => simpa using hy
  | j + 1, hy => simp at hy
theorem run_append_own_nw {P : Program} (w : World) (base : Nat) (t ty e : TypeId) (i : TypeInfo) (z : Value) (size bytes : Nat) (ht : P.underlying t = some (.slice e)) (hi : P.info? e = some i) (hz : i.zero = some z)
    (hsize : i.size = size) (hby : i.bytes = bytes) (hzs : z.cells.size = size) (hsz : 0 < size)
    (v : Value) (n : Nat) (xs : List Value) (hown : w.ownsRow base e size v n xs)
    (ad : Addr) (m c : Nat) (news : List Value) (hl : news.length = m * size) (hnews : ∀ j u, news[j]? = some u → w.cell? (ad.add j) = some u) (h1 : ∀ u ∈ news, u.oneCell' = true)
    (h63 : n + m ≤ maxLen) (hbytes : (n + m) * bytes ≤ 140737488355328) (hbase : base ≤ w.heap.size) :
    ∃ v' w', (Builtin.append_ #[t, t] ty #[v, .slice (some ad) m c]).run P w = .ok v' w' ∧ w'.ownsRow base e size v' (n + m) (xs ++ news) ∧ w.grownBy w' v.ownBlock ∧ Nw w v v' := by
  obtain ⟨v', w', hr, h2, h3, -⟩ := run_append_own (P := P) w base t ty e i z size bytes ht hi hz hsize hby hzs hsz v n xs hown ad m c news hl hnews h1 h63 hbytes hbase
  refine ⟨v', w', hr, h2, h3, ?_⟩
  have hsmall : n + m ≤ 9223372036854775807 := by simp only [maxLen] at h63; omega
  rcases hown.2 with ⟨rfl, rfl⟩ | ⟨g, cap, cur, rfl, hbg, hg, hnc, hcm, hcs, htake⟩
  · by_cases hm : m = 0
    · subst hm
      have hn : news = [] := List.eq_nil_of_length_eq_zero (by simpa using hl)
      subst hn
      have hr2 : (Builtin.append_ #[t, t] ty #[.slice none 0 0, .slice (some ad) 0 c]).run P w = .ok (.slice none 0 0) w := by
        simp [Builtin.append_, run_underlying ht, sizeOf, typeInfo, hi, Builtin.lenOf, Builtin.firstCells, loadCells, loadCellsFrom]
      rw [hr2] at hr
      cases hr
      exact .inl rfl
    · have hr2 := run_append_nil (P := P) w t ty e i z ht hi hz ad m c news (by rw [hsize]; exact hl) hnews (by omega) (by omega) (by rw [hby]; have hb := hbytes; simp only [Nat.zero_add] at hb; omega)
      rw [hr2] at hr
      cases hr
      exact .inr ⟨_, rfl, Nat.le_refl _⟩
  · by_cases hroom : n + m ≤ cap
    · have hr2 := run_append_room (P := P) w t ty e i ht hi g n cap cur hg ad m c news (by rw [hsize]; exact hl) hnews h1 hroom (by rw [hl, hcs, hsize, ← Nat.add_mul]; exact Nat.mul_le_mul_right _ hroom)
      rw [hr2] at hr
      cases hr
      exact .inl rfl
    · have holds : ∀ j u, xs[j]? = some u → w.cell? ((⟨g, 0, none⟩ : Addr).add j) = some u := hown.cells (g := g) rfl
      have hr2 := run_append_grow (P := P) w t ty e i z ht hi hz ⟨g, 0, none⟩ n cap xs (by rw [hsize]; exact hown.1) holds ad m c news (by rw [hsize]; exact hl) hnews (by omega) (by omega) (growslice_fits (by omega) (by rw [hby]; exact hbytes))
      rw [hr2] at hr
      cases hr
      exact .inr ⟨_, rfl, Nat.le_refl _⟩
/-- An append onto an empty literal makes a row of its own. -/
theorem run_append_lit_own {P : Program} (w : World) (base : Nat) (t ty e : TypeId) (z : Value) (bytes : Nat) (ht : P.underlying t = some (.slice e)) (hi : (P.info? e).map (fun i => (i.zero, i.size, i.bytes)) = some (some z, 1, bytes))
    (g : Nat) (hg : w.heap[g]? = some (.cells #[] e (0, 0))) (hb : base ≤ g) (hbase : base ≤ w.heap.size) (ao : Option Addr) (c : Nat) (news : List Value) (m : Nat) (hl : news.length = m) (hnone : ao = none → m = 0)
    (hnews : ∀ ad, ao = some ad → ∀ j u, news[j]? = some u → w.cell? (ad.add j) = some u) (hzs : z.cells.size = 1) (hm : m ≤ maxLen) (hby : m * bytes ≤ 140737488355328) :
    ∃ v' w', (Builtin.append_ #[t, t] ty #[.slice (some ⟨g, 0, none⟩) 0 0, .slice ao m c]).run P w = .ok v' w' ∧ w'.ownsRow base e 1 v' m news ∧ Below w.heap.size w w' := by
  obtain ⟨i, hi, hz0, hz1, hz2⟩ := info_parts hi
  subst hl
  by_cases h0 : news.length = 0
  · have hbs : news = [] := List.eq_nil_of_length_eq_zero h0
    subst hbs
    refine ⟨.slice (some ⟨g, 0, none⟩) 0 0, w, ?_, ⟨rfl, .inr ⟨g, 0, #[], rfl, hb, hg, Nat.le_refl _, Nat.zero_le _, rfl, rfl⟩⟩, Below.refl _ _⟩
    cases ao with
    | none => simp [Builtin.append_, run_underlying ht, sizeOf, typeInfo, hi, Builtin.lenOf, Builtin.firstCells, storeCells]
    | some a => simp [Builtin.append_, run_underlying ht, sizeOf, typeInfo, hi, Builtin.lenOf, Builtin.firstCells, loadCells, loadCellsFrom, storeCells]
  · cases ao with
    | none => exact absurd (hnone rfl) h0
    | some a =>
      have hr := run_append_grow (P := P) w t ty e i z ht hi hz0 ⟨g, 0, none⟩ 0 0 [] (by simp) (fun j u h => by simp at h) a news.length c news (by rw [hz1, Nat.mul_one]) (hnews a rfl) (by omega) (by simp only [maxLen] at hm; omega) (by rw [hz2]; exact growslice_fits (by omega) (by rw [Nat.zero_add]; exact hby))
      have hge := grownCap_ge w news.length 0 e
      simp only [Nat.zero_add, Array.empty_append] at hr
      refine ⟨_, _, hr, ⟨by rw [Nat.mul_one], .inr ⟨w.heap.size, _, _, rfl, hbase, heap_alloc_new w.drew _, hge, grownCap_le_maxLen w news.length 0 e hm, ?_, ?_⟩⟩, ⟨rfl, rfl, rfl, by simp, fun k hk => heap_alloc_old w.drew _ hk⟩⟩
      · simp only [Array.size_append, List.size_toArray, size_zeroCells, hzs]
        omega
      · simp only [Array.toList_append, Nat.mul_one]
        exact List.take_left
end Go.Inc
namespace Go.Proofs.Ytbhpfdpcafdeaaa
open Go.RowKit Go.Inc
theorem infoSl : (Try.prog.info? 49).map (fun i => (i.zero, i.size, i.bytes)) = some (some (.slice none 0 0), 1, 24) := by kernel_rfl
/-- Documents in memory: an outer row of its own, each inner one in new memory. -/
structure Pd (B : Nat) (w : World) (v : Value) (ps : List (List Nat)) (vs : List Value) : Prop where
  own : w.ownsRow B 49 1 v vs.length vs
  len : vs.length = ps.length
  at_ : ∀ i, i < ps.length → ∃ a c, vs[i]? = some (.slice a (ps.getD i []).length c) ∧ Sl (fun g => B ≤ g ∧ v.ownBlock ≠ some g) w a (ps.getD i []) ∧ (ps.getD i []).length ≤ c ∧ c ≤ maxLen
  by_ : ∀ p ∈ ps, Bytes p
theorem Pd.nil (B : Nat) (w : World) : Pd B w (.slice none 0 0) [] [] := ⟨World.ownsRow_nil _ _ _ _, rfl, fun i h => by simp at h, fun p h => by cases h⟩
theorem Pd.below {B : Nat} {w w' : World} {v : Value} {ps : List (List Nat)} {vs : List Value} (h : Pd B w v ps vs) (hb : Below w.heap.size w w') : Pd B w' v ps vs :=
  ⟨owns_mv (F := fun _ => False) h.own (Mv.of_below hb) fun _ _ => id, h.len, fun i hi => by
    obtain ⟨a, c, h1, h2, h3⟩ := h.at_ i hi
    exact ⟨a, c, h1, h2.below hb, h3⟩, h.by_⟩
def RowB (B : Nat) (p : List Nat) (z : World) (u : Value) : Prop := z.ownsRow B 5 1 u p.length (u8s p)
theorem RowB.kept {B : Nat} {p : List Nat} {y z : World} {u : Value} (h : RowB B p y u) (hg : Grew y z) : RowB B p z u := owns_mv (F := fun _ => False) h (Mv.of_below hg) fun _ _ => id
/-- One more. -/
theorem Pd.snoc {B : Nat} {w w' : World} {v v' s : Value} {ps : List (List Nat)} {vs : List Value} {p : List Nat} (h : Pd B w v ps vs) (hs : RowB B p w s) (hp : Bytes p) (ho : w'.ownsRow B 49 1 v' (vs.length + 1) (vs ++ [s])) (hg : w.grownBy w' v.ownBlock) (hn : Nw w v v') : Pd B w' v' (ps ++ [p]) (vs ++ [s]) := by
  have hk : ∀ {a : Option Addr} {q : List Nat}, Sl (fun g => B ≤ g ∧ v.ownBlock ≠ some g) w a q → Sl (fun g => B ≤ g ∧ v'.ownBlock ≠ some g) w' a q := fun hq => by
    have h1 := hq.mono (ok' := fun g => (B ≤ g ∧ v.ownBlock ≠ some g) ∧ g < w.heap.size) fun g hg hlt => ⟨hg, hlt⟩
    refine (h1.kept fun g hg2 hlt => hg.block g hlt fun e => hg2.1.2 e.symm).mono fun g hg2 _ => ⟨hg2.1.1, fun e => ?_⟩
    rcases hn with h | ⟨j, h, hj⟩
    · exact hg2.1.2 (by rw [← h]; exact e)
    · rw [h] at e; cases e; omega
  refine ⟨by rw [List.length_append]; exact ho, by rw [List.length_append, List.length_append, h.len]; rfl, fun i hi => ?_, fun q hq => ?_⟩
  · rw [List.length_append] at hi
    by_cases hlt : i < ps.length
    · obtain ⟨a, c, h1, h2, h3⟩ := h.at_ i hlt
      rw [List.getD_eq_getElem?_getD, List.getElem?_append_left hlt, ← List.getD_eq_getElem?_getD]
      exact ⟨a, c, by rw [List.getElem?_append_left (by rw [h.len]; exact hlt)]; exact h1, hk h2, h3⟩
    · obtain rfl : i = ps.length := by simp at hi; omega
      obtain ⟨a, c, he, hna, _, hsl⟩ := Sl.owned hs
      have hcap := own_cap (he ▸ hs : w.ownsRow B 5 1 (.slice a p.length c) p.length (u8s p))
      rw [List.getD_eq_getElem?_getD, List.getElem?_append_right (Nat.le_refl _), Nat.sub_self]
      refine ⟨a, c, by rw [List.getElem?_append_right (by rw [h.len]; exact Nat.le_refl _), h.len, Nat.sub_self]; simp [he], hk (hsl.mono fun g hg2 _ => ⟨hg2.1, fun e => ?_⟩), hcap⟩
      rcases owns_apart h.own hs (by decide) with h5 | h5
      · rw [h5] at e; cases e
      · exact h5 (by rw [e, hg2.2])
  · rcases List.mem_append.1 hq with h5 | h5
    · exact h.by_ q h5
    · obtain rfl : q = p := by simpa using h5
      exact hp
/-- As a slice of slices. -/
theorem Pd.pt {B : Nat} {w : World} {v : Value} {ps : List (List Nat)} {vs : List Value} (h : Pd B w v ps vs) : ∃ a c, v = .slice a ps.length c ∧ Pt (fun g => B ≤ g) w a ps := by
  by_cases h0 : ps.length = 0
  · obtain ⟨a, c, he⟩ := own_slice h.own
    have : ps = [] := List.eq_nil_of_length_eq_zero h0
    subst this
    rw [h.len] at he
    exact ⟨a, c, he, Pt.nil _ _ _⟩
  · obtain ⟨g, c, he, hc1, hc2⟩ := own_here h.own (by rw [h.len]; omega)
    have hb : B ≤ g := by
      rcases h.own.2 with ⟨e, _⟩ | ⟨g', cap, cur, e, hb, _⟩
      · rw [he] at e; cases e
      · rw [he] at e; cases e; exact hb
    have hcell := h.own.cells (g := g) (by rw [he]; rfl)
    rw [h.len] at he
    refine ⟨_, c, he, h.by_, .inr ⟨g, 0, fun i => match vs[i]? with | some (.slice a _ _) => a | _ => none, fun i => match vs[i]? with | some (.slice _ _ c) => c | _ => 0, rfl, hb, fun i hi => ?_, fun i hi => ?_, fun i hi => ?_⟩⟩
    · obtain ⟨a, c, h1, h2, h3⟩ := h.at_ i hi
      have h4 := hcell i _ h1
      rw [Addr.add_lit] at h4
      rw [h1]
      exact h4
    · obtain ⟨a, c, h1, h2, h3⟩ := h.at_ i hi
      rw [h1]
      exact h2.mono fun g hg _ => hg.1
    · obtain ⟨a, c, h1, h2, h3⟩ := h.at_ i hi
      rw [h1]
      exact h3
def PdN (B : Nat) (ps : List (List Nat)) (z : World) (u : Value) : Prop := ∃ vs, Pd B z u ps vs
theorem PdN.kept {B : Nat} {ps : List (List Nat)} {y z : World} {u : Value} (h : PdN B ps y u) (hg : Grew y z) : PdN B ps z u := by
  obtain ⟨vs, h⟩ := h
  exact ⟨vs, h.below hg⟩
/-- An empty literal; a literal of one row of bytes; one of one byte. -/
def LitE (B : Nat) (z : World) (v : Value) : Prop := ∃ g, v = .slice (some ⟨g, 0, none⟩) 0 0 ∧ B ≤ g ∧ z.heap[g]? = some (.cells #[] 5 (0, 0))
theorem LitE.kept {B : Nat} {y z : World} {v : Value} (h : LitE B y v) (hg : Grew y z) : LitE B z v := by
  obtain ⟨g, h1, h2, h3⟩ := h
  exact ⟨g, h1, h2, row_below h3 hg⟩
def LitR (B : Nat) (p : List Nat) (z : World) (v : Value) : Prop := ∃ g s, v = .slice (some ⟨g, 0, none⟩) 1 1 ∧ z.heap[g]? = some (.cells #[s] 49 (0, 0)) ∧ RowB B p z s
theorem LitR.kept {B : Nat} {p : List Nat} {y z : World} {v : Value} (h : LitR B p y v) (hg : Grew y z) : LitR B p z v := by
  obtain ⟨g, s, h1, h2, h3⟩ := h
  exact ⟨g, s, h1, row_below h2 hg, h3.kept hg⟩
def LitY (y : Int) (z : World) (v : Value) : Prop := ∃ g, v = .slice (some ⟨g, 0, none⟩) 1 1 ∧ z.heap[g]? = some (.cells #[.int .u8 y] 5 (0, 0))
theorem LitY.kept {c : Int} {y z : World} {v : Value} (h : LitY c y v) (hg : Grew y z) : LitY c z v := by
  obtain ⟨g, h1, h2⟩ := h
  exact ⟨g, h1, row_below h2 hg⟩
/-- At most eight, of at most 60 bytes. -/
def lawD (ls : List (List Nat)) : List (List Nat) := (ls.take 8).map (·.take 60)
set_option maxRecDepth 20000 in
set_option maxHeartbeats 4000000 in
theorem lawDocs_any (ok : Nat → Prop) (x : World) (a : Option Addr) (c : Nat) (ls : List (List Nat)) (hs : Pt ok x a ls)  (hcn : ∀ i, i < ls.length → (ls.getD i []).length ≤ 9223372036854775807) :
    Calls Try.prog 7 #[.slice a ls.length c] x fun e w' => ∃ u, e = .returned u ∧ PdN x.heap.size (lawD ls) w' u ∧ Below x.heap.size x w' := by
  obtain ⟨i0, hi, hz0, hz1, hz2⟩ := info_parts infoSl
  have HI := hid (And.intro hi (And.intro hz0 (And.intro hz1 hz2)))
  have HS := hid hs
  obtain ⟨n, hn⟩ : ∃ n, n = ls.length := ⟨_, rfl⟩
  have HN := hid hn
  have HCN := hid hcn
  rw [← hn]
  clear hs hi hz0 hz1 hz2 hn hcn
  go_enter Try.func7, Try.ntmps7
  go_wp2_with fail
  go_loopw [3, 4] (fun u i wr => ∃ t : Nat, t ≤ n ∧ t ≤ 8 ∧ i = .int .i64 (t : Int) ∧ PdN x.heap.size ((ls.take t).map (·.take 60)) wr u ∧ Below x.heap.size x wr) (fun _ i _ => 8 - (intOf i).toNat)
  case atStart => exact ⟨0, Nat.zero_le _, Nat.zero_le _, rfl, ⟨[], Pd.nil _ _⟩, Below.refl _ _⟩
  case round =>
    obtain ⟨t, ht, ht8, rfl, ⟨vs, hpd⟩, hb⟩ := hrel
    have HB := hid hb
    by_cases hlt : t < n
    · by_cases hl8 : t < 8
      · have ht1 : (t < n) = True := eq_true hlt
        have ht2 : (t < 8) = True := eq_true hl8
        have ht3 : ((t : Int) < (8 : Int)) = True := eq_true (by omega)
        obtain ⟨q, hq⟩ : ∃ q, q = ls.getD t [] := ⟨_, rfl⟩
        obtain ⟨p, hp⟩ : ∃ p, p = q.take 60 := ⟨_, rfl⟩
        obtain ⟨L, hL⟩ : ∃ L, L = q.length := ⟨_, rfl⟩
        obtain ⟨M, hM⟩ : ∃ M, M = p.length := ⟨_, rfl⟩
        have hmin : min (L : Int) 60 = (M : Int) := by rw [hM, hp, List.length_take, ← hL]; omega
        have hML : (M : Int) ≤ (L : Int) := by rw [hM, hp, List.length_take, ← hL]; omega
        obtain ⟨ab, ao, sa, sc, rfl, hca, hsl, hcp⟩ : ∃ ab ao sa sc, a = some ⟨ab, ao, none⟩ ∧ x.cell? ⟨ab, ao + t, none⟩ = some (.slice sa L sc) ∧ Sl ok x sa q ∧ (L ≤ sc ∧ sc ≤ maxLen) := by
          rcases HS.out.2 with h | ⟨b, o, A, C, ha, _, hp2⟩
          · have := HN.out; rw [h] at this; simp at this; omega
          · rw [hL, hq]; exact ⟨b, o, A t, C t, ha, hp2.cell t (by have := HN.out; omega), hp2.sl t (by have := HN.out; omega), hp2.cap t (by have := HN.out; omega)⟩
        have hqb : Bytes q := HS.out.1 q (by rw [hq, List.getD_eq_getElem?_getD, List.getElem?_eq_getElem (by have := HN.out; omega)]; exact List.getElem_mem _)
        have HBP : Hid (Bytes p) := hid (by rw [hp]; exact hqb.take _)
        have HM := hid hM.symm
        have HM60 : Hid (M ≤ 60) := hid (by rw [hM, hp, List.length_take]; omega)
        have HSN : Hid (sa = none → p.length = 0) := hid fun h => by
          have := hsl.some_len h
          rw [hp, List.length_take]; omega
        have HSC : Hid (∀ z, Below x.heap.size x z → ∀ ad, sa = some ad → ∀ j u, (u8s p)[j]? = some u → z.cell? (ad.add j) = some u) := hid fun z hz => by
          rw [hp]; exact ((hsl.below hz).front 60).cells
        have HC : Hid (∀ z, Below x.heap.size x z → z.cell? ⟨ab, ao + t, none⟩ = some (.slice sa L sc) ∧ True) := hid fun z hz => ⟨(by rw [World.cell?_of_block (hz.block ab (cell_lt hca))]; exact hca), trivial⟩
        obtain ⟨ps, hps⟩ : ∃ ps, ps = (ls.take t).map (·.take 60) := ⟨_, rfl⟩
        rw [← hps] at hpd
        have HX : Hid ((ls.take (t + 1)).map (·.take 60) = ps ++ [p]) := hid (by
          rw [List.take_succ_eq_append_getElem (by have := HN.out; omega), List.map_append, ← hps, hp, hq, List.getD_eq_getElem?_getD, List.getElem?_eq_getElem (by have := HN.out; omega)]
          rfl)
        have hMsc : (M : Int) ≤ (sc : Int) := by omega
        have hL9 : (L : Int) ≤ 9223372036854775807 := by have := HCN.out t (by have := HN.out; omega); rw [← hq, ← hL] at this; omega
        have HT1 : Hid (t + 1 ≤ n ∧ t + 1 ≤ 8) := hid ⟨hlt, hl8⟩
        have HBX : Hid (∀ z, (Below wr.heap.size wr z ∨ Below x.heap.size x z) → Below x.heap.size x z) := hid fun z hz => hz.elim (fun h => HB.out.trans (h.mono HB.out.size)) id
        have HPD : Hid (∀ z, Below wr.heap.size wr z → Pd x.heap.size z u3 ps vs) := hid fun z hz => hpd.below hz
        have HVL : Hid (vs.length ≤ 8) := hid (by rw [hpd.len, hps, List.length_map, List.length_take]; omega)
        clear hpd hb hlt hl8 hq hp hL hM hca hsl hcp hqb hps
        go_wp2_with fail
        refine wp_region_growsX 16 15 (fun z => Below wr.heap.size wr z) (fun z => Below x.heap.size x z) [1, 13, 14] [EqN u3, LitE x.heap.size, EqN (.slice (some ⟨ab, ao, none⟩) n c), EqN (.int .i64 (t : Int)), EqN (.pointer (some ⟨ab, ao + t, none⟩)), EqN (.slice sa L sc), EqN (.slice (some ⟨ab, ao, none⟩) n c), EqN (.int .i64 (t : Int)), EqN (.pointer (some ⟨ab, ao + t, none⟩)), EqN (.slice sa L sc), EqN (.int .i64 (L : Int)), EqN (.int .i64 (M : Int)), EqN (.slice sa M sc), RowB x.heap.size p, LitR x.heap.size p, PdN x.heap.size (ps ++ [p])] (by kernel_rfl) (by decide) (by kernel_rfl) (by kernel_rfl) (by decide) ?_ ?_ ?_ ?_ ?_ ?_
        · exact (Below.refl _ _).drew
        · exact fun p q hg h => h.trans (Below.mono hg h.size)
        · exact fun p q hg h => h.trans (Below.mono hg h.size)
        · repeat' (first | exact List.forall_mem_nil _ | refine List.forall_mem_cons.2 ⟨?_, ?_⟩)
          all_goals
            intro w w' v hw h
            first | exact h | exact LitE.kept h hw | exact RowB.kept h hw | exact LitR.kept h hw | exact PdN.kept h hw
        · simp only [AllLt]
          refine ⟨⟨⟨⟨⟨⟨⟨⟨⟨⟨⟨⟨⟨⟨⟨⟨trivial, ?_⟩, ?_⟩, ?_⟩, ?_⟩, ?_⟩, ?_⟩, ?_⟩, ?_⟩, ?_⟩, ?_⟩, ?_⟩, ?_⟩, ?_⟩, ?_⟩, ?_⟩, ?_⟩
          all_goals
            intro o' ho
            simp at ho
            subst ho
            intro ρ w5 hR hL hS hG
            obtain ⟨hl1, hl2, -⟩ := hL
          · refine plainG rfl ?_
            intro bA K Q' hK
            have e3 := hS 3 (by kernel_rfl)
            change ρ (.tmp 3) = _ at e3
            simp only [execOp]
            go_simp
            exact hK _ _ rfl (fun _ => Grew.refl _) (fun h => absurd h (by decide))
          · refine plainG rfl ?_
            intro bA K Q' hK
            simp only [execOp]
            go_simp
            exact hK _ _ ⟨_, rfl, (HBX.out w5 hR.any).size, heap_alloc_new w5 _⟩ (fun _ => (Grew.refl _).alloc _) (fun h => absurd h (by decide))
          · refine plainG rfl ?_
            intro bA K Q' hK
            have e0 := hS 0 (by kernel_rfl)
            change ρ (.tmp 0) = _ at e0
            simp only [execOp]
            go_simp
            exact hK _ _ rfl (fun _ => Grew.refl _) (fun h => absurd h (by decide))
          · refine plainG rfl ?_
            intro bA K Q' hK
            have e4 := hS 4 (by kernel_rfl)
            change ρ (.tmp 4) = _ at e4
            simp only [execOp]
            go_simp
            exact hK _ _ rfl (fun _ => Grew.refl _) (fun h => absurd h (by decide))
          · refine plainG rfl ?_
            intro bA K Q' hK
            have e17 := hG 2 17 (by decide) (by kernel_rfl) (by kernel_rfl)
            have e18 := hG 3 18 (by decide) (by kernel_rfl) (by kernel_rfl)
            change ρ (.tmp 17) = _ at e17
            change ρ (.tmp 18) = _ at e18
            simp only [execOp]
            go_simp
            exact hK _ _ rfl (fun _ => Grew.refl _) (fun h => absurd h (by decide))
          · refine plainG rfl ?_
            intro bA K Q' hK
            have e19 := hG 4 19 (by decide) (by kernel_rfl) (by kernel_rfl)
            change ρ (.tmp 19) = _ at e19
            obtain ⟨y0, y1⟩ := HC.out w5 (HBX.out w5 hR.any)
            simp only [execOp]
            go_simp
            exact hK _ _ rfl (fun _ => Grew.refl _) (fun h => absurd h (by decide))
          · refine plainG rfl ?_
            intro bA K Q' hK
            have e0 := hS 0 (by kernel_rfl)
            change ρ (.tmp 0) = _ at e0
            simp only [execOp]
            go_simp
            exact hK _ _ rfl (fun _ => Grew.refl _) (fun h => absurd h (by decide))
          · refine plainG rfl ?_
            intro bA K Q' hK
            have e4 := hS 4 (by kernel_rfl)
            change ρ (.tmp 4) = _ at e4
            simp only [execOp]
            go_simp
            exact hK _ _ rfl (fun _ => Grew.refl _) (fun h => absurd h (by decide))
          · refine plainG rfl ?_
            intro bA K Q' hK
            have e21 := hG 6 21 (by decide) (by kernel_rfl) (by kernel_rfl)
            have e22 := hG 7 22 (by decide) (by kernel_rfl) (by kernel_rfl)
            change ρ (.tmp 21) = _ at e21
            change ρ (.tmp 22) = _ at e22
            simp only [execOp]
            go_simp
            exact hK _ _ rfl (fun _ => Grew.refl _) (fun h => absurd h (by decide))
          · refine plainG rfl ?_
            intro bA K Q' hK
            have e23 := hG 8 23 (by decide) (by kernel_rfl) (by kernel_rfl)
            change ρ (.tmp 23) = _ at e23
            obtain ⟨y0, y1⟩ := HC.out w5 (HBX.out w5 hR.any)
            simp only [execOp]
            go_simp
            exact hK _ _ rfl (fun _ => Grew.refl _) (fun h => absurd h (by decide))
          · refine plainG rfl ?_
            intro bA K Q' hK
            have e24 := hG 9 24 (by decide) (by kernel_rfl) (by kernel_rfl)
            change ρ (.tmp 24) = _ at e24
            simp only [execOp]
            go_simp
            exact hK _ _ rfl (fun _ => Grew.refl _) (fun h => absurd h (by decide))
          · refine plainG rfl ?_
            intro bA K Q' hK
            have e25 := hG 10 25 (by decide) (by kernel_rfl) (by kernel_rfl)
            change ρ (.tmp 25) = _ at e25
            simp only [execOp]
            go_simp
            exact hK _ _ rfl (fun _ => Grew.refl _) (fun h => absurd h (by decide))
          · refine plainG rfl ?_
            intro bA K Q' hK
            have e20 := hG 5 20 (by decide) (by kernel_rfl) (by kernel_rfl)
            have e26 := hG 11 26 (by decide) (by kernel_rfl) (by kernel_rfl)
            change ρ (.tmp 20) = _ at e20
            change ρ (.tmp 26) = _ at e26
            simp only [execOp]
            go_simp
            exact hK _ _ rfl (fun _ => Grew.refl _) (fun h => absurd h (by decide))
          · refine plainG rfl ?_
            intro bA K Q' hK
            have e16 := hG 1 16 (by decide) (by kernel_rfl) (by kernel_rfl)
            have e27 := hG 12 27 (by decide) (by kernel_rfl) (by kernel_rfl)
            change ρ (.tmp 27) = _ at e27
            obtain ⟨g, h16, hg1, hg2⟩ := e16
            have hj := hR.ahead (by decide)
            have hbl := HBX.out w5 (.inl hj)
            obtain ⟨v', w6, hr, ho', hb6⟩ := run_append_lit_own (P := Try.prog) w5 x.heap.size 49 49 5 (.int .u8 0) 1 Try.underlying49 infoU8 g hg2 hg1 hbl.size sa sc (u8s p) M (by rw [u8s_length]; exact HM.out) (by intro h; have := HSN.out h; have := HM.out; omega) (HSC.out w5 hbl) rfl (by have := HM60.out; unfold maxLen; omega) (by have := HM60.out; omega)
            refine uponAppend (.tmp 16) (.tmp 27) 49 rfl h16 e27 hr ?_
            exact hK _ _ (show RowB x.heap.size p w6 v' by unfold RowB; rw [HM.out]; exact ho') (fun _ => hb6) (fun h => absurd h (by decide))
          · refine plainG rfl ?_
            intro bA K Q' hK
            have e28 := hG 13 28 (by decide) (by kernel_rfl) (by kernel_rfl)
            have e28' : RowB x.heap.size p w5 (ρ (.tmp 28)) := e28
            obtain ⟨a2, c2, h28⟩ := own_slice e28'
            rw [HM.out] at h28
            rw [h28] at e28'
            simp only [execOp]
            go_simp
            exact hK _ _ ⟨_, _, rfl, heap_alloc_new w5 _, e28'.kept ((Grew.refl _).alloc _)⟩ (fun _ => (Grew.refl _).alloc _) (fun h => absurd h (by decide))
          · refine plainG rfl ?_
            intro bA K Q' hK
            have e15 := hG 0 15 (by decide) (by kernel_rfl) (by kernel_rfl)
            have e29 := hG 14 29 (by decide) (by kernel_rfl) (by kernel_rfl)
            change ρ (.tmp 15) = _ at e15
            obtain ⟨g, s, h29, hg2, hrow⟩ := e29
            have hj := hR.ahead (by decide)
            have hbl := HBX.out w5 (.inl hj)
            have hpd := HPD.out w5 hj
            obtain ⟨v', w6, hr, ho', hgr, hnw⟩ := run_append_own_nw (P := Try.prog) w5 x.heap.size 22 22 49 i0 (.slice none 0 0) 1 24 Try.underlying22 HI.out.1 HI.out.2.1 HI.out.2.2.1 HI.out.2.2.2 rfl (by decide) u3 vs.length vs hpd.own ⟨g, 0, none⟩ 1 1 [s] rfl (one_at hg2) (one_all (owned_one hrow)) (by have := HVL.out; unfold maxLen; omega) (by have := HVL.out; omega) hbl.size
            refine uponAppend (.tmp 15) (.tmp 29) 22 rfl e15 h29 hr ?_
            refine hK _ _ ⟨_, hpd.snoc hrow HBP.out ho' hgr hnw⟩ (fun h => absurd rfl h) (fun _ => ⟨below_owned (w0 := x) hbl hpd.own (Nat.le_refl _) hgr, ?_⟩)
            · simp only [AllLt]
              refine ⟨⟨⟨⟨⟨⟨⟨⟨⟨⟨⟨⟨⟨⟨⟨⟨trivial, ?_⟩, ?_⟩, ?_⟩, ?_⟩, ?_⟩, ?_⟩, ?_⟩, ?_⟩, ?_⟩, ?_⟩, ?_⟩, ?_⟩, ?_⟩, ?_⟩, ?_⟩, ?_⟩
              · exact fun _ _ y hy => hy
              · exact fun _ hl => absurd hl (by decide)
              · exact fun _ _ y hy => hy
              · exact fun _ _ y hy => hy
              · exact fun _ _ y hy => hy
              · exact fun _ _ y hy => hy
              · exact fun _ _ y hy => hy
              · exact fun _ _ y hy => hy
              · exact fun _ _ y hy => hy
              · exact fun _ _ y hy => hy
              · exact fun _ _ y hy => hy
              · exact fun _ _ y hy => hy
              · exact fun _ _ y hy => hy
              · exact fun _ hl => absurd hl (by decide)
              · exact fun _ hl => absurd hl (by decide)
              · exact fun hne _ => absurd rfl hne
        · intro vv w5 hJ hG
          have h1 : PdN x.heap.size (ps ++ [p]) w5 (vv 15) := hG.2 (by decide)
          rw [← HX.out] at h1
          have H1 := hid h1
          have HB5 := hid hJ
          obtain ⟨v', hv'⟩ : ∃ v', v' = vv 15 := ⟨_, rfl⟩
          rw [← hv'] at H1
          clear hG hJ HC HPD HBX h1 HSC HX
          simp [stG, stU, dstAt, Act.put, ← hv']
          clear hv'
          go_wp2_with fail
          go_roundw
          case rel => exact ⟨t + 1, HT1.out.1, HT1.out.2, by go_num, H1.out, HB5.out⟩
          case measure => simp [intOf]; have := HT1.out; omega
      · have ht1 : (t < n) = True := eq_true hlt
        have ht2 : (t < 8) = False := eq_false hl8
        have ht3 : ((t : Int) < (8 : Int)) = False := eq_false (by omega)
        have HE : Hid ((ls.take t).map (·.take 60) = lawD ls) := hid (by rw [show t = 8 from by omega]; rfl)
        have HPD := hid hpd
        clear hpd hb hlt hl8
        go_wp2_with fail
        go_ret
        exact ⟨_, rfl, ⟨vs, by rw [← HE.out]; exact HPD.out⟩, HB.out⟩
    · have ht1 : (t < n) = False := eq_false hlt
      have HE : Hid ((ls.take t).map (·.take 60) = lawD ls) := hid (by
        unfold lawD
        rw [List.take_of_length_le (by have := HN.out; omega), List.take_of_length_le (by have := HN.out; omega)])
      have HPD := hid hpd
      clear hpd hb hlt
      go_wp2_with fail
      go_ret
      exact ⟨_, rfl, ⟨vs, by rw [← HE.out]; exact HPD.out⟩, HB.out⟩
theorem bytes_sym {z : Int} (h1 : 2 ≤ z) (h2 : z ≤ 257) {doc : List Nat} (h : Bytes doc) : Bytes (doc ++ [(z - 2).toNat]) := fun x hx => by
  rcases List.mem_append.1 hx with h3 | h3
  · exact h x h3
  · obtain rfl : x = (z - 2).toNat := by simpa using h3
    omega
theorem drop_atI {zs : List Int} {t : Nat} (h : t < zs.length) : zs.drop t = zs.getD t 0 :: zs.drop (t + 1) := by
  rw [List.drop_eq_getElem_cons h, List.getD_eq_getElem?_getD, List.getElem?_eq_getElem h]; rfl
set_option maxRecDepth 20000 in
set_option maxHeartbeats 4000000 in
theorem refDocs_any (ok : Nat → Prop) (x : World) (a : Option Addr) (c : Nat) (zs : List Int) (hs : Si ok x a zs) (hl : zs.length ≤ 1000) :
    Calls Try.prog 13 #[.slice a zs.length c] x fun e w' => (∃ u, e = .returned (.tuple #[u, .bool (docsR zs [] []).isSome]) ∧ ∀ ds, docsR zs [] [] = some ds → PdN x.heap.size ds w' u) ∧ Below x.heap.size x w' := by
  obtain ⟨i0, hi, hz0, hz1, hz2⟩ := info_parts infoSl
  have HI := hid (And.intro hi (And.intro hz0 (And.intro hz1 hz2)))
  have HS := hid hs
  obtain ⟨n, hn⟩ : ∃ n, n = zs.length := ⟨_, rfl⟩
  have HN := hid hn
  have hlb : (n : Int) ≤ 1000 := by omega
  rw [← hn]
  obtain ⟨A, hA⟩ : ∃ A, A = docsR zs [] [] := ⟨_, rfl⟩
  have HA := hid hA
  rw [← hA]
  clear hs hi hz0 hz1 hz2 hn hl hA
  go_enter Try.func13, Try.ntmps13
  go_wp2_with fail
  go_loopw [4, 5, 6, 7] (fun u dv o i wr => ∃ (t : Nat) (out : List (List Nat)) (doc : List Nat), t ≤ n ∧ i = .int .i64 (t : Int) ∧ o = .bool (decide (doc ≠ [])) ∧ PdN x.heap.size out wr u ∧ RowB x.heap.size doc wr dv ∧ A = docsR (zs.drop t) out doc ∧ out.length ≤ t ∧ doc.length ≤ t ∧ Bytes doc ∧ Below x.heap.size x wr) (fun _ _ _ i _ => n - (intOf i).toNat)
  case atStart => exact ⟨0, [], [], Nat.zero_le _, rfl, rfl, ⟨[], Pd.nil _ _⟩, World.ownsRow_nil _ _ _ _, HA.out, Nat.le_refl _, Nat.le_refl _, Bytes.nil, Below.refl _ _⟩
  case round =>
    obtain ⟨t, out, doc, ht, rfl, rfl, ⟨vs, hpd⟩, hdv, hA, hol, hdl, hdb, hb⟩ := hrel
    have HB := hid hb
    have HDB := hid hdb
    by_cases hlt : t < n
    · have ht1 : (t < n) = True := eq_true hlt
      obtain ⟨b', o', rfl, hcb⟩ : ∃ b' o', a = some ⟨b', o', none⟩ ∧ ∀ y, Below x.heap.size x y → y.cell? ⟨b', o' + t, none⟩ = some (.int .i64 (zs.getD t 0)) := by
        rcases HS.out with h | ⟨b', o', h, _, hc⟩
        · have := HN.out; rw [h] at this; simp at this; omega
        · exact ⟨b', o', h, fun y hy => by
            have h2 := hc t (by have := HN.out; omega)
            rw [World.cell?_of_block (hy.block b' (cell_lt h2))]; exact h2⟩
      have hda := drop_atI (zs := zs) (t := t) (by have := HN.out; omega)
      rw [hda] at hA
      obtain ⟨z, hz⟩ : ∃ z, z = zs.getD t 0 := ⟨_, rfl⟩
      rw [← hz] at hcb hA
      have hc0 := hcb wr hb
      have HCB := hid hcb
      have HOL := hid hol
      have HDL := hid (show doc.length ≤ 1000 by omega)
      have HDT := hid hdl
      have HT1 : Hid (t + 1 ≤ n) := hid hlt
      have HPD := hid hpd
      have HRB := hid hdv
      by_cases h0 : z = 0
      · subst h0
        rw [docsR_zero] at hA
        obtain ⟨la, hla⟩ : ∃ la, la = decide (t + 1 = n) := ⟨_, rfl⟩
        have hli : ((t : Int) == (n : Int) - 1) = la := by rw [hla, Bool.eq_iff_iff]; simp; omega
        have HRES : Hid (A.isSome = (la && !decide (doc ≠ [])) ∧ ∀ ds, A = some ds → ds = out) := hid (by
          have hre : zs.drop (t + 1) = [] ↔ t + 1 = n := by rw [List.drop_eq_nil_iff]; have := HN.out; omega
          rw [hA]
          constructor
          · rw [hla]
            by_cases h1 : t + 1 = n
            · by_cases h2 : doc = []
              · rw [if_pos ⟨hre.2 h1, h2⟩]; simp [h1, h2]
              · rw [if_neg (fun h => h2 h.2)]; simp [h2]
            · rw [if_neg (fun h => h1 (hre.1 h.1))]; simp [h1]
          · intro ds h
            split at h
            · exact (Option.some.inj h).symm
            · cases h)
        obtain ⟨op, hop⟩ : ∃ op, op = decide (doc ≠ []) := ⟨_, rfl⟩
        rw [← hop] at HRES ⊢
        clear hA hda hz hpd hdv hol hdl hdb hb hlt hcb hla hop
        cases la <;> cases op <;>
          (go_wp2_with fail
           go_ret2
           exact ⟨⟨_, by rw [HRES.out.1]; rfl, fun ds h => by rw [HRES.out.2 ds h]; exact ⟨vs, HPD.out⟩⟩, HB.out⟩)
      · by_cases h1 : z = 1
        · subst h1
          rw [docsR_one] at hA
          have HAA := hid hA
          obtain ⟨da, dc, hdve⟩ := own_slice hdv
          have HVL : Hid (vs.length ≤ 1000) := hid (by rw [hpd.len]; omega)
          rw [hdve] at HRB ⊢
          obtain ⟨nd, hnd⟩ : ∃ nd, nd = doc.length := ⟨_, rfl⟩
          have hb6 : ((1 : Int) == (0 : Int)) = false := rfl
          rw [← hnd]
          have HND := hid hnd
          clear hA hda hz hpd hdv hol hdl hdb hb hlt hcb h0 hdve hnd
          go_wp2_with (refine wpList_append_nx rfl (.tmp 38) (.tmp 40) 22 rfl x.heap.size 49 (.slice none 0 0) 24 Try.underlying22 infoSl rfl _ _ _ rfl (HPD.out.own.alloc _) (some ⟨wr.heap.size, 0, none⟩) 1 1 [.slice da nd dc] rfl rfl (by intro h; cases h) (one_new wr _ _) (one_all rfl) (by have := HVL.out; unfold maxLen; omega) (by have := HVL.out; omega) (by have := HB.out.size; simp; omega) ?_)
          intro v3 w3 hv3 hg3 hn3
          have hba : Below wr.heap.size wr (wr.alloc (.cells #[.slice da nd dc] 49)) := (Below.refl _ _).alloc (Nat.le_refl _) _
          have hrb : RowB x.heap.size doc wr (.slice da nd dc) := by have := HRB.out; rw [← HND.out] at this; exact this
          have hp3 := (HPD.out.below hba).snoc (s := .slice da nd dc) (hrb.kept hba) HDB.out hv3 hg3 hn3
          have HP3 := hid hp3
          have HB3 := hid (below_owned (w0 := x) (HB.out.alloc HB.out.size _) (HPD.out.own.alloc _) (Nat.le_refl _) hg3)
          clear hv3 hg3 hn3 hba hp3 hrb HPD HRB
          go_wp2_with fail
          go_roundw
          case rel => exact ⟨t + 1, out ++ [doc], [], HT1.out, by go_num, by simp, ⟨_, HP3.out⟩, World.ownsRow_nil _ _ _ _, HAA.out, by rw [List.length_append]; have := HOL.out; simp; omega, Nat.zero_le _, Bytes.nil, HB3.out⟩
          case measure => simp [intOf]; have := HT1.out; omega
        · by_cases h2 : 2 ≤ z ∧ z ≤ 257
          · rw [docsR_sym _ _ _ h2.1 h2.2] at hA
            have HAA := hid hA
            obtain ⟨y, hy⟩ : ∃ y, y = (z - 2).toNat := ⟨_, rfl⟩
            have hyi : z - 2 = (y : Int) := by omega
            have hyb : (y : Int) < 256 := by omega
            have hyw : IntKind.u8.wrap (y : Int) = (y : Int) := by rw [IntKind.wrap_u8]; omega
            have hyw2 : IntKind.i64.wrap (y : Int) = (y : Int) := by rw [IntKind.wrap_i64]; omega
            have hz2 := h2.1
            have hz7 := h2.2
            have HBN : Hid (Bytes (doc ++ [y])) := hid (by rw [hy]; exact bytes_sym h2.1 h2.2 hdb)
            rw [← hy] at HAA
            obtain ⟨dv, hdve⟩ : ∃ dv, dv = u5 := ⟨_, rfl⟩
            rw [← hdve] at hdv ⊢
            have HC : Hid (∀ y, Below x.heap.size x y → y.cell? ⟨b', o' + t, none⟩ = some (.int .i64 z)) := HCB
            have HDV : Hid (∀ z, Below wr.heap.size wr z → RowB x.heap.size doc z dv) := hid fun z hz => hdv.kept hz
            have HPX : Hid (∀ z, Below wr.heap.size wr z → Pd x.heap.size z u4 out vs) := hid fun z hz => hpd.below hz
            have h0b : (z == 0) = false := by rw [beq_eq_false_iff_ne]; exact h0
            have h1b : (z == 1) = false := by rw [beq_eq_false_iff_ne]; exact h1
            clear hA hda hz hpd hdv hol hdl hdb hb hlt hcb h0 h1 h2 hy hdve HCB
            go_wp2_with fail
            refine wp_region_growsX 11 10 (fun z => Below wr.heap.size wr z) (fun z => Below wr.heap.size wr z) [0, 2, 9] [LitE wr.heap.size, EqN dv, RowB wr.heap.size doc, EqN (.slice (some ⟨b', o', none⟩) n c), EqN (.int .i64 (t : Int)), EqN (.pointer (some ⟨b', o' + t, none⟩)), EqN (.int .i64 z), EqN (.int .i64 (y : Int)), EqN (.int .u8 (y : Int)), LitY (y : Int), RowB wr.heap.size (doc ++ [y])] (by kernel_rfl) (by decide) (by kernel_rfl) (by kernel_rfl) (by decide) ?_ ?_ ?_ ?_ ?_ ?_
            · exact (Below.refl _ _).drew
            · exact fun p q hg h => h.trans (Below.mono hg h.size)
            · exact fun p q hg h => h.trans (Below.mono hg h.size)
            · repeat' (first | exact List.forall_mem_nil _ | refine List.forall_mem_cons.2 ⟨?_, ?_⟩)
              all_goals
                intro w w' v hw h
                first | exact h | exact LitE.kept h hw | exact RowB.kept h hw | exact LitY.kept h hw
            · simp only [AllLt]
              refine ⟨⟨⟨⟨⟨⟨⟨⟨⟨⟨⟨trivial, ?_⟩, ?_⟩, ?_⟩, ?_⟩, ?_⟩, ?_⟩, ?_⟩, ?_⟩, ?_⟩, ?_⟩, ?_⟩
              all_goals
                intro o' ho
                simp at ho
                subst ho
                intro ρ w5 hR hL hS hG
                obtain ⟨hl1, hl2, -⟩ := hL
              · refine plainG rfl ?_
                intro bA K Q' hK
                simp only [execOp]
                go_simp
                exact hK _ _ ⟨_, rfl, (hR.any.elim id id).size, heap_alloc_new w5 _⟩ (fun _ => (Grew.refl _).alloc _) (fun h => absurd h (by decide))
              · refine plainG rfl ?_
                intro bA K Q' hK
                have e5 := hS 5 (by kernel_rfl)
                change ρ (.tmp 5) = _ at e5
                simp only [execOp]
                go_simp
                exact hK _ _ rfl (fun _ => Grew.refl _) (fun h => absurd h (by decide))
              · refine plainG rfl ?_
                intro bA K Q' hK
                have e55 := hG 0 55 (by decide) (by kernel_rfl) (by kernel_rfl)
                have e56 := hG 1 56 (by decide) (by kernel_rfl) (by kernel_rfl)
                change ρ (.tmp 56) = _ at e56
                obtain ⟨g, h55, hg1, hg2⟩ := e55
                have hj := hR.ahead (by decide)
                have hbl := hj
                obtain ⟨a2, c2, hdv⟩ := own_slice (HDV.out w5 hj)
                have hdo := HDV.out w5 hj
                rw [hdv] at e56 hdo
                obtain ⟨v', w6, hr, ho', hb6⟩ := run_append_lit_own (P := Try.prog) w5 wr.heap.size 49 49 5 (.int .u8 0) 1 Try.underlying49 infoU8 g hg2 hg1 hbl.size a2 c2 (u8s doc) doc.length (u8s_length _) (by intro h; subst h; rcases hdo.2 with ⟨_, h0⟩ | ⟨_, _, _, h1, _⟩; (· exact h0); (· cases h1)) (own_cells hdo) rfl (by have := HDL.out; unfold maxLen; omega) (by have := HDL.out; omega)
                refine uponAppend (.tmp 55) (.tmp 56) 49 rfl h55 e56 hr ?_
                exact hK _ _ (show RowB wr.heap.size doc w6 v' from ho') (fun _ => hb6) (fun h => absurd h (by decide))
              · refine plainG rfl ?_
                intro bA K Q' hK
                have e0 := hS 0 (by kernel_rfl)
                change ρ (.tmp 0) = _ at e0
                simp only [execOp]
                go_simp
                exact hK _ _ rfl (fun _ => Grew.refl _) (fun h => absurd h (by decide))
              · refine plainG rfl ?_
                intro bA K Q' hK
                have e7 := hS 7 (by kernel_rfl)
                change ρ (.tmp 7) = _ at e7
                simp only [execOp]
                go_simp
                exact hK _ _ rfl (fun _ => Grew.refl _) (fun h => absurd h (by decide))
              · refine plainG rfl ?_
                intro bA K Q' hK
                have e58 := hG 3 58 (by decide) (by kernel_rfl) (by kernel_rfl)
                have e59 := hG 4 59 (by decide) (by kernel_rfl) (by kernel_rfl)
                change ρ (.tmp 58) = _ at e58
                change ρ (.tmp 59) = _ at e59
                simp only [execOp]
                go_simp
                exact hK _ _ rfl (fun _ => Grew.refl _) (fun h => absurd h (by decide))
              · refine plainG rfl ?_
                intro bA K Q' hK
                have e60 := hG 5 60 (by decide) (by kernel_rfl) (by kernel_rfl)
                change ρ (.tmp 60) = _ at e60
                have y0 := HC.out w5 (HB.out.trans ((hR.any.elim id id).mono HB.out.size))
                simp only [execOp]
                go_simp
                exact hK _ _ rfl (fun _ => Grew.refl _) (fun h => absurd h (by decide))
              · refine plainG rfl ?_
                intro bA K Q' hK
                have e61 := hG 6 61 (by decide) (by kernel_rfl) (by kernel_rfl)
                change ρ (.tmp 61) = _ at e61
                simp only [execOp]
                go_simp
                exact hK _ _ rfl (fun _ => Grew.refl _) (fun h => absurd h (by decide))
              · refine plainG rfl ?_
                intro bA K Q' hK
                have e62 := hG 7 62 (by decide) (by kernel_rfl) (by kernel_rfl)
                change ρ (.tmp 62) = _ at e62
                simp only [execOp]
                go_simp
                exact hK _ _ rfl (fun _ => Grew.refl _) (fun h => absurd h (by decide))
              · refine plainG rfl ?_
                intro bA K Q' hK
                have e63 := hG 8 63 (by decide) (by kernel_rfl) (by kernel_rfl)
                change ρ (.tmp 63) = _ at e63
                simp only [execOp]
                go_simp
                exact hK _ _ ⟨_, rfl, heap_alloc_new w5 _⟩ (fun _ => (Grew.refl _).alloc _) (fun h => absurd h (by decide))
              · refine plainG rfl ?_
                intro bA K Q' hK
                have e57 := hG 2 57 (by decide) (by kernel_rfl) (by kernel_rfl)
                have e64 := hG 9 64 (by decide) (by kernel_rfl) (by kernel_rfl)
                have e57' : RowB wr.heap.size doc w5 (ρ (.tmp 57)) := e57
                obtain ⟨bx, h64, hrx⟩ := e64
                have hj := hR.ahead (by decide)
                have hbl := hj
                obtain ⟨dv2, hdv2⟩ : ∃ dv2, dv2 = ρ (.tmp 57) := ⟨_, rfl⟩
                rw [← hdv2] at e57'
                obtain ⟨i1, hi1, hz1, hy1, hx1⟩ := info_parts infoU8
                obtain ⟨v', w6, hr, ho', hgr, -⟩ := run_append_own (P := Try.prog) w5 wr.heap.size 49 49 5 i1 (.int .u8 0) 1 1 Try.underlying49 hi1 hz1 hy1 hx1 rfl (by decide) dv2 doc.length (u8s doc) e57' ⟨bx, 0, none⟩ 1 1 [.int .u8 (y : Int)] rfl (one_at hrx) (by simp [Value.oneCell']) (by have := HDL.out; unfold maxLen; omega) (by have := HDL.out; omega) hbl.size
                refine uponAppend (.tmp 57) (.tmp 64) 49 rfl hdv2.symm h64 hr ?_
                refine hK _ _ (show RowB wr.heap.size (doc ++ [y]) w6 v' by unfold RowB; rw [List.length_append, u8s_append]; exact ho') (fun h => absurd rfl h) (fun _ => ⟨below_owned (w0 := wr) hbl e57' (Nat.le_refl _) hgr, ?_⟩)
                · simp only [AllLt]
                  refine ⟨⟨⟨⟨⟨⟨⟨⟨⟨⟨⟨trivial, ?_⟩, ?_⟩, ?_⟩, ?_⟩, ?_⟩, ?_⟩, ?_⟩, ?_⟩, ?_⟩, ?_⟩, ?_⟩
                  · exact fun _ hl => absurd hl (by decide)
                  · exact fun _ _ y hy => hy
                  · exact fun _ hl => absurd hl (by decide)
                  · exact fun _ _ y hy => hy
                  · exact fun _ _ y hy => hy
                  · exact fun _ _ y hy => hy
                  · exact fun _ _ y hy => hy
                  · exact fun _ _ y hy => hy
                  · exact fun _ _ y hy => hy
                  · exact fun _ hl => absurd hl (by decide)
                  · exact fun hne _ => absurd rfl hne
            · intro vv w5 hJ hG
              have h1 : RowB wr.heap.size (doc ++ [y]) w5 (vv 10) := hG.2 (by decide)
              have H1 : Hid (RowB x.heap.size (doc ++ [y]) w5 (vv 10)) := hid (own_weaken h1 HB.out.size)
              have HP5 := hid (HPX.out w5 hJ)
              have HB5 := hid (HB.out.trans (hJ.mono HB.out.size))
              obtain ⟨v', hv'⟩ : ∃ v', v' = vv 10 := ⟨_, rfl⟩
              rw [← hv'] at H1
              clear hG hJ HC HPX HDV h1
              simp [stG, stU, dstAt, Act.put, ← hv']
              clear hv'
              go_wp2_with fail
              go_roundw
              case rel => exact ⟨t + 1, out, doc ++ [y], HT1.out, by go_num, by simp, ⟨vs, HP5.out⟩, H1.out, HAA.out, by have := HOL.out; omega, by rw [List.length_append]; have := HDT.out; simp; omega, HBN.out, HB5.out⟩
              case measure => simp [intOf]; have := HT1.out; omega
          · rw [docsR_bad _ _ _ (by omega)] at hA
            have HRES := hid hA
            have h0b : (z == 0) = false := by rw [beq_eq_false_iff_ne]; exact h0
            have h1b : (z == 1) = false := by rw [beq_eq_false_iff_ne]; exact h1
            by_cases h3 : 2 ≤ z
            · have h4 : 257 < z := by omega
              have h4f : (z ≤ 257) = False := eq_false (by omega)
              clear hA hda hz hpd hdv hol hdl hdb hb hlt hcb h0 h1 h2
              go_wp2_with fail
              go_ret2
              exact ⟨⟨_, by rw [HRES.out]; rfl, fun ds h => by rw [HRES.out] at h; cases h⟩, HB.out⟩
            · have h3f : (2 ≤ z) = False := eq_false h3
              have h3g : z < 2 := by omega
              clear hA hda hz hpd hdv hol hdl hdb hb hlt hcb h0 h1 h2 h3
              go_wp2_with fail
              go_ret2
              exact ⟨⟨_, by rw [HRES.out]; rfl, fun ds h => by rw [HRES.out] at h; cases h⟩, HB.out⟩
    · have ht1 : (t < n) = False := eq_false hlt
      have HRES : Hid (A = none) := hid (by rw [hA, List.drop_of_length_le (by have := HN.out; omega)]; rfl)
      clear hA hpd hdv hol hdl hdb hb hlt
      go_wp2_with fail
      go_ret2
      exact ⟨⟨_, by rw [HRES.out]; rfl, fun ds h => by rw [HRES.out] at h; cases h⟩, HB.out⟩
end Go.Proofs.Ytbhpfdpcafdeaaa
