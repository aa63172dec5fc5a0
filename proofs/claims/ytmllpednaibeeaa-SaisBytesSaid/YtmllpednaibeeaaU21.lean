/- CONTRACTS: how often a symbol is; the document's table. PLAIN FACTS OF TEXTS OF DOCUMENTS: reading one; there and back. No program is named here. CONTRACTS: documents in memory; the law's Docs, the document's Docs. THE WALK OF 'AlphaTexts', over the program's contracts. CONTRACTS: the document's text of documents. -/
import Derived.Test.YtmllpednaibeeaaRows
import Derived.Test.YtmllpednaibeeaaU0
import Derived.Test.YtmllpednaibeeaaU20
import Derived.Test.YtmllpednaibeeaaU7
import Derived.Deep.OwnRows
import Derived.Test.YtmllpednaibeeaaU3
import Derived.Deep.QuietTactic
import Derived.BigQuiet
import Derived.Test.YtmllpednaibeeaaU18
import Derived.Test.YtmllpednaibeeaaU14
import Derived.Lib.Zigzag
import Derived.IntWalk
import Derived.WalkMore
import Derived.Deep.LoopGhost
import Derived.Test.YtmllpednaibeeaaU15
import Derived.Lib.MinMax
namespace Go.Proofs.Ytmllpednaibeeaa
open Go.RowKit Go.Inc
theorem infoIntA : (Try.prog.info? 3).map (fun i => (i.zero, i.size, i.bytes)) = some (some (.int .i64 0), 1, 8) := by kernel_rfl
end Go.Proofs.Ytmllpednaibeeaa
namespace Go.Inc
open Go.RowKit
def nZ (l : List Nat) : List Int := l.map fun x : Nat => (x : Int)
/-- The documents of a text: what is left, those that are read, the one that is open. -/
def docsR : List Int → List (List Nat) → List Nat → Option (List (List Nat))
  | [], _, _ => none
  | z :: zs, out, doc => if z = 0 then (if zs = [] ∧ doc = [] then some out else none) else if z = 1 then docsR zs (out ++ [doc]) [] else if 2 ≤ z ∧ z ≤ 257 then docsR zs out (doc ++ [(z - 2).toNat]) else none
theorem docsR_zero (zs : List Int) (out : List (List Nat)) (doc : List Nat) : docsR (0 :: zs) out doc = if zs = [] ∧ doc = [] then some out else none := by
  show (if (0 : Int) = 0 then _ else _) = _
  rw [if_pos rfl]
theorem docsR_one (zs : List Int) (out : List (List Nat)) (doc : List Nat) : docsR (1 :: zs) out doc = docsR zs (out ++ [doc]) [] := by
  show (if (1 : Int) = 0 then _ else if (1 : Int) = 1 then _ else _) = _
  rw [if_neg (by decide), if_pos rfl]
theorem docsR_sym {z : Int} (zs : List Int) (out : List (List Nat)) (doc : List Nat) (h1 : 2 ≤ z) (h2 : z ≤ 257) : docsR (z :: zs) out doc = docsR zs out (doc ++ [(z - 2).toNat]) := by
  show (if z = 0 then _ else if z = 1 then _ else if 2 ≤ z ∧ z ≤ 257 then _ else _) = _
  rw [if_neg (by omega), if_neg (by omega), if_pos ⟨h1, h2⟩]
theorem docsR_bad {z : Int} (zs : List Int) (out : List (List Nat)) (doc : List Nat) (h : z < 0 ∨ 257 < z) : docsR (z :: zs) out doc = none := by
  show (if z = 0 then _ else if z = 1 then _ else if 2 ≤ z ∧ z ≤ 257 then _ else _) = _
  rw [if_neg (by omega), if_neg (by omega), if_neg (by omega)]
theorem nZ_app (a b : List Nat) : nZ (a ++ b) = nZ a ++ nZ b := by unfold nZ; rw [List.map_append]
theorem nZ_len (a : List Nat) : (nZ a).length = a.length := by simp [nZ]
theorem docsR_doc : ∀ (d : List Nat) (rest : List Int) (out : List (List Nat)) (doc : List Nat), Bytes d → docsR (nZ (d.map (· + 2)) ++ 1 :: rest) out doc = docsR rest (out ++ [doc ++ d]) []
  | [], rest, out, doc, _ => by
    show docsR (1 :: rest) out doc = _
    rw [docsR_one, List.append_nil]
  | y :: d, rest, out, doc, h => by
    have hy : y < 256 := h y (by simp)
    show docsR (((y + 2 : Nat) : Int) :: (nZ (d.map (· + 2)) ++ 1 :: rest)) out doc = _
    rw [docsR_sym _ _ _ (by omega) (by omega), docsR_doc d rest out _ (fun x hx => h x (List.mem_cons_of_mem _ hx)), show (((y + 2 : Nat) : Int) - 2).toNat = y from by omega, List.append_assoc]
    rfl
theorem docsR_docs : ∀ (ds out : List (List Nat)), (∀ d ∈ ds, Bytes d) → docsR (nZ (txtD ds ++ [0])) out [] = some (out ++ ds)
  | [], out, _ => by
    show docsR [0] out [] = _
    rw [docsR_zero, if_pos ⟨rfl, rfl⟩, List.append_nil]
  | d :: ds, out, h => by
    show docsR (nZ ((d.map (· + 2) ++ 1 :: txtD ds) ++ [0])) out [] = _
    rw [List.append_assoc, nZ_app]
    show docsR (nZ (d.map (· + 2)) ++ 1 :: nZ (txtD ds ++ [0])) out [] = _
    rw [docsR_doc d _ out [] (h d (by simp)), List.nil_append, docsR_docs ds _ (fun x hx => h x (List.mem_cons_of_mem _ hx)), List.append_assoc]
    rfl
/-- The documents of documents' text. -/
theorem docsR_txt {ds : List (List Nat)} (h : ∀ d ∈ ds, Bytes d) : docsR (nZ (txtD ds ++ [0])) [] [] = some ds := docsR_docs ds [] h
theorem docsR_back : ∀ (zs : List Int) (out : List (List Nat)) (doc : List Nat) (ds : List (List Nat)), (∀ d ∈ out, Bytes d) → Bytes doc → docsR zs out doc = some ds →
    (∀ d ∈ ds, Bytes d) ∧ nZ (txtD out ++ doc.map (· + 2)) ++ zs = nZ (txtD ds ++ [0])
  | [], out, doc, ds, _, _, h => by cases h
  | z :: zs, out, doc, ds, ho, hd, h => by
    by_cases h0 : z = 0
    · subst h0
      rw [docsR_zero] at h
      split at h
      · rename_i hh
        obtain ⟨rfl, rfl⟩ := hh
        obtain rfl : out = ds := by simpa using h
        refine ⟨ho, ?_⟩
        rw [List.map_nil, List.append_nil, nZ_app]; rfl
      · cases h
    · by_cases h1 : z = 1
      · subst h1
        rw [docsR_one] at h
        obtain ⟨h2, h3⟩ := docsR_back zs _ _ ds (fun d hx => by
          rcases List.mem_append.1 hx with h | h
          · exact ho d h
          · obtain rfl : d = doc := by simpa using h
            exact hd) Bytes.nil h
        refine ⟨h2, ?_⟩
        rw [← h3, txtD_append, List.map_nil, List.append_nil]
        show nZ (txtD out ++ doc.map (· + 2)) ++ 1 :: zs = nZ (txtD out ++ (doc.map (· + 2) ++ 1 :: [])) ++ zs
        rw [← List.append_assoc, nZ_app (txtD out ++ doc.map (· + 2)) [1], List.append_assoc]
        rfl
      · by_cases h2 : 2 ≤ z ∧ z ≤ 257
        · rw [docsR_sym _ _ _ h2.1 h2.2] at h
          obtain ⟨h3, h4⟩ := docsR_back zs _ _ ds ho (fun x hx => by
            rcases List.mem_append.1 hx with h | h
            · exact hd x h
            · obtain rfl : x = (z - 2).toNat := by simpa using h
              omega) h
          refine ⟨h3, ?_⟩
          rw [← h4, List.map_append, ← List.append_assoc, nZ_app _ ([(z - 2).toNat].map (· + 2)), List.append_assoc]
          show _ ++ z :: zs = _ ++ ((((z - 2).toNat + 2 : Nat) : Int) :: zs)
          rw [show (((z - 2).toNat + 2 : Nat) : Int) = z from by omega]
        · rw [docsR_bad _ _ _ (by omega)] at h; cases h
/-- A text that has documents is theirs. -/
theorem docsR_some {zs : List Int} {ds : List (List Nat)} (h : docsR zs [] [] = some ds) : (∀ d ∈ ds, Bytes d) ∧ zs = nZ (txtD ds ++ [0]) := by
  obtain ⟨h1, h2⟩ := docsR_back zs [] [] ds (fun _ h => by cases h) Bytes.nil h
  exact ⟨h1, h2⟩
theorem docs_le : ∀ ds : List (List Nat), ds.length ≤ (txtD ds).length
  | [] => Nat.le_refl _
  | d :: ds => by
    have := docs_le ds
    show ds.length + 1 ≤ (d.map (· + 2) ++ 1 :: txtD ds).length
    simp only [List.length_append, List.length_cons]
    omega
theorem txt_short {ds : List (List Nat)} {k m : Nat} (h1 : ds.length ≤ k) (h2 : ∀ d ∈ ds, d.length ≤ m) : (txtD ds).length ≤ k * (m + 1) := by
  induction ds generalizing k with
  | nil => exact Nat.zero_le _
  | cons d ds ih =>
    cases k with
    | zero => simp at h1
    | succ k =>
      have h3 := ih (k := k) (by simpa using h1) (fun x hx => h2 x (List.mem_cons_of_mem _ hx))
      have h4 := h2 d (by simp)
      show (d.map (· + 2) ++ 1 :: txtD ds).length ≤ _
      simp only [List.length_append, List.length_map, List.length_cons, Nat.add_mul]
      omega
end Go.Inc
namespace Go.Inc
open Go.RowKit
abbrev EqN (x : Value) : World → Value → Prop := fun _ v => v = x
theorem uponAppend {P : Program} {o : Oper} {b : Act} {K : Act → World → Prop} {Q : Exit → Act → World → Prop} {ρ : Operand → Value} {w w' : World} {v u v' : Value} (s x : Operand) (t : TypeId)
    (ho : o.op = .call { callee := .builtin .append, args := #[s, x], argTypes := #[t, t] }) (hs : ρ s = v) (hx : ρ x = u) (hr : (Builtin.append_ #[t, t] o.type #[v, u]).run P w = .ok v' w') (hk : K (b.put o.dst v') w') :
    o.upon P b K Q ((execOp ρ o).run P w) := by
  unfold execOp
  simp only [ho, resolve, invoke, builtin, Sem.run_bind, Sem.run_pure, Result.andThen_ok, List.map_toArray, List.map_cons, List.map_nil, hs, hx, hr]
  exact hk
theorem own_slice {w : World} {B E n : Nat} {v : Value} {xs : List Value} (h : w.ownsRow B E 1 v n xs) : ∃ a c, v = .slice a n c := by
  rcases h.2 with ⟨rfl, h1⟩ | ⟨g, cap, cur, rfl, h1, _, h2, h3, _⟩
  · exact ⟨none, 0, by rw [h1]⟩
  · exact ⟨_, _, rfl⟩
theorem own_here {w : World} {B E n : Nat} {v : Value} {xs : List Value} (h : w.ownsRow B E 1 v n xs) (h0 : 0 < n) : ∃ g c, v = .slice (some ⟨g, 0, none⟩) n c ∧ n ≤ c ∧ c ≤ maxLen := by
  rcases h.2 with ⟨rfl, h1⟩ | ⟨g, cap, cur, rfl, h1, _, h2, h3, _⟩
  · omega
  · exact ⟨g, cap, rfl, h2, h3⟩
theorem owned_one {w : World} {B E s n : Nat} {v : Value} {xs : List Value} (h : w.ownsRow B E s v n xs) : v.oneCell' = true := by
  rcases h.2 with ⟨rfl, _⟩ | ⟨g, cap, cur, rfl, _⟩ <;> rfl
theorem one_all {s : Value} (h : s.oneCell' = true) : ∀ y ∈ [s], y.oneCell' = true := fun y hy => by
  obtain rfl : y = s := by simpa using hy
  exact h
theorem one_at {z : World} {bx : Nat} {u : Value} {T : TypeId} (h : z.heap[bx]? = some (.cells #[u] T (0, 0))) : ∀ j y, ([u] : List Value)[j]? = some y → z.cell? ((⟨bx, 0, none⟩ : Addr).add j) = some y := by
  intro j y hy
  rw [Addr.add_lit, cell_of_row _ _ _ _ _ _ h]
  match j, hy with
  | 0, hy => simpa using hy
  | j + 1, hy => simp at hy
theorem run_append_own_nw {P : Program} (w : World) (base : Nat) (t ty e : TypeId) (i : TypeInfo) (z : Value) (size bytes : Nat) (ht : P.underlying t = some (.slice e)) (hi : P.info? e = some i) (hz : i.zero = some z)
    (hsize : i.size = size) (hby : i.bytes = bytes) (hzs : z.cells.size = size) (hsz : 0 < size)
    (v : Value) (n : Nat) (xs : List Value) (hown : w.ownsRow base e size v n xs)
    (ad : Addr) (m c : Nat) (news : List Value) (hl : news.length = m * size) (hnews : ∀ j u, news[j]? = some u → w.cell? (ad.add j) = some u) (h1 : ∀ u ∈ news, u.oneCell' = true)
    (h63 : n + m ≤ maxLen) (hbytes : (n + m) * bytes ≤ 140737488355328) (hbase : base ≤ w.heap.size) :
    ∃ v' w', (Builtin.append_ #[t, t] ty #[v, .slice (some ad) m c]).run P w = .ok v' w' ∧ w'.ownsRow base e size v' (n + m) (xs ++ news) ∧ w.grownBy w' v.ownBlock ∧ Nw w v v' := by
  obtain ⟨v', w', hr, h2, h3, -⟩ := run_append_own (P := P) w base t ty e i z size bytes ht hi hz hsize hby hzs hsz v n xs hown ad m c news hl hnews h1 h63 hbytes hbase
  refine ⟨v', w', hr, h2, h3, ?_⟩
  have hsmall : n + m ≤ 9223372036854775807 := by simp only [maxLen] at h63; omega
  rcases hown.2 with ⟨rfl, rfl⟩ | ⟨g, cap, cur, rfl, hbg, hg, hnc, hcm, hcs, htake⟩
  · by_cases hm : m = 0
    · subst hm
      have hn : news = [] := List.eq_nil_of_length_eq_zero (by simpa using hl)
      subst hn
      have hr2 : (Builtin.append_ #[t, t] ty #[.slice none 0 0, .slice (some ad) 0 c]).run P w = .ok (.slice none 0 0) w := by
        simp [Builtin.append_, run_underlying ht, sizeOf, typeInfo, hi, Builtin.lenOf, Builtin.firstCells, loadCells, loadCellsFrom]
      rw [hr2] at hr
      cases hr
      exact .inl rfl
    · have hr2 := run_append_nil (P := P) w t ty e i z ht hi hz ad m c news (by rw [hsize]; exact hl) hnews (by omega) (by omega) (by rw [hby]; have hb := hbytes; simp only [Nat.zero_add] at hb; omega)
      rw [hr2] at hr
      cases hr
      exact .inr ⟨_, rfl, Nat.le_refl _⟩
  · by_cases hroom : n + m ≤ cap
    · have hr2 := run_append_room (P := P) w t ty e i ht hi g n cap cur hg ad m c news (by rw [hsize]; exact hl) hnews h1 hroom (by rw [hl, hcs, hsize, ← Nat.add_mul]; exact Nat.mul_le_mul_right _ hroom)
      rw [hr2] at hr
      cases hr
      exact .inl rfl
    · have holds : ∀ j u, xs[j]? = some u → w.cell? ((⟨g, 0, none⟩ : Addr).add j) = some u := hown.cells (g := g) rfl
      have hr2 := run_append_grow (P := P) w t ty e i z ht hi hz ⟨g, 0, none⟩ n cap xs (by rw [hsize]; exact hown.1) holds ad m c news (by rw [hsize]; exact hl) hnews (by omega) (by omega) (growslice_fits (by omega) (by rw [hby]; exact hbytes))
      rw [hr2] at hr
      cases hr
      exact .inr ⟨_, rfl, Nat.le_refl _⟩
/-- An append onto an empty literal makes a row of its own. -/
theorem run_append_lit_own {P : Program} (w : World) (base : Nat) (t ty e : TypeId) (z : Value) (bytes : Nat) (ht : P.underlying t = some (.slice e)) (hi : (P.info? e).map (fun i => (i.zero, i.size, i.bytes)) = some (some z, 1, bytes))
    (g : Nat) (hg : w.heap[g]? = some (.cells #[] e (0, 0))) (hb : base ≤ g) (hbase : base ≤ w.heap.size) (ao : Option Addr) (c : Nat) (news : List Value) (m : Nat) (hl : news.length = m) (hnone : ao = none → m = 0)
    (hnews : ∀ ad, ao = some ad → ∀ j u, news[j]? = some u → w.cell? (ad.add j) = some u) (hzs : z.cells.size = 1) (hm : m ≤ maxLen) (hby : m * bytes ≤ 140737488355328) :
    ∃ v' w', (Builtin.append_ #[t, t] ty #[.slice (some ⟨g, 0, none⟩) 0 0, .slice ao m c]).run P w = .ok v' w' ∧ w'.ownsRow base e 1 v' m news ∧ Below w.heap.size w w' := by
  obtain ⟨i, hi, hz0, hz1, hz2⟩ := info_parts hi
  subst hl
  by_cases h0 : news.length = 0
  · have hbs : news = [] := List.eq_nil_of_length_eq_zero h0
    subst hbs
    refine ⟨.slice (some ⟨g, 0, none⟩) 0 0, w, ?_, ⟨rfl, .inr ⟨g, 0, #[], rfl, hb, hg, Nat.le_refl _, Nat.zero_le _, rfl, rfl⟩⟩, Below.refl _ _⟩
    cases ao with
    | none => simp [Builtin.append_, run_underlying ht, sizeOf, typeInfo, hi, Builtin.lenOf, Builtin.firstCells, storeCells]
    | some a => simp [Builtin.append_, run_underlying ht, sizeOf, typeInfo, hi, Builtin.lenOf, Builtin.firstCells, loadCells, loadCellsFrom, storeCells]
  · cases ao with
    | none => exact absurd (hnone rfl) h0
    | some a =>
      have hr := run_append_grow (P := P) w t ty e i z ht hi hz0 ⟨g, 0, none⟩ 0 0 [] (by simp) (fun j u h => by simp at h) a news.length c news (by rw [hz1, Nat.mul_one]) (hnews a rfl) (by omega) (by simp only [maxLen] at hm; omega) (by rw [hz2]; exact growslice_fits (by omega) (by rw [Nat.zero_add]; exact hby))
      have hge := grownCap_ge w news.length 0 e
      simp only [Nat.zero_add, Array.empty_append] at hr
      refine ⟨_, _, hr, ⟨by rw [Nat.mul_one], .inr ⟨w.heap.size, _, _, rfl, hbase, heap_alloc_new w.drew _, hge, grownCap_le_maxLen w news.length 0 e hm, ?_, ?_⟩⟩, ⟨rfl, rfl, rfl, by simp, fun k hk => heap_alloc_old w.drew _ hk⟩⟩
      · simp only [Array.size_append, List.size_toArray, size_zeroCells, hzs]
        omega
      · simp only [Array.toList_append, Nat.mul_one]
        exact List.take_left
end Go.Inc
namespace Go.Proofs.Ytmllpednaibeeaa
open Go.RowKit Go.Inc
theorem infoSl : (Try.prog.info? 58).map (fun i => (i.zero, i.size, i.bytes)) = some (some (.slice none 0 0), 1, 24) := by kernel_rfl
/-- Documents in memory: an outer row of its own, each inner one in new memory. -/
structure Pd (B : Nat) (w : World) (v : Value) (ps : List (List Nat)) (vs : List Value) : Prop where
  own : w.ownsRow B 58 1 v vs.length vs
  len : vs.length = ps.length
  at_ : ∀ i, i < ps.length → ∃ a c, vs[i]? = some (.slice a (ps.getD i []).length c) ∧ Sl (fun g => B ≤ g ∧ v.ownBlock ≠ some g) w a (ps.getD i []) ∧ (ps.getD i []).length ≤ c ∧ c ≤ maxLen
  by_ : ∀ p ∈ ps, Bytes p
theorem Pd.nil (B : Nat) (w : World) : Pd B w (.slice none 0 0) [] [] := ⟨World.ownsRow_nil _ _ _ _, rfl, fun i h => by simp at h, fun p h => by cases h⟩
theorem Pd.below {B : Nat} {w w' : World} {v : Value} {ps : List (List Nat)} {vs : List Value} (h : Pd B w v ps vs) (hb : Below w.heap.size w w') : Pd B w' v ps vs :=
  ⟨owns_mv (F := fun _ => False) h.own (Mv.of_below hb) fun _ _ => id, h.len, fun i hi => by
    obtain ⟨a, c, h1, h2, h3⟩ := h.at_ i hi
    exact ⟨a, c, h1, h2.below hb, h3⟩, h.by_⟩
def RowB (B : Nat) (p : List Nat) (z : World) (u : Value) : Prop := z.ownsRow B 5 1 u p.length (u8s p)
theorem RowB.kept {B : Nat} {p : List Nat} {y z : World} {u : Value} (h : RowB B p y u) (hg : Grew y z) : RowB B p z u := owns_mv (F := fun _ => False) h (Mv.of_below hg) fun _ _ => id
/-- One more. -/
theorem Pd.snoc {B : Nat} {w w' : World} {v v' s : Value} {ps : List (List Nat)} {vs : List Value} {p : List Nat} (h : Pd B w v ps vs) (hs : RowB B p w s) (hp : Bytes p) (ho : w'.ownsRow B 58 1 v' (vs.length + 1) (vs ++ [s])) (hg : w.grownBy w' v.ownBlock) (hn : Nw w v v') : Pd B w' v' (ps ++ [p]) (vs ++ [s]) := by
  have hk : ∀ {a : Option Addr} {q : List Nat}, Sl (fun g => B ≤ g ∧ v.ownBlock ≠ some g) w a q → Sl (fun g => B ≤ g ∧ v'.ownBlock ≠ some g) w' a q := fun hq => by
    have h1 := hq.mono (ok' := fun g => (B ≤ g ∧ v.ownBlock ≠ some g) ∧ g < w.heap.size) fun g hg hlt => ⟨hg, hlt⟩
    refine (h1.kept fun g hg2 hlt => hg.block g hlt fun e => hg2.1.2 e.symm).mono fun g hg2 _ => ⟨hg2.1.1, fun e => ?_⟩
    rcases hn with h | ⟨j, h, hj⟩
    · exact hg2.1.2 (by rw [← h]; exact e)
    · rw [h] at e; cases e; omega
  refine ⟨by rw [List.length_append]; exact ho, by rw [List.length_append, List.length_append, h.len]; rfl, fun i hi => ?_, fun q hq => ?_⟩
  · rw [List.length_append] at hi
    by_cases hlt : i < ps.length
    · obtain ⟨a, c, h1, h2, h3⟩ := h.at_ i hlt
      rw [List.getD_eq_getElem?_getD, List.getElem?_append_left hlt, ← List.getD_eq_getElem?_getD]
      exact ⟨a, c, by rw [List.getElem?_append_left (by rw [h.len]; exact hlt)]; exact h1, hk h2, h3⟩
    · obtain rfl : i = ps.length := by simp at hi; omega
      obtain ⟨a, c, he, hna, _, hsl⟩ := Sl.owned hs
      have hcap := own_cap (he ▸ hs : w.ownsRow B 5 1 (.slice a p.length c) p.length (u8s p))
      rw [List.getD_eq_getElem?_getD, List.getElem?_append_right (Nat.le_refl _), Nat.sub_self]
      refine ⟨a, c, by rw [List.getElem?_append_right (by rw [h.len]; exact Nat.le_refl _), h.len, Nat.sub_self]; simp [he], hk (hsl.mono fun g hg2 _ => ⟨hg2.1, fun e => ?_⟩), hcap⟩
      rcases owns_apart h.own hs (by decide) with h5 | h5
      · rw [h5] at e; cases e
      · exact h5 (by rw [e, hg2.2])
  · rcases List.mem_append.1 hq with h5 | h5
    · exact h.by_ q h5
    · obtain rfl : q = p := by simpa using h5
      exact hp
/-- As a slice of slices. -/
theorem Pd.pt {B : Nat} {w : World} {v : Value} {ps : List (List Nat)} {vs : List Value} (h : Pd B w v ps vs) : ∃ a c, v = .slice a ps.length c ∧ Pt (fun g => B ≤ g) w a ps := by
  by_cases h0 : ps.length = 0
  · obtain ⟨a, c, he⟩ := own_slice h.own
    have : ps = [] := List.eq_nil_of_length_eq_zero h0
    subst this
    rw [h.len] at he
    exact ⟨a, c, he, Pt.nil _ _ _⟩
  · obtain ⟨g, c, he, hc1, hc2⟩ := own_here h.own (by rw [h.len]; omega)
    have hb : B ≤ g := by
      rcases h.own.2 with ⟨e, _⟩ | ⟨g', cap, cur, e, hb, _⟩
      · rw [he] at e; cases e
      · rw [he] at e; cases e; exact hb
    have hcell := h.own.cells (g := g) (by rw [he]; rfl)
    rw [h.len] at he
    refine ⟨_, c, he, h.by_, .inr ⟨g, 0, fun i => match vs[i]? with | some (.slice a _ _) => a | _ => none, fun i => match vs[i]? with | some (.slice _ _ c) => c | _ => 0, rfl, hb, fun i hi => ?_, fun i hi => ?_, fun i hi => ?_⟩⟩
    · obtain ⟨a, c, h1, h2, h3⟩ := h.at_ i hi
      have h4 := hcell i _ h1
      rw [Addr.add_lit] at h4
      rw [h1]
      exact h4
    · obtain ⟨a, c, h1, h2, h3⟩ := h.at_ i hi
      rw [h1]
      exact h2.mono fun g hg _ => hg.1
    · obtain ⟨a, c, h1, h2, h3⟩ := h.at_ i hi
      rw [h1]
      exact h3
def PdN (B : Nat) (ps : List (List Nat)) (z : World) (u : Value) : Prop := ∃ vs, Pd B z u ps vs
theorem PdN.kept {B : Nat} {ps : List (List Nat)} {y z : World} {u : Value} (h : PdN B ps y u) (hg : Grew y z) : PdN B ps z u := by
  obtain ⟨vs, h⟩ := h
  exact ⟨vs, h.below hg⟩
/-- An empty literal; a literal of one row of bytes; one of one byte. -/
def LitE (B : Nat) (z : World) (v : Value) : Prop := ∃ g, v = .slice (some ⟨g, 0, none⟩) 0 0 ∧ B ≤ g ∧ z.heap[g]? = some (.cells #[] 5 (0, 0))
theorem LitE.kept {B : Nat} {y z : World} {v : Value} (h : LitE B y v) (hg : Grew y z) : LitE B z v := by
  obtain ⟨g, h1, h2, h3⟩ := h
  exact ⟨g, h1, h2, row_below h3 hg⟩
def LitR (B : Nat) (p : List Nat) (z : World) (v : Value) : Prop := ∃ g s, v = .slice (some ⟨g, 0, none⟩) 1 1 ∧ z.heap[g]? = some (.cells #[s] 58 (0, 0)) ∧ RowB B p z s
theorem LitR.kept {B : Nat} {p : List Nat} {y z : World} {v : Value} (h : LitR B p y v) (hg : Grew y z) : LitR B p z v := by
  obtain ⟨g, s, h1, h2, h3⟩ := h
  exact ⟨g, s, h1, row_below h2 hg, h3.kept hg⟩
def LitY (y : Int) (z : World) (v : Value) : Prop := ∃ g, v = .slice (some ⟨g, 0, none⟩) 1 1 ∧ z.heap[g]? = some (.cells #[.int .u8 y] 5 (0, 0))
theorem LitY.kept {c : Int} {y z : World} {v : Value} (h : LitY c y v) (hg : Grew y z) : LitY c z v := by
  obtain ⟨g, h1, h2⟩ := h
  exact ⟨g, h1, row_below h2 hg⟩
/-- At most eight, of at most 60 bytes. -/
def lawD (ls : List (List Nat)) : List (List Nat) := (ls.take 8).map (·.take 60)
set_option maxRecDepth 20000 in
set_option maxHeartbeats 4000000 in
theorem lawDocs_any (ok : Nat → Prop) (x : World) (a : Option Addr) (c : Nat) (ls : List (List Nat)) (hs : Pt ok x a ls)  (hcn : ∀ i, i < ls.length → (ls.getD i []).length ≤ 9223372036854775807) :
    Calls Try.prog 22 #[.slice a ls.length c] x fun e w' => ∃ u, e = .returned u ∧ PdN x.heap.size (lawD ls) w' u ∧ Below x.heap.size x w' := by
  obtain ⟨i0, hi, hz0, hz1, hz2⟩ := info_parts infoSl
  have HI := hid (And.intro hi (And.intro hz0 (And.intro hz1 hz2)))
  have HS := hid hs
  obtain ⟨n, hn⟩ : ∃ n, n = ls.length := ⟨_, rfl⟩
  have HN := hid hn
  have HCN := hid hcn
  rw [← hn]
  clear hs hi hz0 hz1 hz2 hn hcn
  go_enter Try.func22, Try.ntmps22
  go_wp2_with fail
  go_loopw [3, 4] (fun u i wr => ∃ t : Nat, t ≤ n ∧ t ≤ 8 ∧ i = .int .i64 (t : Int) ∧ PdN x.heap.size ((ls.take t).map (·.take 60)) wr u ∧ Below x.heap.size x wr) (fun _ i _ => 8 - (intOf i).toNat)
  case atStart => exact ⟨0, Nat.zero_le _, Nat.zero_le _, rfl, ⟨[], Pd.nil _ _⟩, Below.refl _ _⟩
  case round =>
    obtain ⟨t, ht, ht8, rfl, ⟨vs, hpd⟩, hb⟩ := hrel
    have HB := hid hb
    by_cases hlt : t < n
    · by_cases hl8 : t < 8
      · have ht1 : (t < n) = True := eq_true hlt
        have ht2 : (t < 8) = True := eq_true hl8
        have ht3 : ((t : Int) < (8 : Int)) = True := eq_true (by omega)
        obtain ⟨q, hq⟩ : ∃ q, q = ls.getD t [] := ⟨_, rfl⟩
        obtain ⟨p, hp⟩ : ∃ p, p = q.take 60 := ⟨_, rfl⟩
        obtain ⟨L, hL⟩ : ∃ L, L = q.length := ⟨_, rfl⟩
        obtain ⟨M, hM⟩ : ∃ M, M = p.length := ⟨_, rfl⟩
        have hmin : min (L : Int) 60 = (M : Int) := by rw [hM, hp, List.length_take, ← hL]; omega
        have hML : (M : Int) ≤ (L : Int) := by rw [hM, hp, List.length_take, ← hL]; omega
        obtain ⟨ab, ao, sa, sc, rfl, hca, hsl, hcp⟩ : ∃ ab ao sa sc, a = some ⟨ab, ao, none⟩ ∧ x.cell? ⟨ab, ao + t, none⟩ = some (.slice sa L sc) ∧ Sl ok x sa q ∧ (L ≤ sc ∧ sc ≤ maxLen) := by
          rcases HS.out.2 with h | ⟨b, o, A, C, ha, _, hp2⟩
          · have := HN.out; rw [h] at this; simp at this; omega
          · rw [hL, hq]; exact ⟨b, o, A t, C t, ha, hp2.cell t (by have := HN.out; omega), hp2.sl t (by have := HN.out; omega), hp2.cap t (by have := HN.out; omega)⟩
        have hqb : Bytes q := HS.out.1 q (by rw [hq, List.getD_eq_getElem?_getD, List.getElem?_eq_getElem (by have := HN.out; omega)]; exact List.getElem_mem _)
        have HBP : Hid (Bytes p) := hid (by rw [hp]; exact hqb.take _)
        have HM := hid hM.symm
        have HM60 : Hid (M ≤ 60) := hid (by rw [hM, hp, List.length_take]; omega)
        have HSN : Hid (sa = none → p.length = 0) := hid fun h => by
          have := hsl.some_len h
          rw [hp, List.length_take]; omega
        have HSC : Hid (∀ z, Below x.heap.size x z → ∀ ad, sa = some ad → ∀ j u, (u8s p)[j]? = some u → z.cell? (ad.add j) = some u) := hid fun z hz => by
          rw [hp]; exact ((hsl.below hz).front 60).cells
        have HC : Hid (∀ z, Below x.heap.size x z → z.cell? ⟨ab, ao + t, none⟩ = some (.slice sa L sc) ∧ True) := hid fun z hz => ⟨(by rw [World.cell?_of_block (hz.block ab (cell_lt hca))]; exact hca), trivial⟩
        obtain ⟨ps, hps⟩ : ∃ ps, ps = (ls.take t).map (·.take 60) := ⟨_, rfl⟩
        rw [← hps] at hpd
        have HX : Hid ((ls.take (t + 1)).map (·.take 60) = ps ++ [p]) := hid (by
          rw [List.take_succ_eq_append_getElem (by have := HN.out; omega), List.map_append, ← hps, hp, hq, List.getD_eq_getElem?_getD, List.getElem?_eq_getElem (by have := HN.out; omega)]
          rfl)
        have hMsc : (M : Int) ≤ (sc : Int) := by omega
        have hL9 : (L : Int) ≤ 9223372036854775807 := by have := HCN.out t (by have := HN.out; omega); rw [← hq, ← hL] at this; omega
        have HT1 : Hid (t + 1 ≤ n ∧ t + 1 ≤ 8) := hid ⟨hlt, hl8⟩
        have HBX : Hid (∀ z, (Below wr.heap.size wr z ∨ Below x.heap.size x z) → Below x.heap.size x z) := hid fun z hz => hz.elim (fun h => HB.out.trans (h.mono HB.out.size)) id
        have HPD : Hid (∀ z, Below wr.heap.size wr z → Pd x.heap.size z u3 ps vs) := hid fun z hz => hpd.below hz
        have HVL : Hid (vs.length ≤ 8) := hid (by rw [hpd.len, hps, List.length_map, List.length_take]; omega)
        clear hpd hb hlt hl8 hq hp hL hM hca hsl hcp hqb hps
        go_wp2_with fail
        refine wp_region_growsX 16 15 (fun z => Below wr.heap.size wr z) (fun z => Below x.heap.size x z) [1, 13, 14] [EqN u3, LitE x.heap.size, EqN (.slice (some ⟨ab, ao, none⟩) n c), EqN (.int .i64 (t : Int)), EqN (.pointer (some ⟨ab, ao + t, none⟩)), EqN (.slice sa L sc), EqN (.slice (some ⟨ab, ao, none⟩) n c), EqN (.int .i64 (t : Int)), EqN (.pointer (some ⟨ab, ao + t, none⟩)), EqN (.slice sa L sc), EqN (.int .i64 (L : Int)), EqN (.int .i64 (M : Int)), EqN (.slice sa M sc), RowB x.heap.size p, LitR x.heap.size p, PdN x.heap.size (ps ++ [p])] (by kernel_rfl) (by decide) (by kernel_rfl) (by kernel_rfl) (by decide) ?_ ?_ ?_ ?_ ?_ ?_
        · exact (Below.refl _ _).drew
        · exact fun p q hg h => h.trans (Below.mono hg h.size)
        · exact fun p q hg h => h.trans (Below.mono hg h.size)
        · repeat' (first | exact List.forall_mem_nil _ | refine List.forall_mem_cons.2 ⟨?_, ?_⟩)
          all_goals
            intro w w' v hw h
            first | exact h | exact LitE.kept h hw | exact RowB.kept h hw | exact LitR.kept h hw | exact PdN.kept h hw
        · simp only [AllLt]
          refine ⟨⟨⟨⟨⟨⟨⟨⟨⟨⟨⟨⟨⟨⟨⟨⟨trivial, ?_⟩, ?_⟩, ?_⟩, ?_⟩, ?_⟩, ?_⟩, ?_⟩, ?_⟩, ?_⟩, ?_⟩, ?_⟩, ?_⟩, ?_⟩, ?_⟩, ?_⟩, ?_⟩
          all_goals
            intro o' ho
            simp at ho
            subst ho
            intro ρ w5 hR hL hS hG
            obtain ⟨hl1, hl2, -⟩ := hL
          · refine plainG rfl ?_
            intro bA K Q' hK
            have e3 := hS 3 (by kernel_rfl)
            change ρ (.tmp 3) = _ at e3
            simp only [execOp]
            go_simp
            exact hK _ _ rfl (fun _ => Grew.refl _) (fun h => absurd h (by decide))
          · refine plainG rfl ?_
            intro bA K Q' hK
            simp only [execOp]
            go_simp
            exact hK _ _ ⟨_, rfl, (HBX.out w5 hR.any).size, heap_alloc_new w5 _⟩ (fun _ => (Grew.refl _).alloc _) (fun h => absurd h (by decide))
          · refine plainG rfl ?_
            intro bA K Q' hK
            have e0 := hS 0 (by kernel_rfl)
            change ρ (.tmp 0) = _ at e0
            simp only [execOp]
            go_simp
            exact hK _ _ rfl (fun _ => Grew.refl _) (fun h => absurd h (by decide))
          · refine plainG rfl ?_
            intro bA K Q' hK
            have e4 := hS 4 (by kernel_rfl)
            change ρ (.tmp 4) = _ at e4
            simp only [execOp]
            go_simp
            exact hK _ _ rfl (fun _ => Grew.refl _) (fun h => absurd h (by decide))
          · refine plainG rfl ?_
            intro bA K Q' hK
            have e17 := hG 2 17 (by decide) (by kernel_rfl) (by kernel_rfl)
            have e18 := hG 3 18 (by decide) (by kernel_rfl) (by kernel_rfl)
            change ρ (.tmp 17) = _ at e17
            change ρ (.tmp 18) = _ at e18
            simp only [execOp]
            go_simp
            exact hK _ _ rfl (fun _ => Grew.refl _) (fun h => absurd h (by decide))
          · refine plainG rfl ?_
            intro bA K Q' hK
            have e19 := hG 4 19 (by decide) (by kernel_rfl) (by kernel_rfl)
            change ρ (.tmp 19) = _ at e19
            obtain ⟨y0, y1⟩ := HC.out w5 (HBX.out w5 hR.any)
            simp only [execOp]
            go_simp
            exact hK _ _ rfl (fun _ => Grew.refl _) (fun h => absurd h (by decide))
          · refine plainG rfl ?_
            intro bA K Q' hK
            have e0 := hS 0 (by kernel_rfl)
            change ρ (.tmp 0) = _ at e0
            simp only [execOp]
            go_simp
            exact hK _ _ rfl (fun _ => Grew.refl _) (fun h => absurd h (by decide))
          · refine plainG rfl ?_
            intro bA K Q' hK
            have e4 := hS 4 (by kernel_rfl)
            change ρ (.tmp 4) = _ at e4
            simp only [execOp]
            go_simp
            exact hK _ _ rfl (fun _ => Grew.refl _) (fun h => absurd h (by decide))
          · refine plainG rfl ?_
            intro bA K Q' hK
            have e21 := hG 6 21 (by decide) (by kernel_rfl) (by kernel_rfl)
            have e22 := hG 7 22 (by decide) (by kernel_rfl) (by kernel_rfl)
            change ρ (.tmp 21) = _ at e21
            change ρ (.tmp 22) = _ at e22
            simp only [execOp]
            go_simp
            exact hK _ _ rfl (fun _ => Grew.refl _) (fun h => absurd h (by decide))
          · refine plainG rfl ?_
            intro bA K Q' hK
            have e23 := hG 8 23 (by decide) (by kernel_rfl) (by kernel_rfl)
            change ρ (.tmp 23) = _ at e23
            obtain ⟨y0, y1⟩ := HC.out w5 (HBX.out w5 hR.any)
            simp only [execOp]
            go_simp
            exact hK _ _ rfl (fun _ => Grew.refl _) (fun h => absurd h (by decide))
          · refine plainG rfl ?_
            intro bA K Q' hK
            have e24 := hG 9 24 (by decide) (by kernel_rfl) (by kernel_rfl)
            change ρ (.tmp 24) = _ at e24
            simp only [execOp]
            go_simp
            exact hK _ _ rfl (fun _ => Grew.refl _) (fun h => absurd h (by decide))
          · refine plainG rfl ?_
            intro bA K Q' hK
            have e25 := hG 10 25 (by decide) (by kernel_rfl) (by kernel_rfl)
            change ρ (.tmp 25) = _ at e25
            simp only [execOp]
            go_simp
            exact hK _ _ rfl (fun _ => Grew.refl _) (fun h => absurd h (by decide))
          · refine plainG rfl ?_
            intro bA K Q' hK
            have e20 := hG 5 20 (by decide) (by kernel_rfl) (by kernel_rfl)
            have e26 := hG 11 26 (by decide) (by kernel_rfl) (by kernel_rfl)
            change ρ (.tmp 20) = _ at e20
            change ρ (.tmp 26) = _ at e26
            simp only [execOp]
            go_simp
            exact hK _ _ rfl (fun _ => Grew.refl _) (fun h => absurd h (by decide))
          · refine plainG rfl ?_
            intro bA K Q' hK
            have e16 := hG 1 16 (by decide) (by kernel_rfl) (by kernel_rfl)
            have e27 := hG 12 27 (by decide) (by kernel_rfl) (by kernel_rfl)
            change ρ (.tmp 27) = _ at e27
            obtain ⟨g, h16, hg1, hg2⟩ := e16
            have hj := hR.ahead (by decide)
            have hbl := HBX.out w5 (.inl hj)
            obtain ⟨v', w6, hr, ho', hb6⟩ := run_append_lit_own (P := Try.prog) w5 x.heap.size 58 58 5 (.int .u8 0) 1 Try.underlying58 infoU8 g hg2 hg1 hbl.size sa sc (u8s p) M (by rw [u8s_length]; exact HM.out) (by intro h; have := HSN.out h; have := HM.out; omega) (HSC.out w5 hbl) rfl (by have := HM60.out; unfold maxLen; omega) (by have := HM60.out; omega)
            refine uponAppend (.tmp 16) (.tmp 27) 58 rfl h16 e27 hr ?_
            exact hK _ _ (show RowB x.heap.size p w6 v' by unfold RowB; rw [HM.out]; exact ho') (fun _ => hb6) (fun h => absurd h (by decide))
          · refine plainG rfl ?_
            intro bA K Q' hK
            have e28 := hG 13 28 (by decide) (by kernel_rfl) (by kernel_rfl)
            have e28' : RowB x.heap.size p w5 (ρ (.tmp 28)) := e28
            obtain ⟨a2, c2, h28⟩ := own_slice e28'
            rw [HM.out] at h28
            rw [h28] at e28'
            simp only [execOp]
            go_simp
            exact hK _ _ ⟨_, _, rfl, heap_alloc_new w5 _, e28'.kept ((Grew.refl _).alloc _)⟩ (fun _ => (Grew.refl _).alloc _) (fun h => absurd h (by decide))
          · refine plainG rfl ?_
            intro bA K Q' hK
            have e15 := hG 0 15 (by decide) (by kernel_rfl) (by kernel_rfl)
            have e29 := hG 14 29 (by decide) (by kernel_rfl) (by kernel_rfl)
            change ρ (.tmp 15) = _ at e15
            obtain ⟨g, s, h29, hg2, hrow⟩ := e29
            have hj := hR.ahead (by decide)
            have hbl := HBX.out w5 (.inl hj)
            have hpd := HPD.out w5 hj
            obtain ⟨v', w6, hr, ho', hgr, hnw⟩ := run_append_own_nw (P := Try.prog) w5 x.heap.size 42 42 58 i0 (.slice none 0 0) 1 24 Try.underlying42 HI.out.1 HI.out.2.1 HI.out.2.2.1 HI.out.2.2.2 rfl (by decide) u3 vs.length vs hpd.own ⟨g, 0, none⟩ 1 1 [s] rfl (one_at hg2) (one_all (owned_one hrow)) (by have := HVL.out; unfold maxLen; omega) (by have := HVL.out; omega) hbl.size
            refine uponAppend (.tmp 15) (.tmp 29) 42 rfl e15 h29 hr ?_
            refine hK _ _ ⟨_, hpd.snoc hrow HBP.out ho' hgr hnw⟩ (fun h => absurd rfl h) (fun _ => ⟨below_owned (w0 := x) hbl hpd.own (Nat.le_refl _) hgr, ?_⟩)
            · simp only [AllLt]
              refine ⟨⟨⟨⟨⟨⟨⟨⟨⟨⟨⟨⟨⟨⟨⟨⟨trivial, ?_⟩, ?_⟩, ?_⟩, ?_⟩, ?_⟩, ?_⟩, ?_⟩, ?_⟩, ?_⟩, ?_⟩, ?_⟩, ?_⟩, ?_⟩, ?_⟩, ?_⟩, ?_⟩
              · exact fun _ _ y hy => hy
              · exact fun _ hl => absurd hl (by decide)
              · exact fun _ _ y hy => hy
              · exact fun _ _ y hy => hy
              · exact fun _ _ y hy => hy
              · exact fun _ _ y hy => hy
              · exact fun _ _ y hy => hy
              · exact fun _ _ y hy => hy
              · exact fun _ _ y hy => hy
              · exact fun _ _ y hy => hy
              · exact fun _ _ y hy => hy
              · exact fun _ _ y hy => hy
              · exact fun _ _ y hy => hy
              · exact fun _ hl => absurd hl (by decide)
              · exact fun _ hl => absurd hl (by decide)
              · exact fun hne _ => absurd rfl hne
        · intro vv w5 hJ hG
          have h1 : PdN x.heap.size (ps ++ [p]) w5 (vv 15) := hG.2 (by decide)
          rw [← HX.out] at h1
          have H1 := hid h1
          have HB5 := hid hJ
          obtain ⟨v', hv'⟩ : ∃ v', v' = vv 15 := ⟨_, rfl⟩
          rw [← hv'] at H1
          clear hG hJ HC HPD HBX h1 HSC HX
          simp [stG, stU, dstAt, Act.put, ← hv']
          clear hv'
          go_wp2_with fail
          go_roundw
          case rel => exact ⟨t + 1, HT1.out.1, HT1.out.2, by go_num, H1.out, HB5.out⟩
          case measure => simp [intOf]; have := HT1.out; omega
      · have ht1 : (t < n) = True := eq_true hlt
        have ht2 : (t < 8) = False := eq_false hl8
        have ht3 : ((t : Int) < (8 : Int)) = False := eq_false (by omega)
        have HE : Hid ((ls.take t).map (·.take 60) = lawD ls) := hid (by rw [show t = 8 from by omega]; rfl)
        have HPD := hid hpd
        clear hpd hb hlt hl8
        go_wp2_with fail
        go_ret
        exact ⟨_, rfl, ⟨vs, by rw [← HE.out]; exact HPD.out⟩, HB.out⟩
    · have ht1 : (t < n) = False := eq_false hlt
      have HE : Hid ((ls.take t).map (·.take 60) = lawD ls) := hid (by
        unfold lawD
        rw [List.take_of_length_le (by have := HN.out; omega), List.take_of_length_le (by have := HN.out; omega)])
      have HPD := hid hpd
      clear hpd hb hlt
      go_wp2_with fail
      go_ret
      exact ⟨_, rfl, ⟨vs, by rw [← HE.out]; exact HPD.out⟩, HB.out⟩
end Go.Proofs.Ytmllpednaibeeaa
namespace Go.Proofs.Ytmllpednaibeeaa
open Go.RowKit Go.Inc
theorem lawD_bytes {ls : List (List Nat)} (h : ∀ p ∈ ls, Bytes p) : ∀ p ∈ lawD ls, Bytes p := fun p hp => by
  unfold lawD at hp
  obtain ⟨q, hq, rfl⟩ := List.mem_map.1 hp
  exact (h q (List.mem_of_mem_take hq)).take _
theorem lawD_short (ls : List (List Nat)) : (txtD (lawD ls)).length ≤ 488 := by
  have := txt_short (ds := lawD ls) (k := 8) (m := 60) (by unfold lawD; rw [List.length_map, List.length_take]; omega) (fun d hd => by
    unfold lawD at hd
    obtain ⟨q, hq, rfl⟩ := List.mem_map.1 hd
    rw [List.length_take]; omega)
  omega
theorem lawD_eight (ls : List (List Nat)) : (lawD ls).length ≤ 8 := by unfold lawD; rw [List.length_map, List.length_take]; omega
theorem pt_len {ok : Nat → Prop} {w : World} {a : Option Addr} {ps : List (List Nat)} (h : Pt ok w a ps) : ∀ i, i < ps.length → (ps.getD i []).length ≤ 9223372036854775807 := fun i hi => by
  rcases h.2 with rfl | ⟨b, o, A, C, _, _, hp⟩
  · simp at hi
  · have := hp.cap i hi
    unfold maxLen at this
    omega
end Go.Proofs.Ytmllpednaibeeaa
namespace Go.Proofs.Ytmllpednaibeeaa
open Go.RowKit Go.Inc
set_option maxRecDepth 20000 in
set_option maxHeartbeats 2000000 in
theorem refText_any (ok : Nat → Prop) (x : World) (a : Option Addr) (c : Nat) (ds : List (List Nat)) (hs : Pt ok x a ds) (hl : (ds.length : Int) ≤ 100000) (ht : (txtD ds).length ≤ 100000) :
    Calls Try.prog 24 #[.slice a ds.length c] x fun e w' => ∃ u, e = .returned u ∧ w'.ownsRow x.heap.size 3 1 u (txtD ds ++ [0]).length (nvals (txtD ds ++ [0])) ∧ Below x.heap.size x w' := by
  have HBY := hid hs.1
  have HS := hid hs
  have HTL := hid ht
  obtain ⟨n, hn⟩ : ∃ n, n = ds.length := ⟨_, rfl⟩
  have HN := hid hn
  rw [← hn] at hl ⊢
  clear hs hn ht
  go_enter Try.func24, Try.ntmps24
  go_wp2_with fail
  go_loopw [3, 4] (fun u i wr => ∃ t : Nat, t ≤ n ∧ i = .int .i64 (t : Int) ∧ wr.ownsRow x.heap.size 3 1 u (txtD (ds.take t)).length (nvals (txtD (ds.take t))) ∧ Below x.heap.size x wr) (fun _ i _ => n - (intOf i).toNat)
  case atStart => exact ⟨0, Nat.zero_le _, rfl, World.ownsRow_nil _ _ _ _, Below.refl _ _⟩
  case round =>
    obtain ⟨t, ht, rfl, hu, hb⟩ := hrel
    have HU := hid hu
    have HB := hid hb
    clear hu hb
    by_cases hlt : t < n
    · have hti : (t < n) = True := eq_true hlt
      have HLT := hid hlt
      obtain ⟨d, hd⟩ : ∃ d, d = ds.getD t [] := ⟨_, rfl⟩
      obtain ⟨L, hL⟩ : ∃ L, L = d.length := ⟨_, rfl⟩
      have HL := hid hL
      have hmem : d ∈ ds := by
        rw [hd, List.getD_eq_getElem?_getD, List.getElem?_eq_getElem (by rw [← HN.out]; exact hlt)]; exact List.getElem_mem _
      have HDB := hid (HBY.out d hmem)
      have HTK := hid (txtD_take (ds := ds) (t := t) (by rw [← HN.out]; exact hlt))
      rw [← hd] at HTK
      have htot : (txtD (ds.take t)).length + L + 1 ≤ 100000 := by
        have h1 := txtD_le ds (t + 1)
        have h2 := HTL.out
        rw [HTK.out] at h1
        simp only [List.length_append, List.length_map, List.length_cons, List.length_nil] at h1
        omega
      have HTT := hid htot
      have HCD : Hid (∃ b o A C, a = some ⟨b, o, none⟩ ∧ ∀ y, Below x.heap.size x y → y.cell? ⟨b, o + t, none⟩ = some (.slice A L C) ∧ ∀ k, k < L → ∃ b2 o2, A = some ⟨b2, o2, none⟩ ∧ y.cell? ⟨b2, o2 + k, none⟩ = some (.int .u8 ((d.getD k 0 : Nat) : Int))) := hid (by
        rcases HS.out.2 with h | ⟨b, o, A, C, ha, _, hp⟩
        · have := HN.out; rw [h] at this; simp at this; omega
        · refine ⟨b, o, A t, C t, ha, fun y hy => ?_⟩
          have h1 := hp.cell t (by rw [← HN.out]; exact hlt)
          have h2 := (hp.sl t (by rw [← HN.out]; exact hlt)).below hy
          rw [← hd] at h1 h2
          rw [← hL] at h1
          refine ⟨by rw [World.cell?_of_block (hy.block b (cell_lt h1))]; exact h1, fun k hk => ?_⟩
          rcases h2 with h | ⟨b2, o2, h, _, hc⟩
          · rw [hL, h] at hk; simp at hk
          · exact ⟨b2, o2, h, hc k (by rw [← hL]; exact hk)⟩)
      obtain ⟨b, o, A, C, rfl, hcd⟩ := HCD.out
      have HC := hid hcd
      obtain ⟨T, hT⟩ : ∃ T, T = txtD (ds.take t) := ⟨_, rfl⟩
      rw [← hT] at HU HTK HTT htot
      have hLb : (L : Int) ≤ 100000 := by omega
      clear hlt hd hL hmem hcd HCD hT htot
      go_wp2_with fail
      go_loopw [3, 5] (fun u i w2 => ∃ k : Nat, k ≤ L ∧ i = .int .i64 (k : Int) ∧ w2.ownsRow x.heap.size 3 1 u (T ++ (d.take k).map (· + 2)).length (nvals (T ++ (d.take k).map (· + 2))) ∧ Below x.heap.size x w2) (fun _ i _ => L - (intOf i).toNat)
      case atStart => exact ⟨0, Nat.zero_le _, rfl, by rw [List.take_zero, List.map_nil, List.append_nil]; exact HU.out, HB.out⟩
      case round =>
        clear HU HB
        obtain ⟨k, hk, rfl, hu, hb⟩ := hrel
        have HU := hid hu
        have HB := hid hb
        obtain ⟨q0, hq⟩ := HC.out _ hb
        clear hu hb
        by_cases hkl : k < L
        · have hki : (k < L) = True := eq_true hkl
          obtain ⟨b2, o2, rfl, hc2⟩ := hq k hkl
          have hy := HDB.out.getD k
          have HMS := hid (map_take_snoc (d := d) (k := k) (by rw [← HL.out]; exact hkl))
          obtain ⟨y, hye⟩ : ∃ y, y = d.getD k 0 := ⟨_, rfl⟩
          rw [← hye] at hy hc2 HMS
          have HPL : Hid ((T ++ (d.take k).map (· + 2)).length ≤ 100000) := hid (by
            rw [List.length_append, List.length_map, List.length_take]
            have := HTT.out
            omega)
          have HX : Hid (T ++ (d.take (k + 1)).map (· + 2) = (T ++ (d.take k).map (· + 2)) ++ [y + 2]) := hid (by rw [HMS.out, List.append_assoc])
          obtain ⟨l, hle⟩ : ∃ l, l = T ++ (d.take k).map (· + 2) := ⟨_, rfl⟩
          rw [← hle] at HU HX HPL
          have hyb : (y : Int) < 256 := by omega
          obtain ⟨z, hz⟩ : ∃ z, z = y + 2 := ⟨_, rfl⟩
          rw [← hz] at HX
          have hzi : (y : Int) + 2 = (z : Int) := by omega
          have hzb : (z : Int) < 258 := by omega
          have hkb : (k : Int) < 100000 := by omega
          clear hq hye hle hy HMS hz
          go_wp2_with (refine wpList_append_any rfl (.tmp 21) (.tmp 31) 22 rfl x.heap.size 3 (.int .i64 0) 8 Try.underlying22 infoIntA rfl _ _ _ rfl (HU.out.alloc _) (some ⟨wr.heap.size, 0, none⟩) 1 1 [.int .i64 (z : Int)] rfl rfl (by intro h; cases h) (one_new wr _ _) (by simp [Value.oneCell']) (by have := HPL.out; unfold maxLen; omega) (by have := HPL.out; omega) (by have := HB.out.size; simp; omega) ?_)
          intro u3 w3 hu3 hg3 _
          have HB3 := hid (below_owned (w0 := x) (HB.out.alloc HB.out.size _) (HU.out.alloc _) (Nat.le_refl _) hg3)
          have HU3 : Hid (w3.ownsRow x.heap.size 3 1 u3 (T ++ (d.take (k + 1)).map (· + 2)).length (nvals (T ++ (d.take (k + 1)).map (· + 2)))) := hid (by rw [HX.out, nvals_snoc, List.length_append]; exact hu3)
          clear hu3 hg3 HU HB HX HPL
          go_wp2_with fail
          go_roundw
          case rel => exact ⟨k + 1, hkl, by go_num, HU3.out, HB3.out⟩
          case measure => simp [intOf]; omega
        · have hki : (k < L) = False := eq_false hkl
          have HX : Hid (T ++ (d.take k).map (· + 2) = T ++ d.map (· + 2)) := hid (by rw [List.take_of_length_le (by rw [← HL.out]; omega)])
          have hu2 := HU.out
          rw [HX.out] at hu2
          have HU2 := hid hu2
          have HPL : Hid ((T ++ d.map (· + 2)).length ≤ 100000) := hid (by
            rw [List.length_append, List.length_map, ← HL.out]
            have := HTT.out
            omega)
          rw [← List.append_assoc] at HTK
          obtain ⟨l, hle⟩ : ∃ l, l = T ++ d.map (· + 2) := ⟨_, rfl⟩
          rw [← hle] at HU2 HTK HPL
          clear hkl hu2 HU HX hle hq
          go_wp2_with (refine wpList_append_any rfl (.tmp 33) (.tmp 34) 22 rfl x.heap.size 3 (.int .i64 0) 8 Try.underlying22 infoIntA rfl _ _ _ rfl (HU2.out.alloc _) (some ⟨wr.heap.size, 0, none⟩) 1 1 [.int .i64 1] rfl rfl (by intro h; cases h) (one_new wr _ _) (by simp [Value.oneCell']) (by have := HPL.out; unfold maxLen; omega) (by have := HPL.out; omega) (by have := HB.out.size; simp; omega) ?_)
          intro u3 w3 hu3 hg3 _
          have HB3 := hid (below_owned (w0 := x) (HB.out.alloc HB.out.size _) (HU2.out.alloc _) (Nat.le_refl _) hg3)
          have HU3 : Hid (w3.ownsRow x.heap.size 3 1 u3 (txtD (ds.take (t + 1))).length (nvals (txtD (ds.take (t + 1))))) := hid (by rw [HTK.out, nvals_snoc, List.length_append]; exact hu3)
          clear hu3 hg3 HU2 HB HTK HPL
          go_wp2_with fail
          go_roundw
          case rel => exact ⟨t + 1, HLT.out, by go_num, HU3.out, HB3.out⟩
          case measure => simp [intOf]; have := HLT.out; omega
    · have hti : (t < n) = False := eq_false hlt
      have hu2 := HU.out
      rw [List.take_of_length_le (by rw [← HN.out]; omega)] at hu2
      have HU2 := hid hu2
      obtain ⟨l, hle⟩ : ∃ l, l = txtD ds := ⟨_, rfl⟩
      rw [← hle] at HU2 HTL
      have HLE := hid hle
      clear hlt hu2 HU hle
      go_wp2_with (refine wpList_append_any rfl (.tmp 36) (.tmp 37) 22 rfl x.heap.size 3 (.int .i64 0) 8 Try.underlying22 infoIntA rfl _ _ _ rfl (HU2.out.alloc _) (some ⟨wr.heap.size, 0, none⟩) 1 1 [.int .i64 0] rfl rfl (by intro h; cases h) (one_new wr _ _) (by simp [Value.oneCell']) (by have := HTL.out; unfold maxLen; omega) (by have := HTL.out; omega) (by have := HB.out.size; simp; omega) ?_)
      intro u3 w3 hu3 hg3 _
      have HB3 := hid (below_owned (w0 := x) (HB.out.alloc HB.out.size _) (HU2.out.alloc _) (Nat.le_refl _) hg3)
      have HU3 : Hid (w3.ownsRow x.heap.size 3 1 u3 (l ++ [0]).length (nvals (l ++ [0]))) := hid (by rw [nvals_snoc, List.length_append]; exact hu3)
      clear hu3 hg3 HU2 HB
      go_wp2_with fail
      go_ret
      exact ⟨_, rfl, by rw [← HLE.out]; exact HU3.out, HB3.out⟩
end Go.Proofs.Ytmllpednaibeeaa
