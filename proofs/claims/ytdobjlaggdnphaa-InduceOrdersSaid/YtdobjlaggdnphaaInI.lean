/- CONTRACTS (layer 16): the document's Induce. -/
import Derived.Test.YtdobjlaggdnphaaInH
namespace Go.Inc
open Go.RowKit
theorem trR {n : Nat} {c : Nat → Nat} {K : Nat → Bool} : ByR n c K (fun _ _ => True) (fun _ _ => True) :=
  ⟨fun _ _ _ _ _ => trivial, fun _ _ _ _ _ => trivial, fun _ _ _ _ _ _ _ => trivial, fun _ _ _ _ _ _ _ => trivial, fun _ _ _ _ _ _ _ _ => trivial, fun _ _ _ _ _ _ _ _ => trivial, fun _ _ _ _ _ _ _ _ => trivial⟩
/-- A row of which the first t are empty, the others still 0. -/
def fvl (t n : Nat) : List Value := (List.range n).map fun p => Value.int .i64 (if p < t then -1 else 0)
theorem fvl_len (t n : Nat) : (fvl t n).length = n := by simp [fvl]
theorem fvl_get {t n p : Nat} (h : p < n) : (fvl t n)[p]? = some (.int .i64 (if p < t then -1 else 0)) := by
  unfold fvl
  rw [List.getElem?_map, List.getElem?_range h]; rfl
theorem fvl_step {t n : Nat} (ht : t < n) : (fvl t n).set t (.int .i64 (-1)) = fvl (t + 1) n := by
  apply List.ext_getElem?
  intro i
  rw [List.getElem?_set, fvl_len]
  by_cases hi : i < n
  · rw [fvl_get hi, fvl_get hi]
    by_cases e : t = i
    · subst e; rw [if_pos rfl, if_pos hi, if_pos (by omega)]
    · rw [if_neg e]
      by_cases h : i < t
      · rw [if_pos h, if_pos (by omega)]
      · rw [if_neg h, if_neg (by omega)]
  · have h1 : (fvl t n)[i]? = none := List.getElem?_eq_none (by rw [fvl_len]; omega)
    have h2 : (fvl (t + 1) n)[i]? = none := List.getElem?_eq_none (by rw [fvl_len]; omega)
    rw [h1, h2, if_neg (by omega)]
theorem fvl_zero (n : Nat) : qvl (fun _ => 0) n = fvl 0 n := by
  apply List.ext_getElem?
  intro i
  by_cases hi : i < n
  · rw [fvl_get hi, qvl_get hi]; rfl
  · rw [List.getElem?_eq_none (by rw [qvl_len]; omega), List.getElem?_eq_none (by rw [fvl_len]; omega)]
theorem fvl_all (n : Nat) : fvl n n = ivl (fun _ => none) n := by
  apply List.ext_getElem?
  intro i
  by_cases hi : i < n
  · rw [fvl_get hi, ivl_get hi, if_pos hi]; rfl
  · rw [List.getElem?_eq_none (by rw [fvl_len]; omega), List.getElem?_eq_none (by rw [ivl_len]; omega)]
/-- Sowing one more. -/
theorem drop_cons {l : List Nat} {k : Nat} (h : k < l.length) : l.drop k = l.getD k 0 :: l.drop (k + 1) := by
  rw [List.drop_eq_getElem_cons h, List.getD_eq_getElem?_getD, List.getElem?_eq_getElem h]; rfl
theorem isFs_lt {x : List Int} {fs : List Nat} (hf : isFs x fs) {f : Nat} (h : f ∈ fs) : f < x.length ∧ kdT x f = true := by
  have := inF_mem.1 ((hf.2 f).1 h)
  exact ⟨this.2.1, this.2.2.1⟩
/-- What a beginning of sowing leaves, and that there is room for the next one. -/
theorem sow_next {x : List Int} (h : InT x) {fs : List Nat} (hf : isFs x fs) {k : Nat} (hk : k < fs.length) :
    ((sow x.length (cdT x) (fs.drop (k + 1))).2 (cdT x (fs.getD k 0))) < szC x.length (cdT x) (cdT x (fs.getD k 0)) := by
  have hm : fs.getD k 0 ∈ fs := getD_inN hk
  have hl := isFs_lt hf hm
  obtain ⟨h1, h2, -, -⟩ := sow_ok (R := fun _ _ => True) h.txt (fs.drop (k + 1)) (hf.1.sublist (List.drop_sublist _ _)) (fun f hh => isFs_lt hf (List.mem_of_mem_drop hh)) (fun _ _ _ _ _ => trivial) (List.pairwise_of_forall (fun _ _ _ => trivial))
  have hno : ∀ p, (sow x.length (cdT x) (fs.drop (k + 1))).1 p ≠ some (fs.getD k 0) := fun p hp => by
    have h3 := ((h2 p _).1 hp).1
    have h4 := hf.1.sublist (List.drop_sublist k fs)
    rw [drop_cons hk, List.nodup_cons] at h4
    exact h4.1 h3
  have := h1.room hl.1 hno
  simpa using this
/-- What is taken away between the scans. -/
def clrA (n : Nat) (K : Nat → Bool) (a : Nat → Option Nat) (t : Nat) (p : Nat) : Option Nat :=
  if p < t then match a p with | some i => if insS n K i = true then none else some i | none => none else a p
theorem clrA_step {n : Nat} {K : Nat → Bool} {a : Nat → Option Nat} {t : Nat} (v : Option Nat) (hv : v = match a t with | some i => if insS n K i = true then none else some i | none => none) : ∀ p, updF (clrA n K a t) t v p = clrA n K a (t + 1) p := by
  intro p
  unfold clrA
  by_cases e : p = t
  · subst e; rw [updF_at, if_pos (by omega), hv]
  · rw [updF_ne _ _ e]
    by_cases h : p < t
    · rw [if_pos h, if_pos (by omega)]
    · rw [if_neg h, if_neg (by omega)]
theorem clrA_at {n : Nat} {K : Nat → Bool} {a : Nat → Option Nat} {t : Nat} : clrA n K a t t = a t := by unfold clrA; rw [if_neg (Nat.lt_irrefl _)]
theorem clrA_skip {n : Nat} {K : Nat → Bool} {a : Nat → Option Nat} {t : Nat} (h : a t = match a t with | some i => if insS n K i = true then none else some i | none => none) : ∀ p, clrA n K a t p = clrA n K a (t + 1) p := by
  intro p
  rw [← clrA_step (a t) h p]
  by_cases e : p = t
  · subst e; rw [updF_at, clrA_at]
  · rw [updF_ne _ _ e]
/-- Facts of a scan at a place. -/
theorem scan_none {c : Nat → Nat} {ins : Nat → Bool} {st : Nat → Nat} {a0 : Nat → Option Nat} {k : Nat} (h : (scan c ins st a0 k).1 k = none) : scan c ins st a0 (k + 1) = scan c ins st a0 k := by
  show scStep c ins st (scan c ins st a0 k) k = _
  unfold scStep; rw [h]
theorem scan_skip {c : Nat → Nat} {ins : Nat → Bool} {st : Nat → Nat} {a0 : Nat → Option Nat} {k i : Nat} (h : (scan c ins st a0 k).1 k = some i) (hi : ¬ (0 < i ∧ ins (i - 1) = true)) : scan c ins st a0 (k + 1) = scan c ins st a0 k := by
  show scStep c ins st (scan c ins st a0 k) k = _
  unfold scStep; rw [h]; simp only; rw [if_neg hi]
theorem scan_put {c : Nat → Nat} {ins : Nat → Bool} {st : Nat → Nat} {a0 : Nat → Option Nat} {k j : Nat} (h : (scan c ins st a0 k).1 k = some (j + 1)) (hj : ins j = true) :
    scan c ins st a0 (k + 1) = (updF (scan c ins st a0 k).1 (st (c j) + (scan c ins st a0 k).2 (c j)) (some j), updF (scan c ins st a0 k).2 (c j) ((scan c ins st a0 k).2 (c j) + 1)) := by
  show scStep c ins st (scan c ins st a0 k) k = _
  unfold scStep; rw [h]; simp only; rw [Nat.add_sub_cancel, if_pos ⟨by omega, hj⟩]
section
variable {n : Nat} {c : Nat → Nat} {ins : Nat → Bool} {st m : Nat → Nat} {R : Nat → Nat → Prop} {a : Nat → Option Nat} {q : Nat → Nat} {k : Nat}
/-- Where the next one goes: it is empty; all ahead of it in the bucket are filled. -/
theorem ScanI.free (hs : Scan n c ins st) (h : ScanI n c ins st m R a q k) {j : Nat} (hk : a k = some (j + 1)) (hj : ins j = true) :
    j < n ∧ j + 1 < n ∧ q (c j) + m (c j) < szC n c (c j) ∧ st (c j) + q (c j) < n ∧ a (st (c j) + q (c j)) = none ∧ ∀ t, t < q (c j) → ∃ i, a (st (c j) + t) = some i := by
  obtain ⟨hin, -⟩ := h.at_ hk
  have hno : ∀ p, a p ≠ some j := fun p hp => by
    obtain ⟨p', h1, h2, h3⟩ := h.prev p _ hp hj
    have := h.inj p' k _ h3 hk
    omega
  have hr := h.room (show j < n by omega) hno
  have hi := hs.in_ (c j)
  exact ⟨by omega, hin, hr, by omega, h.mid _ _ (Nat.le_refl _) (by omega), fun t ht => by
    obtain ⟨i, h1, -⟩ := h.low _ t ht
    exact ⟨i, h1⟩⟩
end
end Go.Inc
namespace Go.Proofs.Ytdobjlaggdnphaa
open Go.RowKit Go.Inc
/-- The order's row and the counts' row. -/
structure OrdS (w : World) (B g1 g2 n G : Nat) (A : List Value) (q : Nat → Nat) : Prop where
  ord : w.ownsRow B 3 1 (.slice (some ⟨g1, 0, none⟩) n n) n A
  put : w.ownsRow B 3 1 (.slice (some ⟨g2, 0, none⟩) G G) G (qvl q G)
theorem OrdS.setO {w : World} {B g1 g2 n G : Nat} {A : List Value} {q : Nat → Nat} (h : OrdS w B g1 g2 n G A q) (hne : g1 ≠ g2) (p : Nat) (v : Int) : OrdS (w.setCell ⟨g1, p, none⟩ (.int .i64 v)) B g1 g2 n G (A.set p (.int .i64 v)) q := by
  have h1 := h.ord.stored p (.int .i64 v)
  exact ⟨h1.1, h.put.kept h1.2 (.inr (by simp [Value.ownBlock]; exact fun e => hne e.symm))⟩
theorem OrdS.setP {w : World} {B g1 g2 n G : Nat} {A : List Value} {q : Nat → Nat} (h : OrdS w B g1 g2 n G A q) (hne : g1 ≠ g2) (s v : Nat) : OrdS (w.setCell ⟨g2, s, none⟩ (.int .i64 (v : Int))) B g1 g2 n G A (updF q s v) := by
  have h1 := h.put.stored s (.int .i64 (v : Int))
  rw [qvl_set] at h1
  exact ⟨h.ord.kept h1.2 (.inr (by simp [Value.ownBlock]; exact hne)), h1.1⟩
theorem OrdS.cellO {w : World} {B g1 g2 n G : Nat} {a : Nat → Option Nat} {q : Nat → Nat} (h : OrdS w B g1 g2 n G (ivl a n) q) {p : Nat} (hp : p < n) : w.cell? ⟨g1, p, none⟩ = some (.int .i64 (ov (a p))) := by
  have h1 := h.ord.cells (g := g1) rfl p _ (ivl_get hp)
  rw [Addr.add_lit] at h1
  simpa using h1
theorem OrdS.cellP {w : World} {B g1 g2 n G : Nat} {A : List Value} {q : Nat → Nat} (h : OrdS w B g1 g2 n G A q) {s : Nat} (hs : s < G) : w.cell? ⟨g2, s, none⟩ = some (.int .i64 ((q s : Nat) : Int)) := by
  have h1 := h.put.cells (g := g2) rfl s _ (qvl_get hs)
  rw [Addr.add_lit] at h1
  simpa using h1
theorem OrdS.drew {w : World} {B g1 g2 n G : Nat} {A : List Value} {q : Nat → Nat} (h : OrdS w B g1 g2 n G A q) : OrdS w.drew B g1 g2 n G A q := ⟨h.ord, h.put⟩
theorem OrdS.le {w : World} {B g1 g2 n G : Nat} {A : List Value} {q : Nat → Nat} (h : OrdS w B g1 g2 n G A q) : B ≤ g1 ∧ B ≤ g2 := by
  constructor
  · rcases h.ord.2 with ⟨h, _⟩ | ⟨g, _, _, h, hb, _⟩
    · cases h
    · cases h; exact hb
  · rcases h.put.2 with ⟨h, _⟩ | ⟨g, _, _, h, hb, _⟩
    · cases h
    · cases h; exact hb
theorem one_row (x : World) (v : Value) : (x.alloc (.cells #[v] 3)).ownsRow x.heap.size 3 1 (.slice (some ⟨x.heap.size, 0, none⟩) 1 1) 1 [v] :=
  ⟨rfl, .inr ⟨x.heap.size, 1, #[v], rfl, Nat.le_refl _, heap_alloc_new x _, Nat.le_refl _, by unfold maxLen; omega, rfl, rfl⟩⟩
set_option maxRecDepth 20000 in
set_option maxHeartbeats 4000000 in
theorem refInduce_any (ok ok' : Nat → Prop) (x : World) (a b : Option Addr) (c d : Nat) (zs : List Int) (fs : List Nat) (hs : Si ok x a zs) (hf : Si ok' x b (zsN fs)) (hck : ckT zs = 0) (hl : (zs.length : Int) ≤ 65536) (hfs : isFs zs fs) :
    Calls Try.prog 18 #[.slice a zs.length c, .slice b fs.length d] x fun e w' => ∃ u, e = .returned u ∧ w'.ownsRow x.heap.size 3 1 u zs.length (nvals (indT zs fs)) ∧ Below x.heap.size x w' := by
  have hI := InT.of hck
  have HI := hid hI
  obtain ⟨n, hn⟩ : ∃ n, n = zs.length := ⟨_, rfl⟩
  have HN := hid hn
  by_cases h1 : n = 1
  · have HE : Hid (indT zs fs = [0]) := hid (by unfold indT; rw [← hn, if_pos h1])
    rw [← hn, h1]
    clear hs hf hck hl hfs hI hn h1
    go_enter Try.func18, Try.ntmps18
    go_wp2_with fail
    go_ret
    exact ⟨_, rfl, by rw [HE.out]; exact one_row x _, (Below.refl _ _).alloc (Nat.le_refl _) _⟩
  · have HFS := hid hfs
    have HCK := hid hck
    have hone : ((n : Int) == 1) = false := by rw [beq_eq_false_iff_ne]; omega
    have H2 : Hid (1 < n) := hid (by have := hI.two (by rw [← hn]; exact h1); omega)
    have HKD := hid (refKinds_any ok x a c zs hs hI.right hl)
    obtain ⟨m, hm⟩ : ∃ m, m = fs.length := ⟨_, rfl⟩
    have HM := hid hm
    have hmn : fs.length ≤ zs.length := by
      have h2 := nodup_le (m := List.range zs.length) hfs.1 (fun f hf => List.mem_range.2 (isFs_lt hfs hf).1)
      rwa [List.length_range] at h2
    obtain ⟨tb, tq, rfl, htx⟩ : ∃ tb tq, a = some ⟨tb, tq, none⟩ ∧ ∀ i, i < n → x.cell? ⟨tb, tq + i, none⟩ = some (.int .i64 ((cdT zs i : Nat) : Int)) := by
      rcases hs with h | ⟨tb, tq, h, _, hc⟩
      · rw [h] at hn; simp at hn; have := H2.out; omega
      · exact ⟨tb, tq, h, fun i hi => by rw [hc i (by rw [← hn]; exact hi), hI.cd (by rw [← hn]; exact hi)]⟩
    obtain ⟨fb, fo, rfl, hfx⟩ : ∃ fb fo, b = some ⟨fb, fo, none⟩ ∧ ∀ k, k < m → x.cell? ⟨fb, fo + k, none⟩ = some (.int .i64 ((fs.getD k 0 : Nat) : Int)) := by
      rcases hf with h | ⟨fb, fo, h, _, hc⟩
      · have h2 := (hfs.2 _).2 (fs_last hI (by rw [← hn]; exact H2.out))
        have h3 : fs = [] := by simpa [zsN] using h
        rw [h3] at h2; cases h2
      · exact ⟨fb, fo, h, fun k hk => by rw [hc k (by rw [zsN_len, ← hm]; exact hk), zsN_get]⟩
    have HTX : Hid (∀ y, Below x.heap.size x y → ∀ i, i < n → y.cell? ⟨tb, tq + i, none⟩ = some (.int .i64 ((cdT zs i : Nat) : Int))) := hid fun y hy i hi => by
      rw [← htx i hi]; exact World.cell?_of_block (hy.block tb (cell_lt (htx i hi)))
    have HFX : Hid (∀ y, Below x.heap.size x y → ∀ k, k < m → y.cell? ⟨fb, fo + k, none⟩ = some (.int .i64 ((fs.getD k 0 : Nat) : Int))) := hid fun y hy k hk => by
      rw [← hfx k hk]; exact World.cell?_of_block (hy.block fb (cell_lt (hfx k hk)))
    have HGR : Hid (∀ y, Below x.heap.size x y → Calls Try.prog 11 #[.slice (some ⟨tb, tq, none⟩) n c] y fun e w' => e = .returned (.int .i64 ((grT zs n : Nat) : Int)) ∧ y = w') := hid fun y hy => by
      have h2 := refGreatest_any _ y _ c zs (hs.below hy) hI hl
      rwa [← hn] at h2
    have HBU : Hid (∀ y, Below x.heap.size x y → ∀ s : Nat, Calls Try.prog 12 #[.slice (some ⟨tb, tq, none⟩) n c, .int .i64 (s : Int)] y fun e w' => e = .returned (.tuple #[.int .i64 ((hdC n (cdT zs) s : Nat) : Int), .int .i64 ((hdC n (cdT zs) (s + 1) : Nat) : Int)]) ∧ y = w') := hid fun y hy s => by
      have h2 := refBucket_any _ y _ c zs s (hs.below hy) hI hl
      rwa [← hn] at h2
    have HG : Hid (∀ i, i < n → cdT zs i < grT zs n + 1) := hid fun i hi => by
      have := grT_le zs n i hi; omega
    have hgb : grT zs n ≤ 65535 := grT_bd (fun i hi => ck_cd hck hi) n (by omega)
    obtain ⟨G, hGe⟩ : ∃ G, G = grT zs n + 1 := ⟨_, rfl⟩
    have hGi : ((grT zs n : Nat) : Int) + 1 = (G : Int) := by omega
    rw [← hGe] at HG
    have hGb : (G : Int) ≤ 65536 := by omega
    have HNZ : Hid (zs.length = n) := hid hn.symm
    rw [← hn] at HKD hl ⊢
    rw [← hm]
    have hmb : (m : Int) ≤ 65536 := by omega
    obtain ⟨i0, hi, hz0, hz1, hz2⟩ := info_parts infoIntS
    have HINF := hid (And.intro hi (And.intro hz0 (And.intro hz1 hz2)))
    clear hs hf hck hfs hI hn h1 hm hmn htx hfx hgb hGe hi hz0 hz1 hz2
    go_enter Try.func18, Try.ntmps18
    go_wp2_with fail
    refine HKD.out.mono ?_
    rintro e w1 ⟨uk, rfl, hk, hb1⟩
    obtain ⟨ka, kc', rfl, -, -, -, -, hkb⟩ := Bl.owned hk
    obtain ⟨kb, ko, rfl, hkx⟩ : ∃ kb ko, ka = some ⟨kb, ko, none⟩ ∧ ∀ i, i < n → w1.cell? ⟨kb, ko + i, none⟩ = some (.bool (kdT zs i)) := by
      rcases hkb with h | ⟨kb, ko, h, _, hc⟩
      · have h2 := kdTo_len zs n
        rw [h] at h2; simp at h2; have := H2.out; omega
      · exact ⟨kb, ko, h, fun i hi => by rw [hc i (by rw [kdTo_len]; exact hi), kdTo_get hi]⟩
    have HKX : Hid (∀ y, Below w1.heap.size w1 y → ∀ i, i < n → y.cell? ⟨kb, ko + i, none⟩ = some (.bool (kdT zs i))) := hid fun y hy i hi => by
      rw [← hkx i hi]; exact World.cell?_of_block (hy.block kb (cell_lt (hkx i hi)))
    have HB1 := hid hb1
    have HX : Hid (∀ y, Below w1.heap.size w1 y → Below x.heap.size x y) := hid fun y hy => hb1.trans (hy.mono hb1.size)
    rw [kdTo_len]
    clear hk hb1 hkb hkx HKD
    go_wp2_with (refine wpList_make_full _ rfl _ _ 22 rfl w1.heap.size 3 i0 (.int .i64 0) 1 Try.underlying22 HINF.out.1 HINF.out.2.1 HINF.out.2.2.1 .i64 .i64 _ _ n rfl rfl rfl rfl (by rw [HINF.out.2.2.2]; omega) (by unfold maxLen; omega) (Nat.le_refl _) ?_)
    intro w2 ho2 hg2
    rw [zero_cells, fvl_zero] at ho2
    obtain ⟨g1, hg1⟩ : ∃ g1, g1 = w1.heap.size := ⟨_, rfl⟩
    have HG1 := hid hg1
    rw [← hg1] at ho2 HKX HX ⊢
    have hbw : Below g1 w1 w2 := ⟨hg2.os, hg2.tape, hg2.output, hg2.size, fun i hi => hg2.block i (by rw [← hg1]; exact hi) (by simp)⟩
    have HO2 := hid ho2
    have HB2 := hid hbw
    clear ho2 hg2 hbw hg1
    go_wp2_with fail
    go_loopw [7] (fun i wr => ∃ t : Nat, t ≤ n ∧ i = .int .i64 (t : Int) ∧ wr.ownsRow g1 3 1 (.slice (some ⟨g1, 0, none⟩) n n) n (fvl t n) ∧ Below g1 w1 wr) (fun i _ => n - (intOf i).toNat)
    case atStart => exact ⟨0, Nat.zero_le _, rfl, HO2.out, HB2.out⟩
    case round =>
      clear HO2 HB2
      obtain ⟨t, ht, rfl, ho, hb⟩ := hrel
      have HO := hid ho
      have HB := hid hb
      clear ho hb
      by_cases hlt : t < n
      · have hti : (t < n) = True := eq_true hlt
        have HLT := hid hlt
        have j1 : wr.cell? ⟨g1, t, none⟩ = some (.int .i64 0) := by
          have h := HO.out.cells (g := g1) rfl t _ (fvl_get hlt)
          rw [Addr.add_lit, if_neg (Nat.lt_irrefl _)] at h
          simpa using h
        have f1 := HO.out.frozenAt t
        have HO2 := hid (HO.out.stored t (.int .i64 (-1)))
        rw [fvl_step hlt] at HO2
        have HB2 := hid (HB.out.setCell (p := ⟨g1, t, none⟩) (Nat.le_refl _) (.int .i64 (-1)))
        clear hlt HO HB
        go_wp2_with fail
        go_roundw
        case rel => exact ⟨t + 1, HLT.out, by go_num, HO2.out.1, HB2.out⟩
        case measure => simp [intOf]; have := HLT.out; omega
      · have hti : (t < n) = False := eq_false hlt
        obtain rfl : n = t := by omega
        have ho3 := HO.out
        rw [fvl_all] at ho3
        have HO3 := hid ho3
        clear hlt HO ho3
        have HGR1 := hid (HGR.out wr (HX.out wr HB.out))
        go_wp2_with fail
        refine HGR1.out.mono ?_
        rintro e w' ⟨rfl, rfl⟩
        have hgw : G ≤ 65536 := by omega
        have HGW := hid hgw
        clear HGR1 hgw
        go_wp2_with (refine wpList_make_full _ rfl _ _ 22 rfl g1 3 i0 (.int .i64 0) 1 Try.underlying22 HINF.out.1 HINF.out.2.1 HINF.out.2.2.1 .i64 .i64 _ _ G rfl rfl rfl rfl (by rw [HINF.out.2.2.2]; have := HGW.out; omega) (by have := HGW.out; unfold maxLen; omega) (by have := HB.out.size; rw [HG1.out]; exact this) ?_)
        intro w3 ho3 hg3
        rw [zero_cells] at ho3
        obtain ⟨g2, hg2⟩ : ∃ g2, g2 = wr.heap.size := ⟨_, rfl⟩
        rw [← hg2] at ho3 ⊢
        have HNE : Hid (g1 ≠ g2) := hid (by
          rcases HO3.out.2 with ⟨h, _⟩ | ⟨g, _, _, h, _, hh, _⟩
          · cases h
          · cases h
            rw [hg2]; exact Nat.ne_of_lt (row_lt hh))
        have HS3 : Hid (OrdS w3 g1 g1 g2 n G (ivl (sow n (cdT zs) (fs.drop m)).1 n) (sow n (cdT zs) (fs.drop m)).2) := hid (by
          rw [HM.out, List.drop_length]
          exact ⟨HO3.out.kept hg3 (.inr (by simp [Value.ownBlock])), ho3⟩)
        have HB3 : Hid (Below g1 w1 w3) := hid (HB.out.trans ⟨hg3.os, hg3.tape, hg3.output, hg3.size, fun i hi => hg3.block i (by have := HB.out.size; rw [← HG1.out] at this; omega) (by simp)⟩)
        clear ho3 hg3 hg2 HB HO3
        go_wp2_with fail
        go_loopw [9, 10, 11, 12] (fun kk _ _ _ wr => ∃ j : Nat, j ≤ m ∧ kk = .int .i64 ((j : Int) - 1) ∧ OrdS wr g1 g1 g2 n G (ivl (sow n (cdT zs) (fs.drop j)).1 n) (sow n (cdT zs) (fs.drop j)).2 ∧ Below g1 w1 wr) (fun kk _ _ _ _ => ((intOf kk) + 1).toNat)
        case atStart => exact ⟨m, Nat.le_refl _, by go_num, HS3.out, HB3.out⟩
        case round =>
          clear HS3 HB3
          obtain ⟨j, hj, rfl, hs3, hb3⟩ := hrel
          have HS3 := hid hs3
          have HB3 := hid hb3
          clear hs3 hb3
          cases j with
          | zero =>
            rw [List.drop_zero] at HS3
            obtain ⟨h0, -, -, -⟩ := sow_ok (R := fun _ _ => True) HI.out.txt fs HFS.out.1 (fun f hh => isFs_lt HFS.out hh) (fun _ _ _ _ _ => trivial) (List.pairwise_of_forall (fun _ _ _ => trivial))
            have HSC := hid (ScanI.scan HI.out.txt.scanL (trR.scanL HI.out.txt) h0)
            rw [← HN.out] at HSC
            have HTS := hid HI.out.txt.scanL
            rw [← HN.out] at HTS
            obtain ⟨a0, ha0⟩ : ∃ a0, a0 = (sow n (cdT zs) fs).1 := ⟨_, rfl⟩
            have HA0 := hid ha0
            rw [← ha0] at HSC
            have HO := hid HS3.out.ord
            rw [← ha0] at HO
            clear h0 ha0 hj HS3
            go_wp2_with fail
            go_loopw [13, 14, 15, 16] (fun kk _ _ _ wr => ∃ t : Nat, t ≤ n ∧ kk = .int .i64 (t : Int) ∧ wr.ownsRow g1 3 1 (.slice (some ⟨g1, 0, none⟩) n n) n (ivl (scan (cdT zs) (insL (kdT zs)) (hdC n (cdT zs)) a0 t).1 n) ∧ Below g1 w1 wr) (fun kk _ _ _ _ => n - (intOf kk).toNat)
            case atStart => exact ⟨0, Nat.zero_le _, rfl, HO.out, HB3.out⟩
            case round =>
              clear HO HB3
              obtain ⟨t, ht, rfl, ho, hb3⟩ := hrel
              have HO := hid ho
              have HB3 := hid hb3
              clear ho hb3
              by_cases hlt : t < n
              · have hti : (t < n) = True := eq_true hlt
                have HLT := hid hlt
                have hsc := HSC.out t
                obtain ⟨A, hA⟩ : ∃ A, A = (scan (cdT zs) (insL (kdT zs)) (hdC n (cdT zs)) a0 t).1 := ⟨_, rfl⟩
                obtain ⟨Q, hQ⟩ : ∃ Q, Q = (scan (cdT zs) (insL (kdT zs)) (hdC n (cdT zs)) a0 t).2 := ⟨_, rfl⟩
                have HA := hid hA
                have HQ := hid hQ
                rw [← hA] at HO
                rw [← hA, ← hQ] at hsc
                have hcell : ∀ p, p < n → wr.cell? ⟨g1, p, none⟩ = some (.int .i64 (ov (A p))) := fun p hp => by
                  have h := HO.out.cells (g := g1) rfl p _ (ivl_get hp)
                  rw [Addr.add_lit] at h
                  simpa using h
                have HCE := hid hcell
                have hct := hcell t hlt
                have HSC9 := hid hsc
                clear hA hQ hcell hlt hsc
                cases hv : A t with
                | none =>
                  rw [hv] at hct
                  have hct' : wr.cell? ⟨g1, t, none⟩ = some (.int .i64 (-1)) := hct
                  have HSK := hid (scan_none (c := cdT zs) (ins := insL (kdT zs)) (st := hdC n (cdT zs)) (a0 := a0) (k := t) (by rw [← HA.out]; exact hv))
                  clear hct hv HCE HSC9
                  go_wp2_with fail
                  go_roundw
                  case rel => exact ⟨t + 1, HLT.out, by go_num, by rw [HSK.out, ← HA.out]; exact HO.out, HB3.out⟩
                  case measure => simp [intOf]; have := HLT.out; omega
                | some i =>
                  rw [hv] at hct
                  cases i with
                  | zero =>
                    have hct' : wr.cell? ⟨g1, t, none⟩ = some (.int .i64 0) := hct
                    have HSK := hid (scan_skip (c := cdT zs) (ins := insL (kdT zs)) (st := hdC n (cdT zs)) (a0 := a0) (k := t) (i := 0) (by rw [← HA.out]; exact hv) (by omega))
                    clear hct hv HCE HSC9
                    go_wp2_with fail
                    go_roundw
                    case rel => exact ⟨t + 1, HLT.out, by go_num, by rw [HSK.out, ← HA.out]; exact HO.out, HB3.out⟩
                    case measure => simp [intOf]; have := HLT.out; omega
                  | succ j =>
                    obtain ⟨h, hh⟩ : ∃ h : Nat, h = j + 1 := ⟨_, rfl⟩
                    have hct' : wr.cell? ⟨g1, t, none⟩ = some (.int .i64 (h : Int)) := by rw [hh]; exact hct
                    have hj1 : (h : Int) - 1 = (j : Int) := by omega
                    have hjn : j < n := by have := (HSC9.out.at_ hv).1; omega
                    have hjN : (j < n) = True := eq_true hjn
                    have hjb : (j : Int) < (n : Int) := by omega
                    have hj0 : decide ((j : Int) < 0) = false := decide_eq_false (by omega)
                    have hkc := HKX.out wr HB3.out j hjn
                    have HV := hid hv
                    cases hK : kdT zs j with
                    | true =>
                      rw [hK] at hkc
                      have HSK := hid (scan_skip (c := cdT zs) (ins := insL (kdT zs)) (st := hdC n (cdT zs)) (a0 := a0) (k := t) (i := j + 1) (by rw [← HA.out]; exact hv) (by rw [Nat.add_sub_cancel, insL_iff, hK]; simp))
                      clear hct hv HCE HSC9 hjn hh hK
                      go_wp2_with fail
                      go_roundw
                      case rel => exact ⟨t + 1, HLT.out, by go_num, by rw [HSK.out, ← HA.out]; exact HO.out, HB3.out⟩
                      case measure => simp [intOf]; have := HLT.out; omega
                    | false =>
                      rw [hK] at hkc
                      have hins : insL (kdT zs) j = true := insL_iff.2 hK
                      have HPU := hid (scan_put (c := cdT zs) (ins := insL (kdT zs)) (st := hdC n (cdT zs)) (a0 := a0) (k := t) (by rw [← HA.out]; exact hv) hins)
                      obtain ⟨-, -, hf1, hf2, hf3, hf4⟩ := HSC9.out.free HTS.out hv hins
                      have htc := HTX.out wr (HX.out wr HB3.out) j hjn
                      have HBK := hid (HBU.out wr (HX.out wr HB3.out) (cdT zs j))
                      obtain ⟨s, hs⟩ : ∃ s, s = cdT zs j := ⟨_, rfl⟩
                      rw [← hs] at htc HBK hf1 hf2 hf3 hf4
                      have HS := hid hs
                      obtain ⟨hd0, hhd⟩ : ∃ hd0, hd0 = hdC n (cdT zs) s := ⟨_, rfl⟩
                      rw [← hhd] at HBK hf2 hf3 hf4
                      have HHD := hid hhd
                      obtain ⟨y, hy⟩ : ∃ y, y = Q s := ⟨_, rfl⟩
                      rw [← hy] at hf1 hf2 hf3 hf4
                      have HY := hid hy
                      have HF2 := hid hf2
                      have HF3 := hid hf3
                      have HF4 := hid hf4
                      generalize hdC n (cdT zs) (s + 1) = tl at *
                      clear hct hv HSC9 hh hK hins hf1 hf2 hf3 hf4 hs hhd hy
                      go_wp2_with fail
                      refine HBK.out.mono ?_
                      rintro e w' ⟨rfl, rfl⟩
                      clear HBK
                      go_wp2_with fail
                      go_loop [15] (fun v => ∃ r : Nat, r ≤ y ∧ v = .int .i64 ((hd0 + r : Nat) : Int)) (fun v => hd0 + y - (intOf v).toNat)
                      case atStart => exact ⟨0, Nat.zero_le _, by go_num⟩
                      case round =>
                        obtain ⟨r, hr, rfl⟩ := hrel
                        obtain ⟨e0, he0⟩ : ∃ e0, e0 = hd0 + r := ⟨_, rfl⟩
                        rw [← he0]
                        have hen : e0 < n := by have := HF2.out; omega
                        have heN : (e0 < n) = True := eq_true hen
                        have heb : (e0 : Int) < (n : Int) := by omega
                        have hce := HCE.out e0 hen
                        by_cases hry : r < y
                        · obtain ⟨i, hi⟩ := HF4.out r hry
                          rw [← he0] at hi
                          rw [hi] at hce
                          have hce' : wr.cell? ⟨g1, e0, none⟩ = some (.int .i64 (i : Int)) := hce
                          have hi0 : decide ((0 : Int) ≤ (i : Int)) = true := decide_eq_true (by omega)
                          have HR9 : Hid (e0 = hd0 + r ∧ r < y) := hid ⟨he0, hry⟩
                          clear hce hi hry he0 hen hr
                          go_wp2_with fail
                          go_round
                          case rel => exact ⟨r + 1, HR9.out.2, by rw [HR9.out.1] <;> go_num⟩
                          case measure => simp [intOf]; have := HR9.out; omega
                        · have hre : e0 = hd0 + y := by omega
                          rw [← hre] at HF3
                          rw [HF3.out] at hce
                          have hce' : wr.cell? ⟨g1, e0, none⟩ = some (.int .i64 (-1)) := hce
                          have f1 := HO.out.frozenAt e0
                          have HO4 := hid (HO.out.stored e0 (.int .i64 (j : Int)))
                          have hset := ivl_set A n e0 (some j)
                          rw [show ov (some j) = (j : Int) from rfl] at hset
                          rw [hset] at HO4
                          have HB4 := hid (HB3.out.setCell (p := ⟨g1, e0, none⟩) (Nat.le_refl _) (.int .i64 (j : Int)))
                          have HRE := hid hre
                          clear hce hre hry he0 hen hr hset HO HB3
                          go_wp2_with fail
                          go_roundw
                          case rel => exact ⟨t + 1, HLT.out, by go_num, by
                            rw [HPU.out]
                            show World.ownsRow _ g1 3 1 _ n (ivl (updF (scan (cdT zs) (insL (kdT zs)) (hdC n (cdT zs)) a0 t).1 (hdC n (cdT zs) (cdT zs j) + (scan (cdT zs) (insL (kdT zs)) (hdC n (cdT zs)) a0 t).2 (cdT zs j)) (some j)) n)
                            rw [← HA.out, ← HQ.out, ← HS.out, ← HHD.out, ← HY.out, ← HRE.out]
                            exact HO4.out.1, HB4.out⟩
                          case measure => simp [intOf]; have := HLT.out; omega
              · have hti : (t < n) = False := eq_false hlt
                obtain rfl : n = t := by omega
                have hpt : ∀ p i, (scan (cdT zs) (insL (kdT zs)) (hdC n (cdT zs)) a0 n).1 p = some i → i < n := fun p i h => ((HSC.out n).at_ h).1
                have HPT := hid hpt
                have HSO : Hid (SowOk n (cdT zs) (kdT zs) (fun _ _ => True) fs) := hid ⟨HFS.out.1, fun j => by rw [HFS.out.2, ← ms_fs, ← HN.out], List.pairwise_of_forall (fun _ _ _ => trivial)⟩
                have hTx := HI.out.txt
                rw [← HN.out] at hTx
                have HTX9 := hid hTx
                have HSC2 := hid (ScanI.scan hTx.scanS (trR.scanS hTx) (left1_ok hTx trR HSO.out H2.out))
                have HTS2 := hid hTx.scanS
                have HIND := hid (indF_ok hTx trR HSO.out H2.out)
                have HINE : Hid (indT zs fs = indF n (cdT zs) (kdT zs) fs) := hid (by unfold indT; rw [← HN.out, if_neg (by have := H2.out; omega)])
                obtain ⟨P1, hP1⟩ : ∃ P1, P1 = (scan (cdT zs) (insL (kdT zs)) (hdC n (cdT zs)) a0 n).1 := ⟨_, rfl⟩
                have HP1 := hid hP1
                rw [← hP1] at HO HPT
                have HLF : Hid (∀ p, p < n → left1 n (cdT zs) (kdT zs) fs (n - 1 - p) = clrA n (kdT zs) P1 n p) := hid fun p hp => by
                  unfold left1 clrA pass1
                  rw [if_pos (by omega), if_pos hp, show n - 1 - (n - 1 - p) = p by omega, ← HA0.out, ← HP1.out]
                  cases P1 p <;> rfl
                obtain ⟨a1, ha1⟩ : ∃ a1, a1 = left1 n (cdT zs) (kdT zs) fs := ⟨_, rfl⟩
                have HA1 := hid ha1
                rw [← ha1] at HSC2 HLF
                have HO9 : Hid (wr.ownsRow g1 3 1 (.slice (some ⟨g1, 0, none⟩) n n) n (ivl (clrA n (kdT zs) P1 0) n)) := hid HO.out
                clear hlt hP1 HSC hpt HTS hTx ha1 HO
                go_wp2_with fail
                go_loopw [17] (fun kk wr => ∃ t : Nat, t ≤ n ∧ kk = .int .i64 (t : Int) ∧ wr.ownsRow g1 3 1 (.slice (some ⟨g1, 0, none⟩) n n) n (ivl (clrA n (kdT zs) P1 t) n) ∧ Below g1 w1 wr) (fun kk _ => n - (intOf kk).toNat)
                case atStart => exact ⟨0, Nat.zero_le _, rfl, HO9.out, HB3.out⟩
                case round =>
                  clear HO9 HB3
                  obtain ⟨t, ht, rfl, ho, hb3⟩ := hrel
                  have HO := hid ho
                  have HB3 := hid hb3
                  clear ho hb3
                  by_cases hlt : t < n
                  · have hti : (t < n) = True := eq_true hlt
                    have HLT := hid hlt
                    have hct := HO.out.cells (g := g1) rfl t _ (ivl_get hlt)
                    rw [Addr.add_lit, clrA_at, Nat.zero_add] at hct
                    have f1 := HO.out.frozenAt t
                    cases hv : P1 t with
                    | none =>
                      rw [hv] at hct
                      have hct' : wr.cell? ⟨g1, t, none⟩ = some (.int .i64 (-1)) := hct
                      have HSK := hid (ivl_congr (n := n) fun p _ => clrA_skip (n := n) (K := kdT zs) (a := P1) (t := t) (by rw [hv]) p)
                      clear hct hv hlt
                      go_wp2_with fail
                      go_roundw
                      case rel => exact ⟨t + 1, HLT.out, by go_num, by rw [← HSK.out]; exact HO.out, HB3.out⟩
                      case measure => simp [intOf]; have := HLT.out; omega
                    | some i =>
                      rw [hv] at hct
                      have hct' : wr.cell? ⟨g1, t, none⟩ = some (.int .i64 (i : Int)) := hct
                      have hin := HPT.out t i hv
                      have hiN : (i < n) = True := eq_true hin
                      have hib : (i : Int) < (n : Int) := by omega
                      have hi0 : decide ((0 : Int) ≤ (i : Int)) = true := decide_eq_true (by omega)
                      have hkc := HKX.out wr HB3.out i hin
                      cases hK : kdT zs i with
                      | false =>
                        rw [hK] at hkc
                        have HSK := hid (ivl_congr (n := n) fun p _ => clrA_skip (n := n) (K := kdT zs) (a := P1) (t := t) (by rw [hv]; simp only; rw [if_neg (by rw [insS_iff, hK]; simp)]) p)
                        clear hct hv hlt hK hin
                        go_wp2_with fail
                        go_roundw
                        case rel => exact ⟨t + 1, HLT.out, by go_num, by rw [← HSK.out]; exact HO.out, HB3.out⟩
                        case measure => simp [intOf]; have := HLT.out; omega
                      | true =>
                        rw [hK] at hkc
                        by_cases hil : i = n - 1
                        · have hie : ((i : Int) == (n : Int) - 1) = true := by rw [beq_iff_eq]; omega
                          have hie2 : ((i : Int) != (n : Int) - 1) = false := by rw [bne, hie]; rfl
                          have HSK := hid (ivl_congr (n := n) fun p _ => clrA_skip (n := n) (K := kdT zs) (a := P1) (t := t) (by rw [hv]; simp only; rw [if_neg (by rw [insS_iff]; exact fun h => h.2 hil)]) p)
                          clear hct hv hlt hK hin hil
                          go_wp2_with fail
                          go_roundw
                          case rel => exact ⟨t + 1, HLT.out, by go_num, by rw [← HSK.out]; exact HO.out, HB3.out⟩
                          case measure => simp [intOf]; have := HLT.out; omega
                        · have hie : ((i : Int) == (n : Int) - 1) = false := by rw [beq_eq_false_iff_ne]; omega
                          have hie2 : ((i : Int) != (n : Int) - 1) = true := by rw [bne, hie]; rfl
                          have HO4 := hid (HO.out.stored t (.int .i64 (-1)))
                          have hset := ivl_set (clrA n (kdT zs) P1 t) n t none
                          rw [show ov none = -1 from rfl] at hset
                          rw [hset, ivl_congr (n := n) fun p _ => clrA_step (n := n) (K := kdT zs) (a := P1) (t := t) none (by rw [hv]; simp only; rw [if_pos (insS_iff.2 ⟨hK, hil⟩)]) p] at HO4
                          have HB4 := hid (HB3.out.setCell (p := ⟨g1, t, none⟩) (Nat.le_refl _) (.int .i64 (-1)))
                          clear hct hv hlt hK hin hil hset HO HB3
                          go_wp2_with fail
                          go_roundw
                          case rel => exact ⟨t + 1, HLT.out, by go_num, HO4.out.1, HB4.out⟩
                          case measure => simp [intOf]; have := HLT.out; omega
                  · have hti : (t < n) = False := eq_false hlt
                    obtain rfl : n = t := by omega
                    have HGR2 := hid (HGR.out wr (HX.out wr HB3.out))
                    clear hlt
                    go_wp2_with fail
                    refine HGR2.out.mono ?_
                    rintro e w' ⟨rfl, rfl⟩
                    clear HGR2
                    go_wp2_with (refine wpList_make_full _ rfl _ _ 22 rfl g1 3 i0 (.int .i64 0) 1 Try.underlying22 HINF.out.1 HINF.out.2.1 HINF.out.2.2.1 .i64 .i64 _ _ G rfl rfl rfl rfl (by rw [HINF.out.2.2.2]; have := HGW.out; omega) (by have := HGW.out; unfold maxLen; omega) (by have := HB3.out.size; rw [HG1.out]; exact this) ?_)
                    intro w5 ho3 hg3
                    rw [zero_cells] at ho3
                    obtain ⟨g3, hg2⟩ : ∃ g3, g3 = wr.heap.size := ⟨_, rfl⟩
                    rw [← hg2] at ho3 ⊢
                    have HNE3 : Hid (g1 ≠ g3) := hid (by
                      rcases HO.out.2 with ⟨h, _⟩ | ⟨g, _, _, h, _, hh, _⟩
                      · cases h
                      · cases h
                        rw [hg2]; exact Nat.ne_of_lt (row_lt hh))
                    have HS5 : Hid (OrdS w5 g1 g1 g3 n G (ivl (fun p => (scan (cdT zs) (insS n (kdT zs)) (stS n (cdT zs)) a1 0).1 (n - 1 - p)) n) (scan (cdT zs) (insS n (kdT zs)) (stS n (cdT zs)) a1 0).2) := hid (by
                      refine ⟨?_, ho3⟩
                      rw [ivl_congr (n := n) (a := fun p => (scan (cdT zs) (insS n (kdT zs)) (stS n (cdT zs)) a1 0).1 (n - 1 - p)) (b := clrA n (kdT zs) P1 n) fun p hp => HLF.out p hp]
                      exact HO.out.kept hg3 (.inr (by simp [Value.ownBlock])))
                    have HB5 : Hid (Below g1 w1 w5) := hid (HB3.out.trans ⟨hg3.os, hg3.tape, hg3.output, hg3.size, fun i hi => hg3.block i (by have := HB3.out.size; rw [← HG1.out] at this; omega) (by simp)⟩)
                    clear ho3 hg3 hg2 HB3 HO
                    go_wp2_with fail
                    go_loopw [18, 19, 20, 21] (fun kk _ _ _ wr => ∃ t : Nat, t ≤ n ∧ kk = .int .i64 ((n : Int) - 1 - (t : Int)) ∧ OrdS wr g1 g1 g3 n G (ivl (fun p => (scan (cdT zs) (insS n (kdT zs)) (stS n (cdT zs)) a1 t).1 (n - 1 - p)) n) (scan (cdT zs) (insS n (kdT zs)) (stS n (cdT zs)) a1 t).2 ∧ Below g1 w1 wr) (fun kk _ _ _ _ => ((intOf kk) + 1).toNat)
                    case atStart => exact ⟨0, Nat.zero_le _, by go_num, HS5.out, HB5.out⟩
                    case round =>
                      clear HS5 HB5
                      obtain ⟨t, ht, rfl, hs5, hb5⟩ := hrel
                      have HS5 := hid hs5
                      have HB5 := hid hb5
                      clear hs5 hb5
                      by_cases hlt : t < n
                      · obtain ⟨p, hp⟩ : ∃ p : Nat, p = n - 1 - t := ⟨_, rfl⟩
                        have hpe : (n : Int) - 1 - (t : Int) = (p : Int) := by omega
                        rw [hpe]
                        have HLT := hid hlt
                        have HPE := hid hp
                        have hpn : p < n := by omega
                        have hpN : (p < n) = True := eq_true hpn
                        have hpb : (p : Int) < (n : Int) := by omega
                        have hp0 : decide ((0 : Int) ≤ (p : Int)) = true := decide_eq_true (by omega)
                        have hsc := HSC2.out t
                        obtain ⟨A, hA⟩ : ∃ A, A = (scan (cdT zs) (insS n (kdT zs)) (stS n (cdT zs)) a1 t).1 := ⟨_, rfl⟩
                        obtain ⟨Q, hQ⟩ : ∃ Q, Q = (scan (cdT zs) (insS n (kdT zs)) (stS n (cdT zs)) a1 t).2 := ⟨_, rfl⟩
                        have HA := hid hA
                        have HQ := hid hQ
                        rw [← hA, ← hQ] at HS5 hsc
                        have hct := HS5.out.cellO hpn
                        rw [show n - 1 - p = t by omega] at hct
                        have HSC9 := hid hsc
                        have HRP : Hid ((p : Int) - 1 = (n : Int) - 1 - ((t + 1 : Nat) : Int)) := hid (by omega)
                        clear hA hQ hlt hsc hpe
                        cases hv : A t with
                        | none =>
                          rw [hv] at hct
                          have hct' : wr.cell? ⟨g1, p, none⟩ = some (.int .i64 (-1)) := hct
                          have HSK := hid (scan_none (c := cdT zs) (ins := insS n (kdT zs)) (st := stS n (cdT zs)) (a0 := a1) (k := t) (by rw [← HA.out]; exact hv))
                          clear hct hv HSC9 hp hpn
                          go_wp2_with fail
                          go_roundw
                          case rel => exact ⟨t + 1, HLT.out, by rw [← HRP.out] <;> go_num, by rw [HSK.out, ← HA.out, ← HQ.out]; exact HS5.out, HB5.out⟩
                          case measure => simp [intOf]
                        | some i =>
                          rw [hv] at hct
                          cases i with
                          | zero =>
                            have hct' : wr.cell? ⟨g1, p, none⟩ = some (.int .i64 0) := hct
                            have HSK := hid (scan_skip (c := cdT zs) (ins := insS n (kdT zs)) (st := stS n (cdT zs)) (a0 := a1) (k := t) (i := 0) (by rw [← HA.out]; exact hv) (by omega))
                            clear hct hv HSC9 hp hpn
                            go_wp2_with fail
                            go_roundw
                            case rel => exact ⟨t + 1, HLT.out, by rw [← HRP.out] <;> go_num, by rw [HSK.out, ← HA.out, ← HQ.out]; exact HS5.out, HB5.out⟩
                            case measure => simp [intOf]
                          | succ j =>
                            obtain ⟨h, hh⟩ : ∃ h : Nat, h = j + 1 := ⟨_, rfl⟩
                            have hct' : wr.cell? ⟨g1, p, none⟩ = some (.int .i64 (h : Int)) := by rw [hh]; exact hct
                            have hj1 : (h : Int) - 1 = (j : Int) := by omega
                            have hjn1 : j + 1 < n := (HSC9.out.at_ hv).1
                            have hjn : j < n := by omega
                            have hjN : (j < n) = True := eq_true hjn
                            have hjb : (j : Int) < (n : Int) := by omega
                            have hj0 : decide ((j : Int) < 0) = false := decide_eq_false (by omega)
                            have hkc := HKX.out wr HB5.out j hjn
                            cases hK : kdT zs j with
                            | false =>
                              rw [hK] at hkc
                              have HSK := hid (scan_skip (c := cdT zs) (ins := insS n (kdT zs)) (st := stS n (cdT zs)) (a0 := a1) (k := t) (i := j + 1) (by rw [← HA.out]; exact hv) (by rw [Nat.add_sub_cancel, insS_iff, hK]; simp))
                              clear hct hv HSC9 hjn hh hK hp hpn hjn1
                              go_wp2_with fail
                              go_roundw
                              case rel => exact ⟨t + 1, HLT.out, by rw [← HRP.out] <;> go_num, by rw [HSK.out, ← HA.out, ← HQ.out]; exact HS5.out, HB5.out⟩
                              case measure => simp [intOf]
                            | true =>
                              rw [hK] at hkc
                              have hins : insS n (kdT zs) j = true := insS_iff.2 ⟨hK, by omega⟩
                              have HPU := hid (scan_put (c := cdT zs) (ins := insS n (kdT zs)) (st := stS n (cdT zs)) (a0 := a1) (k := t) (by rw [← HA.out]; exact hv) hins)
                              obtain ⟨-, -, hf1, hf2, -, -⟩ := HSC9.out.free HTS2.out hv hins
                              have HXR := hid (HX.out wr HB5.out)
                              have htc := HTX.out wr HXR.out j hjn
                              have hsg := HG.out _ hjn
                              have HBK := hid (HBU.out wr HXR.out (cdT zs j))
                              obtain ⟨s, hs⟩ : ∃ s, s = cdT zs j := ⟨_, rfl⟩
                              rw [← hs] at htc HBK hf1 hf2 hsg
                              have HS := hid hs
                              have hhd := hdC_succ n (cdT zs) s
                              have hhl := hdC_le n (cdT zs) (s + 1)
                              have hst : stS n (cdT zs) s = n - hdC n (cdT zs) (s + 1) := rfl
                              obtain ⟨y, hy⟩ : ∃ y, y = Q s := ⟨_, rfl⟩
                              rw [← hy] at hf1 hf2
                              have HY := hid hy
                              have hcp := HS5.out.cellP hsg
                              rw [← hy] at hcp
                              have f2 := HS5.out.put.frozenAt s
                              have HS6 := hid (HS5.out.setP HNE3.out s (y + 1))
                              have HB6 := hid (HB5.out.setCell (p := ⟨g3, s, none⟩) (HS5.out.le.2) (.int .i64 ((y + 1 : Nat) : Int)))
                              have hyb : (y : Int) ≤ 65536 := by omega
                              obtain ⟨tl, htl⟩ : ∃ tl, tl = hdC n (cdT zs) (s + 1) := ⟨_, rfl⟩
                              rw [← htl] at HBK hhd hhl hst
                              obtain ⟨p0, hp0e⟩ : ∃ p0, p0 = tl - 1 - y := ⟨_, rfl⟩
                              obtain ⟨q0, hq0⟩ : ∃ q0, q0 = stS n (cdT zs) s + y := ⟨_, rfl⟩
                              rw [← hq0] at hf2
                              have HQ0 := hid hq0
                              have hp1 : (tl : Int) - ((y : Int) + 1) = (p0 : Int) := by omega
                              have hp2 : (p0 : Int) < (n : Int) := by omega
                              have hp3 : (p0 < n) = True := eq_true (by omega)
                              have HP0N : Hid (p0 < n ∧ ∀ r, r < n → (r = p0 ↔ n - 1 - r = q0)) := hid ⟨by omega, fun r hr => by omega⟩
                              have hsn : (s : Int) < (G : Int) := by omega
                              have hsG : (s < G) = True := eq_true hsg
                              have htlb : (tl : Int) ≤ 65536 := by omega
                              generalize hdC n (cdT zs) s = hd0 at *
                              clear hct hv HSC9 hjn hh hK hp hpn hjn1 hins hf1 hf2 hs hhd hhl hst hy htl hp0e hq0 hsg
                              go_wp2_with fail
                              refine HBK.out.mono ?_
                              rintro e w' ⟨rfl, rfl⟩
                              go_upto_region 39 with fail
                              obtain ⟨z1, hz1⟩ : ∃ z1, z1 = wr.setCell ⟨g3, s, none⟩ (.int .i64 ((y + 1 : Nat) : Int)) := ⟨_, rfl⟩
                              rw [← hz1] at HS6 HB6
                              have hz2 : wr.setCell ⟨g3, s, none⟩ (.int .i64 ((y : Int) + 1)) = z1 := by rw [hz1]; congr 2
                              rw [hz2]
                              have htc1 := HTX.out z1 (HX.out z1 HB6.out) j (by omega)
                              rw [← HS.out] at htc1
                              have hcp1 := HS6.out.put.cells (g := g3) rfl s _ (qvl_get (show s < G by have := hsn; omega))
                              rw [Addr.add_lit, updF_at, Nat.zero_add] at hcp1
                              have hcp2 : z1.cell? ⟨g3, s, none⟩ = some (.int .i64 ((y : Int) + 1)) := by rw [hcp1]; congr 2
                              have hco1 := HS6.out.cellO HP0N.out.1
                              have f1 := HS6.out.ord.frozenAt p0
                              generalize ov (A (n - 1 - p0)) = old at *
                              have HS7 := hid (HS6.out.setO HNE3.out p0 (j : Int))
                              have hset := ivl_set (fun p => A (n - 1 - p)) n p0 (some j)
                              rw [show ov (some j) = (j : Int) from rfl] at hset
                              rw [hset, ivl_congr (n := n) (b := fun p => updF A q0 (some j) (n - 1 - p)) fun r hr => (by
                                show (if r = p0 then some j else A (n - 1 - r)) = (if n - 1 - r = q0 then some j else A (n - 1 - r))
                                by_cases e : r = p0
                                · rw [if_pos e, if_pos ((HP0N.out.2 r hr).1 e)]
                                · rw [if_neg e, if_neg fun h => e ((HP0N.out.2 r hr).2 h)])] at HS7
                              have HB7 := hid (HB6.out.setCell (p := ⟨g1, p0, none⟩) (HS6.out.le.1) (.int .i64 (j : Int)))
                              clear htc hcp f2 HS5 HB5 HBK hz1 hz2 hcp1 hset HS6 HB6 hct' hkc
                              go_wp2_with fail
                              go_roundw
                              case rel =>
                                refine ⟨t + 1, HLT.out, by rw [← HRP.out] <;> go_num, ?_, HB7.out⟩
                                rw [HPU.out]
                                show OrdS _ g1 g1 g3 n G (ivl (fun p => updF (scan (cdT zs) (insS n (kdT zs)) (stS n (cdT zs)) a1 t).1 (stS n (cdT zs) (cdT zs j) + (scan (cdT zs) (insS n (kdT zs)) (stS n (cdT zs)) a1 t).2 (cdT zs j)) (some j) (n - 1 - p)) n) (updF (scan (cdT zs) (insS n (kdT zs)) (stS n (cdT zs)) a1 t).2 (cdT zs j) ((scan (cdT zs) (insS n (kdT zs)) (stS n (cdT zs)) a1 t).2 (cdT zs j) + 1))
                                rw [← HA.out, ← HQ.out, ← HS.out, ← HY.out, ← HQ0.out]
                                exact HS7.out
                              case measure => simp [intOf]
                      · obtain rfl : n = t := by omega
                        have hm1 : (n : Int) - 1 - (n : Int) = -1 := by omega
                        rw [hm1]
                        clear hlt
                        have hfin := HS5.out.ord
                        have heq : ivl (fun p => (scan (cdT zs) (insS n (kdT zs)) (stS n (cdT zs)) a1 n).1 (n - 1 - p)) n = nvals (indF n (cdT zs) (kdT zs) fs) := by
                          obtain ⟨h1, -, -, -, h2⟩ := HIND.out
                          apply List.ext_getElem?
                          intro r
                          by_cases hr : r < n
                          · rw [ivl_get hr, nvals_get (by rw [h1]; exact hr)]
                            have h3 := h2 (n - 1 - r) (by omega)
                            unfold pass2 at h3
                            rw [← HA1.out, show n - 1 - (n - 1 - r) = r by omega] at h3
                            rw [h3]; rfl
                          · rw [List.getElem?_eq_none (by rw [ivl_len]; omega), List.getElem?_eq_none (by rw [nvals_len, h1]; omega)]
                        rw [heq] at hfin
                        have HFIN := hid hfin
                        clear hfin heq HS5
                        go_wp2_with fail
                        go_ret
                        exact ⟨_, rfl, by rw [HINE.out]; exact own_weaken HFIN.out (by rw [HG1.out]; exact HB1.out.size), HX.out _ HB5.out⟩
          | succ k =>
            have hk1 : ((k + 1 : Nat) : Int) - 1 = (k : Int) := by omega
            rw [hk1]
            have HKL : Hid (k < fs.length) := hid (by rw [← HM.out]; omega)
            have HKM : Hid (k < m) := hid (by omega)
            have HXR := hid (HX.out wr HB3.out)
            have hfc := HFX.out wr HXR.out k HKM.out
            have hfm := getD_inN HKL.out
            have hfl := (isFs_lt HFS.out hfm).1
            rw [← HN.out] at hfl
            have HFL := hid hfl
            have htc := HTX.out wr HXR.out (fs.getD k 0) hfl
            have hsg := HG.out _ hfl
            have hroom := sow_next HI.out HFS.out HKL.out
            rw [← HN.out] at hroom
            have hdr := drop_cons HKL.out
            have HDR := hid hdr
            clear hdr
            obtain ⟨f, hf⟩ : ∃ f, f = fs.getD k 0 := ⟨_, rfl⟩
            rw [← hf] at hfc hfl htc hsg hroom HDR HFL
            obtain ⟨s, hse⟩ : ∃ s, s = cdT zs f := ⟨_, rfl⟩
            have HSE := hid hse
            rw [← hse] at htc hsg hroom
            have HBK := hid (HBU.out wr HXR.out s)
            have hhd := hdC_succ n (cdT zs) s
            have hhl := hdC_le n (cdT zs) (s + 1)
            have hcp := HS3.out.cellP hsg
            have f2 := HS3.out.put.frozenAt s
            obtain ⟨A, hA⟩ : ∃ A, A = (sow n (cdT zs) (fs.drop (k + 1))).1 := ⟨_, rfl⟩
            obtain ⟨Q, hQ⟩ : ∃ Q, Q = (sow n (cdT zs) (fs.drop (k + 1))).2 := ⟨_, rfl⟩
            have HA := hid hA
            have HQ := hid hQ
            rw [← hA, ← hQ] at HS3
            rw [← hQ] at hroom hcp
            have HS4 := hid (HS3.out.setP HNE.out s (Q s + 1))
            have HB4 := hid (HB3.out.setCell (p := ⟨g2, s, none⟩) (HS3.out.le.2) (.int .i64 ((Q s + 1 : Nat) : Int)))
            obtain ⟨y, hy⟩ : ∃ y, y = Q s := ⟨_, rfl⟩
            rw [← hy] at hcp hroom HS4 HB4
            have HY := hid hy
            have hyb : (y : Int) ≤ 65536 := by omega
            obtain ⟨tl, htl⟩ : ∃ tl, tl = hdC n (cdT zs) (s + 1) := ⟨_, rfl⟩
            rw [← htl] at HBK hhd hhl
            have HTL := hid htl
            obtain ⟨p0, hp0⟩ : ∃ p0, p0 = tl - 1 - y := ⟨_, rfl⟩
            have hp1 : (tl : Int) - ((y : Int) + 1) = (p0 : Int) := by omega
            have hp2 : (p0 : Int) < (n : Int) := by omega
            have hp3 : (p0 < n) = True := eq_true (by omega)
            have HP0 := hid hp0
            have HPN : Hid (p0 < n) := hid (by omega)
            have hsn : (s : Int) < (G : Int) := by omega
            have hsG : (s < G) = True := eq_true hsg
            have hfn : (f : Int) < (n : Int) := by omega
            have hfN : (f < n) = True := eq_true hfl
            have hkm : (k : Int) < (m : Int) := by have := HKM.out; omega
            have hkM : (k < m) = True := eq_true HKM.out
            have htlb : (tl : Int) ≤ 65536 := by omega
            have hk0 : decide ((0 : Int) ≤ (k : Int)) = true := decide_eq_true (by omega)
            generalize hdC n (cdT zs) s = hd0 at *
            clear hj hfm hf hse hhd hhl hroom hA hQ hy htl hp0 hsg hfl hk1
            go_wp2_with fail
            refine HBK.out.mono ?_
            rintro e w' ⟨rfl, rfl⟩
            go_upto_region 16 with fail
            obtain ⟨z1, hz1⟩ : ∃ z1, z1 = wr.setCell ⟨g2, s, none⟩ (.int .i64 ((y + 1 : Nat) : Int)) := ⟨_, rfl⟩
            rw [← hz1] at HS4 HB4
            have hz2 : wr.setCell ⟨g2, s, none⟩ (.int .i64 ((y : Int) + 1)) = z1 := by rw [hz1]; congr 2
            rw [hz2]
            have hfc1 : z1.cell? ⟨fb, fo + k, none⟩ = some (.int .i64 (f : Int)) := by rw [← hfc]; exact World.cell?_of_block ((HX.out z1 HB4.out).block fb (cell_lt (HFX.out x (Below.refl _ _) k HKM.out)) |>.trans ((HXR.out.block fb (cell_lt (HFX.out x (Below.refl _ _) k HKM.out))).symm))
            have hcp1 := HS4.out.put.cells (g := g2) rfl s _ (qvl_get (show s < G by have := hsn; omega))
            rw [Addr.add_lit, updF_at, Nat.zero_add] at hcp1
            have hcp2 : z1.cell? ⟨g2, s, none⟩ = some (.int .i64 ((y : Int) + 1)) := by rw [hcp1]; congr 2
            have hco1 := HS4.out.cellO HPN.out
            have f1 := HS4.out.ord.frozenAt p0
            generalize ov (A p0) = old at *
            have HS5 := hid (HS4.out.setO HNE.out p0 (f : Int))
            have hset := ivl_set A n p0 (some f)
            rw [show ov (some f) = (f : Int) from rfl] at hset
            rw [hset] at HS5
            have HB5 := hid (HB4.out.setCell (p := ⟨g1, p0, none⟩) (HS4.out.le.1) (.int .i64 (f : Int)))
            clear hfc htc hcp f2 HS3 HB3 HBK hz1 hz2 hcp1 hset HS4 HB4
            go_wp2_with fail
            go_region
            go_wp2_with fail
            go_roundw
            case rel =>
              refine ⟨k, Nat.le_of_lt HKM.out, by go_num, ?_, HB5.out.drew⟩
              rw [HDR.out]
              show OrdS _ g1 g1 g2 n G (ivl (updF (sow n (cdT zs) (fs.drop (k + 1))).1 (hdC n (cdT zs) (cdT zs f + 1) - 1 - (sow n (cdT zs) (fs.drop (k + 1))).2 (cdT zs f)) (some f)) n) (updF (sow n (cdT zs) (fs.drop (k + 1))).2 (cdT zs f) ((sow n (cdT zs) (fs.drop (k + 1))).2 (cdT zs f) + 1))
              rw [← HA.out, ← HQ.out, ← HSE.out, ← HTL.out, ← HY.out, ← HP0.out]
              exact HS5.out.drew
            case measure => simp [intOf]
end Go.Proofs.Ytdobjlaggdnphaa
