/- CONTRACT: the directory is found out, word by word. -/
import Derived.Test.YtjcapiibeekfkaaRnB
import Derived.Test.YtjcapiibeekfkaaBmOnes
import Derived.Deep.CutRange
import Derived.Deep.DeepCutAuto
namespace Go.Inc
open Go.RowKit
theorem uponAppend {P : Program} {o : Oper} {b : Act} {K : Act → World → Prop} {Q : Exit → Act → World → Prop} {ρ : Operand → Value} {w w' : World} {v u v' : Value} (s x : Operand) (t : TypeId)
    (ho : o.op = .call { callee := .builtin .append, args := #[s, x], argTypes := #[t, t] }) (hs : ρ s = v) (hx : ρ x = u) (hr : (Builtin.append_ #[t, t] o.type #[v, u]).run P w = .ok v' w') (hk : K (b.put o.dst v') w') :
    o.upon P b K Q ((execOp ρ o).run P w) := by
  unfold execOp
  simp only [ho, resolve, invoke, builtin, Sem.run_bind, Sem.run_pure, Result.andThen_ok, List.map_toArray, List.map_cons, List.map_nil, hs, hx, hr]
  exact hk
abbrev EqN (x : Value) : World → Value → Prop := fun _ v => v = x
/-- An append, run: the row is where it was, or new. -/
theorem run_append_own_nw {P : Program} (w : World) (base : Nat) (t ty e : TypeId) (i : TypeInfo) (z : Value) (size bytes : Nat) (ht : P.underlying t = some (.slice e)) (hi : P.info? e = some i) (hz : i.zero = some z)
    (hsize : i.size = size) (hby : i.bytes = bytes) (hzs : z.cells.size = size) (hsz : 0 < size)
    (v : Value) (n : Nat) (xs : List Value) (hown : w.ownsRow base e size v n xs)
    (ad : Addr) (m c : Nat) (news : List Value) (hl : news.length = m * size) (hnews : ∀ j u, news[j]? = some u → w.cell? (ad.add j) = some u) (h1 : ∀ u ∈ news, u.oneCell' = true)
    (h63 : n + m ≤ maxLen) (hbytes : (n + m) * bytes ≤ 140737488355328) (hbase : base ≤ w.heap.size) :
    ∃ v' w', (Builtin.append_ #[t, t] ty #[v, .slice (some ad) m c]).run P w = .ok v' w' ∧ w'.ownsRow base e size v' (n + m) (xs ++ news) ∧ w.grownBy w' v.ownBlock ∧ Nw w v v' := by
  obtain ⟨v', w', hr, h2, h3, -⟩ := run_append_own (P := P) w base t ty e i z size bytes ht hi hz hsize hby hzs hsz v n xs hown ad m c news hl hnews h1 h63 hbytes hbase
  refine ⟨v', w', hr, h2, h3, ?_⟩
  have hsmall : n + m ≤ 9223372036854775807 := by simp only [maxLen] at h63; omega
  rcases hown.2 with ⟨rfl, rfl⟩ | ⟨g, cap, cur, rfl, hbg, hg, hnc, hcm, hcs, htake⟩
  · by_cases hm : m = 0
    · subst hm
      have hn : news = [] := List.eq_nil_of_length_eq_zero (by simpa using hl)
      subst hn
      have hr2 : (Builtin.append_ #[t, t] ty #[.slice none 0 0, .slice (some ad) 0 c]).run P w = .ok (.slice none 0 0) w := by
        simp [Builtin.append_, run_underlying ht, sizeOf, typeInfo, hi, Builtin.lenOf, Builtin.firstCells, loadCells, loadCellsFrom]
      rw [hr2] at hr
      cases hr
      exact .inl rfl
    · have hr2 := run_append_nil (P := P) w t ty e i z ht hi hz ad m c news (by rw [hsize]; exact hl) hnews (by omega) (by omega) (by rw [hby]; have hb := hbytes; simp only [Nat.zero_add] at hb; omega)
      rw [hr2] at hr
      cases hr
      exact .inr ⟨_, rfl, Nat.le_refl _⟩
  · by_cases hroom : n + m ≤ cap
    · have hr2 := run_append_room (P := P) w t ty e i ht hi g n cap cur hg ad m c news (by rw [hsize]; exact hl) hnews h1 hroom (by rw [hl, hcs, hsize, ← Nat.add_mul]; exact Nat.mul_le_mul_right _ hroom)
      rw [hr2] at hr
      cases hr
      exact .inl rfl
    · have holds : ∀ j u, xs[j]? = some u → w.cell? ((⟨g, 0, none⟩ : Addr).add j) = some u := hown.cells (g := g) rfl
      have hr2 := run_append_grow (P := P) w t ty e i z ht hi hz ⟨g, 0, none⟩ n cap xs (by rw [hsize]; exact hown.1) holds ad m c news (by rw [hsize]; exact hl) hnews (by omega) (by omega) (growslice_fits (by omega) (by rw [hby]; exact hbytes))
      rw [hr2] at hr
      cases hr
      exact .inr ⟨_, rfl, Nat.le_refl _⟩
theorem infoI_parts : True := trivial
end Go.Inc
namespace Go.Proofs.Ytjcapiibeekfkaa
open Go.RowKit Go.Inc

/-- One number in a row of its own. -/
def OneI (z : Int) (x : World) (v : Value) : Prop := ∃ b, v = .slice (some ⟨b, 0, none⟩) 1 1 ∧ x.heap[b]? = some (.cells #[.int .i64 z] 3 (0, 0))
theorem OneI.kept {z : Int} {x y : World} {v : Value} (h : OneI z x v) (hg : Grew x y) : OneI z y v := by
  obtain ⟨b, h1, h3⟩ := h
  exact ⟨b, h1, row_below h3 hg⟩
theorem oneI_cells {z : Int} {x : World} {b : Nat} (h : x.heap[b]? = some (.cells #[.int .i64 z] 3 (0, 0))) : ∀ j u, ([.int .i64 z] : List Value)[j]? = some u → x.cell? ((⟨b, 0, none⟩ : Addr).add j) = some u := by
  intro j u hu
  rw [Addr.add_lit, cell_of_row _ _ _ _ _ _ h]
  match j, hu with
  | 0, hu => simpa using hu
  | j + 1, hu => simp at hu
/-- While the directory is found out: it lies in new memory. -/
structure CtR (x : World) (b n : Nat) (v : Value) (W : List Nat) (d k : Nat) (vb vw : Value) (D E : List Nat) (all : Nat) (z : World) : Prop where
  r : RwR z b n v W d k vb vw D E all
  ob : ∀ g, vb.ownBlock = some g → x.heap.size ≤ g
  ow : ∀ g, vw.ownBlock = some g → x.heap.size ≤ g
  mv : Mv (fun i => i = b) x z
/-- The same, behind an append onto one of its rows (s: the words' row). -/
structure CtK (x : World) (b n : Nat) (v : Value) (W : List Nat) (d k : Nat) (vb vw : Value) (D E : List Nat) (all : Nat) (s : Bool) (z : World) : Prop where
  box : z.heap[b]? = some (.cells #[.int .i64 (n : Int), v, .int .u32 (d : Int), .int .i32 (k : Int), .int .u32 0, vb, vw, .int .i64 (all : Int)] 77 (0, 0))
  row : z.ownsRow 0 47 1 v W.length (wvals W)
  blk : s = true → z.ownsRow 0 3 1 vb D.length (nvals D)
  wrd : s = false → z.ownsRow 0 3 1 vw E.length (nvals E)
  ob : ∀ g, vb.ownBlock = some g → x.heap.size ≤ g
  ow : ∀ g, vw.ownBlock = some g → x.heap.size ≤ g
  mv : Mv (fun i => i = b) x z
/-- A row that grew, apart from the other. -/
def RowN (x : World) (o : Value) (L : List Nat) (z : World) (u : Value) : Prop := z.ownsRow 0 3 1 u L.length (nvals L) ∧ (∀ g, u.ownBlock = some g → x.heap.size ≤ g) ∧ (o.ownBlock = none ∨ o.ownBlock ≠ u.ownBlock)
theorem RowN.kept {x : World} {o : Value} {L : List Nat} {y z : World} {u : Value} (h : RowN x o L y u) (hg : Grew y z) : RowN x o L z u :=
  ⟨owns_mv (F := fun _ => False) h.1 (Mv.of_below hg) fun _ _ => id, h.2⟩
section
variable {x y z : World} {b n d k all : Nat} {v vb vw : Value} {W D E : List Nat}
theorem CtR.below (h : CtR x b n v W d k vb vw D E all y) (hb : Below y.heap.size y z) : CtR x b n v W d k vb vw D E all z := ⟨h.r.below hb, h.ob, h.ow, h.mv.trans (Mv.of_below hb)⟩
theorem CtK.below {s : Bool} (h : CtK x b n v W d k vb vw D E all s y) (hb : Below y.heap.size y z) : CtK x b n v W d k vb vw D E all s z :=
  ⟨row_below h.box hb, owns_mv (F := fun _ => False) h.row (Mv.of_below hb) fun _ _ => id, fun hs => owns_mv (F := fun _ => False) (h.blk hs) (Mv.of_below hb) fun _ _ => id, fun hs => owns_mv (F := fun _ => False) (h.wrd hs) (Mv.of_below hb) fun _ _ => id, h.ob, h.ow, h.mv.trans (Mv.of_below hb)⟩
theorem CtR.freshvb {v' : Value} (h : CtR x b n v W d k vb vw D E all z) (hn : Nw z vb v') : ∀ g, v'.ownBlock = some g → x.heap.size ≤ g := fun g hg => by
  rcases hn with h1 | ⟨j, h1, h2⟩
  · exact h.ob g (by rw [← h1]; exact hg)
  · rw [h1] at hg; cases hg; exact Nat.le_trans h.mv.size h2
theorem CtR.freshvw {v' : Value} (h : CtR x b n v W d k vb vw D E all z) (hn : Nw z vw v') : ∀ g, v'.ownBlock = some g → x.heap.size ≤ g := fun g hg => by
  rcases hn with h1 | ⟨j, h1, h2⟩
  · exact h.ow g (by rw [← h1]; exact hg)
  · rw [h1] at hg; cases hg; exact Nat.le_trans h.mv.size h2
theorem CtR.apartvb {v' : Value} (h : CtR x b n v W d k vb vw D E all z) (hn : Nw z vb v') : vw.ownBlock = none ∨ vw.ownBlock ≠ v'.ownBlock := hn.apart h.r.wrd (apart_symm h.r.ap)
theorem CtR.apartvw {v' : Value} (h : CtR x b n v W d k vb vw D E all z) (hn : Nw z vw v') : vb.ownBlock = none ∨ vb.ownBlock ≠ v'.ownBlock := hn.apart h.r.blk h.r.ap
theorem grown_row {w w' : World} {r : Option Nat} {B E' s' n' : Nat} {o : Value} {ys : List Value} (ho : w.ownsRow B E' s' o n' ys) (hg : w.grownBy w' r) (ha : o.ownBlock = none ∨ o.ownBlock ≠ r) : w'.ownsRow B E' s' o n' ys := by
  refine owns_mv (F := fun i => r = some i) ho (Mv.of_grown hg fun g hgg _ => hgg) fun i hi hf => ?_
  rcases ha with h1 | h1
  · rw [h1] at hi; cases hi
  · exact h1 (by rw [hi, hf])
theorem grown_mv {w w' : World} {o : Option Nat} (h : Mv (fun i => i = b) x w) (hg : w.grownBy w' o) (ho : ∀ g, o = some g → x.heap.size ≤ g) : Mv (fun i => i = b) x w' :=
  h.trans' (F' := fun i => o = some i) (Mv.of_grown hg fun g hgg _ => hgg) fun i hi hf => absurd (ho i hf) (by omega)
theorem CtR.growvb {w' : World} (h : CtR x b n v W d k vb vw D E all z) (hg : z.grownBy w' vb.ownBlock) : CtK x b n v W d k vb vw D E all false w' :=
  ⟨row_grown h.r.box hg h.r.nb, grown_row h.r.row hg (owns_apart h.r.row h.r.blk (by decide)), (fun e => by cases e), fun _ => grown_row h.r.wrd hg (apart_symm h.r.ap), h.ob, h.ow, grown_mv h.mv hg h.ob⟩
theorem CtR.growvw {w' : World} (h : CtR x b n v W d k vb vw D E all z) (hg : z.grownBy w' vw.ownBlock) : CtK x b n v W d k vb vw D E all true w' :=
  ⟨row_grown h.r.box hg h.r.nw, grown_row h.r.row hg (owns_apart h.r.row h.r.wrd (by decide)), fun _ => grown_row h.r.blk hg h.r.ap, (fun e => by cases e), h.ob, h.ow, grown_mv h.mv hg h.ow⟩
/-- The new row is laid into its cell. -/
theorem CtK.putB {u : Value} {L : List Nat} (h : CtK x b n v W d k vb vw D E all false z) (hu : RowN x vw L z u) : CtR x b n v W d k u vw L E all (z.setCell ⟨b, 5, none⟩ u) :=
  ⟨⟨by rw [heap_setCell_same z b 5 _ _ _ h.box]; rfl, ownsRow_setCell_other h.row (own_ne h.row h.box (by decide)) _, ownsRow_setCell_other hu.1 (own_ne hu.1 h.box (by decide)) _, ownsRow_setCell_other (h.wrd rfl) (own_ne (h.wrd rfl) h.box (by decide)) _, apart_symm hu.2.2⟩, hu.2.1, h.ow, mv_setCell h.mv rfl _⟩
theorem CtK.putW {u : Value} {L : List Nat} (h : CtK x b n v W d k vb vw D E all true z) (hu : RowN x vb L z u) : CtR x b n v W d k vb u D L all (z.setCell ⟨b, 6, none⟩ u) :=
  ⟨⟨by rw [heap_setCell_same z b 6 _ _ _ h.box]; rfl, ownsRow_setCell_other h.row (own_ne h.row h.box (by decide)) _, ownsRow_setCell_other (h.blk rfl) (own_ne (h.blk rfl) h.box (by decide)) _, ownsRow_setCell_other hu.1 (own_ne hu.1 h.box (by decide)) _, hu.2.2⟩, h.ob, hu.2.1, mv_setCell h.mv rfl _⟩
theorem CtR.putA (h : CtR x b n v W d k vb vw D E all z) (a' : Nat) : CtR x b n v W d k vb vw D E a' (z.setCell ⟨b, 7, none⟩ (.int .i64 (a' : Int))) :=
  ⟨⟨by rw [heap_setCell_same z b 7 _ _ _ h.r.box]; rfl, h.r.row' 7 _, h.r.blk' 7 _, h.r.wrd' 7 _, h.r.ap⟩, h.ob, h.ow, mv_setCell h.mv rfl _⟩
theorem CtR.dcell {gb m cb q : Nat} (h : CtR x b n v W d k (.slice (some ⟨gb, 0, none⟩) m cb) vw D E all z) (hq : q < D.length) : z.cell? ⟨gb, q, none⟩ = some (.int .i64 ((D.getD q 0 : Nat) : Int)) := by
  have hc := h.r.blk.cells (g := gb) rfl q _ (nvals_get hq)
  rw [Addr.add_lit] at hc
  simpa only [Nat.zero_add] using hc
theorem CtK.dcell {gb m cb q : Nat} (h : CtK x b n v W d k (.slice (some ⟨gb, 0, none⟩) m cb) vw D E all true z) (hq : q < D.length) : z.cell? ⟨gb, q, none⟩ = some (.int .i64 ((D.getD q 0 : Nat) : Int)) := by
  have hc := (h.blk rfl).cells (g := gb) rfl q _ (nvals_get hq)
  rw [Addr.add_lit] at hc
  simpa only [Nat.zero_add] using hc
theorem CtK.cs {s : Bool} (h : CtK x b n v W d k vb vw D E all s z) : z.cell? ⟨b, 5, none⟩ = some vb ∧ z.cell? ⟨b, 6, none⟩ = some vw ∧ z.cell? ⟨b, 7, none⟩ = some (.int .i64 (all : Int)) := by
  refine ⟨?_, ?_, ?_⟩ <;> rw [cell_of_row _ _ _ _ _ _ h.box] <;> rfl
theorem CtR.cs (h : CtR x b n v W d k vb vw D E all z) : z.cell? ⟨b, 5, none⟩ = some vb ∧ z.cell? ⟨b, 6, none⟩ = some vw ∧ z.cell? ⟨b, 7, none⟩ = some (.int .i64 (all : Int)) := ⟨h.r.c5, h.r.c6, h.r.c7⟩
end
set_option maxRecDepth 20000 in
set_option maxHeartbeats 4000000 in
theorem rCount_any (x : World) (b d k : Nat) (v : Value) (W : List Nat) (m : List Bool) (h : RwR x b m.length v W d k (.slice none 0 0) (.slice none 0 0) [] [] 0) (hw : WdR W m) (hm : m.length ≤ 65536) :
    Calls Try.prog 50 #[.pointer (some ⟨b, 0, none⟩)] x fun e w' => e = .returned (.tuple #[]) ∧ ∃ vb vw, CtR x b m.length v W d k vb vw (dirB m ((W.length + 7) / 8)) (dirW m W.length) (rkB m true (64 * W.length)) w' := by
  obtain ⟨i0, hi, hz0, hz1, hz2⟩ := info_parts infoI64
  have HI := hid (And.intro hi (And.intro hz0 (And.intro hz1 hz2)))
  obtain ⟨a, c, rfl⟩ := own_slice h.row
  have k1 := h.c1
  obtain ⟨nw, hnw⟩ : ∃ nw, nw = W.length := ⟨_, rfl⟩
  have hnb : (nw : Int) ≤ 1024 := by have := hw.len; omega
  have HX := hid h
  have HW := hid hw
  have HNW := hid hnw
  obtain ⟨n, hn⟩ : ∃ n, n = m.length := ⟨_, rfl⟩
  have HMB : Hid (∀ j, rkB m true (64 * j) ≤ 64 * j) := hid fun j => rkB_le m true _
  rw [← hn] at HX ⊢
  rw [← hnw] at HX k1 ⊢
  clear hi hz0 hz1 hz2 h hw hm hnw hn
  go_enter Try.func50, Try.ntmps50
  go_wp2_with fail
  clear k1
  go_loopw [12] (fun i wr => ∃ (t : Nat) (vb vw : Value), t ≤ nw ∧ i = .int .i64 (t : Int) ∧ CtR x b n (.slice a nw c) W d k vb vw (dirB m ((t + 7) / 8)) (dirW m t) (rkB m true (64 * t)) wr) (fun i _ => nw - (intOf i).toNat)
  case atStart => exact ⟨0, _, _, Nat.zero_le _, rfl, HX.out, (fun _ e => by cases e), (fun _ e => by cases e), Mv.refl _ _⟩
  case round =>
    clear HX
    obtain ⟨t, vb, vw, ht, rfl, hc⟩ := hrel
    obtain ⟨wx, hwx⟩ : ∃ wx, wx = wr := ⟨_, rfl⟩
    subst hwx
    by_cases hlt : (t : Int) < nw
    · have htl : (t < nw) = True := eq_true (by omega)
      obtain ⟨q, hq⟩ : ∃ q, q = t / 8 := ⟨_, rfl⟩
      obtain ⟨r, hr⟩ : ∃ r, r = t % 8 := ⟨_, rfl⟩
      obtain ⟨all, hall⟩ : ∃ all, all = rkB m true (64 * t) := ⟨_, rfl⟩
      have HALL := hid hall
      have HALB : Hid ((all : Int) ≤ 65536) := hid (by have := HMB.out t; omega)
      have hqi : (t : Int) / 8 = (q : Int) := by omega
      have hqt : Int.tdiv (t : Int) 8 = (q : Int) := by rw [Int.tdiv_eq_ediv_of_nonneg (by omega)]; exact hqi
      have hoi : (t : Int) % 8 = (r : Int) := by omega
      have hot : Int.tmod (t : Int) 8 = (r : Int) := by rw [Int.tmod_eq_emod_of_nonneg (by omega)]; exact hoi
      have hqw : IntKind.i64.wrap (q : Int) = (q : Int) := by rw [IntKind.wrap_i64]; omega
      rw [← hall] at hc
      have HQ := hid hq
      have HRR := hid hr
      clear hall hq hr
      go_upto_if 17 with fail
      go_cut [12] from 12 to 68 (fun i wc => i = .int .i64 (t : Int) ∧ ∃ vb', CtR x b n (.slice a nw c) W d k vb' vw (dirB m (q + 1)) (dirW m t) all wc)
      case first =>
        by_cases hr0 : r = 0
        · have hrb : ((r : Int) == 0) = true := by simp; omega
          have HR0 := hid hr0
          clear hr0
          obtain ⟨D, hD⟩ : ∃ D, D = dirB m ((t + 7) / 8) := ⟨_, rfl⟩
          obtain ⟨E, hE⟩ : ∃ E, E = dirW m t := ⟨_, rfl⟩
          have HDN : Hid (dirB m (q + 1) = D ++ [all]) := hid (by rw [hD, HALL.out, dirB_succ, show (t + 7) / 8 = q from by have := HQ.out; have := HRR.out; have := HR0.out; omega, show 512 * q = 64 * t from by have := HQ.out; have := HRR.out; have := HR0.out; omega])
          have HLD : Hid (D.length ≤ 1024) := hid (by rw [hD, dirB_len]; omega)
          have HE := hid hE
          rw [← hD, ← hE] at hc
          have HJ := hid hc
          have HC : Hid (∀ z, (CtR x b n (.slice a nw c) W d k vb vw D E all z ∨ CtK x b n (.slice a nw c) W d k vb vw D E all false z) → z.cell? ⟨b, 5, none⟩ = some vb ∧ z.cell? ⟨b, 6, none⟩ = some vw ∧ z.cell? ⟨b, 7, none⟩ = some (.int .i64 (all : Int)) ∧ True) := hid fun z h => by
            rcases h with h | h
            · exact ⟨h.cs.1, h.cs.2.1, h.cs.2.2, trivial⟩
            · exact ⟨h.cs.1, h.cs.2.1, h.cs.2.2, trivial⟩
          clear hc hD hE hoi hot
          go_wp2_with fail
          refine wp_region_growsX 13 10 (CtR x b n (.slice a nw c) W d k vb vw D E all) (CtK x b n (.slice a nw c) W d k vb vw D E all (false)) [9] [EqN (.pointer (some ⟨b, 5, none⟩)), EqN (.pointer (some ⟨b, 5, none⟩)), EqN (.pointer (some ⟨b, 5, none⟩)), EqN (.pointer (some ⟨b, 5, none⟩)), EqN vb, EqN (.pointer (some ⟨b, 5, none⟩)), EqN (.pointer (some ⟨b, 5, none⟩)), EqN (.pointer (some ⟨b, 7, none⟩)), EqN (.int .i64 (all : Int)), OneI ((all : Int)), RowN x vw (D ++ [all]), EqN (.pointer (some ⟨b, 5, none⟩)), EqN (.pointer (some ⟨b, 5, none⟩))] (by kernel_rfl) (by decide) (by kernel_rfl) (by kernel_rfl) (by decide) ?_ ?_ ?_ ?_ ?_ ?_
          · exact HJ.out.below ((Below.refl _ _).drew)
          · exact fun p q hg h => h.below hg
          · exact fun p q hg h => h.below hg
          · repeat' (first | exact List.forall_mem_nil _ | refine List.forall_mem_cons.2 ⟨?_, ?_⟩)
            all_goals
              intro w w' v hw h
              first | exact h | exact OneI.kept h hw | exact RowN.kept h hw
          · simp only [AllLt]
            refine ⟨⟨⟨⟨⟨⟨⟨⟨⟨⟨⟨⟨⟨trivial, ?_⟩, ?_⟩, ?_⟩, ?_⟩, ?_⟩, ?_⟩, ?_⟩, ?_⟩, ?_⟩, ?_⟩, ?_⟩, ?_⟩, ?_⟩
            all_goals
              intro o' ho
              simp at ho
              subst ho
              intro ρ w5 hR hL hS hG
              obtain ⟨hl1, hl2, -⟩ := hL
            · refine plainG rfl ?_
              intro bA K Q' hK
              have e2 := hS 2 (by kernel_rfl)
              change ρ (.tmp 2) = _ at e2
              simp only [execOp]
              go_simp
              exact hK _ _ rfl (fun _ => Grew.refl _) (fun h => absurd h (by decide))
            · refine plainG rfl ?_
              intro bA K Q' hK
              have e2 := hS 2 (by kernel_rfl)
              change ρ (.tmp 2) = _ at e2
              simp only [execOp]
              go_simp
              exact hK _ _ rfl (fun _ => Grew.refl _) (fun h => absurd h (by decide))
            · refine plainG rfl ?_
              intro bA K Q' hK
              have e19 := hG 1 19 (by decide) (by kernel_rfl) (by kernel_rfl)
              change ρ (.tmp 19) = _ at e19
              simp only [execOp]
              go_simp
              exact hK _ _ rfl (fun _ => Grew.refl _) (fun h => absurd h (by decide))
            · refine plainG rfl ?_
              intro bA K Q' hK
              have e20 := hG 2 20 (by decide) (by kernel_rfl) (by kernel_rfl)
              change ρ (.tmp 20) = _ at e20
              simp only [execOp]
              go_simp
              exact hK _ _ rfl (fun _ => Grew.refl _) (fun h => absurd h (by decide))
            · refine plainG rfl ?_
              intro bA K Q' hK
              have e21 := hG 3 21 (by decide) (by kernel_rfl) (by kernel_rfl)
              change ρ (.tmp 21) = _ at e21
              obtain ⟨y5, y6, y7, y8⟩ := HC.out w5 (hR.any.imp id id)
              simp only [execOp]
              go_simp
              exact hK _ _ rfl (fun _ => Grew.refl _) (fun h => absurd h (by decide))
            · refine plainG rfl ?_
              intro bA K Q' hK
              have e2 := hS 2 (by kernel_rfl)
              change ρ (.tmp 2) = _ at e2
              simp only [execOp]
              go_simp
              exact hK _ _ rfl (fun _ => Grew.refl _) (fun h => absurd h (by decide))
            · refine plainG rfl ?_
              intro bA K Q' hK
              have e23 := hG 5 23 (by decide) (by kernel_rfl) (by kernel_rfl)
              change ρ (.tmp 23) = _ at e23
              simp only [execOp]
              go_simp
              exact hK _ _ rfl (fun _ => Grew.refl _) (fun h => absurd h (by decide))
            · refine plainG rfl ?_
              intro bA K Q' hK
              have e24 := hG 6 24 (by decide) (by kernel_rfl) (by kernel_rfl)
              change ρ (.tmp 24) = _ at e24
              simp only [execOp]
              go_simp
              exact hK _ _ rfl (fun _ => Grew.refl _) (fun h => absurd h (by decide))
            · refine plainG rfl ?_
              intro bA K Q' hK
              have e25 := hG 7 25 (by decide) (by kernel_rfl) (by kernel_rfl)
              change ρ (.tmp 25) = _ at e25
              obtain ⟨y5, y6, y7, y8⟩ := HC.out w5 (hR.any.imp id id)
              simp only [execOp]
              go_simp
              exact hK _ _ rfl (fun _ => Grew.refl _) (fun h => absurd h (by decide))
            · refine plainG rfl ?_
              intro bA K Q' hK
              have e26 := hG 8 26 (by decide) (by kernel_rfl) (by kernel_rfl)
              change ρ (.tmp 26) = _ at e26
              simp only [execOp]
              go_simp
              exact hK _ _ ⟨_, rfl, heap_alloc_new w5 _⟩ (fun _ => (Grew.refl _).alloc _) (fun h => absurd h (by decide))
            · refine plainG rfl ?_
              intro bA K Q' hK
              have e22 := hG 4 22 (by decide) (by kernel_rfl) (by kernel_rfl)
              have e27 := hG 9 27 (by decide) (by kernel_rfl) (by kernel_rfl)
              change ρ (.tmp 22) = _ at e22
              obtain ⟨bx, h8, hrx⟩ := e27
              have hj := hR.ahead (by decide)
              obtain ⟨v', w6, hr, ho', hgr, hnw⟩ := run_append_own_nw (P := Try.prog) w5 0 37 37 3 i0 (.int .i64 0) 1 8 Try.underlying37 HI.out.1 HI.out.2.1 HI.out.2.2.1 HI.out.2.2.2 rfl (by decide) vb D.length (nvals D) hj.r.blk ⟨bx, 0, none⟩ 1 1 [.int .i64 (all : Int)] rfl (oneI_cells hrx) (by simp [Value.oneCell']) (by have := HLD.out; unfold maxLen; omega) (by have := HLD.out; omega) (Nat.zero_le _)
              refine uponAppend (.tmp 22) (.tmp 27) 37 rfl e22 h8 hr ?_
              refine hK _ _ ⟨by rw [List.length_append, nvals_snoc]; exact ho', hj.freshvb hnw, hj.apartvb hnw⟩ (fun h => absurd rfl h) (fun _ => ⟨hj.growvb hgr, ?_⟩)
              · simp only [AllLt]
                refine ⟨⟨⟨⟨⟨⟨⟨⟨⟨⟨⟨⟨⟨trivial, ?_⟩, ?_⟩, ?_⟩, ?_⟩, ?_⟩, ?_⟩, ?_⟩, ?_⟩, ?_⟩, ?_⟩, ?_⟩, ?_⟩, ?_⟩
                · exact fun _ _ y hy => hy
                · exact fun _ _ y hy => hy
                · exact fun _ _ y hy => hy
                · exact fun _ _ y hy => hy
                · exact fun _ _ y hy => hy
                · exact fun _ _ y hy => hy
                · exact fun _ _ y hy => hy
                · exact fun _ _ y hy => hy
                · exact fun _ _ y hy => hy
                · exact fun _ hl => absurd hl (by decide)
                · exact fun hne _ => absurd rfl hne
                · exact fun _ _ y hy => hy
                · exact fun _ _ y hy => hy
            · refine plainG rfl ?_
              intro bA K Q' hK
              have e18 := hG 0 18 (by decide) (by kernel_rfl) (by kernel_rfl)
              change ρ (.tmp 18) = _ at e18
              simp only [execOp]
              go_simp
              exact hK _ _ rfl (fun _ => Grew.refl _) (fun h => absurd h (by decide))
            · refine plainG rfl ?_
              intro bA K Q' hK
              have e29 := hG 11 29 (by decide) (by kernel_rfl) (by kernel_rfl)
              change ρ (.tmp 29) = _ at e29
              simp only [execOp]
              go_simp
              exact hK _ _ rfl (fun _ => Grew.refl _) (fun h => absurd h (by decide))
          · intro vv w5 hJ hG
            have h1 : vv 12 = .pointer (some ⟨b, 5, none⟩) := hG.2 (by decide)
            have h2 : RowN x vw (D ++ [all]) w5 (vv 10) := hG.1.1.2 (by decide)
            obtain ⟨v', hv'⟩ : ∃ v', v' = vv 10 := ⟨_, rfl⟩
            rw [← hv'] at h2
            have jf : w5.frozen? ⟨b, 5, none⟩ = false := frozen_of_row _ _ _ _ _ hJ.box
            have j5 : w5.cell? ⟨b, 5, none⟩ = some vb := hJ.cs.1
            obtain ⟨a2, c2, hv2⟩ := own_slice h2.1
            obtain ⟨nL, hnL⟩ : ∃ nL, nL = (D ++ [all]).length := ⟨_, rfl⟩
            rw [← hnL] at hv2
            subst hv2
            have HFIN := hid (hJ.putB h2)
            clear hG HC h2 hJ hnL
            simp [stG, stU, dstAt, Act.put, h1, ← hv']
            clear h1 hv'
            go_wp2_with fail
            go_meet
            exact ⟨rfl, _, by rw [HDN.out, ← HE.out]; exact HFIN.out⟩
        · have hrb : ((r : Int) == 0) = false := by simp; omega
          have HC : Hid (CtR x b n (.slice a nw c) W d k vb vw (dirB m (q + 1)) (dirW m t) all wx) := hid (by
            have e : (t + 7) / 8 = q + 1 := by have := HQ.out; have := HRR.out; omega
            rw [← e]; exact hc)
          clear hc hr0 hoi hot
          go_wp2_with fail
          go_meet
          exact ⟨rfl, _, HC.out⟩
      case rest =>
        clear hc
        obtain ⟨rfl, vb', hc⟩ := hcut
        obtain ⟨D, hD⟩ : ∃ D, D = dirB m (q + 1) := ⟨_, rfl⟩
        obtain ⟨E, hE⟩ : ∃ E, E = dirW m t := ⟨_, rfl⟩
        rw [← hD, ← hE] at hc
        have hDl : D.length = q + 1 := by rw [hD, dirB_len]
        obtain ⟨gb, cb, rfl, hcb1, hcb2⟩ := own_here hc.r.blk (by omega)
        obtain ⟨g, cw, he, -, -⟩ := own_here hc.r.row (by have := HNW.out; omega)
        simp only [Value.slice.injEq] at he
        obtain ⟨rfl, -, rfl⟩ := he
        obtain ⟨nD, hnD⟩ : ∃ nD, nD = D.length := ⟨_, rfl⟩
        rw [← hnD] at hc
        have hqD : (q : Int) < (nD : Int) := by omega
        have hDb : (nD : Int) ≤ 1024 := by have := HQ.out; omega
        obtain ⟨dq, hdq⟩ : ∃ dq, dq = D.getD q 0 := ⟨_, rfl⟩
        have hdv : dq = rkB m true (512 * q) := by rw [hdq, hD, dirB_get m (by omega)]
        have hmono : dq ≤ all := by rw [hdv, HALL.out]; exact rkB_mono m true (by have := HQ.out; omega)
        obtain ⟨e, he⟩ : ∃ e, e = all - dq := ⟨_, rfl⟩
        have HEN : Hid (dirW m (t + 1) = E ++ [e]) := hid (by rw [hE, dirW_succ, he, hdv, HALL.out, show 64 * t / 512 * 512 = 512 * q from by have := HQ.out; omega])
        have hri : (all : Int) - (dq : Int) = (e : Int) := by omega
        have hrw' : IntKind.i64.wrap (e : Int) = (e : Int) := by rw [IntKind.wrap_i64]; have := HALB.out; omega
        have HLE : Hid (E.length ≤ 1024) := hid (by rw [hE, dirW_len]; omega)
        have HD := hid hD
        have HJ := hid hc
        have HC : Hid (∀ z, (CtR x b n (.slice (some ⟨g, 0, none⟩) nw c) W d k (.slice (some ⟨gb, 0, none⟩) nD cb) vw D E all z ∨ CtK x b n (.slice (some ⟨g, 0, none⟩) nw c) W d k (.slice (some ⟨gb, 0, none⟩) nD cb) vw D E all true z) → z.cell? ⟨b, 5, none⟩ = some (.slice (some ⟨gb, 0, none⟩) nD cb) ∧ z.cell? ⟨b, 6, none⟩ = some vw ∧ z.cell? ⟨b, 7, none⟩ = some (.int .i64 (all : Int)) ∧ z.cell? ⟨gb, q, none⟩ = some (.int .i64 (dq : Int))) := hid fun z h => by
          rcases h with h | h
          · exact ⟨h.cs.1, h.cs.2.1, h.cs.2.2, by rw [hdq]; exact h.dcell (by omega)⟩
          · exact ⟨h.cs.1, h.cs.2.1, h.cs.2.2, by rw [hdq]; exact h.dcell (by omega)⟩
        have HW7 : Hid (∀ z vw' E', CtR x b n (.slice (some ⟨g, 0, none⟩) nw c) W d k (.slice (some ⟨gb, 0, none⟩) nD cb) vw' D E' all z → z.cell? ⟨g, t, none⟩ = some (.int .u64 ((W.getD t 0 : Nat) : Int))) := hid fun z vw' E' h => h.r.word (by have := HNW.out; omega)
        clear hc hE hD hDl hcb1 hcb2 hnD hdq hdv hmono he
        go_wp2_with fail
        refine wp_region_growsX 22 19 (CtR x b n (.slice (some ⟨g, 0, none⟩) nw c) W d k (.slice (some ⟨gb, 0, none⟩) nD cb) vw D E all) (CtK x b n (.slice (some ⟨g, 0, none⟩) nw c) W d k (.slice (some ⟨gb, 0, none⟩) nD cb) vw D E all (true)) [18] [EqN (.pointer (some ⟨b, 5, none⟩)), EqN (.pointer (some ⟨b, 5, none⟩)), EqN (.pointer (some ⟨b, 5, none⟩)), EqN (.pointer (some ⟨b, 6, none⟩)), EqN vw, EqN (.pointer (some ⟨b, 5, none⟩)), EqN (.pointer (some ⟨b, 5, none⟩)), EqN (.pointer (some ⟨b, 7, none⟩)), EqN (.int .i64 (all : Int)), EqN (.pointer (some ⟨b, 5, none⟩)), EqN (.pointer (some ⟨b, 5, none⟩)), EqN (.pointer (some ⟨b, 5, none⟩)), EqN (.slice (some ⟨gb, 0, none⟩) nD cb), EqN (.int .i64 (t : Int)), EqN (.int .i64 (q : Int)), EqN (.pointer (some ⟨gb, q, none⟩)), EqN (.int .i64 (dq : Int)), EqN (.int .i64 (e : Int)), OneI ((e : Int)), RowN x (.slice (some ⟨gb, 0, none⟩) nD cb) (E ++ [e]), EqN (.pointer (some ⟨b, 5, none⟩)), EqN (.pointer (some ⟨b, 6, none⟩))] (by kernel_rfl) (by decide) (by kernel_rfl) (by kernel_rfl) (by decide) ?_ ?_ ?_ ?_ ?_ ?_
        · exact HJ.out.below ((Below.refl _ _).drew)
        · exact fun p q hg h => h.below hg
        · exact fun p q hg h => h.below hg
        · repeat' (first | exact List.forall_mem_nil _ | refine List.forall_mem_cons.2 ⟨?_, ?_⟩)
          all_goals
            intro w w' v hw h
            first | exact h | exact OneI.kept h hw | exact RowN.kept h hw
        · simp only [AllLt]
          refine ⟨⟨⟨⟨⟨⟨⟨⟨⟨⟨⟨⟨⟨⟨⟨⟨⟨⟨⟨⟨⟨⟨trivial, ?_⟩, ?_⟩, ?_⟩, ?_⟩, ?_⟩, ?_⟩, ?_⟩, ?_⟩, ?_⟩, ?_⟩, ?_⟩, ?_⟩, ?_⟩, ?_⟩, ?_⟩, ?_⟩, ?_⟩, ?_⟩, ?_⟩, ?_⟩, ?_⟩, ?_⟩
          all_goals
            intro o' ho
            simp at ho
            subst ho
            intro ρ w5 hR hL hS hG
            obtain ⟨hl1, hl2, -⟩ := hL
          · refine plainG rfl ?_
            intro bA K Q' hK
            have e2 := hS 2 (by kernel_rfl)
            change ρ (.tmp 2) = _ at e2
            simp only [execOp]
            go_simp
            exact hK _ _ rfl (fun _ => Grew.refl _) (fun h => absurd h (by decide))
          · refine plainG rfl ?_
            intro bA K Q' hK
            have e2 := hS 2 (by kernel_rfl)
            change ρ (.tmp 2) = _ at e2
            simp only [execOp]
            go_simp
            exact hK _ _ rfl (fun _ => Grew.refl _) (fun h => absurd h (by decide))
          · refine plainG rfl ?_
            intro bA K Q' hK
            have e32 := hG 1 32 (by decide) (by kernel_rfl) (by kernel_rfl)
            change ρ (.tmp 32) = _ at e32
            simp only [execOp]
            go_simp
            exact hK _ _ rfl (fun _ => Grew.refl _) (fun h => absurd h (by decide))
          · refine plainG rfl ?_
            intro bA K Q' hK
            have e33 := hG 2 33 (by decide) (by kernel_rfl) (by kernel_rfl)
            change ρ (.tmp 33) = _ at e33
            simp only [execOp]
            go_simp
            exact hK _ _ rfl (fun _ => Grew.refl _) (fun h => absurd h (by decide))
          · refine plainG rfl ?_
            intro bA K Q' hK
            have e34 := hG 3 34 (by decide) (by kernel_rfl) (by kernel_rfl)
            change ρ (.tmp 34) = _ at e34
            obtain ⟨y5, y6, y7, y8⟩ := HC.out w5 (hR.any.imp id id)
            simp only [execOp]
            go_simp
            exact hK _ _ rfl (fun _ => Grew.refl _) (fun h => absurd h (by decide))
          · refine plainG rfl ?_
            intro bA K Q' hK
            have e2 := hS 2 (by kernel_rfl)
            change ρ (.tmp 2) = _ at e2
            simp only [execOp]
            go_simp
            exact hK _ _ rfl (fun _ => Grew.refl _) (fun h => absurd h (by decide))
          · refine plainG rfl ?_
            intro bA K Q' hK
            have e36 := hG 5 36 (by decide) (by kernel_rfl) (by kernel_rfl)
            change ρ (.tmp 36) = _ at e36
            simp only [execOp]
            go_simp
            exact hK _ _ rfl (fun _ => Grew.refl _) (fun h => absurd h (by decide))
          · refine plainG rfl ?_
            intro bA K Q' hK
            have e37 := hG 6 37 (by decide) (by kernel_rfl) (by kernel_rfl)
            change ρ (.tmp 37) = _ at e37
            simp only [execOp]
            go_simp
            exact hK _ _ rfl (fun _ => Grew.refl _) (fun h => absurd h (by decide))
          · refine plainG rfl ?_
            intro bA K Q' hK
            have e38 := hG 7 38 (by decide) (by kernel_rfl) (by kernel_rfl)
            change ρ (.tmp 38) = _ at e38
            obtain ⟨y5, y6, y7, y8⟩ := HC.out w5 (hR.any.imp id id)
            simp only [execOp]
            go_simp
            exact hK _ _ rfl (fun _ => Grew.refl _) (fun h => absurd h (by decide))
          · refine plainG rfl ?_
            intro bA K Q' hK
            have e2 := hS 2 (by kernel_rfl)
            change ρ (.tmp 2) = _ at e2
            simp only [execOp]
            go_simp
            exact hK _ _ rfl (fun _ => Grew.refl _) (fun h => absurd h (by decide))
          · refine plainG rfl ?_
            intro bA K Q' hK
            have e40 := hG 9 40 (by decide) (by kernel_rfl) (by kernel_rfl)
            change ρ (.tmp 40) = _ at e40
            simp only [execOp]
            go_simp
            exact hK _ _ rfl (fun _ => Grew.refl _) (fun h => absurd h (by decide))
          · refine plainG rfl ?_
            intro bA K Q' hK
            have e41 := hG 10 41 (by decide) (by kernel_rfl) (by kernel_rfl)
            change ρ (.tmp 41) = _ at e41
            simp only [execOp]
            go_simp
            exact hK _ _ rfl (fun _ => Grew.refl _) (fun h => absurd h (by decide))
          · refine plainG rfl ?_
            intro bA K Q' hK
            have e42 := hG 11 42 (by decide) (by kernel_rfl) (by kernel_rfl)
            change ρ (.tmp 42) = _ at e42
            obtain ⟨y5, y6, y7, y8⟩ := HC.out w5 (hR.any.imp id id)
            simp only [execOp]
            go_simp
            exact hK _ _ rfl (fun _ => Grew.refl _) (fun h => absurd h (by decide))
          · refine plainG rfl ?_
            intro bA K Q' hK
            have e3 := hS 3 (by kernel_rfl)
            change ρ (.tmp 3) = _ at e3
            simp only [execOp]
            go_simp
            exact hK _ _ rfl (fun _ => Grew.refl _) (fun h => absurd h (by decide))
          · refine plainG rfl ?_
            intro bA K Q' hK
            have e44 := hG 13 44 (by decide) (by kernel_rfl) (by kernel_rfl)
            change ρ (.tmp 44) = _ at e44
            simp only [execOp]
            go_simp
            exact hK _ _ rfl (fun _ => Grew.refl _) (fun h => absurd h (by decide))
          · refine plainG rfl ?_
            intro bA K Q' hK
            have e43 := hG 12 43 (by decide) (by kernel_rfl) (by kernel_rfl)
            have e45 := hG 14 45 (by decide) (by kernel_rfl) (by kernel_rfl)
            change ρ (.tmp 43) = _ at e43
            change ρ (.tmp 45) = _ at e45
            simp only [execOp]
            go_simp
            exact hK _ _ rfl (fun _ => Grew.refl _) (fun h => absurd h (by decide))
          · refine plainG rfl ?_
            intro bA K Q' hK
            have e46 := hG 15 46 (by decide) (by kernel_rfl) (by kernel_rfl)
            change ρ (.tmp 46) = _ at e46
            obtain ⟨y5, y6, y7, y8⟩ := HC.out w5 (hR.any.imp id id)
            simp only [execOp]
            go_simp
            exact hK _ _ rfl (fun _ => Grew.refl _) (fun h => absurd h (by decide))
          · refine plainG rfl ?_
            intro bA K Q' hK
            have e39 := hG 8 39 (by decide) (by kernel_rfl) (by kernel_rfl)
            have e47 := hG 16 47 (by decide) (by kernel_rfl) (by kernel_rfl)
            change ρ (.tmp 39) = _ at e39
            change ρ (.tmp 47) = _ at e47
            simp only [execOp]
            go_simp
            exact hK _ _ rfl (fun _ => Grew.refl _) (fun h => absurd h (by decide))
          · refine plainG rfl ?_
            intro bA K Q' hK
            have e48 := hG 17 48 (by decide) (by kernel_rfl) (by kernel_rfl)
            change ρ (.tmp 48) = _ at e48
            simp only [execOp]
            go_simp
            exact hK _ _ ⟨_, rfl, heap_alloc_new w5 _⟩ (fun _ => (Grew.refl _).alloc _) (fun h => absurd h (by decide))
          · refine plainG rfl ?_
            intro bA K Q' hK
            have e35 := hG 4 35 (by decide) (by kernel_rfl) (by kernel_rfl)
            have e49 := hG 18 49 (by decide) (by kernel_rfl) (by kernel_rfl)
            change ρ (.tmp 35) = _ at e35
            obtain ⟨bx, h8, hrx⟩ := e49
            have hj := hR.ahead (by decide)
            obtain ⟨v', w6, hr, ho', hgr, hnw⟩ := run_append_own_nw (P := Try.prog) w5 0 37 37 3 i0 (.int .i64 0) 1 8 Try.underlying37 HI.out.1 HI.out.2.1 HI.out.2.2.1 HI.out.2.2.2 rfl (by decide) vw E.length (nvals E) hj.r.wrd ⟨bx, 0, none⟩ 1 1 [.int .i64 (e : Int)] rfl (oneI_cells hrx) (by simp [Value.oneCell']) (by have := HLE.out; unfold maxLen; omega) (by have := HLE.out; omega) (Nat.zero_le _)
            refine uponAppend (.tmp 35) (.tmp 49) 37 rfl e35 h8 hr ?_
            refine hK _ _ ⟨by rw [List.length_append, nvals_snoc]; exact ho', hj.freshvw hnw, hj.apartvw hnw⟩ (fun h => absurd rfl h) (fun _ => ⟨hj.growvw hgr, ?_⟩)
            · simp only [AllLt]
              refine ⟨⟨⟨⟨⟨⟨⟨⟨⟨⟨⟨⟨⟨⟨⟨⟨⟨⟨⟨⟨⟨⟨trivial, ?_⟩, ?_⟩, ?_⟩, ?_⟩, ?_⟩, ?_⟩, ?_⟩, ?_⟩, ?_⟩, ?_⟩, ?_⟩, ?_⟩, ?_⟩, ?_⟩, ?_⟩, ?_⟩, ?_⟩, ?_⟩, ?_⟩, ?_⟩, ?_⟩, ?_⟩
              · exact fun _ _ y hy => hy
              · exact fun _ _ y hy => hy
              · exact fun _ _ y hy => hy
              · exact fun _ _ y hy => hy
              · exact fun _ _ y hy => hy
              · exact fun _ _ y hy => hy
              · exact fun _ _ y hy => hy
              · exact fun _ _ y hy => hy
              · exact fun _ _ y hy => hy
              · exact fun _ _ y hy => hy
              · exact fun _ _ y hy => hy
              · exact fun _ _ y hy => hy
              · exact fun _ _ y hy => hy
              · exact fun _ _ y hy => hy
              · exact fun _ _ y hy => hy
              · exact fun _ _ y hy => hy
              · exact fun _ _ y hy => hy
              · exact fun _ _ y hy => hy
              · exact fun _ hl => absurd hl (by decide)
              · exact fun hne _ => absurd rfl hne
              · exact fun _ _ y hy => hy
              · exact fun _ _ y hy => hy
          · refine plainG rfl ?_
            intro bA K Q' hK
            have e31 := hG 0 31 (by decide) (by kernel_rfl) (by kernel_rfl)
            change ρ (.tmp 31) = _ at e31
            simp only [execOp]
            go_simp
            exact hK _ _ rfl (fun _ => Grew.refl _) (fun h => absurd h (by decide))
          · refine plainG rfl ?_
            intro bA K Q' hK
            have e51 := hG 20 51 (by decide) (by kernel_rfl) (by kernel_rfl)
            change ρ (.tmp 51) = _ at e51
            simp only [execOp]
            go_simp
            exact hK _ _ rfl (fun _ => Grew.refl _) (fun h => absurd h (by decide))
        · intro vv w5 hJ hG
          have h1 : vv 21 = .pointer (some ⟨b, 6, none⟩) := hG.2 (by decide)
          have h2 : RowN x (.slice (some ⟨gb, 0, none⟩) nD cb) (E ++ [e]) w5 (vv 19) := hG.1.1.2 (by decide)
          obtain ⟨v', hv'⟩ : ∃ v', v' = vv 19 := ⟨_, rfl⟩
          rw [← hv'] at h2
          have jf : w5.frozen? ⟨b, 6, none⟩ = false := frozen_of_row _ _ _ _ _ hJ.box
          have j6 : w5.cell? ⟨b, 6, none⟩ = some vw := hJ.cs.2.1
          obtain ⟨a2, c2, hv2⟩ := own_slice h2.1
          obtain ⟨nL, hnL⟩ : ∃ nL, nL = (E ++ [e]).length := ⟨_, rfl⟩
          rw [← hnL] at hv2
          subst hv2
          have HF := hid (hJ.putW h2)
          clear hG HC h2 hJ hnL
          simp [stG, stU, dstAt, Act.put, h1, ← hv']
          clear h1 hv'
          obtain ⟨w6, hw6⟩ : ∃ w6, w6 = w5.setCell ⟨b, 6, none⟩ (.slice a2 nL c2) := ⟨_, rfl⟩
          have HW6 := hid hw6
          rw [← hw6] at HF
          clear hw6
          obtain ⟨z7, hz7⟩ : ∃ z7, z7 = W.getD t 0 := ⟨_, rfl⟩
          have HF6 := HF.out
          have hz6 := HW7.out w6 _ _ HF6
          rw [← hz7] at hz6
          have hzl : z7 < 18446744073709551616 := by rw [hz7]; exact HW.out.get_lt t
          obtain ⟨p7, hp7⟩ : ∃ p7, p7 = popN z7 64 := ⟨_, rfl⟩
          have hpb : p7 ≤ 64 := by rw [hp7]; exact popN_le _ _
          have HO : Hid (Calls Try.prog 54 #[.int .u64 (z7 : Int)] w6.drew fun e w' => e = .returned (.int .i64 (p7 : Int)) ∧ w' = w6.drew) := hid (by
            rw [hp7]; exact (ones_any z7 w6.drew hzl).mono fun _ _ h => ⟨h.1, h.2.symm⟩)
          obtain ⟨s, hs⟩ : ∃ s, s = all + p7 := ⟨_, rfl⟩
          have HS : Hid (s = rkB m true (64 * (t + 1))) := hid (by rw [HW.out.next t, ← HALL.out, hs, hp7, hz7])
          have hsi : (all : Int) + (p7 : Int) = (s : Int) := by omega
          have hsw : IntKind.i64.wrap (s : Int) = (s : Int) := by rw [IntKind.wrap_i64]; have := HALB.out; omega
          have HFIN : Hid (CtR x b n (.slice (some ⟨g, 0, none⟩) nw c) W d k (.slice (some ⟨gb, 0, none⟩) nD cb) (.slice a2 nL c2) D (E ++ [e]) s (w6.drew.setCell ⟨b, 7, none⟩ (.int .i64 (s : Int)))) := hid ((HF6.below (Below.refl _ _).drew).putA s)
          have k1 := HF6.r.c1
          have k7 := HF6.r.c7
          have kf := HF6.r.fz 7
          clear HF6 hs hp7 hz7 hzl hpb
          go_wp2_with fail
          rw [← HW6.out]
          clear jf j6
          go_still_tail 15, mixedP
          repeat still_step
          still_call HO.out
          repeat still_step
          change wpList _ _ _ _ _ w6.drew
          have kf' : w6.drew.frozen? ⟨b, 7, none⟩ = false := kf
          have k7' : w6.drew.cell? ⟨b, 7, none⟩ = some (.int .i64 (all : Int)) := k7
          have HT : Hid (t + 1 ≤ nw) := hid (by omega)
          clear k1 k7 kf hz6 HO HF HW6
          generalize w6.drew = z1 at *
          go_wp2_with fail
          go_roundw
          case rel => exact ⟨t + 1, _, _, HT.out, by go_num, by rw [show (t + 1 + 7) / 8 = q + 1 from by have := HQ.out; omega, ← HD.out, HEN.out, ← HS.out]; exact HFIN.out⟩
          case measure => simp [intOf]; omega
    · have htl : (t < nw) = False := eq_false (by omega)
      have HT : Hid (t = nw) := hid (by omega)
      have HC := hid hc
      clear hlt hc
      go_wp2_with fail
      exact bodyPost_end (results_none rfl _ _ _) rfl ⟨rfl, vb, vw, by have := HC.out; rw [HT.out] at this; exact this⟩
end Go.Proofs.Ytjcapiibeekfkaa
