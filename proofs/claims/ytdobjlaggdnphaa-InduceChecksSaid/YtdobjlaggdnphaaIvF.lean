/- CONTRACTS (induce, as it landed): the places of kind S are taken away, and put anew. (CONTRACTS (induce, as it landed): all places of kind L are put; those of kind S are taken away. (CONTRACTS (induce, as it landed): what a text being induced looks like in memory; sowing.)) -/
import Derived.Test.YtdobjlaggdnphaaIvC
import Derived.BigRegion
namespace Go.Inc
open Go.RowKit
/-- The text, its kinds, where its order lies. -/
structure WkS (y : World) (wb tb tq c kb ko kc g1 n : Nat) (zs : List Int) : Prop where
  c0 : y.cell? ⟨wb, 0, none⟩ = some (.slice (some ⟨tb, tq, none⟩) n c)
  c1 : y.cell? ⟨wb, 1, none⟩ = some (.slice (some ⟨kb, ko, none⟩) n kc)
  c2 : y.cell? ⟨wb, 2, none⟩ = some (.slice (some ⟨g1, 0, none⟩) n n)
  tx : ∀ i, i < n → y.cell? ⟨tb, tq + i, none⟩ = some (.int .i64 ((cdT zs i : Nat) : Int))
  kd : ∀ i, i < n → y.cell? ⟨kb, ko + i, none⟩ = some (.bool (kdT zs i))
  nw : wb ≠ g1
  nt : tb ≠ g1
  nk : kb ≠ g1
theorem WkS.mv {F : Nat → Prop} {y z : World} {wb tb tq c kb ko kc g1 n : Nat} {zs : List Int} (h : WkS y wb tb tq c kb ko kc g1 n zs) (hm : Mv F y z) (hF : ∀ b, b < y.heap.size → F b → b = g1) : WkS z wb tb tq c kb ko kc g1 n zs :=
  ⟨hm.cell h.c0 fun f => h.nw (hF _ (cell_lt h.c0) f), hm.cell h.c1 fun f => h.nw (hF _ (cell_lt h.c1) f), hm.cell h.c2 fun f => h.nw (hF _ (cell_lt h.c2) f),
    fun i hi => hm.cell (h.tx i hi) fun f => h.nt (hF _ (cell_lt (h.tx i hi)) f), fun i hi => hm.cell (h.kd i hi) fun f => h.nk (hF _ (cell_lt (h.kd i hi)) f), h.nw, h.nt, h.nk⟩
theorem WkS.text {ok : Nat → Prop} {y : World} {wb tb tq c kb ko kc g1 n : Nat} {zs : List Int} (h : WkS y wb tb tq c kb ko kc g1 n zs) (hi : InT zs) (hn : n = zs.length) (hok : ok tb) : Si ok y (some ⟨tb, tq, none⟩) zs :=
  .inr ⟨tb, tq, rfl, hok, fun i h2 => by rw [h.tx i (by rw [hn]; exact h2), hi.cd h2]⟩
/-- The order's row, and the row of what the buckets' ends (or heads) are by now. -/
structure OrdE (E : TypeId) (x w : World) (g1 g3 n G : Nat) (A : Nat → Option Nat) (q : Nat → Nat) : Prop where
  ord : w.ownsRow 0 E 1 (.slice (some ⟨g1, 0, none⟩) n n) n (ivl A n)
  put : w.ownsRow 0 E 1 (.slice (some ⟨g3, 0, none⟩) G G) G (qvl q G)
  mv : Mv (fun b => b = g1 ∨ b = g3) x w
theorem OrdE.cellO {E : TypeId} {x w : World} {g1 g3 n G : Nat} {a : Nat → Option Nat} {q : Nat → Nat} (h : OrdE E x w g1 g3 n G a q) {p : Nat} (hp : p < n) : w.cell? ⟨g1, p, none⟩ = some (.int .i64 (ov (a p))) := by
  have h1 := h.ord.cells (g := g1) rfl p _ (ivl_get hp)
  rw [Addr.add_lit] at h1
  simpa using h1
theorem OrdE.cellP {E : TypeId} {x w : World} {g1 g3 n G : Nat} {a : Nat → Option Nat} {q : Nat → Nat} (h : OrdE E x w g1 g3 n G a q) {s : Nat} (hs : s < G) : w.cell? ⟨g3, s, none⟩ = some (.int .i64 ((q s : Nat) : Int)) := by
  have h1 := h.put.cells (g := g3) rfl s _ (qvl_get hs)
  rw [Addr.add_lit] at h1
  simpa using h1
theorem OrdE.congr {E : TypeId} {x w : World} {g1 g3 n G : Nat} {a b : Nat → Option Nat} {q r : Nat → Nat} (h : OrdE E x w g1 g3 n G a q) (ha : ∀ p, p < n → a p = b p) (hq : ∀ s, s < G → q s = r s) : OrdE E x w g1 g3 n G b r :=
  ⟨by rw [← ivl_congr ha]; exact h.ord, by have h2 := h.put; unfold qvl at h2 ⊢; rw [← List.map_congr_left (f := q) fun s hs => hq s (List.mem_range.1 hs)]; exact h2, h.mv⟩
theorem OrdE.setO {E : TypeId} {x w : World} {g1 g3 n G : Nat} {a : Nat → Option Nat} {q : Nat → Nat} (h : OrdE E x w g1 g3 n G a q) (hne : g1 ≠ g3) (p : Nat) (v : Option Nat) : OrdE E x (w.setCell ⟨g1, p, none⟩ (.int .i64 (ov v))) g1 g3 n G (updF a p v) q := by
  have h1 := h.ord.stored p (.int .i64 (ov v))
  rw [ivl_set] at h1
  exact ⟨h1.1, h.put.kept h1.2 (.inr (by simp [Value.ownBlock]; exact fun e => hne e.symm)), mvSet (F := fun b => b = g1 ∨ b = g3) h.mv (.inl rfl) _⟩
theorem OrdE.setP {E : TypeId} {x w : World} {g1 g3 n G : Nat} {a : Nat → Option Nat} {q : Nat → Nat} (h : OrdE E x w g1 g3 n G a q) (hne : g1 ≠ g3) (s v : Nat) : OrdE E x (w.setCell ⟨g3, s, none⟩ (.int .i64 (v : Int))) g1 g3 n G a (updF q s v) := by
  have h1 := h.put.stored s (.int .i64 (v : Int))
  rw [qvl_set] at h1
  exact ⟨h.ord.kept h1.2 (.inr (by simp [Value.ownBlock]; exact hne)), h1.1, mvSet (F := fun b => b = g1 ∨ b = g3) h.mv (.inr rfl) _⟩
theorem OrdE.drew {E : TypeId} {x w : World} {g1 g3 n G : Nat} {a : Nat → Option Nat} {q : Nat → Nat} (h : OrdE E x w g1 g3 n G a q) : OrdE E x w.drew g1 g3 n G a q := ⟨h.ord, h.put, h.mv.drew⟩
/-- It abides what a range over a function lays beside it. -/
theorem ordE_from {E : TypeId} {x : World} {g1 g3 n G : Nat} (A : Nat → Nat → Option Nat) (q : Nat → Nat → Nat) (h1 : g1 < x.heap.size) (h3 : g3 < x.heap.size) : OwnFrom x.heap.size (fun k W => OrdE E x W g1 g3 n G (A k) (q k)) := by
  intro k W W' row h hg hr
  refine ⟨h.ord.kept hg ?_, h.put.kept hg ?_, h.mv.trans' (Mv.of_grown (F := fun b => x.heap.size ≤ b) hg fun g e _ => (hr g e).1) fun i hi h2 => absurd h2 (by omega)⟩
  · by_cases e : row = some g1
    · have := (hr _ e).1; omega
    · exact .inr (by simp [Value.ownBlock]; exact fun h => e h.symm)
  · by_cases e : row = some g3
    · have := (hr _ e).1; omega
    · exact .inr (by simp [Value.ownBlock]; exact fun h => e h.symm)
end Go.Inc
namespace Go.Proofs.Ytdobjlaggdnphaa
open Go.RowKit Go.Inc Go.Shelf
attribute [local go_sem] Oper.semAt_some
set_option maxRecDepth 100000 in
set_option maxHeartbeats 4000000 in
theorem sow_any (ok : Nat → Prop) (x : World) (wb tb tq c kb ko kc g1 n d : Nat) (b : Option Addr) (zs : List Int) (fs : List Nat) (hw : WkS x wb tb tq c kb ko kc g1 n zs) (ho : x.ownsRow 0 3 1 (.slice (some ⟨g1, 0, none⟩) n n) n (ivl (fun _ => none) n))
    (hf : Si ok x b (zsN fs)) (hok : ∀ b, ok b → b ≠ g1) (hfs : isFs zs fs) (hck : ckT zs = 0) (hn : n = zs.length) (h2 : 1 < n) (hl : n ≤ 65536) :
    Calls Try.prog 51 #[.pointer (some ⟨wb, 0, none⟩), .slice b fs.length d] x fun e w' => e = .returned (.tuple #[]) ∧ w'.ownsRow 0 3 1 (.slice (some ⟨g1, 0, none⟩) n n) n (ivl (sow n (cdT zs) fs).1 n) ∧ Mv (fun b => b = g1) x w' := by
  have hI := InT.of hck
  have HI := hid hI
  have HN := hid hn
  have HFS := hid hfs
  have HW := hid hw
  have HO := hid ho
  have HBU : Hid (∀ y, Below x.heap.size x y → Calls Try.prog 31 #[.slice (some ⟨tb, tq, none⟩) n c] y (BkP y zs)) := hid fun y hy => by
    have h := buckets_any (fun b => b = tb) y (some ⟨tb, tq, none⟩) c zs ((hw.mv (F := fun b => b = g1) (Mv.of_below hy) fun _ _ h => h).text hI hn rfl) hck (by omega)
    rwa [← hn] at h
  have hw0 := hw.c0
  have HGB : Hid (grT zs n ≤ 65535) := hid (grT_bd (fun i hi => ck_cd hck hi) n (by omega))
  obtain ⟨m, hm⟩ : ∃ m, m = fs.length := ⟨_, rfl⟩
  have HM := hid hm
  rw [← hm]
  have hmn : fs.length ≤ zs.length := by
    have h3 := nodup_le (m := List.range zs.length) hfs.1 (fun f hf => List.mem_range.2 (isFs_lt hfs hf).1)
    rwa [List.length_range] at h3
  have HMB : Hid ((m : Int) ≤ 65536) := hid (by omega)
  have HM0 : Hid (0 < m) := hid (by
    have h3 := (hfs.2 _).2 (fs_last hI (by omega))
    rw [hm]
    exact List.length_pos_of_mem h3)
  have HOK := hid hok
  have HWX : Hid (wb < x.heap.size ∧ tb < x.heap.size) := hid ⟨cell_lt hw.c0, cell_lt (hw.tx 0 (by omega))⟩
  have HF := hid hf
  have HFX : Hid (∀ fb fo, b = some ⟨fb, fo, none⟩ → fb < x.heap.size) := hid fun fb fo e => by
    rcases hf with h | ⟨b2, o2, h, _, hc⟩
    · have := HM0.out; rw [hm] at this
      have h3 : fs = [] := by simpa [zsN] using h
      rw [h3] at this; simp at this
    · rw [e] at h; cases h
      exact cell_lt (hc 0 (by rw [zsN_len, ← hm]; exact HM0.out))
  clear hw ho hf hok hfs hck hI hn h2 hm hmn
  refine (callsIn_wide (n := 6)).1 ?_
  refine callsIn_of_wp_marks Try.func51 rfl trivial ?_ rfl
  simp only [Try.ntmps51, List.size_toArray, List.length_cons, List.length_nil, Nat.reduceAdd, Nat.reduceSub, Array.replicate_succ, Array.replicate_zero, List.push_toArray, List.append_toArray, List.nil_append, List.cons_append]
  refine wpIn_wide.2 ?_
  have hb0 := allocBelow x (.cells #[.pointer (some ⟨wb, 0, none⟩)] 87)
  have k0 := (hb0.cell (cell_lt hw0)).trans hw0
  have HBK := hid (HBU.out _ hb0)
  have HB0 := hid hb0
  clear hw0 hb0 HBU
  go_wp2_with fail
  refine HBK.out.mono ?_
  clear HBK
  rintro e w2 ⟨gh, g3, rfl, hne, hr1, hr2, hb⟩
  rw [← HN.out] at hr1 hr2 ⊢
  obtain ⟨G, hG⟩ : ∃ G, G = grT zs n + 1 := ⟨_, rfl⟩
  rw [← hG] at hr1 hr2 ⊢
  have HG := hid hG
  have HB2 : Hid (Below x.heap.size x w2) := hid (HB0.out.trans (hb.mono HB0.out.size))
  have hbw : w2.cell? ⟨x.heap.size, 0, none⟩ = some (.pointer (some ⟨wb, 0, none⟩)) := (hb.cell (p := ⟨x.heap.size, 0, none⟩) (by simp)).trans (by simp)
  obtain ⟨bw, hbwe⟩ : ∃ bw, bw = x.heap.size := ⟨_, rfl⟩
  have HBW := hid hbwe
  rw [← hbwe] at hbw ⊢
  obtain ⟨w3, hw3⟩ : ∃ w3, w3 = w2.alloc (.cells #[.slice (some ⟨g3, 0, none⟩) G G] 22) := ⟨_, rfl⟩
  obtain ⟨bE, hbE⟩ : ∃ bE, bE = w2.heap.size := ⟨_, rfl⟩
  obtain ⟨w4, hw4⟩ : ∃ w4, w4 = w3.alloc (.cells #[.slice b m d] 22) := ⟨_, rfl⟩
  obtain ⟨bL, hbL⟩ : ∃ bL, bL = w3.heap.size := ⟨_, rfl⟩
  have HFL : Hid (Calls Try.prog 71 #[.slice b m d] w3 fun e w' => e = .returned (.func (.func 81) #[] #[.pointer (some ⟨bL, 0, none⟩)]) ∧ w' = w4) := hid (by rw [hw4, hbL]; exact fromLast_any b m d w3)
  have hb23 : Below w2.heap.size w2 w3 := by rw [hw3]; exact allocBelow _ _
  have hb34 : Below w3.heap.size w3 w4 := by rw [hw4]; exact allocBelow _ _
  have hb24 : Below w2.heap.size w2 w4 := hb23.trans (hb34.mono hb23.size)
  have HB4 : Hid (Below x.heap.size x w4) := hid (HB2.out.trans (hb24.mono HB2.out.size))
  have HSZ : Hid (x.heap.size ≤ g3 ∧ g3 < w2.heap.size ∧ w2.heap.size ≤ w4.heap.size) := hid ⟨by have := rowBase hr2; simp at this; omega, rowSlot hr2, hb24.size⟩
  have HCW : Hid (w4.cell? ⟨bw, 0, none⟩ = some (.pointer (some ⟨wb, 0, none⟩))) := hid ((hb24.cell (cell_lt hbw)).trans hbw)
  have hcE : w3.cell? ⟨bE, 0, none⟩ = some (.slice (some ⟨g3, 0, none⟩) G G) := by rw [hw3, hbE, cell_of_row _ _ _ _ _ _ (heap_alloc_new w2 _)]; rfl
  have HCE : Hid (w4.cell? ⟨bE, 0, none⟩ = some (.slice (some ⟨g3, 0, none⟩) G G)) := hid ((hb34.cell (cell_lt hcE)).trans hcE)
  have HCL : Hid (w4.cell? ⟨bL, 0, none⟩ = some (.slice b m d)) := hid (by rw [hw4, hbL, cell_of_row _ _ _ _ _ _ (heap_alloc_new w3 _)]; rfl)
  have HNE : Hid (g1 < x.heap.size ∧ bw ≠ g3 ∧ bE ≠ g3 ∧ bL ≠ g3 ∧ x.heap.size ≤ bw ∧ x.heap.size ≤ bE ∧ x.heap.size ≤ bL) := hid (by
    have h1 := rowSlot HO.out
    have h2 := rowBase hr2
    have h3 := rowSlot hr2
    have h4 := HB2.out.size
    have h5 := hb23.size
    simp at h2
    have h6 : w3.heap.size = w2.heap.size + 1 := by rw [hw3]; simp
    omega)
  have HST : Hid (OrdE 3 w4 w4 g1 g3 n G (sow n (cdT zs) (fs.drop m)).1 (fun s => hdC n (cdT zs) (s + 1) - (sow n (cdT zs) (fs.drop m)).2 s)) := hid (by
    rw [HM.out, List.drop_length]
    exact ⟨owns_mv (F := fun _ => False) HO.out (Mv.of_below HB4.out) fun _ _ => id, own_weaken (owns_mv (F := fun _ => False) hr2 (Mv.of_below hb24) fun _ _ => id) (Nat.zero_le _), Mv.refl _ _⟩)
  have HWK := hid (HW.out.mv (F := fun b => b = g1) (Mv.of_below HB4.out) fun _ _ h => h)
  have HFS4 := hid (HF.out.below HB4.out)
  have HW3 := hid hw3
  have HBE := hid hbE
  clear hr1 hr2 hb hbw hbwe hw3 hbE hw4 hbL hb23 hb34 hb24 hcE hG HB0 HB2 k0 HO HW HF
  go_wp2_with fail
  rw [← HW3.out, ← HBE.out]
  refine HFL.out.mono ?_
  clear HFL
  rintro e w5 ⟨rfl, rfl⟩
  go_wp2_with fail
  refine (wpIn_wide (n := 6)).1 ?_
  obtain ⟨fb, fo, rfl, hfb, hfc⟩ : ∃ fb fo, b = some ⟨fb, fo, none⟩ ∧ fb ≠ g1 ∧ ∀ k, k < m → w5.cell? ⟨fb, fo + k, none⟩ = some (.int .i64 ((fs.getD k 0 : Nat) : Int)) := by
    rcases HFS4.out with h | ⟨fb, fo, h, hk, hc⟩
    · have h3 : fs = [] := by simpa [zsN] using h
      have := HM0.out
      rw [HM.out, h3] at this; simp at this
    · exact ⟨fb, fo, h, HOK.out fb hk, fun k hk => by rw [hc k (by rw [zsN_len, ← HM.out]; exact hk), zsN_get]⟩
  have HFC := hid hfc
  have HFB : Hid (fb ≠ g1 ∧ fb < x.heap.size) := hid ⟨hfb, HFX.out fb fo rfl⟩
  refine range_rounds (n := 6) rfl (by omega) (gf := 81) (lb := #[.pointer (some ⟨bL, 0, none⟩)]) rfl trivial (enters_of Try.func81 (by kernel_rfl) rfl)
    (last_rounds 5 (by omega) bL fb fo d m (fun k => ((fs.getD (m - 1 - k) 0 : Nat) : Int)) HMB.out w5) (fun _ => rfl)
    (fun k W => OrdE 3 w5 W g1 g3 n G (sow n (cdT zs) (fs.drop (m - k))).1 (fun s => hdC n (cdT zs) (s + 1) - (sow n (cdT zs) (fs.drop (m - k))).2 s))
    (ordE_from (fun k => (sow n (cdT zs) (fs.drop (m - k))).1) (fun k s => hdC n (cdT zs) (s + 1) - (sow n (cdT zs) (fs.drop (m - k))).2 s) (by have := HNE.out; have := HSZ.out; omega) (by have := HSZ.out; omega))
    (fun k V h => ⟨h.mv.cell HCL.out (by have := HNE.out; simp only; omega), fun hk => h.mv.cell (HFC.out (m - 1 - k) (by omega)) (by have := HFB.out; have := HSZ.out; simp only; omega)⟩)
    HST.out
    (fun k => { tmps := #[.pointer (some ⟨wb, 0, none⟩), .slice (some ⟨fb, fo, none⟩) m d, .pointer (some ⟨bw, 0, none⟩), undef, .slice (some ⟨gh, 0, none⟩) G G, .pointer (some ⟨bE, 0, none⟩), .int .i64 ((fs.getD (m - 1 - k) 0 : Nat) : Int), .tuple #[.slice (some ⟨gh, 0, none⟩) G G, .slice (some ⟨g3, 0, none⟩) G G], .pointer (some ⟨wb, 0, none⟩), .pointer (some ⟨wb, 0, none⟩), .pointer (some ⟨wb, 0, none⟩), .slice (some ⟨tb, tq, none⟩) n c, .tuple #[.slice (some ⟨gh, 0, none⟩) G G, .slice (some ⟨g3, 0, none⟩) G G], .slice (some ⟨gh, 0, none⟩) G G, .slice (some ⟨g3, 0, none⟩) G G, .slice (some ⟨fb, fo, none⟩) m d, .func (.func 81) #[] #[.pointer (some ⟨bL, 0, none⟩)], .int .i64 ((fs.getD (m - 1 - k) 0 : Nat) : Int), undef, undef, undef, undef], defers := [] }) ?assign ?body ?done
  case assign =>
    intro l k W K hK
    gi_wp2
    simpa using hK
  case body =>
    intro l k W hkm hI
    obtain ⟨j, hj⟩ : ∃ j, j = m - 1 - k := ⟨_, rfl⟩
    have hjm : j < m := by omega
    have hmk : m - k = j + 1 := by omega
    have hmk1 : m - (k + 1) = j := by omega
    rw [hmk] at hI
    have hfm : fs.getD j 0 ∈ fs := getD_inN (by rw [← HM.out]; exact hjm)
    have hfl := (isFs_lt HFS.out hfm).1
    rw [← HN.out] at hfl
    have hroom := sow_next HI.out HFS.out (k := j) (by rw [← HM.out]; exact hjm)
    rw [← HN.out] at hroom
    have hdr := drop_cons (l := fs) (k := j) (by rw [← HM.out]; exact hjm)
    have hg := grT_le zs n (fs.getD j 0) hfl
    have hhd := hdC_succ n (cdT zs) (cdT zs (fs.getD j 0))
    have hhl := hdC_le n (cdT zs) (cdT zs (fs.getD j 0) + 1)
    have hne := HNE.out
    have hsz := HSZ.out
    have hwx := HWX.out
    have c0 := hI.mv.cell HWK.out.c0 (by have := HWK.out.nw; simp only; omega)
    have c2 := hI.mv.cell HWK.out.c2 (by have := HWK.out.nw; simp only; omega)
    have ct := hI.mv.cell (HWK.out.tx _ hfl) (by have := HWK.out.nt; simp only; omega)
    have cw := hI.mv.cell HCW.out (by simp only; omega)
    have cE := hI.mv.cell HCE.out (by simp only; omega)
    obtain ⟨f, hf⟩ : ∃ f, f = fs.getD j 0 := ⟨_, rfl⟩
    have HNW := hid HWK.out.nw
    rw [← hf] at hfl hroom hdr hg hhd hhl ct
    obtain ⟨s, hs⟩ : ∃ s, s = cdT zs f := ⟨_, rfl⟩
    rw [← hs] at hroom hg hhd hhl ct
    obtain ⟨Q, hQ⟩ : ∃ Q, Q = (sow n (cdT zs) (fs.drop (j + 1))).2 := ⟨_, rfl⟩
    obtain ⟨A, hA⟩ : ∃ A, A = (sow n (cdT zs) (fs.drop (j + 1))).1 := ⟨_, rfl⟩
    rw [← hQ] at hroom
    rw [← hQ, ← hA] at hI
    obtain ⟨e, he⟩ : ∃ e, e = hdC n (cdT zs) (s + 1) - 1 - Q s := ⟨_, rfl⟩
    have hsG : s < G := by have := HG.out; omega
    have hen : e < n := by omega
    have hcp := hI.cellP hsG
    rw [show hdC n (cdT zs) (s + 1) - Q s = e + 1 by omega] at hcp
    have hco := hI.cellO hen
    have f3 := hI.put.frozenAt s
    have f1 := hI.ord.frozenAt e
    have hgb : grT zs n ≤ 65535 := HGB.out
    have hpb := putBehind_any W wb tb tq c g1 g3 n G f s e _ c0 c2 ct hcp f3 hco f1 hfl hsG hen hl (by have := HG.out; omega) (by omega) (by omega)
    have hset := ((hI.setP (by omega) s e).setO (by omega) e (some f)).drew
    have HSET : Hid (OrdE 3 w5 ((W.setCell ⟨g3, s, none⟩ (.int .i64 (e : Int))).setCell ⟨g1, e, none⟩ (.int .i64 (f : Int))).drew g1 g3 n G (sow n (cdT zs) (fs.drop (m - (k + 1)))).1 (fun s => hdC n (cdT zs) (s + 1) - (sow n (cdT zs) (fs.drop (m - (k + 1)))).2 s)) := hid (by
      rw [hmk1, hdr]
      refine hset.congr (fun p _ => ?_) fun t _ => ?_
      · show updF A e (some f) p = updF (sow n (cdT zs) (fs.drop (j + 1))).1 (hdC n (cdT zs) (cdT zs f + 1) - 1 - (sow n (cdT zs) (fs.drop (j + 1))).2 (cdT zs f)) (some f) p
        rw [← hA, ← hQ, ← hs, ← he]
      · show updF (fun s => hdC n (cdT zs) (s + 1) - Q s) s e t = hdC n (cdT zs) (t + 1) - updF (sow n (cdT zs) (fs.drop (j + 1))).2 (cdT zs f) ((sow n (cdT zs) (fs.drop (j + 1))).2 (cdT zs f) + 1) t
        rw [← hQ, ← hs]
        by_cases h : t = s
        · subst h; rw [updF_at, updF_at, he]; omega
        · rw [updF_ne _ _ h, updF_ne _ _ h])
    have HKO : Hid (KeepsOthers W ((W.setCell ⟨g3, s, none⟩ (.int .i64 (e : Int))).setCell ⟨g1, e, none⟩ (.int .i64 (f : Int))).drew) := hid (((KeepsOthers.setCell _ _ _).trans (KeepsOthers.setCell _ _ _)).trans ⟨Nat.le_refl _, fun _ _ h _ => h⟩)
    rw [← hj, ← hf]
    have HPB := hid ((callsIn_wide (n := 3)).2 hpb)
    clear hj hjm hmk hmk1 hI hfm hfl hroom hdr hg hhd hhl hne hsz hwx c0 c2 ct hf hs hQ hA he hsG hen hcp hco f3 f1 hgb hpb hset hkm
    gi_wp2
    refine ⟨trivial, CallsIn.mono (F := Fence.wide.inRound l) HPB.out ?_⟩
    clear HPB
    rintro r w6 ⟨rfl, rfl⟩
    gi_wp2
    exact ⟨HKO.out, HSET.out⟩
  case done =>
    intro D W hD hI hK
    rw [Nat.sub_self, List.drop_zero] at hI
    have hB : Below x.heap.size W (W.putObj D (.deferred none)) := belowK_b (w := x) (Nat.le_refl _) W D _ _ (by have := HB4.out.size; omega) hK rfl rfl
    have hmx : Mv (fun b => b = g1) x W := (Mv.of_below HB4.out).trans' hI.mv fun i hi h => by
      have := HSZ.out
      omega
    have HFIN : Hid ((W.putObj D (.deferred none)).ownsRow 0 3 1 (.slice (some ⟨g1, 0, none⟩) n n) n (ivl (sow n (cdT zs) fs).1 n) ∧ Mv (fun b => b = g1) x (W.putObj D (.deferred none))) := hid ⟨ownsRow_putObj hI.ord (.deferred none) hK rfl, hmx.trans' (F' := fun b => x.heap.size ≤ b) (Mv.of_grown (grownBy_putObj' W D _) fun g e _ => by cases e; have := HB4.out.size; omega) fun i hi h => absurd h (by omega)⟩
    clear hI hB hmx
    go_wp2_with fail
    refine ⟨by simp, .inl ⟨_, _, rfl, run_takeDeferred hK, ?_⟩⟩
    exact ⟨_, results_none rfl _ _ _, rfl, HFIN.out.1, HFIN.out.2⟩
end Go.Proofs.Ytdobjlaggdnphaa
namespace Go.Proofs.Ytdobjlaggdnphaa
open Go.RowKit Go.Inc
set_option maxRecDepth 100000 in
set_option maxHeartbeats 4000000 in
theorem putL_any (x : World) (wb tb tq c kb ko kc g1 n : Nat) (zs : List Int) (fs : List Nat) (hw : WkS x wb tb tq c kb ko kc g1 n zs) (ho : x.ownsRow 0 3 1 (.slice (some ⟨g1, 0, none⟩) n n) n (ivl (sow n (cdT zs) fs).1 n))
    (hfs : isFs zs fs) (hck : ckT zs = 0) (hn : n = zs.length) (hl : n ≤ 65536) :
    Calls Try.prog 52 #[.pointer (some ⟨wb, 0, none⟩)] x fun e w' => e = .returned (.tuple #[]) ∧ w'.ownsRow 0 3 1 (.slice (some ⟨g1, 0, none⟩) n n) n (ivl (pass1 n (cdT zs) (kdT zs) fs).1 n) ∧ Mv (fun b => b = g1) x w' := by
  have hI := InT.of hck
  have HW := hid hw
  have HO := hid ho
  have HBU := hid (buckets_any (fun b => b = tb) x (some ⟨tb, tq, none⟩) c zs (hw.text hI hn rfl) hck (by omega))
  have HGB : Hid (grT zs n ≤ 65535) := hid (grT_bd (fun i hi => ck_cd hck hi) n (by omega))
  have HGL : Hid (∀ i, i < n → cdT zs i ≤ grT zs n) := hid fun i hi => grT_le zs n i hi
  have hw0 := hw.c0
  obtain ⟨h0, -, -, -⟩ := sow_ok (R := fun _ _ => True) hI.txt fs hfs.1 (fun f hh => isFs_lt hfs hh) (fun _ _ _ _ _ => trivial) (List.pairwise_of_forall (fun _ _ _ => trivial))
  have HSC := hid (ScanI.scan hI.txt.scanL (trR.scanL hI.txt) h0)
  have HTS := hid hI.txt.scanL
  have HHD := hid (fun s => hdC_succ n (cdT zs) s)
  have HHL := hid (fun s => hdC_le n (cdT zs) s)
  have hpf : pass1 n (cdT zs) (kdT zs) fs = scan (cdT zs) (insL (kdT zs)) (hdC n (cdT zs)) (sow n (cdT zs) fs).1 n := rfl
  rw [← hn] at HSC HTS HBU
  unfold BkP at HBU
  rw [← hn] at HBU
  obtain ⟨G, hG⟩ : ∃ G, G = grT zs n + 1 := ⟨_, rfl⟩
  rw [← hG] at HBU
  have HG := hid hG
  obtain ⟨a0, ha0⟩ : ∃ a0, a0 = (sow n (cdT zs) fs).1 := ⟨_, rfl⟩
  rw [← ha0] at HSC HO hpf
  have HPF := hid hpf
  have hnb : (n : Int) ≤ 65536 := by omega
  have HPN : Hid (0 < n) := hid (by rw [hn]; exact hI.txt.pos)
  have hgb : (G : Int) ≤ 65536 := by have := HGB.out; omega
  clear hI hw ho hfs hck hn h0 hl hG ha0 hpf
  go_enter Try.func52, Try.ntmps52
  go_wp2_with fail
  go_step3
  go_wp2_with fail
  refine HBU.out.mono ?_
  clear HBU
  rintro e w1 ⟨gh, g3, rfl, -, hr1, -, hb⟩
  have HB1 := hid hb
  have HW1 := hid (HW.out.mv (F := fun b => b = g1) (Mv.of_below hb) fun _ _ h => h)
  have HST : Hid (OrdE 3 w1 w1 g1 gh n G (scan (cdT zs) (insL (kdT zs)) (hdC n (cdT zs)) a0 0).1 (fun s => hdC n (cdT zs) s + (scan (cdT zs) (insL (kdT zs)) (hdC n (cdT zs)) a0 0).2 s)) := hid
    ⟨owns_mv (F := fun _ => False) HO.out (Mv.of_below hb) fun _ _ => id, own_weaken hr1 (Nat.zero_le _), Mv.refl _ _⟩
  have HNE : Hid (g1 < x.heap.size ∧ x.heap.size ≤ gh ∧ wb < x.heap.size ∧ tb < x.heap.size ∧ kb < x.heap.size) := hid ⟨rowSlot HO.out, rowBase hr1, cell_lt HW.out.c0, cell_lt (HW.out.tx 0 HPN.out), cell_lt (HW.out.kd 0 HPN.out)⟩
  have c2 := HW1.out.c2
  clear hw0 hr1 hb HO HW
  go_wp2_with fail
  go_step3
  go_wp2_with fail
  go_loopw [20] (fun kk wr => ∃ t : Nat, t ≤ n ∧ kk = .int .i64 (t : Int) ∧ OrdE 3 w1 wr g1 gh n G (scan (cdT zs) (insL (kdT zs)) (hdC n (cdT zs)) a0 t).1 (fun s => hdC n (cdT zs) s + (scan (cdT zs) (insL (kdT zs)) (hdC n (cdT zs)) a0 t).2 s)) (fun kk _ => n - (intOf kk).toNat)
  case atStart => exact ⟨0, Nat.zero_le _, rfl, HST.out⟩
  case round =>
    clear HST c2
    obtain ⟨t, ht, rfl, hs⟩ := hrel
    have HS := hid hs
    clear hs
    by_cases hlt : t < n
    · have hti : (t < n) = True := eq_true hlt
      have htb : (t : Int) < (n : Int) := by omega
      have HLT := hid hlt
      have hsc := HSC.out t
      obtain ⟨A, hA⟩ : ∃ A, A = (scan (cdT zs) (insL (kdT zs)) (hdC n (cdT zs)) a0 t).1 := ⟨_, rfl⟩
      obtain ⟨Q, hQ⟩ : ∃ Q, Q = (scan (cdT zs) (insL (kdT zs)) (hdC n (cdT zs)) a0 t).2 := ⟨_, rfl⟩
      have HA := hid hA
      have HQ := hid hQ
      rw [← hA, ← hQ] at HS
      rw [← hA, ← hQ] at hsc
      have hct := HS.out.cellO hlt
      have HSC9 := hid hsc
      have hne := HNE.out
      have c0 := HS.out.mv.cell HW1.out.c0 (by have := HW1.out.nw; simp only; omega)
      have c1 := HS.out.mv.cell HW1.out.c1 (by have := HW1.out.nw; simp only; omega)
      have c2 := HS.out.mv.cell HW1.out.c2 (by have := HW1.out.nw; simp only; omega)
      have HKX : Hid (∀ i, i < n → wr.cell? ⟨kb, ko + i, none⟩ = some (.bool (kdT zs i))) := hid fun i hi => HS.out.mv.cell (HW1.out.kd i hi) (by have := HW1.out.nk; simp only; omega)
      have HTX : Hid (∀ i, i < n → wr.cell? ⟨tb, tq + i, none⟩ = some (.int .i64 ((cdT zs i : Nat) : Int))) := hid fun i hi => HS.out.mv.cell (HW1.out.tx i hi) (by have := HW1.out.nt; simp only; omega)
      clear hA hQ hlt hsc hne
      cases hv : A t with
      | none =>
        rw [hv] at hct
        have hct' : wr.cell? ⟨g1, t, none⟩ = some (.int .i64 (-1)) := hct
        have HSK := hid (scan_none (c := cdT zs) (ins := insL (kdT zs)) (st := hdC n (cdT zs)) (a0 := a0) (k := t) (by rw [← HA.out]; exact hv))
        clear hct hv HSC9 c0
        go_wp2_with fail
        go_roundw
        case rel => exact ⟨t + 1, HLT.out, by go_num, by rw [HSK.out, ← HA.out, ← HQ.out]; exact HS.out⟩
        case measure => simp [intOf]; have := HLT.out; omega
      | some i =>
        rw [hv] at hct
        cases i with
        | zero =>
          have hct' : wr.cell? ⟨g1, t, none⟩ = some (.int .i64 0) := hct
          have HSK := hid (scan_skip (c := cdT zs) (ins := insL (kdT zs)) (st := hdC n (cdT zs)) (a0 := a0) (k := t) (i := 0) (by rw [← HA.out]; exact hv) (by omega))
          clear hct hv HSC9 c0
          go_wp2_with fail
          go_roundw
          case rel => exact ⟨t + 1, HLT.out, by go_num, by rw [HSK.out, ← HA.out, ← HQ.out]; exact HS.out⟩
          case measure => simp [intOf]; have := HLT.out; omega
        | succ j =>
          obtain ⟨h, hh⟩ : ∃ h : Nat, h = j + 1 := ⟨_, rfl⟩
          have hct' : wr.cell? ⟨g1, t, none⟩ = some (.int .i64 (h : Int)) := by rw [hh]; exact hct
          have hj1 : (h : Int) - 1 = (j : Int) := by omega
          have hh0 : decide ((h : Int) ≤ 0) = false := decide_eq_false (by omega)
          have hjn : j < n := by have := (HSC9.out.at_ hv).1; omega
          have hjN : (j < n) = True := eq_true hjn
          have hjb : (j : Int) < (n : Int) := by omega
          have hkc := HKX.out j hjn
          cases hK : kdT zs j with
          | true =>
            rw [hK] at hkc
            have HSK := hid (scan_skip (c := cdT zs) (ins := insL (kdT zs)) (st := hdC n (cdT zs)) (a0 := a0) (k := t) (i := j + 1) (by rw [← HA.out]; exact hv) (by rw [Nat.add_sub_cancel, insL_iff, hK]; simp))
            clear hct hv HSC9 hjn hh hK c0
            go_wp2_with fail
            go_roundw
            case rel => exact ⟨t + 1, HLT.out, by go_num, by rw [HSK.out, ← HA.out, ← HQ.out]; exact HS.out⟩
            case measure => simp [intOf]; have := HLT.out; omega
          | false =>
            rw [hK] at hkc
            have hins : insL (kdT zs) j = true := insL_iff.2 hK
            have HPU := hid (scan_put (c := cdT zs) (ins := insL (kdT zs)) (st := hdC n (cdT zs)) (a0 := a0) (k := t) (by rw [← HA.out]; exact hv) hins)
            obtain ⟨-, -, hf1, hf2, -, -⟩ := HSC9.out.free HTS.out hv hins
            have htc := HTX.out j hjn
            have hsg := HGL.out j hjn
            obtain ⟨s, hs⟩ : ∃ s, s = cdT zs j := ⟨_, rfl⟩
            rw [← hs] at htc hf1 hf2 hsg
            have HSE := hid hs
            have hsG : s < G := by have := HG.out; omega
            have hsb : (s : Int) < (G : Int) := by omega
            have hsN : (s < G) = True := eq_true hsG
            obtain ⟨p, hp⟩ : ∃ p, p = hdC n (cdT zs) s + Q s := ⟨_, rfl⟩
            rw [← hp] at hf2
            have HP := hid hp
            have hpb : (p : Int) < (n : Int) := by omega
            have hpN : (p < n) = True := eq_true hf2
            have hne := HNE.out
            have h13 : g1 ≠ gh := by omega
            have k3 := HS.out.cellP hsG
            rw [← hp] at k3
            have ko := HS.out.cellO hf2
            have f1 := HS.out.ord.frozenAt p
            have hs1 := (HS.out.setO h13 p (some j)).drew
            obtain ⟨z1, hz1⟩ : ∃ z1, z1 = (wr.setCell ⟨g1, p, none⟩ (.int .i64 (j : Int))).drew := ⟨_, rfl⟩
            have hs1' : OrdE 3 w1 z1 g1 gh n G (updF A p (some j)) (fun s => hdC n (cdT zs) s + Q s) := by rw [hz1]; exact hs1
            have z3 := hs1'.cellP hsG
            rw [← hp] at z3
            have zf := hs1'.put.frozenAt s
            have hs2 := hs1'.setP h13 s (p + 1)
            have HS2 : Hid (OrdE 3 w1 (z1.setCell ⟨gh, s, none⟩ (.int .i64 ((p : Int) + 1))) g1 gh n G (scan (cdT zs) (insL (kdT zs)) (hdC n (cdT zs)) a0 (t + 1)).1 (fun s => hdC n (cdT zs) s + (scan (cdT zs) (insL (kdT zs)) (hdC n (cdT zs)) a0 (t + 1)).2 s)) := hid (by
              rw [show ((p + 1 : Nat) : Int) = (p : Int) + 1 from by omega] at hs2
              rw [HPU.out]
              refine hs2.congr (fun q _ => ?_) fun r _ => ?_
              · show updF A p (some j) q = updF (scan (cdT zs) (insL (kdT zs)) (hdC n (cdT zs)) a0 t).1 (hdC n (cdT zs) (cdT zs j) + (scan (cdT zs) (insL (kdT zs)) (hdC n (cdT zs)) a0 t).2 (cdT zs j)) (some j) q
                rw [← HA.out, ← HQ.out, ← hs, ← hp]
              · show updF (fun s => hdC n (cdT zs) s + Q s) s (p + 1) r = hdC n (cdT zs) r + updF (scan (cdT zs) (insL (kdT zs)) (hdC n (cdT zs)) a0 t).2 (cdT zs j) ((scan (cdT zs) (insL (kdT zs)) (hdC n (cdT zs)) a0 t).2 (cdT zs j) + 1) r
                rw [← HQ.out, ← hs]
                by_cases h : r = s
                · subst h; rw [updF_at, updF_at, hp]; omega
                · rw [updF_ne _ _ h, updF_ne _ _ h])
            have HZ1 := hid hz1
            generalize ov (A p) = old at *
            clear hct hv HSC9 hh hK hins hf1 hf2 hs hp hs1 hs1' hs2 hjn hsg hsG h13 hz1 hne HPU
            go_wp2_with fail
            go_region
            rw [← HZ1.out]
            clear c0 c1 c2 hkc htc k3 ko f1 hct'
            go_wp2_with fail
            go_roundw
            case rel => exact ⟨t + 1, HLT.out, by go_num, HS2.out⟩
            case measure => simp [intOf]; have := HLT.out; omega
    · have hti : (t < n) = False := eq_false hlt
      obtain rfl : n = t := by omega
      have ho := HS.out.ord
      rw [← HPF.out] at ho
      have HFIN := hid ho
      have HMV : Hid (Mv (fun b => b = g1) x wr) := hid ((Mv.of_below HB1.out).trans' HS.out.mv fun i hi h => by
        have := HNE.out
        omega)
      clear hlt ho
      go_wp2_with fail
      rw [Exit.noGoto_normal]
      go_end0
      exact ⟨rfl, HFIN.out, HMV.out⟩
end Go.Proofs.Ytdobjlaggdnphaa
namespace Go.Proofs.Ytdobjlaggdnphaa
open Go.RowKit Go.Inc Go.Shelf
attribute [local go_sem] Oper.semAt_some
set_option maxRecDepth 100000 in
set_option maxHeartbeats 4000000 in
theorem takeS_any (x : World) (wb tb tq c kb ko kc g1 n : Nat) (zs : List Int) (P1 : Nat → Option Nat) (hw : WkS x wb tb tq c kb ko kc g1 n zs) (ho : x.ownsRow 0 3 1 (.slice (some ⟨g1, 0, none⟩) n n) n (ivl P1 n))
    (hP : ∀ p i, P1 p = some i → i < n) (h0 : 0 < n) (hl : n ≤ 65536) :
    Calls Try.prog 53 #[.pointer (some ⟨wb, 0, none⟩)] x fun e w' => e = .returned (.tuple #[]) ∧ w'.ownsRow 0 3 1 (.slice (some ⟨g1, 0, none⟩) n n) n (ivl (clrA n (kdT zs) P1 n) n) ∧ Mv (fun b => b = g1) x w' := by
  have HW := hid hw
  have HPT := hid hP
  have HO : Hid (x.ownsRow 0 3 1 (.slice (some ⟨g1, 0, none⟩) n n) n (ivl (clrA n (kdT zs) P1 0) n)) := hid ho
  have c0 := hw.c0
  have c2 := hw.c2
  have hnb : (n : Int) ≤ 65536 := by omega
  obtain ⟨la, hla⟩ : ∃ la, la = n - 1 := ⟨_, rfl⟩
  have hlai : (n : Int) - 1 = (la : Int) := by omega
  have HLA := hid hla
  clear hw ho hP h0 hl hla
  go_enter Try.func53, Try.ntmps53
  go_wp2_with fail
  go_loopw [16] (fun kk wr => ∃ t : Nat, t ≤ n ∧ kk = .int .i64 (t : Int) ∧ wr.ownsRow 0 3 1 (.slice (some ⟨g1, 0, none⟩) n n) n (ivl (clrA n (kdT zs) P1 t) n) ∧ Mv (fun b => b = g1) x wr) (fun kk _ => n - (intOf kk).toNat)
  case atStart => exact ⟨0, Nat.zero_le _, rfl, HO.out, Mv.refl _ _⟩
  case round =>
    clear HO c0 c2
    obtain ⟨t, ht, rfl, ho, hm⟩ := hrel
    have HO := hid ho
    have HM := hid hm
    have c1 := hm.cell HW.out.c1 HW.out.nw
    have c2 := hm.cell HW.out.c2 HW.out.nw
    clear ho hm
    by_cases hlt : t < n
    · have hti : (t < n) = True := eq_true hlt
      have htb : (t : Int) < (n : Int) := by omega
      have HLT := hid hlt
      have hct := HO.out.cells (g := g1) rfl t _ (ivl_get hlt)
      rw [Addr.add_lit, clrA_at, Nat.zero_add] at hct
      have f1 := HO.out.frozenAt t
      cases hv : P1 t with
      | none =>
        rw [hv] at hct
        have hct' : wr.cell? ⟨g1, t, none⟩ = some (.int .i64 (-1)) := hct
        have HSK := hid (ivl_congr (n := n) fun p _ => clrA_skip (n := n) (K := kdT zs) (a := P1) (t := t) (by rw [hv]) p)
        clear hct hv hlt
        go_wp2_with fail
        go_roundw
        case rel => exact ⟨t + 1, HLT.out, by go_num, by rw [← HSK.out]; exact HO.out, HM.out⟩
        case measure => simp [intOf]; have := HLT.out; omega
      | some i =>
        rw [hv] at hct
        have hct' : wr.cell? ⟨g1, t, none⟩ = some (.int .i64 (i : Int)) := hct
        have hin := HPT.out t i hv
        have hiN : (i < n) = True := eq_true hin
        have hib : (i : Int) < (n : Int) := by omega
        have hi1 : ((i : Int) != -1) = true := by rw [bne_iff_ne]; omega
        have hkc := HM.out.cell (HW.out.kd i hin) HW.out.nk
        by_cases hil : i = la
        · have hie : ((i : Int) != (la : Int)) = false := by rw [hil]; simp
          have hil2 : i = n - 1 := by rw [hil, HLA.out]
          have HSK := hid (ivl_congr (n := n) fun p _ => clrA_skip (n := n) (K := kdT zs) (a := P1) (t := t) (by rw [hv]; simp only; rw [if_neg (by rw [insS_iff]; exact fun h => h.2 hil2)]) p)
          clear hct hv hlt hin hil hil2 hkc
          go_wp2_with fail
          go_roundw
          case rel => exact ⟨t + 1, HLT.out, by go_num, by rw [← HSK.out]; exact HO.out, HM.out⟩
          case measure => simp [intOf]; have := HLT.out; omega
        · have hie : ((i : Int) != (la : Int)) = true := by rw [bne_iff_ne]; omega
          have hil2 : i ≠ n - 1 := by rw [← HLA.out]; exact hil
          cases hK : kdT zs i with
          | false =>
            rw [hK] at hkc
            have HSK := hid (ivl_congr (n := n) fun p _ => clrA_skip (n := n) (K := kdT zs) (a := P1) (t := t) (by rw [hv]; simp only; rw [if_neg (by rw [insS_iff, hK]; simp)]) p)
            clear hct hv hlt hK hin hil hil2
            go_wp2_with fail
            go_roundw
            case rel => exact ⟨t + 1, HLT.out, by go_num, by rw [← HSK.out]; exact HO.out, HM.out⟩
            case measure => simp [intOf]; have := HLT.out; omega
          | true =>
            rw [hK] at hkc
            have HO4 := hid (HO.out.stored t (.int .i64 (-1)))
            have hset := ivl_set (clrA n (kdT zs) P1 t) n t none
            rw [show ov none = -1 from rfl] at hset
            rw [hset, ivl_congr (n := n) fun p _ => clrA_step (n := n) (K := kdT zs) (a := P1) (t := t) none (by rw [hv]; simp only; rw [if_pos (insS_iff.2 ⟨hK, hil2⟩)]) p] at HO4
            have HM4 := hid (mvSet (F := fun b => b = g1) HM.out (g := g1) (q := t) rfl (.int .i64 (-1)))
            clear hct hv hlt hK hin hil hil2 hset HO HM
            go_wp2_with fail
            go_roundw
            case rel => exact ⟨t + 1, HLT.out, by go_num, HO4.out.1, HM4.out⟩
            case measure => simp [intOf]; have := HLT.out; omega
    · have hti : (t < n) = False := eq_false hlt
      obtain rfl : n = t := by omega
      clear hlt
      go_wp2_with fail
      go_end0
      exact ⟨rfl, HO.out, HM.out⟩
set_option maxRecDepth 100000 in
set_option maxHeartbeats 8000000 in
theorem putS_any (x : World) (wb tb tq c kb ko kc g1 n : Nat) (zs : List Int) (fs : List Nat) (hw : WkS x wb tb tq c kb ko kc g1 n zs) (ho : x.ownsRow 0 3 1 (.slice (some ⟨g1, 0, none⟩) n n) n (ivl (clrA n (kdT zs) (pass1 n (cdT zs) (kdT zs) fs).1 n) n))
    (hfs : isFs zs fs) (hck : ckT zs = 0) (hn : n = zs.length) (h2 : 1 < n) (hl : n ≤ 65536) :
    Calls Try.prog 54 #[.pointer (some ⟨wb, 0, none⟩)] x fun e w' => e = .returned (.tuple #[]) ∧ w'.ownsRow 0 3 1 (.slice (some ⟨g1, 0, none⟩) n n) n (nvals (indT zs fs)) ∧ Mv (fun b => b = g1) x w' := by
  have hI := InT.of hck
  have HI := hid hI
  have HN := hid hn
  have HFS := hid hfs
  have HW := hid hw
  have HO := hid ho
  have HBU : Hid (∀ y, Below x.heap.size x y → Calls Try.prog 31 #[.slice (some ⟨tb, tq, none⟩) n c] y (BkP y zs)) := hid fun y hy => by
    have h := buckets_any (fun b => b = tb) y (some ⟨tb, tq, none⟩) c zs ((hw.mv (F := fun b => b = g1) (Mv.of_below hy) fun _ _ h => h).text hI hn rfl) hck (by omega)
    rwa [← hn] at h
  have hw0 := hw.c0
  have HGB : Hid (grT zs n ≤ 65535) := hid (grT_bd (fun i hi => ck_cd hck hi) n (by omega))
  have HWX : Hid (wb < x.heap.size ∧ tb < x.heap.size ∧ kb < x.heap.size) := hid ⟨cell_lt hw.c0, cell_lt (hw.tx 0 (by omega)), cell_lt (hw.kd 0 (by omega))⟩
  have HMB : Hid ((n : Int) ≤ 65536) := hid (by omega)
  have hTx := hI.txt
  rw [← hn] at hTx
  have hSO : SowOk n (cdT zs) (kdT zs) (fun _ _ => True) fs := ⟨hfs.1, fun j => by rw [hfs.2, ← ms_fs, ← hn], List.pairwise_of_forall (fun _ _ _ => trivial)⟩
  have HSC2 := hid (ScanI.scan hTx.scanS (trR.scanS hTx) (left1_ok hTx trR hSO h2))
  have HTS2 := hid hTx.scanS
  have HIND := hid (indF_ok hTx trR hSO h2)
  have HINE : Hid (indT zs fs = indF n (cdT zs) (kdT zs) fs) := hid (by unfold indT; rw [← hn, if_neg (by omega)])
  have HLF : Hid (∀ p, p < n → left1 n (cdT zs) (kdT zs) fs (n - 1 - p) = clrA n (kdT zs) (pass1 n (cdT zs) (kdT zs) fs).1 n p) := hid fun p hp => by
    unfold left1 clrA
    rw [if_pos (by omega), if_pos hp, show n - 1 - (n - 1 - p) = p by omega]
    cases (pass1 n (cdT zs) (kdT zs) fs).1 p <;> rfl
  have HP2 : Hid (pass2 n (cdT zs) (kdT zs) fs = scan (cdT zs) (insS n (kdT zs)) (stS n (cdT zs)) (left1 n (cdT zs) (kdT zs) fs) n) := hid rfl
  obtain ⟨a1, ha1⟩ : ∃ a1, a1 = left1 n (cdT zs) (kdT zs) fs := ⟨_, rfl⟩
  rw [← ha1] at HSC2 HLF HP2
  clear hw ho hfs hck hI hn h2 hTx hSO ha1
  refine (callsIn_wide (n := 6)).1 ?_
  refine callsIn_of_wp_marks Try.func54 rfl trivial ?_ rfl
  simp only [Try.ntmps54, List.size_toArray, List.length_cons, List.length_nil, Nat.reduceAdd, Nat.reduceSub, Array.replicate_succ, Array.replicate_zero, List.push_toArray, List.append_toArray, List.nil_append, List.cons_append]
  refine wpIn_wide.2 ?_
  go_wp2_with fail
  go_step3
  have hb0 := allocBelow x (.cells #[.pointer (some ⟨wb, 0, none⟩)] 87)
  have k0 := (hb0.cell (cell_lt hw0)).trans hw0
  have HBK := hid (HBU.out _ hb0)
  have HB0 := hid hb0
  clear hw0 hb0 HBU
  go_wp2_with fail
  refine HBK.out.mono ?_
  clear HBK
  rintro e w2 ⟨gh, g3, rfl, hne, hr1, hr2, hb⟩
  rw [← HN.out] at hr1 hr2 ⊢
  obtain ⟨G, hG⟩ : ∃ G, G = grT zs n + 1 := ⟨_, rfl⟩
  rw [← hG] at hr1 hr2 ⊢
  have HG := hid hG
  have HB2 : Hid (Below x.heap.size x w2) := hid (HB0.out.trans (hb.mono HB0.out.size))
  have hbw : w2.cell? ⟨x.heap.size, 0, none⟩ = some (.pointer (some ⟨wb, 0, none⟩)) := (hb.cell (p := ⟨x.heap.size, 0, none⟩) (by simp)).trans (by simp)
  obtain ⟨bw, hbwe⟩ : ∃ bw, bw = x.heap.size := ⟨_, rfl⟩
  have HBW := hid hbwe
  rw [← hbwe] at hbw ⊢
  obtain ⟨w3, hw3⟩ : ∃ w3, w3 = w2.alloc (.cells #[.slice (some ⟨g3, 0, none⟩) G G] 22) := ⟨_, rfl⟩
  obtain ⟨bE, hbE⟩ : ∃ bE, bE = w2.heap.size := ⟨_, rfl⟩
  obtain ⟨w4, hw4⟩ : ∃ w4, w4 = w3.alloc (.cells #[.slice (some ⟨g1, 0, none⟩) n n] 22) := ⟨_, rfl⟩
  obtain ⟨bL, hbL⟩ : ∃ bL, bL = w3.heap.size := ⟨_, rfl⟩
  have HFL : Hid (Calls Try.prog 71 #[.slice (some ⟨g1, 0, none⟩) n n] w3 fun e w' => e = .returned (.func (.func 81) #[] #[.pointer (some ⟨bL, 0, none⟩)]) ∧ w' = w4) := hid (by rw [hw4, hbL]; exact fromLast_any (some ⟨g1, 0, none⟩) n n w3)
  have hb23 : Below w2.heap.size w2 w3 := by rw [hw3]; exact allocBelow _ _
  have hb34 : Below w3.heap.size w3 w4 := by rw [hw4]; exact allocBelow _ _
  have hb24 : Below w2.heap.size w2 w4 := hb23.trans (hb34.mono hb23.size)
  have HB4 : Hid (Below x.heap.size x w4) := hid (HB2.out.trans (hb24.mono HB2.out.size))
  have HSZ : Hid (x.heap.size ≤ g3 ∧ g3 < w2.heap.size ∧ w2.heap.size ≤ w4.heap.size) := hid ⟨by have := rowBase hr2; simp at this; omega, rowSlot hr2, hb24.size⟩
  have HCW : Hid (w4.cell? ⟨bw, 0, none⟩ = some (.pointer (some ⟨wb, 0, none⟩))) := hid ((hb24.cell (cell_lt hbw)).trans hbw)
  have HC2 := (HB2.out.cell (cell_lt HW.out.c2)).trans HW.out.c2
  have hcB := (hb23.cell (cell_lt hbw)).trans hbw
  have hcE : w3.cell? ⟨bE, 0, none⟩ = some (.slice (some ⟨g3, 0, none⟩) G G) := by rw [hw3, hbE, cell_of_row _ _ _ _ _ _ (heap_alloc_new w2 _)]; rfl
  have HCE : Hid (w4.cell? ⟨bE, 0, none⟩ = some (.slice (some ⟨g3, 0, none⟩) G G)) := hid ((hb34.cell (cell_lt hcE)).trans hcE)
  have HCL : Hid (w4.cell? ⟨bL, 0, none⟩ = some (.slice (some ⟨g1, 0, none⟩) n n)) := hid (by rw [hw4, hbL, cell_of_row _ _ _ _ _ _ (heap_alloc_new w3 _)]; rfl)
  have HNE : Hid (g1 < x.heap.size ∧ bw ≠ g3 ∧ bE ≠ g3 ∧ bL ≠ g3 ∧ x.heap.size ≤ bw ∧ x.heap.size ≤ bE ∧ x.heap.size ≤ bL) := hid (by
    have h1 := rowSlot HO.out
    have h2 := rowBase hr2
    have h3 := rowSlot hr2
    have h4 := HB2.out.size
    have h5 := hb23.size
    simp at h2
    have h6 : w3.heap.size = w2.heap.size + 1 := by rw [hw3]; simp
    omega)
  have HST : Hid (OrdE 3 w4 w4 g1 g3 n G (fun p => (scan (cdT zs) (insS n (kdT zs)) (stS n (cdT zs)) a1 0).1 (n - 1 - p)) (fun s => hdC n (cdT zs) (s + 1) - (scan (cdT zs) (insS n (kdT zs)) (stS n (cdT zs)) a1 0).2 s)) := hid (by
    refine ⟨?_, own_weaken (owns_mv (F := fun _ => False) hr2 (Mv.of_below hb24) fun _ _ => id) (Nat.zero_le _), Mv.refl _ _⟩
    rw [ivl_congr (n := n) (a := (fun p => (scan (cdT zs) (insS n (kdT zs)) (stS n (cdT zs)) a1 0).1 (n - 1 - p))) (b := clrA n (kdT zs) (pass1 n (cdT zs) (kdT zs) fs).1 n) fun p hp => HLF.out p hp]
    exact owns_mv (F := fun _ => False) HO.out (Mv.of_below HB4.out) fun _ _ => id)
  have HWK := hid (HW.out.mv (F := fun b => b = g1) (Mv.of_below HB4.out) fun _ _ h => h)
  have k22 := (hb23.cell (cell_lt HC2)).trans HC2
  have HW3 := hid hw3
  have HBE := hid hbE
  clear hr1 hr2 hb hbw hbwe hw3 hbE hw4 hbL hb23 hb34 hb24 hcE hG HB0 HB2 k0 HO HC2 HLF
  rw [HW3.out] at k22 hcB
  clear HW
  go_wp2_with fail
  go_step3
  go_wp2_with fail
  rw [← HW3.out, ← HBE.out]
  clear k22 hcB
  refine HFL.out.mono ?_
  clear HFL
  rintro e w5 ⟨rfl, rfl⟩
  go_wp2_with fail
  refine (wpIn_wide (n := 6)).1 ?_
  refine range_rounds (n := 6) rfl (by omega) (gf := 81) (lb := #[.pointer (some ⟨bL, 0, none⟩)]) rfl trivial (enters_of Try.func81 (by kernel_rfl) rfl)
    (last_rounds 5 (by omega) bL g1 0 n n (fun k => (ov ((scan (cdT zs) (insS n (kdT zs)) (stS n (cdT zs)) a1 k).1 k))) HMB.out w5) (fun _ => rfl)
    (fun k W => OrdE 3 w5 W g1 g3 n G (fun p => (scan (cdT zs) (insS n (kdT zs)) (stS n (cdT zs)) a1 k).1 (n - 1 - p)) (fun s => hdC n (cdT zs) (s + 1) - (scan (cdT zs) (insS n (kdT zs)) (stS n (cdT zs)) a1 k).2 s))
    (ordE_from (fun k => (fun p => (scan (cdT zs) (insS n (kdT zs)) (stS n (cdT zs)) a1 k).1 (n - 1 - p))) (fun k => (fun s => hdC n (cdT zs) (s + 1) - (scan (cdT zs) (insS n (kdT zs)) (stS n (cdT zs)) a1 k).2 s)) (by have := HNE.out; have := HSZ.out; omega) (by have := HSZ.out; omega))
    (fun k V h => ⟨h.mv.cell HCL.out (by have := HNE.out; simp only; omega), fun hk => by
      have h1 := h.cellO (p := n - 1 - k) (by omega)
      rw [show n - 1 - (n - 1 - k) = k by omega] at h1
      rw [Nat.zero_add]
      exact h1⟩)
    HST.out
    (fun k => { tmps := #[.pointer (some ⟨wb, 0, none⟩), .pointer (some ⟨bw, 0, none⟩), .slice (some ⟨gh, 0, none⟩) G G, .pointer (some ⟨bE, 0, none⟩), .int .i64 (ov ((scan (cdT zs) (insS n (kdT zs)) (stS n (cdT zs)) a1 k).1 k)), .tuple #[.slice (some ⟨gh, 0, none⟩) G G, .slice (some ⟨g3, 0, none⟩) G G], .pointer (some ⟨wb, 0, none⟩), .pointer (some ⟨wb, 0, none⟩), .pointer (some ⟨wb, 0, none⟩), .slice (some ⟨tb, tq, none⟩) n c, .tuple #[.slice (some ⟨gh, 0, none⟩) G G, .slice (some ⟨g3, 0, none⟩) G G], .slice (some ⟨gh, 0, none⟩) G G, .slice (some ⟨g3, 0, none⟩) G G, .pointer (some ⟨wb, 0, none⟩), .pointer (some ⟨wb, 0, none⟩), .pointer (some ⟨wb, 2, none⟩), .slice (some ⟨g1, 0, none⟩) n n, .func (.func 81) #[] #[.pointer (some ⟨bL, 0, none⟩)], .int .i64 (ov ((scan (cdT zs) (insS n (kdT zs)) (stS n (cdT zs)) a1 k).1 k)), undef, undef, undef, undef, undef, undef, undef, undef, undef, undef, undef, undef, undef, undef, undef, undef, undef, undef], defers := [] }) ?assign ?body ?done
  case assign =>
    intro l k W K hK
    gi_wp2
    simpa using hK
  case body =>
    intro l k W hkm hI
    have hsc := HSC2.out k
    obtain ⟨A, hA⟩ : ∃ A, A = (scan (cdT zs) (insS n (kdT zs)) (stS n (cdT zs)) a1 k).1 := ⟨_, rfl⟩
    obtain ⟨Q, hQ⟩ : ∃ Q, Q = (scan (cdT zs) (insS n (kdT zs)) (stS n (cdT zs)) a1 k).2 := ⟨_, rfl⟩
    have HA := hid hA
    have HQ := hid hQ
    rw [← hA, ← hQ] at hI
    rw [← hA, ← hQ] at hsc
    rw [← hA]
    have HI := hid hI
    have hne := HNE.out
    have hsz := HSZ.out
    have hwx := HWX.out
    have cw := hI.mv.cell HCW.out (by simp only; omega)
    have c1 := hI.mv.cell HWK.out.c1 (by have := HWK.out.nw; simp only; omega)
    have HSC9 := hid hsc
    have HSKIP : Hid (scan (cdT zs) (insS n (kdT zs)) (stS n (cdT zs)) a1 (k + 1) = scan (cdT zs) (insS n (kdT zs)) (stS n (cdT zs)) a1 k → OrdE 3 w5 W g1 g3 n G (fun p => (scan (cdT zs) (insS n (kdT zs)) (stS n (cdT zs)) a1 (k + 1)).1 (n - 1 - p)) (fun s => hdC n (cdT zs) (s + 1) - (scan (cdT zs) (insS n (kdT zs)) (stS n (cdT zs)) a1 (k + 1)).2 s)) := hid fun e => by
      rw [e, ← hA, ← hQ]; exact hI
    have HKK := hid hkm
    clear hA hQ hsc hne hsz hwx hI
    cases hv : A k with
    | none =>
      have HSK := hid (HSKIP.out (scan_none (by rw [← HA.out]; exact hv)))
      simp only [ov]
      clear hv HSC9 HSKIP hkm c1 cw
      gi_wp2
      exact ⟨⟨Nat.le_refl _, fun _ _ h _ => h⟩, HSK.out⟩
    | some i =>
      cases i with
      | zero =>
        have HSK := hid (HSKIP.out (scan_skip (i := 0) (by rw [← HA.out]; exact hv) (by omega)))
        rw [show ov (some 0) = 0 from rfl]
        clear hv HSC9 HSKIP hkm c1 cw
        gi_wp2
        exact ⟨⟨Nat.le_refl _, fun _ _ h _ => h⟩, HSK.out⟩
      | succ j =>
        obtain ⟨h, hh⟩ : ∃ h : Nat, h = j + 1 := ⟨_, rfl⟩
        rw [show ov (some (j + 1)) = (h : Int) from by rw [hh]; rfl]
        have hj1 : (h : Int) - 1 = (j : Int) := by omega
        have hh0 : decide ((h : Int) ≤ 0) = false := decide_eq_false (by omega)
        have hjn1 : j + 1 < n := (HSC9.out.at_ hv).1
        have hjn : j < n := by omega
        have hjN : (j < n) = True := eq_true hjn
        have hjb : (j : Int) < (n : Int) := by omega
        have hkc := HI.out.mv.cell (HWK.out.kd j hjn) (by have := HWK.out.nk; have := HNE.out; have := HSZ.out; have := HWX.out; simp only; omega)
        have hnb := HMB.out
        cases hK : kdT zs j with
        | false =>
          rw [hK] at hkc
          have HSK := hid (HSKIP.out (scan_skip (i := j + 1) (by rw [← HA.out]; exact hv) (by rw [Nat.add_sub_cancel, insS_iff, hK]; simp)))
          clear hv HSC9 HSKIP hkm hjn hjn1 hK hh
          gi_wp2
          exact ⟨⟨Nat.le_refl _, fun _ _ h _ => h⟩, HSK.out⟩
        | true =>
          rw [hK] at hkc
          have hins : insS n (kdT zs) j = true := insS_iff.2 ⟨hK, by omega⟩
          have hput := scan_put (c := cdT zs) (ins := insS n (kdT zs)) (st := stS n (cdT zs)) (a0 := a1) (k := k) (by rw [← HA.out]; exact hv) hins
          obtain ⟨-, -, hf1, hf2, -, -⟩ := HSC9.out.free HTS2.out hv hins
          have hne := HNE.out
          have hsz := HSZ.out
          have hwx := HWX.out
          have c0 := HI.out.mv.cell HWK.out.c0 (by have := HWK.out.nw; simp only; omega)
          have c2 := HI.out.mv.cell HWK.out.c2 (by have := HWK.out.nw; simp only; omega)
          have ct := HI.out.mv.cell (HWK.out.tx j hjn) (by have := HWK.out.nt; simp only; omega)
          have cE := HI.out.mv.cell HCE.out (by simp only; omega)
          have hg := grT_le zs n j hjn
          have hhd := hdC_succ n (cdT zs) (cdT zs j)
          have hhl := hdC_le n (cdT zs) (cdT zs j + 1)
          obtain ⟨s, hs⟩ : ∃ s, s = cdT zs j := ⟨_, rfl⟩
          rw [← hs] at hf1 hf2 hg hhd hhl ct
          have hst : stS n (cdT zs) s = n - hdC n (cdT zs) (s + 1) := rfl
          obtain ⟨e, he⟩ : ∃ e, e = hdC n (cdT zs) (s + 1) - 1 - Q s := ⟨_, rfl⟩
          have hsG : s < G := by have := HG.out; omega
          have hen : e < n := by omega
          have hcp := HI.out.cellP hsG
          rw [show hdC n (cdT zs) (s + 1) - Q s = e + 1 by omega] at hcp
          have hco := HI.out.cellO hen
          have f3 := HI.out.put.frozenAt s
          have f1 := HI.out.ord.frozenAt e
          have hgb : grT zs n ≤ 65535 := HGB.out
          have hpb := putBehind_any W wb tb tq c g1 g3 n G j s e _ c0 c2 ct hcp f3 hco f1 hjn hsG hen hl (by have := HG.out; omega) (by omega) (by omega)
          have hset := ((HI.out.setP (by omega) s e).setO (by omega) e (some j)).drew
          have HSET : Hid (OrdE 3 w5 ((W.setCell ⟨g3, s, none⟩ (.int .i64 (e : Int))).setCell ⟨g1, e, none⟩ (.int .i64 (j : Int))).drew g1 g3 n G (fun p => (scan (cdT zs) (insS n (kdT zs)) (stS n (cdT zs)) a1 (k + 1)).1 (n - 1 - p)) (fun s => hdC n (cdT zs) (s + 1) - (scan (cdT zs) (insS n (kdT zs)) (stS n (cdT zs)) a1 (k + 1)).2 s)) := hid (by
            rw [hput]
            refine hset.congr (fun p hp => ?_) fun t _ => ?_
            · show updF (fun p => A (n - 1 - p)) e (some j) p = updF (scan (cdT zs) (insS n (kdT zs)) (stS n (cdT zs)) a1 k).1 (stS n (cdT zs) (cdT zs j) + (scan (cdT zs) (insS n (kdT zs)) (stS n (cdT zs)) a1 k).2 (cdT zs j)) (some j) (n - 1 - p)
              rw [← HA.out, ← HQ.out, ← hs]
              by_cases h : p = e
              · rw [h, updF_at, show n - 1 - e = stS n (cdT zs) s + Q s by omega, updF_at]
              · rw [updF_ne _ _ h, updF_ne _ _ (by omega)]
            · show updF (fun s => hdC n (cdT zs) (s + 1) - Q s) s e t = hdC n (cdT zs) (t + 1) - updF (scan (cdT zs) (insS n (kdT zs)) (stS n (cdT zs)) a1 k).2 (cdT zs j) ((scan (cdT zs) (insS n (kdT zs)) (stS n (cdT zs)) a1 k).2 (cdT zs j) + 1) t
              rw [← HQ.out, ← hs]
              by_cases h : t = s
              · subst h; rw [updF_at, updF_at, he]; omega
              · rw [updF_ne _ _ h, updF_ne _ _ h])
          have HKO : Hid (KeepsOthers W ((W.setCell ⟨g3, s, none⟩ (.int .i64 (e : Int))).setCell ⟨g1, e, none⟩ (.int .i64 (j : Int))).drew) := hid (((KeepsOthers.setCell _ _ _).trans (KeepsOthers.setCell _ _ _)).trans ⟨Nat.le_refl _, fun _ _ h _ => h⟩)
          have HPB := hid ((callsIn_wide (n := 3)).2 hpb)
          clear hkm hf1 hf2 hg hhd hhl hst hne hsz hwx c0 c2 ct hs he hsG hen hcp hco f3 f1 hgb hpb hset hput hins hK hv HSC9 HSKIP hjn hjn1 hh
          gi_wp2
          refine ⟨trivial, CallsIn.mono (F := Fence.wide.inRound l) HPB.out ?_⟩
          clear HPB
          rintro r w6 ⟨rfl, rfl⟩
          gi_wp2
          exact ⟨HKO.out, HSET.out⟩
  case done =>
    intro D W hD hI hK
    have hmx : Mv (fun b => b = g1) x W := (Mv.of_below HB4.out).trans' hI.mv fun i hi h => by
      have := HSZ.out
      omega
    have hord := hI.ord
    have heq : ivl (fun p => (scan (cdT zs) (insS n (kdT zs)) (stS n (cdT zs)) a1 n).1 (n - 1 - p)) n = nvals (indT zs fs) := by
      obtain ⟨h1, -, -, -, h2⟩ := HIND.out
      rw [HP2.out] at h2
      rw [HINE.out]
      apply List.ext_getElem?
      intro r
      by_cases hr : r < n
      · rw [ivl_get hr, nvals_get (by rw [h1]; exact hr)]
        have h3 := h2 (n - 1 - r) (by omega)
        rw [show n - 1 - (n - 1 - r) = r by omega] at h3
        rw [h3]; rfl
      · rw [List.getElem?_eq_none (by rw [ivl_len]; omega), List.getElem?_eq_none (by rw [nvals_len, h1]; omega)]
    rw [heq] at hord
    have HFIN : Hid ((W.putObj D (.deferred none)).ownsRow 0 3 1 (.slice (some ⟨g1, 0, none⟩) n n) n (nvals (indT zs fs)) ∧ Mv (fun b => b = g1) x (W.putObj D (.deferred none))) := hid ⟨ownsRow_putObj hord (.deferred none) hK rfl, hmx.trans' (F' := fun b => x.heap.size ≤ b) (Mv.of_grown (grownBy_putObj' W D _) fun g e _ => by cases e; have := HB4.out.size; omega) fun i hi h => absurd h (by omega)⟩
    clear hI hmx hord heq
    go_wp2_with fail
    refine ⟨by simp, .inl ⟨_, _, rfl, run_takeDeferred hK, ?_⟩⟩
    exact ⟨_, results_none rfl _ _ _, rfl, HFIN.out.1, HFIN.out.2⟩
end Go.Proofs.Ytdobjlaggdnphaa
