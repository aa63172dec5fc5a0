/- CONTRACTS (suffix, as it landed): Sort. -/
import Derived.Test.YtclpoconppmapaaSuY
import Derived.Deep.LoopGhost
namespace Go.Proofs.Ytclpoconppmapaa
open Go.RowKit Go.Inc
/-- What lies in memory between two rounds: the order, the ranks in a box, the width in a box. -/
structure SoS (x wr : World) (g b1 bw n w : Nat) (l : List Nat) (R : List Int) : Prop where
  row : wr.heap[g]? = some (.cells (nvals l).toArray 3 (0, 0))
  box : ∃ rb ro c, wr.heap[b1]? = some (.cells #[.slice (some ⟨rb, ro, none⟩) n c] 22 (0, 0)) ∧ rb ≠ g ∧ ∀ i, i < n → wr.cell? ⟨rb, ro + i, none⟩ = some (.int .i64 (R.getD i 0))
  wid : wr.heap[bw]? = some (.cells #[.int .i64 (w : Int)] 3 (0, 0))
  d1 : b1 ≠ g
  d2 : bw ≠ g
  d3 : bw ≠ b1
  base : x.heap.size ≤ g ∧ x.heap.size ≤ b1 ∧ x.heap.size ≤ bw
  below : Below x.heap.size x wr
/-- Between two rounds: the order, how many unlike ranks there are, what they tell. -/
def SoI (x : World) (g b1 n : Nat) (zs : List Int) (gk : Nat) (uv bv : Value) (wr : World) : Prop := ∃ (u w bw : Nat) (l : List Nat) (R : List Int), uv = .int .i64 (u : Int) ∧ bv = .pointer (some ⟨bw, 0, none⟩) ∧ SoS x wr g b1 bw n w l R ∧ l.length = n ∧ l.Nodup ∧ (∀ a, a ∈ l ↔ a < n) ∧ u ≤ n ∧ (u = n → l = srT zs n) ∧ (u < n → RkOk zs w R ∧ 0 < w ∧ w ≤ n ∧ n + 1 ≤ gk + w)
theorem SoS.cmp {x wr : World} {g b1 bw n w : Nat} {l : List Nat} {R : List Int} (h : SoS x wr g b1 bw n w l R) {zs : List Int} (hn : n = zs.length) (hnn : n ≤ 65536) (hr : RtL zs) (hk : RkOk zs w R) (hw : w ≤ n) {y : World} (hy : Mv (fun b => b = g) wr y) {a b : Nat} (ha : a < n) (hb : b < n) :
    Calls Try.prog 34 #[.int .i64 (a : Int), .int .i64 (b : Int), .pointer (some ⟨b1, 0, none⟩), .pointer (some ⟨bw, 0, none⟩)] y fun e w' => e = .returned (.int .i64 (cfS R w a b)) ∧ ∃ q, w' = y.drewN q := by
  obtain ⟨rb, ro, c, h1, h2, h3⟩ := h.box
  refine scmp_any y b1 bw rb ro n c w R a b (by omega) (by omega) ha hb ?_ ?_ (fun i hi => hy.cell (h3 i hi) h2) (fun e hab => ?_)
  · rw [cell_of_row y b1 _ _ _ _ (hy.row h1 h.d1)]; rfl
  · rw [cell_of_row y bw _ _ _ _ (hy.row h.wid h.d2)]; rfl
  · have := hk.in hr (by omega) (by omega) e hab
    omega
theorem siN_of_heap {w : World} {g : Nat} {E : TypeId} {l : List Nat} (h : w.heap[g]? = some (.cells (nvals l).toArray E (0, 0))) : Si (fun _ => True) w (some ⟨g, 0, none⟩) (zsN l) :=
  .inr ⟨g, 0, rfl, trivial, fun i hi => by
    rw [zsN_len] at hi
    rw [Nat.zero_add, cell_of_row w g _ _ _ _ h, List.getElem?_toArray, nvals_get hi, zsN_get]⟩
theorem ownN_of_heap {w : World} {B g n : Nat} {E : TypeId} {l : List Nat} (h : w.heap[g]? = some (.cells (nvals l).toArray E (0, 0))) (hl : l.length = n) (hn : n ≤ 65536) (hb : B ≤ g) :
    w.ownsRow B E 1 (.slice (some ⟨g, 0, none⟩) n n) n (nvals l) :=
  ⟨by rw [nvals_len, hl, Nat.mul_one], .inr ⟨g, n, _, rfl, hb, h, Nat.le_refl _, by unfold maxLen; omega, by simp [nvals_len, hl], by rw [Nat.mul_one]; exact List.take_of_length_le (by simp [nvals_len, hl])⟩⟩
theorem heap_of_ownN {w : World} {B g n : Nat} {E : TypeId} {l : List Nat} (h : w.ownsRow B E 1 (.slice (some ⟨g, 0, none⟩) n n) n (nvals l)) : w.heap[g]? = some (.cells (nvals l).toArray E (0, 0)) := by
  rcases h.2 with ⟨h0, _⟩ | ⟨g', cap, cur, hv, hb, hg, hnc, hm, hcs, ht⟩
  · cases h0
  · simp only [Value.slice.injEq, Option.some.injEq, Addr.mk.injEq, and_true, true_and] at hv
    obtain ⟨rfl, rfl⟩ := hv
    rw [hg, ← ht]
    rw [List.take_of_length_le (by simp; simp at hcs; omega)]
/-- The numbers in their order, as far as they are laid. -/
def IdS (n t : Nat) (l : List Nat) : Prop := l.length = n ∧ ∀ k, k < t → l.getD k 0 = k
theorem IdS.step {n t : Nat} {l : List Nat} (h : IdS n t l) (ht : t < n) : IdS n (t + 1) (l.set t t) := by
  refine ⟨by rw [List.length_set]; exact h.1, fun k hk => ?_⟩
  rw [setN_at (by rw [h.1]; exact ht)]
  by_cases e : k = t
  · rw [if_pos e, e]
  · rw [if_neg e]; exact h.2 k (by omega)
theorem IdS.done {n : Nat} {l : List Nat} (h : IdS n n l) : l.Nodup ∧ ∀ a, a ∈ l ↔ a < n := by
  have e : l = List.range n := by
    apply List.ext_getElem (by rw [h.1, List.length_range])
    intro i h1 h2
    have := h.2 i (by rw [← h.1]; exact h1)
    rw [List.getD_eq_getElem?_getD, List.getElem?_eq_getElem h1] at this
    rw [List.getElem_range]
    exact this
  subst e
  exact ⟨List.nodup_range, fun a => List.mem_range⟩
set_option maxRecDepth 20000 in
set_option maxHeartbeats 1500000 in
theorem suSortE (ok : Nat → Prop) (w : World) (v : Value) (zs : List Int) (hs : So ok w v zs) (hl : zs.length ≤ 65536) (hz : ∀ z ∈ zs, i64s z) (hk : ckT zs ≠ 0) :
    Calls Try.prog 13 #[v] w fun e w' => ∃ u, e = .returned (.tuple #[u, .int .i64 ((ckT zs : Nat) : Int)]) ∧ Below w.heap.size w w' := by
  have HC := hid (check_any ok w v zs hs hl hz)
  obtain ⟨k, hkk⟩ : ∃ k, k = ckT zs := ⟨_, rfl⟩
  rw [← hkk] at HC hk ⊢
  have hk0 : ((k : Int) != 0) = true := by rw [bne_iff_ne]; omega
  clear hs hl hz hk hkk
  go_enter Try.func13, Try.ntmps13
  go_wp2_with fail
  refine HC.out.mono ?_
  rintro e w' ⟨rfl, rfl⟩
  go_wp2_with fail
  go_ret2
  exact ⟨_, rfl, Below.refl _ _⟩
set_option maxRecDepth 20000 in
set_option maxHeartbeats 2000000 in
theorem suSort (ok : Nat → Prop) (x : World) (v : Value) (zs : List Int) (hs : So ok x v zs) (hl : zs.length ≤ 65536) (hk : ckT zs = 0) :
    Calls Try.prog 13 #[v] x (NewS x (zsN (srT zs zs.length))) := by
  have HC := hid (check_any ok x v zs hs hl (ckT_i64 hk))
  rw [hk] at HC
  obtain ⟨a, c, rfl, hsi, hlc, hcm, -⟩ := hs
  have hr := (ckT_zero hk).2.2
  have h0 := hr.1
  have HRT := hid hr
  obtain ⟨pb, po, rfl⟩ : ∃ pb po, a = some (⟨pb, po, none⟩ : Addr) := by
    rcases hsi with h | ⟨b', o', h, -, -⟩
    · rw [h] at h0; simp at h0
    · exact ⟨_, _, h⟩
  have HCL := hid (fun (y : World) (hy : Below x.heap.size x y) => cloneZ_any ok y ⟨pb, po, none⟩ zs.length c zs (hsi.below hy) rfl hl)
  obtain ⟨n, hn⟩ : ∃ n, n = zs.length := ⟨_, rfl⟩
  have HN := hid hn
  rw [← hn] at HC HCL hl h0 ⊢
  have hni : (n : Int) ≤ 65536 := by omega
  obtain ⟨i0, hi, hz0, hz1, hz2⟩ := info_parts infoIntS
  have HI := hid (And.intro hi (And.intro hz0 (And.intro hz1 hz2)))
  clear hsi hlc hcm hk hr hn hi hz0 hz1 hz2
  go_enter Try.func13, Try.ntmps13
  go_wp2_with fail
  refine HC.out.mono ?_
  rintro e w' ⟨rfl, rfl⟩
  clear HC
  go_wp2_with (refine wpList_make_full _ rfl _ _ 22 rfl x.heap.size 3 i0 (.int .i64 0) 1 Try.underlying22 HI.out.1 HI.out.2.1 HI.out.2.2.1 .i64 .i64 _ _ n rfl rfl rfl rfl (by rw [HI.out.2.2.2]; omega) (by unfold maxLen; omega) (Nat.le_refl _) ?_)
  intro w1 hown hg
  obtain ⟨g, hgg⟩ : ∃ g, g = x.heap.size := ⟨_, rfl⟩
  have HG := hid hgg
  have HBX : Hid (Below x.heap.size x w1) := hid ⟨hg.os, hg.tape, hg.output, hg.size, fun i hi => hg.block i hi (by simp)⟩
  have HRW : Hid (w1.ownsRow x.heap.size 3 1 (.slice (some ⟨x.heap.size, 0, none⟩) n n) n (nvals (List.replicate n 0))) := hid (by rw [nvals_zerosU n] at hown; exact hown)
  rw [← hgg] at HRW ⊢
  clear hown hg HI hgg
  go_wp2_with fail
  go_loopw [21] (fun i wr => ∃ (t : Nat) (l : List Nat), t ≤ n ∧ i = .int .i64 (t : Int) ∧ IdS n t l ∧ wr.ownsRow g 3 1 (.slice (some ⟨g, 0, none⟩) n n) n (nvals l) ∧ Below x.heap.size x wr) (fun i _ => n - (intOf i).toNat)
  case atStart => exact ⟨0, _, Nat.zero_le _, rfl, ⟨List.length_replicate, fun k h => by omega⟩, HRW.out, HBX.out⟩
  case round =>
    clear HRW HBX
    obtain ⟨t, l, ht, rfl, hid', hr, hb⟩ := hrel
    have HR := hid hr
    have HB := hid hb
    have HID := hid hid'
    clear hr hb
    by_cases hlt : t < n
    · have hti : (t < n) = True := eq_true hlt
      have HLTN := hid hlt
      have HNEW : Hid ((wr.setCell ⟨g, t, none⟩ (.int .i64 (t : Int))).ownsRow g 3 1 (.slice (some ⟨g, 0, none⟩) n n) n (nvals (l.set t t)) ∧ Below x.heap.size x (wr.setCell ⟨g, t, none⟩ (.int .i64 (t : Int)))) := hid (by
        have h1 := HR.out.stored t (.int .i64 (t : Int))
        rw [nvals_setU] at h1
        exact ⟨h1.1, below_grown HB.out h1.2 (by rw [HG.out]; exact Nat.le_refl _) HB.out.size⟩)
      have j3 : wr.cell? ⟨g, t, none⟩ = some (.int .i64 ((l.getD t 0 : Nat) : Int)) := by
        have h1 := HR.out.cells (g := g) rfl t _ (nvals_get (by rw [HID.out.1]; exact hlt))
        rw [Addr.add_lit] at h1
        simpa using h1
      have jf := HR.out.frozenAt t
      have HST := hid (hid'.step hlt)
      generalize l.getD t 0 = old at *
      clear hlt hid' HR HB HID
      go_wp2_with fail
      go_roundw
      case rel => exact ⟨t + 1, _, HLTN.out, by go_num, HST.out, HNEW.out.1, HNEW.out.2⟩
      case measure => simp [intOf]; have := HLTN.out; omega
    · have hti : (t < n) = False := eq_false hlt
      obtain rfl : t = n := by omega
      have HDN := hid hid'.done
      have HLN := hid hid'.1
      have HCL1 := hid (HCL.out wr HB.out)
      clear hlt hid' HID HCL
      go_wp2_with fail
      refine HCL1.out.mono ?_
      rintro e w2 ⟨u, rfl, hu, hb2⟩
      obtain ⟨ua, uc, rfl, hus, -⟩ := hu
      rw [← HN.out]
      have HU := hid hus
      have HGL : Hid (g < wr.heap.size) := hid (Array.getElem?_eq_some_iff.1 (heap_of_ownN HR.out)).1
      have HB2 := hid (HB.out.trans (hb2.mono HB.out.size))
      have HR2 := hid (owns_mv (F := fun _ => False) HR.out (Mv.of_below hb2) (fun _ _ => id))
      have HSZ := hid hb2.size
      clear HCL1 hus hb2 HR HB ht hti
      go_wp2_with fail
      obtain ⟨w3, hw3⟩ : ∃ w3, w3 = (w2.alloc (.cells #[.slice ua t uc] 22)).alloc (.cells #[.int .i64 1] 3) := ⟨_, rfl⟩
      obtain ⟨b1, hb1⟩ : ∃ b1, b1 = w2.heap.size := ⟨_, rfl⟩
      rw [← hw3, ← hb1]
      obtain ⟨bw0, hbw0⟩ : ∃ bw0, bw0 = b1 + 1 := ⟨_, rfl⟩
      rw [← hbw0]
      have HW3 := hid hw3
      have HB1 := hid hb1
      have HBW := hid hbw0
      have HB23 : Hid (Below w2.heap.size w2 w3) := hid (by rw [hw3]; exact (allocU w2 _).alloc (by simp) _)
      have HSTART : Hid (SoI x g b1 t zs t (.int .i64 0) (.pointer (some ⟨bw0, 0, none⟩)) w3) := hid (by
        have e1 : w3.heap[b1]? = some (.cells #[.slice ua t uc] 22 (0, 0)) := by
          rw [hw3, hb1]
          exact row_below (heap_alloc_new w2 _) (allocU _ _)
        have e2 : w3.heap[bw0]? = some (.cells #[.int .i64 1] 3 (0, 0)) := by
          rw [hw3, hbw0, hb1]
          have := heap_alloc_new (w2.alloc (.cells #[.slice ua t uc] 22)) (.cells #[.int .i64 1] 3)
          simpa using this
        obtain ⟨rb, ro, hua, hrb, hc⟩ : ∃ rb ro, ua = some ⟨rb, ro, none⟩ ∧ wr.heap.size ≤ rb ∧ ∀ i, i < t → w2.cell? ⟨rb, ro + i, none⟩ = some (.int .i64 (zs.getD i 0)) := by
          rcases HU.out with h | ⟨b, o, h, h2, hc⟩
          · have := HN.out; rw [h] at this; simp at this; omega
          · exact ⟨b, o, h, h2, fun i hi => hc i (by rw [← HN.out]; exact hi)⟩
        subst hua
        have hgl := HGL.out
        have hsz := HSZ.out
        refine ⟨0, 1, bw0, l, zs, rfl, rfl, ⟨row_below (heap_of_ownN HR2.out) HB23.out, ⟨rb, ro, uc, e1, by omega, fun i hi => ?_⟩, e2, by omega, by omega, by omega, ⟨by rw [HG.out]; exact Nat.le_refl _, by have := HB2.out.size; omega, by have := HB2.out.size; omega⟩, HB2.out.trans (HB23.out.mono HB2.out.size)⟩, HLN.out, HDN.out.1, HDN.out.2, Nat.zero_le _, fun h => by omega, fun _ => ⟨RkOk.one HRT.out, by omega, h0, Nat.le_refl _⟩⟩
        have h1 := hc i hi
        rw [World.cell?_of_block (HB23.out.block rb (cell_lt h1))]; exact h1)
      clear hw3 hb1 hbw0 HB23 HW3 HB1 HBW HU HGL HB2 HR2 HSZ HDN HLN
      go_loopg [8, 9] t (fun gk uv bv wr => SoI x g b1 t zs gk uv bv wr)
      case atStart => exact HSTART.out
      case round =>
        clear HSTART
        obtain ⟨u, w, bw, l', R, rfl, rfl, hS, hll, hnd, hmem, hun, hend, hgo⟩ := hrel
        have HS := hid hS
        have HL := hid (And.intro hll (And.intro hnd hmem))
        by_cases hut : u < t
        · have hut1 : (u < t) = True := eq_true hut
          have hG := hgo hut
          have HK := hid hG
          have HSF := hid (sortFunc_any t h0 hl wr g l' hll (fun a ha => (hmem a).1 ha) hS.row 34 #[.pointer (some ⟨b1, 0, none⟩), .pointer (some ⟨bw, 0, none⟩)] (fun args w => by kernel_rfl) (cfS R w) (fun a => R.getD a 0) (fun a => R.getD (a + w) 0) (fun a b _ _ => cfS_lt R w a b) (fun y hy a b ha hb => hS.cmp HN.out hl HRT.out hG.1 hG.2.2.1 hy ha hb))
          clear hS hll hnd hmem hun hend hgo hut hG
          go_wp2_with fail
          refine HSF.out.mono ?_
          rintro e w4 ⟨rfl, l2, hperm, hsorted, hrow, hmv⟩
          have HP := hid hperm
          have HSO : Hid (∀ i j, i < j → j < t → ¬ cfS R w (l2.getD j 0) (l2.getD i 0) < 0) := hid (fun i j h1 h2 => by have := hsorted i j h1 h2; omega)
          have HRO := hid hrow
          have HMV := hid hmv
          have HL2 : Hid (l2.length = t ∧ l2.Nodup ∧ ∀ a, a ∈ l2 ↔ a < t) := hid ⟨by rw [hperm.length_eq]; exact HL.out.1, (hperm.nodup_iff).2 HL.out.2.1, fun a => by rw [hperm.mem_iff]; exact HL.out.2.2 a⟩
          have HRK := hid (ranked_any w4 g b1 bw t l2 (cfS R w) HL2.out.1 h0 hni (fun a ha => (HL2.out.2.2 a).1 ha) HL2.out.2.1 (siN_of_heap hrow) (fun y hy a b ha hb => HS.out.cmp HN.out hl HRT.out HK.out.1 HK.out.2.2.1 (hmv.trans (Mv.of_below hy)) ha hb))
          clear HSF hperm hsorted hrow hmv HL
          go_wp2_with fail
          refine HRK.out.mono ?_
          rintro e w5 ⟨g', R', rfl, hge, hown, hrs, hb5⟩
          have HDONE := hid (round_done HK.out.1 HRT.out (l := l2) (by rw [HL2.out.1]; exact HN.out) (fun a => by rw [← HN.out]; exact HL2.out.2.2 a) HL2.out.2.1 (fun i j h1 h2 => by have := HSO.out i j h1 (by rw [HN.out]; exact h2); omega) (R' := R') (by rw [← HN.out]; exact hrs))
          rw [← HN.out] at HDONE
          obtain ⟨rk, hrk⟩ : ∃ rk, rk = rkT (cfS R w) l2 t := ⟨_, rfl⟩
          rw [← hrk] at HDONE ⊢
          have hrkb : (rk : Int) ≤ 65536 := by have := HDONE.out.2.2.2; omega
          obtain ⟨u', hu'⟩ : ∃ u' : Nat, (rk : Int) + 1 = (u' : Int) := ⟨rk + 1, by omega⟩
          have HUU : Hid (rk + 1 = u') := hid (by omega)
          rw [HUU.out] at HDONE
          obtain ⟨w2', hw2'⟩ : ∃ w2' : Nat, (w : Int) * 2 = (w2' : Int) := ⟨2 * w, by omega⟩
          have HWW : Hid (2 * w = w2') := hid (by omega)
          rw [HWW.out] at HDONE
          have hw2b : (w2' : Int) ≤ 131072 := by have := HK.out; omega
          have hwb : (w : Int) ≤ 65536 := by have := HK.out; omega
          have HB4 : Hid (Below x.heap.size x w4) := hid (HS.out.below.trans (HMV.out.below HS.out.below.size (fun i hi => by rw [hi]; exact HS.out.base.1)))
          have HB5 := hid (HB4.out.trans (hb5.mono HB4.out.size))
          have HBOX : Hid (∃ v, w5.heap[b1]? = some (.cells #[v] 22 (0, 0)) ∧ ∃ rb ro c, v = .slice (some ⟨rb, ro, none⟩) t c) := hid (by
            obtain ⟨rb, ro, c, h1, -, -⟩ := HS.out.box
            exact ⟨_, row_below (HMV.out.row h1 HS.out.d1) hb5, rb, ro, c, rfl⟩)
          have HWID : Hid (w5.heap[bw]? = some (.cells #[.int .i64 (w : Int)] 3 (0, 0))) := hid (row_below (HMV.out.row HS.out.wid HS.out.d2) hb5)
          have HROW : Hid (w5.heap[g]? = some (.cells (nvals l2).toArray 3 (0, 0))) := hid (row_below HRO.out hb5)
          have HOWN := hid hown
          have HGE := hid hge
          have HRS := hid hrs
          obtain ⟨v, hv, rb, ro, cb, rfl⟩ := HBOX.out
          have j1 : w5.cell? ⟨b1, 0, none⟩ = some (.slice (some ⟨rb, ro, none⟩) t cb) := by rw [cell_of_row _ _ _ _ _ _ hv]; rfl
          have jf := frozen_of_row w5 b1 0 _ _ hv
          have HNE : Hid (bw ≠ b1) := hid HS.out.d3
          have j2 : (w5.setCell ⟨b1, 0, none⟩ (.slice (some ⟨g', 0, none⟩) t t)).cell? ⟨bw, 0, none⟩ = some (.int .i64 (w : Int)) := by
            rw [World.cell?_setCell_other _ _ _ _ (by intro e; simp only [Addr.mk.injEq] at e; exact HNE.out e.1.symm), cell_of_row _ _ _ _ _ _ HWID.out]; rfl
          have HV := hid hv
          clear HRK hge hown hrs hb5 hrk hv
          go_wp2_with fail
          go_roundg (gk - 1)
          case measure => have := HK.out; omega
          case rel =>
            have hgl : g < w4.heap.size := row_lt HRO.out
            have hbl : b1 < w4.heap.size := by
              obtain ⟨_, _, _, h1, -, -⟩ := HS.out.box
              exact row_lt (HMV.out.row h1 HS.out.d1)
            have hm6 : Mv (fun b => b = b1) w5 (w5.setCell ⟨b1, 0, none⟩ (.slice (some ⟨g', 0, none⟩) t t)) := mvSet (F := fun b => b = b1) (Mv.refl _ w5) rfl _
            have hsz6 := hm6.size
            have hge' := HGE.out
            have hb5 := HB5.out.size
            have hrow5 := row_lt HROW.out
            have hbl5 := row_lt HV.out
            obtain ⟨w6, hw6⟩ : ∃ w6, w6 = w5.setCell ⟨b1, 0, none⟩ (.slice (some ⟨g', 0, none⟩) t t) := ⟨_, rfl⟩
            have e1 : w6.heap[b1]? = some (.cells #[.slice (some ⟨g', 0, none⟩) t t] 22 (0, 0)) := by
              rw [hw6]
              have h := heap_setCell_same w5 b1 0 _ _ (.slice (some ⟨g', 0, none⟩) t t) HV.out
              simpa using h
            have hs6 : w6.heap.size = w5.heap.size := by rw [hw6]; simp
            rw [← hw6] at hm6 ⊢
            have hal := allocU w6 (.cells #[.int .i64 (w2' : Int)] 3)
            refine ⟨u', w2', w5.heap.size, l2, zsN R', rfl, rfl, ⟨row_below (hm6.row HROW.out (fun e => HS.out.d1 e.symm)) hal, ⟨g', 0, t, row_below e1 hal, by omega, fun i hi => ?_⟩, by rw [← hs6]; exact heap_alloc_new w6 _, HS.out.d1, by omega, by omega, ⟨HS.out.base.1, HS.out.base.2.1, hb5⟩, ?_⟩, HL2.out.1, HL2.out.2.1, HL2.out.2.2, HDONE.out.2.2.2, HDONE.out.2.1, fun hlt => ⟨HDONE.out.1, by have := HWW.out; have := HK.out; omega, by have := HDONE.out.2.2.1 (by omega); omega, by have := HWW.out; have := HK.out; omega⟩⟩
            · have h1 := HOWN.out.cells (g := g') rfl i _ (nvals_get (by have := HRS.out.1; have := HL2.out.1; omega))
              rw [Addr.add_lit] at h1
              have h2 := hm6.cell h1 (show ¬ g' = b1 by omega)
              rw [World.cell?_of_block (hal.block g' (cell_lt h2)), zsN_get]
              exact h2
            · exact (HB5.out.trans (hm6.below (by omega) (fun i hi => by rw [hi]; exact HS.out.base.2.1))).alloc (by omega) _
        · have hut1 : (u < t) = False := eq_false hut
          obtain rfl : u = t := by omega
          have HE := hid (hend rfl)
          have HSO := hid (So.ownedN (ownN_of_heap (B := x.heap.size) hS.row hll hl hS.base.1))
          rw [HE.out] at HSO
          have HBF := hid hS.below
          clear hS hll hnd hmem hun hend hgo hut
          go_wp2_with fail
          go_ret2
          exact ⟨_, rfl, HSO.out, HBF.out⟩
end Go.Proofs.Ytclpoconppmapaa
