/- CONTRACTS (suffix, as it landed): Turned. -/
import Derived.Test.YtdobjlaggdnphaaSuR
namespace Go.Inc
open Go.RowKit
theorem own_of_heap {w : World} {B g n : Nat} {E : TypeId} {W : List Int} (h : w.heap[g]? = some (.cells (zvals W).toArray E (0, 0))) (hl : W.length = n) (hn : n ≤ 65536) (hb : B ≤ g) :
    w.ownsRow B E 1 (.slice (some ⟨g, 0, none⟩) n n) n (zvals W) :=
  ⟨by rw [zvals_len, hl, Nat.mul_one], .inr ⟨g, n, _, rfl, hb, h, Nat.le_refl _, by unfold maxLen; omega, by simp [zvals_len, hl], by rw [Nat.mul_one]; exact List.take_of_length_le (by simp [zvals_len, hl])⟩⟩
theorem So.ownedI {w : World} {B n : Nat} {v : Value} {l : List Int} {e : TypeId} (h : w.ownsRow B e 1 v n (zvals l)) : So (fun b => B ≤ b) w v l := by
  obtain ⟨a, c, h1, -, h3, h4, h5, h6⟩ := ownedZ h
  exact ⟨a, c, h1, h3, h4, h5, h6⟩
theorem zvals_set (l : List Int) (i : Nat) (z : Int) : (zvals l).set i (.int .i64 z) = zvals (l.set i z) := by simp [zvals, List.map_set]
theorem setZ_at {m : List Int} {u j : Nat} {b : Int} (hu : u < m.length) : (m.set u b).getD j 0 = if j = u then b else m.getD j 0 := by
  rw [List.getD_eq_getElem?_getD, List.getElem?_set]
  by_cases e : u = j
  · subst e; rw [if_pos rfl, if_pos hu, if_pos rfl]; rfl
  · rw [if_neg e, if_neg (fun h => e h.symm), List.getD_eq_getElem?_getD]
/-- Where the first t numbers stand, -1 for those that aren't among them. -/
def TnS (l : List Int) (t : Nat) (W : List Int) : Prop := W.length = l.length ∧ (∀ i, i < t → 0 ≤ l.getD i 0 ∧ l.getD i 0 < l.length ∧ W.getD (l.getD i 0).toNat 0 = (i : Int)) ∧ ∀ j, j < l.length → W.getD j 0 ≠ -1 → ∃ r, r < t ∧ l.getD r 0 = (j : Int)
theorem TnS.zero (l : List Int) : TnS l 0 (List.replicate l.length (-1)) := by
  refine ⟨List.length_replicate, fun i h => by omega, fun j hj hn => absurd ?_ hn⟩
  rw [List.getD_eq_getElem?_getD, List.getElem?_replicate, if_pos hj]; rfl
theorem TnS.far {l : List Int} {t : Nat} (ht : t < l.length) (h : l.getD t 0 < 0 ∨ (l.length : Int) ≤ l.getD t 0) : ¬ okT l := fun hok => by
  have := okT_in hok (getD_mem ht)
  omega
theorem TnS.twice {l W : List Int} {t q : Nat} (h : TnS l t W) (ht : t < l.length) (hq : l.getD t 0 = (q : Int)) (hql : q < l.length) (hw : W.getD q 0 ≠ -1) : ¬ okT l := fun hok => by
  obtain ⟨r, hr, he⟩ := h.2.2 q hql hw
  have h1 := at_is (okT_nodup hok) (i := r) (by omega) he
  have h2 := at_is (okT_nodup hok) ht hq
  omega
theorem TnS.step {l W : List Int} {t q : Nat} (h : TnS l t W) (hq : l.getD t 0 = (q : Int)) (hql : q < l.length) (hw : W.getD q 0 = -1) : TnS l (t + 1) (W.set q (t : Int)) := by
  obtain ⟨h1, h2, h3⟩ := h
  refine ⟨by rw [List.length_set]; exact h1, fun i hi => ?_, fun j hj hn => ?_⟩
  · by_cases e : i = t
    · subst e
      rw [hq]
      refine ⟨by omega, by omega, ?_⟩
      rw [Int.toNat_natCast, setZ_at (by omega), if_pos rfl]
    · have h4 := h2 i (by omega)
      refine ⟨h4.1, h4.2.1, ?_⟩
      rw [setZ_at (by omega), if_neg]
      · exact h4.2.2
      · intro e2
        rw [e2, hw] at h4
        omega
  · rw [setZ_at (by omega)] at hn
    by_cases e : j = q
    · subst e
      exact ⟨t, by omega, hq⟩
    · rw [if_neg e] at hn
      obtain ⟨r, hr, he⟩ := h3 j hj hn
      exact ⟨r, by omega, he⟩
theorem TnS.done {l W : List Int} (h : TnS l l.length W) : okT l ∧ W = zsN (tnT l) := by
  obtain ⟨h1, h2, -⟩ := h
  have hnd : l.Nodup := by
    rw [List.nodup_iff_pairwise_ne, List.pairwise_iff_getElem]
    intro i j hi hj hij e
    have a1 := (h2 i hi).2.2
    have a2 := (h2 j hj).2.2
    have e1 : l.getD i 0 = l.getD j 0 := by
      rw [List.getD_eq_getElem?_getD, List.getD_eq_getElem?_getD, List.getElem?_eq_getElem hi, List.getElem?_eq_getElem hj]
      exact e
    rw [e1, a2] at a1
    omega
  have hp := room_perm (r := l) (l := (List.range l.length).map fun n : Nat => (n : Int)) hnd (fun z hz => by
    obtain ⟨i, hi, rfl⟩ := List.mem_iff_getElem.1 hz
    have a1 := h2 i hi
    rw [List.getD_eq_getElem?_getD, List.getElem?_eq_getElem hi] at a1
    exact List.mem_map.2 ⟨l[i].toNat, List.mem_range.2 (by have := a1.1; have := a1.2.1; simp at *; omega), by have := a1.1; simp at *; omega⟩) (by simp)
  have hok : okT l := fun n hn => hp.mem_iff.1 (List.mem_map.2 ⟨n, List.mem_range.2 hn, rfl⟩)
  refine ⟨hok, ?_⟩
  apply List.ext_getElem (by rw [h1, zsN_len, tnT_len])
  intro j hj1 hj2
  have hj : j < l.length := by omega
  have h4 := at_get (hok j hj)
  have h5 := h2 _ h4.1
  rw [h4.2, Int.toNat_natCast] at h5
  have h6 := zsN_get (l := tnT l) j
  rw [tnT_get hj, ← h5.2.2] at h6
  rw [List.getD_eq_getElem?_getD, List.getElem?_eq_getElem hj2, List.getD_eq_getElem?_getD, List.getElem?_eq_getElem hj1] at h6
  exact h6.symm
end Go.Inc
namespace Go.Proofs.Ytdobjlaggdnphaa
open Go.RowKit Go.Inc
/-- What Turned hands back. -/
def TnP (w : World) (zs : List Int) (e : Ending) (w' : World) : Prop := (∃ u k, e = .returned (.tuple #[u, .int .i64 k]) ∧ (okT zs → k = 0 ∧ So (fun g => w.heap.size ≤ g) w' u (zsN (tnT zs))) ∧ (¬ okT zs → k = 3 ∧ ∃ a c, u = .slice a 0 c)) ∧ Below w.heap.size w w'
set_option maxRecDepth 20000 in
set_option maxHeartbeats 2000000 in
theorem turned_any (ok : Nat → Prop) (x : World) (p : Option Addr) (c : Nat) (zs : List Int) (hs : Si ok x p zs) (hl : (zs.length : Int) ≤ 65536) :
    Calls Try.prog 55 #[.slice p zs.length c] x (TnP x zs) := by
  have HZ := hid (TnS.zero zs)
  have HS := hid hs
  have HFAR := hid (fun (t : Nat) h1 h2 => TnS.far (l := zs) (t := t) h1 h2)
  have HTW := hid (fun (W : List Int) (t q : Nat) h1 h2 h3 h4 h5 => TnS.twice (l := zs) (W := W) (t := t) (q := q) h1 h2 h3 h4 h5)
  have HST := hid (fun (W : List Int) (t q : Nat) h1 h2 h3 h4 => TnS.step (l := zs) (W := W) (t := t) (q := q) h1 h2 h3 h4)
  have HDN := hid (fun (W : List Int) h1 => TnS.done (l := zs) (W := W) h1)
  have HWL := hid (fun (W : List Int) (t : Nat) (h1 : TnS zs t W) => h1.1)
  obtain ⟨n, hn⟩ : ∃ n, n = zs.length := ⟨_, rfl⟩
  have HN := hid hn
  rw [← hn] at hl HZ HFAR HTW HST HDN HWL ⊢
  have HA := hid (allocU x (.cells #[.int .i64 (-1)] 3))
  have HRP := hid (repeat_any (x.alloc (.cells #[.int .i64 (-1)] 3)) x.heap.size n hl (by simp))
  clear hs hn
  go_enter Try.func55, Try.ntmps55
  go_wp2_with fail
  refine HRP.out.mono ?_
  rintro e w1 ⟨g, rfl, hg, hrow, hb⟩
  have HB1 := hid (HA.out.trans (hb.mono HA.out.size))
  have HG : Hid (x.heap.size ≤ g) := hid (by simp at hg; omega)
  have HR : Hid (w1.ownsRow x.heap.size 3 1 (.slice (some ⟨g, 0, none⟩) n n) n (zvals (List.replicate n (-1)))) := hid (own_of_heap hrow List.length_replicate (by omega) HG.out)
  clear HRP hg hrow hb HA
  go_wp2_with fail
  go_loopw [13] (fun i wr => ∃ (t : Nat) (W : List Int), t ≤ n ∧ i = .int .i64 (t : Int) ∧ TnS zs t W ∧ wr.ownsRow x.heap.size 3 1 (.slice (some ⟨g, 0, none⟩) n n) n (zvals W) ∧ Below x.heap.size x wr) (fun i _ => n - (intOf i).toNat)
  case atStart => exact ⟨0, _, Nat.zero_le _, rfl, HZ.out, HR.out, HB1.out⟩
  case round =>
    clear HR HB1 HZ
    obtain ⟨t, W, ht, rfl, htn, hr, hb⟩ := hrel
    have HT := hid htn
    have HR := hid hr
    have HB := hid hb
    clear htn hr hb
    by_cases hlt : t < n
    · have hti : (t < n) = True := eq_true hlt
      have HLT := hid hlt
      obtain ⟨pb, po, rfl, hc⟩ := siCell (HS.out.below HB.out) (k := t) (by have := HN.out; omega)
      have HF := hid (HFAR.out t hlt)
      have HTW2 := hid (fun q => HTW.out W t q HT.out hlt)
      have HST2 := hid (fun q => HST.out W t q HT.out)
      have HL := hid (HWL.out W t HT.out)
      generalize zs.getD t 0 = z at *
      clear hlt
      by_cases h1 : z < 0
      · have h1t : (z < 0) = True := eq_true h1
        have HNO := hid (HF.out (.inl h1))
        clear h1 HF HTW2 HST2
        go_wp2_with fail
        go_ret2
        exact ⟨⟨_, _, rfl, fun h => absurd h HNO.out, fun _ => ⟨rfl, _, _, rfl⟩⟩, HB.out⟩
      · have h1t : (z < 0) = False := eq_false h1
        by_cases h2 : (n : Int) ≤ z
        · have h2t : ((n : Int) ≤ z) = True := eq_true h2
          have HNO := hid (HF.out (.inr h2))
          clear h1 h2 HF HTW2 HST2
          go_wp2_with fail
          go_ret2
          exact ⟨⟨_, _, rfl, fun h => absurd h HNO.out, fun _ => ⟨rfl, _, _, rfl⟩⟩, HB.out⟩
        · obtain ⟨q, rfl⟩ : ∃ q : Nat, z = (q : Int) := ⟨z.toNat, by omega⟩
          have hqn : (q : Int) < (n : Int) := by omega
          have h2t : (n ≤ q) = False := eq_false (by omega)
          have h2u : ((n : Int) ≤ (q : Int)) = False := eq_false h2
          have HQ : Hid (q < n) := hid (by omega)
          have HTW3 := hid (HTW2.out q rfl HQ.out)
          have HST3 := hid (HST2.out q rfl HQ.out)
          have j1 : wr.cell? ⟨g, q, none⟩ = some (.int .i64 (W.getD q 0)) := by
            have h := HR.out.cells (g := g) rfl q _ (zvals_get (by rw [HL.out]; exact HQ.out))
            rw [Addr.add_lit] at h
            simpa using h
          have jf := HR.out.frozenAt q
          generalize W.getD q 0 = o at *
          clear h1 h2 HF HTW2 HST2
          by_cases ho : o = -1
          · subst ho
            have HNEW : Hid ((wr.setCell ⟨g, q, none⟩ (.int .i64 (t : Int))).ownsRow x.heap.size 3 1 (.slice (some ⟨g, 0, none⟩) n n) n (zvals (W.set q (t : Int))) ∧ Below x.heap.size x (wr.setCell ⟨g, q, none⟩ (.int .i64 (t : Int)))) := hid (by
              have h := HR.out.stored q (.int .i64 (t : Int))
              rw [zvals_set] at h
              exact ⟨h.1, below_grown HB.out h.2 HG.out HB.out.size⟩)
            have HTN := hid (HST3.out rfl)
            clear HTW3 HST3 HR HB HT
            go_wp2_with fail
            go_roundw
            case rel => exact ⟨t + 1, _, HLT.out, by go_num, HTN.out, HNEW.out.1, HNEW.out.2⟩
            case measure => simp [intOf]; have := HLT.out; omega
          · have hob : (o != -1) = true := by rw [bne_iff_ne]; exact ho
            have HNO := hid (HTW3.out ho)
            clear ho HTW3 HST3
            go_wp2_with fail
            go_ret2
            exact ⟨⟨_, _, rfl, fun h => absurd h HNO.out, fun _ => ⟨rfl, _, _, rfl⟩⟩, HB.out⟩
    · have hti : (t < n) = False := eq_false hlt
      obtain rfl : t = n := by omega
      have HD := hid (HDN.out W HT.out)
      have HSO := hid (So.ownedI HR.out)
      rw [HD.out.2] at HSO
      clear hlt
      go_wp2_with fail
      go_ret2
      exact ⟨⟨_, _, rfl, fun _ => ⟨rfl, HSO.out⟩, fun h => absurd HD.out.1 h⟩, HB.out⟩
theorem suTurned (ok : Nat → Prop) (w : World) (v : Value) (zs : List Int) (hs : So ok w v zs) (hl : zs.length ≤ 65536) (ho : okT zs) :
    Calls Try.prog 55 #[v] w (NewS w (zsN (tnT zs))) := by
  obtain ⟨a, c, rfl, hsi, -, -, -⟩ := hs
  refine (turned_any ok w a c zs hsi (by omega)).mono ?_
  rintro e w' ⟨⟨u, k, rfl, h1, -⟩, hb⟩
  obtain ⟨rfl, h2⟩ := h1 ho
  exact ⟨u, rfl, h2, hb⟩
theorem suTurnedBad (ok : Nat → Prop) (w : World) (v : Value) (zs : List Int) (hs : So ok w v zs) (hl : zs.length ≤ 65536) (ho : ¬ okT zs) :
    Calls Try.prog 55 #[v] w fun e w' => ∃ a c, e = .returned (.tuple #[.slice a 0 c, .int .i64 3]) ∧ Below w.heap.size w w' := by
  obtain ⟨a, c, rfl, hsi, -, -, -⟩ := hs
  refine (turned_any ok w a c zs hsi (by omega)).mono ?_
  rintro e w' ⟨⟨u, k, rfl, -, h1⟩, hb⟩
  obtain ⟨rfl, a, c, rfl⟩ := h1 ho
  exact ⟨a, c, rfl, hb⟩
end Go.Proofs.Ytdobjlaggdnphaa

