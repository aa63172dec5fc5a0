/- OPENING WHAT CAME IN: a slice of bytes, a slice of slices of bytes. No program is named here. OPENING A SLICE OF INTEGERS THAT CAME IN. No program is named here. -/
import Derived.Test.YtmllpednaibeeaaU0
import Derived.ProofKit
import Derived.OpenShut
import Derived.ChangeOld
import Derived.Deep.Matrix
namespace Go.Inc
open Go.RowKit Go.Deep Go.ChangeShapes Go.WideShapes
variable {H : Type} {enc : TypeId × Value → H} {P : Program} {w : World} {base : Nat} {held : Bool}

theorem u8_wf {n : Int} (h : (Lit.int .u8 n).wf = true) : 0 ≤ n ∧ n < 256 := by
  have := bounds_u8 h
  omega

/-- Numbers of a kind without a sign, as natural numbers. -/
theorem nats_getD (zs : List Int) (hz : ∀ n ∈ zs, 0 ≤ n) (i : Nat) (hi : i < zs.length) : zs.getD i 0 = (((zs.map Int.toNat).getD i 0 : Nat) : Int) := by
  have h := hz _ (List.getElem_mem hi)
  simp only [List.getD_eq_getElem?_getD, List.getElem?_map, List.getElem?_eq_getElem hi, Option.map_some, Option.getD_some]
  omega
theorem add_spot {w : World} {a : Addr} {v : Value} (h : w.cell? (a.add 0) = some v) : ∃ b o, a = ⟨b, o, none⟩ := by
  obtain ⟨b, o, s⟩ := a
  have := World.cell?_spot h
  simp [Addr.add] at this
  subst this
  exact ⟨b, o, rfl⟩

/-- A slice of bytes that came in. -/
theorem open_sl {t e : TypeId} {fuel : Nat} {v : Value} {x : DataW H × List MemPlace} (ht : P.underlying t = some (.slice e)) (he : P.underlying e = some (.int .u8)) (ce : P.cellsOf e = 1)
    (h : DataW.trod enc P w base (fun _ => true) held fuel t [v] = some x) :
    ∃ a c bs, v = .slice a bs.length c ∧ Bytes bs ∧ Sl (fun _ => True) w a bs ∧ bs.length ≤ c ∧ c ≤ maxLen ∧ (a = none → c = 0) := by
  rcases open_ints ht he ce h with ⟨hcs, hx⟩ | ⟨a, len, cap, zs, hcs, _, hl, hm, hz, hx, hcell, hwz⟩
  · simp at hcs
    exact ⟨none, 0, [], hcs, Bytes.nil, Sl.nil _ _ _, Nat.le_refl _, Nat.zero_le _, fun _ => rfl⟩
  · simp only [List.cons.injEq, and_true] at hcs
    simp only [if_true] at hz
    have hnn : ∀ n ∈ zs, 0 ≤ n := fun n hn => (u8_wf (hwz n hn)).1
    have hlen : ((zs.take len).map Int.toNat).length = len := by simp; omega
    refine ⟨some a, cap, (zs.take len).map Int.toNat, by rw [hlen]; exact hcs, ?_, ?_, by rw [hlen]; exact hl, hm, fun h => by cases h⟩
    · intro x hx
      obtain ⟨n, hn, rfl⟩ := List.mem_map.1 hx
      have := u8_wf (hwz n (List.mem_of_mem_take hn))
      omega
    · by_cases h0 : len = 0
      · left; subst h0; simp
      · obtain ⟨b, o, rfl⟩ := add_spot (hcell 0 (by omega))
        refine .inr ⟨b, o, rfl, trivial, fun i hi => ?_⟩
        rw [hlen] at hi
        have hc := hcell i (by omega)
        rw [Addr.add_lit] at hc
        rw [hc, nats_getD zs hnn i (by omega)]
        congr 2
        simp only [List.getD_eq_getElem?_getD, List.getElem?_map, List.getElem?_take, if_pos hi]

/-- A slice of slices of bytes that came in. -/
theorem open_pt {t e q : TypeId} {fuel : Nat} {v : Value} {x : DataW H × List MemPlace} (ht : P.underlying t = some (.slice e)) (he : P.underlying e = some (.slice q)) (hq : P.underlying q = some (.int .u8))
    (ce : P.cellsOf e = 1) (cq : P.cellsOf q = 1) (h : DataW.trod enc P w base (fun _ => true) held fuel t [v] = some x) :
    ∃ a c ps, v = .slice a ps.length c ∧ Pt (fun _ => True) w a ps ∧ ps.length ≤ maxLen := by
  rcases open_int_rows ht he hq ce cq h with ⟨hcs, hx⟩ | ⟨a, len, cap, A, L, C, Z, hcs, _, hl, hm, hx, hr⟩
  · simp at hcs
    exact ⟨none, 0, [], hcs, Pt.nil _ _ _, Nat.zero_le _⟩
  · simp only [List.cons.injEq, and_true] at hcs
    refine ⟨some a, cap, (List.range len).map fun r => ((Z r).take (L r)).map Int.toNat, by simpa using hcs, ⟨?_, ?_⟩, by simpa using Nat.le_trans hl hm⟩
    · intro p hp
      obtain ⟨r, hr1, rfl⟩ := List.mem_map.1 hp
      have hr1 := List.mem_range.1 hr1
      intro x hx
      obtain ⟨n, hn, rfl⟩ := List.mem_map.1 hx
      obtain ⟨_, _, _, _, hw, _⟩ := hr r (by omega)
      have := u8_wf (hw n (List.mem_of_mem_take hn))
      omega
    · by_cases h0 : len = 0
      · left; subst h0; rfl
      · obtain ⟨b, o, rfl⟩ := add_spot (hr 0 (by omega)).1
        have hget : ∀ i, i < len → ((List.range len).map fun r => ((Z r).take (L r)).map Int.toNat).getD i [] = ((Z i).take (L i)).map Int.toNat := by
          intro i hi
          simp [hi]
        have hlen : ∀ i, i < len → (((Z i).take (L i)).map Int.toNat).length = L i := by
          intro i hi
          obtain ⟨_, h1, _, h2, _⟩ := hr i (by omega)
          simp; omega
        refine .inr ⟨b, o, A, C, rfl, trivial, fun i hi => ?_, fun i hi => ?_, fun i hi => ?_⟩
        all_goals
          simp only [List.length_map, List.length_range] at hi
          rw [hget i hi]
          obtain ⟨h1, h2, h3, h4, h5, h6, h7⟩ := hr i (by omega)
        · rw [Addr.add_lit] at h1
          rw [h1, hlen i hi]
        · by_cases hL : L i = 0
          · left; rw [hL]; simp
          · cases hA : A i with
            | none => have := h6 hA; omega
            | some a' =>
              obtain ⟨_, hc⟩ := h7 a' hA
              obtain ⟨b', o', rfl⟩ := add_spot (hc 0 (by omega))
              refine .inr ⟨b', o', rfl, trivial, fun j hj => ?_⟩
              rw [hlen i hi] at hj
              have hcj := hc j (by omega)
              rw [Addr.add_lit] at hcj
              rw [hcj, nats_getD (Z i) (fun n hn => (u8_wf (h5 n hn)).1) j (by omega)]
              congr 2
              simp only [List.getD_eq_getElem?_getD, List.getElem?_map, List.getElem?_take, if_pos hj]
        · rw [hlen i hi]; exact ⟨h2, h3⟩
end Go.Inc
namespace Go.Inc
open Go.RowKit Go.Deep Go.ChangeShapes Go.WideShapes
variable {H : Type} {enc : TypeId × Value → H} {P : Program} {w : World} {base : Nat} {held : Bool}

/-- A slice of integers that came in. -/
theorem open_si {t e : TypeId} {fuel : Nat} {v : Value} {x : DataW H × List MemPlace} (ht : P.underlying t = some (.slice e)) (he : P.underlying e = some (.int .i64)) (ce : P.cellsOf e = 1)
    (h : DataW.trod enc P w base (fun _ => true) held fuel t [v] = some x) :
    ∃ a c zs, v = .slice a zs.length c ∧ (∀ z ∈ zs, -9223372036854775808 ≤ z ∧ z ≤ 9223372036854775807) ∧ Si (fun _ => True) w a zs ∧ zs.length ≤ c ∧ c ≤ maxLen ∧ (a = none → c = 0) := by
  rcases open_ints ht he ce h with ⟨hcs, hx⟩ | ⟨a, len, cap, zs, hcs, _, hl, hm, hz, hx, hcell, hwz⟩
  · simp at hcs
    exact ⟨none, 0, [], hcs, (fun _ h => by cases h), Si.nil _ _ _, Nat.le_refl _, Nat.zero_le _, fun _ => rfl⟩
  · simp only [List.cons.injEq, and_true] at hcs
    simp only [if_true] at hz
    have hlen : (zs.take len).length = len := by simp; omega
    refine ⟨some a, cap, zs.take len, by rw [hlen]; exact hcs, fun z h => bounds_i64 (hwz z (List.mem_of_mem_take h)), ?_, by rw [hlen]; exact hl, hm, fun h => by cases h⟩
    by_cases h0 : len = 0
    · left; subst h0; simp
    · obtain ⟨b, o, rfl⟩ := add_spot (hcell 0 (by omega))
      refine .inr ⟨b, o, rfl, trivial, fun i hi => ?_⟩
      rw [hlen] at hi
      have hc := hcell i (by omega)
      rw [Addr.add_lit] at hc
      rw [hc, List.getD_eq_getElem?_getD, List.getD_eq_getElem?_getD, List.getElem?_take, if_pos hi]
end Go.Inc
