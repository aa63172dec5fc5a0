/- CONTRACTS (alpha, as it landed): the table of how often each symbol is. CONTRACTS (alpha, as it landed): a table's bytes; counts; patterns; nil tables. (CONTRACTS (alpha, as it landed): codes and symbols of lists; a table's bytes; counts; patterns.) CONTRACTS (alpha, as it landed): Count, Len; nil tables; Text. -/
import Derived.Test.YtmllpednaibeeaaU22
import Derived.Great.FillDense
import Derived.Test.YtmllpednaibeeaaU0
import Derived.BigRegion
import Derived.Test.YtmllpednaibeeaaU5
namespace Go.Proofs.Ytmllpednaibeeaa
open Go.RowKit Go.Inc
theorem nvals_oneA (l : List Nat) : ∀ u ∈ nvals l, u.oneCell' = true := by
  intro u hu
  obtain ⟨_, _, rfl⟩ := List.mem_map.1 hu
  rfl
end Go.Proofs.Ytmllpednaibeeaa
namespace Go.Inc
open Go.RowKit
theorem nZ_get {l : List Nat} {i : Nat} : (nZ l).getD i 0 = ((l.getD i 0 : Nat) : Int) := by
  unfold nZ
  rw [List.getD_eq_getElem?_getD, List.getElem?_map, List.getD_eq_getElem?_getD]
  cases l[i]? <;> rfl
theorem cell_kept {w w' : World} {b i : Nat} {u : Value} (h : w.cell? ⟨b, i, none⟩ = some u) (hb : Below w.heap.size w w') : w'.cell? ⟨b, i, none⟩ = some u := by
  rw [← h]; exact World.cell?_of_block (hb.block b (cell_lt h))
end Go.Inc
namespace Go.Proofs.Ytmllpednaibeeaa
open Go.RowKit Go.Inc
/-- A table behind its pointer's variable. -/
def TbP (y : World) (p b : Nat) (O K B : Nat → Nat) (a : Option Addr) (c : Nat) (ss cs : List Nat) : Prop :=
  y.cell? ⟨p, 0, none⟩ = some (.pointer (some ⟨b, 0, none⟩)) ∧ TbF y b O K B (.slice a ss.length c) ∧ Si (fun _ => True) y a (nZ ss) ∧ TbI O K B ss cs
theorem TbP.kept {y z : World} {p b : Nat} {O K B : Nat → Nat} {a : Option Addr} {c : Nat} {ss cs : List Nat} (h : TbP y p b O K B a c ss cs) (hb : Below y.heap.size y z) : TbP z p b O K B a c ss cs :=
  ⟨cell_kept h.1 hb, h.2.1.kept hb, h.2.2.1.below hb, h.2.2.2⟩
end Go.Proofs.Ytmllpednaibeeaa
namespace Go.Proofs.Ytmllpednaibeeaa
open Go.RowKit Go.Inc
theorem pattern1_any (y : World) (z : Nat) (hz : z < 256) : Calls Try.prog 75 #[.int .u8 (z : Int)] y fun e w' => e = .returned (.int .i64 ((z + 2 : Nat) : Int)) ∧ y = w' := by
  have h1 : (z : Int) < 256 := by omega
  clear hz
  go_enter Try.func75, Try.ntmps75
  go_wp2_with fail
  go_ret
  exact ⟨rfl, rfl⟩
theorem pPattern_any (ok : Nat → Prop) (x : World) (a : Option Addr) (c : Nat) (bs : List Nat) (hs : Sl ok x a bs) (hby : Bytes bs) (hl : bs.length ≤ 65536) (_ : bs.length ≤ c) (_ : c ≤ maxLen) :
    Calls Try.prog 59 #[.slice a bs.length c] x fun e w' => ∃ u cu, e = .returned (.slice u bs.length cu) ∧ Si (fun g => x.heap.size ≤ g) w' u (nZ (bs.map (· + 2))) ∧ Below x.heap.size x w' := by
  have HM := hid (mappedY_any ok x a c bs 75 #[] (fun y => y + 2) hs (by omega) ⟨fun _ _ => by kernel_rfl, fun y _ z hm => pattern1_any y z (hby z hm)⟩)
  generalize bs.length = n at *
  clear hs hby hl
  go_enter Try.func59, Try.ntmps59
  go_wp2_with fail
  refine HM.out.mono ?_
  rintro e w2 ⟨g, rfl, ho, hb2⟩
  have HO := hid ho
  have HB2 := hid hb2
  clear ho hb2 HM
  go_wp2_with fail
  go_ret
  obtain ⟨a3, c3, hv, -, -, -, -, hs3⟩ := Si.ownedN HO.out
  cases hv
  exact ⟨_, _, rfl, hs3, HB2.out⟩
end Go.Proofs.Ytmllpednaibeeaa
namespace Go.Inc
open Go.RowKit
theorem Si.cellsN {ok : Nat → Prop} {w : World} {a : Option Addr} {l : List Nat} (h : Si ok w a (nZ l)) : ∀ ad, a = some ad → ∀ j u, (nvals l)[j]? = some u → w.cell? (ad.add j) = some u := by
  intro ad had j u hu
  have hj : j < l.length := by
    have := (List.getElem?_eq_some_iff.1 hu).1
    simpa [nvals] using this
  rcases h with h | ⟨b, o, h, -, hc⟩
  · have h1 := nZ_len l
    rw [h] at h1; simp at h1; omega
  · rw [had] at h
    cases h
    have h3 := hc j (by rw [nZ_len]; exact hj)
    rw [nZ_get] at h3
    rw [Addr.add_lit, h3, ← hu]
    exact (nvals_get hj).symm
theorem own_belowA {w w' : World} {B e sz n : Nat} {v : Value} {xs : List Value} (h : w.ownsRow B e sz v n xs) (hb : Below w.heap.size w w') : w'.ownsRow B e sz v n xs := by
  refine World.ownsRow.kept h (⟨hb.os, hb.tape, hb.output, hb.size, fun i hi _ => hb.block i hi⟩ : w.grownBy w' none) ?_
  cases hv : v.ownBlock with
  | none => exact .inl rfl
  | some _ => exact .inr (by simp)
theorem Si.noneN {ok : Nat → Prop} {w : World} {a : Option Addr} {l : List Nat} (h : Si ok w a (nZ l)) : a = none → l.length = 0 := by
  intro ha
  rcases h with h | ⟨b, o, h, -, -⟩
  · rw [← nZ_len l, h]; rfl
  · rw [ha] at h; cases h
end Go.Inc
namespace Go.Proofs.Ytmllpednaibeeaa
open Go.RowKit Go.Inc
/-- A document of a list of documents. -/
theorem pt_doc {ok : Nat → Prop} {x : World} {a : Option Addr} {ds : List (List Nat)} (h : Pt ok x a ds) {t : Nat} (ht : t < ds.length) :
    ∃ b o A C, a = some ⟨b, o, none⟩ ∧ x.cell? ⟨b, o + t, none⟩ = some (.slice A (ds.getD t []).length C) ∧ Sl ok x A (ds.getD t []) ∧ ((ds.getD t []).length ≤ C ∧ C ≤ maxLen) := by
  rcases h.2 with h | ⟨b, o, A, C, ha, _, hp⟩
  · rw [h] at ht; simp at ht
  · exact ⟨b, o, A t, C t, ha, hp.cell t ht, hp.sl t ht, hp.cap t ht⟩
theorem txtD_len {ds : List (List Nat)} {t : Nat} (h : t < ds.length) : (txtD (ds.take (t + 1))).length = (txtD (ds.take t)).length + (ds.getD t []).length + 1 := by
  rw [txtD_take h]
  simp only [List.length_append, List.length_map, List.length_cons, List.length_nil]
  omega
set_option maxHeartbeats 1000000 in
theorem fit_any (ok : Nat → Prop) (x : World) (a : Option Addr) (c : Nat) (ds : List (List Nat)) (hp : Pt ok x a ds) (hl : (txtD ds).length ≤ 65535) :
    Calls Try.prog 58 #[.slice a ds.length c] x fun e w' => e = .returned (.bool true) ∧ x = w' := by
  have HS := hid hp
  have HTL := hid hl
  have hnl := docs_le ds
  obtain ⟨n, hn⟩ : ∃ n, n = ds.length := ⟨_, rfl⟩
  have HN := hid hn
  have hn9 : (n : Int) ≤ 65535 := by omega
  rw [← hn]
  clear hp hl hnl hn
  go_enter Try.func58, Try.ntmps58
  go_wp2_with fail
  go_loop [3, 8] (fun l i => ∃ (t q : Nat), t ≤ n ∧ i = .int .i64 (t : Int) ∧ l = .int .i64 (q : Int) ∧ q + (txtD (ds.take t)).length = 65535) (fun _ i => n - (intOf i).toNat)
  case atStart => exact ⟨0, 65535, Nat.zero_le _, rfl, rfl, rfl⟩
  case round =>
    obtain ⟨t, q, ht, rfl, rfl, hq⟩ := hrel
    have HQ := hid hq
    clear hq
    by_cases hlt : (t : Int) < n
    · have HTD : Hid (t < ds.length) := hid (by rw [← HN.out]; omega)
      obtain ⟨b, o, A, C, rfl, hc, -, -⟩ := pt_doc HS.out HTD.out
      have HLN := hid (txtD_len HTD.out)
      have hle := txtD_le ds (t + 1)
      obtain ⟨L, hL⟩ : ∃ L, L = (ds.getD t []).length := ⟨_, rfl⟩
      rw [← hL] at hc HLN
      have hLq : (L : Int) < (q : Int) := by have := HLN.out; have := HQ.out; have := HTL.out; omega
      have hqb : (q : Int) ≤ 65535 := by have := HQ.out; omega
      obtain ⟨q2, hq2⟩ : ∃ q2 : Nat, (q2 : Int) = (q : Int) - ((L : Int) + 1) := ⟨((q : Int) - ((L : Int) + 1)).toNat, by omega⟩
      have hq3 := hq2.symm
      have hkl : (t < n) = True := eq_true (by omega)
      have HQ2 := hid hq2
      clear hL hle hq2
      go_wp2_with fail
      go_round
      case rel => exact ⟨t + 1, q2, by omega, by go_num, rfl, by have := HQ2.out; have := HLN.out; have := HQ.out; omega⟩
      case measure => simp [intOf]; omega
    · have hkl : (t < n) = False := eq_false (by omega)
      clear hlt
      go_wp2_with fail
      go_ret
      exact ⟨rfl, rfl⟩
set_option maxRecDepth 20000 in
set_option maxHeartbeats 2000000 in
theorem pText_any (ok : Nat → Prop) (x : World) (a : Option Addr) (c : Nat) (ds : List (List Nat)) (hs : Pt ok x a ds) (ht : (txtD ds).length ≤ 65535) :
    Calls Try.prog 38 #[.slice a ds.length c] x fun e w' => ∃ u cu, e = .returned (.tuple #[.slice u (txtD ds ++ [0]).length cu, .int .i64 0]) ∧ Si (fun g => x.heap.size ≤ g) w' u (nZ (txtD ds ++ [0])) ∧ Below x.heap.size x w' ∧ (txtD ds ++ [0]).length ≤ cu ∧ cu ≤ maxLen := by
  have HBY := hid hs.1
  have HS := hid hs
  have HTL := hid ht
  have HFIT := hid (fit_any ok x a c ds hs ht)
  have hnl := docs_le ds
  obtain ⟨n, hn⟩ : ∃ n, n = ds.length := ⟨_, rfl⟩
  have HN := hid hn
  have hl : (n : Int) ≤ 65535 := by omega
  rw [← hn] at HFIT ⊢
  clear hs hn ht hnl
  go_enter Try.func38, Try.ntmps38
  go_wp2_with fail
  refine HFIT.out.mono ?_
  rintro e w' ⟨rfl, rfl⟩
  go_wp2_with fail
  go_loopw [4, 12] (fun u i wr => ∃ t : Nat, t ≤ n ∧ i = .int .i64 (t : Int) ∧ wr.ownsRow x.heap.size 3 1 u (txtD (ds.take t)).length (nvals (txtD (ds.take t))) ∧ Below x.heap.size x wr) (fun _ i _ => n - (intOf i).toNat)
  case atStart => exact ⟨0, Nat.zero_le _, rfl, World.ownsRow_nil _ _ _ _, Below.refl _ _⟩
  case round =>
    obtain ⟨t, ht, rfl, hu, hb⟩ := hrel
    have HU := hid hu
    have HB := hid hb
    clear hu hb
    by_cases hlt : t < n
    · have hti : (t < n) = True := eq_true hlt
      have HLT := hid hlt
      have HTD : Hid (t < ds.length) := hid (by rw [← HN.out]; exact hlt)
      obtain ⟨b, o, A, C, rfl, hc, hsl, hcap⟩ := pt_doc (HS.out.below HB.out) HTD.out
      have hmem := getD_memA (d := []) HTD.out
      have hlen := txtD_len HTD.out
      have hle := txtD_le ds (t + 1)
      have HTK := hid (txtD_take HTD.out)
      have HLE := hid (show (ds.getD t []).length ≤ 65536 by have := HTL.out; omega)
      have HTT := hid (show (txtD (ds.take t)).length + (ds.getD t []).length + 1 ≤ 65535 by have := HTL.out; omega)
      have HP := hid (pPattern_any ok wr A C (ds.getD t []) hsl (HBY.out _ hmem) HLE.out hcap.1 hcap.2)
      generalize ds.getD t [] = d at *
      obtain ⟨T, hT⟩ : ∃ T, T = txtD (ds.take t) := ⟨_, rfl⟩
      rw [← hT] at HU HTK HTT
      obtain ⟨L, hL⟩ : ∃ L, L = d.length := ⟨_, rfl⟩
      have HL := hid hL
      rw [← hL] at hc HP HTT
      clear hlt hsl hcap hmem hlen hle hT hL
      go_wp2_with fail
      refine HP.out.mono ?_
      rintro e w2 ⟨u2, c2, rfl, hs2, hb2⟩
      have HS2 := hid hs2
      have HB2 := hid (HB.out.trans (hb2.mono HB.out.size))
      have HU2 := hid (own_belowA HU.out hb2)
      clear hs2 hb2 HU HB HP
      go_wp2_with (refine wpList_append_any rfl (.tmp 16) (.tmp 18) 22 rfl x.heap.size 3 (.int .i64 0) 8 Try.underlying22 infoIntA rfl _ _ _ rfl HU2.out u2 L c2 (nvals (d.map (· + 2))) rfl (by rw [nvals_len, List.length_map, HL.out]) (fun h => by have := HS2.out.noneN h; rw [List.length_map] at this; rw [HL.out]; exact this) HS2.out.cellsN (nvals_oneA _) (by have := HTT.out; unfold maxLen; omega) (by have := HTT.out; omega) HB2.out.size ?_)
      intro u3 w3 hu3 hg3 _
      have HB3 := hid (below_owned (w0 := x) HB2.out HU2.out (Nat.le_refl _) hg3)
      have HU3 : Hid (w3.ownsRow x.heap.size 3 1 u3 (T ++ d.map (· + 2)).length (nvals (T ++ d.map (· + 2)))) := hid (by
        rw [List.length_append, List.length_map, ← HL.out]
        unfold nvals at hu3 ⊢
        rw [List.map_append]
        exact hu3)
      have HPL : Hid ((T ++ d.map (· + 2)).length ≤ 65535) := hid (by
        rw [List.length_append, List.length_map, ← HL.out]
        have := HTT.out
        omega)
      rw [← List.append_assoc] at HTK
      obtain ⟨l, hle⟩ : ∃ l, l = T ++ d.map (· + 2) := ⟨_, rfl⟩
      rw [← hle] at HU3 HTK HPL
      clear hu3 hg3 HU2 HB2 HS2 hle
      go_wp2_with (refine wpList_append_any rfl (.tmp 20) (.tmp 21) 22 rfl x.heap.size 3 (.int .i64 0) 8 Try.underlying22 infoIntA rfl _ _ _ rfl (HU3.out.alloc _) (some ⟨w3.heap.size, 0, none⟩) 1 1 [.int .i64 1] rfl rfl (by intro h; cases h) (one_new w3 _ _) (by simp [Value.oneCell']) (by have := HPL.out; unfold maxLen; omega) (by have := HPL.out; omega) (by have := HB3.out.size; simp; omega) ?_)
      intro u4 w4 hu4 hg4 _
      have HB4 := hid (below_owned (w0 := x) (HB3.out.alloc HB3.out.size _) (HU3.out.alloc _) (Nat.le_refl _) hg4)
      have HU4 : Hid (w4.ownsRow x.heap.size 3 1 u4 (txtD (ds.take (t + 1))).length (nvals (txtD (ds.take (t + 1))))) := hid (by rw [HTK.out, nvals_snoc, List.length_append]; exact hu4)
      clear hu4 hg4 HU3 HB3 HTK HPL
      go_wp2_with fail
      go_roundw
      case rel => exact ⟨t + 1, HLT.out, by go_num, HU4.out, HB4.out⟩
      case measure => simp [intOf]; have := HLT.out; omega
    · have hti : (t < n) = False := eq_false hlt
      have hu2 := HU.out
      rw [List.take_of_length_le (by rw [← HN.out]; omega)] at hu2
      have HU2 := hid hu2
      obtain ⟨l, hle⟩ : ∃ l, l = txtD ds := ⟨_, rfl⟩
      rw [← hle] at HU2 HTL
      have HLE := hid hle
      clear hlt hu2 HU hle
      go_wp2_with (refine wpList_append_any rfl (.tmp 24) (.tmp 25) 22 rfl x.heap.size 3 (.int .i64 0) 8 Try.underlying22 infoIntA rfl _ _ _ rfl (HU2.out.alloc _) (some ⟨wr.heap.size, 0, none⟩) 1 1 [.int .i64 0] rfl rfl (by intro h; cases h) (one_new wr _ _) (by simp [Value.oneCell']) (by have := HTL.out; unfold maxLen; omega) (by have := HTL.out; omega) (by have := HB.out.size; simp; omega) ?_)
      intro u3 w3 hu3 hg3 _
      have HB3 := hid (below_owned (w0 := x) (HB.out.alloc HB.out.size _) (HU2.out.alloc _) (Nat.le_refl _) hg3)
      have HU3 : Hid (w3.ownsRow x.heap.size 3 1 u3 (l ++ [0]).length (nvals (l ++ [0]))) := hid (by rw [nvals_snoc, List.length_append]; exact hu3)
      clear hu3 hg3 HU2 HB
      obtain ⟨a5, c5, rfl, -, -, hc5, hm5, hs5⟩ := Si.ownedN HU3.out
      have HF := hid (And.intro hc5 (And.intro hm5 hs5))
      clear hc5 hm5 hs5 HU3
      go_wp2_with fail
      go_ret2
      rw [← HLE.out]
      exact ⟨a5, c5, rfl, HF.out.2.2, HB3.out, HF.out.1, HF.out.2.1⟩
end Go.Proofs.Ytmllpednaibeeaa
