/- THE LAW OF DOCUMENTS (layer 17), walked over the program's contracts (`PB17`: a structure of its own: a seat of this law alone has no other calls). CONTRACTS (alpha, as it landed): a table in memory; what it tells. (CONTRACTS (alpha, as it landed): whether a symbol may be; is there one of which a closure tells; lists mapped by a closure.) -/
import Derived.Test.YtmllpednaibeeaaU8
import Derived.Test.YtmllpednaibeeaaU21
import Derived.Test.YtmllpednaibeeaaU20
import Derived.Test.YtmllpednaibeeaaRows
import Derived.Test.YtmllpednaibeeaaU0
import Derived.Deep.QuietTactic
import Derived.BigQuiet
import Derived.Test.YtmllpednaibeeaaU18
import Derived.Test.YtmllpednaibeeaaU14
import Derived.Lib.Zigzag
import Derived.IntWalk
import Derived.WalkMore
import Derived.Deep.LoopGhost
import Derived.Test.YtmllpednaibeeaaU15
import Derived.Lib.MinMax
import Derived.Deep.OwnRows
namespace Go.Inc
open Go.RowKit
theorem txtD_codes : ∀ {ds : List (List Nat)}, (∀ d ∈ ds, Bytes d) → ∀ x ∈ txtD ds, 1 ≤ x ∧ x ≤ 65535
  | [], _, x, hx => by cases hx
  | d :: ds, h, x, hx => by
    have hx' : x ∈ d.map (· + 2) ++ 1 :: txtD ds := hx
    rcases List.mem_append.1 hx' with h1 | h1
    · obtain ⟨y, hy, rfl⟩ := List.mem_map.1 h1
      have := h d (by simp) y hy
      omega
    · rcases List.mem_cons.1 h1 with rfl | h2
      · omega
      · exact txtD_codes (fun e he => h e (List.mem_cons_of_mem _ he)) x h2
theorem ckT_made3 {m : List Nat} (hl : m.length ≤ 65535) (h : ∀ z ∈ m, 1 ≤ z ∧ z ≤ 65535) : ckT (zsN (m ++ [0])) = 0 := by
  have hget : ∀ i, i < m.length → 1 ≤ (m ++ [0]).getD i 0 ∧ (m ++ [0]).getD i 0 ≤ 65535 := by
    intro i hi
    rw [List.getD_eq_getElem?_getD, List.getElem?_append_left hi, List.getElem?_eq_getElem hi]
    exact h _ (List.getElem_mem hi)
  have hend : (m ++ [0]).getD m.length 0 = 0 := by
    rw [List.getD_eq_getElem?_getD, List.getElem?_append_right (Nat.le_refl _), Nat.sub_self]; rfl
  have hlen : (zsN (m ++ [0])).length = m.length + 1 := by rw [zsN_len]; simp
  refine ckT_ok (by omega) (fun i hi => ?_) ⟨by omega, fun i hi => ?_⟩
  · rw [zsN_get]
    by_cases e : i = m.length
    · rw [e, hend]; decide
    · have := hget i (by omega); omega
  · rw [zsN_get, hlen]
    by_cases e : i = m.length
    · rw [e, hend]; simp
    · have := hget i (by omega)
      omega
end Go.Inc
namespace Go.Proofs.Ytmllpednaibeeaa
open Go.RowKit Go.Inc
structure PB17 : Prop where
  bKnown : ∀ x : World, Calls Try.prog 13 #[] x fun e w' => e = .returned (.bool true) ∧ Below x.heap.size x w'
  bBytes : ∀ (ok : Nat → Prop) (w : World) (a : Option Addr) (c : Nat) (ds : List (List Nat)), Pt ok w a ds → ds.length ≤ 100 → (txtD ds).length ≤ 60000 →
    Calls Try.prog 23 #[.slice a ds.length c] w fun e w' => ∃ u, e = .returned (.tuple #[u, .int .i64 0]) ∧ So (fun g => w.heap.size ≤ g) w' u (zsN (srT (zsN (txtD ds ++ [0])) (txtD ds ++ [0]).length)) ∧ Below w.heap.size w w'
  bOrder : ∀ (ok : Nat → Prop) (w : World) (v : Value) (zs : List Int), So ok w v zs → zs.length ≤ 65536 → ckT zs = 0 →
    Calls Try.prog 9 #[v] w fun e w' => ∃ u, e = .returned (.tuple #[u, .int .i64 0]) ∧ So (fun g => w.heap.size ≤ g) w' u (zsN (srT zs zs.length)) ∧ Below w.heap.size w w'
  bRight : ∀ (ok ok' : Nat → Prop) (w : World) (v v' : Value) (zs ls : List Int), So ok w v zs → So ok' w v' ls → zs.length ≤ 65536 → (∀ z ∈ zs, Go.Inc.i64s z) → ls.length ≤ 65536 → (∀ z ∈ ls, Go.Inc.i64s z) →
    Calls Try.prog 15 #[v, v'] w fun e w' => e = .returned (.bool (decide (ckT zs = 0 ∧ ls = zsN (srT zs zs.length)))) ∧ Below w.heap.size w w'
set_option maxRecDepth 20000 in
set_option maxHeartbeats 4000000 in
theorem saisBytes_walk (ps : PB17) (W : World) (a : Option Addr) (c : Nat) (ls : List (List Nat)) (hs : Pt (fun _ => True) W a ls) :
    Calls Try.prog 6 #[.slice a ls.length c] W fun e w' => e = .returned (.bool true) ∧ Below W.heap.size W w' := by
  have HD := hid (lawDocs_any _ W a c ls hs (pt_len hs))
  have HD8 := hid (lawD_eight ls)
  have HDS := hid (lawD_short ls)
  have HDB := hid (lawD_bytes hs.1)
  obtain ⟨n, hn⟩ : ∃ n, n = ls.length := ⟨_, rfl⟩
  rw [← hn] at HD ⊢
  obtain ⟨D, hD⟩ : ∃ D, D = lawD ls := ⟨_, rfl⟩
  rw [← hD] at HD HD8 HDS HDB
  clear hs hn hD
  go_enter Try.func6, Try.ntmps6
  go_wp2_with fail
  refine HD.out.mono ?_
  rintro e w1 ⟨u1, rfl, ⟨vs, hpd⟩, hb⟩
  obtain ⟨da, dc, rfl, hpt⟩ := hpd.pt
  have HB1 := hid hb
  have HP1 := hid hpt
  have HBY := hid (ps.bBytes _ w1 da dc D hpt (by have := HD8.out; omega) (by have := HDS.out; omega))
  have HM := hid (txtD_codes HDB.out)
  obtain ⟨m, hm⟩ : ∃ m, m = D.length := ⟨_, rfl⟩
  have HML := hid hm
  obtain ⟨T, hT⟩ : ∃ T, T = txtD D := ⟨_, rfl⟩
  have HT := hid hT
  rw [← hm] at HBY ⊢
  rw [← hT] at HBY HM HDS
  have HCK := hid (ckT_made3 (m := T) (by have := HDS.out; omega) HM.out)
  obtain ⟨X, hX⟩ : ∃ X, X = zsN (T ++ [0]) := ⟨_, rfl⟩
  have HXL : Hid (X.length = T.length + 1) := hid (by rw [hX, zsN_len]; simp)
  have HX := hid hX
  have hxl : (T ++ [0]).length = (zsN (T ++ [0])).length := (zsN_len _).symm
  rw [hxl, ← hX] at HBY
  rw [← hX] at HCK
  clear hpd hpt hb hm hT hX HD hxl
  go_wp2_with fail
  refine HBY.out.mono ?_
  rintro e w2 ⟨u2, rfl, h2, hb⟩
  have HB2 := hid (HB1.out.trans (hb.mono HB1.out.size))
  have HO2 := hid h2
  have HP2 := hid (HP1.out.below hb)
  have HRT := hid (refText_any _ w2 da dc D HP2.out (by have := HD8.out; omega) (by rw [← HT.out]; have := HDS.out; omega))
  rw [← HT.out, ← HML.out] at HRT
  clear h2 hb HBY HP1
  go_wp2_with fail
  refine HRT.out.mono ?_
  rintro e w3 ⟨u3, rfl, h3, hb⟩
  have HB3 := hid (HB2.out.trans (hb.mono HB2.out.size))
  have HO3 := hid (HO2.out.below hb)
  have HV3 := hid (So.ownedN h3)
  rw [← HX.out] at HV3
  have HOR := hid (ps.bOrder _ w3 u3 X HV3.out (by have := HXL.out; have := HDS.out; omega) HCK.out)
  clear h3 hb HRT HP2 HO2
  go_wp2_with fail
  refine HOR.out.mono ?_
  rintro e w4 ⟨u4, rfl, h4, hb⟩
  have HB4 := hid (HB3.out.trans (hb.mono HB3.out.size))
  have HO4 := hid (HO3.out.below hb)
  have HV4 := hid (HV3.out.below hb)
  have HW4 := hid h4
  have HKN := hid (ps.bKnown w4)
  obtain ⟨S, hS⟩ : ∃ S, S = zsN (srT X X.length) := ⟨_, rfl⟩
  have HS := hid hS
  have HSL : Hid (S.length = T.length + 1) := hid (by rw [hS, zsN_len, srT_len]; exact HXL.out)
  rw [← hS] at HO4 HW4
  clear h4 hb HOR HV3 HO3 hS
  go_wp2_with fail
  refine HKN.out.mono ?_
  rintro e w5 ⟨rfl, hb⟩
  have HB5 := hid (HB4.out.trans (hb.mono HB4.out.size))
  have HO5 := hid (HO4.out.below hb)
  have HV5 := hid (HV4.out.below hb)
  have HW5 := hid (HW4.out.below hb)
  have HSM := hid (same_so _ _ w5 u2 u4 _ _ HO5.out HW5.out (by have := HSL.out; have := HDS.out; omega))
  rw [decide_eq_true rfl] at HSM
  clear hb HKN HO4 HV4 HW4
  go_wp2_with fail
  refine HSM.out.mono ?_
  rintro e w6 ⟨rfl, hb⟩
  have HB6 := hid (HB5.out.trans (hb.mono HB5.out.size))
  have HR := hid (ps.bRight _ _ w6 u3 u2 X S (HV5.out.below hb) (HO5.out.below hb) (by have := HXL.out; have := HDS.out; omega) (fun z hz => by have := (ckT_zero HCK.out).2.1 z hz; unfold Go.Inc.i64s; omega) (by have := HSL.out; have := HDS.out; omega) (fun z hz => by
    rw [HS.out] at hz
    obtain ⟨k, hk, rfl⟩ := List.mem_map.1 hz
    have := srT_mem.1 hk
    have := HXL.out; have := HDS.out
    unfold Go.Inc.i64s; omega))
  rw [decide_eq_true ⟨HCK.out, HS.out⟩] at HR
  clear hb HSM HO5 HV5 HW5
  go_wp2_with fail
  refine HR.out.mono ?_
  rintro e w7 ⟨rfl, hb⟩
  have HB7 := hid (HB6.out.trans (hb.mono HB6.out.size))
  clear hb HR
  go_wp2_with fail
  go_ret
  exact ⟨rfl, HB7.out⟩
end Go.Proofs.Ytmllpednaibeeaa
namespace Go.Inc
open Go.RowKit
theorem nvals_zerosA (n : Nat) : (madeCells #[Value.int .i64 0] n).toList = nvals (List.replicate n 0) := by
  apply List.ext_getElem
  · simp [madeCells, nvals]
  · intro i h1 h2
    simp [madeCells, nvals, Nat.mod_one]
theorem nvals_setA (ks : List Nat) (i k : Nat) : (nvals ks).set i (.int .i64 (k : Int)) = nvals (ks.set i k) := by simp [nvals, List.map_set]
/-- A list of which the first t are those that a function tells of another one's. -/
def Mp1 {α : Type} (l : List α) (d : α) (k : α → Nat) (m : List Nat) (t : Nat) : Prop := m.length = l.length ∧ ∀ i, i < t → m.getD i 0 = k (l.getD i d)
theorem Mp1.zero {α : Type} (l : List α) (d : α) (k : α → Nat) : Mp1 l d k (List.replicate l.length 0) 0 := ⟨List.length_replicate, fun _ h => absurd h (by omega)⟩
theorem Mp1.step {α : Type} {l : List α} {d : α} {k : α → Nat} {m : List Nat} {t : Nat} (h : Mp1 l d k m t) (ht : t < l.length) : Mp1 l d k (m.set t (k (l.getD t d))) (t + 1) := by
  refine ⟨by rw [List.length_set]; exact h.1, fun i hi => ?_⟩
  rw [List.getD_eq_getElem?_getD, List.getElem?_set]
  by_cases e : t = i
  · subst e
    rw [if_pos rfl, if_pos (by rw [h.1]; exact ht)]; rfl
  · rw [if_neg e, ← List.getD_eq_getElem?_getD]
    exact h.2 i (by omega)
theorem Mp1.done {α : Type} {l : List α} {d : α} {k : α → Nat} {m : List Nat} (h : Mp1 l d k m l.length) : m = l.map k := by
  apply List.ext_getElem (by rw [h.1, List.length_map])
  intro i h1 h2
  have := h.2 i (by rw [← h.1]; exact h1)
  rw [List.getD_eq_getElem?_getD, List.getD_eq_getElem?_getD, List.getElem?_eq_getElem h1, List.getElem?_eq_getElem (by rw [← h.1]; exact h1)] at this
  simpa using this
end Go.Inc
namespace Go.Proofs.Ytmllpednaibeeaa
open Go.RowKit Go.Inc
def TellsY (x : World) (F : FuncId) (cp : Array Value) (zs : List Nat) (k : Nat → Nat) : Prop := Goes F ∧
  ∀ y, Below x.heap.size x y → ∀ z ∈ zs, Calls Try.prog F (#[.int .u8 (z : Nat)] ++ cp) y fun e y' => e = .returned (.int .i64 (k z : Nat)) ∧ y = y'
set_option maxRecDepth 20000 in
set_option maxHeartbeats 2000000 in
theorem mappedY_any (ok : Nat → Prop) (x : World) (a : Option Addr) (c : Nat) (zs : List Nat) (F : FuncId) (cp : Array Value) (k : Nat → Nat) (hs : Sl ok x a zs) (hl : (zs.length : Int) ≤ 65536) (hf : TellsY x F cp zs k) :
    Calls Try.prog 74 #[.slice a zs.length c, .func (Fn.func F) #[] cp] x fun e w' => ∃ g, e = .returned (.slice (some ⟨g, 0, none⟩) zs.length zs.length) ∧ w'.ownsRow x.heap.size 3 1 (.slice (some ⟨g, 0, none⟩) zs.length zs.length) zs.length (nvals (zs.map k)) ∧ Below x.heap.size x w' := by
  have HS := hid hs
  have HF := hid hf
  have HZ := hid (Mp1.zero zs 0 k)
  obtain ⟨n, hn⟩ : ∃ n, n = zs.length := ⟨_, rfl⟩
  have HN := hid hn
  rw [← hn] at hl HZ ⊢
  obtain ⟨i0, hi, hz0, hz1, hz2⟩ := info_parts infoIntA
  have HI := hid (And.intro hi (And.intro hz0 (And.intro hz1 hz2)))
  clear hs hf hn hi hz0 hz1 hz2
  go_enter Try.func74, Try.ntmps74
  go_wp2_with (refine wpList_make_full _ rfl _ _ 22 rfl x.heap.size 3 i0 (.int .i64 0) 1 Try.underlying22 HI.out.1 HI.out.2.1 HI.out.2.2.1 .i64 .i64 _ _ n rfl rfl rfl rfl (by rw [HI.out.2.2.2]; omega) (by unfold maxLen; omega) (Nat.le_refl _) ?_)
  intro w1 hown hg
  have HR : Hid (w1.ownsRow x.heap.size 3 1 (.slice (some ⟨x.heap.size, 0, none⟩) n n) n (nvals (List.replicate n 0))) := hid (by rw [nvals_zerosA n] at hown; exact hown)
  have HB1 : Hid (Below x.heap.size x w1) := hid ⟨hg.os, hg.tape, hg.output, hg.size, fun i hi => hg.block i hi (by simp)⟩
  clear hown hg HI
  obtain ⟨g, hg⟩ : ∃ g, g = x.heap.size := ⟨_, rfl⟩
  rw [← hg] at HR ⊢
  have HG := hid hg
  clear hg
  go_wp2_with fail
  go_loopw [13] (fun i wr => ∃ (t : Nat) (m : List Nat), t ≤ n ∧ i = .int .i64 (t : Int) ∧ Mp1 zs 0 k m t ∧ wr.ownsRow g 3 1 (.slice (some ⟨g, 0, none⟩) n n) n (nvals m) ∧ Below x.heap.size x wr) (fun i _ => n - (intOf i).toNat)
  case atStart => exact ⟨0, _, Nat.zero_le _, rfl, HZ.out, HR.out, HB1.out⟩
  case round =>
    clear HR HB1 HZ
    obtain ⟨t, m, ht, rfl, hml, hr, hb⟩ := hrel
    have HML := hid hml
    have HR := hid hr
    have HB := hid hb
    clear hml hr hb
    by_cases hlt : (t : Int) < n
    · obtain ⟨b, o, rfl, hc⟩ : ∃ b o, a = some ⟨b, o, none⟩ ∧ wr.cell? ⟨b, o + t, none⟩ = some (.int .u8 ((zs.getD t 0) : Nat)) := by
        rcases HS.out.below HB.out with h | ⟨b, o, h, _, hc⟩
        · have := HN.out; rw [h] at this; simp at this; omega
        · exact ⟨b, o, h, hc t (by rw [← HN.out]; omega)⟩
      have HC := hid (HF.out.2 wr HB.out (zs.getD t 0) (getD_memA (by rw [← HN.out]; omega)))
      have HST := hid (HML.out.step (show t < zs.length by rw [← HN.out]; omega))
      generalize zs.getD t 0 = z at *
      obtain ⟨y, hy⟩ : ∃ y, y = k z := ⟨_, rfl⟩
      rw [← hy] at HC HST
      have HNEW : Hid ((wr.setCell ⟨g, t, none⟩ (.int .i64 (y : Nat))).ownsRow g 3 1 (.slice (some ⟨g, 0, none⟩) n n) n (nvals (m.set t y)) ∧ Below x.heap.size x (wr.setCell ⟨g, t, none⟩ (.int .i64 (y : Nat)))) := hid (by
        have h := HR.out.stored t (.int .i64 (y : Nat))
        rw [nvals_setA] at h
        exact ⟨h.1, below_grown HB.out h.2 (by rw [HG.out]; exact Nat.le_refl _) HB.out.size⟩)
      have j3 : wr.cell? ⟨g, t, none⟩ = some (.int .i64 ((m.getD t 0 : Nat) : Int)) := by
        have h := HR.out.cells (g := g) rfl t _ (nvals_get (by rw [HML.out.1, ← HN.out]; omega))
        rw [Addr.add_lit] at h
        simpa using h
      have jf := HR.out.frozenAt t
      have hkl : (t < n) = True := eq_true (by omega)
      have HTL : Hid (t < n) := hid (by omega)
      generalize m.getD t 0 = old at *
      clear hy hlt HR HB HML
      go_wp2_with fail
      rw [HF.out.1, Oper.upon_enter]
      refine HC.out.mono ?_
      rintro e w' ⟨rfl, rfl⟩
      go_wp2_with fail
      go_roundw
      case rel => exact ⟨t + 1, m.set t y, HTL.out, by go_num, HST.out, HNEW.out.1, HNEW.out.2⟩
      case measure => simp [intOf]; have := HTL.out; omega
    · have hkl : (t < n) = False := eq_false (by omega)
      have HTE : Hid (t = zs.length) := hid (by rw [← HN.out]; omega)
      clear hlt
      go_wp2_with fail
      go_ret
      have hd := HML.out
      rw [HTE.out] at hd
      refine ⟨g, rfl, ?_, HB.out⟩
      rw [← hd.done, ← HG.out]
      exact HR.out

end Go.Proofs.Ytmllpednaibeeaa
namespace Go.Inc
open Go.RowKit
/-- What a table's arrays tell of its symbols. -/
structure TbI (O K B : Nat → Nat) (ss cs : List Nat) : Prop where
  len : cs.length = ss.length
  few : ss.length ≤ 258
  lt : ∀ s ∈ ss, s < 258
  mem : ∀ s, s < 258 → (0 < O s ↔ s ∈ ss)
  often : ∀ i, i < ss.length → O (ss.getD i 0) = cs.getD i 0
  code : ∀ s ∈ ss, K s = ss.idxOf s
  below : ∀ i, i ≤ ss.length → B i = (cs.take i).sum
  most : cs.sum ≤ 65536
/-- A table's variable: how often, codes, symbols, how many are below. -/
structure TbF (w : World) (b : Nat) (O K B : Nat → Nat) (v : Value) : Prop where
  often : ∀ i, i < 258 → w.cell? ⟨b, i, none⟩ = some (.int .i64 ((O i : Nat) : Int))
  codes : ∀ i, i < 258 → w.cell? ⟨b, 258 + i, none⟩ = some (.int .i64 ((K i : Nat) : Int))
  syms : w.cell? ⟨b, 516, none⟩ = some v
  below : ∀ i, i < 259 → w.cell? ⟨b, 517 + i, none⟩ = some (.int .i64 ((B i : Nat) : Int))
def Tb (w : World) (b : Nat) (ss cs : List Nat) : Prop :=
  ∃ O K B a c, TbF w b O K B (.slice a ss.length c) ∧ Si (fun _ => True) w a (nZ ss) ∧ (ss.length ≤ c ∧ c ≤ maxLen) ∧ TbI O K B ss cs
theorem TbF.kept {w w' : World} {b : Nat} {O K B : Nat → Nat} {v : Value} (h : TbF w b O K B v) (hb : Below w.heap.size w w') : TbF w' b O K B v := by
  have e : ∀ j u, w.cell? ⟨b, j, none⟩ = some u → w'.cell? ⟨b, j, none⟩ = some u := fun j u hc => by
    rw [← hc]; exact World.cell?_of_block (hb.block b (cell_lt hc))
  exact ⟨fun i hi => e _ _ (h.often i hi), fun i hi => e _ _ (h.codes i hi), e _ _ h.syms, fun i hi => e _ _ (h.below i hi)⟩
theorem Tb.kept {w w' : World} {b : Nat} {ss cs : List Nat} (h : Tb w b ss cs) (hb : Below w.heap.size w w') : Tb w' b ss cs := by
  obtain ⟨O, K, B, a, c, h1, h2, h3, h4⟩ := h
  exact ⟨O, K, B, a, c, h1.kept hb, h2.below hb, h3, h4⟩
end Go.Inc
namespace Go.Proofs.Ytmllpednaibeeaa
open Go.RowKit Go.Inc
section
variable {x : World} {b : Nat} {O K B : Nat → Nat} {v : Value} {ss cs : List Nat}
end
end Go.Proofs.Ytmllpednaibeeaa
