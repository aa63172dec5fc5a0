/- CONTRACTS (alpha, as it landed): a table's bytes; counts; patterns; nil tables. (CONTRACTS (alpha, as it landed): codes and symbols of lists; a table's bytes; counts; patterns.) -/
import Derived.Test.YtbhpfdpcafdeaaaAnF
namespace Go.Inc
open Go.RowKit
theorem nZ_get {l : List Nat} {i : Nat} : (nZ l).getD i 0 = ((l.getD i 0 : Nat) : Int) := by
  unfold nZ
  rw [List.getD_eq_getElem?_getD, List.getElem?_map, List.getD_eq_getElem?_getD]
  cases l[i]? <;> rfl
theorem alloc_one_cell (x : World) (u : Value) (T : TypeId) : (x.alloc (.cells #[u] T)).cell? ⟨x.heap.size, 0, none⟩ = some u := by
  rw [cell_of_row _ _ _ _ _ _ (heap_alloc_new x _)]; rfl
theorem cell_kept {w w' : World} {b i : Nat} {u : Value} (h : w.cell? ⟨b, i, none⟩ = some u) (hb : Below w.heap.size w w') : w'.cell? ⟨b, i, none⟩ = some u := by
  rw [← h]; exact World.cell?_of_block (hb.block b (cell_lt h))
theorem getD_lt_mem {ss : List Nat} {i : Nat} (h : i < ss.length) : ss.getD i 0 ∈ ss := getD_memA h
end Go.Inc
namespace Go.Proofs.Ytbhpfdpcafdeaaa
open Go.RowKit Go.Inc
theorem codes1_any (y : World) (p b : Nat) (O K B : Nat → Nat) (v : Value) (ss cs : List Nat) (hp : y.cell? ⟨p, 0, none⟩ = some (.pointer (some ⟨b, 0, none⟩))) (hf : TbF y b O K B v) (hi : TbI O K B ss cs) (z : Int) (hz : i64a z) :
    Calls Try.prog 42 #[.int .i64 z, .pointer (some ⟨p, 0, none⟩)] y fun e w' => e = .returned (.bool (!ssB ss z)) ∧ y = w' := by
  have H := hid (hasSymbol_any y b O K B v ss cs hf hi z hz)
  clear hf hi hz
  cases hb : ssB ss z
  all_goals
    rw [hb] at H
    go_enter Try.func42, Try.ntmps42
    go_wp2_with fail
    refine H.out.mono ?_
    rintro e w' ⟨rfl, rfl⟩
    go_wp2_with fail
    go_ret
    exact ⟨rfl, rfl⟩
theorem symbols1_any (y : World) (p b : Nat) (O K B : Nat → Nat) (a : Option Addr) (n c : Nat) (hp : y.cell? ⟨p, 0, none⟩ = some (.pointer (some ⟨b, 0, none⟩))) (hf : TbF y b O K B (.slice a n c)) (z : Int) (hz : i64a z) :
    Calls Try.prog 45 #[.int .i64 z, .pointer (some ⟨p, 0, none⟩)] y fun e w' => e = .returned (.bool (!scB n z)) ∧ y = w' := by
  have H := hid (hasCode_any y b O K B a n c hf z hz)
  clear hf hz
  cases hb : scB n z
  all_goals
    rw [hb] at H
    go_enter Try.func45, Try.ntmps45
    go_wp2_with fail
    refine H.out.mono ?_
    rintro e w' ⟨rfl, rfl⟩
    go_wp2_with fail
    go_ret
    exact ⟨rfl, rfl⟩
theorem codes2_any (y : World) (p b : Nat) (O K B : Nat → Nat) (v : Value) (hp : y.cell? ⟨p, 0, none⟩ = some (.pointer (some ⟨b, 0, none⟩))) (hf : TbF y b O K B v) (s : Nat) (hs : s < 258) :
    Calls Try.prog 44 #[.int .i64 (s : Int), .pointer (some ⟨p, 0, none⟩)] y fun e w' => e = .returned (.int .i64 ((K s : Nat) : Int)) ∧ y = w' := by
  have hc := hf.codes s hs
  have h5 : (s : Int) < 258 := by omega
  generalize K s = k at *
  clear hf hs
  go_enter Try.func44, Try.ntmps44
  go_wp2_with fail
  go_ret
  exact ⟨rfl, rfl⟩
theorem bytes1_any (y : World) (p b : Nat) (O K B : Nat → Nat) (v : Value) (hp : y.cell? ⟨p, 0, none⟩ = some (.pointer (some ⟨b, 0, none⟩))) (hf : TbF y b O K B v) (s : Nat) (hs : s < 258) :
    Calls Try.prog 49 #[.int .i64 (s : Int), .pointer (some ⟨p, 0, none⟩)] y fun e w' => e = .returned (.int .i64 ((O s : Nat) : Int)) ∧ y = w' := by
  have hc := hf.often s hs
  have h5 : (s : Int) < 258 := by omega
  generalize O s = k at *
  clear hf hs
  go_enter Try.func49, Try.ntmps49
  go_wp2_with fail
  go_ret
  exact ⟨rfl, rfl⟩
theorem symbols2_any (y : World) (p b : Nat) (O K B : Nat → Nat) (a : Option Addr) (c : Nat) (ss : List Nat) (hp : y.cell? ⟨p, 0, none⟩ = some (.pointer (some ⟨b, 0, none⟩))) (hf : TbF y b O K B (.slice a ss.length c)) (hsi : Si (fun _ => True) y a (nZ ss)) (hfew : ss.length ≤ 258) (s : Nat) (hs : s < ss.length) :
    Calls Try.prog 46 #[.int .i64 (s : Int), .pointer (some ⟨p, 0, none⟩)] y fun e w' => e = .returned (.int .i64 ((ss.getD s 0 : Nat) : Int)) ∧ y = w' := by
  have hc := hf.syms
  obtain ⟨b', o', rfl, hcl⟩ : ∃ b' o', a = some ⟨b', o', none⟩ ∧ y.cell? ⟨b', o' + s, none⟩ = some (.int .i64 ((ss.getD s 0 : Nat) : Int)) := by
    rcases hsi with h | ⟨b', o', h, _, hc⟩
    · have : ss.length = 0 := by rw [← nZ_len ss, h]; rfl
      omega
    · exact ⟨b', o', h, by rw [hc s (by rw [nZ_len]; omega), nZ_get]⟩
  have h5 : (s : Int) < (ss.length : Int) := by omega
  have h6 : (s < ss.length) = True := eq_true hs
  have h7 : (s : Int) < 258 := by omega
  generalize ss.getD s 0 = k at *
  generalize ss.length = n at *
  clear hf hsi hs hfew
  go_enter Try.func46, Try.ntmps46
  go_wp2_with fail
  go_ret
  exact ⟨rfl, rfl⟩
/-- A table behind its pointer's variable. -/
def TbP (y : World) (p b : Nat) (O K B : Nat → Nat) (a : Option Addr) (c : Nat) (ss cs : List Nat) : Prop :=
  y.cell? ⟨p, 0, none⟩ = some (.pointer (some ⟨b, 0, none⟩)) ∧ TbF y b O K B (.slice a ss.length c) ∧ Si (fun _ => True) y a (nZ ss) ∧ TbI O K B ss cs
theorem TbP.kept {y z : World} {p b : Nat} {O K B : Nat → Nat} {a : Option Addr} {c : Nat} {ss cs : List Nat} (h : TbP y p b O K B a c ss cs) (hb : Below y.heap.size y z) : TbP z p b O K B a c ss cs :=
  ⟨cell_kept h.1 hb, h.2.1.kept hb, h.2.2.1.below hb, h.2.2.2⟩
theorem tells_codes1 {y : World} {p b : Nat} {O K B : Nat → Nat} {a : Option Addr} {c : Nat} {ss cs : List Nat} (h : TbP y p b O K B a c ss cs) (zs : List Int) (hz : ∀ z ∈ zs, i64a z) : TellsB y 42 #[.pointer (some ⟨p, 0, none⟩)] zs fun z => !ssB ss z :=
  ⟨fun _ _ => by kernel_rfl, fun z0 hb z hm => by
    have h2 := h.kept hb
    exact codes1_any z0 p b O K B _ ss cs h2.1 h2.2.1 h2.2.2.2 z (hz z hm)⟩
theorem tells_codes2 {y : World} {p b : Nat} {O K B : Nat → Nat} {a : Option Addr} {c : Nat} {ss cs : List Nat} (h : TbP y p b O K B a c ss cs) (zs : List Int) (hc : ∀ z ∈ zs, 0 ≤ z ∧ z.toNat ∈ ss) : TellsI y 44 #[.pointer (some ⟨p, 0, none⟩)] zs fun z => codeT ss z :=
  ⟨fun _ _ => by kernel_rfl, fun z0 hb z hm => by
    have h2 := h.kept hb
    have h3 := hc z hm
    obtain ⟨s, rfl⟩ : ∃ s : Nat, z = (s : Int) := ⟨z.toNat, by omega⟩
    have h4 : s ∈ ss := by have := h3.2; rwa [Int.toNat_natCast] at this
    have h5 := codes2_any z0 p b O K B _ h2.1 h2.2.1 s (h2.2.2.2.lt s h4)
    rw [h2.2.2.2.code s h4] at h5
    have e : codeT ss (s : Int) = ss.idxOf s := by unfold codeT; rw [Int.toNat_natCast]
    simp only [e]
    exact h5⟩
set_option maxHeartbeats 1000000 in
theorem pCodes_any (ok : Nat → Prop) (x : World) (b : Nat) (ss cs : List Nat) (a : Option Addr) (c : Nat) (zs : List Int) (h : Tb x b ss cs) (hs : Si ok x a zs) (hl : zs.length ≤ 65536) (hx : ∀ z ∈ zs, 0 ≤ z ∧ z.toNat ∈ ss) :
    Calls Try.prog 24 #[.pointer (some ⟨b, 0, none⟩), .slice a zs.length c] x fun e w' => ∃ u cu, e = .returned (.tuple #[.slice u zs.length cu, .int .i64 0]) ∧ Si (fun g => x.heap.size ≤ g) w' u (zs.map fun z => ((codeT ss z : Nat) : Int)) ∧ Below x.heap.size x w' := by
  obtain ⟨O, K, B, a1, c1, hf, hsi, -, ht⟩ := h
  obtain ⟨y, hy⟩ : ∃ y, y = x.alloc (.cells #[.pointer (some ⟨b, 0, none⟩)] 37) := ⟨_, rfl⟩
  have hby : Below x.heap.size x y := by rw [hy]; exact (Below.refl _ _).alloc (Nat.le_refl _) _
  have hp : y.cell? ⟨x.heap.size, 0, none⟩ = some (.pointer (some ⟨b, 0, none⟩)) := by rw [hy]; exact alloc_one_cell x _ _
  have htp : TbP y x.heap.size b O K B a1 c1 ss cs := ⟨hp, hf.kept hby, hsi.below hby, ht⟩
  have HC := hid (containsF_any ok y a c zs _ _ _ (hs.below hby) (by omega) (tells_codes1 htp zs (fun z hm => by have h3 := hx z hm; have h4 := ht.lt _ h3.2; unfold i64a; omega)))
  have hany : (zs.any fun z => !ssB ss z) = false := by
    rw [List.any_eq_false]
    intro z hm
    rw [show ssB ss z = true from decide_eq_true (hx z hm)]
    simp
  rw [hany] at HC
  have HM := hid (mappedI_any ok y a c zs _ _ _ (hs.below hby) (by omega) (tells_codes2 htp zs hx))
  have HB := hid hby
  have HXZ : Hid (x.heap.size ≤ y.heap.size) := hid hby.size
  generalize hn : zs.length = n at *
  have HN := hid hn
  clear hs hl hx hf hsi ht htp hby hany hn
  go_enter Try.func24, Try.ntmps24
  go_upto_region 1 with fail
  rw [← hy]
  clear hy
  go_wp2_with fail
  refine HC.out.mono ?_
  rintro e w' ⟨rfl, rfl⟩
  go_wp2_with fail
  refine HM.out.mono ?_
  rintro e w2 ⟨g, rfl, ho, hb2⟩
  have HO := hid ho
  have HB2 := hid (HB.out.trans (hb2.mono HB.out.size))
  clear ho hb2 HB HM HC
  go_wp2_with fail
  go_ret2
  obtain ⟨a3, c3, hv, -, -, -, -, hs3⟩ := Si.ownedN HO.out
  cases hv
  refine ⟨_, _, rfl, ?_, HB2.out⟩
  rw [List.map_map] at hs3
  exact hs3.mono fun g h _ => Nat.le_trans HXZ.out h
theorem nCodes_any (ok : Nat → Prop) (w : World) (a : Option Addr) (c : Nat) (zs : List Int) (_ : Si ok w a zs) (_ : zs.length ≤ 65536) : Calls Try.prog 24 #[.pointer none, .slice a zs.length c] w fun e w' => ∃ v, e = .returned (.tuple #[v, .int .i64 11]) ∧ Below w.heap.size w w' := by
  generalize zs.length = n
  go_enter Try.func24, Try.ntmps24
  go_wp2_with fail
  go_ret2
  exact ⟨_, rfl, (Below.refl _ _).alloc (Nat.le_refl _) _⟩
theorem tells_symbols1 {y : World} {p b : Nat} {O K B : Nat → Nat} {a : Option Addr} {c : Nat} {ss cs : List Nat} (h : TbP y p b O K B a c ss cs) (zs : List Int) (hz : ∀ z ∈ zs, i64a z) : TellsB y 45 #[.pointer (some ⟨p, 0, none⟩)] zs fun z => !scB ss.length z :=
  ⟨fun _ _ => by kernel_rfl, fun z0 hb z hm => by
    have h2 := h.kept hb
    exact symbols1_any z0 p b O K B a ss.length c h2.1 h2.2.1 z (hz z hm)⟩
theorem tells_symbols2 {y : World} {p b : Nat} {O K B : Nat → Nat} {a : Option Addr} {c : Nat} {ss cs : List Nat} (h : TbP y p b O K B a c ss cs) (zs : List Int) (hc : ∀ z ∈ zs, 0 ≤ z ∧ z < ss.length) : TellsI y 46 #[.pointer (some ⟨p, 0, none⟩)] zs fun z => ss.getD z.toNat 0 :=
  ⟨fun _ _ => by kernel_rfl, fun z0 hb z hm => by
    have h2 := h.kept hb
    have h3 := hc z hm
    obtain ⟨s, rfl⟩ : ∃ s : Nat, z = (s : Int) := ⟨z.toNat, by omega⟩
    have h5 := symbols2_any z0 p b O K B a c ss h2.1 h2.2.1 h2.2.2.1 h2.2.2.2.few s (by omega)
    simp only [Int.toNat_natCast]
    exact h5⟩
set_option maxHeartbeats 1000000 in
theorem pSymbols_any (ok : Nat → Prop) (x : World) (b : Nat) (ss cs : List Nat) (a : Option Addr) (c : Nat) (zs : List Int) (h : Tb x b ss cs) (hs : Si ok x a zs) (hl : zs.length ≤ 65536) (hx : ∀ z ∈ zs, 0 ≤ z ∧ z < ss.length) :
    Calls Try.prog 25 #[.pointer (some ⟨b, 0, none⟩), .slice a zs.length c] x fun e w' => ∃ u cu, e = .returned (.tuple #[.slice u zs.length cu, .int .i64 0]) ∧ Si (fun g => x.heap.size ≤ g) w' u (zs.map fun z => ((ss.getD z.toNat 0 : Nat) : Int)) ∧ Below x.heap.size x w' := by
  obtain ⟨O, K, B, a1, c1, hf, hsi, -, ht⟩ := h
  obtain ⟨y, hy⟩ : ∃ y, y = x.alloc (.cells #[.pointer (some ⟨b, 0, none⟩)] 37) := ⟨_, rfl⟩
  have hby : Below x.heap.size x y := by rw [hy]; exact (Below.refl _ _).alloc (Nat.le_refl _) _
  have hp : y.cell? ⟨x.heap.size, 0, none⟩ = some (.pointer (some ⟨b, 0, none⟩)) := by rw [hy]; exact alloc_one_cell x _ _
  have htp : TbP y x.heap.size b O K B a1 c1 ss cs := ⟨hp, hf.kept hby, hsi.below hby, ht⟩
  have HC := hid (containsF_any ok y a c zs _ _ _ (hs.below hby) (by omega) (tells_symbols1 htp zs (fun z hm => by have h3 := hx z hm; have h4 := ht.few; unfold i64a; omega)))
  have hany : (zs.any fun z => !scB ss.length z) = false := by
    rw [List.any_eq_false]
    intro z hm
    rw [show scB ss.length z = true from decide_eq_true (hx z hm)]
    simp
  rw [hany] at HC
  have HM := hid (mappedI_any ok y a c zs _ _ _ (hs.below hby) (by omega) (tells_symbols2 htp zs hx))
  have HB := hid hby
  have HXZ : Hid (x.heap.size ≤ y.heap.size) := hid hby.size
  generalize hn : zs.length = n at *
  have HN := hid hn
  clear hs hl hx hf hsi ht htp hby hany hn
  go_enter Try.func25, Try.ntmps25
  go_upto_region 1 with fail
  rw [← hy]
  clear hy
  go_wp2_with fail
  refine HC.out.mono ?_
  rintro e w' ⟨rfl, rfl⟩
  go_wp2_with fail
  refine HM.out.mono ?_
  rintro e w2 ⟨g, rfl, ho, hb2⟩
  have HO := hid ho
  have HB2 := hid (HB.out.trans (hb2.mono HB.out.size))
  clear ho hb2 HB HM HC
  go_wp2_with fail
  go_ret2
  obtain ⟨a3, c3, hv, -, -, -, -, hs3⟩ := Si.ownedN HO.out
  cases hv
  refine ⟨_, _, rfl, ?_, HB2.out⟩
  rw [List.map_map] at hs3
  exact hs3.mono fun g h _ => Nat.le_trans HXZ.out h
theorem nSymbols_any (ok : Nat → Prop) (w : World) (a : Option Addr) (c : Nat) (zs : List Int) (_ : Si ok w a zs) (_ : zs.length ≤ 65536) : Calls Try.prog 25 #[.pointer none, .slice a zs.length c] w fun e w' => ∃ v, e = .returned (.tuple #[v, .int .i64 11]) ∧ Below w.heap.size w w' := by
  generalize zs.length = n
  go_enter Try.func25, Try.ntmps25
  go_wp2_with fail
  go_ret2
  exact ⟨_, rfl, (Below.refl _ _).alloc (Nat.le_refl _) _⟩
end Go.Proofs.Ytbhpfdpcafdeaaa
namespace Go.Proofs.Ytbhpfdpcafdeaaa
open Go.RowKit Go.Inc
theorem tells_bytes1 {y : World} {p b : Nat} {O K B : Nat → Nat} {a : Option Addr} {c : Nat} {ss cs : List Nat} (h : TbP y p b O K B a c ss cs) : TellsI y 49 #[.pointer (some ⟨p, 0, none⟩)] (nZ ss) fun z => O z.toNat :=
  ⟨fun _ _ => by kernel_rfl, fun z0 hb z hm => by
    have h2 := h.kept hb
    obtain ⟨s, h4, rfl⟩ := List.mem_map.1 hm
    simp only [Int.toNat_natCast]
    exact bytes1_any z0 p b O K B _ h2.1 h2.2.1 s (h2.2.2.2.lt s h4)⟩
theorem bytes_cs {O K B : Nat → Nat} {ss cs : List Nat} (h : TbI O K B ss cs) : (nZ ss).map (fun z => O z.toNat) = cs := by
  apply List.ext_getElem
  · simp [nZ, h.len]
  · intro i h1 h2
    have h3 : i < ss.length := by rw [← h.len]; exact h2
    have := h.often i h3
    rw [List.getD_eq_getElem?_getD, List.getD_eq_getElem?_getD, List.getElem?_eq_getElem h3, List.getElem?_eq_getElem h2] at this
    simpa [nZ] using this
theorem le_sum {cs : List Nat} : ∀ x ∈ cs, x ≤ cs.sum := by
  induction cs with
  | nil => intro x hx; cases hx
  | cons y ys ih =>
    intro x hx
    rw [List.sum_cons]
    rcases List.mem_cons.1 hx with rfl | h
    · omega
    · have := ih x h; omega
set_option maxHeartbeats 1000000 in
theorem pBytes_any (x : World) (b : Nat) (ss cs : List Nat) (h : Tb x b ss cs) : Calls Try.prog 29 #[.pointer (some ⟨b, 0, none⟩)] x fun e w' => ∃ u cu, e = .returned (.slice u (listOf (nZ ss) ++ listOf (nZ cs)).length cu) ∧ Sl (fun g => x.heap.size ≤ g) w' u (listOf (nZ ss) ++ listOf (nZ cs)) ∧ Below x.heap.size x w' := by
  obtain ⟨O, K, B, a1, c1, hf, hsi, -, ht⟩ := h
  obtain ⟨y, hy⟩ : ∃ y, y = x.alloc (.cells #[.pointer (some ⟨b, 0, none⟩)] 37) := ⟨_, rfl⟩
  have hby : Below x.heap.size x y := by rw [hy]; exact (Below.refl _ _).alloc (Nat.le_refl _) _
  have hp : y.cell? ⟨x.heap.size, 0, none⟩ = some (.pointer (some ⟨b, 0, none⟩)) := by rw [hy]; exact alloc_one_cell x _ _
  have htp : TbP y x.heap.size b O K B a1 c1 ss cs := ⟨hp, hf.kept hby, hsi.below hby, ht⟩
  have hsy := htp.2.1.syms
  have HM := hid (mappedI_any _ y a1 c1 (nZ ss) _ _ _ htp.2.2.1 (by rw [nZ_len]; have := ht.few; omega) (tells_bytes1 htp))
  rw [bytes_cs ht] at HM
  have HS := hid htp
  have HB := hid hby
  have HXZ : Hid (x.heap.size ≤ y.heap.size) := hid hby.size
  have HFEW := hid ht.few
  have HLT := hid ht.lt
  have HCL := hid ht.len
  have HCS : Hid (∀ v ∈ cs, v ≤ 65536) := hid fun v hv => Nat.le_trans (le_sum v hv) ht.most
  rw [nZ_len] at HM
  generalize hn : ss.length = n at *
  have HN := hid hn
  have hn9 : (n : Int) ≤ 258 := by have := HFEW.out; omega
  clear hf hsi ht htp hby hn
  go_enter Try.func29, Try.ntmps29
  go_upto_region 1 with fail
  rw [← hy]
  clear hy
  go_wp2_with fail
  refine HM.out.mono ?_
  rintro e w2 ⟨g, rfl, ho, hb2⟩
  have HO := hid ho
  have HS2 := hid (HS.out.kept hb2)
  have hp2 := HS2.out.1
  have hsy2 := HS2.out.2.1.syms
  rw [HN.out] at hsy2
  have HB2 := hid (HB.out.trans (hb2.mono HB.out.size))
  have HXZ2 : Hid (x.heap.size ≤ w2.heap.size) := hid (Nat.le_trans HXZ.out hb2.size)
  have HL1 := hid (list_any _ a1 c1 (nZ ss) w2 HS2.out.2.2.1 (by rw [nZ_len, HN.out]; have := HFEW.out; omega) (fun z hz => by
    obtain ⟨s, h4, rfl⟩ := List.mem_map.1 hz
    have := HLT.out s h4; omega))
  rw [nZ_len, HN.out] at HL1
  clear ho hb2 HB HM HS hp hsy
  go_wp2_with fail
  refine HL1.out.mono ?_
  rintro e w3 ⟨v3, rfl, hr3, hb3⟩
  have HR3 := hid hr3
  have HO3 := hid (World.ownsRow.kept HO.out (⟨hb3.os, hb3.tape, hb3.output, hb3.size, fun i hi _ => hb3.block i hi⟩ : w2.grownBy w3 none) (by
    exact .inr (by simp [Value.ownBlock])))
  have HB3 := hid (HB2.out.trans (hb3.mono HB2.out.size))
  have HXZ3 : Hid (x.heap.size ≤ w3.heap.size) := hid (Nat.le_trans HXZ2.out hb3.size)
  clear hr3 hb3 HB2 HO HL1 hp2 hsy2 HS2
  obtain ⟨a4, c4, hv4, -, -, -, -, hs4⟩ := Si.ownedN HO3.out
  have hlc : cs.length = n := by rw [HCL.out]
  have ha4 : (some ⟨g, 0, none⟩ : Option Addr) = a4 := by injection hv4
  subst ha4
  have HL2 := hid (list_any _ _ n (nZ cs) w3 hs4 (by rw [nZ_len, hlc]; have := HFEW.out; omega) (fun z hz => by
    obtain ⟨s, h4, rfl⟩ := List.mem_map.1 hz
    have := HCS.out s h4; omega))
  rw [nZ_len, hlc] at HL2
  clear hs4 hlc
  go_wp2_with fail
  refine HL2.out.mono ?_
  rintro e w4 ⟨v4, rfl, hr4, hb4⟩
  have HR4 := hid (HR3.out.kept hb4)
  obtain ⟨a5, c5, rfl, hn5, hl5, hc5, hs5⟩ := hr4.sl
  have HS5 := hid hs5
  have HN5 := hid hn5
  have HB4 := hid (HB3.out.trans (hb4.mono HB3.out.size))
  have HXZ4 : Hid (x.heap.size ≤ w4.heap.size) := hid (Nat.le_trans HXZ3.out hb4.size)
  have HLA : Hid ((listOf (nZ ss)).length ≤ 10 * 258 + 10) := hid (by
    unfold listOf
    split
    · simp
    · rw [List.length_append]
      have h1 := puts_len (nZ ss) (fun z hz => by obtain ⟨s, h4, rfl⟩ := List.mem_map.1 hz; have := HLT.out s h4; omega)
      have h2 := Var.put_ten (n := (nZ ss).length) (by rw [nZ_len]; have := HFEW.out; have := HN.out; omega)
      rw [nZ_len] at h1 h2 ⊢
      have := HFEW.out; have := HN.out; omega)
  have HLB : Hid ((listOf (nZ cs)).length ≤ 10 * 258 + 10) := hid (by
    unfold listOf
    split
    · simp
    · rw [List.length_append]
      have h1 := puts_len (nZ cs) (fun z hz => by obtain ⟨s, h4, rfl⟩ := List.mem_map.1 hz; have := HCS.out s h4; omega)
      have h2 := Var.put_ten (n := (nZ cs).length) (by rw [nZ_len]; have := HFEW.out; have := HCL.out; omega)
      rw [nZ_len] at h1 h2 ⊢
      have := HFEW.out; have := HCL.out; omega)
  clear hr4 hb4 hn5 hl5 hc5 hs5 HR3 HO3 HB3 HL2
  obtain ⟨l1, hl1⟩ : ∃ l1, l1 = listOf (nZ ss) := ⟨_, rfl⟩
  obtain ⟨l2, hl2⟩ : ∃ l2, l2 = listOf (nZ cs) := ⟨_, rfl⟩
  rw [← hl1] at HLA HR4
  have HE1 := hid hl1
  have HE2 := hid hl2
  rw [← hl2] at HLB HS5 ⊢
  clear hl1 hl2
  obtain ⟨m2, hm2⟩ : ∃ m2, m2 = l2.length := ⟨_, rfl⟩
  have HM2 := hid hm2
  rw [← hm2]
  clear hm2
  go_wp2_with (refine wpList_append_any rfl (.tmp 16) (.tmp 18) 49 rfl x.heap.size 5 (.int .u8 0) 1 Try.underlying49 infoU8A rfl _ _ _ rfl (own_weaken HR4.out HXZ2.out) a5 m2 c5 (u8s l2) rfl (by rw [HM2.out]; exact u8s_length _) (fun h => by rw [HM2.out]; exact HS5.out.some_len h) HS5.out.cells (u8s_one _) (by have := HLA.out; have := HLB.out; have := HM2.out; unfold maxLen; omega) (by have := HLA.out; have := HLB.out; have := HM2.out; omega) HXZ4.out ?_)
  intro v6 w6 hu6 hg6 _
  have HB6 := hid (below_owned (w0 := x) HB4.out (own_weaken HR4.out HXZ2.out) (Nat.le_refl _) hg6)
  have HR6 : Hid (Row 5 x.heap.size w6 v6 (l1 ++ l2)) := hid (by
    unfold Row
    rw [u8s_append, List.length_append, ← HM2.out]
    exact hu6)
  clear hu6 hg6 HR4 HS5 HB4
  obtain ⟨a7, c7, rfl, -, -, -, hs7⟩ := HR6.out.sl
  have HS7 := hid hs7
  clear hs7 HR6
  go_wp2_with fail
  go_ret
  rw [← HE1.out, ← HE2.out]
  exact ⟨a7, c7, rfl, HS7.out, HB6.out⟩
theorem pattern1_any (y : World) (z : Nat) (hz : z < 256) : Calls Try.prog 55 #[.int .u8 (z : Int)] y fun e w' => e = .returned (.int .i64 ((z + 2 : Nat) : Int)) ∧ y = w' := by
  have h1 : (z : Int) < 256 := by omega
  clear hz
  go_enter Try.func55, Try.ntmps55
  go_wp2_with fail
  go_ret
  exact ⟨rfl, rfl⟩
theorem pPattern_any (ok : Nat → Prop) (x : World) (a : Option Addr) (c : Nat) (bs : List Nat) (hs : Sl ok x a bs) (hby : Bytes bs) (hl : bs.length ≤ 65536) (_ : bs.length ≤ c) (_ : c ≤ maxLen) :
    Calls Try.prog 31 #[.slice a bs.length c] x fun e w' => ∃ u cu, e = .returned (.slice u bs.length cu) ∧ Si (fun g => x.heap.size ≤ g) w' u (nZ (bs.map (· + 2))) ∧ Below x.heap.size x w' := by
  have HM := hid (mappedY_any ok x a c bs 55 #[] (fun y => y + 2) hs (by omega) ⟨fun _ _ => by kernel_rfl, fun y _ z hm => pattern1_any y z (hby z hm)⟩)
  generalize bs.length = n at *
  clear hs hby hl
  go_enter Try.func31, Try.ntmps31
  go_wp2_with fail
  refine HM.out.mono ?_
  rintro e w2 ⟨g, rfl, ho, hb2⟩
  have HO := hid ho
  have HB2 := hid hb2
  clear ho hb2 HM
  go_wp2_with fail
  go_ret
  obtain ⟨a3, c3, hv, -, -, -, -, hs3⟩ := Si.ownedN HO.out
  cases hv
  exact ⟨_, _, rfl, hs3, HB2.out⟩
end Go.Proofs.Ytbhpfdpcafdeaaa
