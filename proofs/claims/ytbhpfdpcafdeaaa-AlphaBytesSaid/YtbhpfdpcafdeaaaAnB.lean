/- CONTRACTS (alpha, as it landed): a table in memory; what it tells. (CONTRACTS (alpha, as it landed): whether a symbol may be; is there one of which a closure tells; lists mapped by a closure.) -/
import Derived.Test.YtbhpfdpcafdeaaaAfP
import Derived.Deep.OwnRows
import Derived.Lib.MinMax
namespace Go.Inc
open Go.RowKit
theorem nvals_zerosA (n : Nat) : (madeCells #[Value.int .i64 0] n).toList = nvals (List.replicate n 0) := by
  apply List.ext_getElem
  · simp [madeCells, nvals]
  · intro i h1 h2
    simp [madeCells, nvals, Nat.mod_one]
theorem u8s_zerosA (n : Nat) : (madeCells #[Value.int .u8 0] n).toList = u8s (List.replicate n 0) := by
  apply List.ext_getElem
  · simp [madeCells, u8s]
  · intro i h1 h2
    simp [madeCells, u8s, Nat.mod_one]
theorem nvals_setA (ks : List Nat) (i k : Nat) : (nvals ks).set i (.int .i64 (k : Int)) = nvals (ks.set i k) := by simp [nvals, List.map_set]
theorem anyP_snoc {p : Int → Bool} {zs : List Int} {k : Nat} (h : k < zs.length) : (zs.take (k + 1)).any p = ((zs.take k).any p || p (zs.getD k 0)) := by
  rw [List.take_succ_eq_append_getElem h, List.getD_eq_getElem?_getD, List.getElem?_eq_getElem h]
  simp only [List.any_append, List.any_cons, List.any_nil, Bool.or_false, Option.getD_some]
theorem anyP_mono {p : Int → Bool} {zs : List Int} {k : Nat} (h : (zs.take k).any p = true) : zs.any p = true := by
  rw [List.any_eq_true] at *
  obtain ⟨x, hx, h2⟩ := h
  exact ⟨x, List.mem_of_mem_take hx, h2⟩
theorem getD_memA {α : Type} {l : List α} {k : Nat} {d : α} (h : k < l.length) : l.getD k d ∈ l := by
  rw [List.getD_eq_getElem?_getD, List.getElem?_eq_getElem h]
  exact List.getElem_mem h
/-- A list of which the first t are those that a function tells of another one's. -/
def Mp1 {α : Type} (l : List α) (d : α) (k : α → Nat) (m : List Nat) (t : Nat) : Prop := m.length = l.length ∧ ∀ i, i < t → m.getD i 0 = k (l.getD i d)
theorem Mp1.zero {α : Type} (l : List α) (d : α) (k : α → Nat) : Mp1 l d k (List.replicate l.length 0) 0 := ⟨List.length_replicate, fun _ h => absurd h (by omega)⟩
theorem Mp1.step {α : Type} {l : List α} {d : α} {k : α → Nat} {m : List Nat} {t : Nat} (h : Mp1 l d k m t) (ht : t < l.length) : Mp1 l d k (m.set t (k (l.getD t d))) (t + 1) := by
  refine ⟨by rw [List.length_set]; exact h.1, fun i hi => ?_⟩
  rw [List.getD_eq_getElem?_getD, List.getElem?_set]
  by_cases e : t = i
  · subst e
    rw [if_pos rfl, if_pos (by rw [h.1]; exact ht)]; rfl
  · rw [if_neg e, ← List.getD_eq_getElem?_getD]
    exact h.2 i (by omega)
theorem Mp1.done {α : Type} {l : List α} {d : α} {k : α → Nat} {m : List Nat} (h : Mp1 l d k m l.length) : m = l.map k := by
  apply List.ext_getElem (by rw [h.1, List.length_map])
  intro i h1 h2
  have := h.2 i (by rw [← h.1]; exact h1)
  rw [List.getD_eq_getElem?_getD, List.getD_eq_getElem?_getD, List.getElem?_eq_getElem h1, List.getElem?_eq_getElem (by rw [← h.1]; exact h1)] at this
  simpa using this
end Go.Inc
namespace Go.Proofs.Ytbhpfdpcafdeaaa
open Go.RowKit Go.Inc
theorem infoU8A : (Try.prog.info? 5).map (fun i => (i.zero, i.size, i.bytes)) = some (some (.int .u8 0), 1, 1) := by kernel_rfl
/-- May it be in a text? -/
def symB (z : Int) : Bool := decide (0 ≤ z) && decide (z < 258)
theorem symB_iff {z : Int} : symB z = true ↔ 0 ≤ z ∧ z < 258 := by unfold symB; simp
theorem isSymbol_any (x : World) (z : Int) (hz : i64a z) : Calls Try.prog 38 #[.int .i64 z] x fun e w' => e = .returned (.bool (symB z)) ∧ x = w' := by
  obtain ⟨h1, h2⟩ := hz
  by_cases h3 : 0 ≤ z
  · by_cases h4 : z < 258
    · have e : Hid (symB z = true) := hid (by unfold symB; simp [h3, h4])
      go_enter Try.func38, Try.ntmps38
      go_wp2_with fail
      go_ret
      exact ⟨by rw [e.out] <;> rfl, rfl⟩
    · have e : Hid (symB z = false) := hid (by unfold symB; simp [h4])
      go_enter Try.func38, Try.ntmps38
      go_wp2_with fail
      go_ret
      exact ⟨by rw [e.out] <;> rfl, rfl⟩
  · have e : Hid (symB z = false) := hid (by unfold symB; simp [h3])
    go_enter Try.func38, Try.ntmps38
    go_wp2_with fail
    go_ret
    exact ⟨by rw [e.out] <;> rfl, rfl⟩
/-- A function that has a body. -/
def Goes (F : FuncId) : Prop := ∀ (args : Array Value) (w : World), (callFunc F args).run Try.prog w = .ok (.enter F args) w
/-- What a closure tells of each of these, the memory as it is. -/
def TellsB (x : World) (F : FuncId) (cp : Array Value) (zs : List Int) (p : Int → Bool) : Prop := Goes F ∧
  ∀ y, Below x.heap.size x y → ∀ z ∈ zs, Calls Try.prog F (#[.int .i64 z] ++ cp) y fun e y' => e = .returned (.bool (p z)) ∧ y = y'
def IdxP (p : Int → Bool) (zs : List Int) (w : World) (e : Ending) (w' : World) : Prop := ∃ r : Int, e = .returned (.int .i64 r) ∧ decide (0 ≤ r) = zs.any p ∧ w = w'
set_option maxHeartbeats 1000000 in
theorem indexF_any (ok : Nat → Prop) (x : World) (a : Option Addr) (c : Nat) (zs : List Int) (F : FuncId) (cp : Array Value) (p : Int → Bool) (hs : Si ok x a zs) (hl : (zs.length : Int) ≤ 65536) (hf : TellsB x F cp zs p) :
    Calls Try.prog 57 #[.slice a zs.length c, .func (Fn.func F) #[] cp] x (IdxP p zs x) := by
  have HS := hid hs
  have HF := hid hf
  obtain ⟨n, hn⟩ : ∃ n, n = zs.length := ⟨_, rfl⟩
  have HN := hid hn
  rw [← hn] at hl ⊢
  clear hs hn hf
  go_enter Try.func57, Try.ntmps57
  go_wp2_with fail
  go_loop [8] (fun i => ∃ k : Nat, k ≤ n ∧ i = .int .i64 (k : Int) ∧ (zs.take k).any p = false) (fun i => n - (intOf i).toNat)
  case atStart => exact ⟨0, Nat.zero_le _, rfl, rfl⟩
  case round =>
    obtain ⟨k, hk, rfl, hn⟩ := hrel
    have HP := hid hn
    clear hn
    by_cases hlt : (k : Int) < n
    · obtain ⟨b, o, rfl, hc⟩ : ∃ b o, a = some ⟨b, o, none⟩ ∧ x.cell? ⟨b, o + k, none⟩ = some (.int .i64 (zs.getD k 0)) := by
        rcases HS.out with h | ⟨b, o, h, _, hc⟩
        · have := HN.out; rw [h] at this; simp at this; omega
        · exact ⟨b, o, h, hc k (by rw [← HN.out]; omega)⟩
      have hs := hid (anyP_snoc (p := p) (zs := zs) (k := k) (by rw [← HN.out]; omega))
      have hm := hid (anyP_mono (p := p) (zs := zs) (k := k + 1))
      have HC := hid (HF.out.2 x (Below.refl _ _) (zs.getD k 0) (getD_memA (by rw [← HN.out]; omega)))
      generalize zs.getD k 0 = z at *
      have hkl : (k < n) = True := eq_true (by omega)
      cases hz : p z
      · go_wp2_with fail
        rw [HF.out.1, Oper.upon_enter]
        refine HC.out.mono ?_
        rintro e w' ⟨rfl, rfl⟩
        rw [hz]
        go_wp2_with fail
        go_round
        case rel => exact ⟨k + 1, by omega, by go_num, by rw [hs.out, HP.out]; simp [hz]⟩
        case measure => simp [intOf]; omega
      · go_wp2_with fail
        rw [HF.out.1, Oper.upon_enter]
        refine HC.out.mono ?_
        rintro e w' ⟨rfl, rfl⟩
        rw [hz]
        go_wp2_with fail
        go_ret
        refine ⟨_, rfl, ?_, rfl⟩
        rw [hm.out (by rw [hs.out]; simp [hz])]
        simp
    · have hkl : (k < n) = False := eq_false (by omega)
      have HE : Hid (zs.take k = zs) := hid (List.take_of_length_le (by rw [← HN.out]; omega))
      clear hlt
      go_wp2_with fail
      go_ret
      refine ⟨-1, rfl, ?_, rfl⟩
      have := HP.out
      rw [HE.out] at this
      rw [this]; decide
theorem containsF_any (ok : Nat → Prop) (x : World) (a : Option Addr) (c : Nat) (zs : List Int) (F : FuncId) (cp : Array Value) (p : Int → Bool) (hs : Si ok x a zs) (hl : (zs.length : Int) ≤ 65536) (hf : TellsB x F cp zs p) :
    Calls Try.prog 36 #[.slice a zs.length c, .func (Fn.func F) #[] cp] x fun e w' => e = .returned (.bool (zs.any p)) ∧ x = w' := by
  have H := hid (indexF_any ok x a c zs F cp p hs hl hf)
  clear hs hl hf
  go_enter Try.func36, Try.ntmps36
  go_wp2_with fail
  refine H.out.mono ?_
  rintro e w' ⟨r, rfl, hr, rfl⟩
  have HR := hid hr
  clear hr
  go_wp2_with fail
  go_ret
  exact ⟨ret_bool HR.out, rfl⟩

def TellsI (x : World) (F : FuncId) (cp : Array Value) (zs : List Int) (k : Int → Nat) : Prop := Goes F ∧
  ∀ y, Below x.heap.size x y → ∀ z ∈ zs, Calls Try.prog F (#[.int .i64 z] ++ cp) y fun e y' => e = .returned (.int .i64 (k z : Nat)) ∧ y = y'
set_option maxRecDepth 20000 in
set_option maxHeartbeats 2000000 in
theorem mappedI_any (ok : Nat → Prop) (x : World) (a : Option Addr) (c : Nat) (zs : List Int) (F : FuncId) (cp : Array Value) (k : Int → Nat) (hs : Si ok x a zs) (hl : (zs.length : Int) ≤ 65536) (hf : TellsI x F cp zs k) :
    Calls Try.prog 43 #[.slice a zs.length c, .func (Fn.func F) #[] cp] x fun e w' => ∃ g, e = .returned (.slice (some ⟨g, 0, none⟩) zs.length zs.length) ∧ w'.ownsRow x.heap.size 3 1 (.slice (some ⟨g, 0, none⟩) zs.length zs.length) zs.length (nvals (zs.map k)) ∧ Below x.heap.size x w' := by
  have HS := hid hs
  have HF := hid hf
  have HZ := hid (Mp1.zero zs 0 k)
  obtain ⟨n, hn⟩ : ∃ n, n = zs.length := ⟨_, rfl⟩
  have HN := hid hn
  rw [← hn] at hl HZ ⊢
  obtain ⟨i0, hi, hz0, hz1, hz2⟩ := info_parts infoIntA
  have HI := hid (And.intro hi (And.intro hz0 (And.intro hz1 hz2)))
  clear hs hf hn hi hz0 hz1 hz2
  go_enter Try.func43, Try.ntmps43
  go_wp2_with (refine wpList_make_full _ rfl _ _ 23 rfl x.heap.size 3 i0 (.int .i64 0) 1 Try.underlying23 HI.out.1 HI.out.2.1 HI.out.2.2.1 .i64 .i64 _ _ n rfl rfl rfl rfl (by rw [HI.out.2.2.2]; omega) (by unfold maxLen; omega) (Nat.le_refl _) ?_)
  intro w1 hown hg
  have HR : Hid (w1.ownsRow x.heap.size 3 1 (.slice (some ⟨x.heap.size, 0, none⟩) n n) n (nvals (List.replicate n 0))) := hid (by rw [nvals_zerosA n] at hown; exact hown)
  have HB1 : Hid (Below x.heap.size x w1) := hid ⟨hg.os, hg.tape, hg.output, hg.size, fun i hi => hg.block i hi (by simp)⟩
  clear hown hg HI
  obtain ⟨g, hg⟩ : ∃ g, g = x.heap.size := ⟨_, rfl⟩
  rw [← hg] at HR ⊢
  have HG := hid hg
  clear hg
  go_wp2_with fail
  go_loopw [13] (fun i wr => ∃ (t : Nat) (m : List Nat), t ≤ n ∧ i = .int .i64 (t : Int) ∧ Mp1 zs 0 k m t ∧ wr.ownsRow g 3 1 (.slice (some ⟨g, 0, none⟩) n n) n (nvals m) ∧ Below x.heap.size x wr) (fun i _ => n - (intOf i).toNat)
  case atStart => exact ⟨0, _, Nat.zero_le _, rfl, HZ.out, HR.out, HB1.out⟩
  case round =>
    clear HR HB1 HZ
    obtain ⟨t, m, ht, rfl, hml, hr, hb⟩ := hrel
    have HML := hid hml
    have HR := hid hr
    have HB := hid hb
    clear hml hr hb
    by_cases hlt : (t : Int) < n
    · obtain ⟨b, o, rfl, hc⟩ : ∃ b o, a = some ⟨b, o, none⟩ ∧ wr.cell? ⟨b, o + t, none⟩ = some (.int .i64 (zs.getD t 0)) := by
        rcases HS.out.below HB.out with h | ⟨b, o, h, _, hc⟩
        · have := HN.out; rw [h] at this; simp at this; omega
        · exact ⟨b, o, h, hc t (by rw [← HN.out]; omega)⟩
      have HC := hid (HF.out.2 wr HB.out (zs.getD t 0) (getD_memA (by rw [← HN.out]; omega)))
      have HST := hid (HML.out.step (show t < zs.length by rw [← HN.out]; omega))
      generalize zs.getD t 0 = z at *
      obtain ⟨y, hy⟩ : ∃ y, y = k z := ⟨_, rfl⟩
      rw [← hy] at HC HST
      have HNEW : Hid ((wr.setCell ⟨g, t, none⟩ (.int .i64 (y : Nat))).ownsRow g 3 1 (.slice (some ⟨g, 0, none⟩) n n) n (nvals (m.set t y)) ∧ Below x.heap.size x (wr.setCell ⟨g, t, none⟩ (.int .i64 (y : Nat)))) := hid (by
        have h := HR.out.stored t (.int .i64 (y : Nat))
        rw [nvals_setA] at h
        exact ⟨h.1, below_grown HB.out h.2 (by rw [HG.out]; exact Nat.le_refl _) HB.out.size⟩)
      have j3 : wr.cell? ⟨g, t, none⟩ = some (.int .i64 ((m.getD t 0 : Nat) : Int)) := by
        have h := HR.out.cells (g := g) rfl t _ (nvals_get (by rw [HML.out.1, ← HN.out]; omega))
        rw [Addr.add_lit] at h
        simpa using h
      have jf := HR.out.frozenAt t
      have hkl : (t < n) = True := eq_true (by omega)
      have HTL : Hid (t < n) := hid (by omega)
      generalize m.getD t 0 = old at *
      clear hy hlt HR HB HML
      go_wp2_with fail
      rw [HF.out.1, Oper.upon_enter]
      refine HC.out.mono ?_
      rintro e w' ⟨rfl, rfl⟩
      go_wp2_with fail
      go_roundw
      case rel => exact ⟨t + 1, m.set t y, HTL.out, by go_num, HST.out, HNEW.out.1, HNEW.out.2⟩
      case measure => simp [intOf]; have := HTL.out; omega
    · have hkl : (t < n) = False := eq_false (by omega)
      have HTE : Hid (t = zs.length) := hid (by rw [← HN.out]; omega)
      clear hlt
      go_wp2_with fail
      go_ret
      have hd := HML.out
      rw [HTE.out] at hd
      refine ⟨g, rfl, ?_, HB.out⟩
      rw [← hd.done, ← HG.out]
      exact HR.out

def TellsY (x : World) (F : FuncId) (cp : Array Value) (zs : List Nat) (k : Nat → Nat) : Prop := Goes F ∧
  ∀ y, Below x.heap.size x y → ∀ z ∈ zs, Calls Try.prog F (#[.int .u8 (z : Nat)] ++ cp) y fun e y' => e = .returned (.int .i64 (k z : Nat)) ∧ y = y'
set_option maxRecDepth 20000 in
set_option maxHeartbeats 2000000 in
theorem mappedY_any (ok : Nat → Prop) (x : World) (a : Option Addr) (c : Nat) (zs : List Nat) (F : FuncId) (cp : Array Value) (k : Nat → Nat) (hs : Sl ok x a zs) (hl : (zs.length : Int) ≤ 65536) (hf : TellsY x F cp zs k) :
    Calls Try.prog 54 #[.slice a zs.length c, .func (Fn.func F) #[] cp] x fun e w' => ∃ g, e = .returned (.slice (some ⟨g, 0, none⟩) zs.length zs.length) ∧ w'.ownsRow x.heap.size 3 1 (.slice (some ⟨g, 0, none⟩) zs.length zs.length) zs.length (nvals (zs.map k)) ∧ Below x.heap.size x w' := by
  have HS := hid hs
  have HF := hid hf
  have HZ := hid (Mp1.zero zs 0 k)
  obtain ⟨n, hn⟩ : ∃ n, n = zs.length := ⟨_, rfl⟩
  have HN := hid hn
  rw [← hn] at hl HZ ⊢
  obtain ⟨i0, hi, hz0, hz1, hz2⟩ := info_parts infoIntA
  have HI := hid (And.intro hi (And.intro hz0 (And.intro hz1 hz2)))
  clear hs hf hn hi hz0 hz1 hz2
  go_enter Try.func54, Try.ntmps54
  go_wp2_with (refine wpList_make_full _ rfl _ _ 23 rfl x.heap.size 3 i0 (.int .i64 0) 1 Try.underlying23 HI.out.1 HI.out.2.1 HI.out.2.2.1 .i64 .i64 _ _ n rfl rfl rfl rfl (by rw [HI.out.2.2.2]; omega) (by unfold maxLen; omega) (Nat.le_refl _) ?_)
  intro w1 hown hg
  have HR : Hid (w1.ownsRow x.heap.size 3 1 (.slice (some ⟨x.heap.size, 0, none⟩) n n) n (nvals (List.replicate n 0))) := hid (by rw [nvals_zerosA n] at hown; exact hown)
  have HB1 : Hid (Below x.heap.size x w1) := hid ⟨hg.os, hg.tape, hg.output, hg.size, fun i hi => hg.block i hi (by simp)⟩
  clear hown hg HI
  obtain ⟨g, hg⟩ : ∃ g, g = x.heap.size := ⟨_, rfl⟩
  rw [← hg] at HR ⊢
  have HG := hid hg
  clear hg
  go_wp2_with fail
  go_loopw [13] (fun i wr => ∃ (t : Nat) (m : List Nat), t ≤ n ∧ i = .int .i64 (t : Int) ∧ Mp1 zs 0 k m t ∧ wr.ownsRow g 3 1 (.slice (some ⟨g, 0, none⟩) n n) n (nvals m) ∧ Below x.heap.size x wr) (fun i _ => n - (intOf i).toNat)
  case atStart => exact ⟨0, _, Nat.zero_le _, rfl, HZ.out, HR.out, HB1.out⟩
  case round =>
    clear HR HB1 HZ
    obtain ⟨t, m, ht, rfl, hml, hr, hb⟩ := hrel
    have HML := hid hml
    have HR := hid hr
    have HB := hid hb
    clear hml hr hb
    by_cases hlt : (t : Int) < n
    · obtain ⟨b, o, rfl, hc⟩ : ∃ b o, a = some ⟨b, o, none⟩ ∧ wr.cell? ⟨b, o + t, none⟩ = some (.int .u8 ((zs.getD t 0) : Nat)) := by
        rcases HS.out.below HB.out with h | ⟨b, o, h, _, hc⟩
        · have := HN.out; rw [h] at this; simp at this; omega
        · exact ⟨b, o, h, hc t (by rw [← HN.out]; omega)⟩
      have HC := hid (HF.out.2 wr HB.out (zs.getD t 0) (getD_memA (by rw [← HN.out]; omega)))
      have HST := hid (HML.out.step (show t < zs.length by rw [← HN.out]; omega))
      generalize zs.getD t 0 = z at *
      obtain ⟨y, hy⟩ : ∃ y, y = k z := ⟨_, rfl⟩
      rw [← hy] at HC HST
      have HNEW : Hid ((wr.setCell ⟨g, t, none⟩ (.int .i64 (y : Nat))).ownsRow g 3 1 (.slice (some ⟨g, 0, none⟩) n n) n (nvals (m.set t y)) ∧ Below x.heap.size x (wr.setCell ⟨g, t, none⟩ (.int .i64 (y : Nat)))) := hid (by
        have h := HR.out.stored t (.int .i64 (y : Nat))
        rw [nvals_setA] at h
        exact ⟨h.1, below_grown HB.out h.2 (by rw [HG.out]; exact Nat.le_refl _) HB.out.size⟩)
      have j3 : wr.cell? ⟨g, t, none⟩ = some (.int .i64 ((m.getD t 0 : Nat) : Int)) := by
        have h := HR.out.cells (g := g) rfl t _ (nvals_get (by rw [HML.out.1, ← HN.out]; omega))
        rw [Addr.add_lit] at h
        simpa using h
      have jf := HR.out.frozenAt t
      have hkl : (t < n) = True := eq_true (by omega)
      have HTL : Hid (t < n) := hid (by omega)
      generalize m.getD t 0 = old at *
      clear hy hlt HR HB HML
      go_wp2_with fail
      rw [HF.out.1, Oper.upon_enter]
      refine HC.out.mono ?_
      rintro e w' ⟨rfl, rfl⟩
      go_wp2_with fail
      go_roundw
      case rel => exact ⟨t + 1, m.set t y, HTL.out, by go_num, HST.out, HNEW.out.1, HNEW.out.2⟩
      case measure => simp [intOf]; have := HTL.out; omega
    · have hkl : (t < n) = False := eq_false (by omega)
      have HTE : Hid (t = zs.length) := hid (by rw [← HN.out]; omega)
      clear hlt
      go_wp2_with fail
      go_ret
      have hd := HML.out
      rw [HTE.out] at hd
      refine ⟨g, rfl, ?_, HB.out⟩
      rw [← hd.done, ← HG.out]
      exact HR.out

def TellsO (x : World) (F : FuncId) (cp : Array Value) (zs : List Int) (k : Int → Nat) : Prop := Goes F ∧
  ∀ y, Below x.heap.size x y → ∀ z ∈ zs, Calls Try.prog F (#[.int .i64 z] ++ cp) y fun e y' => e = .returned (.int .u8 (k z : Nat)) ∧ y = y'
set_option maxRecDepth 20000 in
set_option maxHeartbeats 2000000 in
theorem mappedO_any (ok : Nat → Prop) (x : World) (a : Option Addr) (c : Nat) (zs : List Int) (F : FuncId) (cp : Array Value) (k : Int → Nat) (hs : Si ok x a zs) (hl : (zs.length : Int) ≤ 65536) (hf : TellsO x F cp zs k) :
    Calls Try.prog 34 #[.slice a zs.length c, .func (Fn.func F) #[] cp] x fun e w' => ∃ g, e = .returned (.slice (some ⟨g, 0, none⟩) zs.length zs.length) ∧ w'.ownsRow x.heap.size 5 1 (.slice (some ⟨g, 0, none⟩) zs.length zs.length) zs.length (u8s (zs.map k)) ∧ Below x.heap.size x w' := by
  have HS := hid hs
  have HF := hid hf
  have HZ := hid (Mp1.zero zs 0 k)
  obtain ⟨n, hn⟩ : ∃ n, n = zs.length := ⟨_, rfl⟩
  have HN := hid hn
  rw [← hn] at hl HZ ⊢
  obtain ⟨i0, hi, hz0, hz1, hz2⟩ := info_parts infoU8A
  have HI := hid (And.intro hi (And.intro hz0 (And.intro hz1 hz2)))
  clear hs hf hn hi hz0 hz1 hz2
  go_enter Try.func34, Try.ntmps34
  go_wp2_with (refine wpList_make_full _ rfl _ _ 49 rfl x.heap.size 5 i0 (.int .u8 0) 1 Try.underlying49 HI.out.1 HI.out.2.1 HI.out.2.2.1 .i64 .i64 _ _ n rfl rfl rfl rfl (by rw [HI.out.2.2.2]; omega) (by unfold maxLen; omega) (Nat.le_refl _) ?_)
  intro w1 hown hg
  have HR : Hid (w1.ownsRow x.heap.size 5 1 (.slice (some ⟨x.heap.size, 0, none⟩) n n) n (u8s (List.replicate n 0))) := hid (by rw [u8s_zerosA n] at hown; exact hown)
  have HB1 : Hid (Below x.heap.size x w1) := hid ⟨hg.os, hg.tape, hg.output, hg.size, fun i hi => hg.block i hi (by simp)⟩
  clear hown hg HI
  obtain ⟨g, hg⟩ : ∃ g, g = x.heap.size := ⟨_, rfl⟩
  rw [← hg] at HR ⊢
  have HG := hid hg
  clear hg
  go_wp2_with fail
  go_loopw [13] (fun i wr => ∃ (t : Nat) (m : List Nat), t ≤ n ∧ i = .int .i64 (t : Int) ∧ Mp1 zs 0 k m t ∧ wr.ownsRow g 5 1 (.slice (some ⟨g, 0, none⟩) n n) n (u8s m) ∧ Below x.heap.size x wr) (fun i _ => n - (intOf i).toNat)
  case atStart => exact ⟨0, _, Nat.zero_le _, rfl, HZ.out, HR.out, HB1.out⟩
  case round =>
    clear HR HB1 HZ
    obtain ⟨t, m, ht, rfl, hml, hr, hb⟩ := hrel
    have HML := hid hml
    have HR := hid hr
    have HB := hid hb
    clear hml hr hb
    by_cases hlt : (t : Int) < n
    · obtain ⟨b, o, rfl, hc⟩ : ∃ b o, a = some ⟨b, o, none⟩ ∧ wr.cell? ⟨b, o + t, none⟩ = some (.int .i64 (zs.getD t 0)) := by
        rcases HS.out.below HB.out with h | ⟨b, o, h, _, hc⟩
        · have := HN.out; rw [h] at this; simp at this; omega
        · exact ⟨b, o, h, hc t (by rw [← HN.out]; omega)⟩
      have HC := hid (HF.out.2 wr HB.out (zs.getD t 0) (getD_memA (by rw [← HN.out]; omega)))
      have HST := hid (HML.out.step (show t < zs.length by rw [← HN.out]; omega))
      generalize zs.getD t 0 = z at *
      obtain ⟨y, hy⟩ : ∃ y, y = k z := ⟨_, rfl⟩
      rw [← hy] at HC HST
      have HNEW : Hid ((wr.setCell ⟨g, t, none⟩ (.int .u8 (y : Nat))).ownsRow g 5 1 (.slice (some ⟨g, 0, none⟩) n n) n (u8s (m.set t y)) ∧ Below x.heap.size x (wr.setCell ⟨g, t, none⟩ (.int .u8 (y : Nat)))) := hid (by
        have h := HR.out.stored t (.int .u8 (y : Nat))
        rw [u8s_set] at h
        exact ⟨h.1, below_grown HB.out h.2 (by rw [HG.out]; exact Nat.le_refl _) HB.out.size⟩)
      have j3 : wr.cell? ⟨g, t, none⟩ = some (.int .u8 ((m.getD t 0 : Nat) : Int)) := by
        have h := HR.out.cells (g := g) rfl t _ (u8s_get (by rw [HML.out.1, ← HN.out]; omega))
        rw [Addr.add_lit] at h
        simpa using h
      have jf := HR.out.frozenAt t
      have hkl : (t < n) = True := eq_true (by omega)
      have HTL : Hid (t < n) := hid (by omega)
      generalize m.getD t 0 = old at *
      clear hy hlt HR HB HML
      go_wp2_with fail
      rw [HF.out.1, Oper.upon_enter]
      refine HC.out.mono ?_
      rintro e w' ⟨rfl, rfl⟩
      go_wp2_with fail
      go_roundw
      case rel => exact ⟨t + 1, m.set t y, HTL.out, by go_num, HST.out, HNEW.out.1, HNEW.out.2⟩
      case measure => simp [intOf]; have := HTL.out; omega
    · have hkl : (t < n) = False := eq_false (by omega)
      have HTE : Hid (t = zs.length) := hid (by rw [← HN.out]; omega)
      clear hlt
      go_wp2_with fail
      go_ret
      have hd := HML.out
      rw [HTE.out] at hd
      refine ⟨g, rfl, ?_, HB.out⟩
      rw [← hd.done, ← HG.out]
      exact HR.out
end Go.Proofs.Ytbhpfdpcafdeaaa
namespace Go.Inc
open Go.RowKit
/-- What a table's arrays tell of its symbols. -/
structure TbI (O K B : Nat → Nat) (ss cs : List Nat) : Prop where
  len : cs.length = ss.length
  few : ss.length ≤ 258
  lt : ∀ s ∈ ss, s < 258
  mem : ∀ s, s < 258 → (0 < O s ↔ s ∈ ss)
  often : ∀ i, i < ss.length → O (ss.getD i 0) = cs.getD i 0
  code : ∀ s ∈ ss, K s = ss.idxOf s
  below : ∀ i, i ≤ ss.length → B i = (cs.take i).sum
  most : cs.sum ≤ 65536
/-- A table's variable: how often, codes, symbols, how many are below. -/
structure TbF (w : World) (b : Nat) (O K B : Nat → Nat) (v : Value) : Prop where
  often : ∀ i, i < 258 → w.cell? ⟨b, i, none⟩ = some (.int .i64 ((O i : Nat) : Int))
  codes : ∀ i, i < 258 → w.cell? ⟨b, 258 + i, none⟩ = some (.int .i64 ((K i : Nat) : Int))
  syms : w.cell? ⟨b, 516, none⟩ = some v
  below : ∀ i, i < 259 → w.cell? ⟨b, 517 + i, none⟩ = some (.int .i64 ((B i : Nat) : Int))
def Tb (w : World) (b : Nat) (ss cs : List Nat) : Prop :=
  ∃ O K B a c, TbF w b O K B (.slice a ss.length c) ∧ Si (fun _ => True) w a (nZ ss) ∧ (ss.length ≤ c ∧ c ≤ maxLen) ∧ TbI O K B ss cs
theorem TbF.kept {w w' : World} {b : Nat} {O K B : Nat → Nat} {v : Value} (h : TbF w b O K B v) (hb : Below w.heap.size w w') : TbF w' b O K B v := by
  have e : ∀ j u, w.cell? ⟨b, j, none⟩ = some u → w'.cell? ⟨b, j, none⟩ = some u := fun j u hc => by
    rw [← hc]; exact World.cell?_of_block (hb.block b (cell_lt hc))
  exact ⟨fun i hi => e _ _ (h.often i hi), fun i hi => e _ _ (h.codes i hi), e _ _ h.syms, fun i hi => e _ _ (h.below i hi)⟩
theorem Tb.kept {w w' : World} {b : Nat} {ss cs : List Nat} (h : Tb w b ss cs) (hb : Below w.heap.size w w') : Tb w' b ss cs := by
  obtain ⟨O, K, B, a, c, h1, h2, h3, h4⟩ := h
  exact ⟨O, K, B, a, c, h1.kept hb, h2.below hb, h3, h4⟩
theorem getD_memN {l : List Nat} {i : Nat} (h : i < l.length) : l.getD i 0 ∈ l := getD_memA h
end Go.Inc
namespace Go.Proofs.Ytbhpfdpcafdeaaa
open Go.RowKit Go.Inc
section
variable {x : World} {b : Nat} {O K B : Nat → Nat} {v : Value} {ss cs : List Nat}
/-- Is it one of the symbols? -/
def ssB (ss : List Nat) (z : Int) : Bool := decide (0 ≤ z ∧ z.toNat ∈ ss)
theorem hasSymbol_any (x : World) (b : Nat) (O K B : Nat → Nat) (v : Value) (ss cs : List Nat) (hf : TbF x b O K B v) (hi : TbI O K B ss cs) (z : Int) (hz : i64a z) :
    Calls Try.prog 41 #[.pointer (some ⟨b, 0, none⟩), .int .i64 z] x fun e w' => e = .returned (.bool (ssB ss z)) ∧ x = w' := by
  have HIS := hid (isSymbol_any x z hz)
  by_cases hs : symB z = true
  · obtain ⟨h1, h2⟩ := symB_iff.1 hs
    obtain ⟨s, rfl⟩ : ∃ s : Nat, z = (s : Int) := ⟨z.toNat, by omega⟩
    have hc := hf.often s (by omega)
    have hm := hi.mem s (by omega)
    have HE : Hid (ssB ss (s : Int) = decide (0 < O s)) := hid (by
      unfold ssB
      rw [decide_eq_decide, hm, Int.toNat_natCast]
      exact ⟨fun h => h.2, fun h => ⟨by omega, h⟩⟩)
    generalize O s = y at *
    rw [hs] at HIS
    clear hs hf hi hm hz
    by_cases hy : 0 < y
    · have e1 : Hid (decide (0 < y) = true) := hid (decide_eq_true hy)
      have e2 : (0 < y) = True := eq_true hy
      clear hy
      go_enter Try.func41, Try.ntmps41
      go_wp2_with fail
      refine HIS.out.mono ?_
      rintro e w' ⟨rfl, rfl⟩
      go_wp2_with fail
      go_ret
      exact ⟨by rw [HE.out, e1.out] <;> rfl, rfl⟩
    · have e1 : Hid (decide (0 < y) = false) := hid (decide_eq_false hy)
      have e2 : (0 < y) = False := eq_false hy
      have e3 : y = 0 := by omega
      subst e3
      clear hy e2
      go_enter Try.func41, Try.ntmps41
      go_wp2_with fail
      refine HIS.out.mono ?_
      rintro e w' ⟨rfl, rfl⟩
      go_wp2_with fail
      go_ret
      exact ⟨by rw [HE.out, e1.out] <;> rfl, rfl⟩
  · have HE : Hid (ssB ss z = false) := hid (by
      unfold ssB
      rw [decide_eq_false_iff_not]
      rintro ⟨h1, h2⟩
      exact hs (symB_iff.2 ⟨h1, by have := hi.lt _ h2; omega⟩))
    rw [Bool.not_eq_true] at hs
    rw [hs] at HIS
    clear hs hf hi
    go_enter Try.func41, Try.ntmps41
    go_wp2_with fail
    refine HIS.out.mono ?_
    rintro e w' ⟨rfl, rfl⟩
    go_wp2_with fail
    go_ret
    exact ⟨by rw [HE.out] <;> rfl, rfl⟩
/-- Has one of them that code? -/
def scB (n : Nat) (z : Int) : Bool := decide (0 ≤ z ∧ z < n)
theorem hasCode_any (x : World) (b : Nat) (O K B : Nat → Nat) (a : Option Addr) (n c : Nat) (hf : TbF x b O K B (.slice a n c)) (z : Int) (hz : i64a z) :
    Calls Try.prog 40 #[.pointer (some ⟨b, 0, none⟩), .int .i64 z] x fun e w' => e = .returned (.bool (scB n z)) ∧ x = w' := by
  have hc := hf.syms
  obtain ⟨h1, h2⟩ := hz
  by_cases h3 : 0 ≤ z
  · by_cases h4 : z < n
    · have HE : Hid (scB n z = true) := hid (decide_eq_true ⟨h3, h4⟩)
      clear hf
      go_enter Try.func40, Try.ntmps40
      go_wp2_with fail
      go_ret
      exact ⟨by rw [HE.out] <;> rfl, rfl⟩
    · have HE : Hid (scB n z = false) := hid (decide_eq_false fun h => h4 h.2)
      have h5 : (z < (n : Int)) = False := eq_false h4
      clear hf h4
      go_enter Try.func40, Try.ntmps40
      go_wp2_with fail
      go_ret
      exact ⟨by rw [HE.out] <;> rfl, rfl⟩
  · have HE : Hid (scB n z = false) := hid (decide_eq_false fun h => h3 h.1)
    clear hf hc
    go_enter Try.func40, Try.ntmps40
    go_wp2_with fail
    go_ret
    exact ⟨by rw [HE.out] <;> rfl, rfl⟩
theorem pSigma_any (x : World) (b : Nat) (ss cs : List Nat) (h : Tb x b ss cs) : Calls Try.prog 17 #[.pointer (some ⟨b, 0, none⟩)] x fun e w' => e = .returned (.int .i64 (ss.length : Int)) ∧ Below x.heap.size x w' := by
  obtain ⟨O, K, B, a, c, hf, -, -, -⟩ := h
  have hc := hf.syms
  generalize ss.length = n at *
  clear hf
  go_enter Try.func17, Try.ntmps17
  go_wp2_with fail
  go_ret
  exact ⟨rfl, Below.refl _ _⟩
theorem pC_any (x : World) (b : Nat) (ss cs : List Nat) (i : Int) (h : Tb x b ss cs) (hi : i64a i) : Calls Try.prog 19 #[.pointer (some ⟨b, 0, none⟩), .int .i64 i] x fun e w' => ∃ z, e = .returned (.tuple #[.int .i64 z, .int .i64 (if 0 ≤ i ∧ i ≤ ss.length then 0 else 10)]) ∧ (0 ≤ i ∧ i ≤ ss.length → z = ((cs.take i.toNat).sum : Nat)) ∧ Below x.heap.size x w' := by
  obtain ⟨O, K, B, a, c, hf, -, -, ht⟩ := h
  have hc := hf.syms
  obtain ⟨h1, h2⟩ := hi
  have hfew := ht.few
  by_cases h3 : 0 ≤ i
  · obtain ⟨s, rfl⟩ : ∃ s : Nat, i = (s : Int) := ⟨i.toNat, by omega⟩
    by_cases h4 : s ≤ ss.length
    · have hb := hf.below s (by omega)
      have HBS := hid (ht.below s h4)
      have HI : Hid (0 ≤ (s : Int) ∧ (s : Int) ≤ ss.length) := hid ⟨h3, by omega⟩
      have h5 : (s : Int) ≤ (ss.length : Int) := by omega
      have h6 : (s : Int) ≤ 258 := by omega
      rw [if_pos HI.out]
      generalize B s = y at *
      generalize ss.length = n at *
      clear hf ht h1 h2 h4 hfew
      go_enter Try.func19, Try.ntmps19
      go_wp2_with fail
      go_ret2
      exact ⟨(y : Int), rfl, fun _ => by rw [HBS.out, Int.toNat_natCast], Below.refl _ _⟩
    · have HI : Hid (¬ (0 ≤ (s : Int) ∧ (s : Int) ≤ ss.length)) := hid (by omega)
      have h5 : (ss.length : Int) < (s : Int) := by omega
      rw [if_neg HI.out]
      generalize ss.length = n at *
      clear hf ht h4 hfew
      go_enter Try.func19, Try.ntmps19
      go_wp2_with fail
      go_ret2
      exact ⟨0, rfl, fun h => by have := HI.out; omega, Below.refl _ _⟩
  · have HI : Hid (¬ (0 ≤ i ∧ i ≤ ss.length)) := hid (by omega)
    rw [if_neg HI.out]
    generalize ss.length = n at *
    clear hf ht hfew hc
    go_enter Try.func19, Try.ntmps19
    go_wp2_with fail
    go_ret2
    exact ⟨0, rfl, fun h => by have := HI.out; omega, Below.refl _ _⟩
theorem pSymbol_any (x : World) (b : Nat) (ss cs : List Nat) (i : Int) (h : Tb x b ss cs) (hi : i64a i) : Calls Try.prog 20 #[.pointer (some ⟨b, 0, none⟩), .int .i64 i] x fun e w' => ∃ z, e = .returned (.tuple #[.int .i64 z, .int .i64 (if 0 ≤ i ∧ i < ss.length then 0 else 7)]) ∧ (0 ≤ i ∧ i < ss.length → z = (ss.getD i.toNat 0 : Nat)) ∧ Below x.heap.size x w' := by
  obtain ⟨O, K, B, a, c, hf, hs, -, ht⟩ := h
  have HHC := hid (hasCode_any x b O K B a ss.length c hf i hi)
  have hc := hf.syms
  have hfew := ht.few
  by_cases h3 : 0 ≤ i ∧ i < ss.length
  · have HI := hid h3
    obtain ⟨s, rfl⟩ : ∃ s : Nat, i = (s : Int) := ⟨i.toNat, by omega⟩
    rw [if_pos h3]
    have e1 : scB ss.length (s : Int) = true := decide_eq_true h3
    rw [e1] at HHC
    obtain ⟨b', o', rfl, hcl⟩ : ∃ b' o', a = some ⟨b', o', none⟩ ∧ x.cell? ⟨b', o' + s, none⟩ = some (.int .i64 ((ss.getD s 0 : Nat) : Int)) := by
      rcases hs with h | ⟨b', o', h, _, hc⟩
      · have : ss.length = 0 := by rw [← nZ_len ss, h]; rfl
        omega
      · refine ⟨b', o', h, ?_⟩
        rw [hc s (by rw [nZ_len]; omega)]
        congr 2
        unfold nZ
        rw [List.getD_eq_getElem?_getD, List.getElem?_map, List.getD_eq_getElem?_getD, List.getElem?_eq_getElem (by omega)]
        rfl
    have h5 : (s : Int) < (ss.length : Int) := by omega
    have h6 : (s < ss.length) = True := eq_true (by omega)
    have HG : Hid (∀ z : Nat, z = ss.getD s 0 → (z : Int) = ((ss.getD (s : Int).toNat 0 : Nat) : Int)) := hid fun z e => by rw [e, Int.toNat_natCast]
    obtain ⟨y, hy⟩ : ∃ y, y = ss.getD s 0 := ⟨_, rfl⟩
    have HY := hid hy
    rw [← hy] at hcl
    generalize ss.length = n at *
    clear hf ht h3 hfew hi hs e1 hy
    go_enter Try.func20, Try.ntmps20
    go_wp2_with fail
    refine HHC.out.mono ?_
    rintro e w' ⟨rfl, rfl⟩
    go_wp2_with fail
    go_ret2
    exact ⟨(y : Int), rfl, fun _ => HG.out y HY.out, Below.refl _ _⟩
  · have HI := hid h3
    rw [if_neg h3]
    have e1 : scB ss.length i = false := decide_eq_false h3
    rw [e1] at HHC
    generalize ss.length = n at *
    clear hf ht h3 hfew hs e1 hc
    go_enter Try.func20, Try.ntmps20
    go_wp2_with fail
    refine HHC.out.mono ?_
    rintro e w' ⟨rfl, rfl⟩
    go_wp2_with fail
    go_ret2
    exact ⟨0, rfl, fun h => by have := HI.out; omega, Below.refl _ _⟩
theorem pCode_any (x : World) (b : Nat) (ss cs : List Nat) (i : Int) (h : Tb x b ss cs) (hi : i64a i) : Calls Try.prog 21 #[.pointer (some ⟨b, 0, none⟩), .int .i64 i] x fun e w' => ∃ z, e = .returned (.tuple #[.int .i64 z, .int .i64 (if 0 ≤ i ∧ i.toNat ∈ ss then 0 else 7)]) ∧ (0 ≤ i ∧ i.toNat ∈ ss → z = (codeT ss i : Nat)) ∧ Below x.heap.size x w' := by
  obtain ⟨O, K, B, a, c, hf, hs, -, ht⟩ := h
  have HHS := hid (hasSymbol_any x b O K B _ ss cs hf ht i hi)
  by_cases h3 : 0 ≤ i ∧ i.toNat ∈ ss
  · have HI := hid h3
    obtain ⟨s, rfl⟩ : ∃ s : Nat, i = (s : Int) := ⟨i.toNat, by omega⟩
    rw [if_pos h3]
    have e1 : ssB ss (s : Int) = true := decide_eq_true h3
    rw [e1] at HHS
    have hm : s ∈ ss := by have := h3.2; rwa [Int.toNat_natCast] at this
    have hlt := ht.lt s hm
    have hcl := hf.codes s hlt
    have HK : Hid (K s = codeT ss (s : Int)) := hid (by unfold codeT; rw [Int.toNat_natCast]; exact ht.code s hm)
    have h5 : (s : Int) < 258 := by omega
    generalize K s = y at *
    clear hf ht h3 hi hs e1 hm hlt
    go_enter Try.func21, Try.ntmps21
    go_wp2_with fail
    refine HHS.out.mono ?_
    rintro e w' ⟨rfl, rfl⟩
    go_wp2_with fail
    go_ret2
    exact ⟨(y : Int), rfl, fun _ => by rw [HK.out], Below.refl _ _⟩
  · have HI := hid h3
    rw [if_neg h3]
    have e1 : ssB ss i = false := decide_eq_false h3
    rw [e1] at HHS
    clear hf ht h3 hs e1
    go_enter Try.func21, Try.ntmps21
    go_wp2_with fail
    refine HHS.out.mono ?_
    rintro e w' ⟨rfl, rfl⟩
    go_wp2_with fail
    go_ret2
    exact ⟨0, rfl, fun h => absurd h HI.out, Below.refl _ _⟩
end
end Go.Proofs.Ytbhpfdpcafdeaaa
