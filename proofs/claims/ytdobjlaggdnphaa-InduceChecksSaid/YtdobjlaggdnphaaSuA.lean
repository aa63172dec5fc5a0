/- CONTRACTS (suffix, as it landed): is there one of which a closure tells; where a number first stands; Check. -/
import Derived.Test.YtdobjlaggdnphaaSfP
import Derived.Test.YtdobjlaggdnphaaGen
import Derived.Deep.OwnRows
import Derived.BigRegion
namespace Go.Inc
open Go.RowKit
theorem anyP_snoc {p : Int → Bool} {zs : List Int} {k : Nat} (h : k < zs.length) : (zs.take (k + 1)).any p = ((zs.take k).any p || p (zs.getD k 0)) := by
  rw [List.take_succ_eq_append_getElem h, List.getD_eq_getElem?_getD, List.getElem?_eq_getElem h]
  simp only [List.any_append, List.any_cons, List.any_nil, Bool.or_false, Option.getD_some]
theorem anyP_mono {p : Int → Bool} {zs : List Int} {k : Nat} (h : (zs.take k).any p = true) : zs.any p = true := by
  rw [List.any_eq_true] at *
  obtain ⟨x, hx, h2⟩ := h
  exact ⟨x, List.mem_of_mem_take hx, h2⟩
theorem getD_memA {α : Type} {l : List α} {k : Nat} {d : α} (h : k < l.length) : l.getD k d ∈ l := by
  rw [List.getD_eq_getElem?_getD, List.getElem?_eq_getElem h]
  exact List.getElem_mem h
theorem idxOf_at {x : Int} : ∀ {zs : List Int} {k : Nat}, k < zs.length → zs.getD k 0 = x → x ∉ zs.take k → zs.idxOf x = k
  | [], k, h, _, _ => by simp at h
  | z :: r, 0, _, he, _ => by
    have : z = x := by simpa using he
    subst this
    simp
  | z :: r, k + 1, h, he, hn => by
    have h1 : z ≠ x := fun e => hn (by rw [e]; simp)
    have h2 : x ∉ r.take k := fun hh => hn (by simp [hh])
    have ih := idxOf_at (zs := r) (k := k) (by simpa using h) (by simpa using he) h2
    have h3 : (z == x) = false := by rw [beq_eq_false_iff_ne]; exact h1
    simp [List.idxOf_cons, h3, ih]
/-- Where a number stands; -1 where it doesn't. -/
def ixZ (zs : List Int) (x : Int) : Int := if x ∈ zs then (zs.idxOf x : Int) else -1
theorem notin_take_idx : ∀ (x : List Int) (z : Int), z ∉ x.take (x.idxOf z)
  | [], z => by simp
  | a :: x, z => by
    by_cases h : a = z
    · subst h; simp
    · have h3 : (a == z) = false := by rw [beq_eq_false_iff_ne]; exact h
      have := notin_take_idx x z
      simp only [List.idxOf_cons, h3, cond_false, List.take_succ_cons, List.mem_cons, not_or]
      exact ⟨fun e => h e.symm, this⟩
theorem RtL_ix {x : List Int} (h : 0 < x.length) : RtL x ↔ ixZ x 0 = ((x.length - 1 : Nat) : Int) := by
  constructor
  · intro hr
    have h0 : x.getD (x.length - 1) 0 = 0 := (hr.2 (x.length - 1) (by omega)).2 (by omega)
    have hm : (0 : Int) ∈ x := by
      have := memGetD (zs := x) (d := 0) (k := x.length - 1) (by omega)
      rw [h0] at this; exact this
    unfold ixZ
    rw [if_pos hm, idxOf_at (k := x.length - 1) (by omega) h0]
    intro hh
    obtain ⟨i, hi, he⟩ := List.mem_iff_getElem.1 hh
    rw [List.length_take] at hi
    rw [List.getElem_take] at he
    have h1 := (hr.2 i (by omega)).1 (by rw [List.getD_eq_getElem?_getD, List.getElem?_eq_getElem (by omega)]; exact he)
    omega
  · intro hi
    unfold ixZ at hi
    split at hi
    · rename_i hm
      have h1 : x.idxOf 0 = x.length - 1 := by omega
      have h2 := at_get hm
      rw [h1] at h2
      refine ⟨h, fun i hi => ⟨fun e => ?_, fun e => ?_⟩⟩
      · have h3 : x.idxOf 0 ≤ i := by
          apply Classical.byContradiction
          intro hc
          have h4 : (0 : Int) ∈ x.take (x.idxOf 0) := by
            have := memGetD (zs := x.take (x.idxOf 0)) (d := 0) (k := i) (by rw [List.length_take]; omega)
            rw [List.getD_eq_getElem?_getD, List.getElem?_take, if_pos (by omega), ← List.getD_eq_getElem?_getD, e] at this
            exact this
          exact notin_take_idx x 0 h4
        omega
      · rw [show i = x.length - 1 from by omega]; exact h2.2
    · omega
def codeB (z : Int) : Bool := decide (z < 0) || decide (65535 < z)
theorem any_code {x : List Int} (h : x.length ≤ 65536) : (x.any codeB = true → ckT x = 10) ∧ (x.any codeB = false → ckT x = if RtL x then 0 else 3) := by
  have hc : x.any codeB = true ↔ ¬ ∀ z ∈ x, 0 ≤ z ∧ z ≤ 65535 := by
    rw [List.any_eq_true]
    constructor
    · rintro ⟨z, hz, hb⟩ hall
      have := hall z hz
      unfold codeB at hb
      simp at hb
      omega
    · intro hn
      apply Classical.byContradiction
      intro hno
      refine hn fun z hz => ?_
      apply Classical.byContradiction
      intro hz2
      refine hno ⟨z, hz, ?_⟩
      unfold codeB
      simp
      omega
  constructor
  · intro h1
    unfold ckT
    rw [if_neg (by omega), if_pos (hc.1 h1)]
  · intro h1
    unfold ckT
    rw [if_neg (by omega), if_neg (fun hh => by rw [hc.2 hh] at h1; cases h1)]
end Go.Inc
namespace Go.Proofs.Ytdobjlaggdnphaa
open Go.RowKit Go.Inc
/-- A function that has a body. -/
def Goes (F : FuncId) : Prop := ∀ (args : Array Value) (w : World), (callFunc F args).run Try.prog w = .ok (.enter F args) w
/-- What a closure tells of each of these, the memory as it is. -/
def TellsB (x : World) (F : FuncId) (cp : Array Value) (zs : List Int) (p : Int → Bool) : Prop := Goes F ∧
  ∀ y, Below x.heap.size x y → ∀ z ∈ zs, Calls Try.prog F (#[.int .i64 z] ++ cp) y fun e y' => e = .returned (.bool (p z)) ∧ y = y'
def IdxP (p : Int → Bool) (zs : List Int) (w : World) (e : Ending) (w' : World) : Prop := ∃ r : Int, e = .returned (.int .i64 r) ∧ decide (0 ≤ r) = zs.any p ∧ w = w'
set_option maxHeartbeats 1000000 in
theorem indexF_any (ok : Nat → Prop) (x : World) (a : Option Addr) (c : Nat) (zs : List Int) (F : FuncId) (cp : Array Value) (p : Int → Bool) (hs : Si ok x a zs) (hl : (zs.length : Int) ≤ 65536) (hf : TellsB x F cp zs p) :
    Calls Try.prog 57 #[.slice a zs.length c, .func (Fn.func F) #[] cp] x (IdxP p zs x) := by
  have HS := hid hs
  have HF := hid hf
  obtain ⟨n, hn⟩ : ∃ n, n = zs.length := ⟨_, rfl⟩
  have HN := hid hn
  rw [← hn] at hl ⊢
  clear hs hn hf
  go_enter Try.func57, Try.ntmps57
  go_wp2_with fail
  go_loop [8] (fun i => ∃ k : Nat, k ≤ n ∧ i = .int .i64 (k : Int) ∧ (zs.take k).any p = false) (fun i => n - (intOf i).toNat)
  case atStart => exact ⟨0, Nat.zero_le _, rfl, rfl⟩
  case round =>
    obtain ⟨k, hk, rfl, hn⟩ := hrel
    have HP := hid hn
    clear hn
    by_cases hlt : (k : Int) < n
    · obtain ⟨b, o, rfl, hc⟩ : ∃ b o, a = some ⟨b, o, none⟩ ∧ x.cell? ⟨b, o + k, none⟩ = some (.int .i64 (zs.getD k 0)) := by
        rcases HS.out with h | ⟨b, o, h, _, hc⟩
        · have := HN.out; rw [h] at this; simp at this; omega
        · exact ⟨b, o, h, hc k (by rw [← HN.out]; omega)⟩
      have hs := hid (anyP_snoc (p := p) (zs := zs) (k := k) (by rw [← HN.out]; omega))
      have hm := hid (anyP_mono (p := p) (zs := zs) (k := k + 1))
      have HC := hid (HF.out.2 x (Below.refl _ _) (zs.getD k 0) (getD_memA (by rw [← HN.out]; omega)))
      generalize zs.getD k 0 = z at *
      have hkl : (k < n) = True := eq_true (by omega)
      cases hz : p z
      · go_wp2_with fail
        rw [HF.out.1, Oper.upon_enter]
        refine HC.out.mono ?_
        rintro e w' ⟨rfl, rfl⟩
        rw [hz]
        go_wp2_with fail
        go_round
        case rel => exact ⟨k + 1, by omega, by go_num, by rw [hs.out, HP.out]; simp [hz]⟩
        case measure => simp [intOf]; omega
      · go_wp2_with fail
        rw [HF.out.1, Oper.upon_enter]
        refine HC.out.mono ?_
        rintro e w' ⟨rfl, rfl⟩
        rw [hz]
        go_wp2_with fail
        go_ret
        refine ⟨_, rfl, ?_, rfl⟩
        rw [hm.out (by rw [hs.out]; simp [hz])]
        simp
    · have hkl : (k < n) = False := eq_false (by omega)
      have HE : Hid (zs.take k = zs) := hid (List.take_of_length_le (by rw [← HN.out]; omega))
      clear hlt
      go_wp2_with fail
      go_ret
      refine ⟨-1, rfl, ?_, rfl⟩
      have := HP.out
      rw [HE.out] at this
      rw [this]; decide
theorem containsF_any (ok : Nat → Prop) (x : World) (a : Option Addr) (c : Nat) (zs : List Int) (F : FuncId) (cp : Array Value) (p : Int → Bool) (hs : Si ok x a zs) (hl : (zs.length : Int) ≤ 65536) (hf : TellsB x F cp zs p) :
    Calls Try.prog 42 #[.slice a zs.length c, .func (Fn.func F) #[] cp] x fun e w' => e = .returned (.bool (zs.any p)) ∧ x = w' := by
  have H := hid (indexF_any ok x a c zs F cp p hs hl hf)
  clear hs hl hf
  go_enter Try.func42, Try.ntmps42
  go_wp2_with fail
  refine H.out.mono ?_
  rintro e w' ⟨r, rfl, hr, rfl⟩
  have HR := hid hr
  clear hr
  go_wp2_with fail
  go_ret
  exact ⟨ret_bool HR.out, rfl⟩

set_option maxRecDepth 20000 in
set_option maxHeartbeats 1500000 in
theorem zindex_any (ok : Nat → Prop) (a : Option Addr) (c : Nat) (zs : List Int) (x : Int) (w : World) (hs : Si ok w a zs) (hl : (zs.length : Int) ≤ 65536) (_hx : i64s x) :
    Calls Try.prog 44 #[.slice a zs.length c, .int .i64 x] w fun e w' => e = .returned (.int .i64 (ixZ zs x)) ∧ w = w' := by
  have HS : Hid (Si (fun b => b < w.heap.size) w a zs) := hid (hs.mono fun _ _ h => h)
  obtain ⟨n, hn⟩ : ∃ n, n = zs.length := ⟨_, rfl⟩
  have HN := hid hn
  rw [← hn] at hl ⊢
  clear hs hn
  go_enter Try.func44, Try.ntmps44
  go_wp2_with fail
  go_loop [8] (fun i => ∃ k : Nat, k ≤ n ∧ i = .int .i64 (k : Int) ∧ x ∉ zs.take k) (fun i => n - (intOf i).toNat)
  case atStart => exact ⟨0, Nat.zero_le _, rfl, by simp⟩
  case round =>
    obtain ⟨k, hk, rfl, hni⟩ := hrel
    have HNI := hid hni
    clear hni
    by_cases hlt : (k : Int) < n
    · have hkn : (k < n) = True := eq_true (by omega)
      obtain ⟨b, o, rfl, hck⟩ := siCell HS.out (k := k) (by have := HN.out; omega)
      have HSN := hid (takeSnoc (bs := zs) (d := 0) (k := k) (by have := HN.out; omega))
      have HM := hid (memGetD (zs := zs) (d := 0) (k := k) (by have := HN.out; omega))
      obtain ⟨y, hy⟩ : ∃ y, y = zs.getD k 0 := ⟨_, rfl⟩
      have HY := hid hy
      rw [← hy] at hck HSN HM
      clear hy
      by_cases hxy : x = y
      · have he : (x == y) = true := by rw [beq_iff_eq]; exact hxy
        have HO : Hid (ixZ zs x = (k : Int)) := hid (by
          unfold ixZ
          rw [if_pos (by rw [hxy]; exact HM.out), idxOf_at (by have := HN.out; omega) (by rw [hxy, HY.out]) HNI.out])
        clear hxy
        go_wp2_with fail
        go_ret
        exact ⟨by rw [HO.out]; rfl, rfl⟩
      · have he : (x == y) = false := by rw [beq_eq_false_iff_ne]; exact hxy
        have HXY := hid hxy
        clear hxy
        go_wp2_with fail
        go_round
        case rel => exact ⟨k + 1, by omega, by go_num, by rw [HSN.out]; intro h; rcases snocMem.1 h with h | h; exact HNI.out h; exact HXY.out h⟩
        case measure => simp [intOf]; omega
    · have hkf : (k < n) = False := eq_false (by omega)
      have HO : Hid (ixZ zs x = -1) := hid (if_neg (by have h := HNI.out; rw [show k = n by omega, HN.out, List.take_length] at h; exact h))
      clear hlt
      go_wp2_with fail
      go_ret
      exact ⟨by rw [HO.out]; rfl, rfl⟩
theorem code_any (x : World) (z : Int) (hz : i64s z) : Calls Try.prog 43 #[.int .i64 z] x fun e w' => e = .returned (.bool (codeB z)) ∧ x = w' := by
  obtain ⟨h1, h2⟩ := hz
  by_cases h3 : z < 0
  · have e : Hid (codeB z = true) := hid (by unfold codeB; simp [h3])
    go_enter Try.func43, Try.ntmps43
    go_wp2_with fail
    go_ret
    exact ⟨by rw [e.out] <;> rfl, rfl⟩
  · by_cases h4 : 65535 < z
    · have e : Hid (codeB z = true) := hid (by unfold codeB; simp [h4])
      go_enter Try.func43, Try.ntmps43
      go_wp2_with fail
      go_ret
      exact ⟨by rw [e.out] <;> rfl, rfl⟩
    · have e : Hid (codeB z = false) := hid (by unfold codeB; simp [h3, h4])
      go_enter Try.func43, Try.ntmps43
      go_wp2_with fail
      go_ret
      exact ⟨by rw [e.out] <;> rfl, rfl⟩
set_option maxRecDepth 20000 in
set_option maxHeartbeats 1500000 in
theorem check_any (ok : Nat → Prop) (w : World) (v : Value) (zs : List Int) (hs : So ok w v zs) (hl : zs.length ≤ 65536) (hz : ∀ z ∈ zs, i64s z) :
    Calls Try.prog 30 #[v] w fun e w' => e = .returned (.int .i64 ((ckT zs : Nat) : Int)) ∧ w = w' := by
  obtain ⟨a, c, rfl, hsi, hlc, -, -⟩ := hs
  have HC := hid (containsF_any ok w a c zs 43 #[] codeB hsi (by omega) ⟨fun args w => by kernel_rfl, fun y _ z hzm => code_any y z (hz z hzm)⟩)
  have HI := hid (zindex_any ok a c zs 0 w hsi (by omega) (by unfold i64s; omega))
  have HK := hid (any_code hl)
  have HR := hid (fun h => RtL_ix (x := zs) h)
  have HNR : Hid (zs.length = 0 → ¬ RtL zs) := hid (fun h hr => by have := hr.1; omega)
  obtain ⟨n, hn⟩ : ∃ n, n = zs.length := ⟨_, rfl⟩
  rw [← hn] at hl HC HI HR HNR ⊢
  obtain ⟨q, hq⟩ : ∃ q, q = zs.any codeB := ⟨_, rfl⟩
  rw [← hq] at HC HK
  have hnn : decide ((n : Int) > 65536) = false := decide_eq_false (by omega)
  clear hsi hz hn hq
  go_enter Try.func30, Try.ntmps30
  go_wp2_with fail
  refine HC.out.mono ?_
  rintro e w' ⟨rfl, rfl⟩
  clear HC
  cases q
  · obtain ⟨k, hk⟩ : ∃ k, k = ixZ zs 0 := ⟨_, rfl⟩
    rw [← hk] at HI HR
    by_cases h0 : n = 0
    · have HX : Hid (ckT zs = 3) := hid (by rw [HK.out.2 rfl, if_neg (HNR.out h0)])
      have h0i : ((n : Int) == 0) = true := by rw [beq_iff_eq]; omega
      clear h0 hk
      go_wp2_with fail
      go_ret
      exact ⟨by rw [HX.out]; rfl, rfl⟩
    · have h0i : ((n : Int) == 0) = false := by rw [beq_eq_false_iff_ne]; omega
      obtain ⟨m, hm⟩ : ∃ m : Nat, (n : Int) - 1 = (m : Int) := ⟨n - 1, by omega⟩
      have HM : Hid (n - 1 = m) := hid (by omega)
      have HR2 := hid (HR.out (by omega))
      rw [HM.out] at HR2
      by_cases hkm : k = (m : Int)
      · have HX : Hid (ckT zs = 0) := hid (by rw [HK.out.2 rfl, if_pos (HR2.out.2 hkm)])
        have hne : (k != (m : Int)) = false := by rw [bne_eq_false_iff_eq]; exact hkm
        clear hkm hk HR HR2 h0
        go_wp2_with fail
        refine HI.out.mono ?_
        rintro e w' ⟨rfl, rfl⟩
        go_wp2_with fail
        go_ret
        exact ⟨by rw [HX.out]; rfl, rfl⟩
      · have HX : Hid (ckT zs = 3) := hid (by rw [HK.out.2 rfl, if_neg (fun h => hkm (HR2.out.1 h))])
        have hne : (k != (m : Int)) = true := by rw [bne_iff_ne]; exact hkm
        clear hkm hk HR HR2 h0
        go_wp2_with fail
        refine HI.out.mono ?_
        rintro e w' ⟨rfl, rfl⟩
        go_wp2_with fail
        go_ret
        exact ⟨by rw [HX.out]; rfl, rfl⟩
  · have HX := hid (HK.out.1 rfl)
    go_wp2_with fail
    go_ret
    exact ⟨by rw [HX.out]; rfl, rfl⟩
end Go.Proofs.Ytdobjlaggdnphaa

