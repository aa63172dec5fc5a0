/- CONTRACTS: what a device is in memory; its pages; its versions looked up. -/
import Derived.Test.YtmdimhijbmeioaaDevA
import Derived.Test.YtmdimhijbmeioaaClone
namespace Go.Proofs.Ytmdimhijbmeioaa
open Go.RowKit Go.Inc

/-- One version that waits. -/
structure Item where
  a : Option Addr
  c : Nat
  b : List Nat
def Item.val (q : Item) : Value := .slice q.a 256 q.c

/-- v is the slice of these versions, in a row of colour k. -/
structure Ver (C : Nat → Nat) (w : World) (k : Nat) (v : Value) (is : List Item) : Prop where
  own : w.ownsRow 0 22 1 v is.length (is.map Item.val)
  col : ∀ R, v.ownBlock = some R → C R = k
  full : is ≠ []
  all : ∀ q ∈ is, Sl (fun b => C b = 4) w q.a q.b ∧ q.b.length = 256 ∧ 256 ≤ q.c ∧ q.c ≤ maxLen

/-- A device's state. -/
structure St where
  on : Bool
  armed : Bool
  left : Int
  B : List Nat
  W : Int → List (List Nat)
  r : Int
  s : Int
  t : Int

/-- .. in memory. -/
structure DevAt (C : Nat → Nat) (w : World) (g L c M : Nat) (f : Int → Option Value) (I : Int → List Item) (p n : Nat) (S : St) : Prop where
  row : DevRow w g S.on S.armed S.left (.slice (some ⟨L, 0, none⟩) (256 * p) c) (.map (some M)) S.r S.s S.t
  laid : w.ownsRow 0 5 1 (.slice (some ⟨L, 0, none⟩) (256 * p) c) (256 * p) (u8s S.B)
  map : Mp Try.prog 3 w M n f
  ver : ∀ x v, f x = some v → Ver C w (5 + x.toNat) v (I x)
  non : ∀ x, f x = none → I x = []
  dom : ∀ x v, f x = some v → 0 ≤ x ∧ x < p
  few : ∀ x, (I x).length ≤ n
  wait : ∀ x, S.W x = (I x).map Item.b
  cg : C g = 1
  cL : C L = 2
  cM : C M = 3
  lt : ∀ b, C b ≠ 0 → b < w.heap.size
  pp : 1 ≤ p ∧ p ≤ 2048
  lb : 0 ≤ S.left ∧ S.left ≤ 9223372036854775807 ∨ S.armed = false
  cnt : 0 ≤ S.r ∧ 0 ≤ S.s ∧ 0 ≤ S.t

theorem has_some (w : World) (g : Nat) (on armed : Bool) (left : Int) (a : Option Addr) (p c : Nat) (mv : Value) (r s t no : Int) (h : DevRow w g on armed left (.slice a (256 * p) c) mv r s t) (hp : p ≤ 2048) :
    Calls Try.prog 50 #[.pointer (some ⟨g, 0, none⟩), .int .i64 no] w fun e w' => e = .returned (.bool (decide (0 ≤ no ∧ no < p))) ∧ w = w' := by
  have H := hid (pages_some w g on armed left a p c mv r s t h hp)
  clear h
  by_cases h0 : 0 ≤ no
  · have h1 : decide (0 ≤ no) = true := decide_eq_true h0
    go_enter Try.func50, Try.ntmps50
    go_wp2_with fail
    refine H.out.mono ?_
    rintro e w' ⟨rfl, rfl⟩
    go_wp2_with fail
    go_ret
    exact ⟨ret_bool (by simp [h0]), rfl⟩
  · have h1 : decide (0 ≤ no) = false := decide_eq_false h0
    go_enter Try.func50, Try.ntmps50
    go_wp2_with fail
    go_ret
    refine ⟨ret_bool ?_, rfl⟩
    simp

theorem page_some (w : World) (g : Nat) (on armed : Bool) (left : Int) (L p c k : Nat) (mv : Value) (r s t : Int) (h : DevRow w g on armed left (.slice (some ⟨L, 0, none⟩) (256 * p) c) mv r s t) (hp : p ≤ 2048) (hk : k < p) (hc : 256 * p ≤ c) (hm : c ≤ maxLen) :
    Calls Try.prog 55 #[.pointer (some ⟨g, 0, none⟩), .int .i64 (k : Int)] w fun e w' => e = .returned (.slice (some ⟨L, 256 * k, none⟩) 256 (c - 256 * k)) ∧ w = w' := by
  have c3 := h.c3
  clear h
  obtain ⟨q, hq⟩ : ∃ q, q = 256 * p := ⟨_, rfl⟩
  obtain ⟨o, ho⟩ : ∃ o, o = 256 * k := ⟨_, rfl⟩
  rw [← hq] at c3 hc
  rw [← ho]
  have hmul : (k : Int) * 256 = (o : Int) := by omega
  have hob : o < q ∧ q ≤ 524288 := by omega
  have h256 : (256 : Int) ≤ (q : Int) - o := by omega
  have hco : (c = o) = False := by simp; omega
  unfold maxLen at hm
  have hoc : (o : Int) ≤ q ∧ (q : Int) ≤ c := by omega
  have hco2 : (256 : Int) ≤ (c : Int) - o := by omega
  have hw : wrap64 ((k : Int) * 256) = (o : Int) := by rw [hmul]; simp [wrap64]; omega
  clear hq ho hp hk
  go_enter Try.func55, Try.ntmps55
  go_wp2
  go_ret
  exact ⟨rfl, rfl⟩

theorem count_any (w : World) (M n : Nat) (f : Int → Option Value) (x : Int) (a : Option Addr) (k c : Nat) (hm : Mp Try.prog 3 w M n f) (hx : -9223372036854775808 ≤ x ∧ x ≤ 9223372036854775807) (hv : (f x).getD (.slice none 0 0) = .slice a k c) :
    Calls Try.prog 61 #[.map (some M), .int .i64 x] w fun e w' => e = .returned (.int .i64 (k : Int)) ∧ w = w' := by
  have HM := hid hm
  have HV := hid hv
  clear hm hv
  go_enter Try.func61, Try.ntmps61
  go_wp2_with (at_lookup; go_loud (refine wpList_look _ rfl _ _ 86 rfl 3 76 Try.underlying3 Try.underlying86 (.slice none 0 0) (by kernel_rfl) M n f rfl HM.out x rfl hx ?_); rw [HV.out])
  go_ret
  exact ⟨rfl, rfl⟩

section
variable {C : Nat → Nat} {w : World} {k : Nat} {v : Value} {is : List Item}
/-- What such a slice looks like. -/
theorem Ver.shape (h : Ver C w k v is) : ∃ R cap, v = .slice (some ⟨R, 0, none⟩) is.length cap ∧ C R = k ∧ is.length ≤ cap ∧ cap ≤ maxLen ∧
    ∀ i q, is[i]? = some q → w.cell? ⟨R, i, none⟩ = some (.slice q.a 256 q.c) := by
  have ho := h.own
  rcases ho.2 with ⟨_, h0⟩ | ⟨R, cap, cur, rfl, _, hR, h1, h2, h3, h4⟩
  · exact absurd (List.eq_nil_of_length_eq_zero h0) h.full
  · refine ⟨R, cap, rfl, h.col R rfl, h1, h2, fun i q hq => ?_⟩
    have hc := ho.cells (g := R) rfl i (.slice q.a 256 q.c) (by rw [List.getElem?_map, hq]; rfl)
    rwa [Addr.add_lit, Nat.zero_add] at hc
theorem Ver.item (h : Ver C w k v is) {i : Nat} (hi : i < is.length) : ∃ q, is[i]? = some q ∧ Sl (fun b => C b = 4) w q.a q.b ∧ q.b.length = 256 ∧ 256 ≤ q.c ∧ q.c ≤ maxLen :=
  ⟨is[i], List.getElem?_eq_getElem hi, h.all _ (List.getElem_mem hi)⟩
end

/-- What a look-up finds. -/
theorem look_none {C w g L c M f I p n S} (h : DevAt C w g L c M f I p n S) {x : Int} (hx : I x = []) : (f x).getD (.slice none 0 0) = .slice none 0 0 := by
  cases hf : f x with
  | none => rfl
  | some v => exact absurd hx (h.ver x v hf).full
theorem look_some {C w g L c M f I p n S} (h : DevAt C w g L c M f I p n S) {x : Int} (hx : I x ≠ []) : ∃ v, f x = some v ∧ Ver C w (5 + x.toNat) v (I x) := by
  cases hf : f x with
  | none => exact absurd (h.non x hf) hx
  | some v => exact ⟨v, rfl, h.ver x v hf⟩
theorem last_none (w : World) (M n : Nat) (f : Int → Option Value) (x : Int) (hm : Mp Try.prog 3 w M n f) (hx : -9223372036854775808 ≤ x ∧ x ≤ 9223372036854775807) (hv : (f x).getD (.slice none 0 0) = .slice none 0 0) :
    Calls Try.prog 54 #[.map (some M), .int .i64 x] w fun e w' => e = .returned (.tuple #[.slice none 0 0, .bool false]) ∧ w = w' := by
  have H := hid (count_any w M n f x none 0 0 hm hx hv)
  clear hm hv
  go_enter Try.func54, Try.ntmps54
  go_wp2_with fail
  refine H.out.mono ?_
  rintro e w' ⟨rfl, rfl⟩
  go_wp2_with fail
  go_ret2
  exact ⟨rfl, rfl⟩

theorem last_some (w : World) (M n : Nat) (f : Int → Option Value) (x : Int) (R k c : Nat) (u : Value) (hm : Mp Try.prog 3 w M n f) (hx : -9223372036854775808 ≤ x ∧ x ≤ 9223372036854775807) (hv : (f x).getD (.slice none 0 0) = .slice (some ⟨R, 0, none⟩) (k + 1) c)
    (hk : k < 4611686018427387904) (hu : w.cell? ⟨R, k, none⟩ = some u) :
    Calls Try.prog 54 #[.map (some M), .int .i64 x] w fun e w' => e = .returned (.tuple #[u, .bool true]) ∧ w = w' := by
  have H := hid (count_any w M n f x _ _ _ hm hx hv)
  have HM := hid hm
  have HV := hid hv
  clear hm hv
  obtain ⟨j, hj⟩ : ∃ j, j = k + 1 := ⟨_, rfl⟩
  rw [← hj] at H HV
  have h0 : ((j : Int) == 0) = false := by simp; omega
  have h1 : wrap64 ((j : Int) - 1) = (k : Int) := by simp [wrap64]; omega
  have h1' : (j : Int) - 1 = (k : Int) := by omega
  have h2 : (k : Int) < (j : Int) := by omega
  clear hj
  go_enter Try.func54, Try.ntmps54
  go_wp2_with fail
  refine H.out.mono ?_
  rintro e w' ⟨rfl, rfl⟩
  go_wp2_with (at_lookup; refine wpList_look _ rfl _ _ 86 rfl 3 76 Try.underlying3 Try.underlying86 (.slice none 0 0) (by kernel_rfl) M n f rfl HM.out x rfl hx ?_; rw [HV.out])
  go_ret2
  exact ⟨rfl, rfl⟩
end Go.Proofs.Ytmdimhijbmeioaa

