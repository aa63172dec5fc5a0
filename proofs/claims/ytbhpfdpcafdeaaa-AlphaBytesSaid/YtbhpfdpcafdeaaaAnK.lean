/- CONTRACTS (alpha, as it landed): whether a text is documents'; they. (CONTRACTS (alpha, as it landed): Docs.) -/
import Derived.Test.YtbhpfdpcafdeaaaAnI
import Derived.Test.YtbhpfdpcafdeaaaAfD
namespace Go.Inc
open Go.RowKit
theorem getD_app_l {l r : List Nat} {i : Nat} (h : i < l.length) : (l ++ r).getD i 0 = l.getD i 0 := by
  rw [List.getD_eq_getElem?_getD, List.getElem?_append_left h, ← List.getD_eq_getElem?_getD]
theorem getD_app_r {l r : List Nat} {i : Nat} : (l ++ r).getD (l.length + i) 0 = r.getD i 0 := by
  rw [List.getD_eq_getElem?_getD, List.getElem?_append_right (by omega), Nat.add_sub_cancel_left, ← List.getD_eq_getElem?_getD]
theorem txtD_split {ds : List (List Nat)} {k : Nat} (h : k < ds.length) : txtD ds = txtD (ds.take k) ++ ((ds.getD k []).map (· + 2) ++ 1 :: txtD (ds.drop (k + 1))) := by
  have e : ds.drop k = ds.getD k [] :: ds.drop (k + 1) := by
    rw [List.getD_eq_getElem?_getD, List.getElem?_eq_getElem h]
    exact (List.getElem_cons_drop h).symm
  have h1 := txtD_append (ds.take k) (ds.drop k)
  rw [List.take_append_drop, e] at h1
  exact h1
theorem map2_getD {l : List Nat} {j : Nat} (h : j < l.length) : (l.map (· + 2)).getD j 0 = l.getD j 0 + 2 := by
  rw [List.getD_eq_getElem?_getD, List.getElem?_map, List.getElem?_eq_getElem h, List.getD_eq_getElem?_getD, List.getElem?_eq_getElem h]
  rfl
/-- What stands at a place of a text of documents. -/
theorem txt_sym {ds : List (List Nat)} {k j : Nat} (h : k < ds.length) (hj : j < (ds.getD k []).length) : (nZ (txtD ds ++ [0])).getD ((txtD (ds.take k)).length + j) 0 = (((ds.getD k []).getD j 0 + 2 : Nat) : Int) := by
  rw [nZ_get, txtD_split h, List.append_assoc, getD_app_r, List.append_assoc, getD_app_l (by rw [List.length_map]; exact hj), map2_getD hj]
theorem txt_one {ds : List (List Nat)} {k : Nat} (h : k < ds.length) : (nZ (txtD ds ++ [0])).getD ((txtD (ds.take k)).length + (ds.getD k []).length) 0 = 1 := by
  rw [nZ_get, txtD_split h, List.append_assoc, getD_app_r, List.append_assoc]
  have e : (ds.getD k []).length = ((ds.getD k []).map (· + 2)).length + 0 := by rw [List.length_map, Nat.add_zero]
  rw [e, getD_app_r]
  rfl
theorem txt_end (ds : List (List Nat)) : (nZ (txtD ds ++ [0])).getD (txtD ds).length 0 = 0 := by
  have := getD_app_r (l := txtD ds) (r := [0]) (i := 0)
  rw [Nat.add_zero] at this
  rw [nZ_get, this]
  rfl
theorem txt_piece {ds : List (List Nat)} {k : Nat} (h : k < ds.length) : ∀ j, j < (nZ ((ds.getD k []).map (· + 2))).length → (nZ (txtD ds ++ [0])).getD ((txtD (ds.take k)).length + j) 0 = (nZ ((ds.getD k []).map (· + 2))).getD j 0 := by
  intro j hj
  rw [nZ_len, List.length_map] at hj
  rw [txt_sym h hj, nZ_get, map2_getD hj]
theorem docsR_good : ∀ (l : List Int) (out : List (List Nat)) (doc : List Nat), (∀ z ∈ l, 1 ≤ z ∧ z ≤ 257) → (∀ h : l ≠ [], l.getLast h = 1) → (l = [] → doc = []) → docsR (l ++ [0]) out doc ≠ none
  | [], out, doc, _, _, h => by
    rw [List.nil_append, docsR_zero, if_pos ⟨rfl, h rfl⟩]; simp
  | z :: l, out, doc, h1, h2, h3 => by
    have hz := h1 z (by simp)
    rw [List.cons_append]
    by_cases e : z = 1
    · subst e
      rw [docsR_one]
      exact docsR_good l _ _ (fun z hz => h1 z (List.mem_cons_of_mem _ hz)) (fun hn => by rw [← h2 (by simp), List.getLast_cons hn]) fun _ => rfl
    · rw [docsR_sym _ _ _ (by omega) hz.2]
      refine docsR_good l _ _ (fun z hz => h1 z (List.mem_cons_of_mem _ hz)) (fun hn => by rw [← h2 (by simp), List.getLast_cons hn]) fun hn => ?_
      subst hn
      exact absurd (h2 (by simp)) e
/-- Is it documents' text? -/
def badSym (z : Int) : Bool := !(decide (0 ≤ z) && decide (z < 258)) || z == 0
def ofD (zs : List Int) : Bool := decide (0 < zs.length) && (zs.getD (zs.length - 1) 0 == 0) && (decide (zs.length ≤ 1) || zs.getD (zs.length - 2) 0 == 1) && !((zs.take (zs.length - 1)).any badSym)
theorem ofD_good {zs : List Int} (h : ofD zs = true) : docsR zs [] [] ≠ none := by
  unfold ofD at h
  simp only [Bool.and_eq_true, decide_eq_true_eq, beq_iff_eq, Bool.or_eq_true, Bool.not_eq_true'] at h
  obtain ⟨⟨⟨h1, h2⟩, h3⟩, h4⟩ := h
  have e : zs = zs.take (zs.length - 1) ++ [0] := by
    have h5 := List.take_succ_eq_append_getElem (l := zs) (i := zs.length - 1) (by omega)
    rw [Nat.sub_add_cancel h1, List.take_length] at h5
    rw [List.getD_eq_getElem?_getD, List.getElem?_eq_getElem (by omega)] at h2
    have h6 : zs[zs.length - 1] = 0 := h2
    rw [h6] at h5
    exact h5
  rw [e]
  refine docsR_good _ _ _ (fun z hz => ?_) (fun hn => ?_) fun _ => rfl
  · rw [List.any_eq_false] at h4
    have h5 := h4 z hz
    unfold badSym at h5
    simp only [Bool.or_eq_true, Bool.not_eq_true', Bool.and_eq_false_imp, decide_eq_true_eq, decide_eq_false_iff_not, beq_iff_eq, not_or] at h5
    have h6 : 0 ≤ z ∧ z < 258 := Classical.byContradiction fun hc => h5.1 fun h7 => fun h8 => hc ⟨h7, h8⟩
    have h7 := h5.2
    omega
  · have h5 : zs.length - 1 ≠ 0 := fun h0 => hn (by rw [h0, List.take_zero])
    rw [List.getLast_eq_getElem]
    simp only [List.length_take]
    rcases h3 with h3 | h3
    · omega
    · rw [List.getD_eq_getElem?_getD, List.getElem?_eq_getElem (by omega)] at h3
      have h6 : zs[zs.length - 2] = 1 := h3
      have e2 : min (zs.length - 1) zs.length - 1 = zs.length - 2 := by omega
      simp only [List.getElem_take, e2]
      exact h6
theorem ofD_text {ds : List (List Nat)} (h : ∀ d ∈ ds, Bytes d) : ofD (nZ (txtD ds ++ [0])) = true := by
  have hl : (nZ (txtD ds ++ [0])).length = (txtD ds).length + 1 := by rw [nZ_len, List.length_append]; rfl
  unfold ofD
  rw [hl, Nat.add_sub_cancel, txt_end]
  have hlt : 0 < (txtD ds).length + 1 := by omega
  have hin : ∀ (ds : List (List Nat)), (∀ d ∈ ds, Bytes d) → ∀ y ∈ txtD ds, 1 ≤ y ∧ y ≤ 257 := by
    intro ds
    induction ds with
    | nil => intro _ y hy; cases hy
    | cons d ds ih =>
      intro h y hy
      rcases List.mem_append.1 (show y ∈ d.map (· + 2) ++ 1 :: txtD ds from hy) with h1 | h1
      · obtain ⟨q, hq, rfl⟩ := List.mem_map.1 h1
        have := h d (by simp) q hq
        omega
      · rcases List.mem_cons.1 h1 with rfl | h1
        · omega
        · exact ih (fun d hd => h d (List.mem_cons_of_mem _ hd)) y h1
  have e1 : (nZ (txtD ds ++ [0])).take (txtD ds).length = nZ (txtD ds) := by
    rw [nZ_app, List.take_append_of_le_length (by rw [nZ_len]; exact Nat.le_refl _), List.take_of_length_le (by rw [nZ_len]; exact Nat.le_refl _)]
  have e2 : ((nZ (txtD ds)).any badSym) = false := by
    rw [List.any_eq_false]
    intro z hz
    obtain ⟨y, hy, rfl⟩ := List.mem_map.1 hz
    have := hin ds h y hy
    unfold badSym
    have a1 : decide ((0 : Int) ≤ (y : Int)) = true := decide_eq_true (by omega)
    have a2 : decide ((y : Int) < 258) = true := decide_eq_true (by omega)
    have a3 : ((y : Int) == 0) = false := by rw [beq_eq_false_iff_ne]; omega
    rw [a1, a2, a3]
    simp
  rw [e1, e2, decide_eq_true hlt]
  by_cases h0 : ds = []
  · subst h0; rfl
  · have hk : ds.length - 1 < ds.length := by have := List.length_pos_iff.2 h0; omega
    have h1 := txt_one hk
    have h2 := Go.Proofs.Ytbhpfdpcafdeaaa.txtD_len hk
    rw [Nat.sub_add_cancel (List.length_pos_iff.2 h0), List.take_length] at h2
    have e3 : (txtD ds).length + 1 - 2 = (txtD (ds.take (ds.length - 1))).length + (ds.getD (ds.length - 1) []).length := by omega
    rw [e3, h1]
    simp
/-- How far the documents are read. -/
structure DocI (ds : List (List Nat)) (t k f : Nat) : Prop where
  kl : k ≤ ds.length
  fe : f = (txtD (ds.take k)).length
  ft : f ≤ t
  in_ : k < ds.length → t ≤ f + (ds.getD k []).length
  out : k = ds.length → t ≤ f + 1
end Go.Inc
namespace Go.Proofs.Ytbhpfdpcafdeaaa
open Go.RowKit Go.Inc
theorem badSym_eq (z : Int) : badSym z = (!symB z || z == 0) := rfl
theorem isOf1_any (x : World) (z : Int) (hz : i64a z) : Calls Try.prog 56 #[.int .i64 z] x fun e w' => e = .returned (.bool (badSym z)) ∧ x = w' := by
  have HIS := hid (isSymbol_any x z hz)
  have HB := hid (badSym_eq z)
  cases hb : symB z
  · rw [hb] at HIS HB
    go_enter Try.func56, Try.ntmps56
    go_wp2_with fail
    refine HIS.out.mono ?_
    rintro e w' ⟨rfl, rfl⟩
    go_wp2_with fail
    go_ret
    exact ⟨by rw [HB.out] <;> rfl, rfl⟩
  · by_cases h0 : z = 0
    · subst h0
      rw [hb] at HIS HB
      go_enter Try.func56, Try.ntmps56
      go_wp2_with fail
      refine HIS.out.mono ?_
      rintro e w' ⟨rfl, rfl⟩
      go_wp2_with fail
      go_ret
      exact ⟨by rw [HB.out] <;> rfl, rfl⟩
    · have hz0 : (z == 0) = false := by rw [beq_eq_false_iff_ne]; exact h0
      rw [hb, hz0] at HB
      rw [hb] at HIS
      clear hz h0
      go_enter Try.func56, Try.ntmps56
      go_wp2_with fail
      refine HIS.out.mono ?_
      rintro e w' ⟨rfl, rfl⟩
      go_wp2_with fail
      go_ret
      exact ⟨by rw [HB.out] <;> rfl, rfl⟩
theorem tells_isOf1 (x : World) (zs : List Int) (hz : ∀ z ∈ zs, i64a z) : TellsB x 56 #[] zs badSym :=
  ⟨fun _ _ => by kernel_rfl, fun y _ z h => isOf1_any y z (hz z h)⟩
theorem docs1_any (y : World) (q : Nat) (hq : q < 256) : Calls Try.prog 35 #[.int .i64 ((q + 2 : Nat) : Int)] y fun e w' => e = .returned (.int .u8 (q : Int)) ∧ y = w' := by
  have h1 : (q : Int) < 256 := by omega
  have h2 : ((q + 2 : Nat) : Int) - 2 = (q : Int) := by omega
  have h3 : IntKind.u8.wrap (q : Int) = (q : Int) := by rw [IntKind.wrap_u8]; omega
  obtain ⟨m, hm⟩ : ∃ m, m = q + 2 := ⟨_, rfl⟩
  rw [← hm] at h2 ⊢
  have h4 : (m : Int) ≤ 258 := by omega
  clear hq hm
  go_enter Try.func35, Try.ntmps35
  go_wp2_with fail
  go_ret
  exact ⟨rfl, rfl⟩
end Go.Proofs.Ytbhpfdpcafdeaaa
namespace Go.Proofs.Ytbhpfdpcafdeaaa
open Go.RowKit Go.Inc
set_option maxRecDepth 20000 in
set_option maxHeartbeats 1000000 in
theorem isOfDocs_any (ok : Nat → Prop) (x : World) (a : Option Addr) (c : Nat) (zs : List Int) (hs : Si ok x a zs) (hc : zs.length ≤ c) (hl : zs.length ≤ 65536) (hz : ∀ z ∈ zs, i64a z) :
    Calls Try.prog 33 #[.slice a zs.length c] x fun e w' => e = .returned (.bool (ofD zs)) ∧ x = w' := by
  have HD : Hid (ofD zs = (decide (0 < zs.length) && (zs.getD (zs.length - 1) 0 == 0) && (decide (zs.length ≤ 1) || zs.getD (zs.length - 2) 0 == 1) && !((zs.take (zs.length - 1)).any badSym))) := hid rfl
  have HC : Hid (∀ m, m < zs.length → Calls Try.prog 36 #[.slice a m c, .func (Fn.func 56) #[] #[]] x fun e w' => e = .returned (.bool ((zs.take m).any badSym)) ∧ x = w') := hid fun m hm => by
    have h := containsF_any ok x a c (zs.take m) 56 #[] badSym (hs.front m) (by rw [List.length_take]; omega) (tells_isOf1 x _ fun z h => hz z (List.mem_of_mem_take h))
    rw [List.length_take, Nat.min_eq_left (Nat.le_of_lt hm)] at h
    exact h
  obtain ⟨n, hn⟩ : ∃ n, n = zs.length := ⟨_, rfl⟩
  rw [← hn] at HD HC hc hl ⊢
  by_cases h0 : n = 0
  · subst h0
    have HE : Hid (ofD zs = false) := hid (by rw [HD.out]; simp)
    clear hs hz hn HD HC
    go_enter Try.func33, Try.ntmps33
    go_wp2_with fail
    go_ret
    exact ⟨by rw [HE.out] <;> rfl, rfl⟩
  · obtain ⟨m, hm⟩ : ∃ m, n = m + 1 := ⟨n - 1, by omega⟩
    have hm1 : (n : Int) - 1 = (m : Int) := by omega
    obtain ⟨b, o, rfl, hcl⟩ : ∃ b o, a = some ⟨b, o, none⟩ ∧ ∀ i, i < n → x.cell? ⟨b, o + i, none⟩ = some (.int .i64 (zs.getD i 0)) := by
      rcases hs with h | ⟨b, o, h, _, hc⟩
      · rw [h] at hn; exact absurd hn (by simp; omega)
      · exact ⟨b, o, h, fun i hi => hc i (by rw [← hn]; exact hi)⟩
    have hcm' := hcl m (by omega)
    have HCM := hid (HC.out m (by omega))
    have hmn : (m < n) = True := eq_true (by omega)
    have hmb : (m : Int) ≤ 65535 := by omega
    have hm9 : decide ((m : Int) < 0) = false := decide_eq_false (by omega)
    have hge : decide ((65536 : Int) ≤ (m : Int)) = false := decide_eq_false (by omega)
    have hmc : (m : Int) ≤ (c : Int) := by omega
    have hnb : (n : Int) ≤ 65536 := by omega
    have e1 : n - 1 = m := by omega
    rw [e1] at HD
    by_cases hz0 : zs.getD m 0 = 0
    · rw [hz0] at hcm' HD
      by_cases hm0 : m = 0
      · subst hm0
        have HE : Hid (ofD zs = !((zs.take 0).any badSym)) := hid (by rw [HD.out, hm]; simp)
        obtain ⟨q, hq⟩ : ∃ q, q = (zs.take 0).any badSym := ⟨_, rfl⟩
        have hcm2 : x.cell? ⟨b, o, none⟩ = some (.int .i64 0) := by simpa using hcm'
        rw [← hq] at HE HCM
        clear hs hz hn HD HC hcl hq h0 hz0 hm
        go_enter Try.func33, Try.ntmps33
        go_wp2_with fail
        refine HCM.out.mono ?_
        rintro e w' ⟨rfl, rfl⟩
        go_wp2_with fail
        go_ret
        exact ⟨by rw [HE.out] <;> rfl, rfl⟩
      · obtain ⟨p, hp⟩ : ∃ p, m = p + 1 := ⟨m - 1, by omega⟩
        have hp1 : (m : Int) - 1 = (p : Int) := by omega
        have hcp := hcl p (by omega)
        have hpn : (p < n) = True := eq_true (by omega)
        have hpb : (p : Int) < 65536 := by omega
        have hm00 : (0 : Int) < (m : Int) := by omega
        have hm01 : (0 < m) = True := eq_true (by omega)
        have e2 : n - 2 = p := by omega
        rw [e2] at HD
        by_cases hz1 : zs.getD p 0 = 1
        · rw [hz1] at hcp HD
          have HE : Hid (ofD zs = !((zs.take m).any badSym)) := hid (by rw [HD.out, decide_eq_true (show 0 < n by omega)]; simp)
          obtain ⟨q, hq⟩ : ∃ q, q = (zs.take m).any badSym := ⟨_, rfl⟩
          rw [← hq] at HE HCM
          clear hs hz hn HD HC hcl hq h0 hz0 hm hm0 hp e1 e2 hz1
          go_enter Try.func33, Try.ntmps33
          go_wp2_with fail
          refine HCM.out.mono ?_
          rintro e w' ⟨rfl, rfl⟩
          go_wp2_with fail
          go_ret
          exact ⟨by rw [HE.out] <;> rfl, rfl⟩
        · have HE : Hid (ofD zs = false) := hid (by
            rw [HD.out, show (zs.getD p 0 == 1) = false from by rw [beq_eq_false_iff_ne]; exact hz1, decide_eq_false (show ¬ n ≤ 1 by omega)]; simp)
          have hb1 : (zs.getD p 0 == 1) = false := by rw [beq_eq_false_iff_ne]; exact hz1
          have hb2 : (zs.getD p 0 != 1) = true := by rw [bne, hb1]; rfl
          generalize zs.getD p 0 = y at *
          clear hs hz hn HD HC HCM hcl h0 hz0 hm hm0 hp e1 e2 hz1
          go_enter Try.func33, Try.ntmps33
          go_wp2_with fail
          go_ret
          exact ⟨by rw [HE.out] <;> rfl, rfl⟩
    · have hb1 : (zs.getD m 0 == 0) = false := by rw [beq_eq_false_iff_ne]; exact hz0
      have HE : Hid (ofD zs = false) := hid (by rw [HD.out, hb1]; simp)
      have hb2 : (zs.getD m 0 != 0) = true := by rw [bne, hb1]; rfl
      generalize zs.getD m 0 = y at *
      clear hs hz hn HD HC HCM hcl h0 hm e1 hz0
      go_enter Try.func33, Try.ntmps33
      go_wp2_with fail
      go_ret
      exact ⟨by rw [HE.out] <;> rfl, rfl⟩
theorem pDocsBad_any (ok : Nat → Prop) (w : World) (a : Option Addr) (c : Nat) (zs : List Int) (hs : Si ok w a zs) (hc : zs.length ≤ c) (_ : c ≤ maxLen) (hl : zs.length ≤ 65536) (hz : ∀ z ∈ zs, i64a z) (hd : docsR zs [] [] = none) :
    Calls Try.prog 9 #[.slice a zs.length c] w fun e w' => ∃ u cu, e = .returned (.tuple #[.slice u 0 cu, .int .i64 3]) ∧ Below w.heap.size w w' := by
  have H := hid (isOfDocs_any ok w a c zs hs hc hl hz)
  have ho : ofD zs = false := by
    cases h : ofD zs with
    | false => rfl
    | true => exact absurd hd (ofD_good h)
  rw [ho] at H
  generalize zs.length = n at *
  clear hs hc hl hz hd ho
  go_enter Try.func9, Try.ntmps9
  go_wp2_with fail
  refine H.out.mono ?_
  rintro e w' ⟨rfl, rfl⟩
  go_wp2_with fail
  go_ret2
  exact ⟨_, _, rfl, Below.refl _ _⟩
set_option maxRecDepth 20000 in
set_option maxHeartbeats 2000000 in
theorem pDocs_any (ok : Nat → Prop) (x : World) (a : Option Addr) (c : Nat) (zs : List Int) (ds : List (List Nat)) (hs : Si ok x a zs) (hc : zs.length ≤ c) (hcm : c ≤ maxLen) (hl : zs.length ≤ 65536) (hz : ∀ z ∈ zs, i64a z) (hd : docsR zs [] [] = some ds) :
    Calls Try.prog 9 #[.slice a zs.length c] x fun e w' => ∃ u cu, e = .returned (.tuple #[.slice u ds.length cu, .int .i64 0]) ∧ Pt (fun g => x.heap.size ≤ g) w' u ds ∧ Below x.heap.size x w' := by
  obtain ⟨hby, rfl⟩ := docsR_some hd
  have HOF := hid (isOfDocs_any ok x a c _ hs hc hl hz)
  rw [ofD_text hby] at HOF
  have HBY := hid hby
  have hlen : (nZ (txtD ds ++ [0])).length = (txtD ds).length + 1 := by rw [nZ_len, List.length_append]; rfl
  rw [hlen] at HOF hc hl ⊢
  obtain ⟨b, o, rfl, hcl⟩ : ∃ b o, a = some ⟨b, o, none⟩ ∧ ∀ i, i < (txtD ds).length + 1 → x.cell? ⟨b, o + i, none⟩ = some (.int .i64 ((nZ (txtD ds ++ [0])).getD i 0)) := by
    rcases hs with h | ⟨b, o, h, _, hc⟩
    · rw [h] at hlen; exact absurd hlen (by simp)
    · exact ⟨b, o, h, fun i hi => hc i (by rw [hlen]; exact hi)⟩
  have HCL : Hid (∀ y, Below x.heap.size x y → ∀ i, i < (txtD ds).length + 1 → y.cell? ⟨b, o + i, none⟩ = some (.int .i64 ((nZ (txtD ds ++ [0])).getD i 0))) := hid fun y hy i hi => cell_kept (hcl i hi) hy
  obtain ⟨n, hn⟩ : ∃ n, n = (txtD ds).length + 1 := ⟨_, rfl⟩
  have HN := hid hn
  rw [← hn] at HOF HCL hc hl ⊢
  have hnc : (n : Int) ≤ (c : Int) := by omega
  have hnb : (n : Int) ≤ 65536 := by omega
  have HCM := hid hcm
  clear hs hcm hz hd hlen hcl hn hby hl hc
  go_enter Try.func9, Try.ntmps9
  go_wp2_with fail
  refine HOF.out.mono ?_
  rintro e w' ⟨rfl, rfl⟩
  clear HOF
  go_wp2_with fail
  go_loopw [4, 5, 13] (fun u f i wr => ∃ (t k q : Nat) (vs : List Value), t ≤ n ∧ i = .int .i64 (t : Int) ∧ f = .int .i64 (q : Int) ∧ DocI ds t k q ∧ Pd x.heap.size wr u (ds.take k) vs ∧ Below x.heap.size x wr) (fun _ _ i _ => n - (intOf i).toNat)
  case atStart => exact ⟨0, 0, 0, [], Nat.zero_le _, rfl, rfl, ⟨Nat.zero_le _, rfl, Nat.le_refl _, fun _ => Nat.zero_le _, fun _ => Nat.zero_le _⟩, Pd.nil _ _, Below.refl _ _⟩
  case round =>
    obtain ⟨t, k, f, vs, ht, rfl, rfl, hi, hp, hb⟩ := hrel
    have HI := hid hi
    have HP := hid hp
    have HB := hid hb
    clear hi hp hb
    by_cases hlt : t < n
    · have hti : (t < n) = True := eq_true hlt
      have HLT := hid hlt
      have hcell := HCL.out wr HB.out t hlt
      by_cases hk : k < ds.length
      · have hie := HI.out.in_ hk
        by_cases hin : t < f + (ds.getD k []).length
        · have hsym : (nZ (txtD ds ++ [0])).getD t 0 = (((ds.getD k []).getD (t - f) 0 + 2 : Nat) : Int) := by
            have h1 := txt_sym (ds := ds) hk (j := t - f) (by have := HI.out.ft; omega)
            rw [← HI.out.fe, Nat.add_sub_cancel' HI.out.ft] at h1
            exact h1
          rw [hsym] at hcell
          obtain ⟨y, hy⟩ : ∃ y, y = (ds.getD k []).getD (t - f) 0 + 2 := ⟨_, rfl⟩
          rw [← hy] at hcell
          have hy1 : ((y : Int) == 1) = false := by rw [beq_eq_false_iff_ne]; omega
          have HI2 : Hid (DocI ds (t + 1) k f) := hid ⟨HI.out.kl, HI.out.fe, by have := HI.out.ft; omega, fun _ => by omega, fun h => by omega⟩
          clear hie hin hsym hy hk hlt HI
          go_wp2_with fail
          go_roundw
          case rel => exact ⟨t + 1, k, f, vs, HLT.out, by go_num, rfl, HI2.out, HP.out, HB.out⟩
          case measure => simp [intOf]; have := HLT.out; omega
        · have hte : t = f + (ds.getD k []).length := by omega
          have hone := txt_one hk
          rw [← HI.out.fe, ← hte] at hone
          rw [hone] at hcell
          have hmem := getD_memA (d := []) hk
          have HDB := hid (HBY.out _ hmem)
          have htk : ds.take (k + 1) = ds.take k ++ [ds.getD k []] := by
            rw [List.take_succ_eq_append_getElem hk, List.getD_eq_getElem?_getD, List.getElem?_eq_getElem hk]; rfl
          have HTK := hid htk
          have HI2 : Hid (DocI ds (t + 1) (k + 1) (t + 1)) := hid ⟨hk, by rw [txtD_len hk, ← HI.out.fe, hte], Nat.le_refl _, fun _ => by omega, fun _ => by omega⟩
          have hpc := txt_piece hk
          rw [← HI.out.fe, nZ_len, List.length_map] at hpc
          have hKL : k ≤ 65536 := by
            have h1 := docs_le ds
            have h2 := HN.out
            omega
          have HSI : Hid (Si (fun _ => True) wr (some ⟨b, o + f, none⟩) (nZ ((ds.getD k []).map (· + 2)))) := hid (.inr ⟨b, o + f, rfl, trivial, fun i hi => by
            rw [nZ_len, List.length_map] at hi
            have h1 := HCL.out wr HB.out (f + i) (by have := HI.out.ft; omega)
            rw [hpc i hi] at h1
            rw [Nat.add_assoc]
            exact h1⟩)
          have HVL : Hid (vs.length = k) := hid (by rw [HP.out.len, List.length_take]; omega)
          have hft := HI.out.ft
          generalize ds.getD k [] = d at *
          have HM := hid (mappedO_any _ wr (some ⟨b, o + f, none⟩) (c - f) (nZ (d.map (· + 2))) 35 #[] (fun z => (z - 2).toNat) HSI.out (by rw [nZ_len, List.length_map]; omega) ⟨fun _ _ => by kernel_rfl, fun y _ z hm => by
            obtain ⟨s, h4, rfl⟩ := List.mem_map.1 hm
            obtain ⟨q, h5, rfl⟩ := List.mem_map.1 h4
            have e : ((((q + 2 : Nat) : Int) - 2).toNat) = q := by omega
            simp only [e]
            exact docs1_any y q (HDB.out q h5)⟩)
          have hmk : (nZ (d.map (· + 2))).map (fun z => (z - 2).toNat) = d := by
            apply List.ext_getElem
            · simp [nZ]
            · intro i h1 h2
              simp [nZ]
          rw [hmk, nZ_len, List.length_map] at HM
          obtain ⟨L, hL⟩ : ∃ L, L = d.length := ⟨_, rfl⟩
          rw [← hL] at HM hte
          have HL := hid hL
          have htf : (t : Int) - (f : Int) = (L : Int) := by omega
          have htf' : t - f = L := by omega
          have hfi : (f : Int) ≤ (t : Int) := by omega
          have htc : (t : Int) ≤ (c : Int) := by omega
          have hcf : (c = f) = False := eq_false (by omega)
          have hfb : (f : Int) < 65536 := by omega
          clear hin hie hone hmem htk hpc hmk hL hk hlt HI HSI hft hte
          go_wp2_with fail
          refine HM.out.mono ?_
          rintro e w2 ⟨g, rfl, ho, hb2⟩
          have HRB : Hid (RowB x.heap.size d w2 (.slice (some ⟨g, 0, none⟩) L L)) := hid (by
            unfold RowB
            rw [← HL.out]
            exact own_weaken ho HB.out.size)
          have HP2 := hid (HP.out.below hb2)
          have HB2 := hid (HB.out.trans (hb2.mono HB.out.size))
          have HAL := hid ((Below.refl w2.heap.size w2).alloc (Nat.le_refl _) (.cells #[.slice (some ⟨g, 0, none⟩) L L] 49))
          clear ho hb2 HM HP HB
          go_wp2_with (refine wpList_append_nx rfl (.tmp 20) (.tmp 26) 22 rfl x.heap.size 49 (.slice none 0 0) 24 Try.underlying22 infoSl rfl _ _ _ rfl (HP2.out.own.alloc _) (some ⟨w2.heap.size, 0, none⟩) 1 1 [.slice (some ⟨g, 0, none⟩) L L] rfl rfl (by intro h; cases h) (one_new w2 _ _) (by simp [Value.oneCell']) (by rw [HVL.out]; unfold maxLen; omega) (by rw [HVL.out]; omega) (by have := HB2.out.size; simp; omega) ?_)
          intro v3 w3 hu3 hg3 hn3
          have HP3 := hid ((HP2.out.below HAL.out).snoc (RowB.kept HRB.out HAL.out) HDB.out hu3 hg3 hn3)
          have HB3 := hid (below_owned (w0 := x) (HB2.out.alloc HB2.out.size _) (HP2.out.own.alloc _) (Nat.le_refl _) hg3)
          rw [← HTK.out] at HP3
          clear hu3 hg3 hn3 HP2 HB2 HAL HRB
          go_wp2_with fail
          go_roundw
          case rel => exact ⟨t + 1, k + 1, t + 1, _, HLT.out, by go_num, by go_num, HI2.out, HP3.out, HB3.out⟩
          case measure => simp [intOf]; have := HLT.out; omega
      · have hke : k = ds.length := by have := HI.out.kl; omega
        have hfe := HI.out.fe
        rw [hke, List.take_length] at hfe
        have hto := HI.out.out hke
        have hte : t = (txtD ds).length := by have := HI.out.ft; have := HN.out; omega
        have hze := txt_end ds
        rw [← hte] at hze
        rw [hze] at hcell
        have HI2 : Hid (DocI ds (t + 1) k f) := hid ⟨HI.out.kl, HI.out.fe, by have := HI.out.ft; omega, fun h => absurd h hk, fun _ => by have := HI.out.ft; omega⟩
        clear hfe hto hte hze hke hk hlt HI
        go_wp2_with fail
        go_roundw
        case rel => exact ⟨t + 1, k, f, vs, HLT.out, by go_num, rfl, HI2.out, HP.out, HB.out⟩
        case measure => simp [intOf]; have := HLT.out; omega
    · have hti : (t < n) = False := eq_false hlt
      have HKE : Hid (k = ds.length) := hid (by
        have h1 := HI.out
        have h2 := HN.out
        refine Classical.byContradiction fun h => ?_
        have hk : k < ds.length := by have := h1.kl; omega
        have h3 := h1.in_ hk
        have h4 := txtD_len hk
        have h5 := txtD_le ds (k + 1)
        rw [← h1.fe] at h4
        omega)
      have hpd := HP.out
      rw [HKE.out, List.take_length] at hpd
      obtain ⟨a3, c3, hv, hpt⟩ := hpd.pt
      have HPT := hid hpt
      subst hv
      obtain ⟨nd, hnd⟩ : ∃ nd, nd = ds.length := ⟨_, rfl⟩
      have HND := hid hnd
      rw [← hnd]
      clear hnd
      clear hlt hpd hpt HP HI
      go_wp2_with fail
      go_ret2
      exact ⟨a3, c3, by rw [← HND.out] <;> rfl, HPT.out, HB.out⟩
end Go.Proofs.Ytbhpfdpcafdeaaa
