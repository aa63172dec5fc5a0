/- CONTRACTS: the document's body of a node. -/
import Derived.Test.YtokeihpmagcneaaNdC
import Derived.Test.YtokeihpmagcneaaVarA
namespace Go.Inc
/-- A node's body. -/
def ebyte (e : Et) : List Nat := Var.put e.1.1.toNat ++ Var.put e.1.2.toNat ++ Var.put e.2.toNat
def ebytes (es : List Et) : List Nat := es.flatMap ebyte
def encN (lf : Bool) (es : List Et) : List Nat := [if lf = true then 1 else 0, es.length] ++ ebytes es
theorem ebytes_snoc (es : List Et) (e : Et) : ebytes (es ++ [e]) = ebytes es ++ ebyte e := by simp [ebytes]
theorem ebyte_len {e : Et} (h : okE e = true) : (ebyte e).length ≤ 30 := by
  have := okE_iff.1 h
  have h1 := Var.put_ten (n := e.1.1.toNat) (by omega)
  have h2 := Var.put_ten (n := e.1.2.toNat) (by omega)
  have h3 := Var.put_ten (n := e.2.toNat) (by omega)
  unfold ebyte
  rw [List.length_append, List.length_append]
  omega
theorem ebytes_len : ∀ {es : List Et}, (∀ e ∈ es, okE e = true) → (ebytes es).length ≤ 30 * es.length
  | [], _ => Nat.zero_le _
  | e :: r, h => by
    have ih := ebytes_len (es := r) fun x hx => h x (List.mem_cons_of_mem _ hx)
    have h1 := ebyte_len (h e (List.mem_cons_self ..))
    show (ebyte e ++ ebytes r).length ≤ _
    rw [List.length_append, List.length_cons]
    omega
theorem ebyte_bytes (e : Et) : Bytes (ebyte e) := Bytes.append (Bytes.append (Var.put_bytes _) (Var.put_bytes _)) (Var.put_bytes _)
theorem ebytes_bytes (es : List Et) : Bytes (ebytes es) := by
  intro x hx
  obtain ⟨e, _, h⟩ := List.mem_flatMap.1 hx
  exact ebyte_bytes e x h
end Go.Inc
namespace Go.Proofs.Ytokeihpmagcneaa
open Go.RowKit Go.Inc
theorem rowMore {w : World} {E B : Nat} {v : Value} {bs cs : List Nat} {n : Nat} (h : w.ownsRow B E 1 v n (u8s bs ++ u8s cs)) (hn : n = (bs ++ cs).length) : Row E B w v (bs ++ cs) := by
  subst hn
  unfold Row
  have e : u8s (bs ++ cs) = u8s bs ++ u8s cs := by simp [u8s]
  rw [e]
  exact h
theorem infoU8N : (Try.prog.info? 5).map (fun i => (i.zero, i.size, i.bytes)) = some (some (.int .u8 0), 1, 1) := by kernel_rfl
set_option maxRecDepth 20000 in
set_option maxHeartbeats 4000000 in
theorem rEncode_true (ok : Nat → Prop) (a : Option Addr) (c : Nat) (es : List Et) (w : World) (hs : EtS ok w a es) (hl : (es.length : Int) ≤ 16) (hok : ∀ e ∈ es, okE e = true) :
    Calls Try.prog 17 #[.agg #[.bool true, .slice a es.length c]] w fun e w' => ∃ v, e = .returned v ∧ Row 5 w.heap.size w' v (encN true es) ∧ Below w.heap.size w w' := by
  have HS := hid hs.old
  have HOK := hid hok
  obtain ⟨n, hn⟩ : ∃ n, n = es.length := ⟨_, rfl⟩
  have HN := hid hn
  obtain ⟨g, hg⟩ : ∃ g, g = w.heap.size := ⟨_, rfl⟩
  have HG := hid hg
  obtain ⟨w0, hw0⟩ : ∃ w0, w0 = (w.alloc (.cells #[.bool true, .slice a n c] 24)).alloc (.cells #[.int .u8 1, .int .u8 (n : Int)] 5) := ⟨_, rfl⟩
  have HW0 := hid hw0
  have HB0 : Hid (Below w.heap.size w w0) := hid (by rw [hw0]; exact ((Below.refl _ _).alloc (Nat.le_refl _) _).alloc (by simp) _)
  have HX0 : Hid (w0.heap[g]? = some (.cells #[.bool true, .slice a n c] 24 (0, 0))) := hid (by rw [hw0, hg]; exact heap_alloc2_old w _ _)
  have hrow0 : w0.heap[g + 1]? = some (.cells #[.int .u8 1, .int .u8 (n : Int)] 5 (0, 0)) := by rw [hw0, hg]; exact heap_alloc2_new w _ _
  have HROW : Hid (Row 5 w.heap.size w0 (.slice (some ⟨g + 1, 0, none⟩) 2 2) ([1, n] ++ ebytes (es.take 0))) := hid (by
    refine ⟨rfl, .inr ⟨g + 1, 2, _, rfl, by omega, hrow0, Nat.le_refl _, by unfold maxLen; omega, rfl, ?_⟩⟩
    simp [u8s, ebytes])
  rw [← hn] at hl
  have hnu : IntKind.u8.wrap (n : Int) = (n : Int) := by
    have : IntKind.u8.wrap (n : Int) = (n : Int) % 256 := by simp [IntKind.wrap, IntKind.bits, IntKind.signed]
    rw [this]; omega
  rw [← hn]
  clear hs hok hn hg hw0 hrow0
  go_enter Try.func17, Try.ntmps17
  go_wp2_with fail
  rw [← HW0.out, ← HG.out]
  go_loopw [3, 4] (fun v i wr => ∃ k : Nat, k ≤ n ∧ i = .int .i64 (k : Int) ∧ Row 5 w.heap.size wr v ([1, n] ++ ebytes (es.take k)) ∧ wr.heap[g]? = some (.cells #[.bool true, .slice a n c] 24 (0, 0)) ∧ Below w.heap.size w wr) (fun _ i _ => n - (intOf i).toNat)
  case atStart => exact ⟨0, Nat.zero_le _, rfl, HROW.out, HX0.out, HB0.out⟩
  case round =>
    clear HROW HX0 HB0 hnu
    obtain ⟨k, hk, rfl, hr, hx, hb⟩ := hrel
    have HR := hid hr
    have HX := hid hx
    have HB := hid hb
    have hb1 : wr.cell? ⟨g, 1, none⟩ = some (.slice a n c) := by rw [cell_of_row _ _ _ _ _ _ hx]; rfl
    clear hr hx hb
    by_cases hlt : (k : Int) < n
    · have hkn : (k < n) = True := eq_true (by omega)
      obtain ⟨b, o, rfl, hx1, hx2, hx3⟩ := (HS.out.below HB.out).cell (i := k) (by have := HN.out; omega)
      have HSN := hid (takeSnoc (bs := es) (d := et0) (k := k) (by have := HN.out; omega))
      have hokk := HOK.out _ (memGetD (zs := es) (d := et0) (k := k) (by have := HN.out; omega))
      have HC : Hid (∀ y, Below w.heap.size w y → y.cell? ⟨b, o + k * 3, none⟩ = some (.int .i64 (es.getD k et0).1.1) ∧ y.cell? ⟨b, o + k * 3 + 1, none⟩ = some (.int .i64 (es.getD k et0).1.2) ∧ y.cell? ⟨b, o + k * 3 + 2, none⟩ = some (.int .i64 (es.getD k et0).2)) := hid fun y hy => by
        obtain ⟨b', o', e', q⟩ := (HS.out.below hy).cell (i := k) (by have := HN.out; omega)
        cases e'
        exact q
      obtain ⟨⟨⟨s, z⟩, p⟩, hx⟩ : ∃ x, x = es.getD k et0 := ⟨_, rfl⟩
      rw [← hx] at hx1 hx2 hx3 HSN hokk HC
      simp only at hx1 hx2 hx3 HC
      have hval := okE_iff.1 hokk
      simp only at hval
      have HVAL : Hid ((0 ≤ s ∧ s < 16) ∧ (0 ≤ z ∧ z < 65536) ∧ 1 < p ∧ p < 2048) := hid (by omega)
      have hs0 : 0 ≤ s ∧ s < 16 := HVAL.out.1
      have hz0 : 0 ≤ z ∧ z < 65536 := HVAL.out.2.1
      have hp0 : 1 < p ∧ p < 2048 := HVAL.out.2.2
      have HLEN0 : Hid (([1, n] ++ ebytes (es.take k)).length ≤ 600) := hid (by
        have h1 := ebytes_len (es := es.take k) (fun e he => HOK.out e (List.mem_of_mem_take he))
        rw [List.length_take] at h1
        rw [List.length_append]
        simp only [List.length_cons, List.length_nil]
        omega)
      have HP1 : Hid (∀ y, Below w.heap.size w y → Calls Try.prog 38 #[.int .u64 s] y fun e w' => ∃ v', e = .returned v' ∧ Row 5 y.heap.size w' v' (Var.put (s).toNat) ∧ Below y.heap.size y w') := hid fun y _ => by
        have h := refPut_any (s).toNat y (by have := HVAL.out; omega)
        rw [Int.toNat_of_nonneg (by have := HVAL.out; omega)] at h
        exact h
      have HP2 : Hid (∀ y, Below w.heap.size w y → Calls Try.prog 38 #[.int .u64 z] y fun e w' => ∃ v', e = .returned v' ∧ Row 5 y.heap.size w' v' (Var.put (z).toNat) ∧ Below y.heap.size y w') := hid fun y _ => by
        have h := refPut_any (z).toNat y (by have := HVAL.out; omega)
        rw [Int.toNat_of_nonneg (by have := HVAL.out; omega)] at h
        exact h
      have HP3 : Hid (∀ y, Below w.heap.size w y → Calls Try.prog 38 #[.int .u64 p] y fun e w' => ∃ v', e = .returned v' ∧ Row 5 y.heap.size w' v' (Var.put (p).toNat) ∧ Below y.heap.size y w') := hid fun y _ => by
        have h := refPut_any (p).toNat y (by have := HVAL.out; omega)
        rw [Int.toNat_of_nonneg (by have := HVAL.out; omega)] at h
        exact h
      obtain ⟨X0, hX0⟩ : ∃ X0, X0 = [1, n] ++ ebytes (es.take k) := ⟨_, rfl⟩
      have HX00 := hid hX0
      have HLEN : Hid (X0.length ≤ 600) := hid (by rw [hX0]; exact HLEN0.out)
      rw [← hX0] at HR
      obtain ⟨P1, hP1⟩ : ∃ P1, P1 = Var.put s.toNat := ⟨_, rfl⟩
      obtain ⟨P2, hP2⟩ : ∃ P2, P2 = Var.put z.toNat := ⟨_, rfl⟩
      obtain ⟨P3, hP3⟩ : ∃ P3, P3 = Var.put p.toNat := ⟨_, rfl⟩
      have HPP := hid (And.intro hP1 (And.intro hP2 hP3))
      rw [← hP1] at HP1
      rw [← hP2] at HP2
      rw [← hP3] at HP3
      clear hx hokk hval hX0 hP1 hP2 hP3
      go_wp2_with fail
      refine (HP1.out wr HB.out).mono ?_
      clear HP1
      rintro e x1 ⟨v1, rfl, hr1, hb1⟩
      obtain ⟨a1, c1, rfl, -, -, -, hs1⟩ := hr1.sl
      have HRa1 := hid (HR.out.kept hb1)
      have HBa1 : Hid (Below w.heap.size w x1) := hid (HB.out.trans (hb1.mono HB.out.size))
      have HXa1 := hid (row_below HX.out hb1)
      have HSa1 := hid hs1
      have HLb1 : Hid (P1.length ≤ 10) := hid (by rw [HPP.out.1]; exact Var.put_ten (by have := HVAL.out; omega))
      clear hr1 hb1 hs1 HR HB HX
      try clear hb1 hx1 hx2 hx3
      go_wp2_with (refine wpList_append_any rfl (.tmp 21) (.tmp 30) 30 rfl w.heap.size 5 (.int .u8 0) 1 Try.underlying30 infoU8N rfl _ _ _ rfl HRa1.out a1 _ _ (u8s P1) rfl (u8s_length _) HSa1.out.some_len HSa1.out.cells (u8s_one _) (by have h1 := HLEN.out; have h2 := HLb1.out;  unfold maxLen; omega) (by have h1 := HLEN.out; have h2 := HLb1.out;  omega) (by have := HBa1.out.size; omega) ?_)
      intro u1 y1 hv1 hg1 _
      have HB1 : Hid (Below w.heap.size w y1) := hid (below_owned HBa1.out HRa1.out (Nat.le_refl _) hg1)
      have HX1 := hid (rowApart (by decide) HRa1.out hg1 HXa1.out)
      have HR1 := hid (rowMore hv1 (by simp only [List.length_append]))
      have hb1 : y1.cell? ⟨g, 1, none⟩ = some (.slice (some ⟨b, o, none⟩) n c) := by rw [cell_of_row _ _ _ _ _ _ HX1.out]; rfl
      obtain ⟨hx1, hx2, hx3⟩ := HC.out y1 HB1.out
      clear hv1 hg1 HRa1 HBa1 HXa1 HSa1
      go_wp2_with fail
      refine (HP2.out y1 HB1.out).mono ?_
      clear HP2
      rintro e x2 ⟨v2, rfl, hr2, hb2⟩
      obtain ⟨a2, c2, rfl, -, -, -, hs2⟩ := hr2.sl
      have HRa2 := hid (HR1.out.kept hb2)
      have HBa2 : Hid (Below w.heap.size w x2) := hid (HB1.out.trans (hb2.mono HB1.out.size))
      have HXa2 := hid (row_below HX1.out hb2)
      have HSa2 := hid hs2
      have HLb2 : Hid (P2.length ≤ 10) := hid (by rw [HPP.out.2.1]; exact Var.put_ten (by have := HVAL.out; omega))
      clear hr2 hb2 hs2 HR1 HB1 HX1
      try clear hb1 hx1 hx2 hx3
      go_wp2_with (refine wpList_append_any rfl (.tmp 32) (.tmp 41) 30 rfl w.heap.size 5 (.int .u8 0) 1 Try.underlying30 infoU8N rfl _ _ _ rfl HRa2.out a2 _ _ (u8s P2) rfl (u8s_length _) HSa2.out.some_len HSa2.out.cells (u8s_one _) (by have h1 := HLEN.out; have h2 := HLb2.out; have h3 := HLb1.out; rw [List.length_append]; unfold maxLen; omega) (by have h1 := HLEN.out; have h2 := HLb2.out; have h3 := HLb1.out; rw [List.length_append]; omega) (by have := HBa2.out.size; omega) ?_)
      intro u2 y2 hv2 hg2 _
      have HB2 : Hid (Below w.heap.size w y2) := hid (below_owned HBa2.out HRa2.out (Nat.le_refl _) hg2)
      have HX2 := hid (rowApart (by decide) HRa2.out hg2 HXa2.out)
      have HR2 := hid (rowMore hv2 (by simp only [List.length_append]))
      have hb1 : y2.cell? ⟨g, 1, none⟩ = some (.slice (some ⟨b, o, none⟩) n c) := by rw [cell_of_row _ _ _ _ _ _ HX2.out]; rfl
      obtain ⟨hx1, hx2, hx3⟩ := HC.out y2 HB2.out
      clear hv2 hg2 HRa2 HBa2 HXa2 HSa2
      go_wp2_with fail
      refine (HP3.out y2 HB2.out).mono ?_
      clear HP3
      rintro e x3 ⟨v3, rfl, hr3, hb3⟩
      obtain ⟨a3, c3, rfl, -, -, -, hs3⟩ := hr3.sl
      have HRa3 := hid (HR2.out.kept hb3)
      have HBa3 : Hid (Below w.heap.size w x3) := hid (HB2.out.trans (hb3.mono HB2.out.size))
      have HXa3 := hid (row_below HX2.out hb3)
      have HSa3 := hid hs3
      have HLb3 : Hid (P3.length ≤ 10) := hid (by rw [HPP.out.2.2]; exact Var.put_ten (by have := HVAL.out; omega))
      clear hr3 hb3 hs3 HR2 HB2 HX2
      try clear hb1 hx1 hx2 hx3
      go_wp2_with (refine wpList_append_any rfl (.tmp 43) (.tmp 51) 30 rfl w.heap.size 5 (.int .u8 0) 1 Try.underlying30 infoU8N rfl _ _ _ rfl HRa3.out a3 _ _ (u8s P3) rfl (u8s_length _) HSa3.out.some_len HSa3.out.cells (u8s_one _) (by have h1 := HLEN.out; have h2 := HLb3.out; have h3 := HLb1.out; have h4 := HLb2.out; rw [List.length_append, List.length_append]; unfold maxLen; omega) (by have h1 := HLEN.out; have h2 := HLb3.out; have h3 := HLb1.out; have h4 := HLb2.out; rw [List.length_append, List.length_append]; omega) (by have := HBa3.out.size; omega) ?_)
      intro u3 y3 hv3 hg3 _
      have HB3 : Hid (Below w.heap.size w y3) := hid (below_owned HBa3.out HRa3.out (Nat.le_refl _) hg3)
      have HX3 := hid (rowApart (by decide) HRa3.out hg3 HXa3.out)
      have HR3 := hid (rowMore hv3 (by simp only [List.length_append]))
      have hb1 : y3.cell? ⟨g, 1, none⟩ = some (.slice (some ⟨b, o, none⟩) n c) := by rw [cell_of_row _ _ _ _ _ _ HX3.out]; rfl
      obtain ⟨hx1, hx2, hx3⟩ := HC.out y3 HB3.out
      clear hv3 hg3 HRa3 HBa3 HXa3 HSa3
      have HFIN : Hid (X0 ++ P1 ++ P2 ++ P3 = [1, n] ++ ebytes (es.take (k + 1))) := hid (by
        rw [HSN.out, ebytes_snoc, HX00.out, HPP.out.1, HPP.out.2.1, HPP.out.2.2]
        simp [ebyte])
      clear hb1 hx1 hx2 hx3
      go_wp2_with fail
      go_roundw
      case rel => exact ⟨k + 1, by omega, by go_num, by have h := HR3.out; simp only [List.append_assoc] at h; rw [← HFIN.out]; simp only [List.append_assoc]; exact h, HX3.out, HB3.out⟩
      case measure => simp [intOf]; omega
    · have hkf : (k < n) = False := eq_false (by omega)
      have HKN : Hid (k = n) := hid (by omega)
      clear hlt
      go_wp2_with fail
      go_ret
      exact ⟨_, rfl, by
        have h := HR.out
        rw [show es.take k = es by rw [HKN.out, HN.out, List.take_length], HN.out] at h
        exact h, HB.out⟩
set_option maxRecDepth 20000 in
set_option maxHeartbeats 4000000 in
theorem rEncode_false (ok : Nat → Prop) (a : Option Addr) (c : Nat) (es : List Et) (w : World) (hs : EtS ok w a es) (hl : (es.length : Int) ≤ 16) (hok : ∀ e ∈ es, okE e = true) :
    Calls Try.prog 17 #[.agg #[.bool false, .slice a es.length c]] w fun e w' => ∃ v, e = .returned v ∧ Row 5 w.heap.size w' v (encN false es) ∧ Below w.heap.size w w' := by
  have HS := hid hs.old
  have HOK := hid hok
  obtain ⟨n, hn⟩ : ∃ n, n = es.length := ⟨_, rfl⟩
  have HN := hid hn
  obtain ⟨g, hg⟩ : ∃ g, g = w.heap.size := ⟨_, rfl⟩
  have HG := hid hg
  obtain ⟨w0, hw0⟩ : ∃ w0, w0 = (w.alloc (.cells #[.bool false, .slice a n c] 24)).alloc (.cells #[.int .u8 0, .int .u8 (n : Int)] 5) := ⟨_, rfl⟩
  have HW0 := hid hw0
  have HB0 : Hid (Below w.heap.size w w0) := hid (by rw [hw0]; exact ((Below.refl _ _).alloc (Nat.le_refl _) _).alloc (by simp) _)
  have HX0 : Hid (w0.heap[g]? = some (.cells #[.bool false, .slice a n c] 24 (0, 0))) := hid (by rw [hw0, hg]; exact heap_alloc2_old w _ _)
  have hrow0 : w0.heap[g + 1]? = some (.cells #[.int .u8 0, .int .u8 (n : Int)] 5 (0, 0)) := by rw [hw0, hg]; exact heap_alloc2_new w _ _
  have HROW : Hid (Row 5 w.heap.size w0 (.slice (some ⟨g + 1, 0, none⟩) 2 2) ([0, n] ++ ebytes (es.take 0))) := hid (by
    refine ⟨rfl, .inr ⟨g + 1, 2, _, rfl, by omega, hrow0, Nat.le_refl _, by unfold maxLen; omega, rfl, ?_⟩⟩
    simp [u8s, ebytes])
  rw [← hn] at hl
  have hnu : IntKind.u8.wrap (n : Int) = (n : Int) := by
    have : IntKind.u8.wrap (n : Int) = (n : Int) % 256 := by simp [IntKind.wrap, IntKind.bits, IntKind.signed]
    rw [this]; omega
  rw [← hn]
  clear hs hok hn hg hw0 hrow0
  go_enter Try.func17, Try.ntmps17
  go_wp2_with fail
  rw [← HW0.out, ← HG.out]
  go_loopw [3, 4] (fun v i wr => ∃ k : Nat, k ≤ n ∧ i = .int .i64 (k : Int) ∧ Row 5 w.heap.size wr v ([0, n] ++ ebytes (es.take k)) ∧ wr.heap[g]? = some (.cells #[.bool false, .slice a n c] 24 (0, 0)) ∧ Below w.heap.size w wr) (fun _ i _ => n - (intOf i).toNat)
  case atStart => exact ⟨0, Nat.zero_le _, rfl, HROW.out, HX0.out, HB0.out⟩
  case round =>
    clear HROW HX0 HB0 hnu
    obtain ⟨k, hk, rfl, hr, hx, hb⟩ := hrel
    have HR := hid hr
    have HX := hid hx
    have HB := hid hb
    have hb1 : wr.cell? ⟨g, 1, none⟩ = some (.slice a n c) := by rw [cell_of_row _ _ _ _ _ _ hx]; rfl
    clear hr hx hb
    by_cases hlt : (k : Int) < n
    · have hkn : (k < n) = True := eq_true (by omega)
      obtain ⟨b, o, rfl, hx1, hx2, hx3⟩ := (HS.out.below HB.out).cell (i := k) (by have := HN.out; omega)
      have HSN := hid (takeSnoc (bs := es) (d := et0) (k := k) (by have := HN.out; omega))
      have hokk := HOK.out _ (memGetD (zs := es) (d := et0) (k := k) (by have := HN.out; omega))
      have HC : Hid (∀ y, Below w.heap.size w y → y.cell? ⟨b, o + k * 3, none⟩ = some (.int .i64 (es.getD k et0).1.1) ∧ y.cell? ⟨b, o + k * 3 + 1, none⟩ = some (.int .i64 (es.getD k et0).1.2) ∧ y.cell? ⟨b, o + k * 3 + 2, none⟩ = some (.int .i64 (es.getD k et0).2)) := hid fun y hy => by
        obtain ⟨b', o', e', q⟩ := (HS.out.below hy).cell (i := k) (by have := HN.out; omega)
        cases e'
        exact q
      obtain ⟨⟨⟨s, z⟩, p⟩, hx⟩ : ∃ x, x = es.getD k et0 := ⟨_, rfl⟩
      rw [← hx] at hx1 hx2 hx3 HSN hokk HC
      simp only at hx1 hx2 hx3 HC
      have hval := okE_iff.1 hokk
      simp only at hval
      have HVAL : Hid ((0 ≤ s ∧ s < 16) ∧ (0 ≤ z ∧ z < 65536) ∧ 1 < p ∧ p < 2048) := hid (by omega)
      have hs0 : 0 ≤ s ∧ s < 16 := HVAL.out.1
      have hz0 : 0 ≤ z ∧ z < 65536 := HVAL.out.2.1
      have hp0 : 1 < p ∧ p < 2048 := HVAL.out.2.2
      have HLEN0 : Hid (([0, n] ++ ebytes (es.take k)).length ≤ 600) := hid (by
        have h1 := ebytes_len (es := es.take k) (fun e he => HOK.out e (List.mem_of_mem_take he))
        rw [List.length_take] at h1
        rw [List.length_append]
        simp only [List.length_cons, List.length_nil]
        omega)
      have HP1 : Hid (∀ y, Below w.heap.size w y → Calls Try.prog 38 #[.int .u64 s] y fun e w' => ∃ v', e = .returned v' ∧ Row 5 y.heap.size w' v' (Var.put (s).toNat) ∧ Below y.heap.size y w') := hid fun y _ => by
        have h := refPut_any (s).toNat y (by have := HVAL.out; omega)
        rw [Int.toNat_of_nonneg (by have := HVAL.out; omega)] at h
        exact h
      have HP2 : Hid (∀ y, Below w.heap.size w y → Calls Try.prog 38 #[.int .u64 z] y fun e w' => ∃ v', e = .returned v' ∧ Row 5 y.heap.size w' v' (Var.put (z).toNat) ∧ Below y.heap.size y w') := hid fun y _ => by
        have h := refPut_any (z).toNat y (by have := HVAL.out; omega)
        rw [Int.toNat_of_nonneg (by have := HVAL.out; omega)] at h
        exact h
      have HP3 : Hid (∀ y, Below w.heap.size w y → Calls Try.prog 38 #[.int .u64 p] y fun e w' => ∃ v', e = .returned v' ∧ Row 5 y.heap.size w' v' (Var.put (p).toNat) ∧ Below y.heap.size y w') := hid fun y _ => by
        have h := refPut_any (p).toNat y (by have := HVAL.out; omega)
        rw [Int.toNat_of_nonneg (by have := HVAL.out; omega)] at h
        exact h
      obtain ⟨X0, hX0⟩ : ∃ X0, X0 = [0, n] ++ ebytes (es.take k) := ⟨_, rfl⟩
      have HX00 := hid hX0
      have HLEN : Hid (X0.length ≤ 600) := hid (by rw [hX0]; exact HLEN0.out)
      rw [← hX0] at HR
      obtain ⟨P1, hP1⟩ : ∃ P1, P1 = Var.put s.toNat := ⟨_, rfl⟩
      obtain ⟨P2, hP2⟩ : ∃ P2, P2 = Var.put z.toNat := ⟨_, rfl⟩
      obtain ⟨P3, hP3⟩ : ∃ P3, P3 = Var.put p.toNat := ⟨_, rfl⟩
      have HPP := hid (And.intro hP1 (And.intro hP2 hP3))
      rw [← hP1] at HP1
      rw [← hP2] at HP2
      rw [← hP3] at HP3
      clear hx hokk hval hX0 hP1 hP2 hP3
      go_wp2_with fail
      refine (HP1.out wr HB.out).mono ?_
      clear HP1
      rintro e x1 ⟨v1, rfl, hr1, hb1⟩
      obtain ⟨a1, c1, rfl, -, -, -, hs1⟩ := hr1.sl
      have HRa1 := hid (HR.out.kept hb1)
      have HBa1 : Hid (Below w.heap.size w x1) := hid (HB.out.trans (hb1.mono HB.out.size))
      have HXa1 := hid (row_below HX.out hb1)
      have HSa1 := hid hs1
      have HLb1 : Hid (P1.length ≤ 10) := hid (by rw [HPP.out.1]; exact Var.put_ten (by have := HVAL.out; omega))
      clear hr1 hb1 hs1 HR HB HX
      try clear hb1 hx1 hx2 hx3
      go_wp2_with (refine wpList_append_any rfl (.tmp 21) (.tmp 30) 30 rfl w.heap.size 5 (.int .u8 0) 1 Try.underlying30 infoU8N rfl _ _ _ rfl HRa1.out a1 _ _ (u8s P1) rfl (u8s_length _) HSa1.out.some_len HSa1.out.cells (u8s_one _) (by have h1 := HLEN.out; have h2 := HLb1.out;  unfold maxLen; omega) (by have h1 := HLEN.out; have h2 := HLb1.out;  omega) (by have := HBa1.out.size; omega) ?_)
      intro u1 y1 hv1 hg1 _
      have HB1 : Hid (Below w.heap.size w y1) := hid (below_owned HBa1.out HRa1.out (Nat.le_refl _) hg1)
      have HX1 := hid (rowApart (by decide) HRa1.out hg1 HXa1.out)
      have HR1 := hid (rowMore hv1 (by simp only [List.length_append]))
      have hb1 : y1.cell? ⟨g, 1, none⟩ = some (.slice (some ⟨b, o, none⟩) n c) := by rw [cell_of_row _ _ _ _ _ _ HX1.out]; rfl
      obtain ⟨hx1, hx2, hx3⟩ := HC.out y1 HB1.out
      clear hv1 hg1 HRa1 HBa1 HXa1 HSa1
      go_wp2_with fail
      refine (HP2.out y1 HB1.out).mono ?_
      clear HP2
      rintro e x2 ⟨v2, rfl, hr2, hb2⟩
      obtain ⟨a2, c2, rfl, -, -, -, hs2⟩ := hr2.sl
      have HRa2 := hid (HR1.out.kept hb2)
      have HBa2 : Hid (Below w.heap.size w x2) := hid (HB1.out.trans (hb2.mono HB1.out.size))
      have HXa2 := hid (row_below HX1.out hb2)
      have HSa2 := hid hs2
      have HLb2 : Hid (P2.length ≤ 10) := hid (by rw [HPP.out.2.1]; exact Var.put_ten (by have := HVAL.out; omega))
      clear hr2 hb2 hs2 HR1 HB1 HX1
      try clear hb1 hx1 hx2 hx3
      go_wp2_with (refine wpList_append_any rfl (.tmp 32) (.tmp 41) 30 rfl w.heap.size 5 (.int .u8 0) 1 Try.underlying30 infoU8N rfl _ _ _ rfl HRa2.out a2 _ _ (u8s P2) rfl (u8s_length _) HSa2.out.some_len HSa2.out.cells (u8s_one _) (by have h1 := HLEN.out; have h2 := HLb2.out; have h3 := HLb1.out; rw [List.length_append]; unfold maxLen; omega) (by have h1 := HLEN.out; have h2 := HLb2.out; have h3 := HLb1.out; rw [List.length_append]; omega) (by have := HBa2.out.size; omega) ?_)
      intro u2 y2 hv2 hg2 _
      have HB2 : Hid (Below w.heap.size w y2) := hid (below_owned HBa2.out HRa2.out (Nat.le_refl _) hg2)
      have HX2 := hid (rowApart (by decide) HRa2.out hg2 HXa2.out)
      have HR2 := hid (rowMore hv2 (by simp only [List.length_append]))
      have hb1 : y2.cell? ⟨g, 1, none⟩ = some (.slice (some ⟨b, o, none⟩) n c) := by rw [cell_of_row _ _ _ _ _ _ HX2.out]; rfl
      obtain ⟨hx1, hx2, hx3⟩ := HC.out y2 HB2.out
      clear hv2 hg2 HRa2 HBa2 HXa2 HSa2
      go_wp2_with fail
      refine (HP3.out y2 HB2.out).mono ?_
      clear HP3
      rintro e x3 ⟨v3, rfl, hr3, hb3⟩
      obtain ⟨a3, c3, rfl, -, -, -, hs3⟩ := hr3.sl
      have HRa3 := hid (HR2.out.kept hb3)
      have HBa3 : Hid (Below w.heap.size w x3) := hid (HB2.out.trans (hb3.mono HB2.out.size))
      have HXa3 := hid (row_below HX2.out hb3)
      have HSa3 := hid hs3
      have HLb3 : Hid (P3.length ≤ 10) := hid (by rw [HPP.out.2.2]; exact Var.put_ten (by have := HVAL.out; omega))
      clear hr3 hb3 hs3 HR2 HB2 HX2
      try clear hb1 hx1 hx2 hx3
      go_wp2_with (refine wpList_append_any rfl (.tmp 43) (.tmp 51) 30 rfl w.heap.size 5 (.int .u8 0) 1 Try.underlying30 infoU8N rfl _ _ _ rfl HRa3.out a3 _ _ (u8s P3) rfl (u8s_length _) HSa3.out.some_len HSa3.out.cells (u8s_one _) (by have h1 := HLEN.out; have h2 := HLb3.out; have h3 := HLb1.out; have h4 := HLb2.out; rw [List.length_append, List.length_append]; unfold maxLen; omega) (by have h1 := HLEN.out; have h2 := HLb3.out; have h3 := HLb1.out; have h4 := HLb2.out; rw [List.length_append, List.length_append]; omega) (by have := HBa3.out.size; omega) ?_)
      intro u3 y3 hv3 hg3 _
      have HB3 : Hid (Below w.heap.size w y3) := hid (below_owned HBa3.out HRa3.out (Nat.le_refl _) hg3)
      have HX3 := hid (rowApart (by decide) HRa3.out hg3 HXa3.out)
      have HR3 := hid (rowMore hv3 (by simp only [List.length_append]))
      have hb1 : y3.cell? ⟨g, 1, none⟩ = some (.slice (some ⟨b, o, none⟩) n c) := by rw [cell_of_row _ _ _ _ _ _ HX3.out]; rfl
      obtain ⟨hx1, hx2, hx3⟩ := HC.out y3 HB3.out
      clear hv3 hg3 HRa3 HBa3 HXa3 HSa3
      have HFIN : Hid (X0 ++ P1 ++ P2 ++ P3 = [0, n] ++ ebytes (es.take (k + 1))) := hid (by
        rw [HSN.out, ebytes_snoc, HX00.out, HPP.out.1, HPP.out.2.1, HPP.out.2.2]
        simp [ebyte])
      clear hb1 hx1 hx2 hx3
      go_wp2_with fail
      go_roundw
      case rel => exact ⟨k + 1, by omega, by go_num, by have h := HR3.out; simp only [List.append_assoc] at h; rw [← HFIN.out]; simp only [List.append_assoc]; exact h, HX3.out, HB3.out⟩
      case measure => simp [intOf]; omega
    · have hkf : (k < n) = False := eq_false (by omega)
      have HKN : Hid (k = n) := hid (by omega)
      clear hlt
      go_wp2_with fail
      go_ret
      exact ⟨_, rfl, by
        have h := HR.out
        rw [show es.take k = es by rw [HKN.out, HN.out, List.take_length], HN.out] at h
        exact h, HB.out⟩
theorem rEncode_any (ok : Nat → Prop) (a : Option Addr) (c : Nat) (lf : Bool) (es : List Et) (w : World) (hs : EtS ok w a es) (hl : (es.length : Int) ≤ 16) (hok : ∀ e ∈ es, okE e = true) :
    Calls Try.prog 17 #[.agg #[.bool lf, .slice a es.length c]] w fun e w' => ∃ v, e = .returned v ∧ Row 5 w.heap.size w' v (encN lf es) ∧ Below w.heap.size w w' := by
  cases lf
  · exact rEncode_false ok a c es w hs hl hok
  · exact rEncode_true ok a c es w hs hl hok
end Go.Proofs.Ytokeihpmagcneaa
