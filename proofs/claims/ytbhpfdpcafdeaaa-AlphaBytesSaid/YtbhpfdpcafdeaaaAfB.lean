/- CONTRACTS: the document's text of documents. -/
import Derived.Test.YtbhpfdpcafdeaaaAfA
namespace Go.Proofs.Ytbhpfdpcafdeaaa
open Go.RowKit Go.Inc
set_option maxRecDepth 20000 in
set_option maxHeartbeats 2000000 in
theorem refText_any (ok : Nat → Prop) (x : World) (a : Option Addr) (c : Nat) (ds : List (List Nat)) (hs : Pt ok x a ds) (hl : (ds.length : Int) ≤ 100000) (ht : (txtD ds).length ≤ 100000) :
    Calls Try.prog 11 #[.slice a ds.length c] x fun e w' => ∃ u, e = .returned u ∧ w'.ownsRow x.heap.size 3 1 u (txtD ds ++ [0]).length (nvals (txtD ds ++ [0])) ∧ Below x.heap.size x w' := by
  have HBY := hid hs.1
  have HS := hid hs
  have HTL := hid ht
  obtain ⟨n, hn⟩ : ∃ n, n = ds.length := ⟨_, rfl⟩
  have HN := hid hn
  rw [← hn] at hl ⊢
  clear hs hn ht
  go_enter Try.func11, Try.ntmps11
  go_wp2_with fail
  go_loopw [3, 4] (fun u i wr => ∃ t : Nat, t ≤ n ∧ i = .int .i64 (t : Int) ∧ wr.ownsRow x.heap.size 3 1 u (txtD (ds.take t)).length (nvals (txtD (ds.take t))) ∧ Below x.heap.size x wr) (fun _ i _ => n - (intOf i).toNat)
  case atStart => exact ⟨0, Nat.zero_le _, rfl, World.ownsRow_nil _ _ _ _, Below.refl _ _⟩
  case round =>
    obtain ⟨t, ht, rfl, hu, hb⟩ := hrel
    have HU := hid hu
    have HB := hid hb
    clear hu hb
    by_cases hlt : t < n
    · have hti : (t < n) = True := eq_true hlt
      have HLT := hid hlt
      obtain ⟨d, hd⟩ : ∃ d, d = ds.getD t [] := ⟨_, rfl⟩
      obtain ⟨L, hL⟩ : ∃ L, L = d.length := ⟨_, rfl⟩
      have HL := hid hL
      have hmem : d ∈ ds := by
        rw [hd, List.getD_eq_getElem?_getD, List.getElem?_eq_getElem (by rw [← HN.out]; exact hlt)]; exact List.getElem_mem _
      have HDB := hid (HBY.out d hmem)
      have HTK := hid (txtD_take (ds := ds) (t := t) (by rw [← HN.out]; exact hlt))
      rw [← hd] at HTK
      have htot : (txtD (ds.take t)).length + L + 1 ≤ 100000 := by
        have h1 := txtD_le ds (t + 1)
        have h2 := HTL.out
        rw [HTK.out] at h1
        simp only [List.length_append, List.length_map, List.length_cons, List.length_nil] at h1
        omega
      have HTT := hid htot
      have HCD : Hid (∃ b o A C, a = some ⟨b, o, none⟩ ∧ ∀ y, Below x.heap.size x y → y.cell? ⟨b, o + t, none⟩ = some (.slice A L C) ∧ ∀ k, k < L → ∃ b2 o2, A = some ⟨b2, o2, none⟩ ∧ y.cell? ⟨b2, o2 + k, none⟩ = some (.int .u8 ((d.getD k 0 : Nat) : Int))) := hid (by
        rcases HS.out.2 with h | ⟨b, o, A, C, ha, _, hp⟩
        · have := HN.out; rw [h] at this; simp at this; omega
        · refine ⟨b, o, A t, C t, ha, fun y hy => ?_⟩
          have h1 := hp.cell t (by rw [← HN.out]; exact hlt)
          have h2 := (hp.sl t (by rw [← HN.out]; exact hlt)).below hy
          rw [← hd] at h1 h2
          rw [← hL] at h1
          refine ⟨by rw [World.cell?_of_block (hy.block b (cell_lt h1))]; exact h1, fun k hk => ?_⟩
          rcases h2 with h | ⟨b2, o2, h, _, hc⟩
          · rw [hL, h] at hk; simp at hk
          · exact ⟨b2, o2, h, hc k (by rw [← hL]; exact hk)⟩)
      obtain ⟨b, o, A, C, rfl, hcd⟩ := HCD.out
      have HC := hid hcd
      obtain ⟨T, hT⟩ : ∃ T, T = txtD (ds.take t) := ⟨_, rfl⟩
      rw [← hT] at HU HTK HTT htot
      have hLb : (L : Int) ≤ 100000 := by omega
      clear hlt hd hL hmem hcd HCD hT htot
      go_wp2_with fail
      go_loopw [3, 5] (fun u i w2 => ∃ k : Nat, k ≤ L ∧ i = .int .i64 (k : Int) ∧ w2.ownsRow x.heap.size 3 1 u (T ++ (d.take k).map (· + 2)).length (nvals (T ++ (d.take k).map (· + 2))) ∧ Below x.heap.size x w2) (fun _ i _ => L - (intOf i).toNat)
      case atStart => exact ⟨0, Nat.zero_le _, rfl, by rw [List.take_zero, List.map_nil, List.append_nil]; exact HU.out, HB.out⟩
      case round =>
        clear HU HB
        obtain ⟨k, hk, rfl, hu, hb⟩ := hrel
        have HU := hid hu
        have HB := hid hb
        obtain ⟨q0, hq⟩ := HC.out _ hb
        clear hu hb
        by_cases hkl : k < L
        · have hki : (k < L) = True := eq_true hkl
          obtain ⟨b2, o2, rfl, hc2⟩ := hq k hkl
          have hy := HDB.out.getD k
          have HMS := hid (map_take_snoc (d := d) (k := k) (by rw [← HL.out]; exact hkl))
          obtain ⟨y, hye⟩ : ∃ y, y = d.getD k 0 := ⟨_, rfl⟩
          rw [← hye] at hy hc2 HMS
          have HPL : Hid ((T ++ (d.take k).map (· + 2)).length ≤ 100000) := hid (by
            rw [List.length_append, List.length_map, List.length_take]
            have := HTT.out
            omega)
          have HX : Hid (T ++ (d.take (k + 1)).map (· + 2) = (T ++ (d.take k).map (· + 2)) ++ [y + 2]) := hid (by rw [HMS.out, List.append_assoc])
          obtain ⟨l, hle⟩ : ∃ l, l = T ++ (d.take k).map (· + 2) := ⟨_, rfl⟩
          rw [← hle] at HU HX HPL
          have hyb : (y : Int) < 256 := by omega
          obtain ⟨z, hz⟩ : ∃ z, z = y + 2 := ⟨_, rfl⟩
          rw [← hz] at HX
          have hzi : (y : Int) + 2 = (z : Int) := by omega
          have hzb : (z : Int) < 258 := by omega
          have hkb : (k : Int) < 100000 := by omega
          clear hq hye hle hy HMS hz
          go_wp2_with (refine wpList_append_any rfl (.tmp 21) (.tmp 31) 23 rfl x.heap.size 3 (.int .i64 0) 8 Try.underlying23 infoIntA rfl _ _ _ rfl (HU.out.alloc _) (some ⟨wr.heap.size, 0, none⟩) 1 1 [.int .i64 (z : Int)] rfl rfl (by intro h; cases h) (one_new wr _ _) (by simp [Value.oneCell']) (by have := HPL.out; unfold maxLen; omega) (by have := HPL.out; omega) (by have := HB.out.size; simp; omega) ?_)
          intro u3 w3 hu3 hg3 _
          have HB3 := hid (below_owned (w0 := x) (HB.out.alloc HB.out.size _) (HU.out.alloc _) (Nat.le_refl _) hg3)
          have HU3 : Hid (w3.ownsRow x.heap.size 3 1 u3 (T ++ (d.take (k + 1)).map (· + 2)).length (nvals (T ++ (d.take (k + 1)).map (· + 2)))) := hid (by rw [HX.out, nvals_snoc, List.length_append]; exact hu3)
          clear hu3 hg3 HU HB HX HPL
          go_wp2_with fail
          go_roundw
          case rel => exact ⟨k + 1, hkl, by go_num, HU3.out, HB3.out⟩
          case measure => simp [intOf]; omega
        · have hki : (k < L) = False := eq_false hkl
          have HX : Hid (T ++ (d.take k).map (· + 2) = T ++ d.map (· + 2)) := hid (by rw [List.take_of_length_le (by rw [← HL.out]; omega)])
          have hu2 := HU.out
          rw [HX.out] at hu2
          have HU2 := hid hu2
          have HPL : Hid ((T ++ d.map (· + 2)).length ≤ 100000) := hid (by
            rw [List.length_append, List.length_map, ← HL.out]
            have := HTT.out
            omega)
          rw [← List.append_assoc] at HTK
          obtain ⟨l, hle⟩ : ∃ l, l = T ++ d.map (· + 2) := ⟨_, rfl⟩
          rw [← hle] at HU2 HTK HPL
          clear hkl hu2 HU HX hle hq
          go_wp2_with (refine wpList_append_any rfl (.tmp 33) (.tmp 34) 23 rfl x.heap.size 3 (.int .i64 0) 8 Try.underlying23 infoIntA rfl _ _ _ rfl (HU2.out.alloc _) (some ⟨wr.heap.size, 0, none⟩) 1 1 [.int .i64 1] rfl rfl (by intro h; cases h) (one_new wr _ _) (by simp [Value.oneCell']) (by have := HPL.out; unfold maxLen; omega) (by have := HPL.out; omega) (by have := HB.out.size; simp; omega) ?_)
          intro u3 w3 hu3 hg3 _
          have HB3 := hid (below_owned (w0 := x) (HB.out.alloc HB.out.size _) (HU2.out.alloc _) (Nat.le_refl _) hg3)
          have HU3 : Hid (w3.ownsRow x.heap.size 3 1 u3 (txtD (ds.take (t + 1))).length (nvals (txtD (ds.take (t + 1))))) := hid (by rw [HTK.out, nvals_snoc, List.length_append]; exact hu3)
          clear hu3 hg3 HU2 HB HTK HPL
          go_wp2_with fail
          go_roundw
          case rel => exact ⟨t + 1, HLT.out, by go_num, HU3.out, HB3.out⟩
          case measure => simp [intOf]; have := HLT.out; omega
    · have hti : (t < n) = False := eq_false hlt
      have hu2 := HU.out
      rw [List.take_of_length_le (by rw [← HN.out]; omega)] at hu2
      have HU2 := hid hu2
      obtain ⟨l, hle⟩ : ∃ l, l = txtD ds := ⟨_, rfl⟩
      rw [← hle] at HU2 HTL
      have HLE := hid hle
      clear hlt hu2 HU hle
      go_wp2_with (refine wpList_append_any rfl (.tmp 36) (.tmp 37) 23 rfl x.heap.size 3 (.int .i64 0) 8 Try.underlying23 infoIntA rfl _ _ _ rfl (HU2.out.alloc _) (some ⟨wr.heap.size, 0, none⟩) 1 1 [.int .i64 0] rfl rfl (by intro h; cases h) (one_new wr _ _) (by simp [Value.oneCell']) (by have := HTL.out; unfold maxLen; omega) (by have := HTL.out; omega) (by have := HB.out.size; simp; omega) ?_)
      intro u3 w3 hu3 hg3 _
      have HB3 := hid (below_owned (w0 := x) (HB.out.alloc HB.out.size _) (HU2.out.alloc _) (Nat.le_refl _) hg3)
      have HU3 : Hid (w3.ownsRow x.heap.size 3 1 u3 (l ++ [0]).length (nvals (l ++ [0]))) := hid (by rw [nvals_snoc, List.length_append]; exact hu3)
      clear hu3 hg3 HU2 HB
      go_wp2_with fail
      go_ret
      exact ⟨_, rfl, by rw [← HLE.out]; exact HU3.out, HB3.out⟩
end Go.Proofs.Ytbhpfdpcafdeaaa
