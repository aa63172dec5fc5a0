/- CONTRACTS: how often a symbol is; the document's table. -/
import Derived.Test.YtbhpfdpcafdeaaaRows
import Derived.Test.YtbhpfdpcafdeaaaAfMath
import Derived.Test.YtbhpfdpcafdeaaaNx
import Derived.Test.YtbhpfdpcafdeaaaVarR
import Derived.Test.YtbhpfdpcafdeaaaBmRf
import Derived.Deep.OwnRows
namespace Go.Proofs.Ytbhpfdpcafdeaaa
open Go.RowKit Go.Inc
theorem infoIntA : (Try.prog.info? 3).map (fun i => (i.zero, i.size, i.bytes)) = some (some (.int .i64 0), 1, 8) := by kernel_rfl
theorem refCount_any (ok : Nat → Prop) (x : World) (a : Option Addr) (c : Nat) (zs : List Int) (s : Int) (hs : Si ok x a zs) (hl : (zs.length : Int) ≤ 9223372036854775807) :
    Calls Try.prog 23 #[.slice a zs.length c, .int .i64 s] x fun e w' => e = .returned (.int .i64 ((zs.count s : Nat) : Int)) ∧ x = w' := by
  have HS := hid hs
  obtain ⟨n, hn⟩ : ∃ n, n = zs.length := ⟨_, rfl⟩
  have HN := hid hn
  rw [← hn] at hl ⊢
  clear hs hn
  go_enter Try.func23, Try.ntmps23
  go_wp2_with fail
  go_loop [5, 6] (fun c k => ∃ t : Nat, t ≤ n ∧ k = .int .i64 (t : Int) ∧ c = .int .i64 (((zs.take t).count s : Nat) : Int)) (fun _ k => n - (intOf k).toNat)
  case atStart => exact ⟨0, Nat.zero_le _, rfl, by rw [List.take_zero]; rfl⟩
  case round =>
    obtain ⟨t, ht, rfl, rfl⟩ := hrel
    by_cases hlt : t < n
    · obtain ⟨b, o, rfl, hc⟩ : ∃ b o, a = some ⟨b, o, none⟩ ∧ x.cell? ⟨b, o + t, none⟩ = some (.int .i64 (zs.getD t 0)) := by
        rcases HS.out with h | ⟨b, o, h, _, hc⟩
        · have := HN.out; rw [h] at this; simp at this; omega
        · exact ⟨b, o, h, hc t (by rw [← HN.out]; exact hlt)⟩
      have HT := hid (count_take (zs := zs) (k := t) (by rw [← HN.out]; exact hlt) s)
      have hle : (zs.take t).count s ≤ t := Nat.le_trans List.count_le_length (by rw [List.length_take]; omega)
      obtain ⟨r, hr⟩ : ∃ r, r = (zs.take t).count s := ⟨_, rfl⟩
      rw [← hr] at HT hle ⊢
      obtain ⟨z, hz⟩ : ∃ z, z = zs.getD t 0 := ⟨_, rfl⟩
      rw [← hz] at HT hc
      have hrb : (r : Int) ≤ (t : Int) := by omega
      have htb : (t : Int) < 9223372036854775807 := by omega
      have hti : (t < n) = True := eq_true hlt
      clear hr hle hz
      by_cases he : z = s
      · subst he
        rw [if_pos rfl] at HT
        go_wp2_with fail
        go_round
        case rel => exact ⟨t + 1, hlt, by go_num, by rw [HT.out] <;> go_num⟩
        case measure => simp [intOf]; omega
      · rw [if_neg he] at HT
        have hbe : (z == s) = false := by rw [beq_eq_false_iff_ne]; exact he
        go_wp2_with fail
        go_round
        case rel => exact ⟨t + 1, hlt, by go_num, by rw [HT.out] <;> rfl⟩
        case measure => simp [intOf]; omega
    · have hti : (t < n) = False := eq_false hlt
      have HE : Hid (zs.take t = zs) := hid (List.take_of_length_le (by rw [← HN.out]; omega))
      clear hlt
      go_wp2_with fail
      go_ret
      exact ⟨by rw [HE.out]; rfl, rfl⟩
set_option maxRecDepth 20000 in
set_option maxHeartbeats 2000000 in
/-- The document's table. -/
theorem refTable_any (ok : Nat → Prop) (x : World) (a : Option Addr) (c : Nat) (zs : List Int) (hs : Si ok x a zs) (hl : (zs.length : Int) ≤ 65536) :
    Calls Try.prog 16 #[.slice a zs.length c] x fun e w' => ∃ u v, e = .returned (.tuple #[u, v]) ∧ w'.ownsRow x.heap.size 3 1 u (symT zs 258).length (nvals (symT zs 258)) ∧ w'.ownsRow x.heap.size 3 1 v (cntT zs 258).length (nvals (cntT zs 258)) ∧ Below x.heap.size x w' := by
  have HCT := hid (fun (y : World) (hy : Below x.heap.size x y) (s : Int) => refCount_any _ y a c zs s (hs.below hy) (by omega))
  obtain ⟨n, hn⟩ : ∃ n, n = zs.length := ⟨_, rfl⟩
  have hcl : ∀ s, zs.count s ≤ n := fun s => by rw [hn]; exact List.count_le_length
  have HCL := hid hcl
  rw [← hn] at hl HCT ⊢
  clear hs hn hcl
  go_enter Try.func16, Try.ntmps16
  go_wp2_with fail
  go_loopw [4, 5, 6] (fun u v i wr => ∃ t : Nat, t ≤ 258 ∧ i = .int .i64 (t : Int) ∧ wr.ownsRow x.heap.size 3 1 u (symT zs t).length (nvals (symT zs t)) ∧ wr.ownsRow x.heap.size 3 1 v (cntT zs t).length (nvals (cntT zs t)) ∧ (u.ownBlock = none ∨ u.ownBlock ≠ v.ownBlock) ∧ Below x.heap.size x wr) (fun _ _ i _ => 258 - (intOf i).toNat)
  case atStart => exact ⟨0, Nat.zero_le _, rfl, World.ownsRow_nil _ _ _ _, World.ownsRow_nil _ _ _ _, .inl rfl, Below.refl _ _⟩
  case round =>
    obtain ⟨t, ht, rfl, hu, hv, hd, hb⟩ := hrel
    have HU := hid hu
    have HV := hid hv
    have HD := hid hd
    have HB := hid hb
    clear hu hv hd hb
    by_cases hlt : (t : Int) < 258
    · have HTL : Hid (t < 258) := hid (by omega)
      have hc1 := HCL.out (t : Int)
      have HSI := hid (fun h => symT_in (zs := zs) (n := t) h)
      have HCI := hid (fun h => cntT_in (zs := zs) (n := t) h)
      have HSO := hid (fun h => symT_out (zs := zs) (n := t) h)
      have HCO := hid (fun h => cntT_out (zs := zs) (n := t) h)
      have hsl := symT_len zs t
      have HSL := hid hsl
      have HCN : Hid ((cntT zs t).length ≤ 258) := hid (by rw [cntT_len]; omega)
      have HC2 := hid (HCT.out _ HB.out (t : Int))
      obtain ⟨k, hk⟩ : ∃ k, k = zs.count (t : Int) := ⟨_, rfl⟩
      rw [← hk] at hc1 HSI HCI HSO HCO HC2
      obtain ⟨l1, hl1⟩ : ∃ l1, l1 = symT zs t := ⟨_, rfl⟩
      obtain ⟨l2, hl2⟩ : ∃ l2, l2 = cntT zs t := ⟨_, rfl⟩
      rw [← hl1] at HU HSI HSO HSL
      rw [← hl2] at HV HCI HCO HCN
      have hkb : (k : Int) ≤ 65536 := by omega
      clear hk hl1 hl2 hsl
      go_wp2_with fail
      refine HC2.out.mono ?_
      rintro e w1 ⟨rfl, rfl⟩
      clear HC2
      by_cases hk0 : 0 < k
      · have hS := hid (HSI.out hk0)
        have hC := hid (HCI.out hk0)
        have hk1 : (0 : Int) < k := by omega
        clear HSI HCI HSO HCO
        go_wp2_with (refine wpList_append_nx rfl (.tmp 17) (.tmp 19) 23 rfl x.heap.size 3 (.int .i64 0) 8 Try.underlying23 infoIntA rfl _ _ _ rfl (HU.out.alloc _) (some ⟨wr.heap.size, 0, none⟩) 1 1 [.int .i64 (t : Int)] rfl rfl (by intro h; cases h) (one_new wr _ _) (by simp [Value.oneCell']) (by have := HSL.out; unfold maxLen; omega) (by have := HSL.out; omega) (by have := HB.out.size; simp; omega) ?_)
        intro u3 w3 hu3 hg3 hn3
        have HB3 := hid (below_owned (w0 := x) (HB.out.alloc HB.out.size _) (HU.out.alloc _) (Nat.le_refl _) hg3)
        have HV3 := hid (World.ownsRow.kept (HV.out.alloc (.cells #[.int .i64 (t : Int)] 3)) hg3 (apart_symm HD.out))
        have HD3 := hid (hn3.apart (HV.out.alloc _) (apart_symm HD.out))
        have HU3 : Hid (w3.ownsRow x.heap.size 3 1 u3 (symT zs (t + 1)).length (nvals (symT zs (t + 1)))) := hid (by rw [hS.out, nvals_snoc, List.length_append]; exact hu3)
        clear hu3 hg3 hn3 HU HV HD HB hS
        go_wp2_with (refine wpList_append_nx rfl (.tmp 21) (.tmp 23) 23 rfl x.heap.size 3 (.int .i64 0) 8 Try.underlying23 infoIntA rfl _ _ _ rfl (HV3.out.alloc _) (some ⟨w3.heap.size, 0, none⟩) 1 1 [.int .i64 (k : Int)] rfl rfl (by intro h; cases h) (one_new w3 _ _) (by simp [Value.oneCell']) (by have := HCN.out; unfold maxLen; omega) (by have := HCN.out; omega) (by have := HB3.out.size; simp; omega) ?_)
        intro v4 w4 hv4 hg4 hn4
        have HB4 := hid (below_owned (w0 := x) (HB3.out.alloc HB3.out.size _) (HV3.out.alloc _) (Nat.le_refl _) hg4)
        have HU4 := hid (World.ownsRow.kept (HU3.out.alloc (.cells #[.int .i64 (k : Int)] 3)) hg4 (apart_symm HD3.out))
        have HD4 := hid (hn4.apart (HU3.out.alloc _) (apart_symm HD3.out))
        have HV4 : Hid (w4.ownsRow x.heap.size 3 1 v4 (cntT zs (t + 1)).length (nvals (cntT zs (t + 1)))) := hid (by rw [hC.out, nvals_snoc, List.length_append]; exact hv4)
        clear hv4 hg4 hn4 HU3 HV3 HD3 HB3 hC
        go_wp2_with fail
        go_roundw
        case rel => exact ⟨t + 1, HTL.out, by go_num, HU4.out, HV4.out, HD4.out, HB4.out⟩
        case measure => simp [intOf]; have := HTL.out; omega
      · have hS := hid (HSO.out hk0)
        have hC := hid (HCO.out hk0)
        obtain rfl : k = 0 := by omega
        clear HSI HCI HSO HCO
        go_wp2_with fail
        go_roundw
        case rel => exact ⟨t + 1, HTL.out, by go_num, by rw [hS.out]; exact HU.out, by rw [hC.out]; exact HV.out, HD.out, HB.out⟩
        case measure => simp [intOf]; have := HTL.out; omega
    · obtain rfl : t = 258 := by omega
      clear hlt
      go_wp2_with fail
      go_ret2
      exact ⟨_, _, rfl, HU.out, HV.out, HB.out⟩
end Go.Proofs.Ytbhpfdpcafdeaaa
