/- THE LAW OF BUCKETS (layer 16), walked over the program's contracts. -/
import Derived.Test.YtdobjlaggdnphaaInL
namespace Go.Inc
open Go.RowKit
theorem hds_len (x : List Int) : (zsN (hdsT x)).length = grT x x.length + 1 := by rw [zsN_len]; simp [hdsT]
theorem tls_len (x : List Int) : (zsN (tlsT x)).length = grT x x.length + 1 := by rw [zsN_len]; simp [tlsT]
theorem hds_get {x : List Int} {s : Nat} (h : s < grT x x.length + 1) : (zsN (hdsT x)).getD s 0 = ((hdC x.length (cdT x) s : Nat) : Int) := by
  rw [zsN_get]
  unfold hdsT
  rw [List.getD_eq_getElem?_getD, List.getElem?_map, List.getElem?_range h]; rfl
theorem tls_get {x : List Int} {s : Nat} (h : s < grT x x.length + 1) : (zsN (tlsT x)).getD s 0 = ((hdC x.length (cdT x) (s + 1) : Nat) : Int) := by
  rw [zsN_get]
  unfold tlsT
  rw [List.getD_eq_getElem?_getD, List.getElem?_map, List.getElem?_range h]; rfl
end Go.Inc
namespace Go.Proofs.Ytdobjlaggdnphaa
open Go.RowKit Go.Inc
set_option maxRecDepth 20000 in
set_option maxHeartbeats 2000000 in
theorem induceBuckets_walk (ps : PI16) (W : World) (a : Option Addr) (c : Nat) (zs0 : List Int) (s0 : Int) (hs : Si (fun _ => True) W a zs0) (hlc : zs0.length ≤ c) (hcm : c ≤ maxLen) (hn : a = none → c = 0) :
    Calls Try.prog 3 #[.slice a zs0.length c, .int .i64 s0] W fun e w' => e = .returned (.bool true) ∧ Below W.heap.size W w' := by
  have HTX := hid (text15_any _ W (.slice a zs0.length c) zs0 s0 ⟨a, c, rfl, hs, hlc, hcm, hn⟩)
  clear hs hlc hcm hn
  go_enter Try.func3, Try.ntmps3
  go_wp2_with fail
  refine HTX.out.mono ?_
  rintro e w1 ⟨vx, X, rfl, hx, hck, hxl, hb⟩
  have HV := hid hx
  have HCK := hid hck
  have HXL : Hid (X.length ≤ 65536) := hid (by omega)
  have HI := hid (InT.of hck)
  have HB := hid hb
  have HH := hid (ps.pHeads _ w1 vx X hx (by omega) hck)
  have hgb : grT X X.length ≤ 65535 := grT_bd (fun i hi => ck_cd hck hi) _ (Nat.le_refl _)
  clear hx hck hxl hb HTX
  go_wp2_with fail
  refine HH.out.mono ?_
  rintro e w2 ⟨u2, rfl, h2, hb⟩
  obtain ⟨a2, c2, rfl, hs2, -, -, -⟩ := h2
  have HU2 := hid hs2
  have HV2 := hid (HV.out.below hb)
  have HB2 := hid (HB.out.trans (hb.mono HB.out.size))
  have HT := hid (ps.pTails _ w2 vx X HV2.out HXL.out HCK.out)
  clear hs2 hb HH HB HV
  rw [hds_len]
  go_wp2_with fail
  refine HT.out.mono ?_
  rintro e w3 ⟨u3, rfl, h3, hb⟩
  obtain ⟨a3, c3, rfl, hs3, -, -, -⟩ := h3
  have HU3 := hid hs3
  have HU23 := hid (HU2.out.below hb)
  have HV3 := hid (HV2.out.below hb)
  have HB3 := hid (HB2.out.trans (hb.mono HB2.out.size))
  have HGR := hid (refGreatest_so _ w3 vx X HV3.out HXL.out HI.out)
  rw [tls_len]
  obtain ⟨g0, hg0⟩ : ∃ g0, g0 = grT X X.length := ⟨_, rfl⟩
  have HG0 := hid hg0
  rw [← hg0] at HGR hgb ⊢
  obtain ⟨G, hG⟩ : ∃ G, G = g0 + 1 := ⟨_, rfl⟩
  have HGE : Hid (G = grT X X.length + 1) := hid (by rw [hG, hg0])
  rw [← hG]
  have hgi : (g0 : Int) + 1 = (G : Int) := by omega
  have hGb : (G : Int) ≤ 65536 := by omega
  clear hs3 hb HT HB2 HV2 HU2 hg0 hG hgb
  go_wp2_with fail
  refine HGR.out.mono ?_
  rintro e w' ⟨rfl, rfl⟩
  clear HGR
  go_wp2_with fail
  go_loop [10, 11, 12] (fun i _ _ => ∃ t : Nat, t ≤ G ∧ i = .int .i64 (t : Int)) (fun i _ _ => G - (intOf i).toNat)
  case atStart => exact ⟨0, Nat.zero_le _, rfl⟩
  case round =>
    obtain ⟨t, ht, rfl⟩ := hrel
    by_cases hlt : t < G
    · have hti : (t < G) = True := eq_true hlt
      have htb : (t : Int) < (G : Int) := by omega
      have HLT := hid hlt
      have HBK := hid (refBucket_so _ w3 vx X t HV3.out HXL.out HI.out)
      obtain ⟨b2, o2, rfl, hc2⟩ : ∃ b2 o2, a2 = some ⟨b2, o2, none⟩ ∧ w3.cell? ⟨b2, o2 + t, none⟩ = some (.int .i64 ((hdC X.length (cdT X) t : Nat) : Int)) := by
        rcases HU23.out with h | ⟨b, o, h, _, hc⟩
        · have h1 := hds_len X
          rw [h] at h1; simp at h1
        · exact ⟨b, o, h, by rw [hc t (by rw [hds_len, ← HGE.out]; exact hlt), hds_get (by rw [← HGE.out]; exact hlt)]⟩
      obtain ⟨b3, o3, rfl, hc3⟩ : ∃ b3 o3, a3 = some ⟨b3, o3, none⟩ ∧ w3.cell? ⟨b3, o3 + t, none⟩ = some (.int .i64 ((hdC X.length (cdT X) (t + 1) : Nat) : Int)) := by
        rcases HU3.out with h | ⟨b, o, h, _, hc⟩
        · have h1 := tls_len X
          rw [h] at h1; simp at h1
        · exact ⟨b, o, h, by rw [hc t (by rw [tls_len, ← HGE.out]; exact hlt), tls_get (by rw [← HGE.out]; exact hlt)]⟩
      generalize hdC X.length (cdT X) t = p at *
      generalize hdC X.length (cdT X) (t + 1) = q at *
      clear hlt
      go_wp2_with fail
      refine HBK.out.mono ?_
      rintro e w' ⟨rfl, rfl⟩
      go_wp2_with fail
      go_round
      case rel => exact ⟨t + 1, HLT.out, by go_num⟩
      case measure => simp [intOf]; have := HLT.out; omega
    · have hti : (t < G) = False := eq_false hlt
      have HKN := hid (known16_any ps w3)
      clear hlt
      go_wp2_with fail
      refine HKN.out.mono ?_
      rintro e w4 ⟨rfl, hb⟩
      have HB4 := hid (HB3.out.trans (hb.mono HB3.out.size))
      clear hb HKN HB3
      go_wp2_with fail
      go_ret
      exact ⟨rfl, HB4.out⟩
end Go.Proofs.Ytdobjlaggdnphaa
