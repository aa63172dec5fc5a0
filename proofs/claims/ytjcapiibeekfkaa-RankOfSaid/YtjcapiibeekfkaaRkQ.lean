/- LAWS OF A ROW THAT TURNS, and the law's 'tells' over the program's contracts. -/
import Derived.Test.YtjcapiibeekfkaaRkP
import Derived.Test.YtjcapiibeekfkaaDevLib
namespace Go.Inc
open Go.RowKit
section
variable {Rk : World → Nat → List Bool → (Nat → Prop) → Prop} {w w1 w2 : World} {b : Nat} {m : List Bool} {S S1 S2 : Nat → Prop}
theorem Kp.trans (h : Kp Rk w w1 b m S S1) (k : Kp Rk w1 w2 b m S1 S2) : Kp Rk w w2 b m S S2 := by
  refine ⟨k.rk, fun i hi => ?_, h.mv.trans' k.mv fun i hi hs => ?_⟩
  · rcases k.sub i hi with h1 | h1
    · exact h.sub i h1
    · exact .inr (Nat.le_trans h.mv.size h1)
  · rcases h.sub i hs with h1 | h1
    · exact h1
    · omega
theorem Kp.held_bl {ok : Nat → Prop} {a : Option Addr} {l : List Bool} (h : Kp Rk w w1 b m S S1) (hb : Bl ok w a l) (hk : ∀ i, ok i → ¬ S i) : Bl ok w1 a l :=
  hb.kept fun i hi hlt => h.mv.block i hlt (hk i hi)
theorem Kp.held_si {ok : Nat → Prop} {a : Option Addr} {l : List Int} (h : Kp Rk w w1 b m S S1) (hb : Si ok w a l) (hk : ∀ i, ok i → ¬ S i) : Si ok w1 a l :=
  hb.kept fun i hi hlt => h.mv.block i hlt (hk i hi)
theorem Kp.held_sl {ok : Nat → Prop} {a : Option Addr} {l : List Nat} (h : Kp Rk w w1 b m S S1) (hb : Sl ok w a l) (hk : ∀ i, ok i → ¬ S i) : Sl ok w1 a l :=
  hb.kept fun i hi hlt => h.mv.block i hlt (hk i hi)
theorem Kp.start (h : Rk w b m S) : Kp Rk w w b m S S := ⟨h, fun _ hi => .inl hi, Mv.refl _ _⟩
/-- What isn't the row's stays so. -/
theorem Kp.out {i : Nat} (h : Kp Rk w w1 b m S S1) (hi : i < w.heap.size) (hs : ¬ S i) : ¬ S1 i := fun hh => by
  rcases h.sub i hh with h1 | h1
  · exact hs h1
  · omega
theorem Kp.belowW {W0 : World} (h : Kp Rk w w1 b m S S1) (hb : Below W0.heap.size W0 w) (hs : ∀ i, S i → W0.heap.size ≤ i) : Below W0.heap.size W0 w1 :=
  hb.trans (h.mv.below hb.size hs)
theorem Kp.ge {B : Nat} (h : Kp Rk w w1 b m S S1) (hB : B ≤ w.heap.size) (hs : ∀ i, S i → B ≤ i) : ∀ i, S1 i → B ≤ i := fun i hi => by
  rcases h.sub i hi with h1 | h1
  · exact hs i h1
  · omega
end
end Go.Inc
namespace Go.Proofs.Ytjcapiibeekfkaa
open Go.RowKit Go.Inc
section
variable {Rk : World → Nat → List Bool → (Nat → Prop) → Prop} {w w1 w2 : World} {b : Nat} {m : List Bool} {S S1 S2 : Nat → Prop}
theorem PR.below (pr : PR Rk) (h : Kp Rk w w1 b m S S1) (hb : Below w1.heap.size w1 w2) : Kp Rk w w2 b m S S1 :=
  ⟨pr.keep h.rk (Mv.of_below (F := fun _ => False) hb) fun _ _ => id, h.sub, h.mv.trans (Mv.of_below hb)⟩
end
set_option maxRecDepth 20000 in
set_option maxHeartbeats 2000000 in
/-- The law's 'tells'. -/
theorem tells_any {Rk : World → Nat → List Bool → (Nat → Prop) → Prop} (pr : PR Rk) (ok : Nat → Prop) (x : World) (b : Nat) (m : List Bool) (S : Nat → Prop) (a : Option Addr) (c : Nat) (hr : Rk x b m S) (hm : Bl ok x a m) (hk : ∀ i, ok i → ¬ S i) :
    Calls Try.prog 9 #[.pointer (some ⟨b, 0, none⟩), .slice a m.length c] x fun e w' => ∃ S', e = .returned (.bool true) ∧ Kp Rk x w' b m S S' := by
  have HM := hid hm
  have HK := hid hk
  have HR := hid (Kp.start hr)
  have HLE := hid (pr.le hr)
  obtain ⟨n, hn⟩ : ∃ n, n = m.length := ⟨_, rfl⟩
  have HN := hid hn
  have hnb : (n : Int) ≤ 65536 := by have := HLE.out; omega
  rw [← hn]
  clear hm hk hr hn
  go_enter Try.func9, Try.ntmps9
  go_wp2_with fail
  refine (pr.pLen _ _ _ _ HR.out.rk).mono ?_
  rintro e y1 ⟨S1, rfl, k1⟩
  rw [← HN.out]
  have HK1 := hid k1
  clear k1 HR
  go_wp2_with fail
  refine (pr.pBytes _ _ _ _ HK1.out.rk).mono ?_
  rintro e y2 ⟨S2, au, cu, rfl, k2, hsl⟩
  have HK2 := hid (HK1.out.trans k2)
  have HSL := hid hsl
  have hbl := (refBytes_any ok y2 a c m (HK2.out.held_bl HM.out HK.out) (by rw [← HN.out]; exact hnb))
  rw [← HN.out] at hbl
  have HBL := hid hbl
  clear k2 hsl HK1 hbl
  obtain ⟨B, hB⟩ : ∃ B, B = rowBs m := ⟨_, rfl⟩
  have HBE : Hid (B.length ≤ 9223372036854775807) := hid (by rw [hB, rowBs_len, ← HN.out]; have := Var.put_ten (n := n) (by omega); omega)
  rw [← hB] at HSL HBL ⊢
  clear hB
  go_wp2_with fail
  refine HBL.out.mono ?_
  rintro e y3 ⟨v3, rfl, hr3, hb3⟩
  obtain ⟨a3, c3, rfl, -, -, -, hs3⟩ := Row.sl hr3
  have hsm := same_any _ _ au a3 cu c3 B B y3 (HSL.out.below hb3) hs3 HBE.out
  rw [decide_eq_true (rfl : B = B)] at hsm
  have HSM := hid hsm
  have HK3 := hid (pr.below HK2.out hb3)
  clear hr3 hb3 hs3 HK2 HSL HBL
  go_wp2_with fail
  refine HSM.out.mono ?_
  rintro e y4 ⟨rfl, hb4⟩
  have HK4 := hid (pr.below HK3.out hb4)
  clear hb4 hsm HK3 HSM HBE
  go_wp2_with fail
  refine (pr.pDirectory _ _ _ _ HK4.out.rk).mono ?_
  rintro e y5 ⟨S5, a5, c5, a6, c6, rfl, k5, hs5, hs6⟩
  have HK5 := hid (HK4.out.trans k5)
  have HS5 := hid hs5
  have HS6 := hid hs6
  have hdr := (refDir_any ok y5 a c m (HK5.out.held_bl HM.out HK.out) (by rw [← HN.out]; exact hnb))
  rw [← HN.out] at hdr HS5 HS6 ⊢
  have HDR := hid hdr
  have HD1 : Hid (((dirB m ((n + 511) / 512)).map fun x : Nat => (x : Int)).length = (n + 511) / 512) := hid (by rw [List.length_map, dirB_len])
  have HD2 : Hid (((dirW m ((n + 63) / 64)).map fun x : Nat => (x : Int)).length = (n + 63) / 64) := hid (by rw [List.length_map, dirW_len])
  clear k5 hs5 hs6 hdr HK4
  obtain ⟨n1, hn1⟩ : ∃ n1, n1 = (n + 511) / 512 := ⟨_, rfl⟩
  obtain ⟨n2, hn2⟩ : ∃ n2, n2 = (n + 63) / 64 := ⟨_, rfl⟩
  have hb1 : (n1 : Int) ≤ 65536 := by omega
  have hb2 : (n2 : Int) ≤ 65536 := by omega
  rw [← hn1] at HS5 HD1 HDR ⊢
  rw [← hn2] at HS6 HD2 HDR ⊢
  clear hn1 hn2
  go_wp2_with fail
  refine HDR.out.mono ?_
  rintro e y6 ⟨u6, v6, rfl, hu6, hv6, hb6⟩
  obtain ⟨a7, c7, rfl, -, -, -, -, hs7⟩ := Si.ownedN hu6
  obtain ⟨a8, c8, rfl, -, -, -, -, hs8⟩ := Si.ownedN hv6
  rw [show (dirB m n1).length = n1 from dirB_len _ _, show (dirW m n2).length = n2 from dirW_len _ _]
  have HK6 := hid (pr.below HK5.out hb6)
  have HS5' : Hid (Si (fun i => i < y6.heap.size ∧ ¬ S5 i) y6 a5 ((dirB m n1).map fun x : Nat => (x : Int))) := hid ((HS5.out.below hb6).mono fun i hi hlt => ⟨hlt, hi.2⟩)
  have HS6' : Hid (Si (fun i => i < y6.heap.size ∧ ¬ S5 i) y6 a6 ((dirW m n2).map fun x : Nat => (x : Int))) := hid ((HS6.out.below hb6).mono fun i hi hlt => ⟨hlt, hi.2⟩)
  have HS7 : Hid (Si (fun i => i < y6.heap.size ∧ ¬ S5 i) y6 a7 ((dirB m n1).map fun x : Nat => (x : Int))) := hid (hs7.mono fun i hi hlt => ⟨hlt, fun hh => absurd (pr.lt HK5.out.rk i hh) (by omega)⟩)
  have HS8 : Hid (Si (fun i => i < y6.heap.size ∧ ¬ S5 i) y6 a8 ((dirW m n2).map fun x : Nat => (x : Int))) := hid (hs8.mono fun i hi hlt => ⟨hlt, fun hh => absurd (pr.lt HK5.out.rk i hh) (by omega)⟩)
  have HZ := hid (Kp.start HK6.out.rk)
  clear hu6 hv6 hb6 hs7 hs8 HK5 HDR HS5 HS6
  go_wp2_with fail
  refine (pr.pCount _ _ _ _ _ HZ.out.rk).mono ?_
  rintro e y7 ⟨S7, rfl, k7⟩
  have HZ7 := hid (HZ.out.trans k7)
  rw [← HN.out]
  have hrk := refRank_any ok y7 a c m true n ((HK6.out.trans HZ7.out).held_bl HM.out HK.out) (by rw [HN.out]; exact Nat.le_refl _) (by rw [← HN.out]; omega)
  rw [← HN.out] at hrk
  have HRK := hid hrk
  clear k7 hrk HZ
  go_wp2_with fail
  refine HRK.out.mono ?_
  rintro e y7 ⟨rfl, rfl⟩
  clear HRK
  go_wp2_with fail
  refine (pr.pCount _ _ _ _ _ HZ7.out.rk).mono ?_
  rintro e y8 ⟨S8, rfl, k8⟩
  have HZ8 := hid (HZ7.out.trans k8)
  rw [← HN.out]
  have hrk := refRank_any ok y8 a c m false n ((HK6.out.trans HZ8.out).held_bl HM.out HK.out) (by rw [HN.out]; exact Nat.le_refl _) (by rw [← HN.out]; omega)
  rw [← HN.out] at hrk
  have HRK := hid hrk
  clear k8 hrk HZ7
  go_wp2_with fail
  refine HRK.out.mono ?_
  rintro e y8 ⟨rfl, rfl⟩
  clear HRK
  have hs1 := refSame_any _ _ a5 a7 c5 c7 _ _ y8 (HZ8.out.held_si HS5'.out fun i hi => hi.2) (HZ8.out.held_si HS7.out fun i hi => hi.2) (by rw [HD1.out]; omega)
  rw [HD1.out, decide_eq_true rfl] at hs1
  have HS1 := hid hs1
  clear hs1
  go_wp2_with fail
  refine HS1.out.mono ?_
  rintro e y9 ⟨rfl, hb9⟩
  have HZ9 := hid (pr.below HZ8.out hb9)
  clear hb9 HS1 HZ8
  have hs1 := refSame_any _ _ a6 a8 c6 c8 _ _ y9 (HZ9.out.held_si HS6'.out fun i hi => hi.2) (HZ9.out.held_si HS8.out fun i hi => hi.2) (by rw [HD2.out]; omega)
  rw [HD2.out, decide_eq_true rfl] at hs1
  have HS1 := hid hs1
  clear hs1
  go_wp2_with fail
  refine HS1.out.mono ?_
  rintro e y10 ⟨rfl, hb10⟩
  have HZ10 := hid (pr.below HZ9.out hb10)
  clear hb10 HS1 HZ9
  go_wp2_with fail
  go_ret
  exact ⟨_, rfl, HK6.out.trans HZ10.out⟩
end Go.Proofs.Ytjcapiibeekfkaa
