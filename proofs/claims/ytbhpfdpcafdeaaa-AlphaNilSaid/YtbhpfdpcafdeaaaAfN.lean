/- THE WALK OF 'AlphaNil', over the program's contracts. -/
import Derived.Test.YtbhpfdpcafdeaaaAfK
import Derived.BigQuiet
import Derived.Deep.QuietTactic
namespace Go.Proofs.Ytbhpfdpcafdeaaa
open Go.RowKit Go.Inc
theorem nZ_get {l : List Nat} {i : Nat} (_h : i < l.length) : (nZ (l.map (· + 2))).getD i 0 = ((l.getD i 0 : Nat) : Int) + 2 := by
  unfold nZ
  rw [List.getD_eq_getElem?_getD, List.getElem?_map, List.getElem?_map, List.getD_eq_getElem?_getD, List.getElem?_eq_getElem _h]
  rfl
set_option maxRecDepth 20000 in
set_option maxHeartbeats 2000000 in
theorem alphaNil_walk {Tb : World → Nat → List Nat → List Nat → Prop} (pa : PA Tb) (W : World) (a : Option Addr) (c : Nat) (bs0 : List Nat) (n : Int) (hs : Sl (fun _ => True) W a bs0) (hby0 : Bytes bs0) (hlc : bs0.length ≤ c) (hcm : c ≤ maxLen) (hi : i64a n) :
    Calls Try.prog 6 #[.slice a bs0.length c, .int .i64 n] W fun e w' => e = .returned (.bool true) ∧ Below W.heap.size W w' := by
  obtain ⟨bs, hbs⟩ : ∃ bs, bs = bs0.take 60 := ⟨_, rfl⟩
  have HS : Hid (Sl (fun i => i < W.heap.size) W a bs) := hid (by rw [hbs]; exact (hs.front 60).mono fun _ _ h => h)
  have hby : Bytes bs := fun x hx => hby0 x (by rw [hbs] at hx; exact List.mem_of_mem_take hx)
  have HBY := hid hby
  have HI := hid hi
  have hm9 : maxLen ≤ 9223372036854775807 := by unfold maxLen; omega
  obtain ⟨L, hL⟩ : ∃ L, L = bs0.length := ⟨_, rfl⟩
  obtain ⟨nb, hnb⟩ : ∃ nb, nb = bs.length := ⟨_, rfl⟩
  have hmin : min (L : Int) 60 = (nb : Int) := by rw [hnb, hbs, List.length_take]; omega
  have hL0 : (0 : Int) ≤ L := by omega
  have hmL : (nb : Int) ≤ L := by omega
  have hmc : (nb : Int) ≤ c := by omega
  have hn60 : (nb : Int) ≤ 60 := by omega
  have HNB := hid hnb
  have hpp := pa.pPattern _ W a c bs HS.out hby (by omega) (by omega) hcm
  rw [← hnb] at hpp
  have HPP := hid hpp
  rw [← hL]
  clear hs hby0 hlc hcm hbs hby hL hnb hpp hi hm9
  go_enter Try.func6, Try.ntmps6
  go_wp2_with fail
  refine HPP.out.mono ?_
  rintro e y1 ⟨u, cu, rfl, hsu, hb1⟩
  have HSU := hid hsu
  have HB1 := hid hb1
  have HS1 := hid (HS.out.below hb1)
  clear hsu hb1 HPP HS
  go_wp2_with fail
  go_loopw [6] (fun i wr => ∃ t : Nat, t ≤ nb ∧ i = .int .i64 (t : Int) ∧ Below y1.heap.size y1 wr) (fun i _ => nb - (intOf i).toNat)
  case atStart => exact ⟨0, Nat.zero_le _, rfl, Below.refl _ _⟩
  case round =>
    obtain ⟨t, ht, rfl, hb⟩ := hrel
    have HB := hid hb
    clear hb
    by_cases hlt : t < nb
    · have hti : (t < nb) = True := eq_true hlt
      have HLT := hid hlt
      have htx : t < bs.length := by rw [← HNB.out]; exact hlt
      have hzg := nZ_get htx
      obtain ⟨y, hy⟩ : ∃ y, y = bs.getD t 0 := ⟨_, rfl⟩
      have hyb := HBY.out.getD t
      obtain ⟨b1, o1, rfl, hc1⟩ : ∃ b1 o1, a = some ⟨b1, o1, none⟩ ∧ wr.cell? ⟨b1, o1 + t, none⟩ = some (.int .u8 ((bs.getD t 0 : Nat) : Int)) := by
        rcases HS1.out.below HB.out with h | ⟨b, o, h, _, hc⟩
        · rw [h] at htx; simp at htx
        · exact ⟨b, o, h, hc t htx⟩
      obtain ⟨b2, o2, rfl, hc2⟩ : ∃ b2 o2, u = some ⟨b2, o2, none⟩ ∧ wr.cell? ⟨b2, o2 + t, none⟩ = some (.int .i64 (((bs.getD t 0 : Nat) : Int) + 2)) := by
        rcases HSU.out.below HB.out with h | ⟨b, o, h, _, hc⟩
        · have h2 := congrArg List.length h
          simp [nZ] at h2
          rw [h2] at htx
          simp at htx
        · exact ⟨b, o, h, by rw [← hzg]; exact hc t (by simp [nZ]; exact htx)⟩
      rw [← hy] at hc1 hc2 hyb
      have hyi : (y : Int) < 256 := by omega
      clear hlt htx hzg hy hyb
      go_wp2_with fail
      go_quiet (fail)
      have HBQ := hid (HB.out.trans (Below.mono (below_drewN wr nq) HB.out.size))
      clear HB
      generalize wr.drewN nq = wq at *
      go_wp2_with fail
      go_roundw
      case rel => exact ⟨t + 1, HLT.out, by go_num, HBQ.out⟩
      case measure => simp [intOf]; have := HLT.out; omega
    · have hti : (t < nb) = False := eq_false hlt
      have HBW := hid (HB1.out.trans (HB.out.mono HB1.out.size))
      clear hlt HB HB1
      go_wp2_with fail
      refine (pa.nCode wr n HI.out).mono ?_
      rintro e y3 ⟨v3, rfl, hb⟩
      have HB3 := hid (HBW.out.trans (hb.mono HBW.out.size))
      clear hb HBW
      go_wp2_with fail
      refine (pa.nSymbol y3 n HI.out).mono ?_
      rintro e y4 ⟨v4, rfl, hb⟩
      have HB4 := hid (HB3.out.trans (hb.mono HB3.out.size))
      clear hb HB3
      go_wp2_with fail
      refine (pa.nC y4 n HI.out).mono ?_
      rintro e y5 ⟨v5, rfl, hb⟩
      have HB5 := hid (HB4.out.trans (hb.mono HB4.out.size))
      clear hb HB4
      obtain ⟨z5, hz5⟩ : ∃ z5, z5 = y5.alloc (.cells #[.int .i64 n] 3) := ⟨_, rfl⟩
      have hb6 : Below y5.heap.size y5 z5 := by rw [hz5]; exact (Below.refl _ _).alloc (Nat.le_refl _) _
      have HC6 := hid (pa.nCodes _ z5 (some ⟨y5.heap.size, 0, none⟩) 1 [n] (by rw [hz5]; exact Si.one y5 n 3) (by simp))
      have HZ5 := hid hz5
      have HB6 := hid (HB5.out.trans (hb6.mono HB5.out.size))
      clear hz5 hb6 HB5
      go_wp2_with fail
      rw [← HZ5.out]
      refine HC6.out.mono ?_
      rintro e y7 ⟨v7, rfl, hb⟩
      have HB7 := hid (HB6.out.trans (hb.mono HB6.out.size))
      clear hb HB6 HC6 HZ5
      obtain ⟨z7, hz7⟩ : ∃ z7, z7 = y7.alloc (.cells #[.int .i64 n] 3) := ⟨_, rfl⟩
      have hb8 : Below y7.heap.size y7 z7 := by rw [hz7]; exact (Below.refl _ _).alloc (Nat.le_refl _) _
      have HC8 := hid (pa.nSymbols _ z7 (some ⟨y7.heap.size, 0, none⟩) 1 [n] (by rw [hz7]; exact Si.one y7 n 3) (by simp))
      have HZ7 := hid hz7
      have HB8 := hid (HB7.out.trans (hb8.mono HB7.out.size))
      clear hz7 hb8 HB7
      go_wp2_with fail
      rw [← HZ7.out]
      refine HC8.out.mono ?_
      rintro e y9 ⟨v9, rfl, hb⟩
      have HB9 := hid (HB8.out.trans (hb.mono HB8.out.size))
      clear hb HB8 HC8 HZ7
      go_wp2_with fail
      refine (known14_any pa y9).mono ?_
      rintro e y10 ⟨rfl, hb⟩
      have HB10 := hid (HB9.out.trans (hb.mono HB9.out.size))
      clear hb HB9
      go_wp2_with fail
      refine (pa.nSigma y10).mono ?_
      rintro e y11 ⟨rfl, hb⟩
      have HB11 := hid (HB10.out.trans (hb.mono HB10.out.size))
      clear hb HB10
      go_wp2_with fail
      refine (pa.nCount y11 n HI.out).mono ?_
      rintro e y12 ⟨rfl, hb⟩
      have HB12 := hid (HB11.out.trans (hb.mono HB11.out.size))
      clear hb HB11
      go_wp2_with fail
      refine (pa.nLen y12).mono ?_
      rintro e y13 ⟨rfl, hb⟩
      have HB13 := hid (HB12.out.trans (hb.mono HB12.out.size))
      clear hb HB12
      go_wp2_with fail
      refine (pa.nBytes y13).mono ?_
      rintro e y14 ⟨a14, c14, rfl, hb⟩
      have HB14 := hid (HB13.out.trans (hb.mono HB13.out.size))
      clear hb HB13
      go_wp2_with fail
      go_ret
      exact ⟨rfl, HB14.out⟩
end Go.Proofs.Ytbhpfdpcafdeaaa
