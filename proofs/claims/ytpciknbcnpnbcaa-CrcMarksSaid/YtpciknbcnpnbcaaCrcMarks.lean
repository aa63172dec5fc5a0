/- 'CrcMarks' RETURNS TRUE FOR EVERY SLICE OF BYTES: marked bytes are the bytes and their sum, and hold; other bytes hold just if their last four are that. No condition. -/
import Derived.Test.YtpciknbcnpnbcaaCrcF
import Derived.Test.YtpciknbcnpnbcaaOpen
import Derived.Deep.QuietTactic
import Derived.BigQuiet
import Derived.Deep.RegionHeld3
namespace Go.Proofs.Ytpciknbcnpnbcaa
open Go.RowKit Go.Inc
theorem own_below {w w' : World} {B e n : Nat} {v : Value} {x : List Value} (h : w.ownsRow B e 1 v n x) (hb : Below w.heap.size w w') : w'.ownsRow B e 1 v n x :=
  h.kept (row := none) ⟨hb.os, hb.tape, hb.output, hb.size, fun k hk _ => hb.block k hk⟩ (by cases v.ownBlock <;> simp)
theorem own_start {w : World} {B e n : Nat} {v : Value} {cs : List Nat} (h : w.ownsRow B e 1 v (0 + n) (u8s [] ++ u8s cs)) : w.ownsRow B e 1 v n (u8s cs) := by
  rw [Nat.zero_add] at h; exact h
theorem own_nil {w : World} {B e n : Nat} {v : Value} {cs : List Nat} (h : w.ownsRow B e 1 v n (u8s [] ++ u8s cs)) : w.ownsRow B e 1 v n (u8s cs) := h
theorem mark_facts (cs : List Nat) (h : Bytes cs) : (mark cs).length = cs.length + 4 ∧ mark cs = cs ++ low (Crc.sum cs) ∧ Bytes (mark cs) ∧ holds (mark cs) = true ∧ Crc.sum cs < 4294967296 :=
  ⟨mark_len cs, rfl, mark_bytes h, holds_mark cs, Crc.sum_lt cs h⟩
theorem Sl_back {ok : Nat → Prop} {w : World} {b o : Nat} {bs : List Nat} (h : Sl ok w (some ⟨b, o, none⟩) bs) (k : Nat) : Sl ok w (some ⟨b, o + k, none⟩) (bs.drop k) := by
  rcases h with rfl | ⟨b', o', he, hk, hc⟩
  · left; simp
  · cases he
    refine .inr ⟨b, o + k, rfl, hk, fun i hi => ?_⟩
    rw [List.length_drop] at hi
    rw [show o + k + i = o + (k + i) from by omega, hc (k + i) (by omega)]
    simp only [List.getD_eq_getElem?_getD, List.getElem?_drop]
theorem holds_parts {cs : List Nat} {n : Nat} (h : cs.length = n + 4) : holds cs = decide (cs.drop n = low (Crc.sum (cs.take n))) := by
  unfold holds
  rw [h, show n + 4 - 4 = n from by omega]
  congr 1
  simp
theorem same_at (ok : Nat → Prop) (sb so c : Nat) (ds : List Nat) (s : Nat) (w w4 : World) (hd : ds.length = 4) (hs : Sl ok w (some ⟨sb, so, none⟩) ds) (h4 : Below w.heap.size w w4) (wx : World) (g : Nat) (hB : Below w4.heap.size w4 wx) (hl : Sl (fun b => b = g) wx (some ⟨g, 0, none⟩) (low s)) :
    Calls Try.prog 16 #[.slice (some ⟨sb, so, none⟩) 4 c, .slice (some ⟨g, 0, none⟩) 4 4] wx fun e w' => e = .returned (.bool (decide (ds = low s))) ∧ Below wx.heap.size wx w' := by
  have h := same_any ok _ (some ⟨sb, so, none⟩) (some ⟨g, 0, none⟩) c 4 ds (low s) wx (hs.below (h4.trans (hB.mono h4.size))) hl (by omega)
  rw [hd] at h
  exact h

set_option maxHeartbeats 2000000 in
theorem marks_short (ok : Nat → Prop) (a : Option Addr) (BL : Nat) (c : Nat) (hBL : (BL : Int) < 4) (cs : List Nat) (w : World) (HL : Hid (cs.length = BL)) (hs : Sl ok w a cs) (hby : Bytes cs) (hcc : Hid (cs.length ≤ c ∧ c ≤ maxLen)) (hlc : ((BL : Nat) : Int) ≤ c) (h3 : cs.length ≤ 300) :
    Calls Try.prog 5 #[.slice a (BL) c] w fun e w' => e = .returned (.bool true) ∧ Below w.heap.size w w' := by
  have HS := hid hs
  have HB := hid hby
  have HM1 := mark_any ok a c cs w HS.out HB.out hcc.out (by omega)
  rw [HL.out] at HM1
  have HM := hid HM1
  obtain ⟨hml, hmd, hmb, hmh, hsl⟩ := mark_facts cs hby
  rw [HL.out] at hml
  try simp only [Nat.reduceAdd] at hml
  have HMD := hid hmd
  have HMB := hid hmb
  have HMH := hid hmh
  have HMLL : Hid ((mark cs).length = BL + 4) := hid (by rw [hml])
  clear hs hby HM1 hmd hmb hmh hml
  go_enter Try.func5, Try.ntmps5
  go_wp2_with fail
  refine HM.out.mono ?_
  clear HM
  rintro e w1 ⟨v, rfl, hv, hb1⟩
  obtain ⟨am, cm, rfl, _, hn, hsm⟩ := Sl.owned hv
  have hcm : Hid ((mark cs).length ≤ cm ∧ cm ≤ maxLen) := hid (own_cap hv)
  have HSM := hid hsm
  have HMLx := HMLL.out
  rw [HMLx] at hcm
  rw [HMLx]
  generalize hmc : mark cs = mc at *
  clear hv hsm hn hmc HMLx
  have hown : Hid ((w1.alloc (.cells #[] 5)).ownsRow w1.heap.size 5 1 (.slice (some ⟨w1.heap.size, 0, none⟩) 0 0) 0 (u8s [])) := hid (World.ownsRow_lit w1 #[] 0 (Nat.le_refl _) (Nat.zero_le _) rfl)
  have hb1a : Below w1.heap.size w1 (w1.alloc (.cells #[] 5)) := (Below.refl _ _).alloc (Nat.le_refl _) _
  have B0 := hid (hb1.trans (hb1a.mono hb1.size))
  have B1 := hid hb1a
  have hw1 := hid hb1.size
  have HSx := hid (HS.out.below B0.out)
  clear hb1a hb1
  go_wp2_with (refine wpList_append_any rfl (.tmp 14) (.tmp 15) 23 rfl w1.heap.size 5 (.int .u8 0) 1 Try.underlying23 infoU8 rfl _ _ _ rfl hown.out a _ _ (u8s cs) rfl (by rw [u8s_length]; exact HL.out) (by intro h; rw [← HL.out]; exact HSx.out.some_len h) HSx.out.cells (u8s_one _) (by have := HL.out; unfold maxLen; omega) (by have := HL.out; omega) (by simp) ?_)
  intro v2 w2 hv2 hg2 _
  have HV2 := hid (own_nil hv2)
  have B0x := hid (below_owned B0.out hown.out hw1.out hg2)
  have B1x := hid (below_owned B1.out hown.out (Nat.le_refl _) hg2)
  have HR := refSum_any ok a c cs w2 (HS.out.below B0x.out) HB.out (by omega)
  rw [HL.out] at HR
  have HR := hid HR
  clear hv2 hg2 HSx B0 B1 hown
  go_wp2_with fail
  refine HR.out.mono ?_
  clear HR
  rintro e w3 ⟨rfl, rfl⟩
  have HLO := hid (low_any (Crc.sum cs) w2 hsl)
  have hlol : Hid ((low (Crc.sum cs)).length = 4) := hid rfl
  generalize Crc.sum cs = sm at *
  go_wp2_with fail
  refine HLO.out.mono ?_
  clear HLO
  rintro e w3 ⟨rfl, hs3, hb3⟩
  have HS3 := hid hs3
  have HV3 := hid (own_below HV2.out hb3)
  have B0 := hid (B0x.out.trans (hb3.mono B0x.out.size))
  have B1 := hid (B1x.out.trans (hb3.mono B1x.out.size))
  clear hs3 hb3 HV2 B0x B1x
  generalize low sm = lo at *
  go_wp2_with (refine wpList_append_any rfl (.tmp 16) (.tmp 19) 23 rfl w1.heap.size 5 (.int .u8 0) 1 Try.underlying23 infoU8 rfl _ _ _ rfl HV3.out (some ⟨w2.heap.size, 0, none⟩) _ _ (u8s lo) rfl (by rw [u8s_length]; exact hlol.out) (by intro h; cases h) HS3.out.cells (u8s_one _) (by have := HL.out; unfold maxLen; omega) (by have := HL.out; omega) B1.out.size ?_)
  intro v4 w4 hv4 hg4 _
  have hv4' := owns_step hv4 HL.out.symm hlol.out.symm
  rw [← HMD.out] at hv4'
  obtain ⟨a4, c4, rfl, _, _, hs4⟩ := Sl.owned hv4'
  have B0x := hid (below_owned B0.out HV3.out hw1.out hg4)
  have B1x := hid (below_owned B1.out HV3.out (Nat.le_refl _) hg4)
  have HS4 := hid hs4
  have HMLx := HMLL.out
  rw [HMLx]
  clear hv4 hg4 HS3 HV3 B0 B1 hs4 hv4' HMLx hlol HMD
  have hneg : (BL : Int) - 4 < 0 := by omega
  have hn0 : ((0 : Int) ≤ (BL : Int) - 4) = False := eq_false (by omega)
  have hn1 : ((4 : Int) ≤ (BL : Int)) = False := eq_false (by omega)
  have hn2 : (4 ≤ BL) = False := eq_false (by omega)
  have HHC : Hid (holds cs = false) := hid (by
    unfold holds
    rw [decide_eq_false_iff_not, HL.out]
    omega)
  go_wp2_with fail
  go_quiet (fail)
  have B0q : Hid (Below w.heap.size w (w4.drewN nq)) := hid ⟨B0x.out.os, B0x.out.tape, B0x.out.output, B0x.out.size, B0x.out.block⟩
  have B1q : Hid (Below w1.heap.size w1 (w4.drewN nq)) := hid ⟨B1x.out.os, B1x.out.tape, B1x.out.output, B1x.out.size, B1x.out.block⟩
  have HS4q := hid (HS4.out.below (w' := w4.drewN nq) ⟨rfl, rfl, rfl, Nat.le_refl _, fun _ _ => rfl⟩)
  clear B0x B1x HS4
  generalize w4.drewN nq = w4 at *
  have B0x := B0q
  have B1x := B1q
  have HS4 := HS4q
  clear B0q B1q HS4q
  have HKN := hid (known_any w4)
  go_wp2_with fail
  refine HKN.out.mono ?_
  clear HKN
  rintro e w5 ⟨rfl, hb5⟩
  have H := same_any _ _ am a4 cm c4 mc mc w5 (HSM.out.below (B1x.out.trans (hb5.mono B1x.out.size))) (HS4.out.below hb5) (by rw [HMLL.out]; omega)
  rw [HMLL.out, show decide (mc = mc) = true by simp] at H
  have H1 := hid H
  have B0 := hid (B0x.out.trans (hb5.mono B0x.out.size))
  have B1 := hid (B1x.out.trans (hb5.mono B1x.out.size))
  clear hb5 H
  go_wp2_with fail
  refine H1.out.mono ?_
  clear H1
  rintro e w6 ⟨rfl, hb6⟩
  have H := holds_any _ am cm mc w6 (HSM.out.below (B1.out.trans (hb6.mono B1.out.size))) HMB.out (by rw [HMLL.out]; exact hcm.out.1) hcm.out.2
  rw [HMLL.out, HMH.out] at H
  have H1 := hid H
  have B0y := hid (B0.out.trans (hb6.mono B0.out.size))
  clear hb6 H
  go_wp2_with fail
  refine H1.out.mono ?_
  clear H1
  rintro e w7 ⟨rfl, hb7⟩
  have B0z := hid (B0y.out.trans (hb7.mono B0y.out.size))
  have H := holds_any ok a c cs w7 (HS.out.below B0z.out) HB.out hcc.out.1 hcc.out.2
  rw [HL.out, HHC.out] at H
  have H1 := hid H
  clear hb7 H
  go_wp2_with fail
  refine H1.out.mono ?_
  clear H1
  rintro e w8 ⟨rfl, hb8⟩
  have B0w := hid (B0z.out.trans (hb8.mono B0z.out.size))
  clear hb8
  go_wp2_with fail
  go_ret
  exact ⟨rfl, B0w.out⟩


set_option maxHeartbeats 2000000 in
theorem marks_mid (ok : Nat → Prop) (sb so N : Nat) (c : Nat) (hN : (N : Int) + 4 ≤ 300) (cs : List Nat) (w : World) (HL : Hid (cs.length = N + 4)) (hs : Sl ok w (some ⟨sb, so, none⟩) cs) (hby : Bytes cs) (hcc : Hid (cs.length ≤ c ∧ c ≤ maxLen)) (hlc : ((N + 4 : Nat) : Int) ≤ c) (h3 : cs.length ≤ 300) :
    Calls Try.prog 5 #[.slice (some ⟨sb, so, none⟩) (N + 4) c] w fun e w' => e = .returned (.bool true) ∧ Below w.heap.size w w' := by
  have HS := hid hs
  have HB := hid hby
  have HM1 := mark_any ok (some ⟨sb, so, none⟩) c cs w HS.out HB.out hcc.out (by omega)
  rw [HL.out] at HM1
  have HM := hid HM1
  obtain ⟨hml, hmd, hmb, hmh, hsl⟩ := mark_facts cs hby
  rw [HL.out] at hml
  try simp only [Nat.reduceAdd] at hml
  have HMD := hid hmd
  have HMB := hid hmb
  have HMH := hid hmh
  have HMLL : Hid ((mark cs).length = N + 4 + 4) := hid (by rw [hml])
  clear hs hby HM1 hmd hmb hmh hml
  go_enter Try.func5, Try.ntmps5
  go_wp2_with fail
  refine HM.out.mono ?_
  clear HM
  rintro e w1 ⟨v, rfl, hv, hb1⟩
  obtain ⟨am, cm, rfl, _, hn, hsm⟩ := Sl.owned hv
  have hcm : Hid ((mark cs).length ≤ cm ∧ cm ≤ maxLen) := hid (own_cap hv)
  have HSM := hid hsm
  have HMLx := HMLL.out
  rw [HMLx] at hcm
  rw [HMLx]
  generalize hmc : mark cs = mc at *
  clear hv hsm hn hmc HMLx
  have hown : Hid ((w1.alloc (.cells #[] 5)).ownsRow w1.heap.size 5 1 (.slice (some ⟨w1.heap.size, 0, none⟩) 0 0) 0 (u8s [])) := hid (World.ownsRow_lit w1 #[] 0 (Nat.le_refl _) (Nat.zero_le _) rfl)
  have hb1a : Below w1.heap.size w1 (w1.alloc (.cells #[] 5)) := (Below.refl _ _).alloc (Nat.le_refl _) _
  have B0 := hid (hb1.trans (hb1a.mono hb1.size))
  have B1 := hid hb1a
  have hw1 := hid hb1.size
  have HSx := hid (HS.out.below B0.out)
  clear hb1a hb1
  go_wp2_with (refine wpList_append_any rfl (.tmp 14) (.tmp 15) 23 rfl w1.heap.size 5 (.int .u8 0) 1 Try.underlying23 infoU8 rfl _ _ _ rfl hown.out (some ⟨sb, so, none⟩) _ _ (u8s cs) rfl (by rw [u8s_length]; exact HL.out) (by intro h; rw [← HL.out]; exact HSx.out.some_len h) HSx.out.cells (u8s_one _) (by have := HL.out; unfold maxLen; omega) (by have := HL.out; omega) (by simp) ?_)
  intro v2 w2 hv2 hg2 _
  have HV2 := hid (own_nil hv2)
  have B0x := hid (below_owned B0.out hown.out hw1.out hg2)
  have B1x := hid (below_owned B1.out hown.out (Nat.le_refl _) hg2)
  have HR := refSum_any ok (some ⟨sb, so, none⟩) c cs w2 (HS.out.below B0x.out) HB.out (by omega)
  rw [HL.out] at HR
  have HR := hid HR
  clear hv2 hg2 HSx B0 B1 hown
  go_wp2_with fail
  refine HR.out.mono ?_
  clear HR
  rintro e w3 ⟨rfl, rfl⟩
  have HLO := hid (low_any (Crc.sum cs) w2 hsl)
  have hlol : Hid ((low (Crc.sum cs)).length = 4) := hid rfl
  generalize Crc.sum cs = sm at *
  go_wp2_with fail
  refine HLO.out.mono ?_
  clear HLO
  rintro e w3 ⟨rfl, hs3, hb3⟩
  have HS3 := hid hs3
  have HV3 := hid (own_below HV2.out hb3)
  have B0 := hid (B0x.out.trans (hb3.mono B0x.out.size))
  have B1 := hid (B1x.out.trans (hb3.mono B1x.out.size))
  clear hs3 hb3 HV2 B0x B1x
  generalize low sm = lo at *
  go_wp2_with (refine wpList_append_any rfl (.tmp 16) (.tmp 19) 23 rfl w1.heap.size 5 (.int .u8 0) 1 Try.underlying23 infoU8 rfl _ _ _ rfl HV3.out (some ⟨w2.heap.size, 0, none⟩) _ _ (u8s lo) rfl (by rw [u8s_length]; exact hlol.out) (by intro h; cases h) HS3.out.cells (u8s_one _) (by have := HL.out; unfold maxLen; omega) (by have := HL.out; omega) B1.out.size ?_)
  intro v4 w4 hv4 hg4 _
  have hv4' := owns_step hv4 HL.out.symm hlol.out.symm
  rw [← HMD.out] at hv4'
  obtain ⟨a4, c4, rfl, _, _, hs4⟩ := Sl.owned hv4'
  have B0x := hid (below_owned B0.out HV3.out hw1.out hg4)
  have B1x := hid (below_owned B1.out HV3.out (Nat.le_refl _) hg4)
  have HS4 := hid hs4
  have HMLx := HMLL.out
  rw [HMLx]
  clear hv4 hg4 HS3 HV3 B0 B1 hs4 hv4' HMLx hlol HMD
  have hN0 : (0 : Int) ≤ N := by omega
  have hNc : (N : Int) ≤ c := by omega
  have hN4 : (N : Int) ≤ N + 4 := by omega
  have hNc4 : (N : Int) + 4 ≤ c := by omega
  have hcN : (c = N) = False := eq_false (by omega)
  have hN1 : ((N : Int) < 0) = False := eq_false (by omega)
  have hN2 : ((0 : Int) > N) = False := eq_false (by omega)
  have HHC : Hid (holds cs = decide (cs.drop (N) = low (Crc.sum (cs.take (N))))) := hid (holds_parts HL.out)
  have hsl2 := Crc.sum_lt _ (HB.out.take (N))
  have hpl : (cs.take (N)).length = N := by rw [List.length_take, HL.out]; omega
  have HR5 : Hid (∀ wx, Below w4.heap.size w4 wx → Calls Try.prog 10 #[.slice (some ⟨sb, so, none⟩) (N) c] wx fun e w' => e = .returned (.int .u32 (Crc.sum (cs.take (N)) : Nat)) ∧ wx = w') := hid (by
    intro wx hx
    have h := refSum_any ok (some ⟨sb, so, none⟩) c (cs.take (N)) wx ((HS.out.front (N)).below (B0x.out.trans (hx.mono B0x.out.size))) (HB.out.take (N)) (by omega)
    rwa [hpl] at h)
  have HSA := hid (same_at ok sb (so + (N)) (c - (N)) (cs.drop (N)) (Crc.sum (cs.take (N))) w w4 (by have := HL.out; rw [List.length_drop]; omega) (Sl_back HS.out (N)) B0x.out)
  clear hpl
  generalize decide (cs.drop (N) = low (Crc.sum (cs.take (N)))) = r at *
  generalize Crc.sum (cs.take (N)) = s2 at *
  go_wp2_with fail
  go_region_held3 (fun w' => Below w4.heap.size w4 w')
    (repeat (first | exact Below.refl _ _ | assumption | apply Below.drew | refine Below.alloc ?_ (by first | exact Nat.le_refl _ | (simp; done)) _))
    (first | (go_at_call 10; refine (HR5.out _ (by assumption)).mono ?_; rintro e w5 ⟨rfl, rfl⟩) | (go_at_call 15; refine (low_any _ _ hsl2).mono ?_; rintro e w5 ⟨rfl, hs5, hb5⟩; have hbw5 : Below w4.heap.size w4 w5 := Below.trans (by assumption) (hb5.mono (Below.size (by assumption)))) | (go_at_call 16; refine (HSA.out _ _ (by assumption) hs5).mono ?_; rintro e w6 ⟨rfl, hb6⟩; have hbw6 : Below w4.heap.size w4 w6 := Below.trans (by assumption) (hb6.mono (Below.size (by assumption)))))
  all_goals
    have B0n := hid (B0x.out.trans (hbw6.mono B0x.out.size))
    have B1n := hid (B1x.out.trans (hbw6.mono B1x.out.size))
    have HS4n := hid (HS4.out.below hbw6)
    clear B0x B1x HS4 HR5 HSA
    have B0x := B0n
    have B1x := B1n
    have HS4 := HS4n
    clear B0n B1n HS4n
    have HKN := hid (known_any w6)
    go_wp2_with fail
    refine HKN.out.mono ?_
    clear HKN
    rintro e w5 ⟨rfl, hb5⟩
    have H := same_any _ _ am a4 cm c4 mc mc w5 (HSM.out.below (B1x.out.trans (hb5.mono B1x.out.size))) (HS4.out.below hb5) (by rw [HMLL.out]; omega)
    rw [HMLL.out, show decide (mc = mc) = true by simp] at H
    have H1 := hid H
    have B0 := hid (B0x.out.trans (hb5.mono B0x.out.size))
    have B1 := hid (B1x.out.trans (hb5.mono B1x.out.size))
    clear hb5 H
    go_wp2_with fail
    refine H1.out.mono ?_
    clear H1
    rintro e w6 ⟨rfl, hb6⟩
    have H := holds_any _ am cm mc w6 (HSM.out.below (B1.out.trans (hb6.mono B1.out.size))) HMB.out (by rw [HMLL.out]; exact hcm.out.1) hcm.out.2
    rw [HMLL.out, HMH.out] at H
    have H1 := hid H
    have B0y := hid (B0.out.trans (hb6.mono B0.out.size))
    clear hb6 H
    go_wp2_with fail
    refine H1.out.mono ?_
    clear H1
    rintro e w7 ⟨rfl, hb7⟩
    have B0z := hid (B0y.out.trans (hb7.mono B0y.out.size))
    have H := holds_any ok (some ⟨sb, so, none⟩) c cs w7 (HS.out.below B0z.out) HB.out hcc.out.1 hcc.out.2
    rw [HL.out, HHC.out] at H
    have H1 := hid H
    clear hb7 H
    go_wp2_with fail
    refine H1.out.mono ?_
    clear H1
    rintro e w8 ⟨rfl, hb8⟩
    have B0w := hid (B0z.out.trans (hb8.mono B0z.out.size))
    clear hb8
    go_wp2_with fail
    go_ret
    exact ⟨rfl, B0w.out⟩


set_option maxHeartbeats 2000000 in
theorem marks_long (ok : Nat → Prop) (sb so BL : Nat) (c : Nat) (hBL : (300 : Int) < BL) (cs : List Nat) (w : World) (HL : Hid (cs.length = 300)) (hs : Sl ok w (some ⟨sb, so, none⟩) cs) (hby : Bytes cs) (hcc : Hid (cs.length ≤ c ∧ c ≤ maxLen)) (hlc : ((BL : Nat) : Int) ≤ c) (h3 : cs.length ≤ 300) :
    Calls Try.prog 5 #[.slice (some ⟨sb, so, none⟩) (BL) c] w fun e w' => e = .returned (.bool true) ∧ Below w.heap.size w w' := by
  have HS := hid hs
  have HB := hid hby
  have HM1 := mark_any ok (some ⟨sb, so, none⟩) c cs w HS.out HB.out hcc.out (by omega)
  rw [HL.out] at HM1
  have HM := hid HM1
  obtain ⟨hml, hmd, hmb, hmh, hsl⟩ := mark_facts cs hby
  rw [HL.out] at hml
  try simp only [Nat.reduceAdd] at hml
  have HMD := hid hmd
  have HMB := hid hmb
  have HMH := hid hmh
  have HMLL : Hid ((mark cs).length = 304) := hid (by rw [hml])
  clear hs hby HM1 hmd hmb hmh hml
  go_enter Try.func5, Try.ntmps5
  go_wp2_with fail
  refine HM.out.mono ?_
  clear HM
  rintro e w1 ⟨v, rfl, hv, hb1⟩
  obtain ⟨am, cm, rfl, _, hn, hsm⟩ := Sl.owned hv
  have hcm : Hid ((mark cs).length ≤ cm ∧ cm ≤ maxLen) := hid (own_cap hv)
  have HSM := hid hsm
  have HMLx := HMLL.out
  rw [HMLx] at hcm
  rw [HMLx]
  generalize hmc : mark cs = mc at *
  clear hv hsm hn hmc HMLx
  have hown : Hid ((w1.alloc (.cells #[] 5)).ownsRow w1.heap.size 5 1 (.slice (some ⟨w1.heap.size, 0, none⟩) 0 0) 0 (u8s [])) := hid (World.ownsRow_lit w1 #[] 0 (Nat.le_refl _) (Nat.zero_le _) rfl)
  have hb1a : Below w1.heap.size w1 (w1.alloc (.cells #[] 5)) := (Below.refl _ _).alloc (Nat.le_refl _) _
  have B0 := hid (hb1.trans (hb1a.mono hb1.size))
  have B1 := hid hb1a
  have hw1 := hid hb1.size
  have HSx := hid (HS.out.below B0.out)
  clear hb1a hb1
  go_wp2_with (refine wpList_append_any rfl (.tmp 14) (.tmp 15) 23 rfl w1.heap.size 5 (.int .u8 0) 1 Try.underlying23 infoU8 rfl _ _ _ rfl hown.out (some ⟨sb, so, none⟩) _ _ (u8s cs) rfl (by rw [u8s_length]; exact HL.out) (by intro h; rw [← HL.out]; exact HSx.out.some_len h) HSx.out.cells (u8s_one _) (by have := HL.out; unfold maxLen; omega) (by have := HL.out; omega) (by simp) ?_)
  intro v2 w2 hv2 hg2 _
  have HV2 := hid (own_nil hv2)
  have B0x := hid (below_owned B0.out hown.out hw1.out hg2)
  have B1x := hid (below_owned B1.out hown.out (Nat.le_refl _) hg2)
  have HR := refSum_any ok (some ⟨sb, so, none⟩) c cs w2 (HS.out.below B0x.out) HB.out (by omega)
  rw [HL.out] at HR
  have HR := hid HR
  clear hv2 hg2 HSx B0 B1 hown
  go_wp2_with fail
  refine HR.out.mono ?_
  clear HR
  rintro e w3 ⟨rfl, rfl⟩
  have HLO := hid (low_any (Crc.sum cs) w2 hsl)
  have hlol : Hid ((low (Crc.sum cs)).length = 4) := hid rfl
  generalize Crc.sum cs = sm at *
  go_wp2_with fail
  refine HLO.out.mono ?_
  clear HLO
  rintro e w3 ⟨rfl, hs3, hb3⟩
  have HS3 := hid hs3
  have HV3 := hid (own_below HV2.out hb3)
  have B0 := hid (B0x.out.trans (hb3.mono B0x.out.size))
  have B1 := hid (B1x.out.trans (hb3.mono B1x.out.size))
  clear hs3 hb3 HV2 B0x B1x
  generalize low sm = lo at *
  go_wp2_with (refine wpList_append_any rfl (.tmp 16) (.tmp 19) 23 rfl w1.heap.size 5 (.int .u8 0) 1 Try.underlying23 infoU8 rfl _ _ _ rfl HV3.out (some ⟨w2.heap.size, 0, none⟩) _ _ (u8s lo) rfl (by rw [u8s_length]; exact hlol.out) (by intro h; cases h) HS3.out.cells (u8s_one _) (by have := HL.out; unfold maxLen; omega) (by have := HL.out; omega) B1.out.size ?_)
  intro v4 w4 hv4 hg4 _
  have hv4' := owns_step hv4 HL.out.symm hlol.out.symm
  rw [← HMD.out] at hv4'
  obtain ⟨a4, c4, rfl, _, _, hs4⟩ := Sl.owned hv4'
  have B0x := hid (below_owned B0.out HV3.out hw1.out hg4)
  have B1x := hid (below_owned B1.out HV3.out (Nat.le_refl _) hg4)
  have HS4 := hid hs4
  have HMLx := HMLL.out
  rw [HMLx]
  clear hv4 hg4 HS3 HV3 B0 B1 hs4 hv4' HMLx hlol HMD
  have h300 : (300 : Int) ≤ c := by omega
  have h296 : (296 : Int) ≤ c := by omega
  have hc296 : (c = 296) = False := eq_false (by omega)
  have HHC : Hid (holds cs = decide (cs.drop (296) = low (Crc.sum (cs.take (296))))) := hid (holds_parts HL.out)
  have hsl2 := Crc.sum_lt _ (HB.out.take (296))
  have hpl : (cs.take (296)).length = 296 := by rw [List.length_take, HL.out]; omega
  have HR5 : Hid (∀ wx, Below w4.heap.size w4 wx → Calls Try.prog 10 #[.slice (some ⟨sb, so, none⟩) (296) c] wx fun e w' => e = .returned (.int .u32 (Crc.sum (cs.take (296)) : Nat)) ∧ wx = w') := hid (by
    intro wx hx
    have h := refSum_any ok (some ⟨sb, so, none⟩) c (cs.take (296)) wx ((HS.out.front (296)).below (B0x.out.trans (hx.mono B0x.out.size))) (HB.out.take (296)) (by omega)
    rwa [hpl] at h)
  have HSA := hid (same_at ok sb (so + (296)) (c - (296)) (cs.drop (296)) (Crc.sum (cs.take (296))) w w4 (by have := HL.out; rw [List.length_drop]; omega) (Sl_back HS.out (296)) B0x.out)
  clear hpl
  generalize decide (cs.drop (296) = low (Crc.sum (cs.take (296)))) = r at *
  generalize Crc.sum (cs.take (296)) = s2 at *
  go_wp2_with fail
  go_region_held3 (fun w' => Below w4.heap.size w4 w')
    (repeat (first | exact Below.refl _ _ | assumption | apply Below.drew | refine Below.alloc ?_ (by first | exact Nat.le_refl _ | (simp; done)) _))
    (first | (go_at_call 10; refine (HR5.out _ (by assumption)).mono ?_; rintro e w5 ⟨rfl, rfl⟩) | (go_at_call 15; refine (low_any _ _ hsl2).mono ?_; rintro e w5 ⟨rfl, hs5, hb5⟩; have hbw5 : Below w4.heap.size w4 w5 := Below.trans (by assumption) (hb5.mono (Below.size (by assumption)))) | (go_at_call 16; refine (HSA.out _ _ (by assumption) hs5).mono ?_; rintro e w6 ⟨rfl, hb6⟩; have hbw6 : Below w4.heap.size w4 w6 := Below.trans (by assumption) (hb6.mono (Below.size (by assumption)))))
  all_goals
    have B0n := hid (B0x.out.trans (hbw6.mono B0x.out.size))
    have B1n := hid (B1x.out.trans (hbw6.mono B1x.out.size))
    have HS4n := hid (HS4.out.below hbw6)
    clear B0x B1x HS4 HR5 HSA
    have B0x := B0n
    have B1x := B1n
    have HS4 := HS4n
    clear B0n B1n HS4n
    have HKN := hid (known_any w6)
    go_wp2_with fail
    refine HKN.out.mono ?_
    clear HKN
    rintro e w5 ⟨rfl, hb5⟩
    have H := same_any _ _ am a4 cm c4 mc mc w5 (HSM.out.below (B1x.out.trans (hb5.mono B1x.out.size))) (HS4.out.below hb5) (by rw [HMLL.out]; omega)
    rw [HMLL.out, show decide (mc = mc) = true by simp] at H
    have H1 := hid H
    have B0 := hid (B0x.out.trans (hb5.mono B0x.out.size))
    have B1 := hid (B1x.out.trans (hb5.mono B1x.out.size))
    clear hb5 H
    go_wp2_with fail
    refine H1.out.mono ?_
    clear H1
    rintro e w6 ⟨rfl, hb6⟩
    have H := holds_any _ am cm mc w6 (HSM.out.below (B1.out.trans (hb6.mono B1.out.size))) HMB.out (by rw [HMLL.out]; exact hcm.out.1) hcm.out.2
    rw [HMLL.out, HMH.out] at H
    have H1 := hid H
    have B0y := hid (B0.out.trans (hb6.mono B0.out.size))
    clear hb6 H
    go_wp2_with fail
    refine H1.out.mono ?_
    clear H1
    rintro e w7 ⟨rfl, hb7⟩
    have B0z := hid (B0y.out.trans (hb7.mono B0y.out.size))
    have H := holds_any ok (some ⟨sb, so, none⟩) c cs w7 (HS.out.below B0z.out) HB.out hcc.out.1 hcc.out.2
    rw [HL.out, HHC.out] at H
    have H1 := hid H
    clear hb7 H
    go_wp2_with fail
    refine H1.out.mono ?_
    clear H1
    rintro e w8 ⟨rfl, hb8⟩
    have B0w := hid (B0z.out.trans (hb8.mono B0z.out.size))
    clear hb8
    go_wp2_with fail
    go_ret
    exact ⟨rfl, B0w.out⟩


theorem crcMarks_walk (ok : Nat → Prop) (a : Option Addr) (c : Nat) (bs : List Nat) (w : World) (hs : Sl ok w a bs) (hby : Bytes bs) (hc : bs.length ≤ c) (hm : c ≤ maxLen) :
    Calls Try.prog 5 #[.slice a bs.length c] w fun e w' => e = .returned (.bool true) ∧ Below w.heap.size w w' := by
  by_cases h4 : bs.length < 4
  · exact marks_short ok a bs.length c (by omega) bs w rfl hs hby ⟨hc, hm⟩ (by omega) (by omega)
  · have hne : bs ≠ [] := by rintro rfl; simp at h4
    obtain ⟨sb, so, rfl⟩ : ∃ sb so, a = some ⟨sb, so, none⟩ := by
      rcases hs with h | ⟨sb, so, h, _⟩
      · exact (hne h).elim
      · exact ⟨sb, so, h⟩
    by_cases h300 : bs.length ≤ 300
    · obtain ⟨N, hN⟩ : ∃ N, bs.length = N + 4 := ⟨bs.length - 4, by omega⟩
      have h := marks_mid ok sb so N c (by omega) bs w hN hs hby ⟨hc, hm⟩ (by omega) (by omega)
      rw [hN]; exact h
    · have hl : (bs.take 300).length = 300 := by rw [List.length_take]; omega
      exact marks_long ok sb so bs.length c (by omega) (bs.take 300) w hl (hs.front 300) (hby.take 300) ⟨by omega, hm⟩ (by omega) (by omega)

namespace crcMarks
open Go.ChangeShapes Go.WideShapes Go.ChangeAt

theorem own : ownKnob Try.prog.godebug = none := by kernel_rfl
theorem laidOut : laidOutB Try.prog = true := by kernel_rfl

set_option maxRecDepth 100000 in
theorem lifted (os : Os) (started : os.Started) (H : Type) (enc : TypeId × Value → H) :
    ReturnsInHanded {} Try.checked os 5 .any (Rows.crcMarksSpec.pre6 enc Try.prog Try.f5 Rows.crcMarksRow.domain false) (Rows.crcMarksSpec.post enc Try.prog Try.f5 false true false false) := by
  refine returnsInHanded_of_change (C := Try.checked) own started (by kernel_rfl) Try.func5
    (ChangeSpec.witness6 (enc := enc) (C := Try.checked) false ⟨#[], #[.slice none 0 0], []⟩ 8 (by kernel_rfl) (by kernel_rfl) (by kernel_rfl) (by kernel_rfl)) ?_
  intro W base args ds gs before hval0 hW hcnd _
  have hval : ∀ (j : Nat) t v, Try.f5.params[j]? = some t → args[j]? = some v → Value.okWide Try.prog W .any base t v := hval0
  have hW' := hW
  obtain ⟨p, q, hA0, hV, rfl, hfz, hnd⟩ := hW
  have hA : DataW.TrodAll enc Try.prog W 0 (fun _ => true) true Try.f5.params.toList args.toList ds p := hA0
  rw [Try.params5] at hA hval
  obtain ⟨v0, vs0, d0, ds0, p0, q0, hargs, rfl, rfl, h0, r0⟩ := trodAll_cons hA
  obtain ⟨rfl, rfl, rfl⟩ := trodAll_nil r0
  obtain rfl : args = #[v0] := by cases args; simp_all
  obtain ⟨rfl, rfl⟩ := trodVars_none hV
  obtain ⟨a0, len0, cap0, rfl⟩ := okWide_slice Try.underlying23 (hval 0 23 v0 rfl rfl)
  have k0 := h0
  have lt0 : ∀ x ∈ p0, x.block < W.heap.size := by obtain ⟨m, hm⟩ := k0; exact DataW.trod_lt m _ _ _ hm
  obtain ⟨a, c, bs, hv, hby, hsl, hlc, hcm, _⟩ : ∃ a c bs, Value.slice a0 len0 cap0 = .slice a (List.length bs) c ∧ Bytes bs ∧ Sl (fun _ => True) W a bs ∧ bs.length ≤ c ∧ c ≤ maxLen ∧ (a = none → c = 0) := by
    obtain ⟨fuel, hf⟩ := h0
    exact open_sl Try.underlying23 Try.underlying5 (by kernel_rfl) hf
  simp only [Value.slice.injEq] at hv
  obtain ⟨rfl, rfl, rfl⟩ := hv
  clear hA0 hval0
  refine (crcMarks_walk _ a0 cap0 bs W hsl hby hlc hcm).mono fun e W' ⟨he, bel⟩ => ?_
  subst he
  exact ⟨_, rfl, _, _, _, [], _, [], hW', trodAll_mk1 (shut_bool Try.underlying4 _), (trodAll_cons_mk (Below.trod laidOut (by kernel_rfl) (of_decide_eq_true (by kernel_rfl)) k0 bel lt0) trodAll_mk0), rfl, bel.frame _, fun h => by cases h⟩

/-- THE STATEMENT. -/
theorem proved : Rows.CrcMarksSaid :=
  OpenClaim.holds_of_wide 5 Try.f5 rfl rfl rfl rfl rfl rfl rfl ⟨rfl, rfl, rfl, rfl, rfl⟩ rfl rfl rfl rfl rfl (by kernel_rfl) Try.func5 (by kernel_rfl)
    (of_decide_eq_true (by kernel_rfl)) (by unfold Func.isWrapper; first | (rw [if_pos (by decide +kernel)]; kernel_rfl) | (rw [if_neg (by decide +kernel)]; exact ⟨rfl, rfl⟩))
    (fun os started H enc _ => lifted os started H enc)
end crcMarks
end Go.Proofs.Ytpciknbcnpnbcaa
