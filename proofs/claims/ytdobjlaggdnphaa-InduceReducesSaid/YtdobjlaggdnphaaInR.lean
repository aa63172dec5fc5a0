/- THE LAW OF REDUCING (layer 16), walked over the program's contracts. -/
import Derived.Test.YtdobjlaggdnphaaInL
import Derived.Test.YtdobjlaggdnphaaGrow
namespace Go.Inc
open Go.RowKit
def EqA (v : Value) : World → Value → Prop := fun _ u => u = v
theorem okT_sr {x : List Int} : okT (zsN (srT x x.length)) := fun n hn => by
  rw [zsN_len, srT_len] at hn
  exact List.mem_map.2 ⟨n, srT_mem.2 hn, rfl⟩
theorem bk_get {x : List Int} {l : List Nat} {i : Nat} (h : i < l.length) : (zsN (bkT x l)).getD i 0 = (((fsT x x.length).getD (l.getD i 0) 0 : Nat) : Int) := by
  rw [zsN_get]
  unfold bkT
  rw [List.getD_eq_getElem?_getD, List.getElem?_map, List.getElem?_eq_getElem h, List.getD_eq_getElem?_getD (l := l), List.getElem?_eq_getElem h]
  rfl
theorem bk_rise {x : List Int} (h : InT x) (hx : x.length ≤ 65536) (h2 : 2 ≤ (fsT x x.length).length) {i : Nat} (hi : i + 1 < (fsT x x.length).length) :
    lsT x ((fsT x x.length).getD ((srT (rdT x) (rdT x).length).getD i 0) 0) ((fsT x x.length).getD ((srT (rdT x) (rdT x).length).getD (i + 1) 0) 0) = true ∧ (fsT x x.length).getD ((srT (rdT x) (rdT x).length).getD i 0) 0 < x.length ∧ (fsT x x.length).getD ((srT (rdT x) (rdT x).length).getD (i + 1) 0) 0 < x.length := by
  have hlen := rd_len x
  have hsl : (srT (rdT x) (rdT x).length).length = (fsT x x.length).length := by rw [srT_len, hlen]
  have hs := srT_sorted (x := rdT x) (Nat.le_refl _)
  have h3 : lsT (rdT x) ((srT (rdT x) (rdT x).length).getD i 0) ((srT (rdT x) (rdT x).length).getD (i + 1) 0) = true := by
    rw [List.getD_eq_getElem?_getD, List.getD_eq_getElem?_getD, List.getElem?_eq_getElem (by omega), List.getElem?_eq_getElem (by omega)]
    exact List.pairwise_iff_getElem.1 hs i (i + 1) (by omega) (by omega) (by omega)
  have h4 : (srT (rdT x) (rdT x).length).getD i 0 < (fsT x x.length).length := by
    have := srT_mem.1 (getD_inN (l := srT (rdT x) (rdT x).length) (i := i) (by omega)); omega
  have h5 : (srT (rdT x) (rdT x).length).getD (i + 1) 0 < (fsT x x.length).length := by
    have := srT_mem.1 (getD_inN (l := srT (rdT x) (rdT x).length) (i := i + 1) (by omega)); omega
  exact ⟨rd_ls h hx h2 _ _ _ (show _ = _ + ((fsT x x.length).length - (srT (rdT x) (rdT x).length).getD i 0) by omega) h4 h5 h3, (inF_mem.1 (getD_inN h4)).2.1, (inF_mem.1 (getD_inN h5)).2.1⟩
end Go.Inc
namespace Go.Proofs.Ytdobjlaggdnphaa
open Go.RowKit Go.Inc
set_option maxRecDepth 20000 in
set_option maxHeartbeats 4000000 in
theorem induceReduces_walk (ps : PI16) (W : World) (a : Option Addr) (c : Nat) (zs0 : List Int) (s0 : Int) (hs : Si (fun _ => True) W a zs0) (hlc : zs0.length ≤ c) (hcm : c ≤ maxLen) (hn : a = none → c = 0) :
    Calls Try.prog 6 #[.slice a zs0.length c, .int .i64 s0] W fun e w' => e = .returned (.bool true) ∧ Below W.heap.size W w' := by
  have HTX := hid (text15_any _ W (.slice a zs0.length c) zs0 s0 ⟨a, c, rfl, hs, hlc, hcm, hn⟩)
  clear hs hlc hcm hn
  go_enter Try.func6, Try.ntmps6
  go_wp2_with fail
  refine HTX.out.mono ?_
  rintro e w1 ⟨vx, X, rfl, hx, hck, hxl, hb⟩
  have HV := hid hx
  have HCK := hid hck
  have hxl2 : X.length ≤ 65536 := by omega
  have HXL := hid hxl2
  have HI := hid (InT.of hck)
  have HB := hid hb
  have HRD := hid (ps.pReduced _ w1 vx X hx hxl2 hck)
  have hml := fs_half (x := X)
  obtain ⟨n, hn⟩ : ∃ n, n = X.length := ⟨_, rfl⟩
  have HN := hid hn
  have hnb : (n : Int) ≤ 121 := by omega
  obtain ⟨F, hF⟩ : ∃ F, F = fsT X X.length := ⟨_, rfl⟩
  have HF := hid hF
  obtain ⟨m, hm⟩ : ∃ m, m = F.length := ⟨_, rfl⟩
  have HM := hid hm
  rw [← hF, ← hm, ← hn] at hml
  have hmb : (m : Int) ≤ 60 := by omega
  obtain ⟨m2, hm2⟩ : ∃ m2 : Nat, m2 = 2 * m := ⟨_, rfl⟩
  have hm2i : 2 * (m : Int) = (m2 : Int) := by omega
  have hm2n : (m2 : Int) ≤ (n : Int) := by omega
  have hm2N : decide ((n : Int) < (m2 : Int)) = false := decide_eq_false (by omega)
  have hrl : (rdT X).length = m := by rw [rd_len, hm, hF]
  have HRL := hid hrl
  clear hx hck hxl hxl2 hb HTX hml hF hm hm2 hrl
  obtain ⟨xa, xc, rfl, -, -⟩ := HV.out
  rw [← hn] at HV HRD ⊢
  clear hn
  go_wp2_with fail
  refine HRD.out.mono ?_
  rintro e w2 ⟨u2, rfl, h2, hb⟩
  have HU2 := hid h2
  obtain ⟨a2, c2, rfl, hs2, -, -, -⟩ := h2
  rw [HRL.out] at HU2 ⊢
  have HV2 := hid (HV.out.below hb)
  have HB2 := hid (HB.out.trans (hb.mono HB.out.size))
  have HFR := hid (refFirsts_so _ w2 _ X HV2.out HXL.out HI.out.right)
  rw [← HF.out] at HFR
  clear hs2 hb HRD HB HV
  go_wp2_with fail
  refine HFR.out.mono ?_
  rintro e w3 ⟨u3, rfl, h3, hb⟩
  obtain ⟨a3, c3, rfl, -, -⟩ := h3
  have HU23 := hid (HU2.out.below hb)
  have HV3 := hid (HV2.out.below hb)
  have HB3 := hid (HB2.out.trans (hb.mono HB2.out.size))
  have hfl : (zsN F).length = m := by rw [zsN_len, ← HM.out]
  rw [hfl]
  have HKN := hid (known16_any ps w3)
  clear hb hfl HFR HB2 HV2 HU2
  by_cases h2m : m < 2
  · have h2i : decide ((m : Int) < 2) = true := decide_eq_true (by omega)
    have h2j : (m : Int) < 2 := by omega
    clear h2m
    go_wp2_with fail
    refine HKN.out.mono ?_
    rintro e w4 ⟨rfl, hb⟩
    have HB4 := hid (HB3.out.trans (hb.mono HB3.out.size))
    clear hb HKN HB3
    go_wp2_with fail
    go_ret
    exact ⟨rfl, HB4.out⟩
  · have h2i : decide ((m : Int) < 2) = false := decide_eq_false (by omega)
    have h2j : (2 : Int) ≤ (m : Int) := by omega
    have hm2' : 2 ≤ (fsT X X.length).length := by rw [← HF.out, ← HM.out]; omega
    have HM2 := hid hm2'
    have hrok := rd_ok HI.out HXL.out hm2'
    have HRL6 : Hid ((rdT X).length ≤ 65536) := hid (by rw [HRL.out]; omega)
    have HCR := hid (refCheck_so _ w3 _ (rdT X) HU23.out HRL6.out)
    have HSR := hid (refSort_so _ w3 _ (rdT X) HU23.out HRL6.out (InT.of hrok).right)
    rw [hrok] at HCR
    obtain ⟨l, hle⟩ : ∃ l, l = srT (rdT X) (rdT X).length := ⟨_, rfl⟩
    have HLE := hid hle
    have HLL : Hid (l.length = m) := hid (by rw [hle, srT_len, HRL.out])
    have HOK : Hid (okT (zsN l)) := hid (by rw [hle]; exact okT_sr)
    rw [← hle] at HSR
    clear h2m hm2' hrok hle HKN
    go_wp2_with fail
    refine HCR.out.mono ?_
    rintro e w' ⟨rfl, rfl⟩
    clear HCR
    go_wp2_with fail
    refine HSR.out.mono ?_
    rintro e w4 ⟨u4, rfl, h4, hb⟩
    have HV4 := hid (HV3.out.below hb)
    have HB4 := hid (HB3.out.trans (hb.mono HB3.out.size))
    have HBK := hid (ps.pBack _ _ w4 _ u4 X l HV4.out h4 HXL.out HCK.out HOK.out (by rw [HLL.out, HM.out, HF.out]))
    clear h4 hb HSR HV3 HB3 HU23
    go_wp2_with fail
    refine HBK.out.mono ?_
    rintro e w5 ⟨u5, rfl, h5, hb⟩
    obtain ⟨a5, c5, rfl, hs5, -, -, -⟩ := h5
    have hl5 : (zsN (bkT X l)).length = m := by rw [zsN_len, bkT, List.length_map, HLL.out]
    have HL5 := hid hl5
    rw [hl5]
    have HS5 := hid hs5
    have HV5 := hid (HV4.out.below hb)
    have HB5 := hid (HB4.out.trans (hb.mono HB4.out.size))
    clear hs5 hb hl5 HBK HV4 HB4
    go_wp2_with fail
    go_loopw [11] (fun i wr => ∃ t : Nat, 1 ≤ t ∧ t ≤ m ∧ i = .int .i64 (t : Int) ∧ Below w5.heap.size w5 wr) (fun i _ => m - (intOf i).toNat)
    case atStart => exact ⟨1, Nat.le_refl _, by omega, rfl, Below.refl _ _⟩
    case round =>
      obtain ⟨t, ht1, htm, rfl, hb⟩ := hrel
      have HBR := hid hb
      clear hb
      by_cases hlt : t < m
      · have hti : (t < m) = True := eq_true hlt
        have HLT := hid hlt
        have htb : (t : Int) < (m : Int) := by omega
        obtain ⟨k, hk⟩ : ∃ k, t = k + 1 := ⟨t - 1, by omega⟩
        have hk1 : (t : Int) - 1 = (k : Int) := by omega
        have hkm : (k < m) = True := eq_true (by omega)
        have hkb : (k : Int) < (m : Int) := by omega
        obtain ⟨hb1, hb2, hb3⟩ := bk_rise HI.out HXL.out HM2.out (i := k) (by rw [← HF.out, ← HM.out]; omega)
        rw [← HLE.out, ← HF.out] at hb1 hb2 hb3
        rw [← hk] at hb1 hb3
        obtain ⟨b5, o5, rfl, hc5⟩ : ∃ b5 o5, a5 = some ⟨b5, o5, none⟩ ∧ ∀ i, i < m → wr.cell? ⟨b5, o5 + i, none⟩ = some (.int .i64 ((F.getD (l.getD i 0) 0 : Nat) : Int)) := by
          rcases HS5.out.below HBR.out with h | ⟨b, o, h, _, hc⟩
          · have h1 := HL5.out
            rw [h] at h1; simp at h1; omega
          · exact ⟨b, o, h, fun i hi => by rw [hc i (by rw [HL5.out]; exact hi), bk_get (by rw [HLL.out]; exact hi), ← HF.out]⟩
        have hck1 := hc5 k (by omega)
        have hck2 := hc5 t hlt
        obtain ⟨p, hp⟩ : ∃ p, p = F.getD (l.getD k 0) 0 := ⟨_, rfl⟩
        obtain ⟨q, hq⟩ : ∃ q, q = F.getD (l.getD t 0) 0 := ⟨_, rfl⟩
        rw [← hp] at hck1 hb1 hb2
        rw [← hq] at hck2 hb1 hb3
        have HLS : Hid (∀ y, Below w5.heap.size w5 y → Calls Try.prog 27 #[.slice xa n xc, .int .i64 (p : Int), .int .i64 (q : Int)] y fun e w' => e = .returned (.bool true) ∧ Below y.heap.size y w') := hid fun y hy => by
          have h := refLess_so _ y _ X p q (HV5.out.below hy) HXL.out HI.out.right hb2 hb3
          rw [hb1] at h
          exact h
        have hkw : IntKind.i64.wrap (k : Int) = (k : Int) := by rw [IntKind.wrap_i64]; omega
        have HCE : Hid (∀ y, Below wr.heap.size wr y → y.cell? ⟨b5, o5 + k, none⟩ = some (.int .i64 (p : Int)) ∧ y.cell? ⟨b5, o5 + t, none⟩ = some (.int .i64 (q : Int))) := hid fun y hy =>
          ⟨by rw [World.cell?_of_block (hy.block b5 (cell_lt hck1))]; exact hck1, by rw [World.cell?_of_block (hy.block b5 (cell_lt hck2))]; exact hck2⟩
        clear hlt hk hb1 hb2 hb3 hp hq hc5 hck1 hck2
        go_wp2_with fail
        refine wp_region_grows 12 [EqA (.slice xa n xc), EqA (.slice (some ⟨b5, o5, none⟩) m c5), EqA (.int .i64 (t : Int)), EqA (.int .i64 (k : Int)), EqA (.pointer (some ⟨b5, o5 + k, none⟩)), EqA (.int .i64 (p : Int)), EqA (.slice (some ⟨b5, o5, none⟩) m c5), EqA (.int .i64 (t : Int)), EqA (.pointer (some ⟨b5, o5 + t, none⟩)), EqA (.int .i64 (q : Int)), EqA (.bool true), EqA (.bool false)] (by kernel_rfl) (by decide) (by kernel_rfl) ?_ ?_ ?_
        · repeat' (first | exact List.forall_mem_nil _ | refine List.forall_mem_cons.2 ⟨?_, ?_⟩)
          all_goals
            intro w w' v hw h
            exact h
        · simp only [AllLt]
          refine ⟨⟨⟨⟨⟨⟨⟨⟨⟨⟨⟨⟨trivial, ?_⟩, ?_⟩, ?_⟩, ?_⟩, ?_⟩, ?_⟩, ?_⟩, ?_⟩, ?_⟩, ?_⟩, ?_⟩, ?_⟩
          all_goals
            intro o' ho
            simp at ho
            subst ho
            intro ρ w6 hR hL hS hG
            obtain ⟨hl1, hl2, -⟩ := hL
          · refine plainG rfl ?_
            intro bA K Q' hK
            have e5 := hS 5 (by kernel_rfl)
            change ρ (.tmp 5) = _ at e5
            simp only [execOp]
            go_simp
            exact hK _ _ rfl (Grew.refl _)
          · refine plainG rfl ?_
            intro bA K Q' hK
            have e9 := hS 9 (by kernel_rfl)
            change ρ (.tmp 9) = _ at e9
            simp only [execOp]
            go_simp
            exact hK _ _ rfl (Grew.refl _)
          · refine plainG rfl ?_
            intro bA K Q' hK
            have e11 := hS 11 (by kernel_rfl)
            change ρ (.tmp 11) = _ at e11
            simp only [execOp]
            go_simp
            exact hK _ _ rfl (Grew.refl _)
          · refine plainG rfl ?_
            intro bA K Q' hK
            have e70 := hG 2 70 (by decide) (by kernel_rfl) (by kernel_rfl)
            change ρ (.tmp 70) = _ at e70
            simp only [execOp]
            go_simp
            exact hK _ _ rfl (Grew.refl _)
          · refine plainG rfl ?_
            intro bA K Q' hK
            have e69 := hG 1 69 (by decide) (by kernel_rfl) (by kernel_rfl)
            have e71 := hG 3 71 (by decide) (by kernel_rfl) (by kernel_rfl)
            change ρ (.tmp 69) = _ at e69
            change ρ (.tmp 71) = _ at e71
            simp only [execOp]
            go_simp
            exact hK _ _ rfl (Grew.refl _)
          · refine plainG rfl ?_
            intro bA K Q' hK
            have e72 := hG 4 72 (by decide) (by kernel_rfl) (by kernel_rfl)
            change ρ (.tmp 72) = _ at e72
            obtain ⟨y1, y2⟩ := HCE.out w6 ⟨hR.os, hR.tape, hR.output, hR.size, hR.block⟩
            simp only [execOp]
            go_simp
            exact hK _ _ rfl (Grew.refl _)
          · refine plainG rfl ?_
            intro bA K Q' hK
            have e9 := hS 9 (by kernel_rfl)
            change ρ (.tmp 9) = _ at e9
            simp only [execOp]
            go_simp
            exact hK _ _ rfl (Grew.refl _)
          · refine plainG rfl ?_
            intro bA K Q' hK
            have e11 := hS 11 (by kernel_rfl)
            change ρ (.tmp 11) = _ at e11
            simp only [execOp]
            go_simp
            exact hK _ _ rfl (Grew.refl _)
          · refine plainG rfl ?_
            intro bA K Q' hK
            have e74 := hG 6 74 (by decide) (by kernel_rfl) (by kernel_rfl)
            have e75 := hG 7 75 (by decide) (by kernel_rfl) (by kernel_rfl)
            change ρ (.tmp 74) = _ at e74
            change ρ (.tmp 75) = _ at e75
            simp only [execOp]
            go_simp
            exact hK _ _ rfl (Grew.refl _)
          · refine plainG rfl ?_
            intro bA K Q' hK
            have e76 := hG 8 76 (by decide) (by kernel_rfl) (by kernel_rfl)
            change ρ (.tmp 76) = _ at e76
            obtain ⟨y1, y2⟩ := HCE.out w6 ⟨hR.os, hR.tape, hR.output, hR.size, hR.block⟩
            simp only [execOp]
            go_simp
            exact hK _ _ rfl (Grew.refl _)
          · refine plainG rfl ?_
            intro bA K Q' hK
            have e68 := hG 0 68 (by decide) (by kernel_rfl) (by kernel_rfl)
            have e73 := hG 5 73 (by decide) (by kernel_rfl) (by kernel_rfl)
            have e77 := hG 9 77 (by decide) (by kernel_rfl) (by kernel_rfl)
            change ρ (.tmp 68) = _ at e68
            change ρ (.tmp 73) = _ at e73
            change ρ (.tmp 77) = _ at e77
            simp only [execOp]
            go_simp
            refine (HLS.out w6 (HBR.out.trans (Below.mono ⟨hR.os, hR.tape, hR.output, hR.size, hR.block⟩ HBR.out.size))).mono ?_
            rintro r9 w9 ⟨rfl, hb9⟩
            exact hK _ _ rfl hb9
          · refine plainG rfl ?_
            intro bA K Q' hK
            have e78 := hG 10 78 (by decide) (by kernel_rfl) (by kernel_rfl)
            change ρ (.tmp 78) = _ at e78
            simp only [execOp]
            go_simp
            exact hK _ _ rfl (Grew.refl _)
        · intro vv w7 hR hG
          have h9 : vv 11 = .bool false := hG.2
          have hb7 : Below wr.heap.size wr w7 := ⟨hR.os, hR.tape, hR.output, hR.size, hR.block⟩
          have HB7 := hid (HBR.out.trans (hb7.mono HBR.out.size))
          clear hG hR hb7 HCE HLS
          simp [stG, stU, dstAt, Act.put, h9]
          clear h9
          go_wp2_with fail
          go_roundw
          case rel => exact ⟨t + 1, by omega, by have := HLT.out; omega, by have h1 := HLT.out; have h2 : (t : Int) < 100000 := (by omega); go_num, HB7.out⟩
          case measure => simp [intOf]; have := HLT.out; omega
      · have hti : (t < m) = False := eq_false hlt
        have HKN := hid (known16_any ps wr)
        have HB6 := hid (HB5.out.trans (HBR.out.mono HB5.out.size))
        clear hlt
        go_wp2_with fail
        refine HKN.out.mono ?_
        rintro e w7 ⟨rfl, hb⟩
        have HB7 := hid (HB6.out.trans (hb.mono HB6.out.size))
        clear hb HKN HB6
        go_wp2_with fail
        go_ret
        exact ⟨rfl, HB7.out⟩
end Go.Proofs.Ytdobjlaggdnphaa
