/- THE WALK OF 'AlphaBytes', over the program's contracts. -/
import Derived.Test.YtbhpfdpcafdeaaaAfD
import Derived.Test.YtbhpfdpcafdeaaaAfK
import Derived.Deep.DeepCutAuto
import Derived.BigQuiet
import Derived.Deep.QuietTactic
namespace Go.Proofs.Ytbhpfdpcafdeaaa
open Go.RowKit Go.Inc
theorem offU {ops : Array Oper} {ρ : Operand → Value} {o : Oper} {p q : Prop} {j : Nat} {want : Bool} {d : Tmp} (hg : o.guard = some (j, want)) (hd : dstAt ops j = some d) (hv : ρ (.tmp d) = undef) (h : q) : (Wants ops ρ o = true → p) ∧ (Wants ops ρ o = false → q) := by
  unfold Wants
  simp only [hg, hd, hv]
  exact ⟨fun h => (by simp [undef] at h), fun _ => h⟩
theorem puts_short : ∀ l : List Nat, (∀ x ∈ l, x < 18446744073709551616) → ((l.map Var.put).flatten).length ≤ 10 * l.length
  | [], _ => Nat.le_refl _
  | x :: l, h => by
    have h1 := puts_short l fun y hy => h y (List.mem_cons_of_mem _ hy)
    have h2 := Var.put_ten (h x (by simp))
    rw [List.map_cons, List.flatten_cons, List.length_append, List.length_cons]
    omega
theorem listOf_short {l : List Nat} (h : ∀ x ∈ l, x < 18446744073709551616) (hl : l.length ≤ 65536) : (listOf (nZ l)).length ≤ 10 + 10 * l.length := by
  have h1 := puts_short l h
  have h2 := Var.put_ten (n := l.length) (by omega)
  rw [listOf_nZ, List.length_append]
  omega
theorem listOf_bytes (l : List Nat) : Bytes (listOf (nZ l)) := fun x hx => by
  rw [listOf_nZ] at hx
  rcases List.mem_append.1 hx with h | h
  · exact Var.put_bytes _ x h
  · obtain ⟨q, hq, hx⟩ := List.mem_flatten.1 h
    obtain ⟨y, _, rfl⟩ := List.mem_map.1 hq
    exact Var.put_bytes _ x hx
theorem nZ_pos (l : List Nat) : anyNeg (nZ l) = false := by
  unfold anyNeg nZ
  rw [List.any_eq_false]
  intro z hz
  obtain ⟨x, _, rfl⟩ := List.mem_map.1 hz
  simp
theorem listOf_pos (l : List Nat) : listOf (nZ l) = Var.put (nZ l).length ++ puts (nZ l) := by
  unfold listOf
  rw [nZ_pos]; rfl
theorem symT_small (zs : List Int) : ∀ x ∈ symT zs 258, x ≤ 65536 := fun x hx => by have := (symT_lt zs 258 x hx).1; omega
theorem cntT_small {zs : List Int} (hl : zs.length ≤ 65536) : ∀ x ∈ cntT zs 258, x ≤ 65536 := fun x hx => by
  unfold cntT at hx
  obtain ⟨s, _, rfl⟩ := List.mem_map.1 hx
  exact Nat.le_trans List.count_le_length hl
/-- A text's table's bytes are read. -/
theorem table_read {zs : List Int} (h : ∀ z ∈ zs, 0 ≤ z ∧ z < 258) (hl : zs.length ≤ 65536) (rest : List Nat) :
    paE ((listOf (nZ (symT zs 258)) ++ listOf (nZ (cntT zs 258))) ++ rest) = 0 ∧ listVals ((listOf (nZ (symT zs 258)) ++ listOf (nZ (cntT zs 258))) ++ rest) = symT zs 258 ∧
    listVals (listRest ((listOf (nZ (symT zs 258)) ++ listOf (nZ (cntT zs 258))) ++ rest)) = cntT zs 258 ∧ paR ((listOf (nZ (symT zs 258)) ++ listOf (nZ (cntT zs 258))) ++ rest) = rest := by
  rw [List.append_assoc]
  have hsl := symT_len zs 258
  obtain ⟨h1, h2, h3⟩ := listOf_got (symT zs 258) (listOf (nZ (cntT zs 258)) ++ rest) (by omega) (fun x hx => by have := symT_small zs x hx; omega)
  obtain ⟨h4, h5, h6⟩ := listOf_got (cntT zs 258) rest (by rw [cntT_len]; omega) (fun x hx => by have := cntT_small hl x hx; omega)
  refine ⟨?_, h2, by rw [h3, h5], by unfold paR; rw [h3, h6]⟩
  unfold paE
  rw [if_neg (by rw [h1]; decide), h3, if_neg (by rw [h4]; decide), h2, h5, if_pos (paOk_text h hl)]
/-- A slice of these bytes. -/
def SlR (LB : List Nat) (z : World) (u : Value) : Prop := ∃ a c, u = .slice a LB.length c ∧ Sl (fun _ => True) z a LB
theorem SlR.kept {LB : List Nat} {y z : World} {u : Value} (h : SlR LB y u) (hg : Grew y z) : SlR LB z u := by
  obtain ⟨a, c, h1, h2⟩ := h
  exact ⟨a, c, h1, h2.below hg⟩
theorem irow_own {B : Nat} {w : World} {v : Value} {vs : List Nat} (h : IRow B w v vs) : w.ownsRow B 3 1 v vs.length (nvals vs) := h
set_option maxRecDepth 20000 in
set_option maxHeartbeats 8000000 in
/-- What is left of the law behind the table of the text: the table of the bytes. -/
theorem alphaBytes_walk {Tb : World → Nat → List Nat → List Nat → Prop} (pa : PA Tb) (W : World) (a : Option Addr) (c0 : Nat) (zs0 : List Int) (ba : Option Addr) (c : Nat) (bs0 : List Nat) (hz0 : ∀ z ∈ zs0, i64a z) (hs : Si (fun _ => True) W a zs0) (hlc : zs0.length ≤ c0)
    (hby0 : Bytes bs0) (hsl : Sl (fun _ => True) W ba bs0) (hblc : bs0.length ≤ c) (hbcm : c ≤ maxLen) (hbn : ba = none → c = 0) :
    Calls Try.prog 5 #[.slice a zs0.length c0, .slice ba bs0.length c] W fun e w' => e = .returned (.bool true) ∧ Below W.heap.size W w' := by
  obtain ⟨zs, hzs⟩ : ∃ zs, zs = zs0.take 200 := ⟨_, rfl⟩
  obtain ⟨bs, hbs⟩ : ∃ bs, bs = bs0.take 100 := ⟨_, rfl⟩
  obtain ⟨L0, hL0⟩ : ∃ L0, L0 = zs0.length := ⟨_, rfl⟩
  obtain ⟨M0, hM0⟩ : ∃ M0, M0 = zs.length := ⟨_, rfl⟩
  obtain ⟨L, hL⟩ : ∃ L, L = bs0.length := ⟨_, rfl⟩
  obtain ⟨M, hM⟩ : ∃ M, M = bs.length := ⟨_, rfl⟩
  have hmin0 : min (L0 : Int) 200 = (M0 : Int) := by rw [hM0, hzs, List.length_take]; omega
  have hmin : min (L : Int) 100 = (M : Int) := by rw [hM, hbs, List.length_take]; omega
  have hm9 : maxLen ≤ 9223372036854775807 := by unfold maxLen; omega
  have hL00 : (0 : Int) ≤ L0 := by omega
  have hLL0 : (0 : Int) ≤ L := by omega
  have hML0 : (M0 : Int) ≤ L0 := by omega
  have hML : (M : Int) ≤ L := by omega
  have hMd0 : (M0 : Int) ≤ c0 := by omega
  have hMd : (M : Int) ≤ c := by omega
  have hM200 : (M0 : Int) ≤ 200 := by omega
  have hM100 : (M : Int) ≤ 100 := by omega
  have HM0 := hid hM0
  have HM := hid hM
  have HS : Hid (Si (fun i => i < W.heap.size) W a zs) := hid (by rw [hzs]; exact (hs.front 200).mono fun _ _ h => h)
  have HB : Hid (Sl (fun i => i < W.heap.size) W ba bs) := hid (by rw [hbs]; exact (hsl.front 100).mono fun _ _ h => h)
  have HBY : Hid (Bytes bs) := hid (by rw [hbs]; exact hby0.take _)
  have HZI : Hid (∀ z ∈ zs, i64a z) := hid fun z hz => hz0 z (by rw [hzs] at hz; exact List.mem_of_mem_take hz)
  have HC : Hid (M ≤ c ∧ c ≤ maxLen ∧ (ba = none → c = 0)) := hid ⟨by omega, hbcm, hbn⟩
  rw [← hL0, ← hL]
  clear hz0 hs hlc hby0 hsl hblc hbcm hbn hzs hbs hL0 hM0 hL hM hm9
  go_enter Try.func5, Try.ntmps5
  go_wp2_with fail
  go_region
  have HBD : Hid (Below W.heap.size W W.drew) := hid (Below.refl _ _).drew
  generalize W.drew = w0 at *
  have HNW : Hid (Calls Try.prog 15 #[.slice a M0 c0] w0 fun e w' => (∃ (E : Int) (pv : Value), e = .returned (.tuple #[pv, .int .i64 E]) ∧ ((E = 0 ∧ (∀ z ∈ zs, 0 ≤ z ∧ z < 258) ∧ ∃ b, pv = .pointer (some ⟨b, 0, none⟩) ∧ Tb w' b (symT zs 258) (cntT zs 258)) ∨ (E = 10 ∧ pv = .pointer none))) ∧ Below w0.heap.size w0 w') := hid (by
    rw [HM0.out]
    by_cases h : ∀ z ∈ zs, 0 ≤ z ∧ z < 258
    · refine (pa.pNew _ w0 a c0 zs (HS.out.below HBD.out) (by rw [← HM0.out]; omega) h).mono ?_
      rintro e w' ⟨b, rfl, h1, h2⟩
      exact ⟨⟨0, _, rfl, .inl ⟨rfl, h, b, rfl, h1⟩⟩, h2⟩
    · refine (pa.pNewBad _ w0 a c0 zs (HS.out.below HBD.out) (by rw [← HM0.out]; omega) HZI.out h).mono ?_
      rintro e w' ⟨rfl, h2⟩
      exact ⟨⟨10, _, rfl, .inr ⟨rfl, rfl⟩⟩, h2⟩)
  go_wp2_with fail
  refine HNW.out.mono ?_
  rintro e w1 ⟨⟨E, pv, rfl, hE⟩, hb1⟩
  have HB1 := hid (HBD.out.trans (hb1.mono HBD.out.size))
  clear hb1 HNW HBD
  go_upto_if 39 with fail
  go_cut [] from 5 (fun wc => Below W.heap.size W wc)
  case first =>
    rcases hE with ⟨rfl, hgd, b, rfl, htb⟩ | ⟨rfl, rfl⟩
    · have HGD := hid hgd
      have HTB1 := hid htb
      have HRT := hid (refTable_any _ w1 a c0 zs (HS.out.below HB1.out) (by rw [← HM0.out]; omega))
      rw [← HM0.out] at HRT
      clear hgd htb
      go_wp2_with fail
      refine HRT.out.mono ?_
      rintro e w2 ⟨us, uc, rfl, hus, huc, hb2⟩
      obtain ⟨a5, c1, huse, -, -, -, -, hsi5⟩ := Si.ownedN hus
      obtain ⟨a6, c2, huce, -, -, -, -, hsi6⟩ := Si.ownedN huc
      have HB2 := hid (HB1.out.trans (hb2.mono HB1.out.size))
      have HTB2 := hid (pa.below HTB1.out hb2)
      obtain ⟨ss, hsse⟩ : ∃ ss, ss = symT zs 258 := ⟨_, rfl⟩
      obtain ⟨cs, hcse⟩ : ∃ cs, cs = cntT zs 258 := ⟨_, rfl⟩
      have HSE := hid hsse
      have HCE := hid hcse
      rw [← hsse] at huse hsi5 HTB2
      rw [← hcse] at huce hsi6 HTB2
      have hsn : ss.length ≤ 258 := by rw [hsse]; exact symT_len zs 258
      have hcn : cs.length ≤ 258 := by rw [hcse, cntT_len]; exact symT_len zs 258
      have hsv : ∀ x ∈ ss, x ≤ 65536 := by rw [hsse]; exact symT_small zs
      have hcv : ∀ x ∈ cs, x ≤ 65536 := by rw [hcse]; exact cntT_small (by rw [← HM0.out]; omega)
      have HSI6 := hid hsi6
      have HLS := hid (refList_any _ a5 c1 (nZ ss) w2 hsi5 (by rw [nZ_len]; omega) (fun z hz => by
        unfold nZ at hz
        obtain ⟨x, hx, rfl⟩ := List.mem_map.1 hz
        have := hsv x hx; omega) (nZ_pos ss))
      rw [← listOf_pos] at HLS
      have HLC := hid (fun (z : World) (hz : Below w2.heap.size w2 z) => refList_any _ a6 c2 (nZ cs) z (hsi6.below hz) (by rw [nZ_len]; omega) (fun z hz => by
        unfold nZ at hz
        obtain ⟨x, hx, rfl⟩ := List.mem_map.1 hz
        have := hcv x hx; omega) (nZ_pos cs))
      rw [← listOf_pos] at HLC
      rw [nZ_len] at HLS HLC
      obtain ⟨LA, hLA⟩ : ∃ LA, LA = listOf (nZ ss) := ⟨_, rfl⟩
      obtain ⟨LC, hLC⟩ : ∃ LC, LC = listOf (nZ cs) := ⟨_, rfl⟩
      rw [← hLA] at HLS
      rw [← hLC] at HLC
      have HLAL : Hid (LA.length ≤ 2600 ∧ LC.length ≤ 2600) := hid ⟨by
        have := listOf_short (l := ss) (fun x hx => by have := hsv x hx; omega) (by omega)
        rw [hLA]; omega, by
        have := listOf_short (l := cs) (fun x hx => by have := hcv x hx; omega) (by omega)
        rw [hLC]; omega⟩
      obtain ⟨WT, hWT⟩ : ∃ WT, WT = LA ++ LC := ⟨_, rfl⟩
      have HWB : Hid (Bytes WT) := hid (by rw [hWT, hLA, hLC]; exact (listOf_bytes ss).append (listOf_bytes cs))
      have HWL : Hid (WT.length = LA.length + LC.length) := hid (by rw [hWT, List.length_append])
      have HTR := hid (table_read HGD.out (by rw [← HM0.out]; omega) bs)
      rw [← HSE.out, ← HCE.out, ← hLA, ← hLC, ← hWT] at HTR
      have HWT := hid hWT
      have HBT : Hid (∀ z, Tb z b ss cs → Calls Try.prog 29 #[.pointer (some ⟨b, 0, none⟩)] z fun e w' => ∃ u cu, e = .returned (.slice u WT.length cu) ∧ Sl (fun g => z.heap.size ≤ g) w' u WT ∧ Below z.heap.size z w') := hid fun z hz => by
        have h := pa.pBytes z b ss cs hz
        rw [← hLA, ← hLC, ← hWT] at h
        exact h
      have HBT2 : Hid (∀ z b, Tb z b ss cs → Calls Try.prog 29 #[.pointer (some ⟨b, 0, none⟩)] z fun e w' => ∃ u cu, e = .returned (.slice u WT.length cu) ∧ Sl (fun g => z.heap.size ≤ g) w' u WT ∧ Below z.heap.size z w') := hid fun z b hz => by
        have h := pa.pBytes z b ss cs hz
        rw [← hLA, ← hLC, ← hWT] at h
        exact h
      obtain ⟨ns, hns⟩ : ∃ ns, ns = ss.length := ⟨_, rfl⟩
      obtain ⟨nc, hnc⟩ : ∃ nc, nc = cs.length := ⟨_, rfl⟩
      rw [← hns] at HLS huse
      rw [← hnc] at HLC huce
      rw [huse, huce]
      clear hus huc hb2 huse huce hsi5 hsi6 hsse hcse hsn hcn hsv hcv hLA hLC hWT hns hnc HRT HB1 HTB1 HSI6
      go_wp2_with fail
      refine HLS.out.mono ?_
      rintro e w3 ⟨r1, rfl, hr1, hb3⟩
      have HR1 := hid hr1
      have HB23 := hid hb3
      have HB3 := hid (HB2.out.trans (hb3.mono HB2.out.size))
      have HLC3 := hid (HLC.out w3 hb3)
      have HTB3 := hid (pa.below HTB2.out hb3)
      clear hr1 hb3 HLS HLC
      go_wp2_with fail
      refine HLC3.out.mono ?_
      rintro e w4 ⟨r2, rfl, hr2, hb4⟩
      have HR14 := hid (HR1.out.kept hb4)
      have HB4 := hid (HB3.out.trans (hb4.mono HB3.out.size))
      have HTB4 := hid (pa.below HTB3.out hb4)
      obtain ⟨a4, c4, rfl, hn4, -, -, hs4⟩ := hr2.sl
      have HS4 := hid hs4
      have HN4 : Hid (a4 = none → LC.length = 0) := hid (fun h => hs4.some_len h)
      obtain ⟨n4, hn4e⟩ : ∃ n4, n4 = LC.length := ⟨_, rfl⟩
      rw [← hn4e]
      have HNE := hid hn4e
      have HB24 := hid (HB23.out.trans (hb4.mono HB23.out.size))
      have HX4 : Hid (∀ ad, a4 = some ad → ∀ j u, (u8s LC)[j]? = some u → w4.cell? (ad.add j) = some u) := hid hs4.cells
      clear hr2 hb4 hs4 hn4 hn4e HLC3 HR1 HTB3 HB23 HB3
      go_wp2_with (refine wpList_append_any rfl (.tmp 46) (.tmp 48) 49 rfl w2.heap.size 5 (.int .u8 0) 1 Try.underlying49 infoU8 rfl _ _ _ rfl HR14.out a4 n4 c4 (u8s LC) rfl (by rw [u8s_length]; exact HNE.out.symm) (by intro h; rw [HNE.out]; exact HN4.out h) HX4.out (u8s_one LC) (by have := HLAL.out; have := HNE.out; unfold maxLen; omega) (by have := HLAL.out; have := HNE.out; omega) HB24.out.size ?_)
      intro v5 w5 hv5 hg5 _
      have hr5 : Row 5 w2.heap.size w5 v5 WT := by rw [HWT.out]; exact row_more hv5 rfl HNE.out
      have HR5 := hid hr5
      have hb5 := below_owned (w0 := w2) HB24.out HR14.out (Nat.le_refl _) hg5
      have HB5 := hid (HB2.out.trans (hb5.mono HB2.out.size))
      have hb45 : Mv (fun i => w2.heap.size ≤ i) w4 w5 := Mv.of_grown hg5 fun g hgg _ => by
        rcases HR14.out.2 with ⟨e, _⟩ | ⟨g', cap, cur, e, h1, _⟩
        · rw [e] at hgg; cases hgg
        · rw [e] at hgg
          have : g' = g := by simpa [Value.ownBlock] using hgg
          omega
      have HTB5 := hid (pa.below HTB2.out hb5)
      obtain ⟨a5', c5', hv5e, hn5, -, -, hs5⟩ := hr5.sl
      have HN5 : Hid (a5' = none → WT.length = 0) := hid (fun h => hs5.some_len h)
      obtain ⟨nw, hnw⟩ : ∃ nw, nw = WT.length := ⟨_, rfl⟩
      have HNW := hid hnw
      rw [← hnw] at hv5e
      rw [hv5e]
      have hb6 : Below w5.heap.size w5 (w5.alloc (.cells #[] 5)) := (Below.refl _ _).alloc (Nat.le_refl _) _
      have HL6 : Hid ((w5.alloc (.cells #[] 5)).ownsRow w5.heap.size 5 1 (.slice (some ⟨w5.heap.size, 0, none⟩) 0 0) 0 (u8s [])) := hid (World.ownsRow_lit w5 #[] 0 (Nat.le_refl _) (Nat.zero_le _) rfl)
      have HX6 : Hid (∀ ad, a5' = some ad → ∀ j u, (u8s WT)[j]? = some u → (w5.alloc (.cells #[] 5)).cell? (ad.add j) = some u) := hid (hs5.below hb6).cells
      have HB56 := hid hb6
      have HS5 := hid hs5
      clear hv5 hg5 hr5 hb5 hb45 hn5 hs5 hnw hv5e hb6 HR14 HB24 HX4 HTB4 HTB2 HB2 HB4 HS4 HN4
      go_wp2_with (refine wpList_append_any rfl (.tmp 51) (.tmp 52) 49 rfl w5.heap.size 5 (.int .u8 0) 1 Try.underlying49 infoU8 rfl _ 0 (u8s []) rfl HL6.out a5' nw c5' (u8s WT) rfl (by rw [u8s_length]; exact HNW.out.symm) (by intro h; rw [HNW.out]; exact HN5.out h) HX6.out (u8s_one WT) (by have := HLAL.out; have := HNW.out; have := HWL.out; unfold maxLen; omega) (by have := HLAL.out; have := HNW.out; have := HWL.out; omega) (by simp) ?_)
      intro v7 w7 hv7 hg7 _
      have hr7 : Row 5 w5.heap.size w7 v7 WT := by
        show w7.ownsRow w5.heap.size _ 1 v7 WT.length (u8s WT)
        rw [← HNW.out]
        exact hv7
      have HR7 := hid hr7
      have hb7 := below_owned (w0 := w5) HB56.out HL6.out (Nat.le_refl _) hg7
      have HB57 := hid hb7
      have HX7 : Hid (∀ ad, ba = some ad → ∀ j u, (u8s bs)[j]? = some u → w7.cell? (ad.add j) = some u) := hid (HB.out.below (HB5.out.trans (hb7.mono HB5.out.size))).cells
      have HBN : Hid (ba = none → M = 0) := hid fun h => by rw [HM.out]; exact HB.out.some_len h
      clear hv7 hg7 hr7 hb7 HL6 HX6 HB56
      go_wp2_with (refine wpList_append_any rfl (.tmp 53) (.tmp 54) 49 rfl w5.heap.size 5 (.int .u8 0) 1 Try.underlying49 infoU8 rfl _ _ _ rfl HR7.out ba M c (u8s bs) rfl (by rw [u8s_length]; exact HM.out.symm) HBN.out HX7.out (u8s_one bs) (by have := HLAL.out; have := HWL.out; unfold maxLen; omega) (by have := HLAL.out; have := HWL.out; omega) HB57.out.size ?_)
      intro v8 w8 hv8 hg8 _
      have hr8 : Row 5 w5.heap.size w8 v8 (WT ++ bs) := row_more hv8 rfl HM.out
      have hb8 := below_owned (w0 := w5) HB57.out HR7.out (Nat.le_refl _) hg8
      have HB8 := hid (HB5.out.trans (hb8.mono HB5.out.size))
      have HTB8 := hid (pa.below HTB5.out hb8)
      have HS8 := hid (HS5.out.below hb8)
      obtain ⟨a8, c8, rfl, hn8, hl8, hm8, hs8⟩ := hr8.sl
      have hpar := pa.pParse _ w8 a8 c8 (WT ++ bs) hs8 ⟨hl8, hm8⟩ hn8 (HWB.out.append HBY.out) (by rw [List.length_append, ← HM.out]; have := HLAL.out; have := HWL.out; omega) HTR.out.1
      rw [HTR.out.2.1, HTR.out.2.2.1, HTR.out.2.2.2] at hpar
      have HPAR := hid hpar
      obtain ⟨n8, hn8e⟩ : ∃ n8, n8 = (WT ++ bs).length := ⟨_, rfl⟩
      rw [← hn8e] at HPAR ⊢
      rw [← HM.out] at HPAR
      clear hv8 hg8 hr8 hb8 hn8 hl8 hm8 hs8 hpar hn8e HR7 HX7 HB57 HB5 HTB5
      go_wp2_with fail
      refine HPAR.out.mono ?_
      rintro e w9 ⟨b9, u9, c9, rfl, htb9, hs9, hb9⟩
      have HB9 := hid (HB8.out.trans (hb9.mono HB8.out.size))
      have HT9 := hid (pa.below HTB8.out hb9)
      have HT29 := hid htb9
      have HSR9 := hid hs9
      have HS9 := hid (HS8.out.below hb9)
      clear htb9 hs9 hb9 HPAR HB8 HTB8 HS8
      go_wp2_with fail
      refine (HBT.out w9 HT9.out).mono ?_
      rintro e w10 ⟨u10, c10, rfl, hs10, hb10⟩
      have HB10 := hid (HB9.out.trans (hb10.mono HB9.out.size))
      have HT210 := hid (pa.below HT29.out hb10)
      have HSR10 := hid (HSR9.out.below hb10)
      have HS10 := hid (HS9.out.below hb10)
      have HSM := hid (same_any _ _ u10 a5' c10 c5' WT WT w10 hs10 HS10.out (by have := HLAL.out; have := HWL.out; omega))
      rw [decide_eq_true rfl, ← HNW.out] at HSM
      rw [← HNW.out]
      clear hs10 hb10 HB9 HT29 HSR9 HS9 HT9
      go_wp2_with fail
      refine HSM.out.mono ?_
      rintro e w11 ⟨rfl, hb11⟩
      have HB11 := hid (HB10.out.trans (hb11.mono HB10.out.size))
      have HT211 := hid (pa.below HT210.out hb11)
      have HSR11 := hid (HSR10.out.below hb11)
      have HS11 := hid (HS10.out.below hb11)
      clear hb11 HB10 HT210 HSR10 HS10 HSM
      go_wp2_with fail
      refine (HBT2.out w11 b9 HT211.out).mono ?_
      rintro e w12 ⟨u12, c12, rfl, hs12, hb12⟩
      have HB12 := hid (HB11.out.trans (hb12.mono HB11.out.size))
      have HSR12 := hid (HSR11.out.below hb12)
      have HS12 := hid (HS11.out.below hb12)
      have HSM := hid (same_any _ _ u12 a5' c12 c5' WT WT w12 hs12 HS12.out (by have := HLAL.out; have := HWL.out; omega))
      rw [decide_eq_true rfl, ← HNW.out] at HSM
      rw [← HNW.out]
      clear hs12 hb12 HB11 HT211 HSR11 HS11
      go_wp2_with fail
      refine HSM.out.mono ?_
      rintro e w13 ⟨rfl, hb13⟩
      have HB13 := hid (HB12.out.trans (hb13.mono HB12.out.size))
      have HSR13 := hid (HSR12.out.below hb13)
      have HSM := hid (same_any _ _ u9 ba c9 c bs bs w13 HSR13.out (HB.out.below HB13.out) (by rw [← HM.out]; omega))
      rw [decide_eq_true rfl, ← HM.out] at HSM
      clear hb13 HB12 HSR12 HS12
      go_wp2_with fail
      refine HSM.out.mono ?_
      rintro e w14 ⟨rfl, hb14⟩
      have HB14 := hid (HB13.out.trans (hb14.mono HB13.out.size))
      clear hb14 HB13 HSR13 HSM
      go_wp2_with fail
      go_meet
      exact HB14.out
    · go_wp2_with fail
      go_meet
      exact HB1.out
  case rest =>
    have HB1 := hid hcut
    clear hcut hE
    have HS1 := hid (HB.out.below HB1.out)
    obtain ⟨D, hD⟩ : ∃ D, D = paE bs := ⟨_, rfl⟩
    have HPP : Hid (Calls Try.prog 27 #[.slice ba M c] wc fun e w' => (∃ pv u, e = .returned (.tuple #[pv, u, .int .i64 (D : Int)]) ∧ (D = 0 → ∃ b2 ur cr, pv = .pointer (some ⟨b2, 0, none⟩) ∧ u = .slice ur (paR bs).length cr ∧ Tb w' b2 (listVals bs) (listVals (listRest bs)) ∧ Sl (fun _ => True) w' ur (paR bs)) ∧ (D ≠ 0 → pv = .pointer none)) ∧ Below wc.heap.size wc w') := hid (by
      rw [HM.out, hD]
      by_cases h : paE bs = 0
      · refine (pa.pParse _ wc ba c bs HS1.out (by rw [← HM.out]; exact ⟨HC.out.1, HC.out.2.1⟩) HC.out.2.2 HBY.out (by rw [← HM.out]; omega) h).mono ?_
        rintro e w' ⟨b2, ur, cr, rfl, h1, h2, h3⟩
        exact ⟨⟨_, _, by rw [h]; rfl, fun _ => ⟨b2, ur, cr, rfl, rfl, h1, h2.mono fun _ _ _ => trivial⟩, fun hn => absurd h hn⟩, h3⟩
      · refine (pa.pParseBad _ wc ba c bs HS1.out (by rw [← HM.out]; exact ⟨HC.out.1, HC.out.2.1⟩) HC.out.2.2 HBY.out (by rw [← HM.out]; omega) h).mono ?_
        rintro e w' ⟨u, rfl, h1⟩
        exact ⟨⟨_, u, rfl, fun hn => absurd hn h, fun _ => rfl⟩, h1⟩)
    have HDD := hid hD
    clear hD
    go_wp2_with fail
    refine HPP.out.mono ?_
    rintro e w2 ⟨⟨pv, u, rfl, hd0, hd1⟩, hb2⟩
    have HB2 := hid (HB1.out.trans (hb2.mono HB1.out.size))
    have HD0 := hid hd0
    have HD1 := hid hd1
    have HGL := hid (getList_any _ ba c bs w2 (HB.out.below HB2.out) (by rw [← HM.out]; exact ⟨HC.out.1, HC.out.2.1⟩) HC.out.2.2 HBY.out (by rw [← HM.out]; omega))
    rw [← HM.out] at HGL
    obtain ⟨E1, hE1⟩ : ∃ E1, E1 = listErr bs := ⟨_, rfl⟩
    rw [← hE1] at HGL
    have HE1 := hid hE1
    clear hb2 hd0 hd1 HPP HB1 HS1 hE1
    go_wp2_with fail
    refine HGL.out.mono ?_
    rintro e w3 ⟨⟨us, vl, rfl, hus, hvl⟩, hb3⟩
    have HB3 := hid (HB2.out.trans (hb3.mono HB2.out.size))
    have HKN := hid (fun w => known14_any pa w)
    by_cases h1 : E1 = 0
    · subst h1
      obtain ⟨al, cl1, rfl, hln, hlc, hlm, hlsl⟩ := hvl.sl
      have hby2 := list_bytesA HBY.out
      have hrl := list_restA HBY.out
      have HGL2 := hid (fun (z : World) (hz : Below w3.heap.size w3 z) => getList_any _ al cl1 (listRest bs) z (hlsl.below hz) ⟨hlc, hlm⟩ hln hby2 (by rw [← HM.out] at hrl; omega))
      obtain ⟨E2, hE2⟩ : ∃ E2, E2 = listErr (listRest bs) := ⟨_, rfl⟩
      rw [← hE2] at HGL2
      have HE2 := hid hE2
      have HGL3 := hid (HGL2.out w3 (Below.refl _ _))
      have HUS := hid (irow_own hus)
      obtain ⟨l2, hl2⟩ : ∃ l2, l2 = (listRest bs).length := ⟨_, rfl⟩
      rw [← hl2] at HGL3 ⊢
      have HTD3 : Hid (D = 0 → ∃ b2 ur cr, pv = .pointer (some ⟨b2, 0, none⟩) ∧ u = .slice ur (paR bs).length cr ∧ Tb w3 b2 (listVals bs) (listVals (listRest bs)) ∧ Sl (fun _ => True) w3 ur (paR bs)) := hid fun h => by
        obtain ⟨b2, ur, cr, g1, g2, g3, g4⟩ := HD0.out h
        exact ⟨b2, ur, cr, g1, g2, pa.below g3 hb3, g4.below hb3⟩
      clear hus hvl hb3 hln hlc hlm hlsl hby2 hrl hE2 hl2 HGL HGL2 HB2 HD0
      go_wp2_with fail
      refine HGL3.out.mono ?_
      rintro e w4 ⟨⟨uc, vr, rfl, huc, hvr⟩, hb4⟩
      have HB4 := hid (HB3.out.trans (hb4.mono HB3.out.size))
      by_cases h2 : E2 = 0
      · subst h2
        obtain ⟨ss, hss⟩ : ∃ ss, ss = listVals bs := ⟨_, rfl⟩
        obtain ⟨cs, hcs⟩ : ∃ cs, cs = listVals (listRest bs) := ⟨_, rfl⟩
        have hus4 : w4.ownsRow w2.heap.size 3 1 us ss.length (nvals ss) := by rw [hss]; exact owns_mv (F := fun _ => False) HUS.out (Mv.of_below hb4) fun _ _ => id
        have huc4 : w4.ownsRow w3.heap.size 3 1 uc cs.length (nvals cs) := by rw [hcs]; exact irow_own huc
        have HTD4 : Hid (D = 0 → ∃ b2 ur cr, pv = .pointer (some ⟨b2, 0, none⟩) ∧ u = .slice ur (paR bs).length cr ∧ Tb w4 b2 ss cs ∧ Sl (fun _ => True) w4 ur (paR bs)) := hid fun h => by
          obtain ⟨b2, ur, cr, g1, g2, g3, g4⟩ := HTD3.out h
          rw [hss, hcs]
          exact ⟨b2, ur, cr, g1, g2, pa.below g3 hb4, g4.below hb4⟩
        have HDP : Hid (D = if paOk ss cs then 0 else 3) := hid (by
          rw [HDD.out, hss, hcs]
          unfold paE
          rw [if_neg (by rw [← HE1.out]; decide), if_neg (by rw [← HE2.out]; decide)])
        have hsl5 : ss.length ≤ 65536 := by rw [hss]; exact list_lenA
        have hcl5 : cs.length ≤ 65536 := by rw [hcs]; exact list_lenA
        have hcv5 : ∀ x ∈ cs, x ≤ 9223372036854775807 := by rw [hcs]; exact list_leA _
        obtain ⟨a5, c1, hu5⟩ := own_slice hus4
        obtain ⟨a6, c2, hu6⟩ := own_slice huc4
        obtain ⟨al4, cl, hvr4, -, -, -, hsl4⟩ := hvr.sl
        have HSR := hid hsl4
        have HUS4 := hid hus4
        have HUC4 := hid huc4
        obtain ⟨S, hS⟩ : ∃ S, S = ss.length := ⟨_, rfl⟩
        obtain ⟨Sc, hSc⟩ : ∃ Sc, Sc = cs.length := ⟨_, rfl⟩
        have HSS := hid hS
        have HSSE := hid hss
        have HCSE := hid hcs
        have HSC := hid hSc
        have HCV := hid hcv5
        rw [← hS] at hu5 HUS4
        rw [← hSc] at hu6 HUC4
        obtain ⟨lr, hlr⟩ : ∃ lr, lr = (paR bs).length := ⟨_, rfl⟩
        have HLR := hid hlr
        have hlr2 : (listRest (listRest bs)).length = lr := hlr.symm
        rw [hlr2] at hvr4
        subst hu5 hu6 hvr4
        obtain ⟨K0, hK0⟩ : ∃ K0, K0 = decide (S = Sc) := ⟨_, rfl⟩
        have hK0i : ((S : Int) == (Sc : Int)) = K0 := by rw [hK0, Bool.eq_iff_iff]; simp; omega
        have HSB : Hid (S ≤ 65536) := hid (by omega)
        have HK0 : Hid (K0 = true → S = Sc) := hid fun h => by rw [hK0] at h; exact of_decide_eq_true h
        have HK0F : Hid (K0 = false → ¬ paOk ss cs) := hid fun h => by
          rw [hK0] at h
          have h5 := of_decide_eq_false h
          intro h6
          exact h5 (by rw [hS, hSc]; exact h6.1)
        clear huc hvr hb4 hus4 huc4 hsl5 hcl5 hcv5 hsl4 hS hSc hlr hlr2 hss hcs hK0 HGL3 HB3 HUS HTD3
        go_wp2_with fail
        go_loopw [20, 21, 22] (fun o n i wr => ∃ (K : Bool) (nv t : Nat), o = .bool K ∧ n = .int .i64 (nv : Int) ∧ i = .int .i64 (t : Int) ∧ t ≤ S ∧ nv ≤ 65536 ∧ (K = true → S = Sc ∧ (∀ j, j < t → paI ss cs j = true) ∧ nv = (cs.take t).sum) ∧ (K = false → ¬ paOk ss cs) ∧ Below w4.heap.size w4 wr) (fun _ _ i _ => S - (intOf i).toNat)
        case atStart => exact ⟨K0, 0, 0, rfl, rfl, rfl, Nat.zero_le _, Nat.zero_le _, fun h => ⟨HK0.out h, fun j hj => by omega, rfl⟩, HK0F.out, Below.refl _ _⟩
        case round =>
          clear HK0 HK0F hK0i
          obtain ⟨K, nv, t, rfl, rfl, rfl, ht, hnv, hkt, hkf, hb⟩ := hrel
          have HBR := hid hb
          cases K with
          | false =>
            have HNP := hid (hkf rfl)
            have HD3 : Hid (D = 3) := hid (by rw [HDP.out, if_neg HNP.out])
            have hpv := HD1.out (by rw [HD3.out]; decide)
            subst hpv
            rw [HD3.out]
            have HB5 := hid (HB4.out.trans (HBR.out.mono HB4.out.size))
            have HK5 := hid (HKN.out wr)
            clear hkt hkf hb HBR HB4
            go_wp2_with fail
            refine HK5.out.mono ?_
            rintro e w6 ⟨rfl, hb6⟩
            have HB6 := hid (HB5.out.trans (hb6.mono HB5.out.size))
            clear hb6 HB5 HK5
            go_wp2_with fail
            go_ret
            exact ⟨rfl, HB6.out⟩
          | true =>
            have HKT := hid (hkt rfl)
            have hSSc := HKT.out.1
            subst hSSc
            by_cases hSt : t < S
            · obtain ⟨gs, c1', he1, -, -⟩ := own_here HUS4.out (by omega)
              obtain ⟨gc, c2', he2, -, -⟩ := own_here HUC4.out (by omega)
              simp only [Value.slice.injEq, true_and] at he1 he2
              obtain ⟨rfl, rfl⟩ := he1
              obtain ⟨rfl, rfl⟩ := he2
              have hSt2 : (t : Int) < (S : Int) := by omega
              have hStT : (t < S) = True := eq_true hSt
              have HT1 : Hid (t + 1 ≤ S) := hid hSt
              have HNV : Hid (nv ≤ 65536) := hid hnv
              have husr := owns_mv (F := fun _ => False) HUS4.out (Mv.of_below hb) fun _ _ => id
              have hucr := owns_mv (F := fun _ => False) HUC4.out (Mv.of_below hb) fun _ _ => id
              obtain ⟨sy, hsyE⟩ : ∃ sy, sy = ss.getD t 0 := ⟨_, rfl⟩
              obtain ⟨cn, hcnE⟩ : ∃ cn, cn = cs.getD t 0 := ⟨_, rfl⟩
              have k1 : wr.cell? ⟨gs, t, none⟩ = some (.int .i64 (sy : Int)) := by
                have h1 := husr.cells (g := gs) rfl t _ (nvals_get (by rw [← HSS.out]; exact hSt))
                rw [Addr.add_lit, ← hsyE] at h1
                simpa only [Nat.zero_add] using h1
              have k2 : wr.cell? ⟨gc, t, none⟩ = some (.int .i64 (cn : Int)) := by
                have h1 := hucr.cells (g := gc) rfl t _ (nvals_get (by rw [← HSC.out]; exact hSt))
                rw [Addr.add_lit, ← hcnE] at h1
                simpa only [Nat.zero_add] using h1
              have hcn9 : cn ≤ 9223372036854775807 := HCV.out cn (by rw [hcnE]; exact getD_mem' (by rw [← HSC.out]; exact hSt))
              have hsum := sum_take_le cs t (by rw [← HSC.out]; exact hSt)
              obtain ⟨rr, hrr⟩ : ∃ rr, rr = 65536 - nv := ⟨_, rfl⟩
              have hri : (65536 : Int) - (nv : Int) = (rr : Int) := by omega
              have hrw : IntKind.i64.wrap (rr : Int) = (rr : Int) := by rw [IntKind.wrap_i64]; omega
              have hnw : nv = (cs.take t).sum := HKT.out.2.2
              obtain ⟨t1, ht1⟩ : ∃ t1, t1 = t - 1 := ⟨_, rfl⟩
              obtain ⟨pv2, hpvE⟩ : ∃ pv2, pv2 = ss.getD (t - 1) 0 := ⟨_, rfl⟩
              obtain ⟨qa, hqa⟩ : ∃ qa, qa = decide (sy < 258) := ⟨_, rfl⟩
              obtain ⟨z, hz⟩ : ∃ z, z = decide (t = 0) := ⟨_, rfl⟩
              obtain ⟨qp, hqp⟩ : ∃ qp, qp = decide (pv2 < sy) := ⟨_, rfl⟩
              obtain ⟨qc, hqc⟩ : ∃ qc, qc = decide (0 < cn) := ⟨_, rfl⟩
              obtain ⟨qd, hqd⟩ : ∃ qd, qd = decide (cn ≤ rr) := ⟨_, rfl⟩
              obtain ⟨qe, hqe⟩ : ∃ qe, qe = (qa && (z || qp)) := ⟨_, rfl⟩
              obtain ⟨qf, hqf⟩ : ∃ qf, qf = (qe && qc) := ⟨_, rfl⟩
              obtain ⟨qg, hqg⟩ : ∃ qg, qg = (qf && qd) := ⟨_, rfl⟩
              have HQE := hid hqe
              have HQF := hid hqf
              have HQG := hid hqg
              have hG : qg = paI ss cs t := by
                rw [hqg, hqf, hqe, hqa, hz, hqp, hqc, hqd, Bool.eq_iff_iff]
                unfold paI
                simp only [Bool.and_eq_true, Bool.or_eq_true, decide_eq_true_iff, ← hsyE, ← hcnE, ← hpvE, ← hnw]
                constructor
                · rintro ⟨⟨⟨g1, g2⟩, g3⟩, g4⟩; exact ⟨g1, g2, g3, by omega⟩
                · rintro ⟨g1, g2, g3, g4⟩; exact ⟨⟨⟨g1, g2⟩, g3⟩, by omega⟩
              have HGG := hid hG
              have HNOT : Hid (qg = false → ¬ paOk ss cs) := hid fun h h2 => by
                have h3 := h2.2 t (by rw [← HSS.out]; exact hSt)
                rw [← hG, h] at h3
                cases h3
              have HSUMT := hid hsum
              have HN2 : Hid (qg = true → nv + cn ≤ 65536 ∧ nv + cn = (cs.take (t + 1)).sum) := hid fun h => by
                rw [hG] at h
                unfold paI at h
                rw [decide_eq_true_iff, ← hcnE, ← hnw] at h
                exact ⟨h.2.2.2, by rw [hnw, hcnE]; exact hsum⟩
              have HT1I : Hid (z = false → (t : Int) - 1 = (t1 : Int)) := hid fun h => by
                rw [hz] at h
                have := of_decide_eq_false h
                omega
              have HZ1 : Hid (z = false → (t1 : Int) < (S : Int)) := hid fun h => by omega
              have HC : Hid (∀ y, Grew wr.drew y → y.cell? ⟨gs, t, none⟩ = some (.int .i64 (sy : Int)) ∧ y.cell? ⟨gc, t, none⟩ = some (.int .i64 (cn : Int)) ∧ (z = false → y.cell? ⟨gs, t1, none⟩ = some (.int .i64 (pv2 : Int)))) := hid fun y hy => by
                have hby : Below wr.heap.size wr y := ⟨hy.os, hy.tape, hy.output, hy.size, hy.block⟩
                refine ⟨by rw [World.cell?_of_block (hby.block gs (cell_lt k1))]; exact k1, by rw [World.cell?_of_block (hby.block gc (cell_lt k2))]; exact k2, fun h => ?_⟩
                have h1 := (owns_mv (F := fun _ => False) husr (Mv.of_below hby) fun _ _ => id).cells (g := gs) rfl t1 _ (nvals_get (by rw [← HSS.out]; omega))
                rw [Addr.add_lit] at h1
                rw [hpvE, ← ht1]
                simpa only [Nat.zero_add] using h1
              have htw : IntKind.i64.wrap ((t : Int) + 1) = (t : Int) + 1 := by rw [IntKind.wrap_i64]; have := HSB.out; omega
              have ht1w : IntKind.i64.wrap (t1 : Int) = (t1 : Int) := by rw [IntKind.wrap_i64]; have := HSB.out; omega
              have q1 : decide ((sy : Int) < 258) = qa := by rw [hqa, decide_eq_decide]; omega
              have q1n : decide (sy < 258) = qa := hqa.symm
              have q2 : ((t : Int) == 0) = z := by rw [hz, Bool.eq_iff_iff]; simp
              have q2n : (t == 0) = z := by rw [hz, Bool.eq_iff_iff]; simp
              have q2m : decide (t = 0) = z := hz.symm
              have q3 : decide ((pv2 : Int) < (sy : Int)) = qp := by rw [hqp, decide_eq_decide]; omega
              have q3n : decide (pv2 < sy) = qp := hqp.symm
              have q4 : decide ((0 : Int) < (cn : Int)) = qc := by rw [hqc, decide_eq_decide]; omega
              have q4n : decide (0 < cn) = qc := hqc.symm
              have q5 : decide ((cn : Int) ≤ (rr : Int)) = qd := by rw [hqd, decide_eq_decide]; omega
              have q5n : decide (cn ≤ rr) = qd := hqd.symm
              obtain ⟨nv2, hnv2⟩ : ∃ nv2, nv2 = nv + cn := ⟨_, rfl⟩
              have hn2i : (nv : Int) + (cn : Int) = (nv2 : Int) := by omega
              rw [← hnv2] at HN2
              clear hb hkt hkf husr hucr hsyE hcnE hnv hcn9 hsum hrr hnw ht1 hpvE hqa hz hqp hqc hqd hqe hqf hqg hG hSt k1 k2 hnv2
              go_wp2_with fail
              refine wp_region_grows 38 [EqN (.slice (some ⟨gs, 0, none⟩) S c1), EqN (.int .i64 (t : Int)), EqN (.pointer (some ⟨gs, t, none⟩)), EqN (.int .i64 (sy : Int)), EqN (.bool qa), EqN (.bool qa), (fun _ v => qa = true → v = .int .i64 (t : Int)), (fun _ v => qa = true → v = .bool z), (fun _ v => (qa = true → v = .bool z) ∧ (qa = false → v = undef)), (fun _ v => qa = true → z = false → v = .slice (some ⟨gs, 0, none⟩) S c1), (fun _ v => qa = true → z = false → v = .int .i64 (t : Int)), (fun _ v => qa = true → z = false → v = .int .i64 (t1 : Int)), (fun _ v => qa = true → z = false → v = .pointer (some ⟨gs, t1, none⟩)), (fun _ v => qa = true → z = false → v = .int .i64 (pv2 : Int)), (fun _ v => qa = true → z = false → v = .slice (some ⟨gs, 0, none⟩) S c1), (fun _ v => qa = true → z = false → v = .int .i64 (t : Int)), (fun _ v => qa = true → z = false → v = .pointer (some ⟨gs, t, none⟩)), (fun _ v => qa = true → z = false → v = .int .i64 (sy : Int)), (fun _ v => qa = true → z = false → v = .bool qp), (fun _ v => qa = true → v = .bool (z || qp)), EqN (.bool qe), EqN (.bool qe), (fun _ v => qe = true → v = .slice (some ⟨gc, 0, none⟩) S c2), (fun _ v => qe = true → v = .int .i64 (t : Int)), (fun _ v => qe = true → v = .pointer (some ⟨gc, t, none⟩)), (fun _ v => qe = true → v = .int .i64 (cn : Int)), (fun _ v => qe = true → v = .bool qc), EqN (.bool qf), EqN (.bool qf), (fun _ v => qf = true → v = .slice (some ⟨gc, 0, none⟩) S c2), (fun _ v => qf = true → v = .int .i64 (t : Int)), (fun _ v => qf = true → v = .pointer (some ⟨gc, t, none⟩)), (fun _ v => qf = true → v = .int .i64 (cn : Int)), (fun _ v => qf = true → v = .int .i64 (nv : Int)), (fun _ v => qf = true → v = .int .i64 (rr : Int)), (fun _ v => qf = true → v = .bool qd), EqN (.bool qg), EqN (.bool qg)] (by kernel_rfl) (by decide) (by kernel_rfl) ?_ ?_ ?_
              · repeat' (first | exact List.forall_mem_nil _ | refine List.forall_mem_cons.2 ⟨?_, ?_⟩)
                all_goals
                  intro w w' v hw h
                  exact h
              · simp only [AllLt]
                refine ⟨⟨⟨⟨⟨⟨⟨⟨⟨⟨⟨⟨⟨⟨⟨⟨⟨⟨⟨⟨⟨⟨⟨⟨⟨⟨⟨⟨⟨⟨⟨⟨⟨⟨⟨⟨⟨⟨trivial, ?_⟩, ?_⟩, ?_⟩, ?_⟩, ?_⟩, ?_⟩, ?_⟩, ?_⟩, ?_⟩, ?_⟩, ?_⟩, ?_⟩, ?_⟩, ?_⟩, ?_⟩, ?_⟩, ?_⟩, ?_⟩, ?_⟩, ?_⟩, ?_⟩, ?_⟩, ?_⟩, ?_⟩, ?_⟩, ?_⟩, ?_⟩, ?_⟩, ?_⟩, ?_⟩, ?_⟩, ?_⟩, ?_⟩, ?_⟩, ?_⟩, ?_⟩, ?_⟩, ?_⟩
                all_goals
                  intro o' ho
                  simp at ho
                  subst ho
                  intro ρ w5 hR hL hS hG
                  obtain ⟨hl1, hl2, -⟩ := hL
                · refine plainG rfl ?_
                  intro bA K Q' hK
                  have e16 := hS 16 (by kernel_rfl)
                  change ρ (.tmp 16) = _ at e16
                  simp only [execOp]
                  go_simp
                  exact hK _ _ (rfl) (Grew.refl _)
                · refine plainG rfl ?_
                  intro bA K Q' hK
                  have e22 := hS 22 (by kernel_rfl)
                  change ρ (.tmp 22) = _ at e22
                  simp only [execOp]
                  go_simp
                  exact hK _ _ (rfl) (Grew.refl _)
                · refine plainG rfl ?_
                  intro bA K Q' hK
                  have e138 := hG 0 138 (by decide) (by kernel_rfl) (by kernel_rfl)
                  change ρ (.tmp 138) = _ at e138
                  have e139 := hG 1 139 (by decide) (by kernel_rfl) (by kernel_rfl)
                  change ρ (.tmp 139) = _ at e139
                  simp only [execOp]
                  go_simp
                  exact hK _ _ (rfl) (Grew.refl _)
                · refine plainG rfl ?_
                  intro bA K Q' hK
                  have e140 := hG 2 140 (by decide) (by kernel_rfl) (by kernel_rfl)
                  change ρ (.tmp 140) = _ at e140
                  obtain ⟨y1, y2, y3⟩ := HC.out w5 hR
                  simp only [execOp]
                  go_simp
                  exact hK _ _ (rfl) (Grew.refl _)
                · refine plainG rfl ?_
                  intro bA K Q' hK
                  have e141 := hG 3 141 (by decide) (by kernel_rfl) (by kernel_rfl)
                  change ρ (.tmp 141) = _ at e141
                  simp only [execOp]
                  go_simp
                  exact hK _ _ (rfl) (Grew.refl _)
                · refine plainG rfl ?_
                  intro bA K Q' hK
                  have e142 := hG 4 142 (by decide) (by kernel_rfl) (by kernel_rfl)
                  change ρ (.tmp 142) = _ at e142
                  simp only [execOp]
                  go_simp
                  exact hK _ _ (rfl) (Grew.refl _)
                · have eG : ρ (.tmp 143) = _ := hG 5 143 (by decide) (by kernel_rfl) (by kernel_rfl)
                  cases qa with
                  | false => exact offG rfl (by kernel_rfl) eG rfl (fun h => by cases h)
                  | true =>
                    refine onG rfl (by kernel_rfl) eG ?_
                    intro bA K Q' hK
                    have e22 := hS 22 (by kernel_rfl)
                    change ρ (.tmp 22) = _ at e22
                    simp only [execOp]
                    go_simp
                    exact hK _ _ (fun _ => rfl) (Grew.refl _)
                · have eG : ρ (.tmp 143) = _ := hG 5 143 (by decide) (by kernel_rfl) (by kernel_rfl)
                  cases qa with
                  | false => exact offG rfl (by kernel_rfl) eG rfl (fun h => by cases h)
                  | true =>
                    refine onG rfl (by kernel_rfl) eG ?_
                    intro bA K Q' hK
                    have e144 : ρ (.tmp 144) = _ := (hG 6 144 (by decide) (by kernel_rfl) (by kernel_rfl)) rfl
                    simp only [execOp]
                    go_simp
                    exact hK _ _ (fun _ => rfl) (Grew.refl _)
                · have eG : ρ (.tmp 143) = _ := hG 5 143 (by decide) (by kernel_rfl) (by kernel_rfl)
                  cases qa with
                  | false => exact offG rfl (by kernel_rfl) eG rfl (⟨(fun h => by cases h), fun _ => rfl⟩)
                  | true =>
                    refine onG rfl (by kernel_rfl) eG ?_
                    intro bA K Q' hK
                    have e145 : ρ (.tmp 145) = _ := (hG 7 145 (by decide) (by kernel_rfl) (by kernel_rfl)) rfl
                    simp only [execOp]
                    go_simp
                    exact hK _ _ (⟨fun _ => rfl, (fun h => by cases h)⟩) (Grew.refl _)
                · have eG := hG 8 146 (by decide) (by kernel_rfl) (by kernel_rfl)
                  cases qa with
                  | false => exact offU rfl (by kernel_rfl) (show ρ (.tmp 146) = undef from eG.2 rfl) (fun h => by cases h)
                  | true =>
                    cases z with
                    | true => exact offG rfl (by kernel_rfl) (show ρ (.tmp 146) = .bool true from eG.1 rfl) rfl (fun _ h => by cases h)
                    | false =>
                      refine onG rfl (by kernel_rfl) (show ρ (.tmp 146) = .bool false from eG.1 rfl) ?_
                      intro bA K Q' hK
                      have e16 := hS 16 (by kernel_rfl)
                      change ρ (.tmp 16) = _ at e16
                      simp only [execOp]
                      go_simp
                      exact hK _ _ (fun _ _ => rfl) (Grew.refl _)
                · have eG := hG 8 146 (by decide) (by kernel_rfl) (by kernel_rfl)
                  cases qa with
                  | false => exact offU rfl (by kernel_rfl) (show ρ (.tmp 146) = undef from eG.2 rfl) (fun h => by cases h)
                  | true =>
                    cases z with
                    | true => exact offG rfl (by kernel_rfl) (show ρ (.tmp 146) = .bool true from eG.1 rfl) rfl (fun _ h => by cases h)
                    | false =>
                      refine onG rfl (by kernel_rfl) (show ρ (.tmp 146) = .bool false from eG.1 rfl) ?_
                      intro bA K Q' hK
                      have e22 := hS 22 (by kernel_rfl)
                      change ρ (.tmp 22) = _ at e22
                      simp only [execOp]
                      go_simp
                      exact hK _ _ (fun _ _ => rfl) (Grew.refl _)
                · have eG := hG 8 146 (by decide) (by kernel_rfl) (by kernel_rfl)
                  cases qa with
                  | false => exact offU rfl (by kernel_rfl) (show ρ (.tmp 146) = undef from eG.2 rfl) (fun h => by cases h)
                  | true =>
                    cases z with
                    | true => exact offG rfl (by kernel_rfl) (show ρ (.tmp 146) = .bool true from eG.1 rfl) rfl (fun _ h => by cases h)
                    | false =>
                      refine onG rfl (by kernel_rfl) (show ρ (.tmp 146) = .bool false from eG.1 rfl) ?_
                      intro bA K Q' hK
                      have e148 : ρ (.tmp 148) = _ := (hG 10 148 (by decide) (by kernel_rfl) (by kernel_rfl)) rfl rfl
                      have ht1 := HT1I.out rfl
                      simp only [execOp]
                      go_simp
                      exact hK _ _ (fun _ _ => rfl) (Grew.refl _)
                · have eG := hG 8 146 (by decide) (by kernel_rfl) (by kernel_rfl)
                  cases qa with
                  | false => exact offU rfl (by kernel_rfl) (show ρ (.tmp 146) = undef from eG.2 rfl) (fun h => by cases h)
                  | true =>
                    cases z with
                    | true => exact offG rfl (by kernel_rfl) (show ρ (.tmp 146) = .bool true from eG.1 rfl) rfl (fun _ h => by cases h)
                    | false =>
                      refine onG rfl (by kernel_rfl) (show ρ (.tmp 146) = .bool false from eG.1 rfl) ?_
                      intro bA K Q' hK
                      have e147 : ρ (.tmp 147) = _ := (hG 9 147 (by decide) (by kernel_rfl) (by kernel_rfl)) rfl rfl
                      have e149 : ρ (.tmp 149) = _ := (hG 11 149 (by decide) (by kernel_rfl) (by kernel_rfl)) rfl rfl
                      have hz1 := HZ1.out rfl
                      simp only [execOp]
                      go_simp
                      exact hK _ _ (fun _ _ => rfl) (Grew.refl _)
                · have eG := hG 8 146 (by decide) (by kernel_rfl) (by kernel_rfl)
                  cases qa with
                  | false => exact offU rfl (by kernel_rfl) (show ρ (.tmp 146) = undef from eG.2 rfl) (fun h => by cases h)
                  | true =>
                    cases z with
                    | true => exact offG rfl (by kernel_rfl) (show ρ (.tmp 146) = .bool true from eG.1 rfl) rfl (fun _ h => by cases h)
                    | false =>
                      refine onG rfl (by kernel_rfl) (show ρ (.tmp 146) = .bool false from eG.1 rfl) ?_
                      intro bA K Q' hK
                      have e150 : ρ (.tmp 150) = _ := (hG 12 150 (by decide) (by kernel_rfl) (by kernel_rfl)) rfl rfl
                      obtain ⟨y1, y2, y3⟩ := HC.out w5 hR
                      have y3 := y3 rfl
                      simp only [execOp]
                      go_simp
                      exact hK _ _ (fun _ _ => rfl) (Grew.refl _)
                · have eG := hG 8 146 (by decide) (by kernel_rfl) (by kernel_rfl)
                  cases qa with
                  | false => exact offU rfl (by kernel_rfl) (show ρ (.tmp 146) = undef from eG.2 rfl) (fun h => by cases h)
                  | true =>
                    cases z with
                    | true => exact offG rfl (by kernel_rfl) (show ρ (.tmp 146) = .bool true from eG.1 rfl) rfl (fun _ h => by cases h)
                    | false =>
                      refine onG rfl (by kernel_rfl) (show ρ (.tmp 146) = .bool false from eG.1 rfl) ?_
                      intro bA K Q' hK
                      have e16 := hS 16 (by kernel_rfl)
                      change ρ (.tmp 16) = _ at e16
                      simp only [execOp]
                      go_simp
                      exact hK _ _ (fun _ _ => rfl) (Grew.refl _)
                · have eG := hG 8 146 (by decide) (by kernel_rfl) (by kernel_rfl)
                  cases qa with
                  | false => exact offU rfl (by kernel_rfl) (show ρ (.tmp 146) = undef from eG.2 rfl) (fun h => by cases h)
                  | true =>
                    cases z with
                    | true => exact offG rfl (by kernel_rfl) (show ρ (.tmp 146) = .bool true from eG.1 rfl) rfl (fun _ h => by cases h)
                    | false =>
                      refine onG rfl (by kernel_rfl) (show ρ (.tmp 146) = .bool false from eG.1 rfl) ?_
                      intro bA K Q' hK
                      have e22 := hS 22 (by kernel_rfl)
                      change ρ (.tmp 22) = _ at e22
                      simp only [execOp]
                      go_simp
                      exact hK _ _ (fun _ _ => rfl) (Grew.refl _)
                · have eG := hG 8 146 (by decide) (by kernel_rfl) (by kernel_rfl)
                  cases qa with
                  | false => exact offU rfl (by kernel_rfl) (show ρ (.tmp 146) = undef from eG.2 rfl) (fun h => by cases h)
                  | true =>
                    cases z with
                    | true => exact offG rfl (by kernel_rfl) (show ρ (.tmp 146) = .bool true from eG.1 rfl) rfl (fun _ h => by cases h)
                    | false =>
                      refine onG rfl (by kernel_rfl) (show ρ (.tmp 146) = .bool false from eG.1 rfl) ?_
                      intro bA K Q' hK
                      have e152 : ρ (.tmp 152) = _ := (hG 14 152 (by decide) (by kernel_rfl) (by kernel_rfl)) rfl rfl
                      have e153 : ρ (.tmp 153) = _ := (hG 15 153 (by decide) (by kernel_rfl) (by kernel_rfl)) rfl rfl
                      simp only [execOp]
                      go_simp
                      exact hK _ _ (fun _ _ => rfl) (Grew.refl _)
                · have eG := hG 8 146 (by decide) (by kernel_rfl) (by kernel_rfl)
                  cases qa with
                  | false => exact offU rfl (by kernel_rfl) (show ρ (.tmp 146) = undef from eG.2 rfl) (fun h => by cases h)
                  | true =>
                    cases z with
                    | true => exact offG rfl (by kernel_rfl) (show ρ (.tmp 146) = .bool true from eG.1 rfl) rfl (fun _ h => by cases h)
                    | false =>
                      refine onG rfl (by kernel_rfl) (show ρ (.tmp 146) = .bool false from eG.1 rfl) ?_
                      intro bA K Q' hK
                      have e154 : ρ (.tmp 154) = _ := (hG 16 154 (by decide) (by kernel_rfl) (by kernel_rfl)) rfl rfl
                      obtain ⟨y1, y2, y3⟩ := HC.out w5 hR
                      simp only [execOp]
                      go_simp
                      exact hK _ _ (fun _ _ => rfl) (Grew.refl _)
                · have eG := hG 8 146 (by decide) (by kernel_rfl) (by kernel_rfl)
                  cases qa with
                  | false => exact offU rfl (by kernel_rfl) (show ρ (.tmp 146) = undef from eG.2 rfl) (fun h => by cases h)
                  | true =>
                    cases z with
                    | true => exact offG rfl (by kernel_rfl) (show ρ (.tmp 146) = .bool true from eG.1 rfl) rfl (fun _ h => by cases h)
                    | false =>
                      refine onG rfl (by kernel_rfl) (show ρ (.tmp 146) = .bool false from eG.1 rfl) ?_
                      intro bA K Q' hK
                      have e151 : ρ (.tmp 151) = _ := (hG 13 151 (by decide) (by kernel_rfl) (by kernel_rfl)) rfl rfl
                      have e155 : ρ (.tmp 155) = _ := (hG 17 155 (by decide) (by kernel_rfl) (by kernel_rfl)) rfl rfl
                      simp only [execOp]
                      go_simp
                      exact hK _ _ (fun _ _ => rfl) (Grew.refl _)
                · have eG : ρ (.tmp 143) = _ := hG 5 143 (by decide) (by kernel_rfl) (by kernel_rfl)
                  cases qa with
                  | false => exact offG rfl (by kernel_rfl) eG rfl (fun h => by cases h)
                  | true =>
                    refine onG rfl (by kernel_rfl) eG ?_
                    intro bA K Q' hK
                    have e146 : ρ (.tmp 146) = _ := (hG 8 146 (by decide) (by kernel_rfl) (by kernel_rfl)).1 rfl
                    cases z with
                    | false =>
                      have e156 : ρ (.tmp 156) = _ := (hG 18 156 (by decide) (by kernel_rfl) (by kernel_rfl)) rfl rfl
                      simp only [execOp]
                      go_simp
                      exact hK _ _ (fun _ => rfl) (Grew.refl _)
                    | true =>
                      simp only [execOp]
                      go_simp
                      exact hK _ _ (fun _ => rfl) (Grew.refl _)
                · refine plainG rfl ?_
                  intro bA K Q' hK
                  have e143 := hG 5 143 (by decide) (by kernel_rfl) (by kernel_rfl)
                  change ρ (.tmp 143) = _ at e143
                  cases qa with
                  | false =>
                    obtain rfl : qe = false := by rw [HQE.out]; rfl
                    simp only [execOp]
                    go_simp
                    exact hK _ _ rfl (Grew.refl _)
                  | true =>
                    have e157 : ρ (.tmp 157) = _ := (hG 19 157 (by decide) (by kernel_rfl) (by kernel_rfl)) rfl
                    obtain rfl : qe = (z || qp) := by rw [HQE.out]; rfl
                    simp only [execOp]
                    go_simp
                    exact hK _ _ rfl (Grew.refl _)
                · refine plainG rfl ?_
                  intro bA K Q' hK
                  have e158 := hG 20 158 (by decide) (by kernel_rfl) (by kernel_rfl)
                  change ρ (.tmp 158) = _ at e158
                  simp only [execOp]
                  go_simp
                  exact hK _ _ (rfl) (Grew.refl _)
                · have eG : ρ (.tmp 159) = _ := hG 21 159 (by decide) (by kernel_rfl) (by kernel_rfl)
                  cases qe with
                  | false => exact offG rfl (by kernel_rfl) eG rfl (fun h => by cases h)
                  | true =>
                    refine onG rfl (by kernel_rfl) eG ?_
                    intro bA K Q' hK
                    have e19 := hS 19 (by kernel_rfl)
                    change ρ (.tmp 19) = _ at e19
                    simp only [execOp]
                    go_simp
                    exact hK _ _ (fun _ => rfl) (Grew.refl _)
                · have eG : ρ (.tmp 159) = _ := hG 21 159 (by decide) (by kernel_rfl) (by kernel_rfl)
                  cases qe with
                  | false => exact offG rfl (by kernel_rfl) eG rfl (fun h => by cases h)
                  | true =>
                    refine onG rfl (by kernel_rfl) eG ?_
                    intro bA K Q' hK
                    have e22 := hS 22 (by kernel_rfl)
                    change ρ (.tmp 22) = _ at e22
                    simp only [execOp]
                    go_simp
                    exact hK _ _ (fun _ => rfl) (Grew.refl _)
                · have eG : ρ (.tmp 159) = _ := hG 21 159 (by decide) (by kernel_rfl) (by kernel_rfl)
                  cases qe with
                  | false => exact offG rfl (by kernel_rfl) eG rfl (fun h => by cases h)
                  | true =>
                    refine onG rfl (by kernel_rfl) eG ?_
                    intro bA K Q' hK
                    have e160 : ρ (.tmp 160) = _ := (hG 22 160 (by decide) (by kernel_rfl) (by kernel_rfl)) rfl
                    have e161 : ρ (.tmp 161) = _ := (hG 23 161 (by decide) (by kernel_rfl) (by kernel_rfl)) rfl
                    simp only [execOp]
                    go_simp
                    exact hK _ _ (fun _ => rfl) (Grew.refl _)
                · have eG : ρ (.tmp 159) = _ := hG 21 159 (by decide) (by kernel_rfl) (by kernel_rfl)
                  cases qe with
                  | false => exact offG rfl (by kernel_rfl) eG rfl (fun h => by cases h)
                  | true =>
                    refine onG rfl (by kernel_rfl) eG ?_
                    intro bA K Q' hK
                    have e162 : ρ (.tmp 162) = _ := (hG 24 162 (by decide) (by kernel_rfl) (by kernel_rfl)) rfl
                    obtain ⟨y1, y2, y3⟩ := HC.out w5 hR
                    simp only [execOp]
                    go_simp
                    exact hK _ _ (fun _ => rfl) (Grew.refl _)
                · have eG : ρ (.tmp 159) = _ := hG 21 159 (by decide) (by kernel_rfl) (by kernel_rfl)
                  cases qe with
                  | false => exact offG rfl (by kernel_rfl) eG rfl (fun h => by cases h)
                  | true =>
                    refine onG rfl (by kernel_rfl) eG ?_
                    intro bA K Q' hK
                    have e163 : ρ (.tmp 163) = _ := (hG 25 163 (by decide) (by kernel_rfl) (by kernel_rfl)) rfl
                    simp only [execOp]
                    go_simp
                    exact hK _ _ (fun _ => rfl) (Grew.refl _)
                · refine plainG rfl ?_
                  intro bA K Q' hK
                  have e159 := hG 21 159 (by decide) (by kernel_rfl) (by kernel_rfl)
                  change ρ (.tmp 159) = _ at e159
                  cases qe with
                  | false =>
                    obtain rfl : qf = false := by rw [HQF.out]; rfl
                    simp only [execOp]
                    go_simp
                    exact hK _ _ rfl (Grew.refl _)
                  | true =>
                    have e164 : ρ (.tmp 164) = _ := (hG 26 164 (by decide) (by kernel_rfl) (by kernel_rfl)) rfl
                    obtain rfl : qf = qc := by rw [HQF.out]; rfl
                    simp only [execOp]
                    go_simp
                    exact hK _ _ rfl (Grew.refl _)
                · refine plainG rfl ?_
                  intro bA K Q' hK
                  have e165 := hG 27 165 (by decide) (by kernel_rfl) (by kernel_rfl)
                  change ρ (.tmp 165) = _ at e165
                  simp only [execOp]
                  go_simp
                  exact hK _ _ (rfl) (Grew.refl _)
                · have eG : ρ (.tmp 166) = _ := hG 28 166 (by decide) (by kernel_rfl) (by kernel_rfl)
                  cases qf with
                  | false => exact offG rfl (by kernel_rfl) eG rfl (fun h => by cases h)
                  | true =>
                    refine onG rfl (by kernel_rfl) eG ?_
                    intro bA K Q' hK
                    have e19 := hS 19 (by kernel_rfl)
                    change ρ (.tmp 19) = _ at e19
                    simp only [execOp]
                    go_simp
                    exact hK _ _ (fun _ => rfl) (Grew.refl _)
                · have eG : ρ (.tmp 166) = _ := hG 28 166 (by decide) (by kernel_rfl) (by kernel_rfl)
                  cases qf with
                  | false => exact offG rfl (by kernel_rfl) eG rfl (fun h => by cases h)
                  | true =>
                    refine onG rfl (by kernel_rfl) eG ?_
                    intro bA K Q' hK
                    have e22 := hS 22 (by kernel_rfl)
                    change ρ (.tmp 22) = _ at e22
                    simp only [execOp]
                    go_simp
                    exact hK _ _ (fun _ => rfl) (Grew.refl _)
                · have eG : ρ (.tmp 166) = _ := hG 28 166 (by decide) (by kernel_rfl) (by kernel_rfl)
                  cases qf with
                  | false => exact offG rfl (by kernel_rfl) eG rfl (fun h => by cases h)
                  | true =>
                    refine onG rfl (by kernel_rfl) eG ?_
                    intro bA K Q' hK
                    have e167 : ρ (.tmp 167) = _ := (hG 29 167 (by decide) (by kernel_rfl) (by kernel_rfl)) rfl
                    have e168 : ρ (.tmp 168) = _ := (hG 30 168 (by decide) (by kernel_rfl) (by kernel_rfl)) rfl
                    simp only [execOp]
                    go_simp
                    exact hK _ _ (fun _ => rfl) (Grew.refl _)
                · have eG : ρ (.tmp 166) = _ := hG 28 166 (by decide) (by kernel_rfl) (by kernel_rfl)
                  cases qf with
                  | false => exact offG rfl (by kernel_rfl) eG rfl (fun h => by cases h)
                  | true =>
                    refine onG rfl (by kernel_rfl) eG ?_
                    intro bA K Q' hK
                    have e169 : ρ (.tmp 169) = _ := (hG 31 169 (by decide) (by kernel_rfl) (by kernel_rfl)) rfl
                    obtain ⟨y1, y2, y3⟩ := HC.out w5 hR
                    simp only [execOp]
                    go_simp
                    exact hK _ _ (fun _ => rfl) (Grew.refl _)
                · have eG : ρ (.tmp 166) = _ := hG 28 166 (by decide) (by kernel_rfl) (by kernel_rfl)
                  cases qf with
                  | false => exact offG rfl (by kernel_rfl) eG rfl (fun h => by cases h)
                  | true =>
                    refine onG rfl (by kernel_rfl) eG ?_
                    intro bA K Q' hK
                    have e21 := hS 21 (by kernel_rfl)
                    change ρ (.tmp 21) = _ at e21
                    simp only [execOp]
                    go_simp
                    exact hK _ _ (fun _ => rfl) (Grew.refl _)
                · have eG : ρ (.tmp 166) = _ := hG 28 166 (by decide) (by kernel_rfl) (by kernel_rfl)
                  cases qf with
                  | false => exact offG rfl (by kernel_rfl) eG rfl (fun h => by cases h)
                  | true =>
                    refine onG rfl (by kernel_rfl) eG ?_
                    intro bA K Q' hK
                    have e171 : ρ (.tmp 171) = _ := (hG 33 171 (by decide) (by kernel_rfl) (by kernel_rfl)) rfl
                    simp only [execOp]
                    go_simp
                    exact hK _ _ (fun _ => rfl) (Grew.refl _)
                · have eG : ρ (.tmp 166) = _ := hG 28 166 (by decide) (by kernel_rfl) (by kernel_rfl)
                  cases qf with
                  | false => exact offG rfl (by kernel_rfl) eG rfl (fun h => by cases h)
                  | true =>
                    refine onG rfl (by kernel_rfl) eG ?_
                    intro bA K Q' hK
                    have e170 : ρ (.tmp 170) = _ := (hG 32 170 (by decide) (by kernel_rfl) (by kernel_rfl)) rfl
                    have e172 : ρ (.tmp 172) = _ := (hG 34 172 (by decide) (by kernel_rfl) (by kernel_rfl)) rfl
                    simp only [execOp]
                    go_simp
                    exact hK _ _ (fun _ => rfl) (Grew.refl _)
                · refine plainG rfl ?_
                  intro bA K Q' hK
                  have e166 := hG 28 166 (by decide) (by kernel_rfl) (by kernel_rfl)
                  change ρ (.tmp 166) = _ at e166
                  cases qf with
                  | false =>
                    obtain rfl : qg = false := by rw [HQG.out]; rfl
                    simp only [execOp]
                    go_simp
                    exact hK _ _ rfl (Grew.refl _)
                  | true =>
                    have e173 : ρ (.tmp 173) = _ := (hG 35 173 (by decide) (by kernel_rfl) (by kernel_rfl)) rfl
                    obtain rfl : qg = qd := by rw [HQG.out]; rfl
                    simp only [execOp]
                    go_simp
                    exact hK _ _ rfl (Grew.refl _)
                · refine plainG rfl ?_
                  intro bA K Q' hK
                  have e174 := hG 36 174 (by decide) (by kernel_rfl) (by kernel_rfl)
                  change ρ (.tmp 174) = _ at e174
                  simp only [execOp]
                  go_simp
                  exact hK _ _ (rfl) (Grew.refl _)
              · intro vv w5 hR hGv
                have h37 : vv 37 = .bool qg := hGv.2
                have hb5 : Below wr.heap.size wr w5 := ⟨hR.os, hR.tape, hR.output, hR.size, hR.block⟩
                have HB5 := hid (HBR.out.trans (hb5.mono HBR.out.size))
                obtain ⟨k1, k2, -⟩ := HC.out w5 hR
                clear hGv hR hb5 HC HBR q1 q1n q2 q2n q2m q3 q3n q4 q4n q5 q5n
                simp [stG, stU, dstAt, Act.put, h37]
                clear h37
                cases qg with
                | false =>
                  go_wp2_with fail
                  go_roundw
                  case rel => exact ⟨false, nv, t + 1, rfl, rfl, by go_num, HT1.out, HNV.out, (fun h => by cases h), fun _ => HNOT.out rfl, HB5.out⟩
                  case measure => simp [intOf]; have := HT1.out; omega
                | true =>
                  have hn2w : IntKind.i64.wrap (nv2 : Int) = (nv2 : Int) := by rw [IntKind.wrap_i64]; have := (HN2.out rfl).1; omega
                  have HALLT : Hid (∀ j, j < t + 1 → paI ss cs j = true) := hid fun j hj => by
                    by_cases e : j = t
                    · subst e; exact HGG.out.symm
                    · exact HKT.out.2.1 j (by omega)
                  go_wp2_with fail
                  go_roundw
                  case rel => exact ⟨true, nv2, t + 1, rfl, rfl, by go_num, HT1.out, (HN2.out rfl).1, fun _ => ⟨HKT.out.1, HALLT.out, (HN2.out rfl).2⟩, (fun h => by cases h), HB5.out⟩
                  case measure => simp [intOf]; have := HT1.out; omega
            · have hSt2 : (t < S) = False := eq_false hSt
              have htS : t = S := by omega
              have HPO : Hid (paOk ss cs) := hid ⟨by rw [← HSS.out, ← HSC.out], fun i hi => HKT.out.2.1 i (by rw [htS, HSS.out]; exact hi)⟩
              have HD3 : Hid (D = 0) := hid (by rw [HDP.out, if_pos HPO.out])
              obtain ⟨b2, ur, cr, hpv, hu, htb, hsur⟩ := HTD4.out HD3.out
              rw [← HLR.out] at hu
              subst hpv hu
              have hD0 := HD3.out
              subst hD0
              have HCAN : Hid ((listOf (nZ ss) ++ listOf (nZ cs)) ++ paR bs = bs) := hid (by
                have h := paR_canon HBY.out HDD.out.symm
                rw [← HSSE.out, ← HCSE.out] at h
                exact h)
              obtain ⟨LB, hLB⟩ : ∃ LB, LB = listOf (nZ ss) ++ listOf (nZ cs) := ⟨_, rfl⟩
              rw [← hLB] at HCAN
              obtain ⟨kb, hkb⟩ : ∃ kb, kb = LB.length := ⟨_, rfl⟩
              have HLB : Hid (LB.length = kb) := hid hkb.symm
              have hML2 : M = kb + lr := by
                have h := congrArg List.length HCAN.out
                rw [List.length_append, ← hkb, ← HLR.out, ← HM.out] at h
                omega
              have hki : (M : Int) - (lr : Int) = (kb : Int) := by omega
              have hkw : IntKind.i64.wrap (kb : Int) = (kb : Int) := by rw [IntKind.wrap_i64]; omega
              have hkM : (kb : Int) ≤ (M : Int) := by omega
              have hkc : (kb : Int) ≤ (c : Int) := by omega
              have HTK : Hid (bs.take kb = LB) := hid (by
                conv => lhs; rw [← HCAN.out]
                rw [hkb, List.take_left])
              have hnvs : cs.sum = nv := by rw [HKT.out.2.2, List.take_of_length_le (by rw [← HSC.out]; omega)]
              have hbw := HBR.out
              have HB5 := hid (HB4.out.trans (HBR.out.mono HB4.out.size))
              have hgb : ∀ z, Grew wr.drew z → Below wr.heap.size wr z := fun z hz => ⟨hz.os, hz.tape, hz.output, hz.size, hz.block⟩
              have HTBZ : Hid (∀ z, Grew wr.drew z → Tb z b2 ss cs) := hid fun z hz => pa.below (pa.below htb hbw) (hgb z hz)
              have HKZ : Hid (∀ z, Grew wr.drew z → Calls Try.prog 14 #[] z fun e w' => e = .returned (.bool true) ∧ Below z.heap.size z w') := hid fun z _ => known14_any pa z
              have HLEN : Hid (∀ z, Grew wr.drew z → Calls Try.prog 18 #[.pointer (some ⟨b2, 0, none⟩)] z fun e w' => e = .returned (.int .i64 (nv : Int)) ∧ Below z.heap.size z w') := hid fun z hz => by
                have h := pa.pLen z b2 ss cs (HTBZ.out z hz)
                rw [hnvs] at h
                exact h
              have HSIG : Hid (∀ z, Grew wr.drew z → Calls Try.prog 17 #[.pointer (some ⟨b2, 0, none⟩)] z fun e w' => e = .returned (.int .i64 (S : Int)) ∧ Below z.heap.size z w') := hid fun z hz => by
                have h := pa.pSigma z b2 ss cs (HTBZ.out z hz)
                rw [← HSS.out] at h
                exact h
              have HSAM : Hid (∀ z, Grew wr.drew z → Calls Try.prog 28 #[.slice ur lr cr, .slice al4 lr cl] z fun e w' => e = .returned (.bool true) ∧ Below z.heap.size z w') := hid fun z hz => by
                have h := same_any _ _ ur al4 cr cl (paR bs) (paR bs) z ((hsur.below hbw).below (hgb z hz)) ((HSR.out.below hbw).below (hgb z hz)) (by rw [← HLR.out]; omega)
                rw [decide_eq_true rfl, ← HLR.out] at h
                exact h
              have HBYT : Hid (∀ z, Grew wr.drew z → Calls Try.prog 29 #[.pointer (some ⟨b2, 0, none⟩)] z fun e w' => ∃ u9 c9, e = .returned (.slice u9 LB.length c9) ∧ Sl (fun _ => True) w' u9 LB ∧ Below z.heap.size z w') := hid fun z hz => by
                refine (pa.pBytes z b2 ss cs (HTBZ.out z hz)).mono ?_
                rintro e w' ⟨u9, c9, rfl, h1, h2⟩
                rw [hLB]
                exact ⟨u9, c9, rfl, h1.mono fun _ _ _ => trivial, h2⟩
              have HSA2 : Hid (∀ z, Grew wr.drew z → ∀ u9 c9, Sl (fun _ => True) z u9 LB → Calls Try.prog 28 #[.slice u9 kb c9, .slice ba kb c] z fun e w' => e = .returned (.bool true) ∧ Below z.heap.size z w') := hid fun z hz u9 c9 hs9 => by
                have hb9 := ((HB.out.below HB5.out).below (hgb z hz)).front kb
                rw [HTK.out] at hb9
                have h := same_any _ _ u9 ba c9 c LB LB z hs9 hb9 (by rw [HLB.out]; omega)
                rw [decide_eq_true rfl, HLB.out] at h
                exact h
              clear hkt hkf hb htb hsur hLB hkb hML2 hnvs hbw hgb htS HTBZ hSt HTD4 HD1
              go_wp2_with fail
              refine wp_region_grows 35 [EqN (.bool true), EqN (.bool true), EqN (.int .i64 0), EqN (.bool true), EqN (.bool true), EqN (.bool true), EqN (.pointer (some ⟨b2, 0, none⟩)), EqN (.int .i64 (nv : Int)), EqN (.int .i64 (nv : Int)), EqN (.bool true), EqN (.bool true), EqN (.bool true), EqN (.pointer (some ⟨b2, 0, none⟩)), EqN (.int .i64 (S : Int)), EqN (.slice a5 S c1), EqN (.int .i64 (S : Int)), EqN (.bool true), EqN (.bool true), EqN (.bool true), EqN (.slice ur lr cr), EqN (.slice al4 lr cl), EqN (.bool true), EqN (.bool true), EqN (.bool true), EqN (.pointer (some ⟨b2, 0, none⟩)), SlR LB, EqN (.slice ba M c), EqN (.slice ba M c), EqN (.int .i64 (M : Int)), EqN (.slice ur lr cr), EqN (.int .i64 (lr : Int)), EqN (.int .i64 (kb : Int)), EqN (.slice ba kb c), EqN (.bool true), EqN (.bool true)] (by kernel_rfl) (by decide) (by kernel_rfl) ?_ ?_ ?_
              · repeat' (first | exact List.forall_mem_nil _ | refine List.forall_mem_cons.2 ⟨?_, ?_⟩)
                all_goals
                  intro w w' v hw h
                  first | exact h | exact SlR.kept h hw
              · simp only [AllLt]
                refine ⟨⟨⟨⟨⟨⟨⟨⟨⟨⟨⟨⟨⟨⟨⟨⟨⟨⟨⟨⟨⟨⟨⟨⟨⟨⟨⟨⟨⟨⟨⟨⟨⟨⟨⟨trivial, ?_⟩, ?_⟩, ?_⟩, ?_⟩, ?_⟩, ?_⟩, ?_⟩, ?_⟩, ?_⟩, ?_⟩, ?_⟩, ?_⟩, ?_⟩, ?_⟩, ?_⟩, ?_⟩, ?_⟩, ?_⟩, ?_⟩, ?_⟩, ?_⟩, ?_⟩, ?_⟩, ?_⟩, ?_⟩, ?_⟩, ?_⟩, ?_⟩, ?_⟩, ?_⟩, ?_⟩, ?_⟩, ?_⟩, ?_⟩, ?_⟩
                all_goals
                  intro o' ho
                  simp at ho
                  subst ho
                  intro ρ w5 hR hL hS hG
                  obtain ⟨hl1, hl2, -⟩ := hL
                · refine plainG rfl ?_
                  intro bA K Q' hK
                  simp only [execOp]
                  go_simp
                  refine (HKZ.out w5 hR).mono ?_
                  rintro r9 w9 ⟨rfl, hb9⟩
                  exact hK _ _ rfl hb9
                · refine plainG rfl ?_
                  intro bA K Q' hK
                  have e193 := hG 0 193 (by decide) (by kernel_rfl) (by kernel_rfl)
                  change ρ (.tmp 193) = _ at e193
                  simp only [execOp]
                  go_simp
                  exact hK _ _ rfl (Grew.refl _)
                · have eG : ρ (.tmp 194) = _ := hG 1 194 (by decide) (by kernel_rfl) (by kernel_rfl)
                  refine onG rfl (by kernel_rfl) eG ?_
                  intro bA K Q' hK
                  have e15 := hS 15 (by kernel_rfl)
                  change ρ (.tmp 15) = _ at e15
                  simp only [execOp]
                  go_simp
                  exact hK _ _ rfl (Grew.refl _)
                · have eG : ρ (.tmp 194) = _ := hG 1 194 (by decide) (by kernel_rfl) (by kernel_rfl)
                  refine onG rfl (by kernel_rfl) eG ?_
                  intro bA K Q' hK
                  have e195 := hG 2 195 (by decide) (by kernel_rfl) (by kernel_rfl)
                  change ρ (.tmp 195) = _ at e195
                  simp only [execOp]
                  go_simp
                  exact hK _ _ rfl (Grew.refl _)
                · refine plainG rfl ?_
                  intro bA K Q' hK
                  have e194 := hG 1 194 (by decide) (by kernel_rfl) (by kernel_rfl)
                  have e196 := hG 3 196 (by decide) (by kernel_rfl) (by kernel_rfl)
                  change ρ (.tmp 194) = _ at e194
                  change ρ (.tmp 196) = _ at e196
                  simp only [execOp]
                  go_simp
                  exact hK _ _ rfl (Grew.refl _)
                · refine plainG rfl ?_
                  intro bA K Q' hK
                  have e197 := hG 4 197 (by decide) (by kernel_rfl) (by kernel_rfl)
                  change ρ (.tmp 197) = _ at e197
                  simp only [execOp]
                  go_simp
                  exact hK _ _ rfl (Grew.refl _)
                · have eG : ρ (.tmp 198) = _ := hG 5 198 (by decide) (by kernel_rfl) (by kernel_rfl)
                  refine onG rfl (by kernel_rfl) eG ?_
                  intro bA K Q' hK
                  have e13 := hS 13 (by kernel_rfl)
                  change ρ (.tmp 13) = _ at e13
                  simp only [execOp]
                  go_simp
                  exact hK _ _ rfl (Grew.refl _)
                · have eG : ρ (.tmp 198) = _ := hG 5 198 (by decide) (by kernel_rfl) (by kernel_rfl)
                  refine onG rfl (by kernel_rfl) eG ?_
                  intro bA K Q' hK
                  have e199 := hG 6 199 (by decide) (by kernel_rfl) (by kernel_rfl)
                  change ρ (.tmp 199) = _ at e199
                  simp only [execOp]
                  go_simp
                  refine (HLEN.out w5 hR).mono ?_
                  rintro r9 w9 ⟨rfl, hb9⟩
                  exact hK _ _ rfl hb9
                · have eG : ρ (.tmp 198) = _ := hG 5 198 (by decide) (by kernel_rfl) (by kernel_rfl)
                  refine onG rfl (by kernel_rfl) eG ?_
                  intro bA K Q' hK
                  have e21 := hS 21 (by kernel_rfl)
                  change ρ (.tmp 21) = _ at e21
                  simp only [execOp]
                  go_simp
                  exact hK _ _ rfl (Grew.refl _)
                · have eG : ρ (.tmp 198) = _ := hG 5 198 (by decide) (by kernel_rfl) (by kernel_rfl)
                  refine onG rfl (by kernel_rfl) eG ?_
                  intro bA K Q' hK
                  have e200 := hG 7 200 (by decide) (by kernel_rfl) (by kernel_rfl)
                  have e201 := hG 8 201 (by decide) (by kernel_rfl) (by kernel_rfl)
                  change ρ (.tmp 200) = _ at e200
                  change ρ (.tmp 201) = _ at e201
                  simp only [execOp]
                  go_simp
                  exact hK _ _ rfl (Grew.refl _)
                · refine plainG rfl ?_
                  intro bA K Q' hK
                  have e198 := hG 5 198 (by decide) (by kernel_rfl) (by kernel_rfl)
                  have e202 := hG 9 202 (by decide) (by kernel_rfl) (by kernel_rfl)
                  change ρ (.tmp 198) = _ at e198
                  change ρ (.tmp 202) = _ at e202
                  simp only [execOp]
                  go_simp
                  exact hK _ _ rfl (Grew.refl _)
                · refine plainG rfl ?_
                  intro bA K Q' hK
                  have e203 := hG 10 203 (by decide) (by kernel_rfl) (by kernel_rfl)
                  change ρ (.tmp 203) = _ at e203
                  simp only [execOp]
                  go_simp
                  exact hK _ _ rfl (Grew.refl _)
                · have eG : ρ (.tmp 204) = _ := hG 11 204 (by decide) (by kernel_rfl) (by kernel_rfl)
                  refine onG rfl (by kernel_rfl) eG ?_
                  intro bA K Q' hK
                  have e13 := hS 13 (by kernel_rfl)
                  change ρ (.tmp 13) = _ at e13
                  simp only [execOp]
                  go_simp
                  exact hK _ _ rfl (Grew.refl _)
                · have eG : ρ (.tmp 204) = _ := hG 11 204 (by decide) (by kernel_rfl) (by kernel_rfl)
                  refine onG rfl (by kernel_rfl) eG ?_
                  intro bA K Q' hK
                  have e205 := hG 12 205 (by decide) (by kernel_rfl) (by kernel_rfl)
                  change ρ (.tmp 205) = _ at e205
                  simp only [execOp]
                  go_simp
                  refine (HSIG.out w5 hR).mono ?_
                  rintro r9 w9 ⟨rfl, hb9⟩
                  exact hK _ _ rfl hb9
                · have eG : ρ (.tmp 204) = _ := hG 11 204 (by decide) (by kernel_rfl) (by kernel_rfl)
                  refine onG rfl (by kernel_rfl) eG ?_
                  intro bA K Q' hK
                  have e16 := hS 16 (by kernel_rfl)
                  change ρ (.tmp 16) = _ at e16
                  simp only [execOp]
                  go_simp
                  exact hK _ _ rfl (Grew.refl _)
                · have eG : ρ (.tmp 204) = _ := hG 11 204 (by decide) (by kernel_rfl) (by kernel_rfl)
                  refine onG rfl (by kernel_rfl) eG ?_
                  intro bA K Q' hK
                  have e207 := hG 14 207 (by decide) (by kernel_rfl) (by kernel_rfl)
                  change ρ (.tmp 207) = _ at e207
                  simp only [execOp]
                  go_simp
                  exact hK _ _ rfl (Grew.refl _)
                · have eG : ρ (.tmp 204) = _ := hG 11 204 (by decide) (by kernel_rfl) (by kernel_rfl)
                  refine onG rfl (by kernel_rfl) eG ?_
                  intro bA K Q' hK
                  have e206 := hG 13 206 (by decide) (by kernel_rfl) (by kernel_rfl)
                  have e208 := hG 15 208 (by decide) (by kernel_rfl) (by kernel_rfl)
                  change ρ (.tmp 206) = _ at e206
                  change ρ (.tmp 208) = _ at e208
                  simp only [execOp]
                  go_simp
                  exact hK _ _ rfl (Grew.refl _)
                · refine plainG rfl ?_
                  intro bA K Q' hK
                  have e204 := hG 11 204 (by decide) (by kernel_rfl) (by kernel_rfl)
                  have e209 := hG 16 209 (by decide) (by kernel_rfl) (by kernel_rfl)
                  change ρ (.tmp 204) = _ at e204
                  change ρ (.tmp 209) = _ at e209
                  simp only [execOp]
                  go_simp
                  exact hK _ _ rfl (Grew.refl _)
                · refine plainG rfl ?_
                  intro bA K Q' hK
                  have e210 := hG 17 210 (by decide) (by kernel_rfl) (by kernel_rfl)
                  change ρ (.tmp 210) = _ at e210
                  simp only [execOp]
                  go_simp
                  exact hK _ _ rfl (Grew.refl _)
                · have eG : ρ (.tmp 211) = _ := hG 18 211 (by decide) (by kernel_rfl) (by kernel_rfl)
                  refine onG rfl (by kernel_rfl) eG ?_
                  intro bA K Q' hK
                  have e14 := hS 14 (by kernel_rfl)
                  change ρ (.tmp 14) = _ at e14
                  simp only [execOp]
                  go_simp
                  exact hK _ _ rfl (Grew.refl _)
                · have eG : ρ (.tmp 211) = _ := hG 18 211 (by decide) (by kernel_rfl) (by kernel_rfl)
                  refine onG rfl (by kernel_rfl) eG ?_
                  intro bA K Q' hK
                  have e17 := hS 17 (by kernel_rfl)
                  change ρ (.tmp 17) = _ at e17
                  simp only [execOp]
                  go_simp
                  exact hK _ _ rfl (Grew.refl _)
                · have eG : ρ (.tmp 211) = _ := hG 18 211 (by decide) (by kernel_rfl) (by kernel_rfl)
                  refine onG rfl (by kernel_rfl) eG ?_
                  intro bA K Q' hK
                  have e212 := hG 19 212 (by decide) (by kernel_rfl) (by kernel_rfl)
                  have e213 := hG 20 213 (by decide) (by kernel_rfl) (by kernel_rfl)
                  change ρ (.tmp 212) = _ at e212
                  change ρ (.tmp 213) = _ at e213
                  simp only [execOp]
                  go_simp
                  refine (HSAM.out w5 hR).mono ?_
                  rintro r9 w9 ⟨rfl, hb9⟩
                  exact hK _ _ rfl hb9
                · refine plainG rfl ?_
                  intro bA K Q' hK
                  have e211 := hG 18 211 (by decide) (by kernel_rfl) (by kernel_rfl)
                  have e214 := hG 21 214 (by decide) (by kernel_rfl) (by kernel_rfl)
                  change ρ (.tmp 211) = _ at e211
                  change ρ (.tmp 214) = _ at e214
                  simp only [execOp]
                  go_simp
                  exact hK _ _ rfl (Grew.refl _)
                · refine plainG rfl ?_
                  intro bA K Q' hK
                  have e215 := hG 22 215 (by decide) (by kernel_rfl) (by kernel_rfl)
                  change ρ (.tmp 215) = _ at e215
                  simp only [execOp]
                  go_simp
                  exact hK _ _ rfl (Grew.refl _)
                · have eG : ρ (.tmp 216) = _ := hG 23 216 (by decide) (by kernel_rfl) (by kernel_rfl)
                  refine onG rfl (by kernel_rfl) eG ?_
                  intro bA K Q' hK
                  have e13 := hS 13 (by kernel_rfl)
                  change ρ (.tmp 13) = _ at e13
                  simp only [execOp]
                  go_simp
                  exact hK _ _ rfl (Grew.refl _)
                · have eG : ρ (.tmp 216) = _ := hG 23 216 (by decide) (by kernel_rfl) (by kernel_rfl)
                  refine onG rfl (by kernel_rfl) eG ?_
                  intro bA K Q' hK
                  have e217 := hG 24 217 (by decide) (by kernel_rfl) (by kernel_rfl)
                  change ρ (.tmp 217) = _ at e217
                  simp only [execOp]
                  go_simp
                  refine (HBYT.out w5 hR).mono ?_
                  rintro r9 w9 ⟨u9, c9, rfl, h9, hb9⟩
                  exact hK _ _ ⟨u9, c9, rfl, h9⟩ hb9
                · have eG : ρ (.tmp 216) = _ := hG 23 216 (by decide) (by kernel_rfl) (by kernel_rfl)
                  refine onG rfl (by kernel_rfl) eG ?_
                  intro bA K Q' hK
                  have e1 := hS 1 (by kernel_rfl)
                  change ρ (.tmp 1) = _ at e1
                  simp only [execOp]
                  go_simp
                  exact hK _ _ rfl (Grew.refl _)
                · have eG : ρ (.tmp 216) = _ := hG 23 216 (by decide) (by kernel_rfl) (by kernel_rfl)
                  refine onG rfl (by kernel_rfl) eG ?_
                  intro bA K Q' hK
                  have e1 := hS 1 (by kernel_rfl)
                  change ρ (.tmp 1) = _ at e1
                  simp only [execOp]
                  go_simp
                  exact hK _ _ rfl (Grew.refl _)
                · have eG : ρ (.tmp 216) = _ := hG 23 216 (by decide) (by kernel_rfl) (by kernel_rfl)
                  refine onG rfl (by kernel_rfl) eG ?_
                  intro bA K Q' hK
                  have e220 := hG 27 220 (by decide) (by kernel_rfl) (by kernel_rfl)
                  change ρ (.tmp 220) = _ at e220
                  simp only [execOp]
                  go_simp
                  exact hK _ _ rfl (Grew.refl _)
                · have eG : ρ (.tmp 216) = _ := hG 23 216 (by decide) (by kernel_rfl) (by kernel_rfl)
                  refine onG rfl (by kernel_rfl) eG ?_
                  intro bA K Q' hK
                  have e14 := hS 14 (by kernel_rfl)
                  change ρ (.tmp 14) = _ at e14
                  simp only [execOp]
                  go_simp
                  exact hK _ _ rfl (Grew.refl _)
                · have eG : ρ (.tmp 216) = _ := hG 23 216 (by decide) (by kernel_rfl) (by kernel_rfl)
                  refine onG rfl (by kernel_rfl) eG ?_
                  intro bA K Q' hK
                  have e222 := hG 29 222 (by decide) (by kernel_rfl) (by kernel_rfl)
                  change ρ (.tmp 222) = _ at e222
                  simp only [execOp]
                  go_simp
                  exact hK _ _ rfl (Grew.refl _)
                · have eG : ρ (.tmp 216) = _ := hG 23 216 (by decide) (by kernel_rfl) (by kernel_rfl)
                  refine onG rfl (by kernel_rfl) eG ?_
                  intro bA K Q' hK
                  have e221 := hG 28 221 (by decide) (by kernel_rfl) (by kernel_rfl)
                  have e223 := hG 30 223 (by decide) (by kernel_rfl) (by kernel_rfl)
                  change ρ (.tmp 221) = _ at e221
                  change ρ (.tmp 223) = _ at e223
                  simp only [execOp]
                  go_simp
                  exact hK _ _ rfl (Grew.refl _)
                · have eG : ρ (.tmp 216) = _ := hG 23 216 (by decide) (by kernel_rfl) (by kernel_rfl)
                  refine onG rfl (by kernel_rfl) eG ?_
                  intro bA K Q' hK
                  have e219 := hG 26 219 (by decide) (by kernel_rfl) (by kernel_rfl)
                  have e224 := hG 31 224 (by decide) (by kernel_rfl) (by kernel_rfl)
                  change ρ (.tmp 219) = _ at e219
                  change ρ (.tmp 224) = _ at e224
                  simp only [execOp]
                  go_simp
                  exact hK _ _ rfl (Grew.refl _)
                · have eG : ρ (.tmp 216) = _ := hG 23 216 (by decide) (by kernel_rfl) (by kernel_rfl)
                  refine onG rfl (by kernel_rfl) eG ?_
                  intro bA K Q' hK
                  have e218 := hG 25 218 (by decide) (by kernel_rfl) (by kernel_rfl)
                  have e225 := hG 32 225 (by decide) (by kernel_rfl) (by kernel_rfl)
                  obtain ⟨u9, c9, h218, hs9⟩ : SlR LB w5 (ρ (.tmp 218)) := e218
                  rw [HLB.out] at h218
                  change ρ (.tmp 225) = _ at e225
                  simp only [execOp]
                  go_simp
                  refine (HSA2.out w5 hR u9 c9 hs9).mono ?_
                  rintro r9 w9 ⟨rfl, hb9⟩
                  exact hK _ _ rfl hb9
                · refine plainG rfl ?_
                  intro bA K Q' hK
                  have e216 := hG 23 216 (by decide) (by kernel_rfl) (by kernel_rfl)
                  have e226 := hG 33 226 (by decide) (by kernel_rfl) (by kernel_rfl)
                  change ρ (.tmp 216) = _ at e216
                  change ρ (.tmp 226) = _ at e226
                  simp only [execOp]
                  go_simp
                  exact hK _ _ rfl (Grew.refl _)
              · intro vv w5 hR hGv
                have h34 : vv 34 = .bool true := hGv.2
                have hb5 : Below wr.heap.size wr w5 := ⟨hR.os, hR.tape, hR.output, hR.size, hR.block⟩
                have HB6 := hid (HB5.out.trans (hb5.mono HB5.out.size))
                clear hGv hR hb5 HKZ HLEN HSIG HSAM HBYT HSA2
                simp [stG, stU, dstAt, Act.put, h34]
                clear h34
                go_wp2_with fail
                go_ret
                exact ⟨rfl, HB6.out⟩
      · have hD : D = E2 := by rw [HDD.out, HE2.out]; unfold paE; rw [if_neg (by rw [← HE1.out]; decide), if_pos (by rw [← HE2.out]; exact h2)]
        have hpv := HD1.out (by omega)
        subst hpv
        subst hD
        have hei : ((D : Int) = 0) = False := eq_false (by omega)
        have heb : ((D : Int) == 0) = false := by simp; omega
        have hen : (D = 0) = False := eq_false h2
        clear huc hvr hb4 h2 HGL3 HB3 HUS HTD3
        go_wp2_with fail
        refine (HKN.out w4).mono ?_
        rintro e w5 ⟨rfl, hb5⟩
        have HB5 := hid (HB4.out.trans (hb5.mono HB4.out.size))
        clear hb5 HB4 HKN
        go_wp2_with fail
        go_ret
        exact ⟨ret_bool (by simp), HB5.out⟩
    · have hD : D = E1 := by rw [HDD.out, HE1.out]; unfold paE; rw [if_pos (by rw [← HE1.out]; exact h1)]
      have hpv := HD1.out (by omega)
      subst hpv
      subst hD
      have hei : ((D : Int) = 0) = False := eq_false (by omega)
      have heb : ((D : Int) == 0) = false := by simp; omega
      have hen : (D = 0) = False := eq_false h1
      clear hus hvl hb3 h1 HGL HB2 HD0 HD1
      go_wp2_with fail
      refine (HKN.out w3).mono ?_
      rintro e w5 ⟨rfl, hb5⟩
      have HB5 := hid (HB3.out.trans (hb5.mono HB3.out.size))
      clear hb5 HB3 HKN
      go_wp2_with fail
      go_ret
      exact ⟨ret_bool (by simp), HB5.out⟩
end Go.Proofs.Ytbhpfdpcafdeaaa
