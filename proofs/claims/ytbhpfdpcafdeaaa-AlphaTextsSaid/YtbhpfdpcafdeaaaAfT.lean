/- THE WALK OF 'AlphaTexts', over the program's contracts. -/
import Derived.Test.YtbhpfdpcafdeaaaAfD
import Derived.Test.YtbhpfdpcafdeaaaAfK
namespace Go.Proofs.Ytbhpfdpcafdeaaa
open Go.RowKit Go.Inc
theorem lawD_bytes {ls : List (List Nat)} (h : ∀ p ∈ ls, Bytes p) : ∀ p ∈ lawD ls, Bytes p := fun p hp => by
  unfold lawD at hp
  obtain ⟨q, hq, rfl⟩ := List.mem_map.1 hp
  exact (h q (List.mem_of_mem_take hq)).take _
theorem lawD_short (ls : List (List Nat)) : (txtD (lawD ls)).length ≤ 488 := by
  have := txt_short (ds := lawD ls) (k := 8) (m := 60) (by unfold lawD; rw [List.length_map, List.length_take]; omega) (fun d hd => by
    unfold lawD at hd
    obtain ⟨q, hq, rfl⟩ := List.mem_map.1 hd
    rw [List.length_take]; omega)
  omega
theorem lawD_eight (ls : List (List Nat)) : (lawD ls).length ≤ 8 := by unfold lawD; rw [List.length_map, List.length_take]; omega
theorem pt_len {ok : Nat → Prop} {w : World} {a : Option Addr} {ps : List (List Nat)} (h : Pt ok w a ps) : ∀ i, i < ps.length → (ps.getD i []).length ≤ 9223372036854775807 := fun i hi => by
  rcases h.2 with rfl | ⟨b, o, A, C, _, _, hp⟩
  · simp at hi
  · have := hp.cap i hi
    unfold maxLen at this
    omega
theorem pt_all {ok : Nat → Prop} {w : World} {a : Option Addr} {ps : List (List Nat)} (h : Pt ok w a ps) : ∀ p ∈ ps, p.length ≤ 9223372036854775807 := fun p hp => by
  obtain ⟨i, hi, rfl⟩ := List.getElem_of_mem hp
  have := pt_len h i hi
  rwa [List.getD_eq_getElem?_getD, List.getElem?_eq_getElem hi] at this
theorem nZ_i64 {l : List Nat} (h : ∀ x ∈ l, x ≤ 9223372036854775807) : ∀ z ∈ nZ l, i64a z := fun z hz => by
  unfold nZ at hz
  obtain ⟨x, hx, rfl⟩ := List.mem_map.1 hz
  have := h x hx
  unfold i64a
  omega
theorem txt_le : ∀ {ds : List (List Nat)}, (∀ d ∈ ds, Bytes d) → ∀ x ∈ txtD ds ++ [0], x ≤ 9223372036854775807
  | [], _, x, hx => by
    obtain rfl : x = 0 := by simpa [txtD] using hx
    omega
  | d :: ds, h, x, hx => by
    have hx' : x ∈ (d.map (· + 2) ++ 1 :: txtD ds) ++ [0] := hx
    rw [List.append_assoc] at hx'
    rcases List.mem_append.1 hx' with h1 | h1
    · obtain ⟨y, hy, rfl⟩ := List.mem_map.1 h1
      have := h d (by simp) y hy
      omega
    · rcases List.mem_cons.1 h1 with rfl | h1
      · omega
      · exact txt_le (fun p hp => h p (List.mem_cons_of_mem _ hp)) x h1
set_option maxRecDepth 20000 in
set_option maxHeartbeats 4000000 in
theorem alphaTexts_walk {Tb : World → Nat → List Nat → List Nat → Prop} (pa : PA Tb) (W : World) (a : Option Addr) (c : Nat) (ls : List (List Nat)) (b : Option Addr) (d : Nat) (zs0 : List Int) (hls : Pt (fun _ => True) W a ls) (hz0 : ∀ z ∈ zs0, i64a z) (hs : Si (fun _ => True) W b zs0) (hlc : zs0.length ≤ d) (hcm : d ≤ maxLen) :
    Calls Try.prog 3 #[.slice a ls.length c, .slice b zs0.length d] W fun e w' => e = .returned (.bool true) ∧ Below W.heap.size W w' := by
  have HD := hid (lawDocs_any _ W a c ls hls (pt_len hls))
  obtain ⟨ds, hds⟩ : ∃ ds, ds = lawD ls := ⟨_, rfl⟩
  have hdb : ∀ p ∈ ds, Bytes p := by rw [hds]; exact lawD_bytes hls.1
  have hd8 : ds.length ≤ 8 := by rw [hds]; exact lawD_eight ls
  have hdt : (txtD ds).length ≤ 488 := by rw [hds]; exact lawD_short ls
  rw [← hds] at HD
  have HDB := hid hdb
  have HD8 := hid hd8
  have HDT := hid hdt
  obtain ⟨zs, hzs⟩ : ∃ zs, zs = zs0.take 200 := ⟨_, rfl⟩
  obtain ⟨L, hL⟩ : ∃ L, L = zs0.length := ⟨_, rfl⟩
  obtain ⟨M, hM⟩ : ∃ M, M = zs.length := ⟨_, rfl⟩
  have hmin : min (L : Int) 200 = (M : Int) := by rw [hM, hzs, List.length_take]; omega
  have hm9 : maxLen ≤ 9223372036854775807 := by unfold maxLen; omega
  have hL0 : (0 : Int) ≤ L := by omega
  have hML : (M : Int) ≤ L := by omega
  have hMd : (M : Int) ≤ d := by omega
  have hM200 : (M : Int) ≤ 200 := by omega
  have HM := hid hM
  have HMD : Hid (M ≤ d ∧ d ≤ maxLen) := hid ⟨by omega, hcm⟩
  have HZI : Hid (∀ z ∈ zs, i64a z) := hid fun z hz => hz0 z (by rw [hzs] at hz; exact List.mem_of_mem_take hz)
  have HS : Hid (Si (fun i => i < W.heap.size) W b zs) := hid (by rw [hzs]; exact (hs.front 200).mono fun _ _ h => h)
  rw [← hL]
  clear hls hz0 hs hlc hcm hds hdb hd8 hdt hzs hL hM hm9
  go_enter Try.func3, Try.ntmps3
  go_wp2_with fail
  refine HD.out.mono ?_
  rintro e w1 ⟨u, rfl, ⟨vs, hpd⟩, hb1⟩
  obtain ⟨a1, c1, rfl, hpt⟩ := hpd.pt
  have HP1 := hid hpt
  have HB1 := hid hb1
  have HTX := hid (pa.pText _ w1 a1 c1 ds hpt (by have := HDT.out; omega))
  obtain ⟨nd, hnd⟩ : ∃ nd, nd = ds.length := ⟨_, rfl⟩
  have HND := hid hnd
  rw [← hnd] at HTX ⊢
  obtain ⟨ts, hts⟩ : ∃ ts, ts = txtD ds ++ [0] := ⟨_, rfl⟩
  have HTS := hid hts
  have HTL : Hid (ts.length ≤ 489) := hid (by rw [hts, List.length_append]; have := HDT.out; simp; omega)
  rw [← hts] at HTX
  clear hpd hpt hb1 HD hnd hts
  go_wp2_with fail
  refine HTX.out.mono ?_
  rintro e w2 ⟨ux, cx, rfl, hsx, hb2, hx1, hx2⟩
  have HX2 := hid hsx
  have HB2 := hid (HB1.out.trans (hb2.mono HB1.out.size))
  have HP2 := hid (HP1.out.below hb2)
  have HDC := hid (pa.pDocs _ w2 ux cx (nZ ts) ds hsx (by rw [nZ_len]; exact hx1) hx2 (by rw [nZ_len]; have := HTL.out; omega) (by rw [HTS.out]; exact nZ_i64 (txt_le HDB.out)) (by rw [HTS.out]; exact docsR_txt HDB.out))
  rw [nZ_len] at HDC
  obtain ⟨nt, hnt⟩ : ∃ nt, nt = ts.length := ⟨_, rfl⟩
  have HNT := hid hnt
  rw [← hnt] at HDC ⊢
  clear hsx hb2 hx1 hx2 HTX HP1 HB1 hnt
  go_wp2_with fail
  refine HDC.out.mono ?_
  rintro e w3 ⟨ub, cb, rfl, hpb, hb3⟩
  have HPB := hid hpb
  have HB3 := hid (HB2.out.trans (hb3.mono HB2.out.size))
  have HP3 := hid (HP2.out.below hb3)
  have HX3 := hid (HX2.out.below hb3)
  rw [← HND.out]
  have HRT := hid (refText_any _ w3 a1 c1 ds HP3.out (by have := HD8.out; omega) (by have := HDT.out; omega))
  rw [← HTS.out, ← HND.out] at HRT
  clear hpb hb3 HDC HP2 HX2 HB2
  go_wp2_with fail
  refine HRT.out.mono ?_
  rintro e w4 ⟨ur, rfl, hrow, hb4⟩
  obtain ⟨a4, c4, rfl, -, -, -, -, hsi4⟩ := Si.ownedN hrow
  have HB4 := hid (HB3.out.trans (hb4.mono HB3.out.size))
  have HP4 := hid (HP3.out.below hb4)
  have HPB4 := hid (HPB.out.below hb4)
  have HSM := hid (refSame_any _ _ ux a4 cx c4 (nZ ts) (nZ ts) w4 (HX3.out.below hb4) hsi4 (by rw [nZ_len]; have := HTL.out; omega))
  rw [decide_eq_true rfl, nZ_len, ← HNT.out] at HSM
  rw [← HNT.out]
  clear hrow hb4 hsi4 HRT HX3 HP3 HPB HB3
  go_wp2_with fail
  refine HSM.out.mono ?_
  rintro e w5 ⟨rfl, hb5⟩
  have HB5 := hid (HB4.out.trans (hb5.mono HB4.out.size))
  have HDS := hid (docsSame_any _ _ w5 ub a1 cb c1 ds ds (HPB4.out.below hb5) (HP4.out.below hb5) (by have := HD8.out; omega) (pt_all HP4.out))
  rw [decide_eq_true rfl, ← HND.out] at HDS
  clear hb5 HSM HPB4 HP4 HB4
  go_wp2_with fail
  refine HDS.out.mono ?_
  rintro e w6 ⟨rfl, hb6⟩
  have HB6 := hid (HB5.out.trans (hb6.mono HB5.out.size))
  have HS6 := hid (HS.out.below HB6.out)
  clear hb6 HDS HB5 HS
  have HRD := hid (fun (y : World) (hy : Below W.heap.size W y) (hsy : Si (fun i => i < W.heap.size) y b zs) => refDocs_any _ y b d zs hsy (by rw [← HM.out]; omega))
  rw [← HM.out] at HRD
  cases hA : docsR zs [] [] with
  | none =>
    have HBD := hid (pa.pDocsBad _ w6 b d zs HS6.out (by rw [← HM.out]; exact HMD.out.1) HMD.out.2 (by rw [← HM.out]; omega) HZI.out hA)
    rw [← HM.out] at HBD
    rw [hA] at HRD
    clear hA
    go_wp2_with fail
    refine HBD.out.mono ?_
    rintro e w7 ⟨u7, c7, rfl, hb7⟩
    have HB7 := hid (HB6.out.trans (hb7.mono HB6.out.size))
    have HS7 := hid (HS6.out.below hb7)
    clear hb7 HBD HB6 HS6
    go_wp2_with fail
    refine (HRD.out w7 HB7.out HS7.out).mono ?_
    rintro e w8 ⟨⟨u8, rfl, -⟩, hb8⟩
    have HB8 := hid (HB7.out.trans (hb8.mono HB7.out.size))
    have HKN := hid (known14_any pa w8)
    clear hb8 HRD HB7 HS7
    go_wp2_with fail
    refine HKN.out.mono ?_
    rintro e w9 ⟨rfl, hb9⟩
    have HB9 := hid (HB8.out.trans (hb9.mono HB8.out.size))
    clear hb9 HKN HB8
    go_wp2_with fail
    go_ret
    exact ⟨rfl, HB9.out⟩
  | some es =>
    obtain ⟨heb, hez⟩ := docsR_some hA
    have hel : (txtD es ++ [0]).length = M := by rw [HM.out, hez, nZ_len]
    have hed : es.length ≤ 200 := by
      have h1 := docs_le es
      rw [List.length_append] at hel
      simp at hel
      omega
    have HGD := hid (pa.pDocs _ w6 b d zs es HS6.out (by rw [← HM.out]; exact HMD.out.1) HMD.out.2 (by rw [← HM.out]; omega) HZI.out hA)
    rw [← HM.out] at HGD
    rw [hA] at HRD
    have HEB := hid heb
    have HEZ := hid hez
    have HEL := hid hel
    have HED := hid hed
    obtain ⟨ne, hne⟩ : ∃ ne, ne = es.length := ⟨_, rfl⟩
    have HNE := hid hne
    rw [← hne] at HGD
    clear hA heb hez hel hed hne
    go_wp2_with fail
    refine HGD.out.mono ?_
    rintro e w7 ⟨u7, c7, rfl, hp7, hb7⟩
    have HP7 := hid hp7
    have HB7 := hid (HB6.out.trans (hb7.mono HB6.out.size))
    have HS7 := hid (HS6.out.below hb7)
    clear hp7 hb7 HGD HB6 HS6
    go_wp2_with fail
    refine (HRD.out w7 HB7.out HS7.out).mono ?_
    rintro e w8 ⟨⟨u8, rfl, hp8⟩, hb8⟩
    obtain ⟨vs8, hpd8⟩ := hp8 es rfl
    obtain ⟨a8, c8, rfl, hpt8⟩ := hpd8.pt
    have HP8 := hid hpt8
    have HB8 := hid (HB7.out.trans (hb8.mono HB7.out.size))
    have HP78 := hid (HP7.out.below hb8)
    have HS8 := hid (HS7.out.below hb8)
    have HT8 := hid (pa.pText _ w8 u7 c7 es HP78.out (by have h := HEL.out; rw [List.length_append] at h; simp at h; omega))
    rw [HEL.out, ← HEZ.out, ← HNE.out] at HT8
    rw [← HNE.out]
    clear hb8 hp8 hpd8 hpt8 HRD HB7 HS7 HP7
    go_wp2_with fail
    refine HT8.out.mono ?_
    rintro e w9 ⟨u9, c9, rfl, hs9, hb9, -, -⟩
    have HX9 := hid hs9
    have HB9 := hid (HB8.out.trans (hb9.mono HB8.out.size))
    have HP79 := hid (HP78.out.below hb9)
    have HP89 := hid (HP8.out.below hb9)
    have HS9 := hid (HS8.out.below hb9)
    have HKN := hid (known14_any pa w9)
    clear hs9 hb9 HT8 HB8 HP78 HP8 HS8
    go_wp2_with fail
    refine HKN.out.mono ?_
    rintro e w10 ⟨rfl, hb10⟩
    have HB10 := hid (HB9.out.trans (hb10.mono HB9.out.size))
    have HX10 := hid (HX9.out.below hb10)
    have HS10 := hid (HS9.out.below hb10)
    have HDS := hid (docsSame_any _ _ w10 u7 a8 c7 c8 es es (HP79.out.below hb10) (HP89.out.below hb10) (by have := HED.out; omega) (pt_all HP79.out))
    rw [decide_eq_true rfl, ← HNE.out] at HDS
    clear hb10 HKN HB9 HX9 HS9 HP79 HP89
    go_wp2_with fail
    refine HDS.out.mono ?_
    rintro e w11 ⟨rfl, hb11⟩
    have HB11 := hid (HB10.out.trans (hb11.mono HB10.out.size))
    have HSM := hid (refSame_any _ _ u9 b c9 d zs zs w11 (HX10.out.below hb11) (HS10.out.below hb11) (by rw [← HM.out]; omega))
    rw [decide_eq_true rfl, ← HM.out] at HSM
    clear hb11 HDS HB10 HX10 HS10
    go_wp2_with fail
    refine HSM.out.mono ?_
    rintro e w12 ⟨rfl, hb12⟩
    have HB12 := hid (HB11.out.trans (hb12.mono HB11.out.size))
    clear hb12 HSM HB11
    go_wp2_with fail
    go_ret
    exact ⟨rfl, HB12.out⟩
end Go.Proofs.Ytbhpfdpcafdeaaa
