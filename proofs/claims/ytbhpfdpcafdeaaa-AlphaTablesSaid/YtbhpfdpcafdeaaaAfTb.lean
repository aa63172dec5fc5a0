/- THE WALK OF 'AlphaTables', over the program's contracts. -/
import Derived.Test.YtbhpfdpcafdeaaaAfD
import Derived.Test.YtbhpfdpcafdeaaaAfK
namespace Go.Proofs.Ytbhpfdpcafdeaaa
open Go.RowKit Go.Inc
theorem rise_lt {l : List Nat} (h : ∀ i, 0 < i → i < l.length → l.getD (i - 1) 0 < l.getD i 0) {i : Nat} : ∀ {j : Nat}, i < j → j < l.length → l.getD i 0 < l.getD j 0
  | 0, h1, _ => by omega
  | j + 1, h1, h2 => by
    have h3 := h (j + 1) (by omega) h2
    rw [Nat.add_sub_cancel] at h3
    by_cases e : i = j
    · subst e; exact h3
    · exact Nat.lt_trans (rise_lt h (show i < j by omega) (by omega)) h3
theorem getD_idx {l : List Nat} {x : Nat} (h : x ∈ l) : l.idxOf x < l.length ∧ l.getD (l.idxOf x) 0 = x := by
  have h1 := List.idxOf_lt_length_of_mem h
  refine ⟨h1, ?_⟩
  rw [List.getD_eq_getElem?_getD, List.getElem?_eq_getElem h1]
  exact List.getElem_idxOf h1
theorem idx_rise {l : List Nat} (h : ∀ i, 0 < i → i < l.length → l.getD (i - 1) 0 < l.getD i 0) {t : Nat} (ht : t < l.length) : l.idxOf (l.getD t 0) = t := by
  obtain ⟨h1, h2⟩ := getD_idx (getD_mem' ht)
  rcases Nat.lt_trichotomy (l.idxOf (l.getD t 0)) t with h3 | h3 | h3
  · have := rise_lt h h3 ht; omega
  · exact h3
  · have := rise_lt h h3 h1; omega
theorem codeT_get (zs : List Int) {t : Nat} (ht : t < (symT zs 258).length) : codeT (symT zs 258) (((symT zs 258).getD t 0 : Nat) : Int) = t := by
  unfold codeT
  rw [Int.toNat_natCast]
  exact idx_rise (symT_rise zs 258) ht
theorem in_table {zs : List Int} (h : ∀ z ∈ zs, 0 ≤ z ∧ z < 258) (s : Int) : (0 ≤ s ∧ s.toNat ∈ symT zs 258) ↔ 0 < zs.count s := by
  constructor
  · rintro ⟨h0, h1⟩
    have := (symT_lt zs 258 _ h1).2
    rwa [Int.toNat_of_nonneg h0] at this
  · intro h1
    have h2 := h s (List.count_pos_iff.1 h1)
    refine ⟨h2.1, symT_mem zs s.toNat 258 (by omega) ?_⟩
    rwa [Int.toNat_of_nonneg h2.1]
theorem mem_table {zs : List Int} (h : ∀ z ∈ zs, 0 ≤ z ∧ z < 258) : ∀ z ∈ zs, 0 ≤ z ∧ z.toNat ∈ symT zs 258 := fun z hz => (in_table h z).2 (List.count_pos_iff.2 hz)
theorem codes_lt {zs : List Int} (h : ∀ z ∈ zs, 0 ≤ z ∧ z < 258) : ∀ y ∈ zs.map (fun z => (codeT (symT zs 258) z : Int)), 0 ≤ y ∧ y < (symT zs 258).length := fun y hy => by
  obtain ⟨z, hz, rfl⟩ := List.mem_map.1 hy
  have := (getD_idx (mem_table h z hz).2).1
  unfold codeT
  omega
theorem codes_back {zs : List Int} (h : ∀ z ∈ zs, 0 ≤ z ∧ z < 258) : (zs.map (fun z => (codeT (symT zs 258) z : Int))).map (fun z => (((symT zs 258).getD z.toNat 0 : Nat) : Int)) = zs := by
  rw [List.map_map]
  conv => rhs; rw [← List.map_id zs]
  refine List.map_congr_left fun z hz => ?_
  have h1 := mem_table h z hz
  show (((symT zs 258).getD ((codeT (symT zs 258) z : Int)).toNat 0 : Nat) : Int) = z
  unfold codeT
  rw [Int.toNat_natCast, (getD_idx h1.2).2, Int.toNat_of_nonneg h1.1]
def okS (z : Int) : Bool := decide (0 ≤ z ∧ z < 258)
theorem all_snoc {zs : List Int} {t : Nat} (h : t < zs.length) : (zs.take (t + 1)).all okS = ((zs.take t).all okS && okS (zs.getD t 0)) := by
  rw [List.take_succ_eq_append_getElem h, List.all_append, List.getD_eq_getElem?_getD, List.getElem?_eq_getElem h]
  simp
theorem all_okS {zs : List Int} : zs.all okS = true ↔ ∀ z ∈ zs, 0 ≤ z ∧ z < 258 := by
  rw [List.all_eq_true]
  constructor
  · intro h z hz; exact of_decide_eq_true (h z hz)
  · intro h z hz; exact decide_eq_true (h z hz)
/-- The round of the loop that asks for each symbol. -/
theorem okS_cases (z : Int) : (okS z = true ∧ 0 ≤ z ∧ z < 258) ∨ (okS z = false ∧ z < 0) ∨ (okS z = false ∧ 0 ≤ z ∧ 258 ≤ z) := by
  by_cases h1 : 0 ≤ z
  · by_cases h2 : z < 258
    · exact .inl ⟨decide_eq_true ⟨h1, h2⟩, h1, h2⟩
    · exact .inr (.inr ⟨decide_eq_false (fun h => h2 h.2), h1, by omega⟩)
  · exact .inr (.inl ⟨decide_eq_false (fun h => h1 h.1), by omega⟩)
set_option maxRecDepth 20000 in
set_option maxHeartbeats 4000000 in
theorem alphaTables_bad {Tb : World → Nat → List Nat → List Nat → Prop} (pa : PA Tb) (W : World) (a : Option Addr) (c : Nat) (zs0 zs : List Int) (sym code : Int) (hz0 : ∀ z ∈ zs0, i64a z) (hs : Si (fun _ => True) W a zs0) (hlc : zs0.length ≤ c) (hcm : c ≤ maxLen) (hzs : zs = zs0.take 200) (hbad : ¬ ∀ z ∈ zs, 0 ≤ z ∧ z < 258) :
    Calls Try.prog 4 #[.slice a zs0.length c, .int .i64 sym, .int .i64 code] W fun e w' => e = .returned (.bool true) ∧ Below W.heap.size W w' := by
  obtain ⟨L, hL⟩ : ∃ L, L = zs0.length := ⟨_, rfl⟩
  obtain ⟨M, hM⟩ : ∃ M, M = zs.length := ⟨_, rfl⟩
  have hmin : min (L : Int) 200 = (M : Int) := by rw [hM, hzs, List.length_take]; omega
  have hm9 : maxLen ≤ 9223372036854775807 := by unfold maxLen; omega
  have hL0 : (0 : Int) ≤ L := by omega
  have hML : (M : Int) ≤ L := by omega
  have hMd : (M : Int) ≤ c := by omega
  have hM200 : (M : Int) ≤ 200 := by omega
  have HM := hid hM
  have hss : Si (fun _ => True) W a zs := by rw [hzs]; exact hs.front 200
  have HS := hid hss
  have HN := hid (pa.pNewBad _ W a c zs hss (by omega) (fun z hz => hz0 z (by rw [hzs] at hz; exact List.mem_of_mem_take hz)) hbad)
  have HF : Hid (zs.all okS = false) := hid (by rw [← Bool.not_eq_true, all_okS]; exact hbad)
  rw [← hL]
  rw [← hM] at HN
  clear hz0 hs hlc hcm hzs hL hM hm9 hss hbad
  go_enter Try.func4, Try.ntmps4
  go_wp2_with fail
  refine HN.out.mono ?_
  rintro e w1 ⟨rfl, hb1⟩
  have HB1 := hid hb1
  have HS1 := hid (HS.out.below hb1)
  clear hb1 HN HS
  go_wp2_with fail
  go_loop [9, 10] (fun r i => ∃ t : Nat, t ≤ M ∧ i = .int .i64 (t : Int) ∧ r = .bool ((zs.take t).all okS)) (fun _ i => M - (intOf i).toNat)
  case atStart => exact ⟨0, Nat.zero_le _, rfl, by rw [List.take_zero]; rfl⟩
  case round =>
    obtain ⟨t, ht, rfl, rfl⟩ := hrel
    by_cases hlt : t < M
    · have hti : (t < M) = True := eq_true hlt
      have HLT := hid hlt
      obtain ⟨b, o, rfl, hc⟩ : ∃ b o, a = some ⟨b, o, none⟩ ∧ w1.cell? ⟨b, o + t, none⟩ = some (.int .i64 (zs.getD t 0)) := by
        rcases HS1.out with h | ⟨b, o, h, _, hc⟩
        · have := HM.out; rw [h] at this; simp at this; omega
        · exact ⟨b, o, h, hc t (by rw [← HM.out]; exact hlt)⟩
      have HA := hid (all_snoc (zs := zs) (t := t) (by rw [← HM.out]; exact hlt))
      obtain ⟨r, hr⟩ : ∃ r, r = (zs.take t).all okS := ⟨_, rfl⟩
      obtain ⟨z, hz⟩ : ∃ z, z = zs.getD t 0 := ⟨_, rfl⟩
      rw [← hr, ← hz] at HA
      rw [← hz] at hc
      rw [← hr]
      clear hlt hr hz
      cases r with
      | false =>
        go_wp2_with fail
        go_round
        case rel => exact ⟨t + 1, HLT.out, by go_num, by rw [HA.out]; rfl⟩
        case measure => simp [intOf]; have := HLT.out; omega
      | true =>
        rcases okS_cases z with ⟨hk, h1, h2⟩ | ⟨hk, h1⟩ | ⟨hk, h1, h2⟩
        · rw [hk] at HA
          clear hk
          go_wp2_with fail
          go_round
          case rel => exact ⟨t + 1, HLT.out, by go_num, by rw [HA.out]; rfl⟩
          case measure => simp [intOf]; have := HLT.out; omega
        · rw [hk] at HA
          have h1f : (0 ≤ z) = False := eq_false (by omega)
          clear hk
          go_wp2_with fail
          go_round
          case rel => exact ⟨t + 1, HLT.out, by go_num, by rw [HA.out]; rfl⟩
          case measure => simp [intOf]; have := HLT.out; omega
        · rw [hk] at HA
          have h2f : (z < 258) = False := eq_false (by omega)
          clear hk
          go_wp2_with fail
          go_round
          case rel => exact ⟨t + 1, HLT.out, by go_num, by rw [HA.out]; rfl⟩
          case measure => simp [intOf]; have := HLT.out; omega
    · have hti : (t < M) = False := eq_false hlt
      have HE : Hid ((zs.take t).all okS = false) := hid (by rw [List.take_of_length_le (by rw [← HM.out]; omega)]; exact HF.out)
      have HKN := hid (known14_any pa w1)
      rw [HE.out]
      clear hlt
      go_wp2_with fail
      refine HKN.out.mono ?_
      rintro e w9 ⟨rfl, hb9⟩
      have HB9 := hid (HB1.out.trans (hb9.mono HB1.out.size))
      clear hb9 HKN HB1
      go_wp2_with fail
      go_ret
      exact ⟨rfl, HB9.out⟩
set_option maxRecDepth 20000 in
set_option maxHeartbeats 8000000 in
theorem alphaTables_good {Tb : World → Nat → List Nat → List Nat → Prop} (pa : PA Tb) (W : World) (a : Option Addr) (c : Nat) (zs0 zs : List Int) (sym code : Int) (hsy : i64a sym) (hco : i64a code) (hs : Si (fun _ => True) W a zs0) (hlc : zs0.length ≤ c) (hcm : c ≤ maxLen) (hzs : zs = zs0.take 200) (hgood : ∀ z ∈ zs, 0 ≤ z ∧ z < 258) :
    Calls Try.prog 4 #[.slice a zs0.length c, .int .i64 sym, .int .i64 code] W fun e w' => e = .returned (.bool true) ∧ Below W.heap.size W w' := by
  obtain ⟨L, hL⟩ : ∃ L, L = zs0.length := ⟨_, rfl⟩
  obtain ⟨M, hM⟩ : ∃ M, M = zs.length := ⟨_, rfl⟩
  have hmin : min (L : Int) 200 = (M : Int) := by rw [hM, hzs, List.length_take]; omega
  have hm9 : maxLen ≤ 9223372036854775807 := by unfold maxLen; omega
  have hL0 : (0 : Int) ≤ L := by omega
  have hML : (M : Int) ≤ L := by omega
  have hMd : (M : Int) ≤ c := by omega
  have hM200 : (M : Int) ≤ 200 := by omega
  have HM := hid hM
  have hss : Si (fun _ => True) W a zs := by rw [hzs]; exact hs.front 200
  have HS := hid hss
  have HN := hid (pa.pNew _ W a c zs hss (by omega) hgood)
  have HGD := hid hgood
  have HSI : Hid (Si (fun i => i < W.heap.size) W a zs) := hid (hss.mono fun _ _ h => h)
  have HSY := hid hsy
  have HCO := hid hco
  rw [← hL]
  rw [← hM] at HN
  clear hs hlc hcm hzs hL hM hm9 hss hgood hsy hco
  go_enter Try.func4, Try.ntmps4
  go_wp2_with fail
  refine HN.out.mono ?_
  rintro e w1 ⟨b, rfl, htb, hb1⟩
  have HTB1 := hid htb
  have HB1 := hid hb1
  have HS1 := hid (HS.out.below hb1)
  clear htb hb1 HN HS
  go_wp2_with fail
  go_loop [9, 10] (fun r i => ∃ t : Nat, t ≤ M ∧ i = .int .i64 (t : Int) ∧ r = .bool true) (fun _ i => M - (intOf i).toNat)
  case atStart => exact ⟨0, Nat.zero_le _, rfl, rfl⟩
  case round =>
    obtain ⟨t, ht, rfl, rfl⟩ := hrel
    by_cases hlt : t < M
    · have hti : (t < M) = True := eq_true hlt
      have HLT := hid hlt
      obtain ⟨ba, o, rfl, hc⟩ : ∃ b o, a = some ⟨b, o, none⟩ ∧ w1.cell? ⟨b, o + t, none⟩ = some (.int .i64 (zs.getD t 0)) := by
        rcases HS1.out with h | ⟨b, o, h, _, hc⟩
        · have := HM.out; rw [h] at this; simp at this; omega
        · exact ⟨b, o, h, hc t (by rw [← HM.out]; exact hlt)⟩
      have hzg := HGD.out (zs.getD t 0) (by rw [List.getD_eq_getElem?_getD, List.getElem?_eq_getElem (by rw [← HM.out]; exact hlt)]; exact List.getElem_mem _)
      obtain ⟨z, hz⟩ : ∃ z, z = zs.getD t 0 := ⟨_, rfl⟩
      rw [← hz] at hc hzg
      obtain ⟨h1, h2⟩ := hzg
      clear hlt hz
      go_wp2_with fail
      go_round
      case rel => exact ⟨t + 1, HLT.out, by go_num, rfl⟩
      case measure => simp [intOf]; have := HLT.out; omega
    · have hti : (t < M) = False := eq_false hlt
      have HRT := hid (refTable_any _ w1 a c zs HS1.out (by rw [← HM.out]; omega))
      rw [← HM.out] at HRT
      clear hlt
      go_wp2_with fail
      refine HRT.out.mono ?_
      rintro e w2 ⟨us, uc, rfl, hus, huc, hb2⟩
      have HUS := hid hus
      have HUC := hid huc
      have HB2 := hid (HB1.out.trans (hb2.mono HB1.out.size))
      have HTB2 := hid (pa.below HTB1.out hb2)
      have HS2 := hid (HS1.out.below hb2)
      obtain ⟨a5, c1, huse⟩ := own_slice hus
      obtain ⟨a6, c2, huce⟩ := own_slice huc
      have HSG := hid (pa.pSigma w2 b _ _ HTB2.out)
      obtain ⟨ss, hsse⟩ : ∃ ss, ss = symT zs 258 := ⟨_, rfl⟩
      obtain ⟨cs, hcse⟩ : ∃ cs, cs = cntT zs 258 := ⟨_, rfl⟩
      have HSE := hid hsse
      have HCE := hid hcse
      obtain ⟨S, hS⟩ : ∃ S, S = ss.length := ⟨_, rfl⟩
      have HSS := hid hS
      have HCS : Hid (cs.length = S) := hid (by rw [hcse, cntT_len, hS, hsse])
      have hS258 : (S : Int) ≤ 258 := by have := symT_len zs 258; rw [hS, hsse]; omega
      have HSUM : Hid (cs.sum = M) := hid (by rw [hcse, cntT_all HGD.out, HM.out])
      rw [← hsse] at HUS huse HTB2 HSG
      rw [← hcse] at HUC huce HTB2
      rw [← hS] at huse HUS HSG
      rw [HCS.out] at huce HUC
      rw [huse] at HUS ⊢
      rw [huce] at HUC ⊢
      clear hus huc hb2 huse huce hsse hcse hS HRT HB1 HTB1 HS1
      go_wp2_with fail
      refine HSG.out.mono ?_
      rintro e w3 ⟨rfl, hb3⟩
      have HB3 := hid (HB2.out.trans (hb3.mono HB2.out.size))
      have HTB3 := hid (pa.below HTB2.out hb3)
      have HS3 := hid (HS2.out.below hb3)
      have HUS3 := hid (owns_mv (F := fun _ => False) HUS.out (Mv.of_below hb3) fun _ _ => id)
      have HUC3 := hid (owns_mv (F := fun _ => False) HUC.out (Mv.of_below hb3) fun _ _ => id)
      have HLN := hid (pa.pLen w3 b _ _ HTB3.out)
      rw [HSUM.out] at HLN
      clear hb3 HSG HB2 HTB2 HS2 HUS HUC
      go_wp2_with fail
      refine HLN.out.mono ?_
      rintro e w4 ⟨rfl, hb4⟩
      have HB4 := hid (HB3.out.trans (hb4.mono HB3.out.size))
      have HTB4 := hid (pa.below HTB3.out hb4)
      have HS4 := hid (HS3.out.below hb4)
      have HUS4 := hid (owns_mv (F := fun _ => False) HUS3.out (Mv.of_below hb4) fun _ _ => id)
      have HUC4 := hid (owns_mv (F := fun _ => False) HUC3.out (Mv.of_below hb4) fun _ _ => id)
      clear hb4 HLN HB3 HTB3 HS3 HUS3 HUC3
      go_wp2_with fail
      go_loopw [13, 14] (fun nv cv wr => ∃ t : Nat, t ≤ S ∧ cv = .int .i64 (t : Int) ∧ nv = .int .i64 (((cs.take t).sum : Nat) : Int) ∧ Below w4.heap.size w4 wr) (fun _ cv _ => S + 1 - (intOf cv).toNat)
      case atStart => exact ⟨0, Nat.zero_le _, rfl, by rw [List.take_zero]; rfl, Below.refl _ _⟩
      case round =>
        obtain ⟨t, ht, rfl, rfl, hb⟩ := hrel
        have HBR := hid hb
        have HTB := hid (pa.below HTB4.out hb)
        have hti : (t ≤ S) = True := eq_true ht
        have hti2 : (t : Int) ≤ (S : Int) := by omega
        have HTI : Hid (i64a (t : Int)) := hid (by unfold i64a; omega)
        have HSUMT : Hid ((cs.take t).sum ≤ 200) := hid (by
          have h2 := congrArg List.sum (List.take_append_drop t cs)
          rw [List.sum_append, HSUM.out] at h2
          omega)
        have HCC : Hid (Calls Try.prog 19 #[.pointer (some ⟨b, 0, none⟩), .int .i64 (t : Int)] wr fun e w' => e = .returned (.tuple #[.int .i64 (((cs.take t).sum : Nat) : Int), .int .i64 0]) ∧ Below wr.heap.size wr w') := hid (by
          refine (pa.pC wr b ss cs t HTB.out HTI.out).mono ?_
          rintro e w' ⟨z, rfl, hz, hb⟩
          rw [if_pos (by rw [← HSS.out]; omega), hz (by rw [← HSS.out]; omega), Int.toNat_natCast]
          exact ⟨rfl, hb⟩)
        obtain ⟨q, hq⟩ : ∃ q, q = (cs.take t).sum := ⟨_, rfl⟩
        rw [← hq] at HCC HSUMT ⊢
        have HQ := hid hq
        clear hb hq
        go_wp2_with fail
        refine HCC.out.mono ?_
        rintro e w5 ⟨rfl, hb5⟩
        have HB5 := hid (HBR.out.trans (hb5.mono HBR.out.size))
        have HTB5 := hid (pa.below HTB.out hb5)
        clear hb5 HCC HBR HTB
        by_cases htS : t < S
        · have htb2 : (t == S) = false := by simp; omega
          have htei : ((t : Int) == (S : Int)) = false := by simp; omega
          have htS2 : (t : Int) < (S : Int) := by omega
          have HTS := hid htS
          obtain ⟨gs, c1', he1, -, -⟩ := own_here HUS4.out (by omega)
          obtain ⟨gc, c2', he2, -, -⟩ := own_here HUC4.out (by omega)
          simp only [Value.slice.injEq, true_and] at he1 he2
          obtain ⟨rfl, rfl⟩ := he1
          obtain ⟨rfl, rfl⟩ := he2
          obtain ⟨sy, hsy⟩ : ∃ sy, sy = ss.getD t 0 := ⟨_, rfl⟩
          obtain ⟨cn, hcn⟩ : ∃ cn, cn = cs.getD t 0 := ⟨_, rfl⟩
          have hmem : sy ∈ ss := by rw [hsy]; exact getD_mem' (by rw [← HSS.out]; exact htS)
          have hcd : codeT ss (sy : Int) = t := by rw [hsy, HSE.out]; exact codeT_get zs (by rw [← HSE.out, ← HSS.out]; exact htS)
          have hsyb := (symT_lt zs 258 sy (by rw [← HSE.out]; exact hmem)).1
          have HCEL : Hid (∀ z, Below w4.heap.size w4 z → z.cell? ⟨gs, t, none⟩ = some (.int .i64 (sy : Int)) ∧ z.cell? ⟨gc, t, none⟩ = some (.int .i64 (cn : Int))) := hid fun z hz => by
            have h1 := (owns_mv (F := fun _ => False) HUS4.out (Mv.of_below hz) fun _ _ => id).cells (g := gs) rfl t _ (nvals_get (by rw [← HSS.out]; exact htS))
            have h2 := (owns_mv (F := fun _ => False) HUC4.out (Mv.of_below hz) fun _ _ => id).cells (g := gc) rfl t _ (nvals_get (by rw [HCS.out]; exact htS))
            rw [Addr.add_lit, ← hsy] at h1
            rw [Addr.add_lit, ← hcn] at h2
            simp only [Nat.zero_add] at h1 h2
            exact ⟨h1, h2⟩
          have HSB : Hid (Calls Try.prog 20 #[.pointer (some ⟨b, 0, none⟩), .int .i64 (t : Int)] w5 fun e w' => e = .returned (.tuple #[.int .i64 (sy : Int), .int .i64 0]) ∧ Below w5.heap.size w5 w') := hid (by
            refine (pa.pSymbol w5 b ss cs t HTB5.out HTI.out).mono ?_
            rintro e w' ⟨z, rfl, hz, hb⟩
            rw [if_pos (by rw [← HSS.out]; omega), hz (by rw [← HSS.out]; omega), Int.toNat_natCast, ← hsy]
            exact ⟨rfl, hb⟩)
          have HCD : Hid (∀ z, Tb z b ss cs → Calls Try.prog 21 #[.pointer (some ⟨b, 0, none⟩), .int .i64 (sy : Int)] z fun e w' => e = .returned (.tuple #[.int .i64 (t : Int), .int .i64 0]) ∧ Below z.heap.size z w') := hid fun z hz => by
            refine (pa.pCode z b ss cs sy hz (by unfold i64a; omega)).mono ?_
            rintro e w' ⟨k, rfl, hk, hb⟩
            rw [if_pos ⟨by omega, by rw [Int.toNat_natCast]; exact hmem⟩, hk ⟨by omega, by rw [Int.toNat_natCast]; exact hmem⟩, hcd]
            exact ⟨rfl, hb⟩
          have HCN : Hid (∀ z, Tb z b ss cs → Calls Try.prog 22 #[.pointer (some ⟨b, 0, none⟩), .int .i64 (t : Int)] z fun e w' => e = .returned (.int .i64 (cn : Int)) ∧ Below z.heap.size z w') := hid fun z hz => by
            refine (pa.pCount z b ss cs t hz HTI.out).mono ?_
            rintro e w' ⟨rfl, hb⟩
            rw [if_pos (by rw [← HSS.out]; omega), Int.toNat_natCast, ← hcn]
            exact ⟨rfl, hb⟩
          obtain ⟨q2, hq2⟩ : ∃ q2, q2 = q + cn := ⟨_, rfl⟩
          have HQ2 : Hid (q2 = (cs.take (t + 1)).sum) := hid (by rw [hq2, HQ.out, hcn]; exact sum_take_le cs t (by rw [HCS.out]; exact htS))
          have hq2b : q2 ≤ 200 := by
            rw [HQ2.out]
            have h2 := congrArg List.sum (List.take_append_drop (t + 1) cs)
            rw [List.sum_append, HSUM.out] at h2
            omega
          have hqi : (q : Int) + (cn : Int) = (q2 : Int) := by omega
          have hqw : IntKind.i64.wrap (q2 : Int) = (q2 : Int) := by rw [IntKind.wrap_i64]; omega
          clear htS hsy hcn hmem hcd hsyb hq2 hq2b
          go_wp2_with fail
          refine HSB.out.mono ?_
          rintro e w6 ⟨rfl, hb6⟩
          have HB6 := hid (HB5.out.trans (hb6.mono HB5.out.size))
          have HTB6 := hid (pa.below HTB5.out hb6)
          obtain ⟨j1, j2⟩ := HCEL.out w6 HB6.out
          clear hb6 HSB HB5 HTB5
          go_wp2_with fail
          refine (HCD.out w6 HTB6.out).mono ?_
          rintro e w7 ⟨rfl, hb7⟩
          have HB7 := hid (HB6.out.trans (hb7.mono HB6.out.size))
          have HTB7 := hid (pa.below HTB6.out hb7)
          have HC : Hid (∀ z, Grew w7.drew z → z.cell? ⟨gs, t, none⟩ = some (.int .i64 (sy : Int)) ∧ z.cell? ⟨gc, t, none⟩ = some (.int .i64 (cn : Int))) := hid fun z hz =>
            HCEL.out z (HB7.out.trans (Below.mono (show Below w7.heap.size w7 z from ⟨hz.os, hz.tape, hz.output, hz.size, hz.block⟩) HB7.out.size))
          have HCT : Hid (∀ z, Grew w7.drew z → Calls Try.prog 22 #[.pointer (some ⟨b, 0, none⟩), .int .i64 (t : Int)] z fun e w' => e = .returned (.int .i64 (cn : Int)) ∧ Below z.heap.size z w') := hid fun z hz =>
            HCN.out z (pa.below HTB7.out (show Below w7.heap.size w7 z from ⟨hz.os, hz.tape, hz.output, hz.size, hz.block⟩))
          clear hb7 HCD HB6 HTB6 j1 j2
          go_wp2_with fail
          refine wp_region_grows 29 [EqN (.int .i64 0), EqN (.bool false), EqN (.bool false), EqN (.int .i64 (sy : Int)), EqN (.slice (some ⟨gs, 0, none⟩) S c1), EqN (.int .i64 (t : Int)), EqN (.pointer (some ⟨gs, t, none⟩)), EqN (.int .i64 (sy : Int)), EqN (.bool false), EqN (.bool false), EqN (.bool false), EqN (.int .i64 0), EqN (.bool false), EqN (.bool false), EqN (.bool false), EqN (.int .i64 (t : Int)), EqN (.int .i64 (t : Int)), EqN (.bool false), EqN (.bool false), EqN (.bool false), EqN (.pointer (some ⟨b, 0, none⟩)), EqN (.int .i64 (t : Int)), EqN (.int .i64 (cn : Int)), EqN (.slice (some ⟨gc, 0, none⟩) S c2), EqN (.int .i64 (t : Int)), EqN (.pointer (some ⟨gc, t, none⟩)), EqN (.int .i64 (cn : Int)), EqN (.bool false), EqN (.bool false)] (by kernel_rfl) (by decide) (by kernel_rfl) ?_ ?_ ?_
          · repeat' (first | exact List.forall_mem_nil _ | refine List.forall_mem_cons.2 ⟨?_, ?_⟩)
            all_goals
              intro w w' v hw h
              exact h
          · simp only [AllLt]
            refine ⟨⟨⟨⟨⟨⟨⟨⟨⟨⟨⟨⟨⟨⟨⟨⟨⟨⟨⟨⟨⟨⟨⟨⟨⟨⟨⟨⟨⟨trivial, ?_⟩, ?_⟩, ?_⟩, ?_⟩, ?_⟩, ?_⟩, ?_⟩, ?_⟩, ?_⟩, ?_⟩, ?_⟩, ?_⟩, ?_⟩, ?_⟩, ?_⟩, ?_⟩, ?_⟩, ?_⟩, ?_⟩, ?_⟩, ?_⟩, ?_⟩, ?_⟩, ?_⟩, ?_⟩, ?_⟩, ?_⟩, ?_⟩, ?_⟩
            all_goals
              intro o' ho
              simp at ho
              subst ho
              intro ρ w5 hR hL hS hG
              obtain ⟨hl1, hl2, -⟩ := hL
            · refine plainG rfl ?_
              intro bA K Q' hK
              have e18 := hS 18 (by kernel_rfl)
              change ρ (.tmp 18) = _ at e18
              simp only [execOp]
              go_simp
              exact hK _ _ rfl (Grew.refl _)
            · refine plainG rfl ?_
              intro bA K Q' hK
              have e133 := hG 0 133 (by decide) (by kernel_rfl) (by kernel_rfl)
              change ρ (.tmp 133) = _ at e133
              simp only [execOp]
              go_simp
              exact hK _ _ rfl (Grew.refl _)
            · refine plainG rfl ?_
              intro bA K Q' hK
              have e134 := hG 1 134 (by decide) (by kernel_rfl) (by kernel_rfl)
              change ρ (.tmp 134) = _ at e134
              simp only [execOp]
              go_simp
              exact hK _ _ rfl (Grew.refl _)
            · have eG : ρ (.tmp 135) = _ := hG 2 135 (by decide) (by kernel_rfl) (by kernel_rfl)
              refine onG rfl (by kernel_rfl) eG ?_
              intro bA K Q' hK
              have e17 := hS 17 (by kernel_rfl)
              change ρ (.tmp 17) = _ at e17
              simp only [execOp]
              go_simp
              exact hK _ _ rfl (Grew.refl _)
            · have eG : ρ (.tmp 135) = _ := hG 2 135 (by decide) (by kernel_rfl) (by kernel_rfl)
              refine onG rfl (by kernel_rfl) eG ?_
              intro bA K Q' hK
              have e11 := hS 11 (by kernel_rfl)
              change ρ (.tmp 11) = _ at e11
              simp only [execOp]
              go_simp
              exact hK _ _ rfl (Grew.refl _)
            · have eG : ρ (.tmp 135) = _ := hG 2 135 (by decide) (by kernel_rfl) (by kernel_rfl)
              refine onG rfl (by kernel_rfl) eG ?_
              intro bA K Q' hK
              have e14 := hS 14 (by kernel_rfl)
              change ρ (.tmp 14) = _ at e14
              simp only [execOp]
              go_simp
              exact hK _ _ rfl (Grew.refl _)
            · have eG : ρ (.tmp 135) = _ := hG 2 135 (by decide) (by kernel_rfl) (by kernel_rfl)
              refine onG rfl (by kernel_rfl) eG ?_
              intro bA K Q' hK
              have e137 := hG 4 137 (by decide) (by kernel_rfl) (by kernel_rfl)
              have e138 := hG 5 138 (by decide) (by kernel_rfl) (by kernel_rfl)
              change ρ (.tmp 137) = _ at e137
              change ρ (.tmp 138) = _ at e138
              simp only [execOp]
              go_simp
              exact hK _ _ rfl (Grew.refl _)
            · have eG : ρ (.tmp 135) = _ := hG 2 135 (by decide) (by kernel_rfl) (by kernel_rfl)
              refine onG rfl (by kernel_rfl) eG ?_
              intro bA K Q' hK
              have e139 := hG 6 139 (by decide) (by kernel_rfl) (by kernel_rfl)
              change ρ (.tmp 139) = _ at e139
              obtain ⟨y0, y1⟩ := HC.out w5 hR
              simp only [execOp]
              go_simp
              exact hK _ _ rfl (Grew.refl _)
            · have eG : ρ (.tmp 135) = _ := hG 2 135 (by decide) (by kernel_rfl) (by kernel_rfl)
              refine onG rfl (by kernel_rfl) eG ?_
              intro bA K Q' hK
              have e136 := hG 3 136 (by decide) (by kernel_rfl) (by kernel_rfl)
              have e140 := hG 7 140 (by decide) (by kernel_rfl) (by kernel_rfl)
              change ρ (.tmp 136) = _ at e136
              change ρ (.tmp 140) = _ at e140
              simp only [execOp]
              go_simp
              exact hK _ _ rfl (Grew.refl _)
            · refine plainG rfl ?_
              intro bA K Q' hK
              have e135 := hG 2 135 (by decide) (by kernel_rfl) (by kernel_rfl)
              have e141 := hG 8 141 (by decide) (by kernel_rfl) (by kernel_rfl)
              change ρ (.tmp 135) = _ at e135
              change ρ (.tmp 141) = _ at e141
              simp only [execOp]
              go_simp
              exact hK _ _ rfl (Grew.refl _)
            · refine plainG rfl ?_
              intro bA K Q' hK
              have e142 := hG 9 142 (by decide) (by kernel_rfl) (by kernel_rfl)
              change ρ (.tmp 142) = _ at e142
              simp only [execOp]
              go_simp
              exact hK _ _ rfl (Grew.refl _)
            · have eG : ρ (.tmp 143) = _ := hG 10 143 (by decide) (by kernel_rfl) (by kernel_rfl)
              refine onG rfl (by kernel_rfl) eG ?_
              intro bA K Q' hK
              have e20 := hS 20 (by kernel_rfl)
              change ρ (.tmp 20) = _ at e20
              simp only [execOp]
              go_simp
              exact hK _ _ rfl (Grew.refl _)
            · have eG : ρ (.tmp 143) = _ := hG 10 143 (by decide) (by kernel_rfl) (by kernel_rfl)
              refine onG rfl (by kernel_rfl) eG ?_
              intro bA K Q' hK
              have e144 := hG 11 144 (by decide) (by kernel_rfl) (by kernel_rfl)
              change ρ (.tmp 144) = _ at e144
              simp only [execOp]
              go_simp
              exact hK _ _ rfl (Grew.refl _)
            · refine plainG rfl ?_
              intro bA K Q' hK
              have e143 := hG 10 143 (by decide) (by kernel_rfl) (by kernel_rfl)
              have e145 := hG 12 145 (by decide) (by kernel_rfl) (by kernel_rfl)
              change ρ (.tmp 143) = _ at e143
              change ρ (.tmp 145) = _ at e145
              simp only [execOp]
              go_simp
              exact hK _ _ rfl (Grew.refl _)
            · refine plainG rfl ?_
              intro bA K Q' hK
              have e146 := hG 13 146 (by decide) (by kernel_rfl) (by kernel_rfl)
              change ρ (.tmp 146) = _ at e146
              simp only [execOp]
              go_simp
              exact hK _ _ rfl (Grew.refl _)
            · have eG : ρ (.tmp 147) = _ := hG 14 147 (by decide) (by kernel_rfl) (by kernel_rfl)
              refine onG rfl (by kernel_rfl) eG ?_
              intro bA K Q' hK
              have e19 := hS 19 (by kernel_rfl)
              change ρ (.tmp 19) = _ at e19
              simp only [execOp]
              go_simp
              exact hK _ _ rfl (Grew.refl _)
            · have eG : ρ (.tmp 147) = _ := hG 14 147 (by decide) (by kernel_rfl) (by kernel_rfl)
              refine onG rfl (by kernel_rfl) eG ?_
              intro bA K Q' hK
              have e14 := hS 14 (by kernel_rfl)
              change ρ (.tmp 14) = _ at e14
              simp only [execOp]
              go_simp
              exact hK _ _ rfl (Grew.refl _)
            · have eG : ρ (.tmp 147) = _ := hG 14 147 (by decide) (by kernel_rfl) (by kernel_rfl)
              refine onG rfl (by kernel_rfl) eG ?_
              intro bA K Q' hK
              have e148 := hG 15 148 (by decide) (by kernel_rfl) (by kernel_rfl)
              have e149 := hG 16 149 (by decide) (by kernel_rfl) (by kernel_rfl)
              change ρ (.tmp 148) = _ at e148
              change ρ (.tmp 149) = _ at e149
              simp only [execOp]
              go_simp
              exact hK _ _ rfl (Grew.refl _)
            · refine plainG rfl ?_
              intro bA K Q' hK
              have e147 := hG 14 147 (by decide) (by kernel_rfl) (by kernel_rfl)
              have e150 := hG 17 150 (by decide) (by kernel_rfl) (by kernel_rfl)
              change ρ (.tmp 147) = _ at e147
              change ρ (.tmp 150) = _ at e150
              simp only [execOp]
              go_simp
              exact hK _ _ rfl (Grew.refl _)
            · refine plainG rfl ?_
              intro bA K Q' hK
              have e151 := hG 18 151 (by decide) (by kernel_rfl) (by kernel_rfl)
              change ρ (.tmp 151) = _ at e151
              simp only [execOp]
              go_simp
              exact hK _ _ rfl (Grew.refl _)
            · have eG : ρ (.tmp 152) = _ := hG 19 152 (by decide) (by kernel_rfl) (by kernel_rfl)
              refine onG rfl (by kernel_rfl) eG ?_
              intro bA K Q' hK
              have e7 := hS 7 (by kernel_rfl)
              change ρ (.tmp 7) = _ at e7
              simp only [execOp]
              go_simp
              exact hK _ _ rfl (Grew.refl _)
            · have eG : ρ (.tmp 152) = _ := hG 19 152 (by decide) (by kernel_rfl) (by kernel_rfl)
              refine onG rfl (by kernel_rfl) eG ?_
              intro bA K Q' hK
              have e14 := hS 14 (by kernel_rfl)
              change ρ (.tmp 14) = _ at e14
              simp only [execOp]
              go_simp
              exact hK _ _ rfl (Grew.refl _)
            · have eG : ρ (.tmp 152) = _ := hG 19 152 (by decide) (by kernel_rfl) (by kernel_rfl)
              refine onG rfl (by kernel_rfl) eG ?_
              intro bA K Q' hK
              have e153 := hG 20 153 (by decide) (by kernel_rfl) (by kernel_rfl)
              have e154 := hG 21 154 (by decide) (by kernel_rfl) (by kernel_rfl)
              change ρ (.tmp 153) = _ at e153
              change ρ (.tmp 154) = _ at e154
              simp only [execOp]
              go_simp
              refine (HCT.out w5 hR).mono ?_
              rintro r9 w9 ⟨rfl, hb9⟩
              exact hK _ _ rfl hb9
            · have eG : ρ (.tmp 152) = _ := hG 19 152 (by decide) (by kernel_rfl) (by kernel_rfl)
              refine onG rfl (by kernel_rfl) eG ?_
              intro bA K Q' hK
              have e12 := hS 12 (by kernel_rfl)
              change ρ (.tmp 12) = _ at e12
              simp only [execOp]
              go_simp
              exact hK _ _ rfl (Grew.refl _)
            · have eG : ρ (.tmp 152) = _ := hG 19 152 (by decide) (by kernel_rfl) (by kernel_rfl)
              refine onG rfl (by kernel_rfl) eG ?_
              intro bA K Q' hK
              have e14 := hS 14 (by kernel_rfl)
              change ρ (.tmp 14) = _ at e14
              simp only [execOp]
              go_simp
              exact hK _ _ rfl (Grew.refl _)
            · have eG : ρ (.tmp 152) = _ := hG 19 152 (by decide) (by kernel_rfl) (by kernel_rfl)
              refine onG rfl (by kernel_rfl) eG ?_
              intro bA K Q' hK
              have e156 := hG 23 156 (by decide) (by kernel_rfl) (by kernel_rfl)
              have e157 := hG 24 157 (by decide) (by kernel_rfl) (by kernel_rfl)
              change ρ (.tmp 156) = _ at e156
              change ρ (.tmp 157) = _ at e157
              simp only [execOp]
              go_simp
              exact hK _ _ rfl (Grew.refl _)
            · have eG : ρ (.tmp 152) = _ := hG 19 152 (by decide) (by kernel_rfl) (by kernel_rfl)
              refine onG rfl (by kernel_rfl) eG ?_
              intro bA K Q' hK
              have e158 := hG 25 158 (by decide) (by kernel_rfl) (by kernel_rfl)
              change ρ (.tmp 158) = _ at e158
              obtain ⟨y0, y1⟩ := HC.out w5 hR
              simp only [execOp]
              go_simp
              exact hK _ _ rfl (Grew.refl _)
            · have eG : ρ (.tmp 152) = _ := hG 19 152 (by decide) (by kernel_rfl) (by kernel_rfl)
              refine onG rfl (by kernel_rfl) eG ?_
              intro bA K Q' hK
              have e155 := hG 22 155 (by decide) (by kernel_rfl) (by kernel_rfl)
              have e159 := hG 26 159 (by decide) (by kernel_rfl) (by kernel_rfl)
              change ρ (.tmp 155) = _ at e155
              change ρ (.tmp 159) = _ at e159
              simp only [execOp]
              go_simp
              exact hK _ _ rfl (Grew.refl _)
            · refine plainG rfl ?_
              intro bA K Q' hK
              have e152 := hG 19 152 (by decide) (by kernel_rfl) (by kernel_rfl)
              have e160 := hG 27 160 (by decide) (by kernel_rfl) (by kernel_rfl)
              change ρ (.tmp 152) = _ at e152
              change ρ (.tmp 160) = _ at e160
              simp only [execOp]
              go_simp
              exact hK _ _ rfl (Grew.refl _)
          · intro vv w8 hR hG
            have h28 : vv 28 = .bool false := hG.2
            have hb8 : Below w7.heap.size w7 w8 := ⟨hR.os, hR.tape, hR.output, hR.size, hR.block⟩
            have HB8 := hid (HB7.out.trans (hb8.mono HB7.out.size))
            obtain ⟨j1, j2⟩ := HCEL.out w8 HB8.out
            clear hG hR hb8 HC HCT HCN HCEL
            simp [stG, stU, dstAt, Act.put, h28]
            clear h28
            go_wp2_with fail
            go_roundw
            case rel => exact ⟨t + 1, HTS.out, by go_num, by rw [← HQ2.out], HB8.out⟩
            case measure => simp [intOf]; have := HTS.out; omega
        · have hte : (t == S) = true := by simp; omega
          have htei : ((t : Int) == (S : Int)) = true := by simp; omega
          have HB6 := hid (HB4.out.trans (HB5.out.mono HB4.out.size))
          have HSW : Hid (∀ z, Below W.heap.size W z → Si (fun i => i < W.heap.size) z a zs) := hid fun z hz => HSI.out.below hz
          obtain ⟨k, hk⟩ : ∃ k, k = zs.count sym := ⟨_, rfl⟩
          obtain ⟨F, hF⟩ : ∃ F, F = decide (0 < k) := ⟨_, rfl⟩
          obtain ⟨E1, hE1⟩ : ∃ E1 : Int, E1 = if 0 ≤ sym ∧ sym.toNat ∈ ss then 0 else 7 := ⟨_, rfl⟩
          have hE1b : (E1 == 0) = F := by
            have h := in_table HGD.out sym
            rw [← HSE.out, ← hk] at h
            rw [hE1, hF]
            by_cases h1 : 0 < k
            · rw [if_pos (h.2 h1), decide_eq_true h1]; rfl
            · rw [if_neg (fun h2 => h1 (h.1 h2)), decide_eq_false h1]; rfl
          have hkb : (k : Int) ≤ 200 := by rw [hk]; have := List.count_le_length (a := sym) (l := zs); rw [← HM.out] at this; omega
          have hkd : decide (0 < k) = F := hF.symm
          have hki : decide ((0 : Int) < (k : Int)) = F := by rw [hF, decide_eq_decide]; omega
          have HC1 : Hid (∀ z, Tb z b ss cs → Calls Try.prog 21 #[.pointer (some ⟨b, 0, none⟩), .int .i64 sym] z fun e w' => ∃ y, e = .returned (.tuple #[.int .i64 y, .int .i64 E1]) ∧ Below z.heap.size z w') := hid fun z hz => by
            refine (pa.pCode z b ss cs sym hz HSY.out).mono ?_
            rintro e w' ⟨y, rfl, -, hb⟩
            exact ⟨y, by rw [hE1], hb⟩
          have HRC : Hid (∀ z, Below W.heap.size W z → Calls Try.prog 23 #[.slice a M c, .int .i64 sym] z fun e w' => e = .returned (.int .i64 (k : Int)) ∧ z = w') := hid fun z hz => by
            rw [hk, HM.out]
            exact refCount_any _ z a c zs sym (HSW.out z hz) (by rw [← HM.out]; omega)
          have HCOD : Hid (∀ z, Tb z b ss cs → Below W.heap.size W z → Calls Try.prog 24 #[.pointer (some ⟨b, 0, none⟩), .slice a M c] z fun e w' => ∃ u cu, e = .returned (.tuple #[.slice u M cu, .int .i64 0]) ∧ Si (fun g => z.heap.size ≤ g) w' u (zs.map fun z => (codeT ss z : Int)) ∧ Below z.heap.size z w') := hid fun z hz hb => by
            rw [HM.out]
            exact pa.pCodes _ z b ss cs a c zs hz (HSW.out z hb) (by rw [← HM.out]; omega) (by rw [HSE.out]; exact mem_table HGD.out)
          have HSYM : Hid (∀ z u cu, Tb z b ss cs → (∀ {okk : Nat → Prop}, Si okk z u (zs.map fun z => (codeT ss z : Int)) → Calls Try.prog 25 #[.pointer (some ⟨b, 0, none⟩), .slice u M cu] z fun e w' => ∃ u2 cu2, e = .returned (.tuple #[.slice u2 M cu2, .int .i64 0]) ∧ Si (fun g => z.heap.size ≤ g) w' u2 zs ∧ Below z.heap.size z w')) := hid fun z u cu hz okk hsi => by
            have h := pa.pSymbols _ z b ss cs u cu (zs.map fun z => (codeT ss z : Int)) hz hsi (by rw [List.length_map, ← HM.out]; omega) (by rw [HSE.out]; exact codes_lt HGD.out)
            rw [List.length_map, ← HM.out, HSE.out, codes_back HGD.out] at h
            exact h
          have HSAM : Hid (∀ z u cu, (∀ {okk : Nat → Prop}, Si okk z u zs → Below W.heap.size W z → Calls Try.prog 10 #[.slice u M cu, .slice a M c] z fun e w' => e = .returned (.bool true) ∧ Below z.heap.size z w')) := hid fun z u cu okk hsi hb => by
            have h := refSame_any _ _ u a cu c zs zs z hsi (HSW.out z hb) (by rw [← HM.out]; omega)
            rw [decide_eq_true rfl, ← HM.out] at h
            exact h
          have HQ2 : Hid (∀ z, Tb z b ss cs → Calls Try.prog 20 #[.pointer (some ⟨b, 0, none⟩), .int .i64 code] z fun e w' => ∃ y, e = .returned (.tuple #[.int .i64 y, .int .i64 (if 0 ≤ code ∧ code < S then 0 else 7)]) ∧ Below z.heap.size z w') := hid fun z hz => by
            refine (pa.pSymbol z b ss cs code hz HCO.out).mono ?_
            rintro e w' ⟨y, rfl, -, hb⟩
            exact ⟨y, by rw [← HSS.out], hb⟩
          have HQ3 : Hid (∀ z, Tb z b ss cs → Calls Try.prog 19 #[.pointer (some ⟨b, 0, none⟩), .int .i64 code] z fun e w' => ∃ y, e = .returned (.tuple #[.int .i64 y, .int .i64 (if 0 ≤ code ∧ code ≤ S then 0 else 10)]) ∧ Below z.heap.size z w') := hid fun z hz => by
            refine (pa.pC z b ss cs code hz HCO.out).mono ?_
            rintro e w' ⟨y, rfl, -, hb⟩
            exact ⟨y, by rw [← HSS.out], hb⟩
          have HQ0 : Hid (∀ z, Tb z b ss cs → Calls Try.prog 22 #[.pointer (some ⟨b, 0, none⟩), .int .i64 code] z fun e w' => ∃ y, e = .returned (.int .i64 y) ∧ (¬ (0 ≤ code ∧ code < S) → y = 0) ∧ Below z.heap.size z w') := hid fun z hz => by
            refine (pa.pCount z b ss cs code hz HCO.out).mono ?_
            rintro e w' ⟨rfl, hb⟩
            exact ⟨_, rfl, fun h => by rw [if_neg (by rw [← HSS.out]; exact h)], hb⟩
          clear htS HB4 HB5 HTB4 HUS4 HUC4 HQ hk hF hE1 HSW
          by_cases hA : 0 ≤ code ∧ code < S
          · have HC2 : Hid (∀ z, Tb z b ss cs → Calls Try.prog 20 #[.pointer (some ⟨b, 0, none⟩), .int .i64 code] z fun e w' => ∃ y, e = .returned (.tuple #[.int .i64 y, .int .i64 0]) ∧ Below z.heap.size z w') := hid fun z hz => by
              have h := HQ2.out z hz
              rw [if_pos hA] at h; exact h
            have HC3 : Hid (∀ z, Tb z b ss cs → Calls Try.prog 19 #[.pointer (some ⟨b, 0, none⟩), .int .i64 code] z fun e w' => ∃ y, e = .returned (.tuple #[.int .i64 y, .int .i64 0]) ∧ Below z.heap.size z w') := hid fun z hz => by
              have h := HQ3.out z hz
              rw [if_pos ⟨hA.1, by omega⟩] at h; exact h
            obtain ⟨hA1, hA2⟩ := hA
            clear HQ2 HQ3 HQ0
            go_wp2_with fail
            refine (HC1.out w5 HTB5.out).mono ?_
            rintro e w6 ⟨v6, rfl, hb6⟩
            have HB7 := hid (HB6.out.trans (hb6.mono HB6.out.size))
            have HTB6 := hid (pa.below HTB5.out hb6)
            clear hb6
            go_wp2_with fail
            refine (HC2.out w6 HTB6.out).mono ?_
            rintro e w7 ⟨v7, rfl, hb7⟩
            have HB8 := hid (HB7.out.trans (hb7.mono HB7.out.size))
            have HTB7 := hid (pa.below HTB6.out hb7)
            clear hb7 HB7
            go_wp2_with fail
            refine (HC3.out w7 HTB7.out).mono ?_
            rintro e w8 ⟨v8, rfl, hb8⟩
            have HB9 := hid (HB8.out.trans (hb8.mono HB8.out.size))
            have HTB8 := hid (pa.below HTB7.out hb8)
            clear hb8 HB8
            go_wp2_with fail
            refine (HRC.out w8 HB9.out).mono ?_
            rintro e w8' ⟨rfl, rfl⟩
            go_wp2_with fail
            obtain ⟨w9, hw9⟩ : ∃ w9, w9 = w8 := ⟨_, rfl⟩
            subst hw9
            have HB10 := HB9
            have HTB9 := HTB8
            clear HB9
            refine (HCOD.out w9 HTB9.out HB10.out).mono ?_
            rintro e w10 ⟨u10, c10, rfl, hs10, hb10⟩
            have HB11 := hid (HB10.out.trans (hb10.mono HB10.out.size))
            have HTB10 := hid (pa.below HTB9.out hb10)
            have HSB := hid (HSYM.out w10 u10 c10 HTB10.out hs10)
            clear hb10 HB10 hs10
            go_wp2_with fail
            refine HSB.out.mono ?_
            rintro e w11 ⟨u11, c11, rfl, hs11, hb11⟩
            have HB12 := hid (HB11.out.trans (hb11.mono HB11.out.size))
            have HX11 := hid hs11
            have HKN := hid (known14_any pa w11)
            clear hb11 hs11 HB11 HSB
            go_wp2_with fail
            refine HKN.out.mono ?_
            rintro e w12 ⟨rfl, hb12⟩
            have HB13 := hid (HB12.out.trans (hb12.mono HB12.out.size))
            have HSM := hid (HSAM.out w12 u11 c11 (HX11.out.below hb12) HB13.out)
            clear hb12 HB12 HX11 HKN
            go_wp2_with fail
            refine HSM.out.mono ?_
            rintro e w13 ⟨rfl, hb13⟩
            have HB14 := hid (HB13.out.trans (hb13.mono HB13.out.size))
            clear hb13 HB13 HSM
            go_wp2_with fail
            go_ret
            exact ⟨rfl, HB14.out⟩
          · have HC2 : Hid (∀ z, Tb z b ss cs → Calls Try.prog 20 #[.pointer (some ⟨b, 0, none⟩), .int .i64 code] z fun e w' => ∃ y, e = .returned (.tuple #[.int .i64 y, .int .i64 7]) ∧ Below z.heap.size z w') := hid fun z hz => by
              have h := HQ2.out z hz
              rw [if_neg hA] at h; exact h
            have HC0 : Hid (∀ z, Tb z b ss cs → Calls Try.prog 22 #[.pointer (some ⟨b, 0, none⟩), .int .i64 code] z fun e w' => e = .returned (.int .i64 0) ∧ Below z.heap.size z w') := hid fun z hz => by
              refine (HQ0.out z hz).mono ?_
              rintro e w' ⟨y, rfl, hy, hb⟩
              rw [hy hA]
              exact ⟨rfl, hb⟩
            by_cases hB : code = S
            · have HC3 : Hid (∀ z, Tb z b ss cs → Calls Try.prog 19 #[.pointer (some ⟨b, 0, none⟩), .int .i64 code] z fun e w' => ∃ y, e = .returned (.tuple #[.int .i64 y, .int .i64 0]) ∧ Below z.heap.size z w') := hid fun z hz => by
                have h := HQ3.out z hz
                rw [if_pos (by omega)] at h; exact h
              subst hB
              have hS1 : (0 : Int) ≤ (S : Int) := by omega
              clear HQ2 HQ3 HQ0 hA
              go_wp2_with fail
              refine (HC1.out w5 HTB5.out).mono ?_
              rintro e w6 ⟨v6, rfl, hb6⟩
              have HB7 := hid (HB6.out.trans (hb6.mono HB6.out.size))
              have HTB6 := hid (pa.below HTB5.out hb6)
              clear hb6
              go_wp2_with fail
              refine (HC2.out w6 HTB6.out).mono ?_
              rintro e w7 ⟨v7, rfl, hb7⟩
              have HB8 := hid (HB7.out.trans (hb7.mono HB7.out.size))
              have HTB7 := hid (pa.below HTB6.out hb7)
              clear hb7 HB7
              go_wp2_with fail
              refine (HC3.out w7 HTB7.out).mono ?_
              rintro e w8 ⟨v8, rfl, hb8⟩
              have HB9 := hid (HB8.out.trans (hb8.mono HB8.out.size))
              have HTB8 := hid (pa.below HTB7.out hb8)
              clear hb8 HB8
              go_wp2_with fail
              refine (HRC.out w8 HB9.out).mono ?_
              rintro e w8' ⟨rfl, rfl⟩
              go_wp2_with fail
              refine (HC0.out w8 HTB8.out).mono ?_
              rintro e w9 ⟨rfl, hb9⟩
              have HB10 := hid (HB9.out.trans (hb9.mono HB9.out.size))
              have HTB9 := hid (pa.below HTB8.out hb9)
              clear hb9 HB9
              go_wp2_with fail
              refine (HCOD.out w9 HTB9.out HB10.out).mono ?_
              rintro e w10 ⟨u10, c10, rfl, hs10, hb10⟩
              have HB11 := hid (HB10.out.trans (hb10.mono HB10.out.size))
              have HTB10 := hid (pa.below HTB9.out hb10)
              have HSB := hid (HSYM.out w10 u10 c10 HTB10.out hs10)
              clear hb10 HB10 hs10
              go_wp2_with fail
              refine HSB.out.mono ?_
              rintro e w11 ⟨u11, c11, rfl, hs11, hb11⟩
              have HB12 := hid (HB11.out.trans (hb11.mono HB11.out.size))
              have HX11 := hid hs11
              have HKN := hid (known14_any pa w11)
              clear hb11 hs11 HB11 HSB
              go_wp2_with fail
              refine HKN.out.mono ?_
              rintro e w12 ⟨rfl, hb12⟩
              have HB13 := hid (HB12.out.trans (hb12.mono HB12.out.size))
              have HSM := hid (HSAM.out w12 u11 c11 (HX11.out.below hb12) HB13.out)
              clear hb12 HB12 HX11 HKN
              go_wp2_with fail
              refine HSM.out.mono ?_
              rintro e w13 ⟨rfl, hb13⟩
              have HB14 := hid (HB13.out.trans (hb13.mono HB13.out.size))
              clear hb13 HB13 HSM
              go_wp2_with fail
              go_ret
              exact ⟨rfl, HB14.out⟩
            · have HC3 : Hid (∀ z, Tb z b ss cs → Calls Try.prog 19 #[.pointer (some ⟨b, 0, none⟩), .int .i64 code] z fun e w' => ∃ y, e = .returned (.tuple #[.int .i64 y, .int .i64 10]) ∧ Below z.heap.size z w') := hid fun z hz => by
                have h := HQ3.out z hz
                rw [if_neg (by omega)] at h; exact h
              have hBe : (code == (S : Int)) = false := by rw [beq_eq_false_iff_ne]; exact hB
              by_cases hD : 0 ≤ code
              · have hD2 : (S : Int) ≤ code := by omega
                have hD3 : (code < (S : Int)) = False := eq_false (by omega)
                clear HQ2 HQ3 HQ0 hA hB
                go_wp2_with fail
                refine (HC1.out w5 HTB5.out).mono ?_
                rintro e w6 ⟨v6, rfl, hb6⟩
                have HB7 := hid (HB6.out.trans (hb6.mono HB6.out.size))
                have HTB6 := hid (pa.below HTB5.out hb6)
                clear hb6
                go_wp2_with fail
                refine (HC2.out w6 HTB6.out).mono ?_
                rintro e w7 ⟨v7, rfl, hb7⟩
                have HB8 := hid (HB7.out.trans (hb7.mono HB7.out.size))
                have HTB7 := hid (pa.below HTB6.out hb7)
                clear hb7 HB7
                go_wp2_with fail
                refine (HC3.out w7 HTB7.out).mono ?_
                rintro e w8 ⟨v8, rfl, hb8⟩
                have HB9 := hid (HB8.out.trans (hb8.mono HB8.out.size))
                have HTB8 := hid (pa.below HTB7.out hb8)
                clear hb8 HB8
                go_wp2_with fail
                refine (HRC.out w8 HB9.out).mono ?_
                rintro e w8' ⟨rfl, rfl⟩
                go_wp2_with fail
                refine (HC0.out w8 HTB8.out).mono ?_
                rintro e w9 ⟨rfl, hb9⟩
                have HB10 := hid (HB9.out.trans (hb9.mono HB9.out.size))
                have HTB9 := hid (pa.below HTB8.out hb9)
                clear hb9 HB9
                go_wp2_with fail
                refine (HCOD.out w9 HTB9.out HB10.out).mono ?_
                rintro e w10 ⟨u10, c10, rfl, hs10, hb10⟩
                have HB11 := hid (HB10.out.trans (hb10.mono HB10.out.size))
                have HTB10 := hid (pa.below HTB9.out hb10)
                have HSB := hid (HSYM.out w10 u10 c10 HTB10.out hs10)
                clear hb10 HB10 hs10
                go_wp2_with fail
                refine HSB.out.mono ?_
                rintro e w11 ⟨u11, c11, rfl, hs11, hb11⟩
                have HB12 := hid (HB11.out.trans (hb11.mono HB11.out.size))
                have HX11 := hid hs11
                have HKN := hid (known14_any pa w11)
                clear hb11 hs11 HB11 HSB
                go_wp2_with fail
                refine HKN.out.mono ?_
                rintro e w12 ⟨rfl, hb12⟩
                have HB13 := hid (HB12.out.trans (hb12.mono HB12.out.size))
                have HSM := hid (HSAM.out w12 u11 c11 (HX11.out.below hb12) HB13.out)
                clear hb12 HB12 HX11 HKN
                go_wp2_with fail
                refine HSM.out.mono ?_
                rintro e w13 ⟨rfl, hb13⟩
                have HB14 := hid (HB13.out.trans (hb13.mono HB13.out.size))
                clear hb13 HB13 HSM
                go_wp2_with fail
                go_ret
                exact ⟨rfl, HB14.out⟩
              · have hD2 : code < 0 := by omega
                have hD3 : (0 ≤ code) = False := eq_false hD
                clear HQ2 HQ3 HQ0 hA hB hD
                go_wp2_with fail
                refine (HC1.out w5 HTB5.out).mono ?_
                rintro e w6 ⟨v6, rfl, hb6⟩
                have HB7 := hid (HB6.out.trans (hb6.mono HB6.out.size))
                have HTB6 := hid (pa.below HTB5.out hb6)
                clear hb6
                go_wp2_with fail
                refine (HC2.out w6 HTB6.out).mono ?_
                rintro e w7 ⟨v7, rfl, hb7⟩
                have HB8 := hid (HB7.out.trans (hb7.mono HB7.out.size))
                have HTB7 := hid (pa.below HTB6.out hb7)
                clear hb7 HB7
                go_wp2_with fail
                refine (HC3.out w7 HTB7.out).mono ?_
                rintro e w8 ⟨v8, rfl, hb8⟩
                have HB9 := hid (HB8.out.trans (hb8.mono HB8.out.size))
                have HTB8 := hid (pa.below HTB7.out hb8)
                clear hb8 HB8
                go_wp2_with fail
                refine (HRC.out w8 HB9.out).mono ?_
                rintro e w8' ⟨rfl, rfl⟩
                go_wp2_with fail
                refine (HC0.out w8 HTB8.out).mono ?_
                rintro e w9 ⟨rfl, hb9⟩
                have HB10 := hid (HB9.out.trans (hb9.mono HB9.out.size))
                have HTB9 := hid (pa.below HTB8.out hb9)
                clear hb9 HB9
                go_wp2_with fail
                refine (HCOD.out w9 HTB9.out HB10.out).mono ?_
                rintro e w10 ⟨u10, c10, rfl, hs10, hb10⟩
                have HB11 := hid (HB10.out.trans (hb10.mono HB10.out.size))
                have HTB10 := hid (pa.below HTB9.out hb10)
                have HSB := hid (HSYM.out w10 u10 c10 HTB10.out hs10)
                clear hb10 HB10 hs10
                go_wp2_with fail
                refine HSB.out.mono ?_
                rintro e w11 ⟨u11, c11, rfl, hs11, hb11⟩
                have HB12 := hid (HB11.out.trans (hb11.mono HB11.out.size))
                have HX11 := hid hs11
                have HKN := hid (known14_any pa w11)
                clear hb11 hs11 HB11 HSB
                go_wp2_with fail
                refine HKN.out.mono ?_
                rintro e w12 ⟨rfl, hb12⟩
                have HB13 := hid (HB12.out.trans (hb12.mono HB12.out.size))
                have HSM := hid (HSAM.out w12 u11 c11 (HX11.out.below hb12) HB13.out)
                clear hb12 HB12 HX11 HKN
                go_wp2_with fail
                refine HSM.out.mono ?_
                rintro e w13 ⟨rfl, hb13⟩
                have HB14 := hid (HB13.out.trans (hb13.mono HB13.out.size))
                clear hb13 HB13 HSM
                go_wp2_with fail
                go_ret
                exact ⟨rfl, HB14.out⟩
theorem alphaTables_walk {Tb : World → Nat → List Nat → List Nat → Prop} (pa : PA Tb) (W : World) (a : Option Addr) (c : Nat) (zs0 : List Int) (sym code : Int) (hsy : i64a sym) (hco : i64a code) (hz0 : ∀ z ∈ zs0, i64a z) (hs : Si (fun _ => True) W a zs0) (hlc : zs0.length ≤ c) (hcm : c ≤ maxLen) :
    Calls Try.prog 4 #[.slice a zs0.length c, .int .i64 sym, .int .i64 code] W fun e w' => e = .returned (.bool true) ∧ Below W.heap.size W w' := by
  by_cases h : ∀ z ∈ zs0.take 200, 0 ≤ z ∧ z < 258
  · exact alphaTables_good pa W a c zs0 _ sym code hsy hco hs hlc hcm rfl h
  · exact alphaTables_bad pa W a c zs0 _ sym code hz0 hs hlc hcm rfl h
end Go.Proofs.Ytbhpfdpcafdeaaa
