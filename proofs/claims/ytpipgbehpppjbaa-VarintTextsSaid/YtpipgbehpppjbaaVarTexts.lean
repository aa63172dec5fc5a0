/- 'VarintTexts' RETURNS TRUE FOR EVERY LIST OF TEXTS AND ALL BYTES (nil ones too), and nothing that was there is turned. No condition. -/
import Derived.Test.YtpipgbehpppjbaaVarTx
namespace Go.Proofs.Ytpipgbehpppjbaa
open Go.RowKit Go.Inc

theorem infoSl : (Try.prog.info? 23).map (fun i => (i.zero, i.size, i.bytes)) = some (some (.slice none 0 0), 1, 24) := by kernel_rfl

set_option maxHeartbeats 16000000 in
set_option maxRecDepth 100000 in
theorem texts_walk (a0 : Option Addr) (cap : Nat) (ps : List (List Nat)) (A : Nat → Option Addr) (C : Nat → Nat) (a2 : Option Addr) (c2 : Nat) (bs : List Nat) (w : World)
    (hp1 : ∀ i, i < ps.length → ∃ b o, a0 = some ⟨b, o, none⟩ ∧ w.cell? ⟨b, o + i, none⟩ = some (.slice (A i) (ps.getD i []).length (C i)))
    (hp2 : ∀ i, i < ps.length → Sl (fun _ => True) w (A i) (ps.getD i [])) (hp3 : ∀ i, i < ps.length → (ps.getD i []).length ≤ C i ∧ C i ≤ maxLen) (hpb : ∀ p ∈ ps, Bytes p) (hl : (ps.length : Int) ≤ 9223372036854775807)
    (hs2 : Sl (fun _ => True) w a2 bs) (hby : Bytes bs) (hc2 : bs.length ≤ c2 ∧ c2 ≤ maxLen) (hn2 : a2 = none → c2 = 0) :
    Calls Try.prog 5 #[.slice a0 ps.length cap, .slice a2 bs.length c2] w fun e w' => e = .returned (.bool true) ∧ Below w.heap.size w w' := by
  obtain ⟨bh, hbh⟩ : ∃ bh, bh = bs.take 300 := ⟨_, rfl⟩
  have hbl : bh.length = min bs.length 300 := by rw [hbh, List.length_take, Nat.min_comm]
  have HSB : Hid (Sl (fun _ => True) w a2 bh) := hid (by rw [hbh]; exact hs2.front 300)
  have HBB : Hid (Bytes bh) := hid (by rw [hbh]; exact hby.take 300)
  clear hbh hs2 hby
  have HN2 := hid hn2
  have HC2 : Hid (bh.length ≤ c2 ∧ c2 ≤ maxLen) := hid ⟨by omega, hc2.2⟩
  have hmin : min (bs.length : Int) 300 = (bh.length : Int) := by omega
  have HB3 : Hid ((bh.length : Int) ≤ 300) := hid (by omega)
  have hbc : (bh.length : Int) ≤ c2 := by omega
  have hcm : (c2 : Int) ≤ 9223372036854775807 := by unfold maxLen at hc2; omega
  have HP1 := hid hp1
  have HP2 := hid hp2
  have HP3 := hid hp3
  have HPB := hid hpb
  clear hn2 hc2 hbl hp1 hp2 hp3 hpb
  generalize bs.length = L at *
  go_enter Try.func5, Try.ntmps5
  go_wp2_with fail
  clear hmin
  go_loopw [5, 6, 7] (fun v5 v6 i wr => ∃ k : Nat, k ≤ ps.length ∧ k ≤ 6 ∧ i = .int .i64 (k : Int) ∧ Below w.heap.size w wr ∧
     wr.ownsRow w.heap.size 23 1 v5 k (valsT ps A C k) ∧ Row 5 w.heap.size wr v6 (allT ps k)) (fun _ _ i _ => ps.length - (intOf i).toNat)
  case atStart => exact ⟨0, by omega, by omega, rfl, Below.refl _ _, World.ownsRow_nil _ _ _ _, Row.nil _ _ _⟩
  case round =>
    obtain ⟨k, hk, hk6, rfl, hb, ho5, hr6⟩ := hrel
    have HO5 := hid ho5
    have HR6 := hid hr6
    clear ho5 hr6
    by_cases hgo : (k : Int) < ps.length ∧ (k : Int) < 6
    · obtain ⟨hlt, h6⟩ := hgo
      obtain ⟨b, o, ha0, hcell0⟩ := HP1.out k (by omega)
      subst ha0
      have hcell : wr.cell? ⟨b, o + k, none⟩ = some (.slice (A k) (ps.getD k []).length (C k)) := by
        rw [hb.cell (cell_lt hcell0)]; exact hcell0
      have hLC := HP3.out k (by omega)
      have hLC1 : ((ps.getD k []).length : Int) ≤ C k := by omega
      have hS5 := hid (valsT_succ ps A C k)
      have hS6 := hid (allT_succ (ps := ps) (k := k) (by omega))
      have HT6 := hid (allT_len ps k)
      have HSL : Hid (Sl (fun _ => True) w (A k) ((ps.getD k []).take 200)) := hid ((HP2.out k (by omega)).front 200)
      have hM : Hid (((ps.getD k []).take 200).length = min (ps.getD k []).length 200) := hid (by rw [List.length_take, Nat.min_comm])
      generalize ps.getD k [] = p at *
      generalize hL : p.length = Lp at *
      have HL := hid hL
      clear hL hLC hcell0 HP1
      generalize p.take 200 = p' at *
      generalize A k = ak at *
      generalize C k = ck at *
      have hmn : min (Lp : Int) 200 = (p'.length : Int) := by have := hM.out; omega
      have hpl : (p'.length : Int) ≤ Lp := by omega
      have hpc : (p'.length : Int) ≤ ck := by omega
      have hp200 : (p'.length : Int) ≤ 200 := by omega
      go_wp2_with fail
      go_quiet (fail)
      have hbq : Below w.heap.size w (wr.drewN nq) := ⟨hb.os, hb.tape, hb.output, hb.size, hb.block⟩
      have HO5q : Hid ((wr.drewN nq).ownsRow w.heap.size 23 1 u5 k (valsT ps A C k)) := HO5.out
      have HR6q : Hid (Row 5 w.heap.size (wr.drewN nq) u6 (allT ps k)) := HR6.out
      generalize wr.drewN nq = wq at *
      clear HO5 HR6 hb hcell
      have HBQ := hid hbq
      clear hbq
      go_wp2_with (refine wpList_append_any rfl (.tmp 46) (.tmp 48) 41 rfl w.heap.size 23 (.slice none 0 0) 24 Try.underlying41 infoSl rfl _ _ _ rfl (HO5q.out.alloc _) (some ⟨wq.heap.size, 0, none⟩) 1 1 _ rfl rfl (by intro h; cases h) (one_new wq _ _) (by simp [Value.oneCell']) (by unfold maxLen; omega) (by omega) (by have := HBQ.out.size; simp; omega) ?_)
      intro v5 w2 hv5 hg5 _
      have hb2 : Below w.heap.size w w2 := below_owned (HBQ.out.alloc HBQ.out.size _) (HO5q.out.alloc _) (Nat.le_refl _) hg5
      have HR6x := hid ((HR6q.out.alloc _).kept hg5 (owns_apart HR6q.out HO5q.out (by decide)))
      have HV5 := hid hv5
      have HB2 := hid hb2
      have HP10 : Hid (Calls Try.prog 10 #[.int .u64 (p'.length : Int)] w2 fun e w' => ∃ v', e = .returned v' ∧ Row 5 w2.heap.size w' v' (Var.put p'.length) ∧ Below w2.heap.size w2 w') := hid (refPut_any p'.length w2 (by omega))
      have HPL := hid (Var.put_ten (n := p'.length) (by omega))
      clear HO5q HR6q hg5 hv5 hb2 HBQ
      go_wp2_with fail
      refine HP10.out.mono ?_
      rintro e w3 ⟨v54, rfl, hr54, hb3⟩
      obtain ⟨a3, c3, rfl, hn3, hc3, hm3, hs3⟩ := hr54.sl
      have HV5b := hid (World.ownsRow.kept HV5.out (show w2.grownBy w3 none from ⟨hb3.os, hb3.tape, hb3.output, hb3.size, fun i hi _ => hb3.block i hi⟩) (by
        cases hv : v5.ownBlock with
        | none => exact .inl rfl
        | some _ => exact .inr (by simp)))
      have HR6y : Hid (Row 5 w.heap.size w3 u6 (allT ps k)) := hid (Row.kept HR6x.out hb3)
      have HB3x := hid (HB2.out.trans (hb3.mono HB2.out.size))
      have HS3 := hid hs3
      clear hr54 hs3 hb3 hn3 hc3 hm3 HP10 HV5 HR6x HB2
      go_wp2_with (refine wpList_append_any rfl (.tmp 50) (.tmp 54) 23 rfl w.heap.size 5 (.int .u8 0) 1 Try.underlying23 infoU8 rfl _ _ _ rfl HR6y.out a3 _ _ (u8s (Var.put p'.length)) rfl (u8s_length _) (HS3.out.some_len) HS3.out.cells (u8s_one _) (by have := HPL.out; have := HT6.out; unfold maxLen; omega) (by have := HPL.out; have := HT6.out; omega) (by have := HB3x.out.size; omega) ?_)
      intro v55 w4 hv55 hg4 _
      have hb4 := below_owned HB3x.out HR6y.out (Nat.le_refl _) hg4
      have HR7 := hid (row_more hv55 rfl rfl)
      have HV5c := hid (HV5b.out.kept hg4 (owns_apart HV5b.out HR6y.out (by decide)))
      have HB4 := hid hb4
      have HSL4 := hid (HSL.out.below hb4)
      clear hv55 hg4 hb4 HR6y HV5b HB3x HS3
      go_wp2_with (refine wpList_append_any rfl (.tmp 55) (.tmp 56) 23 rfl w.heap.size 5 (.int .u8 0) 1 Try.underlying23 infoU8 rfl _ _ _ rfl HR7.out ak _ _ (u8s p') rfl (u8s_length _) (HSL4.out.some_len) HSL4.out.cells (u8s_one _) (by have := HPL.out; have := HT6.out; rw [List.length_append]; unfold maxLen; omega) (by have := HPL.out; have := HT6.out; rw [List.length_append]; omega) (by have := HB4.out.size; omega) ?_)
      intro v57 w5 hv57 hg5 _
      have hb5 := below_owned HB4.out HR7.out (Nat.le_refl _) hg5
      have HR8 := hid (row_more hv57 (by rw [List.length_append]) rfl)
      have HV5d := hid (HV5c.out.kept hg5 (owns_apart HV5c.out HR7.out (by decide)))
      have HB5 := hid hb5
      clear hv57 hg5 hb5 HR7 HV5c HB4 HSL4
      go_wp2_with fail
      go_roundw
      case rel =>
        refine ⟨k + 1, by omega, by omega, by go_num, HB5.out, ?_, ?_⟩
        · rw [hS5.out, show min Lp 200 = p'.length from hM.out.symm]; exact HV5d.out
        · rw [hS6.out]; exact HR8.out
      case measure => simp [intOf]; omega
    · obtain ⟨a5, c5, rfl, hpt, hat⟩ := cut_parts HP2.out HP3.out HPB.out hb hk HO5.out
      have hcl := cutT_len ps k hk
      have HTX := hid (text_any _ a5 c5 (cutT ps k) wr hpt (by rw [hcl]; omega) (by have := allT_len ps k; unfold allT at this; omega))
      have HCB := hid (cutT_bytes HPB.out k)
      have HAL : Hid ((texts (cutT ps k)).length ≤ 1260) := hid (by have := allT_len ps k; unfold allT at this; omega)
      have HR6b : Hid (Row 5 w.heap.size wr u6 (texts (cutT ps k))) := HR6
      rw [hcl] at HTX
      have HAT := hid hat
      have HCL := hid hcl
      have hk6i : (k : Int) ≤ 6 := by omega
      have HBW := hid hb
      rcases (show (ps.length : Int) ≤ k ∨ ((k : Int) < ps.length ∧ (6 : Int) ≤ k) by omega) with h1 | ⟨h1, h2⟩
      all_goals
        clear hgo hpt hat hcl HO5 HR6 hb
        generalize cutT ps k = cs at *
        go_wp2_with fail
        refine HTX.out.mono ?_
        rintro e w1 ⟨v9, rfl, hr9, hb1⟩
        have HR9 := hid hr9
        have HB1 := hid (HBW.out.trans (hb1.mono HBW.out.size))
        have H9 := hid (same_v v9 _ _ _ w1 (held hr9) (held (HR6b.out.kept hb1)) rfl)
        have HAT1 : Hid (∀ i, i < k → ∃ b' o', a5 = some ⟨b', o', none⟩ ∧ w1.cell? ⟨b', o' + i, none⟩ = some (.slice (A i) (cs.getD i []).length (C i)) ∧ Sl (fun _ => True) w1 (A i) (cs.getD i [])) := hid fun i hi => by
          obtain ⟨b', o', h1, h2, h3⟩ := HAT.out i hi
          exact ⟨b', o', h1, by rw [hb1.cell (cell_lt h2)]; exact h2, h3.below hb1⟩
        clear hr9 hb1 HTX HAT HR6b
        go_wp2_with fail
        refine H9.out.mono ?_
        rintro e w2 ⟨rfl, hb2⟩
        have HR9b := hid (HR9.out.kept hb2)
        have HB2 := hid (HB1.out.trans (hb2.mono HB1.out.size))
        have HAT2 : Hid (∀ i, i < k → ∃ b' o', a5 = some ⟨b', o', none⟩ ∧ w2.cell? ⟨b', o' + i, none⟩ = some (.slice (A i) (cs.getD i []).length (C i)) ∧ Sl (fun _ => True) w2 (A i) (cs.getD i [])) := hid fun i hi => by
          obtain ⟨b', o', h1, h2, h3⟩ := HAT1.out i hi
          exact ⟨b', o', h1, by rw [hb2.cell (cell_lt h2)]; exact h2, h3.below hb2⟩
        have HNB : Hid (w.heap.size ≤ w2.heap.size) := hid HB2.out.size
        clear hb2 HAT1 HR9 HB1 H9
        go_wp2_with fail
        go_loopw [9, 10] (fun v9 i wr => ∃ j : Nat, j ≤ k ∧ i = .int .i64 (j : Int) ∧ Row 5 w.heap.size wr v9 (texts (cs.drop j)) ∧ Below w2.heap.size w2 wr) (fun _ i _ => k - (intOf i).toNat)
        case atStart => exact ⟨0, Nat.zero_le _, rfl, by rw [List.drop_zero]; exact HR9b.out.weaken HBW.out.size, Below.refl _ _⟩
        case round =>
          obtain ⟨j, hj, rfl, hr, hb⟩ := hrel
          have HBX := hid (HB2.out.trans (hb.mono HNB.out))
          by_cases hjk : j < k
          · obtain ⟨b', o', ha, hcell, hsl⟩ := HAT2.out j hjk
            subst ha
            have hdr : texts (cs.drop j) = Var.put (cs.getD j []).length ++ (cs.getD j [] ++ texts (cs.drop (j + 1))) := by
              have := HCL.out
              rw [List.drop_eq_getElem_cons (by omega), texts_cons, List.getD_eq_getElem?_getD, List.getElem?_eq_getElem (by omega)]
              rfl
            rw [hdr] at hr
            have hpm : (cs.getD j []).length ≤ 1260 := by
              have h1 := HAL.out
              have h2 := texts_drop cs j
              rw [hdr] at h2
              simp only [List.length_append] at h2
              omega
            obtain ⟨f1, f2, f3⟩ := text_first (cs.getD j []) (texts (cs.drop (j + 1))) (by omega)
            obtain ⟨a9, c9, rfl, hn9, hc9, hm9, hs9⟩ := hr.sl
            have hcb : Bytes (cs.getD j []) := HCB.out _ (by
              have := HCL.out
              rw [List.getD_eq_getElem?_getD, List.getElem?_eq_getElem (by omega)]
              exact List.getElem_mem _)
            have hlen : (Var.put (cs.getD j []).length ++ (cs.getD j [] ++ texts (cs.drop (j + 1)))).length ≤ 70368744177664 := by
              have h1 := HAL.out
              have h2 := texts_drop cs j
              rw [hdr] at h2
              omega
            have h21 := getText_any _ a9 c9 _ wr hs9 ⟨hc9, hm9⟩ hn9 (Bytes.append (Var.put_bytes _) (hcb.append (texts_bytes fun p hp => HCB.out p (List.mem_of_mem_drop hp)))) hlen
            rw [f1, f2, f3] at h21
            have H21 := hid h21
            have hcell2 : wr.cell? ⟨b', o' + j, none⟩ = some (.slice (A j) (cs.getD j []).length (C j)) := by rw [hb.cell (cell_lt hcell)]; exact hcell
            have HSL2 := hid (hsl.below hb)
            have HBR := hid hb
            have hjki : (j : Int) < k := by omega
            have hjk2 : (j < k) = True := eq_true hjk
            clear hdr hr hs9 hc9 hm9 hn9 hlen hcb h21 hsl hcell hb f1 f2 f3
            generalize cs.getD j [] = p at *
            generalize (Var.put p.length ++ (p ++ texts (cs.drop (j + 1)))).length = Lx at *
            have hpmi : (p.length : Int) ≤ 1260 := by omega
            clear hpm
            go_wp2_with fail
            refine H21.out.mono ?_
            rintro e w3 ⟨⟨u, v, rfl, hu, hv⟩, hb3⟩
            have hcell3 : w3.cell? ⟨b', o' + j, none⟩ = some (.slice (A j) p.length (C j)) := by rw [hb3.cell (cell_lt hcell2)]; exact hcell2
            obtain ⟨au, cu, rfl, _, _, hmu, hsu⟩ := hu.sl
            have H9 := hid (same_yes _ _ au (A j) cu (C j) p p w3 hsu (HSL2.out.below hb3) (by omega) rfl)
            have HV := hid hv
            have HBR3 := hid (HBR.out.trans (hb3.mono HBR.out.size))
            have HBZ : Hid (w.heap.size ≤ wr.heap.size) := hid HBX.out.size
            clear hu hv hsu hb3 hcell2 H21
            go_wp2_with fail
            refine H9.out.mono ?_
            rintro e w4 ⟨rfl, hb4⟩
            have HV4 := hid (HV.out.kept hb4)
            have HBR4 := hid (HBR3.out.trans (hb4.mono HBR3.out.size))
            clear hb4 H9 hcell3
            go_wp2_with fail
            go_roundw
            case rel => exact ⟨j + 1, by omega, by go_num, HV4.out.weaken HBZ.out, HBR4.out⟩
            case measure => simp [intOf]; omega
          · have hjk2 : (j < k) = False := eq_false hjk
            have he : cs.drop j = [] := List.drop_eq_nil_of_le (by have := HCL.out; omega)
            rw [he] at hr
            have hr : Row 5 w.heap.size wr u9 [] := hr
            obtain ⟨a9, c9, rfl, _⟩ := hr.sl
            have H21 := hid (getText_any _ a2 c2 bh wr (HSB.out.below HBX.out) HC2.out HN2.out HBB.out (by have := HB3.out; omega))
            clear hjk he hr hb HAT2 HR9b HB2 HNB
            go_wp2_with fail
            refine H21.out.mono ?_
            rintro e w3 ⟨⟨s14, s15, rfl, hs, hr⟩, hb3⟩
            have HB4 := hid (HBX.out.trans (hb3.mono HBX.out.size))
            have h19 := refGet_any _ a2 c2 0 9223372036854775807 0 bh w3 (HSB.out.below HB4.out) HBB.out (Nat.zero_le _) (by have := HB3.out; omega) (by decide) rfl
            have H14 := hid hs
            have H15 := hid hr
            have HK := hid (known_any w3)
            unfold RefAns at h19
            rw [List.drop_zero, Nat.zero_add] at h19
            have H19 := hid h19
            clear h19 hs hr hb3 H21
            have HTE : Hid (textErr bh = if Var.err 9223372036854775807 bh ≠ 0 then Var.err 9223372036854775807 bh else if (bodyOf bh).length < Var.val 9223372036854775807 bh then 4 else 0) := hid rfl
            have HTV : Hid (textVal bh = if textErr bh = 0 then (bodyOf bh).take (Var.val 9223372036854775807 bh) else []) := hid rfl
            have HTR : Hid (textRest bh = if textErr bh = 0 then (bodyOf bh).drop (Var.val 9223372036854775807 bh) else []) := hid rfl
            have HBO : Hid (bodyOf bh = bh.drop (Var.pos 9223372036854775807 bh)) := hid rfl
            have hpl := Var.pos_le 9223372036854775807 bh
            have hvl := Var.val_le 9223372036854775807 bh
            generalize textErr bh = te at *
            generalize textVal bh = tv at *
            generalize textRest bh = tr at *
            generalize bodyOf bh = bo at *
            generalize Var.err 9223372036854775807 bh = E at *
            generalize Var.val 9223372036854775807 bh = V at *
            generalize Var.pos 9223372036854775807 bh = P at *
            have hpli : (P : Int) ≤ bh.length := by omega
            have hvli : (V : Int) ≤ 9223372036854775807 := by omega
            have hbol : bo.length = bh.length - P := by rw [HBO.out, List.length_drop]
            have hb3i := HB3.out
            clear hvl
            by_cases hbad : te = 0
            · have hE : E = 0 := by
                have := HTE.out
                rw [hbad] at this
                by_cases h : E = 0
                · exact h
                · rw [if_pos h] at this; exact this.symm
              have hVb : ¬ bo.length < V := by
                have := HTE.out
                rw [hbad, if_neg (by simpa using hE)] at this
                intro h
                rw [if_pos h] at this
                omega
              have htv : tv = bo.take V := by rw [HTV.out, if_pos hbad]
              have htr : tr = bo.drop V := by rw [HTR.out, if_pos hbad]
              subst hE hbad
              have q1 : ((bh.length : Int) - P < V) = False := eq_false (by omega)
              obtain ⟨Q, hQ⟩ : ∃ Q, Q = P + V := ⟨_, rfl⟩
              have hQi : (P : Int) + V = (Q : Int) := by omega
              have hQl : (Q : Int) ≤ bh.length := by omega
              have hPQ : (P : Int) ≤ Q := by omega
              have hQn : Q ≤ bh.length := by omega
              have hcn : bh.length ≤ c2 := HC2.out.1
              have HTV2 : Hid (tv = (bh.drop P).take V) := hid (by rw [htv, HBO.out])
              have HTR2 : Hid (tr = bh.drop Q) := hid (by rw [htr, HBO.out, List.drop_drop, hQ])
              have HQ := hid hQ
              clear hVb htv htr HTE hQ hbol
              by_cases hcP : c2 = P
              all_goals
                by_cases hcQ : c2 = Q
                all_goals
                  have HCP := hid hcP
                  have HCQ := hid hcQ
                  have hcP2 : (c2 = P) = (c2 = P) := rfl
                  try replace hcP2 : (c2 = P) = True := eq_true hcP
                  try replace hcP2 : (c2 = P) = False := eq_false hcP
                  have hcQ2 : (c2 = Q) = (c2 = Q) := rfl
                  try replace hcQ2 : (c2 = Q) = True := eq_true hcQ
                  try replace hcQ2 : (c2 = Q) = False := eq_false hcQ
                  clear hcP hcQ
                  go_wp2_with fail
                  refine H19.out.mono ?_
                  rintro e w' ⟨rfl, rfl⟩
                  go_wp2_with fail
                  refine HK.out.mono ?_
                  rintro e w4 ⟨rfl, hb4⟩
                  have HB5 := hid (HB4.out.trans (hb4.mono HB4.out.size))
                  have h9 := same_v s14 _ _ _ w4 ((held H14.out).below hb4) (bs_mid (HSB.out.below HB5.out) HC2.out HN2.out HQ.out hQn) HTV2.out
                  first | rw [if_pos HCP.out] at h9 | rw [if_neg HCP.out] at h9
                  have H9 := hid h9
                  have H15b := hid ((held H15.out).below hb4)
                  clear hb4 h9
                  go_wp2_with fail
                  refine H9.out.mono ?_
                  rintro e w5 ⟨rfl, hb5⟩
                  have HB6 := hid (HB5.out.trans (hb5.mono HB5.out.size))
                  have h9 := same_v s15 _ _ _ w5 (H15b.out.below hb5) (bs_drop (HSB.out.below HB6.out) HC2.out HN2.out Q hQn) HTR2.out
                  first | rw [if_pos HCQ.out] at h9 | rw [if_neg HCQ.out] at h9
                  have H9b := hid h9
                  clear hb5 h9 H9
                  go_wp2_with fail
                  refine H9b.out.mono ?_
                  rintro e w6 ⟨rfl, hb6⟩
                  have HB7 := hid (HB6.out.trans (hb6.mono HB6.out.size))
                  clear hb6 H9b
                  go_wp2_with fail
                  go_ret
                  exact ⟨rfl, HB7.out⟩
            · have ht0 : ((te : Int) == 0) = false := by rw [beq_eq_false_iff_ne]; omega
              have ht1 : ((te : Int) != 0) = true := by rw [bne_iff_ne]; omega
              have htv : tv = [] := by rw [HTV.out, if_neg hbad]
              have htr : tr = [] := by rw [HTR.out, if_neg hbad]
              have h14 := H14.out
              rw [htv] at h14
              have h15 := H15.out
              rw [htr] at h15
              have h14 : Row 5 wr.heap.size w3 s14 [] := h14
              have h15 : Row 5 wr.heap.size w3 s15 [] := h15
              obtain ⟨a14, c14, rfl, _⟩ := h14.sl
              obtain ⟨a15, c15, rfl, _⟩ := h15.sl
              have hcase : Hid ((E = te ∧ te ≠ 0)) ∨ Hid (E = 0 ∧ te = 4 ∧ bo.length < V) := by
                have := HTE.out
                by_cases h : E = 0
                · rw [if_neg (by simpa using h)] at this
                  by_cases h2 : bo.length < V
                  · rw [if_pos h2] at this; exact .inr (hid ⟨h, this, h2⟩)
                  · rw [if_neg h2] at this; exact absurd this hbad
                · rw [if_pos h] at this; exact .inl (hid ⟨this.symm, hbad⟩)
              rcases hcase with hcs | hcs
              · obtain ⟨h1, h2⟩ := hcs.out
                subst h1
                clear hbad htv htr h14 h15 h2 hbol HTE
                go_wp2_with fail
                refine H19.out.mono ?_
                rintro e w' ⟨rfl, rfl⟩
                go_wp2_with fail
                refine HK.out.mono ?_
                rintro e w4 ⟨rfl, hb4⟩
                have HB5 := hid (HB4.out.trans (hb4.mono HB4.out.size))
                clear hb4
                go_wp2_with fail
                go_ret
                exact ⟨rfl, HB5.out⟩
              · obtain ⟨h1, h2, h3⟩ := hcs.out
                subst h1 h2
                have q1 : ((bh.length : Int) - P < V) = True := eq_true (by omega)
                clear hbad htv htr h14 h15 h3 hbol HTE ht0 ht1
                go_wp2_with fail
                refine H19.out.mono ?_
                rintro e w' ⟨rfl, rfl⟩
                go_wp2_with fail
                refine HK.out.mono ?_
                rintro e w4 ⟨rfl, hb4⟩
                have HB5 := hid (HB4.out.trans (hb4.mono HB4.out.size))
                clear hb4
                go_wp2_with fail
                go_ret
                exact ⟨rfl, HB5.out⟩
theorem texts_any (a0 : Option Addr) (cap : Nat) (ps : List (List Nat)) (a2 : Option Addr) (c2 : Nat) (bs : List Nat) (w : World) (hp : Pt (fun _ => True) w a0 ps) (hl : ps.length ≤ maxLen)
    (hs2 : Sl (fun _ => True) w a2 bs) (hby : Bytes bs) (hc2 : bs.length ≤ c2 ∧ c2 ≤ maxLen) (hn2 : a2 = none → c2 = 0) :
    Calls Try.prog 5 #[.slice a0 ps.length cap, .slice a2 bs.length c2] w fun e w' => e = .returned (.bool true) ∧ Below w.heap.size w w' := by
  have hl' : (ps.length : Int) ≤ 9223372036854775807 := by unfold maxLen at hl; omega
  rcases hp.2 with rfl | ⟨b, o, A, C, rfl, _, hp2⟩
  · exact texts_walk a0 cap [] (fun _ => none) (fun _ => 0) a2 c2 bs w (fun i hi => by simp at hi) (fun i hi => by simp at hi) (fun i hi => by simp at hi) hp.1 hl' hs2 hby hc2 hn2
  · exact texts_walk _ cap ps A C a2 c2 bs w (fun i hi => ⟨b, o, rfl, hp2.cell i hi⟩) hp2.sl hp2.cap hp.1 hl' hs2 hby hc2 hn2
namespace varintTexts
open Go.ChangeShapes Go.WideShapes Go.ChangeAt

theorem own : ownKnob Try.prog.godebug = none := by kernel_rfl
theorem laidOut : laidOutB Try.prog = true := by kernel_rfl

set_option maxRecDepth 100000 in
theorem lifted (os : Os) (started : os.Started) (H : Type) (enc : TypeId × Value → H) :
    ReturnsInHanded {} Try.checked os 5 .any (Rows.varintTextsSpec.pre6 enc Try.prog Try.f5 Rows.varintTextsRow.domain false) (Rows.varintTextsSpec.post enc Try.prog Try.f5 false true false false) := by
  refine returnsInHanded_of_change (C := Try.checked) own started (by kernel_rfl) Try.func5
    (ChangeSpec.witness6 (enc := enc) (C := Try.checked) false ⟨#[], #[.slice none 0 0, .slice none 0 0], []⟩ 8 (by kernel_rfl) (by kernel_rfl) (by kernel_rfl) (by kernel_rfl)) ?_
  intro W base args ds gs before hval0 hW hcnd _
  have hval : ∀ (j : Nat) t v, Try.f5.params[j]? = some t → args[j]? = some v → Value.okWide Try.prog W .any base t v := hval0
  have hW' := hW
  obtain ⟨p, q, hA0, hV, rfl, hfz, hnd⟩ := hW
  have hA : DataW.TrodAll enc Try.prog W 0 (fun _ => true) true Try.f5.params.toList args.toList ds p := hA0
  rw [Try.params5] at hA hval
  obtain ⟨v0, vs0, d0, ds0, p0, q0, hargs, rfl, rfl, h0, r0⟩ := trodAll_cons hA
  obtain ⟨v1, vs1, d1, ds1, p1, q1, rfl, rfl, rfl, h1, r1⟩ := trodAll_cons r0
  obtain ⟨rfl, rfl, rfl⟩ := trodAll_nil r1
  obtain rfl : args = #[v0, v1] := by cases args; simp_all
  obtain ⟨rfl, rfl⟩ := trodVars_none hV
  obtain ⟨a0, len0, cap0, rfl⟩ := okWide_slice Try.underlying41 (hval 0 41 v0 rfl rfl)
  have k0 := h0
  have lt0 : ∀ x ∈ p0, x.block < W.heap.size := by obtain ⟨m, hm⟩ := k0; exact DataW.trod_lt m _ _ _ hm
  obtain ⟨a, c, ps0, hv, hpt0, hl0⟩ : ∃ a c ps, Value.slice a0 len0 cap0 = .slice a (List.length ps) c ∧ Pt (fun _ => True) W a ps ∧ ps.length ≤ maxLen := by
    obtain ⟨fuel, hf⟩ := h0
    exact open_pt Try.underlying41 Try.underlying23 Try.underlying5 (by kernel_rfl) (by kernel_rfl) hf
  simp only [Value.slice.injEq] at hv
  obtain ⟨rfl, rfl, rfl⟩ := hv
  obtain ⟨a1, len1, cap1, rfl⟩ := okWide_slice Try.underlying23 (hval 1 23 v1 rfl rfl)
  have k1 := h1
  have lt1 : ∀ x ∈ p1, x.block < W.heap.size := by obtain ⟨m, hm⟩ := k1; exact DataW.trod_lt m _ _ _ hm
  obtain ⟨a, c, bs1, hv, hby1, hsl1, hlc1, hcm1, hn1⟩ : ∃ a c bs, Value.slice a1 len1 cap1 = .slice a (List.length bs) c ∧ Bytes bs ∧ Sl (fun _ => True) W a bs ∧ bs.length ≤ c ∧ c ≤ maxLen ∧ (a = none → c = 0) := by
    obtain ⟨fuel, hf⟩ := h1
    exact open_sl Try.underlying23 Try.underlying5 (by kernel_rfl) hf
  simp only [Value.slice.injEq] at hv
  obtain ⟨rfl, rfl, rfl⟩ := hv
  clear hA0 hval0
  refine (texts_any a0 cap0 ps0 a1 cap1 bs1 W hpt0 hl0 hsl1 hby1 ⟨hlc1, hcm1⟩ hn1).mono fun e W' ⟨he, bel⟩ => ?_
  subst he
  exact ⟨_, rfl, _, _, _, [], _, [], hW', trodAll_mk1 (shut_bool Try.underlying4 _), (trodAll_cons_mk (Below.trod laidOut (by kernel_rfl) (of_decide_eq_true (by kernel_rfl)) k0 bel lt0) (trodAll_cons_mk (Below.trod laidOut (by kernel_rfl) (of_decide_eq_true (by kernel_rfl)) k1 bel lt1) trodAll_mk0)), rfl, bel.frame _, fun h => by cases h⟩

/-- THE STATEMENT. -/
theorem proved : Rows.VarintTextsSaid :=
  OpenClaim.holds_of_wide 5 Try.f5 rfl rfl rfl rfl rfl rfl rfl ⟨rfl, rfl, rfl, rfl, rfl⟩ rfl rfl rfl rfl rfl (by kernel_rfl) Try.func5 (by kernel_rfl)
    (of_decide_eq_true (by kernel_rfl)) (by unfold Func.isWrapper; first | (rw [if_pos (by decide +kernel)]; kernel_rfl) | (rw [if_neg (by decide +kernel)]; exact ⟨rfl, rfl⟩))
    (fun os started H enc _ => lifted os started H enc)
end varintTexts
end Go.Proofs.Ytpipgbehpppjbaa
