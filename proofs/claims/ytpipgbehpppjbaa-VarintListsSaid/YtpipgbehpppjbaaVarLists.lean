/- 'VarintLists' RETURNS TRUE FOR EVERY LIST OF NUMBERS AND ALL BYTES (nil ones too), and nothing that was there is turned. No condition. -/
import Derived.Test.YtpipgbehpppjbaaVarTx
import Derived.Test.YtpipgbehpppjbaaOpenInts
namespace Go.Proofs.Ytpipgbehpppjbaa
open Go.RowKit Go.Inc

def ints (vs : List Nat) : List Int := vs.map fun x : Nat => (x : Int)
theorem ints_len (vs : List Nat) : (ints vs).length = vs.length := by simp [ints]
theorem ints_get (vs : List Nat) (i : Nat) (h : i < vs.length) : (ints vs).getD i 0 = ((vs.getD i 0 : Nat) : Int) := by
  unfold ints
  simp [h]
theorem irow_si {B : Nat} {w : World} {v : Value} {vs : List Nat} (h : IRow B w v vs) : ∃ a c, v = .slice a vs.length c ∧ Si (fun b => B ≤ b) w a (ints vs) ∧ vs.length ≤ c ∧ c ≤ maxLen := by
  rcases h.2 with ⟨rfl, h0⟩ | ⟨g, cap, cur, rfl, hg, hh, h1, h2, _⟩
  · exact ⟨none, 0, by rw [h0], .inl (by rw [List.eq_nil_of_length_eq_zero h0]; rfl), by omega, by unfold maxLen; omega⟩
  · refine ⟨_, cap, rfl, .inr ⟨g, 0, rfl, hg, fun i hi => ?_⟩, h1, h2⟩
    rw [ints_len] at hi
    have hc := h.cells (g := g) rfl i (.int .i64 ((vs.getD i 0 : Nat) : Int)) (by simp [i64s, hi])
    rw [Addr.add_lit] at hc
    rw [hc, ints_get vs i hi]

theorem puts_bytes (zs : List Int) : Bytes (puts zs) := by
  intro x hx
  unfold puts at hx
  obtain ⟨l, hl, hx⟩ := List.mem_flatten.1 hx
  obtain ⟨z, _, rfl⟩ := List.mem_map.1 hl
  exact Var.put_bytes _ x hx
/-- What is got of a list that was put. -/
theorem many_puts (vs rest : List Nat) (h : ∀ x ∈ vs, x ≤ 9223372036854775807) :
    manyErr vs.length ((vs.map Var.put).flatten ++ rest) = 0 ∧ manyVals vs.length ((vs.map Var.put).flatten ++ rest) = vs ∧ manyRest vs.length ((vs.map Var.put).flatten ++ rest) = rest := by
  induction vs with
  | nil => simp [manyErr, manyVals, manyRest]
  | cons x vs ih =>
    have hx := h x (by simp)
    have hf : x < 18446744073709551616 := by omega
    obtain ⟨i1, i2, i3⟩ := ih fun y hy => h y (List.mem_cons_of_mem _ hy)
    have e0 : ((x :: vs).map Var.put).flatten ++ rest = Var.put x ++ ((vs.map Var.put).flatten ++ rest) := by simp
    have e1 : Var.val 9223372036854775807 (Var.put x ++ ((vs.map Var.put).flatten ++ rest)) = x := Var.val_put hx hf _
    have e2 : Var.err 9223372036854775807 (Var.put x ++ ((vs.map Var.put).flatten ++ rest)) = 0 := Var.err_put hx hf _
    have e3 : bodyOf (Var.put x ++ ((vs.map Var.put).flatten ++ rest)) = (vs.map Var.put).flatten ++ rest := by
      unfold bodyOf
      rw [Var.pos_put hx hf]
      exact List.drop_left
    rw [e0, List.length_cons, many_good e2, manyVals, manyRest, e1, e3]
    exact ⟨i1, by rw [i2], i3⟩
theorem list_put (zs : List Int) (rest : List Nat) (hn : anyNeg zs = false) (hz : ∀ z ∈ zs, z ≤ 9223372036854775807) (hl : zs.length ≤ 20) :
    listErr (Var.put zs.length ++ puts zs ++ rest) = 0 ∧ ints (listVals (Var.put zs.length ++ puts zs ++ rest)) = zs ∧ listRest (Var.put zs.length ++ puts zs ++ rest) = rest := by
  have hpos : ∀ z ∈ zs, 0 ≤ z := by
    unfold anyNeg at hn
    rw [List.any_eq_false] at hn
    intro z h
    have := hn z h
    simpa using this
  have e0 : Var.put zs.length ++ puts zs ++ rest = Var.put zs.length ++ ((zs.map Int.toNat).map Var.put).flatten ++ rest := by
    unfold puts
    rw [List.map_map]; rfl
  have hx : zs.length ≤ 9223372036854775807 := by omega
  have hf : zs.length < 18446744073709551616 := by omega
  have hm := many_puts (zs.map Int.toNat) rest (by
    intro x h
    obtain ⟨z, hz', rfl⟩ := List.mem_map.1 h
    have := hz z hz'
    omega)
  rw [List.length_map] at hm
  rw [e0, List.append_assoc]
  generalize ((zs.map Int.toNat).map Var.put).flatten ++ rest = tl at *
  have e1 : Var.val 9223372036854775807 (Var.put zs.length ++ tl) = zs.length := Var.val_put hx hf _
  have e2 : Var.err 9223372036854775807 (Var.put zs.length ++ tl) = 0 := Var.err_put hx hf _
  have e3 : bodyOf (Var.put zs.length ++ tl) = tl := by
    unfold bodyOf
    rw [Var.pos_put hx hf]
    exact List.drop_left
  have h0 : listErr (Var.put zs.length ++ tl) = 0 := by
    unfold listErr
    rw [e2, e1, e3, if_neg (by simp), if_neg (by omega)]
    exact hm.1
  refine ⟨h0, ?_, ?_⟩
  · unfold listVals
    rw [if_pos h0, e1, e3, hm.2.1]
    unfold ints
    rw [List.map_map]
    conv => rhs; rw [← List.map_id zs]
    apply List.map_congr_left
    intro z h
    have := hpos z h
    simp only [Function.comp, id]
    omega
  · unfold listRest
    rw [if_pos h0, e1, e3, hm.2.2]

set_option maxHeartbeats 16000000 in
set_option maxRecDepth 100000 in
theorem lists_walk (a : Option Addr) (c : Nat) (zs : List Int) (a2 : Option Addr) (c2 : Nat) (bs : List Nat) (w : World) (hs : Si (fun _ => True) w a zs) (hl : zs.length ≤ c ∧ c ≤ maxLen)
    (hz : ∀ z ∈ zs, -9223372036854775808 ≤ z ∧ z ≤ 9223372036854775807) (hs2 : Sl (fun _ => True) w a2 bs) (hby : Bytes bs) (hc2 : bs.length ≤ c2 ∧ c2 ≤ maxLen) (hn2 : a2 = none → c2 = 0) :
    Calls Try.prog 4 #[.slice a zs.length c, .slice a2 bs.length c2] w fun e w' => e = .returned (.bool true) ∧ Below w.heap.size w w' := by
  obtain ⟨bh, hbh⟩ : ∃ bh, bh = bs.take 80 := ⟨_, rfl⟩
  have hbl : bh.length = min bs.length 80 := by rw [hbh, List.length_take, Nat.min_comm]
  have HSB : Hid (Sl (fun _ => True) w a2 bh) := hid (by rw [hbh]; exact hs2.front 80)
  have HBB : Hid (Bytes bh) := hid (by rw [hbh]; exact hby.take 80)
  obtain ⟨zl, hzl⟩ : ∃ zl, zl = zs.take 20 := ⟨_, rfl⟩
  have hll : zl.length = min zs.length 20 := by rw [hzl, List.length_take, Nat.min_comm]
  have HSI : Hid (Si (fun _ => True) w a zl) := hid (by rw [hzl]; exact hs.front 20)
  have HZ : Hid (∀ z ∈ zl, -9223372036854775808 ≤ z ∧ z ≤ 9223372036854775807) := hid (by rw [hzl]; exact fun z h => hz z (List.mem_of_mem_take h))
  clear hbh hs2 hby hzl hs hz
  have HN2 := hid hn2
  have HC2 : Hid (bh.length ≤ c2 ∧ c2 ≤ maxLen) := hid ⟨by omega, hc2.2⟩
  have hmin : min (bs.length : Int) 80 = (bh.length : Int) := by omega
  have hmin2 : min (zs.length : Int) 20 = (zl.length : Int) := by omega
  have HB80 : Hid ((bh.length : Int) ≤ 80) := hid (by omega)
  have hbc : (bh.length : Int) ≤ c2 := by omega
  have hcm : (c2 : Int) ≤ 9223372036854775807 := by unfold maxLen at hc2; omega
  have hzc : (zl.length : Int) ≤ c := by omega
  have hz20 : (zl.length : Int) ≤ 20 := by omega
  have HCM : Hid ((c : Int) ≤ 9223372036854775807) := hid (by unfold maxLen at hl; omega)
  have hcc := HCM.out
  have hb80 := HB80.out
  clear hn2 hc2 hbl hl hll
  generalize bs.length = L at *
  generalize zs.length = Lz at *
  go_enter Try.func4, Try.ntmps4
  go_wp2_with fail
  go_quiet (fail)
  have hbq : Below w.heap.size w (w.drewN nq) := ⟨rfl, rfl, rfl, Nat.le_refl _, fun _ _ => rfl⟩
  generalize w.drewN nq = wq at *
  have HSIq := hid (HSI.out.below hbq)
  have HSBq := hid (HSB.out.below hbq)
  have FIN : Hid (∀ wx, Below wq.heap.size wq wx → Below w.heap.size w wx) := hid fun wx h => hbq.trans (h.mono hbq.size)
  have H16 := hid (list_any _ a c zl wq HSIq.out (by omega) (fun z h => (HZ.out z h).2))
  clear HSI HSB
  clear hmin hmin2 hbq
  go_wp2_with fail
  refine H16.out.mono ?_
  rintro e w1 ⟨v5, rfl, hr5, hb1⟩
  have HR5 := hid hr5
  have HB1 := hid hb1
  clear hr5 hb1 H16
  go_wp2_with fail
  go_loop [6, 7] (fun r i => ∃ k : Nat, k ≤ zl.length ∧ i = .int .i64 (k : Int) ∧ r = .bool (!anyNeg (zl.take k))) (fun _ i => zl.length - (intOf i).toNat)
  case atStart => exact ⟨0, Nat.zero_le _, rfl, rfl⟩
  case round =>
    obtain ⟨k, hk, rfl, rfl⟩ := hrel
    by_cases hlt : k < zl.length
    · have hcell : ∃ b off, Hid (a = some ⟨b, off, none⟩) ∧ w1.cell? ⟨b, off + k, none⟩ = some (.int .i64 (zl.getD k 0)) := by
        rcases HSIq.out with h | ⟨b, off, h, _, hc⟩
        · rw [h] at hlt; simp at hlt
        · exact ⟨b, off, hid h, by rw [HB1.out.cell (cell_lt (hc k hlt))]; exact hc k hlt⟩
      obtain ⟨b, off, ha, hcell⟩ := hcell
      have ha2 := ha.out
      subst ha2
      have HSN := hid (anyNeg_snoc (zs := zl) (k := k) hlt)
      have hlti : (k : Int) < zl.length := by omega
      have hlt2 : (k < zl.length) = True := eq_true hlt
      clear hlt hk
      generalize zl.getD k 0 = z at *
      cases hng : anyNeg (zl.take k)
      · by_cases hz0 : z < 0
        · have q1 : decide ((0 : Int) ≤ z) = false := decide_eq_false (by omega)
          have HNX : Hid (anyNeg (zl.take (k + 1)) = true) := hid (by rw [HSN.out]; simp [hz0])
          clear hng hz0
          go_wp2_with fail
          go_round
          case rel => exact ⟨k + 1, by omega, by go_num, by rw [HNX.out]; rfl⟩
          case measure => simp [intOf]; omega
        · have q1 : decide ((0 : Int) ≤ z) = true := decide_eq_true (by omega)
          have HNX : Hid (anyNeg (zl.take (k + 1)) = false) := hid (by rw [HSN.out, hng]; simp; omega)
          clear hng hz0
          go_wp2_with fail
          go_round
          case rel => exact ⟨k + 1, by omega, by go_num, by rw [HNX.out]; rfl⟩
          case measure => simp [intOf]; omega
      · have HNX : Hid (anyNeg (zl.take (k + 1)) = true) := hid (by rw [HSN.out, hng]; rfl)
        clear hng
        go_wp2_with fail
        go_round
        case rel => exact ⟨k + 1, by omega, by go_num, by rw [HNX.out]; rfl⟩
        case measure => simp [intOf]; omega
    · have hlt2 : (k < zl.length) = False := eq_false hlt
      have hlti : (zl.length : Int) ≤ k := by omega
      have hall : zl.take k = zl := List.take_of_length_le (by omega)
      rw [hall]
      clear hall hlt hk
      have HR5b := HR5.out
      unfold listOf at HR5b
      cases hng : anyNeg zl
      · rw [hng] at HR5b
        have hr5 : Row 5 wq.heap.size w1 v5 (Var.put zl.length ++ puts zl) := HR5b
        obtain ⟨a5, c5, rfl, hn5, hc5, hm5, hs5⟩ := hr5.sl
        have HR6 := hid hr5
        have H17 := hid (refList_any _ a c zl w1 (HSIq.out.below HB1.out) (by omega) (fun z h => (HZ.out z h).2) hng)
        have HLP := hid (list_put zl bh hng (fun z h => (HZ.out z h).2) (by omega))
        have HXB : Hid (Bytes (Var.put zl.length ++ puts zl)) := hid (Bytes.append (Var.put_bytes _) (puts_bytes zl))
        have HPL : Hid ((Var.put zl.length ++ puts zl).length ≤ 210) := hid (by
          have h1 := Var.put_ten (n := zl.length) (by omega)
          have h2 := puts_len zl (fun z h => (HZ.out z h).2)
          rw [List.length_append]
          omega)
        clear HR5b hr5 HR5 hs5 hn5 hc5 hm5 hng
        generalize Var.put zl.length ++ puts zl = xs at *
        go_wp2_with fail
        refine H17.out.mono ?_
        rintro e w2 ⟨v62, rfl, hr62, hb2⟩
        have H9 := hid (same_v (.slice a5 xs.length c5) _ _ _ w2 ((held HR6.out).below hb2) (held hr62) rfl)
        have HR7 := hid (HR6.out.kept hb2)
        have HB2 := hid (HB1.out.trans (hb2.mono HB1.out.size))
        clear hb2 hr62 H17 HR6
        go_wp2_with fail
        refine H9.out.mono ?_
        rintro e w3 ⟨rfl, hb3⟩
        have HR8 := hid (HR7.out.kept hb3)
        have HB3 := hid (HB2.out.trans (hb3.mono HB2.out.size))
        have HSB3 := hid (HSBq.out.below HB3.out)
        clear hb3 H9 HR7 HB2
        go_wp2_with (refine wpList_append_any rfl (.tmp 69) (.tmp 70) 23 rfl wq.heap.size 5 (.int .u8 0) 1 Try.underlying23 infoU8 rfl _ _ _ rfl HR8.out a2 _ _ (u8s bh) rfl (u8s_length _) (HSB3.out.some_len) HSB3.out.cells (u8s_one _) (by have := HPL.out; unfold maxLen; omega) (by have := HPL.out; omega) HB3.out.size ?_)
        intro v71 w4 hv71 hg4 _
        have hb4 := below_owned HB3.out HR8.out (Nat.le_refl _) hg4
        have hr71 : Row 5 wq.heap.size w4 v71 (xs ++ bh) := row_more hv71 rfl rfl
        obtain ⟨a7, c7, rfl, hn7, hc7, hm7, hs7⟩ := hr71.sl
        obtain ⟨l1, l2, l3⟩ := HLP.out
        have hxb : Bytes (xs ++ bh) := hid (HXB.out.append HBB.out) |>.out
        have h18 := getList_any _ a7 c7 (xs ++ bh) w4 hs7 ⟨hc7, hm7⟩ hn7 hxb (by have := HPL.out; rw [List.length_append]; omega)
        rw [l1, l3] at h18
        have H18 := hid h18
        have HL2 := hid l2
        have HB4 := hid hb4
        clear hv71 hg4 hb4 hr71 hs7 hn7 hc7 hm7 l1 l2 l3 h18 hxb HR8 HSB3 HB3
        generalize listVals (xs ++ bh) = lv at *
        generalize (xs ++ bh).length = Lxb at *
        go_wp2_with fail
        refine H18.out.mono ?_
        rintro e w5 ⟨⟨v8, v9, rfl, h8, h9⟩, hb5⟩
        obtain ⟨ay, cy, rfl, hsy, hcy, hmy⟩ := irow_si h8
        have hly : lv.length = zl.length := by have := congrArg List.length HL2.out; rw [ints_len] at this; exact this
        rw [HL2.out] at hsy
        rw [hly] at hcy ⊢
        have HSY := hid hsy
        have hcyi : (zl.length : Int) ≤ cy := by omega
        have HB5 := hid (HB4.out.trans (hb5.mono HB4.out.size))
        have H9 := hid (same_v v9 (.slice a2 bh.length c2) bh bh w5 (held h9) (bsOf (HSBq.out.below HB5.out) HC2.out HN2.out) rfl)
        clear h8 h9 hsy hb5 hcy hmy hly H18 HB4
        go_wp2_with fail
        refine H9.out.mono ?_
        rintro e w6 ⟨rfl, hb6⟩
        have HB6 := hid (HB5.out.trans (hb6.mono HB5.out.size))
        have HSY6 := hid (HSY.out.below hb6)
        clear hb6 HSY HB5 H9
        go_wp2_with fail
        go_loopw [11] (fun i wr => ∃ j : Nat, j ≤ zl.length ∧ i = .int .i64 (j : Int) ∧ Below w6.heap.size w6 wr) (fun i _ => zl.length - (intOf i).toNat)
        case atStart => exact ⟨0, Nat.zero_le _, rfl, Below.refl _ _⟩
        case round =>
          obtain ⟨j, hj, rfl, hbj⟩ := hrel
          by_cases hlt : j < zl.length
          · have hcell : ∃ b off, Hid (a = some ⟨b, off, none⟩) ∧ wr.cell? ⟨b, off + j, none⟩ = some (.int .i64 (zl.getD j 0)) := by
              rcases ((HSIq.out.below HB6.out).below hbj) with h | ⟨b, off, h, _, hc⟩
              · rw [h] at hlt; simp at hlt
              · exact ⟨b, off, hid h, hc j hlt⟩
            have hcell2 : ∃ b off, Hid (ay = some ⟨b, off, none⟩) ∧ wr.cell? ⟨b, off + j, none⟩ = some (.int .i64 (zl.getD j 0)) := by
              rcases (HSY6.out.below hbj) with h | ⟨b, off, h, _, hc⟩
              · rw [h] at hlt; simp at hlt
              · exact ⟨b, off, hid h, hc j hlt⟩
            obtain ⟨b, off, ha, hcell⟩ := hcell
            obtain ⟨b2, off2, hay, hcell2⟩ := hcell2
            have ha2 := ha.out
            have hay2 := hay.out
            subst ha2 hay2
            have hlti : (j : Int) < zl.length := by omega
            have hlt2 : (j < zl.length) = True := eq_true hlt
            clear hlt
            generalize zl.getD j 0 = z at *
            go_wp2_with fail
            go_quiet (fail)
            have hbq2 : Below w6.heap.size w6 (wr.drewN nq) := ⟨hbj.os, hbj.tape, hbj.output, hbj.size, hbj.block⟩
            go_wp2_with fail
            go_roundw
            case rel => exact ⟨j + 1, by omega, by go_num, hbq2⟩
            case measure => simp [intOf]; omega
          · have hlt2 : (j < zl.length) = False := eq_false hlt
            have hlti : (zl.length : Int) ≤ j := by omega
            have HBP := hid (HB6.out.trans (hbj.mono HB6.out.size))
            clear hlt hj hbj HSY6 HB6 HLP HPL HXB HL2
            generalize wr = wp at *
            have H18 := hid (getList_any _ a2 c2 bh wp (HSBq.out.below HBP.out) HC2.out HN2.out HBB.out (by omega))
            go_wp2_with fail
            refine H18.out.mono ?_
            rintro e wr1 ⟨⟨v12, v13, rfl, h12, h13⟩, hbr⟩
            have HBR := hid (HBP.out.trans (hbr.mono HBP.out.size))
            have h19 := refGet_any _ a2 c2 0 9223372036854775807 0 bh wr1 (HSBq.out.below HBR.out) HBB.out (Nat.zero_le _) (by omega) (by decide) rfl
            unfold RefAns at h19
            rw [List.drop_zero, Nat.zero_add] at h19
            have H19 := hid h19
            have H12 := hid h12
            have H13 := hid h13
            clear h19 h12 h13 hbr H18
            have HLE : Hid (listErr bh = if Var.err 9223372036854775807 bh ≠ 0 then Var.err 9223372036854775807 bh else if 65536 < Var.val 9223372036854775807 bh then 2 else manyErr (Var.val 9223372036854775807 bh) (bodyOf bh)) := hid rfl
            have HLV : Hid (listVals bh = if listErr bh = 0 then manyVals (Var.val 9223372036854775807 bh) (bodyOf bh) else []) := hid rfl
            have HLR : Hid (listRest bh = if listErr bh = 0 then manyRest (Var.val 9223372036854775807 bh) (bodyOf bh) else []) := hid rfl
            have HEV : Hid (Var.err 9223372036854775807 bh ≠ 0 → Var.val 9223372036854775807 bh = 0) := hid fun h => Var.val_bad h
            have HBO : Hid (bodyOf bh = bh.drop (Var.pos 9223372036854775807 bh)) := hid rfl
            have HPL := hid (Var.pos_le 9223372036854775807 bh)
            have hvl := Var.val_le 9223372036854775807 bh
            obtain ⟨f0, hf0⟩ : ∃ f0, f0 = (if Var.err 9223372036854775807 bh ≠ 0 then Var.err 9223372036854775807 bh else if 65536 < Var.val 9223372036854775807 bh then 2 else 0) := ⟨_, rfl⟩
            have HF0 := hid hf0
            clear hf0
            generalize listErr bh = le at *
            generalize listVals bh = lv at *
            generalize listRest bh = lr at *
            generalize bodyOf bh = bo at *
            generalize Var.err 9223372036854775807 bh = E at *
            generalize Var.val 9223372036854775807 bh = V at *
            generalize Var.pos 9223372036854775807 bh = P at *
            have hvli : (V : Int) ≤ 9223372036854775807 := by omega
            have HLF : Hid (le = if f0 ≠ 0 then f0 else manyErr V bo) := hid (by
              rw [HLE.out, HF0.out]
              by_cases h1 : E = 0
              · by_cases h2 : 65536 < V
                · simp [h1, h2]
                · simp [h1, h2]
              · simp [h1])
            have HSM : Hid (f0 = 0 → V ≤ 65536) := hid (by
              intro h
              rw [HF0.out] at h
              by_cases h1 : E = 0
              · by_cases h2 : 65536 < V
                · simp [h1, h2] at h
                · omega
              · simp [h1] at h)
            clear hvl
            rcases (show Hid (((E : Int) == 0) = false ∧ f0 = E) ∨ Hid (((E : Int) == 0) = true ∧ decide ((65536 : Int) < V) = true ∧ f0 = 2) ∨ Hid (((E : Int) == 0) = true ∧ decide ((65536 : Int) < V) = false ∧ f0 = E) by
              rw [HF0.out]
              by_cases h1 : E = 0
              · by_cases h2 : 65536 < V
                · exact .inr (.inl (hid ⟨by rw [h1]; rfl, decide_eq_true (by omega), by simp [h1, h2]⟩))
                · exact .inr (.inr (hid ⟨by rw [h1]; rfl, decide_eq_false (by omega), by simp [h1, h2]⟩))
              · exact .inl (hid ⟨by rw [beq_eq_false_iff_ne]; omega, by simp [h1]⟩)) with hc3 | hc3 | hc3
            all_goals
              have hq1 := hc3.out.1
              have hq2 := hc3.out.2
              have HFE := hc3
              clear hc3
              try obtain ⟨hq3, hq4⟩ := hq2
              have hfe : f0 = f0 := rfl
              try replace hfe := hq2
              try replace hfe := hq4
              have HFX := hid hfe
              clear hfe
              try clear hq2
              try clear hq4
              go_wp2_with fail
              refine H19.out.mono ?_
              rintro e w' ⟨rfl, rfl⟩
              go_wp2_with fail
              clear hq1
              try clear hq3
              go_loopw [16, 17, 18, 19] (fun t16 t17 v18 t19 wr => ∃ (j f q : Nat) (vs l : List Nat), t19 = .int .u64 (j : Int) ∧ t17 = .int .i64 (f : Int) ∧ t16 = .int .i64 (q : Int) ∧ q ≤ bh.length ∧ IRow wr1.heap.size wr v18 vs ∧ Below wr1.heap.size wr1 wr ∧
                (f = 0 → l = bh.drop q) ∧ ((f0 ≠ 0 ∧ vs = [] ∧ j = 0 ∧ f = f0) ∨ (f0 = 0 ∧ Mid V bo j vs l f))) (fun _ _ _ t19 _ => V - (intOf t19).toNat)
              case atStart =>
                refine ⟨0, f0, P, [], bo, rfl, by first | rfl | (rw [HFX.out]; rfl) | (rw [HFX.out]), rfl, HPL.out, World.ownsRow_nil _ _ _ _, Below.refl _ _, fun _ => HBO.out, ?_⟩
                by_cases h : f0 = 0
                · right
                  refine ⟨h, ?_⟩
                  rw [h]
                  exact Mid.start _ _
                · exact .inl ⟨h, rfl, rfl, rfl⟩
              case round =>
                obtain ⟨j, f, q, vs, l, rfl, rfl, rfl, hq, hir, hbw, hlq, hmid⟩ := hrel
                have HIR := hid hir
                have HBW := hid hbw
                have HLQ := hid hlq
                have HMID := hid hmid
                have HQ := hid hq
                have hqi : (q : Int) ≤ bh.length := by omega
                have HBZ := hid (HBR.out.trans (hbw.mono HBR.out.size))
                have hjv : j ≤ V := by
                  rcases hmid with ⟨_, _, rfl, _⟩ | ⟨_, h1, _⟩
                  · exact Nat.zero_le _
                  · exact h1
                have HJV := hid hjv
                clear hir hbw hlq hmid hq hjv
                by_cases hgo : j < V ∧ f = 0
                · obtain ⟨hjl, hf⟩ := hgo
                  subst hf
                  have hl := HLQ.out rfl
                  subst hl
                  obtain ⟨hz0, hmd⟩ : f0 = 0 ∧ Mid V bo j vs (bh.drop q) 0 := by
                    rcases HMID.out with ⟨h1, _, _, h2⟩ | ⟨h, h2⟩
                    · exact absurd h2.symm h1
                    · exact ⟨h, h2⟩
                  have hvv := HSM.out hz0
                  have hjm : vs.length = j := hmd.2.2.1
                  have HMN := hid (hmd.next hjl)
                  have HZ0 := hid hz0
                  have h19 := refGet_any _ a2 c2 q 9223372036854775807 (q : Int) bh wr (HSBq.out.below HBZ.out) HBB.out HQ.out (by omega) (by decide) rfl
                  unfold RefAns at h19
                  have H20 := hid h19
                  have HVX := hid (Var.val_le 9223372036854775807 (bh.drop q))
                  have HPX := hid (Var.pos_le 9223372036854775807 (bh.drop q))
                  have HLL : Hid (Var.err 9223372036854775807 (bh.drop q) = 0 → leftOf 9223372036854775807 (bh.drop q) = bh.drop (q + Var.pos 9223372036854775807 (bh.drop q))) := hid (by
                    intro h
                    unfold leftOf
                    rw [if_pos h, List.drop_drop])
                  have HJM := hid hjm
                  have hjl2 : (j < V) = True := eq_true hjl
                  have hjli : (j : Int) < V := by omega
                  have hvvi : (V : Int) ≤ 65536 := by omega
                  clear h19 hmd hz0 hjm hjl hvv HMID HLQ
                  generalize Var.val 9223372036854775807 (bh.drop q) = x at *
                  generalize Var.pos 9223372036854775807 (bh.drop q) = q2 at *
                  generalize Var.err 9223372036854775807 (bh.drop q) = f2 at *
                  generalize leftOf 9223372036854775807 (bh.drop q) = l2 at *
                  have hxi : (x : Int) ≤ 9223372036854775807 := by have := HVX.out; omega
                  go_wp2_with fail
                  refine H20.out.mono ?_
                  rintro e w' ⟨rfl, rfl⟩
                  go_wp2_with (refine wpList_append_any rfl (.tmp 140) (.tmp 143) 22 rfl wr1.heap.size 3 (.int .i64 0) 8 Try.underlying22 infoInt rfl _ _ _ rfl (HIR.out.alloc _) (some ⟨wr.heap.size, 0, none⟩) 1 1 _ rfl rfl (by intro h; cases h) (one_new wr _ _) (by simp [Value.oneCell']) (by have := HJM.out; unfold maxLen; omega) (by have := HJM.out; omega) (by have := HBW.out.size; simp; omega) ?_)
                  intro v144 w4 hv144 hg4 _
                  have HV := hid (irow_one hv144 rfl rfl)
                  have HB4 := hid (below_owned (HBW.out.alloc HBW.out.size _) (HIR.out.alloc _) (Nat.le_refl _) hg4)
                  clear hv144 hg4
                  go_wp2_with fail
                  go_roundw
                  case rel =>
                    exact ⟨j + 1, f2, q + q2, vs ++ [x], l2, by go_num, rfl, by go_num, by have h1 := HPX.out; have h2 := HQ.out; rw [List.length_drop] at h1; omega, HV.out, HB4.out, HLL.out, .inr ⟨HZ0.out, HMN.out⟩⟩
                  case measure => simp [intOf]; omega
                · have hend : le = f ∧ (f = 0 → lv = vs ∧ lr = l) := by
                    rcases HMID.out with ⟨h1, rfl, rfl, rfl⟩ | ⟨h1, h2⟩
                    · have h3 : le = f := by rw [HLF.out, if_pos h1]
                      exact ⟨h3, fun h => absurd h h1⟩
                    · have h3 := h2.stop (by
                        by_cases hf : f = 0
                        · right
                          have := h2.1
                          omega
                        · exact .inl hf)
                      have h4 : le = f := by rw [HLF.out, if_neg (by simpa using h1)]; exact h3.1
                      refine ⟨h4, fun h => ?_⟩
                      rw [HLV.out, HLR.out, h4, if_pos h, if_pos h]
                      exact h3.2 h
                  obtain ⟨rfl, hend⟩ := hend
                  have HEND := hid hend
                  clear hend HMID
                  have HK := hid (known_any wr)
                  have h12 : IRow wp.heap.size wr v12 lv := World.ownsRow.kept H12.out (show wr1.grownBy wr none from ⟨HBW.out.os, HBW.out.tape, HBW.out.output, HBW.out.size, fun i hi _ => HBW.out.block i hi⟩) (by
                    cases hv : v12.ownBlock with
                    | none => exact .inl rfl
                    | some _ => exact .inr (by simp))
                  have h13 := H13.out.kept HBW.out
                  obtain ⟨a18, c18, rfl, hs18, hc18, hm18⟩ := irow_si HIR.out
                  by_cases hf : le = 0
                  · obtain ⟨hlv, hlr⟩ := HEND.out hf
                    subst hlv hlr
                    subst hf
                    have hl := HLQ.out rfl
                    obtain ⟨a12, c12, rfl, hs12, hc12, hm12⟩ := irow_si h12
                    rw [hl] at h13
                    have hjv : (j < V) = False := eq_false (by omega)
                    have hjv2 : (V : Int) ≤ j := by omega
                    have HS12 := hid hs12
                    have HS18 := hid hs18
                    have hc12i : (lv.length : Int) ≤ c12 := by omega
                    have hc18i : (lv.length : Int) ≤ c18 := by omega
                    have hlmi : (lv.length : Int) ≤ 9223372036854775807 := by unfold maxLen at hm12; omega
                    have hqn : q ≤ bh.length := HQ.out
                    have hcn : bh.length ≤ c2 := HC2.out.1
                    have H9x := same_v v13 _ _ _ wr (held h13) (bs_drop (HSBq.out.below HBZ.out) HC2.out HN2.out q hqn) rfl
                    clear hgo hs12 hs18 hc12 hm12 hc18 hm18 h12 h13 hl
                    by_cases hcq : c2 = q
                    all_goals
                      first | rw [if_pos hcq] at H9x | rw [if_neg hcq] at H9x
                      have hcq2 : (c2 = q) = (c2 = q) := rfl
                      try replace hcq2 : (c2 = q) = True := eq_true hcq
                      try replace hcq2 : (c2 = q) = False := eq_false hcq
                      have H9 := hid H9x
                      clear hcq H9x
                      go_wp2_with fail
                      refine H9.out.mono ?_
                      rintro e w8 ⟨rfl, hb8⟩
                      have HB8 := hid (HBZ.out.trans (hb8.mono HBZ.out.size))
                      have HS12b := hid (HS12.out.below hb8)
                      have HS18b := hid (HS18.out.below hb8)
                      clear hb8 H9
                      go_wp2_with fail
                      go_loopw [23] (fun i wz => ∃ i' : Nat, i' ≤ lv.length ∧ i = .int .i64 (i' : Int) ∧ Below w8.heap.size w8 wz) (fun i _ => lv.length - (intOf i).toNat)
                      case atStart => exact ⟨0, Nat.zero_le _, rfl, Below.refl _ _⟩
                      case round =>
                        obtain ⟨i', hi', rfl, hbj⟩ := hrel
                        by_cases hlt : i' < lv.length
                        · have hcell : ∃ b off, Hid (a12 = some ⟨b, off, none⟩) ∧ wr.cell? ⟨b, off + i', none⟩ = some (.int .i64 ((ints lv).getD i' 0)) := by
                            rcases HS12b.out.below hbj with h | ⟨b, off, h, _, hc⟩
                            · have := congrArg List.length h; rw [ints_len] at this; simp at this; rw [this] at hlt; simp at hlt
                            · exact ⟨b, off, hid h, hc i' (by rw [ints_len]; exact hlt)⟩
                          have hcell2 : ∃ b off, Hid (a18 = some ⟨b, off, none⟩) ∧ wr.cell? ⟨b, off + i', none⟩ = some (.int .i64 ((ints lv).getD i' 0)) := by
                            rcases HS18b.out.below hbj with h | ⟨b, off, h, _, hc⟩
                            · have := congrArg List.length h; rw [ints_len] at this; simp at this; rw [this] at hlt; simp at hlt
                            · exact ⟨b, off, hid h, hc i' (by rw [ints_len]; exact hlt)⟩
                          obtain ⟨b, off, ha, hcell⟩ := hcell
                          obtain ⟨b2, off2, hay, hcell2⟩ := hcell2
                          have ha2 := ha.out
                          have hay2 := hay.out
                          subst ha2 hay2
                          have hlti : (i' : Int) < lv.length := by omega
                          have hlt2 : (i' < lv.length) = True := eq_true hlt
                          clear hlt
                          generalize (ints lv).getD i' 0 = z at *
                          go_wp2_with fail
                          go_quiet (fail)
                          have hbq2 : Below w8.heap.size w8 (wr.drewN nq) := ⟨hbj.os, hbj.tape, hbj.output, hbj.size, hbj.block⟩
                          go_wp2_with fail
                          go_roundw
                          case rel => exact ⟨i' + 1, by omega, by go_num, hbq2⟩
                          case measure => simp [intOf]; omega
                        · have hlt2 : (i' < lv.length) = False := eq_false hlt
                          have hlti : (lv.length : Int) ≤ i' := by omega
                          have HB9 := hid (HB8.out.trans (hbj.mono HB8.out.size))
                          have HK2 := hid (known_any wr)
                          clear hlt hi' hbj
                          go_wp2_with fail
                          refine HK2.out.mono ?_
                          rintro e w9 ⟨rfl, hb9⟩
                          have HB10 := hid (HB9.out.trans (hb9.mono HB9.out.size))
                          clear hb9
                          go_wp2_with fail
                          go_ret
                          exact ⟨rfl, FIN.out _ HB10.out⟩
                  · have hlv : lv = [] := by rw [HLV.out, if_neg hf]
                    have hlr : lr = [] := by rw [HLR.out, if_neg hf]
                    rw [hlv] at h12
                    rw [hlr] at h13
                    have h13 : Row 5 wp.heap.size wr v13 [] := h13
                    obtain ⟨a12, c12, rfl, _⟩ := irow_si h12
                    obtain ⟨a13, c13, rfl, _⟩ := h13.sl
                    have hf1 : ((le : Int) == 0) = false := by rw [beq_eq_false_iff_ne]; omega
                    have hf2 : ((le : Int) != 0) = true := by rw [bne_iff_ne]; omega
                    rcases (show Hid ((j < V) = True) ∨ Hid ((j < V) = False) by
                      by_cases h : j < V
                      · exact .inl (hid (eq_true h))
                      · exact .inr (hid (eq_false h))) with hjv | hjv
                    all_goals
                      have hjv2 := hjv.out
                      clear hjv hgo hf hlv hlr h12 h13 hs18 hc18 hm18
                      go_wp2_with fail
                      refine HK.out.mono ?_
                      rintro e w9 ⟨rfl, hb9⟩
                      have HB10 := hid (HBZ.out.trans (hb9.mono HBZ.out.size))
                      clear hb9
                      go_wp2_with fail
                      go_ret
                      exact ⟨rfl, FIN.out _ HB10.out⟩
      · rw [hng] at HR5b
        have hr5 : Row 5 wq.heap.size w1 v5 [] := HR5b
        obtain ⟨a5, c5, rfl, _⟩ := hr5.sl
        have HBP := HB1
        clear HR5b hr5 HR5 hng HB1
        generalize w1 = wp at *
        have H18 := hid (getList_any _ a2 c2 bh wp (HSBq.out.below HBP.out) HC2.out HN2.out HBB.out (by omega))
        go_wp2_with fail
        refine H18.out.mono ?_
        rintro e wr1 ⟨⟨v12, v13, rfl, h12, h13⟩, hbr⟩
        have HBR := hid (HBP.out.trans (hbr.mono HBP.out.size))
        have h19 := refGet_any _ a2 c2 0 9223372036854775807 0 bh wr1 (HSBq.out.below HBR.out) HBB.out (Nat.zero_le _) (by omega) (by decide) rfl
        unfold RefAns at h19
        rw [List.drop_zero, Nat.zero_add] at h19
        have H19 := hid h19
        have H12 := hid h12
        have H13 := hid h13
        clear h19 h12 h13 hbr H18
        have HLE : Hid (listErr bh = if Var.err 9223372036854775807 bh ≠ 0 then Var.err 9223372036854775807 bh else if 65536 < Var.val 9223372036854775807 bh then 2 else manyErr (Var.val 9223372036854775807 bh) (bodyOf bh)) := hid rfl
        have HLV : Hid (listVals bh = if listErr bh = 0 then manyVals (Var.val 9223372036854775807 bh) (bodyOf bh) else []) := hid rfl
        have HLR : Hid (listRest bh = if listErr bh = 0 then manyRest (Var.val 9223372036854775807 bh) (bodyOf bh) else []) := hid rfl
        have HEV : Hid (Var.err 9223372036854775807 bh ≠ 0 → Var.val 9223372036854775807 bh = 0) := hid fun h => Var.val_bad h
        have HBO : Hid (bodyOf bh = bh.drop (Var.pos 9223372036854775807 bh)) := hid rfl
        have HPL := hid (Var.pos_le 9223372036854775807 bh)
        have hvl := Var.val_le 9223372036854775807 bh
        obtain ⟨f0, hf0⟩ : ∃ f0, f0 = (if Var.err 9223372036854775807 bh ≠ 0 then Var.err 9223372036854775807 bh else if 65536 < Var.val 9223372036854775807 bh then 2 else 0) := ⟨_, rfl⟩
        have HF0 := hid hf0
        clear hf0
        generalize listErr bh = le at *
        generalize listVals bh = lv at *
        generalize listRest bh = lr at *
        generalize bodyOf bh = bo at *
        generalize Var.err 9223372036854775807 bh = E at *
        generalize Var.val 9223372036854775807 bh = V at *
        generalize Var.pos 9223372036854775807 bh = P at *
        have hvli : (V : Int) ≤ 9223372036854775807 := by omega
        have HLF : Hid (le = if f0 ≠ 0 then f0 else manyErr V bo) := hid (by
          rw [HLE.out, HF0.out]
          by_cases h1 : E = 0
          · by_cases h2 : 65536 < V
            · simp [h1, h2]
            · simp [h1, h2]
          · simp [h1])
        have HSM : Hid (f0 = 0 → V ≤ 65536) := hid (by
          intro h
          rw [HF0.out] at h
          by_cases h1 : E = 0
          · by_cases h2 : 65536 < V
            · simp [h1, h2] at h
            · omega
          · simp [h1] at h)
        clear hvl
        rcases (show Hid (((E : Int) == 0) = false ∧ f0 = E) ∨ Hid (((E : Int) == 0) = true ∧ decide ((65536 : Int) < V) = true ∧ f0 = 2) ∨ Hid (((E : Int) == 0) = true ∧ decide ((65536 : Int) < V) = false ∧ f0 = E) by
          rw [HF0.out]
          by_cases h1 : E = 0
          · by_cases h2 : 65536 < V
            · exact .inr (.inl (hid ⟨by rw [h1]; rfl, decide_eq_true (by omega), by simp [h1, h2]⟩))
            · exact .inr (.inr (hid ⟨by rw [h1]; rfl, decide_eq_false (by omega), by simp [h1, h2]⟩))
          · exact .inl (hid ⟨by rw [beq_eq_false_iff_ne]; omega, by simp [h1]⟩)) with hc3 | hc3 | hc3
        all_goals
          have hq1 := hc3.out.1
          have hq2 := hc3.out.2
          have HFE := hc3
          clear hc3
          try obtain ⟨hq3, hq4⟩ := hq2
          have hfe : f0 = f0 := rfl
          try replace hfe := hq2
          try replace hfe := hq4
          have HFX := hid hfe
          clear hfe
          try clear hq2
          try clear hq4
          go_wp2_with fail
          refine H19.out.mono ?_
          rintro e w' ⟨rfl, rfl⟩
          go_wp2_with fail
          clear hq1
          try clear hq3
          go_loopw [16, 17, 18, 19] (fun t16 t17 v18 t19 wr => ∃ (j f q : Nat) (vs l : List Nat), t19 = .int .u64 (j : Int) ∧ t17 = .int .i64 (f : Int) ∧ t16 = .int .i64 (q : Int) ∧ q ≤ bh.length ∧ IRow wr1.heap.size wr v18 vs ∧ Below wr1.heap.size wr1 wr ∧
            (f = 0 → l = bh.drop q) ∧ ((f0 ≠ 0 ∧ vs = [] ∧ j = 0 ∧ f = f0) ∨ (f0 = 0 ∧ Mid V bo j vs l f))) (fun _ _ _ t19 _ => V - (intOf t19).toNat)
          case atStart =>
            refine ⟨0, f0, P, [], bo, rfl, by first | rfl | (rw [HFX.out]; rfl) | (rw [HFX.out]), rfl, HPL.out, World.ownsRow_nil _ _ _ _, Below.refl _ _, fun _ => HBO.out, ?_⟩
            by_cases h : f0 = 0
            · right
              refine ⟨h, ?_⟩
              rw [h]
              exact Mid.start _ _
            · exact .inl ⟨h, rfl, rfl, rfl⟩
          case round =>
            obtain ⟨j, f, q, vs, l, rfl, rfl, rfl, hq, hir, hbw, hlq, hmid⟩ := hrel
            have HIR := hid hir
            have HBW := hid hbw
            have HLQ := hid hlq
            have HMID := hid hmid
            have HQ := hid hq
            have hqi : (q : Int) ≤ bh.length := by omega
            have HBZ := hid (HBR.out.trans (hbw.mono HBR.out.size))
            have hjv : j ≤ V := by
              rcases hmid with ⟨_, _, rfl, _⟩ | ⟨_, h1, _⟩
              · exact Nat.zero_le _
              · exact h1
            have HJV := hid hjv
            clear hir hbw hlq hmid hq hjv
            by_cases hgo : j < V ∧ f = 0
            · obtain ⟨hjl, hf⟩ := hgo
              subst hf
              have hl := HLQ.out rfl
              subst hl
              obtain ⟨hz0, hmd⟩ : f0 = 0 ∧ Mid V bo j vs (bh.drop q) 0 := by
                rcases HMID.out with ⟨h1, _, _, h2⟩ | ⟨h, h2⟩
                · exact absurd h2.symm h1
                · exact ⟨h, h2⟩
              have hvv := HSM.out hz0
              have hjm : vs.length = j := hmd.2.2.1
              have HMN := hid (hmd.next hjl)
              have HZ0 := hid hz0
              have h19 := refGet_any _ a2 c2 q 9223372036854775807 (q : Int) bh wr (HSBq.out.below HBZ.out) HBB.out HQ.out (by omega) (by decide) rfl
              unfold RefAns at h19
              have H20 := hid h19
              have HVX := hid (Var.val_le 9223372036854775807 (bh.drop q))
              have HPX := hid (Var.pos_le 9223372036854775807 (bh.drop q))
              have HLL : Hid (Var.err 9223372036854775807 (bh.drop q) = 0 → leftOf 9223372036854775807 (bh.drop q) = bh.drop (q + Var.pos 9223372036854775807 (bh.drop q))) := hid (by
                intro h
                unfold leftOf
                rw [if_pos h, List.drop_drop])
              have HJM := hid hjm
              have hjl2 : (j < V) = True := eq_true hjl
              have hjli : (j : Int) < V := by omega
              have hvvi : (V : Int) ≤ 65536 := by omega
              clear h19 hmd hz0 hjm hjl hvv HMID HLQ
              generalize Var.val 9223372036854775807 (bh.drop q) = x at *
              generalize Var.pos 9223372036854775807 (bh.drop q) = q2 at *
              generalize Var.err 9223372036854775807 (bh.drop q) = f2 at *
              generalize leftOf 9223372036854775807 (bh.drop q) = l2 at *
              have hxi : (x : Int) ≤ 9223372036854775807 := by have := HVX.out; omega
              go_wp2_with fail
              refine H20.out.mono ?_
              rintro e w' ⟨rfl, rfl⟩
              go_wp2_with (refine wpList_append_any rfl (.tmp 140) (.tmp 143) 22 rfl wr1.heap.size 3 (.int .i64 0) 8 Try.underlying22 infoInt rfl _ _ _ rfl (HIR.out.alloc _) (some ⟨wr.heap.size, 0, none⟩) 1 1 _ rfl rfl (by intro h; cases h) (one_new wr _ _) (by simp [Value.oneCell']) (by have := HJM.out; unfold maxLen; omega) (by have := HJM.out; omega) (by have := HBW.out.size; simp; omega) ?_)
              intro v144 w4 hv144 hg4 _
              have HV := hid (irow_one hv144 rfl rfl)
              have HB4 := hid (below_owned (HBW.out.alloc HBW.out.size _) (HIR.out.alloc _) (Nat.le_refl _) hg4)
              clear hv144 hg4
              go_wp2_with fail
              go_roundw
              case rel =>
                exact ⟨j + 1, f2, q + q2, vs ++ [x], l2, by go_num, rfl, by go_num, by have h1 := HPX.out; have h2 := HQ.out; rw [List.length_drop] at h1; omega, HV.out, HB4.out, HLL.out, .inr ⟨HZ0.out, HMN.out⟩⟩
              case measure => simp [intOf]; omega
            · have hend : le = f ∧ (f = 0 → lv = vs ∧ lr = l) := by
                rcases HMID.out with ⟨h1, rfl, rfl, rfl⟩ | ⟨h1, h2⟩
                · have h3 : le = f := by rw [HLF.out, if_pos h1]
                  exact ⟨h3, fun h => absurd h h1⟩
                · have h3 := h2.stop (by
                    by_cases hf : f = 0
                    · right
                      have := h2.1
                      omega
                    · exact .inl hf)
                  have h4 : le = f := by rw [HLF.out, if_neg (by simpa using h1)]; exact h3.1
                  refine ⟨h4, fun h => ?_⟩
                  rw [HLV.out, HLR.out, h4, if_pos h, if_pos h]
                  exact h3.2 h
              obtain ⟨rfl, hend⟩ := hend
              have HEND := hid hend
              clear hend HMID
              have HK := hid (known_any wr)
              have h12 : IRow wp.heap.size wr v12 lv := World.ownsRow.kept H12.out (show wr1.grownBy wr none from ⟨HBW.out.os, HBW.out.tape, HBW.out.output, HBW.out.size, fun i hi _ => HBW.out.block i hi⟩) (by
                cases hv : v12.ownBlock with
                | none => exact .inl rfl
                | some _ => exact .inr (by simp))
              have h13 := H13.out.kept HBW.out
              obtain ⟨a18, c18, rfl, hs18, hc18, hm18⟩ := irow_si HIR.out
              by_cases hf : le = 0
              · obtain ⟨hlv, hlr⟩ := HEND.out hf
                subst hlv hlr
                subst hf
                have hl := HLQ.out rfl
                obtain ⟨a12, c12, rfl, hs12, hc12, hm12⟩ := irow_si h12
                rw [hl] at h13
                have hjv : (j < V) = False := eq_false (by omega)
                have hjv2 : (V : Int) ≤ j := by omega
                have HS12 := hid hs12
                have HS18 := hid hs18
                have hc12i : (lv.length : Int) ≤ c12 := by omega
                have hc18i : (lv.length : Int) ≤ c18 := by omega
                have hlmi : (lv.length : Int) ≤ 9223372036854775807 := by unfold maxLen at hm12; omega
                have hqn : q ≤ bh.length := HQ.out
                have hcn : bh.length ≤ c2 := HC2.out.1
                have H9x := same_v v13 _ _ _ wr (held h13) (bs_drop (HSBq.out.below HBZ.out) HC2.out HN2.out q hqn) rfl
                clear hgo hs12 hs18 hc12 hm12 hc18 hm18 h12 h13 hl
                by_cases hcq : c2 = q
                all_goals
                  first | rw [if_pos hcq] at H9x | rw [if_neg hcq] at H9x
                  have hcq2 : (c2 = q) = (c2 = q) := rfl
                  try replace hcq2 : (c2 = q) = True := eq_true hcq
                  try replace hcq2 : (c2 = q) = False := eq_false hcq
                  have H9 := hid H9x
                  clear hcq H9x
                  go_wp2_with fail
                  refine H9.out.mono ?_
                  rintro e w8 ⟨rfl, hb8⟩
                  have HB8 := hid (HBZ.out.trans (hb8.mono HBZ.out.size))
                  have HS12b := hid (HS12.out.below hb8)
                  have HS18b := hid (HS18.out.below hb8)
                  clear hb8 H9
                  go_wp2_with fail
                  go_loopw [23] (fun i wz => ∃ i' : Nat, i' ≤ lv.length ∧ i = .int .i64 (i' : Int) ∧ Below w8.heap.size w8 wz) (fun i _ => lv.length - (intOf i).toNat)
                  case atStart => exact ⟨0, Nat.zero_le _, rfl, Below.refl _ _⟩
                  case round =>
                    obtain ⟨i', hi', rfl, hbj⟩ := hrel
                    by_cases hlt : i' < lv.length
                    · have hcell : ∃ b off, Hid (a12 = some ⟨b, off, none⟩) ∧ wr.cell? ⟨b, off + i', none⟩ = some (.int .i64 ((ints lv).getD i' 0)) := by
                        rcases HS12b.out.below hbj with h | ⟨b, off, h, _, hc⟩
                        · have := congrArg List.length h; rw [ints_len] at this; simp at this; rw [this] at hlt; simp at hlt
                        · exact ⟨b, off, hid h, hc i' (by rw [ints_len]; exact hlt)⟩
                      have hcell2 : ∃ b off, Hid (a18 = some ⟨b, off, none⟩) ∧ wr.cell? ⟨b, off + i', none⟩ = some (.int .i64 ((ints lv).getD i' 0)) := by
                        rcases HS18b.out.below hbj with h | ⟨b, off, h, _, hc⟩
                        · have := congrArg List.length h; rw [ints_len] at this; simp at this; rw [this] at hlt; simp at hlt
                        · exact ⟨b, off, hid h, hc i' (by rw [ints_len]; exact hlt)⟩
                      obtain ⟨b, off, ha, hcell⟩ := hcell
                      obtain ⟨b2, off2, hay, hcell2⟩ := hcell2
                      have ha2 := ha.out
                      have hay2 := hay.out
                      subst ha2 hay2
                      have hlti : (i' : Int) < lv.length := by omega
                      have hlt2 : (i' < lv.length) = True := eq_true hlt
                      clear hlt
                      generalize (ints lv).getD i' 0 = z at *
                      go_wp2_with fail
                      go_quiet (fail)
                      have hbq2 : Below w8.heap.size w8 (wr.drewN nq) := ⟨hbj.os, hbj.tape, hbj.output, hbj.size, hbj.block⟩
                      go_wp2_with fail
                      go_roundw
                      case rel => exact ⟨i' + 1, by omega, by go_num, hbq2⟩
                      case measure => simp [intOf]; omega
                    · have hlt2 : (i' < lv.length) = False := eq_false hlt
                      have hlti : (lv.length : Int) ≤ i' := by omega
                      have HB9 := hid (HB8.out.trans (hbj.mono HB8.out.size))
                      have HK2 := hid (known_any wr)
                      clear hlt hi' hbj
                      go_wp2_with fail
                      refine HK2.out.mono ?_
                      rintro e w9 ⟨rfl, hb9⟩
                      have HB10 := hid (HB9.out.trans (hb9.mono HB9.out.size))
                      clear hb9
                      go_wp2_with fail
                      go_ret
                      exact ⟨rfl, FIN.out _ HB10.out⟩
              · have hlv : lv = [] := by rw [HLV.out, if_neg hf]
                have hlr : lr = [] := by rw [HLR.out, if_neg hf]
                rw [hlv] at h12
                rw [hlr] at h13
                have h13 : Row 5 wp.heap.size wr v13 [] := h13
                obtain ⟨a12, c12, rfl, _⟩ := irow_si h12
                obtain ⟨a13, c13, rfl, _⟩ := h13.sl
                have hf1 : ((le : Int) == 0) = false := by rw [beq_eq_false_iff_ne]; omega
                have hf2 : ((le : Int) != 0) = true := by rw [bne_iff_ne]; omega
                rcases (show Hid ((j < V) = True) ∨ Hid ((j < V) = False) by
                  by_cases h : j < V
                  · exact .inl (hid (eq_true h))
                  · exact .inr (hid (eq_false h))) with hjv | hjv
                all_goals
                  have hjv2 := hjv.out
                  clear hjv hgo hf hlv hlr h12 h13 hs18 hc18 hm18
                  go_wp2_with fail
                  refine HK.out.mono ?_
                  rintro e w9 ⟨rfl, hb9⟩
                  have HB10 := hid (HBZ.out.trans (hb9.mono HBZ.out.size))
                  clear hb9
                  go_wp2_with fail
                  go_ret
                  exact ⟨rfl, FIN.out _ HB10.out⟩
namespace varintLists
open Go.ChangeShapes Go.WideShapes Go.ChangeAt

theorem own : ownKnob Try.prog.godebug = none := by kernel_rfl
theorem laidOut : laidOutB Try.prog = true := by kernel_rfl

set_option maxRecDepth 100000 in
theorem lifted (os : Os) (started : os.Started) (H : Type) (enc : TypeId × Value → H) :
    ReturnsInHanded {} Try.checked os 4 .any (Rows.varintListsSpec.pre6 enc Try.prog Try.f4 Rows.varintListsRow.domain false) (Rows.varintListsSpec.post enc Try.prog Try.f4 false true false false) := by
  refine returnsInHanded_of_change (C := Try.checked) own started (by kernel_rfl) Try.func4
    (ChangeSpec.witness6 (enc := enc) (C := Try.checked) false ⟨#[], #[.slice none 0 0, .slice none 0 0], []⟩ 8 (by kernel_rfl) (by kernel_rfl) (by kernel_rfl) (by kernel_rfl)) ?_
  intro W base args ds gs before hval0 hW hcnd _
  have hval : ∀ (j : Nat) t v, Try.f4.params[j]? = some t → args[j]? = some v → Value.okWide Try.prog W .any base t v := hval0
  have hW' := hW
  obtain ⟨p, q, hA0, hV, rfl, hfz, hnd⟩ := hW
  have hA : DataW.TrodAll enc Try.prog W 0 (fun _ => true) true Try.f4.params.toList args.toList ds p := hA0
  rw [Try.params4] at hA hval
  obtain ⟨v0, vs0, d0, ds0, p0, q0, hargs, rfl, rfl, h0, r0⟩ := trodAll_cons hA
  obtain ⟨v1, vs1, d1, ds1, p1, q1, rfl, rfl, rfl, h1, r1⟩ := trodAll_cons r0
  obtain ⟨rfl, rfl, rfl⟩ := trodAll_nil r1
  obtain rfl : args = #[v0, v1] := by cases args; simp_all
  obtain ⟨rfl, rfl⟩ := trodVars_none hV
  obtain ⟨a0, len0, cap0, rfl⟩ := okWide_slice Try.underlying22 (hval 0 22 v0 rfl rfl)
  have k0 := h0
  have lt0 : ∀ x ∈ p0, x.block < W.heap.size := by obtain ⟨m, hm⟩ := k0; exact DataW.trod_lt m _ _ _ hm
  obtain ⟨a, c, zs0, hv, hz0, hsi0, hlc0, hcm0, hn0⟩ : ∃ a c zs, Value.slice a0 len0 cap0 = .slice a (List.length zs) c ∧ (∀ z ∈ zs, -9223372036854775808 ≤ z ∧ z ≤ 9223372036854775807) ∧ Si (fun _ => True) W a zs ∧ zs.length ≤ c ∧ c ≤ maxLen ∧ (a = none → c = 0) := by
    obtain ⟨fuel, hf⟩ := h0
    exact open_si Try.underlying22 Try.underlying3 (by kernel_rfl) hf
  simp only [Value.slice.injEq] at hv
  obtain ⟨rfl, rfl, rfl⟩ := hv
  obtain ⟨a1, len1, cap1, rfl⟩ := okWide_slice Try.underlying23 (hval 1 23 v1 rfl rfl)
  have k1 := h1
  have lt1 : ∀ x ∈ p1, x.block < W.heap.size := by obtain ⟨m, hm⟩ := k1; exact DataW.trod_lt m _ _ _ hm
  obtain ⟨a, c, bs1, hv, hby1, hsl1, hlc1, hcm1, hn1⟩ : ∃ a c bs, Value.slice a1 len1 cap1 = .slice a (List.length bs) c ∧ Bytes bs ∧ Sl (fun _ => True) W a bs ∧ bs.length ≤ c ∧ c ≤ maxLen ∧ (a = none → c = 0) := by
    obtain ⟨fuel, hf⟩ := h1
    exact open_sl Try.underlying23 Try.underlying5 (by kernel_rfl) hf
  simp only [Value.slice.injEq] at hv
  obtain ⟨rfl, rfl, rfl⟩ := hv
  clear hA0 hval0
  refine (lists_walk a0 cap0 zs0 a1 cap1 bs1 W hsi0 ⟨hlc0, hcm0⟩ hz0 hsl1 hby1 ⟨hlc1, hcm1⟩ hn1).mono fun e W' ⟨he, bel⟩ => ?_
  subst he
  exact ⟨_, rfl, _, _, _, [], _, [], hW', trodAll_mk1 (shut_bool Try.underlying4 _), (trodAll_cons_mk (Below.trod laidOut (by kernel_rfl) (of_decide_eq_true (by kernel_rfl)) k0 bel lt0) (trodAll_cons_mk (Below.trod laidOut (by kernel_rfl) (of_decide_eq_true (by kernel_rfl)) k1 bel lt1) trodAll_mk0)), rfl, bel.frame _, fun h => by cases h⟩

/-- THE STATEMENT. -/
theorem proved : Rows.VarintListsSaid :=
  OpenClaim.holds_of_wide 4 Try.f4 rfl rfl rfl rfl rfl rfl rfl ⟨rfl, rfl, rfl, rfl, rfl⟩ rfl rfl rfl rfl rfl (by kernel_rfl) Try.func4 (by kernel_rfl)
    (of_decide_eq_true (by kernel_rfl)) (by unfold Func.isWrapper; first | (rw [if_pos (by decide +kernel)]; kernel_rfl) | (rw [if_neg (by decide +kernel)]; exact ⟨rfl, rfl⟩))
    (fun os started H enc _ => lifted os started H enc)
end varintLists
end Go.Proofs.Ytpipgbehpppjbaa
