/- A LAW OF append: the row is where it was, or new; and the walk of 'PackedPlays' up to its loop. -/
import Derived.Test.YtcgapplblhbdlaaPkU
namespace Go.Inc
open Go Go.RowKit
/-- The row is where it was, or in new memory. -/
def Nw (w : World) (v v' : Value) : Prop := v'.ownBlock = v.ownBlock ∨ ∃ j, v'.ownBlock = some j ∧ w.heap.size ≤ j
theorem Nw.refl (w : World) (v : Value) : Nw w v v := .inl rfl
/-- An append onto an own row; the row is where it was, or in new memory. -/
theorem wpList_append_new {P : Program} (w : World) {ops : Array Oper} {rest : List Oper} {o : Oper} {a : Act} {Q : Exit → Act → World → Prop} (hgd : o.guard = none) (s x : Operand) (t : TypeId)
    (ho : o.op = .call { callee := .builtin .append, args := #[s, x], argTypes := #[t, t] })
    (base : Nat) (e : TypeId) (i : TypeInfo) (z : Value) (size bytes : Nat) (ht : P.underlying t = some (.slice e)) (hi : P.info? e = some i) (hz : i.zero = some z)
    (hsize : i.size = size) (hby : i.bytes = bytes) (hzs : z.cells.size = size) (hsz : 0 < size)
    (v : Value) (n : Nat) (xs : List Value) (hs : a.eval s = v) (hown : w.ownsRow base e size v n xs)
    (ad : Addr) (m c : Nat) (news : List Value) (hx : a.eval x = .slice (some ad) m c) (hl : news.length = m * size) (hnews : ∀ j u, news[j]? = some u → w.cell? (ad.add j) = some u) (h1 : ∀ u ∈ news, u.oneCell' = true)
    (h63 : n + m ≤ maxLen) (hbytes : (n + m) * bytes ≤ 140737488355328) (hbase : base ≤ w.heap.size)
    (h : ∀ v' w', w'.ownsRow base e size v' (n + m) (xs ++ news) → w.grownBy w' v.ownBlock → Nw w v v' → wpList P ops Q rest (a.put o.dst v') w') : wpList P ops Q (o :: rest) a w := by
  refine wpList_plain hgd fun K hK => ?_
  obtain ⟨v', w', hr, h2, h3, -⟩ := run_append_own (P := P) w base t o.type e i z size bytes ht hi hz hsize hby hzs hsz v n xs hown ad m c news hl hnews h1 h63 hbytes hbase
  have hnw : Nw w v v' := by
    have hsmall : n + m ≤ 9223372036854775807 := by simp only [maxLen] at h63; omega
    rcases hown.2 with ⟨rfl, rfl⟩ | ⟨g, cap, cur, rfl, hbg, hg, hnc, hcm, hcs, htake⟩
    · by_cases hm : m = 0
      · subst hm
        have hn : news = [] := List.eq_nil_of_length_eq_zero (by simpa using hl)
        subst hn
        have hr2 : (Builtin.append_ #[t, t] o.type #[.slice none 0 0, .slice (some ad) 0 c]).run P w = .ok (.slice none 0 0) w := by
          simp [Builtin.append_, run_underlying ht, sizeOf, typeInfo, hi, Builtin.lenOf, Builtin.firstCells, loadCells, loadCellsFrom]
        rw [hr2] at hr
        cases hr
        exact .inl rfl
      · have hr2 := run_append_nil (P := P) w t o.type e i z ht hi hz ad m c news (by rw [hsize]; exact hl) hnews (by omega) (by omega) (by rw [hby]; have hb := hbytes; simp only [Nat.zero_add] at hb; omega)
        rw [hr2] at hr
        cases hr
        exact .inr ⟨_, rfl, Nat.le_refl _⟩
    · by_cases hroom : n + m ≤ cap
      · have hr2 := run_append_room (P := P) w t o.type e i ht hi g n cap cur hg ad m c news (by rw [hsize]; exact hl) hnews h1 hroom (by rw [hl, hcs, hsize, ← Nat.add_mul]; exact Nat.mul_le_mul_right _ hroom)
        rw [hr2] at hr
        cases hr
        exact .inl rfl
      · have holds : ∀ j u, xs[j]? = some u → w.cell? ((⟨g, 0, none⟩ : Addr).add j) = some u := hown.cells (g := g) rfl
        have hr2 := run_append_grow (P := P) w t o.type e i z ht hi hz ⟨g, 0, none⟩ n cap xs (by rw [hsize]; exact hown.1) holds ad m c news (by rw [hsize]; exact hl) hnews (by omega) (by omega) (growslice_fits (by omega) (by rw [hby]; exact hbytes))
        rw [hr2] at hr
        cases hr
        exact .inr ⟨_, rfl, Nat.le_refl _⟩
  unfold Oper.wp execOp
  simp only [ho, resolve, invoke, builtin, Sem.run_bind, Sem.run_pure, Result.andThen_ok, List.map_toArray, List.map_cons, List.map_nil, hs, hx, hr]
  exact hK _ _ (h v' w' h2 h3 hnw)
/-- The same, wherever the source lies. -/
theorem wpList_append_nx {P : Program} {w : World} {ops : Array Oper} {rest : List Oper} {o : Oper} {a : Act} {Q : Exit → Act → World → Prop} (hgd : o.guard = none) (s x : Operand) (t : TypeId)
    (ho : o.op = .call { callee := .builtin .append, args := #[s, x], argTypes := #[t, t] })
    (base : Nat) (e : TypeId) (z : Value) (bytes : Nat) (ht : P.underlying t = some (.slice e)) (hi : (P.info? e).map (fun i => (i.zero, i.size, i.bytes)) = some (some z, 1, bytes)) (hzs : z.cells.size = 1)
    (v : Value) (n : Nat) (xs : List Value) (hs : a.eval s = v) (hown : w.ownsRow base e 1 v n xs)
    (ao : Option Addr) (m c : Nat) (news : List Value) (hx : a.eval x = .slice ao m c) (hl : news.length = m) (hnone : ao = none → m = 0) (hnews : ∀ ad, ao = some ad → ∀ j u, news[j]? = some u → w.cell? (ad.add j) = some u) (h1 : ∀ u ∈ news, u.oneCell' = true)
    (h63 : n + m ≤ maxLen) (hbytes : (n + m) * bytes ≤ 140737488355328) (hbase : base ≤ w.heap.size)
    (h : ∀ v' w', w'.ownsRow base e 1 v' (n + m) (xs ++ news) → w.grownBy w' v.ownBlock → Nw w v v' → wpList P ops Q rest (a.put o.dst v') w') : wpList P ops Q (o :: rest) a w := by
  obtain ⟨i, hi, hz0, hz1, hz2⟩ := info_parts hi
  cases ao with
  | some ad => exact wpList_append_new w hgd s x t ho base e i z 1 bytes ht hi hz0 hz1 hz2 hzs (by decide) v n xs hs hown ad m c news hx (by omega) (hnews ad rfl) h1 h63 hbytes hbase h
  | none =>
    obtain rfl := hnone rfl
    obtain rfl : news = [] := List.eq_nil_of_length_eq_zero hl
    refine wpList_plain hgd fun K hK => ?_
    have hrun := run_append_nil_any (P := P) t o.type i ht hi v n c xs hown
    unfold Oper.wp
    simp [execOp, ho, resolve, invoke, builtin, hs, hx, hrun, Result.andThen]
    exact hK _ _ (h v w (by simpa using hown) (grown_refl _ _) (Nw.refl _ _))
end Go.Inc
namespace Go.Proofs.Ytcgapplblhbdlaa
open Go.RowKit Go.Inc
theorem si_own {z : World} {B e m n c : Nat} {a : Option Addr} {zs : List Int} (h : z.ownsRow B e 1 (.slice a n c) m (ivals zs)) : Si (fun b => (Value.slice a n c).ownBlock = some b) z a zs := by
  obtain ⟨a', c', hv, -, -, -, hs⟩ := Si.ownedI h
  simp only [Value.slice.injEq] at hv
  obtain ⟨rfl, -, -⟩ := hv
  exact hs
theorem lit_none (z : World) (B : Nat) (hB : B ≤ z.heap.size) : (z.alloc (.cells #[] 3)).ownsRow B 3 1 (.slice (some ⟨z.heap.size, 0, none⟩) 0 0) 0 (ivals []) := World.ownsRow_lit z #[] 0 hB (Nat.zero_le _) rfl
set_option maxRecDepth 20000 in
set_option maxHeartbeats 4000000 in
theorem pkPlays_walk (W : World) (width : Int) (a0 : Option Addr) (c0 : Nat) (zs : List Int) (a : Option Addr) (c : Nat) (ts : List Pac) (hz : Si (fun _ => True) W a0 zs) (hzc : zs.length ≤ c0 ∧ c0 ≤ maxLen) (hts : PacS (fun _ => True) W a ts) (hlc : ts.length ≤ c ∧ c ≤ maxLen) :
    Calls Try.prog 3 #[.int .i64 width, .slice a0 zs.length c0, .slice a ts.length c] W fun e w' => e = .returned (.bool true) ∧ Below W.heap.size W w' := by
  have HTS := hid hts.old
  obtain ⟨n, hn⟩ : ∃ n, n = ts.length := ⟨_, rfl⟩
  have HN := hid hn
  have hcm2 : (n : Int) ≤ 9223372036854775807 := by have := hlc.2; unfold maxLen at this; omega
  rw [← hn]
  obtain ⟨zh, hzh⟩ : ∃ zh, zh = zs.take 40 := ⟨_, rfl⟩
  have hmin : min (zs.length : Int) 40 = (zh.length : Int) := by rw [hzh, List.length_take]; omega
  have HZ : Hid (Si (fun b => b < W.heap.size) W a0 zh) := hid (by rw [hzh]; exact (hz.mono fun _ _ h => h).front 40)
  obtain ⟨nz, hnz⟩ : ∃ nz, nz = zs.length := ⟨_, rfl⟩
  obtain ⟨nh, hnh⟩ : ∃ nh, nh = zh.length := ⟨_, rfl⟩
  have HNH := hid hnh
  rw [← hnz] at hzc hmin ⊢
  rw [← hnh] at hmin
  have hz40 : (nh : Int) ≤ 40 := by omega
  have hzl : (nh : Int) ≤ (nz : Int) := by omega
  have hzc2 : (nh : Int) ≤ (c0 : Int) := by omega
  have hnz0 : (0 : Int) ≤ (nz : Int) := by omega
  obtain ⟨w1, hw1⟩ : ∃ w1, w1 = W.alloc (.cells #[] 3) := ⟨_, rfl⟩
  have HW1 := hid hw1
  have HB1 : Hid (Below W.heap.size W w1) := hid (by rw [hw1]; exact (Below.refl _ _).alloc (Nat.le_refl _) _)
  have HLIT : Hid (w1.ownsRow W.heap.size 3 1 (.slice (some ⟨W.heap.size, 0, none⟩) 0 0) 0 (ivals [])) := hid (by rw [hw1]; exact lit_none W W.heap.size (Nat.le_refl _))
  have HZ1 := hid (HZ.out.below HB1.out)
  clear hts hn hz hzh hnz hnh hw1 hzc hlc
  go_enter Try.func3, Try.ntmps3
  go_wp2_with (rw [← HW1.out]; refine wpList_append_nx rfl (.tmp 21) (.tmp 26) 22 rfl W.heap.size 3 (.int .i64 0) 8 Try.underlying22 infoI64 rfl _ _ _ rfl HLIT.out a0 nh c0 (ivals zh) rfl (by rw [ivals_len, HNH.out]) (by rw [HNH.out]; exact HZ1.out.some_lenI) HZ1.out.cellsI (ivals_one _) (by unfold maxLen; omega) (by omega) HB1.out.size ?_)
  intro lv w2 hr2 hg2 _
  have hrow : w2.ownsRow W.heap.size 3 1 lv nh (ivals zh) := by simpa [ivals] using hr2
  have HB2 : Hid (Below W.heap.size W w2) := hid (HB1.out.grown hg2 HB1.out.size fun g hg => (HLIT.out.lt g hg).1)
  obtain ⟨a1, c1, rfl, -, hc1, hc1', hs1⟩ := Si.ownedI hrow
  rw [← HNH.out] at hc1 ⊢
  have HROW := hid (by rw [← HNH.out] at hrow; exact hrow)
  have HS1 := hid hs1
  clear hr2 hg2 hrow hs1 HLIT HZ1 HB1 HW1
  by_cases hw : isW width = true
  · have hwd : 1 ≤ width ∧ width ≤ 31 := by unfold isW at hw; rwa [decide_eq_true_iff] at hw
    obtain ⟨w, rfl⟩ := Int.eq_ofNat_of_zero_le (show 0 ≤ width by omega)
    have h1 : 1 ≤ w := by omega
    have h2 : w ≤ 31 := by omega
    have hwi1 : (1 : Int) ≤ w := by omega
    have hwi2 : (w : Int) ≤ 31 := by omega
    have hwn1 : ((w : Int) < 1) = False := eq_false (by omega)
    have hwn1' : (w < 1) = False := eq_false (by omega)
    have hwn2 : ((31 : Int) < (w : Int)) = False := eq_false (by omega)
    have hwn2' : (31 < w) = False := eq_false (by omega)
    cases hall : allF w zh with
    | false =>
      have HNW := hid (pkNew_bad _ w2 w a1 c1 zh h1 h2 HS1.out (by rw [← HNH.out]; omega) hall)
      have HFT := hid (fun (x : World) (hx : Below w2.heap.size w2 x) => refFits_any _ x w a1 c1 zh h1 h2 (HS1.out.below hx) (by rw [← HNH.out]; omega))
      rw [hall, ← HNH.out] at HFT
      rw [← HNH.out] at HNW
      clear hw hwd hall h1 h2 HTS HN HZ HROW HNH
      go_wp2_with fail
      refine HNW.out.mono ?_
      rintro e w3 ⟨rfl, hb3⟩
      have HB3 := hid (HB2.out.trans (hb3.mono HB2.out.size))
      have HF3 := hid (HFT.out w3 hb3)
      clear hb3 HNW HFT
      go_wp2_with fail
      refine HF3.out.mono ?_
      rintro e w4 ⟨rfl, rfl⟩
      go_wp2_with fail
      refine (pkKnown_any w3).mono ?_
      rintro e w5 ⟨rfl, hb5⟩
      have HB5 := hid (HB3.out.trans (hb5.mono HB3.out.size))
      clear hb5
      go_wp2_with fail
      go_ret
      exact ⟨rfl, HB5.out⟩
    | true =>
      obtain ⟨ls, hls, hfit⟩ := allF_nat hall
      subst hls
      have HNL : Hid (nh = ls.length) := hid (by rw [HNH.out, nI_len])
      have HNW := hid (pkNew_any _ w2 w a1 c1 ls h1 h2 HS1.out (by rw [← HNL.out]; omega) hfit)
      have HFT := hid (fun (x : World) (hx : Below w2.heap.size w2 x) => refFits_any _ x w a1 c1 (nI ls) h1 h2 (HS1.out.below hx) (by rw [nI_len, ← HNL.out]; omega))
      rw [hall, nI_len, ← HNL.out] at HFT
      rw [← HNL.out] at HNW
      have HWW := hid (And.intro h1 h2)
      clear hw hwd hall h1 h2 HZ HNH hfit
      go_wp2_with fail
      refine HNW.out.mono ?_
      rintro e w3 ⟨⟨p, rfl, b, v, V, rfl, hbge, hat⟩, hb3⟩
      have HB3 := hid (HB2.out.trans (hb3.mono HB2.out.size))
      have HF3 := hid (HFT.out w3 hb3)
      have HAT3 := hid (hat.weaken HB2.out.size)
      have HGE : Hid (W.heap.size ≤ b) := hid (Nat.le_trans HB2.out.size hbge)
      have HROW3 := hid (owns_mv (F := fun _ => False) HROW.out (Mv.of_below hb3) fun _ _ => id)
      have HS3 := hid (HS1.out.below hb3)
      have hsz23 := hb3.size
      clear hb3 HNW HFT hat hbge HROW HS1
      obtain ⟨w4, hw4⟩ : ∃ w4, w4 = w3.alloc (.cells #[] 3) := ⟨_, rfl⟩
      have HW4 := hid hw4
      have HB4 : Hid (Below w3.heap.size w3 w4) := hid (by rw [hw4]; exact (Below.refl _ _).alloc (Nat.le_refl _) _)
      have HLIT : Hid (w4.ownsRow w3.heap.size 3 1 (.slice (some ⟨w3.heap.size, 0, none⟩) 0 0) 0 (ivals [])) := hid (by rw [hw4]; exact lit_none w3 w3.heap.size (Nat.le_refl _))
      have HS4 := hid (HS3.out.below HB4.out)
      clear hw4
      go_wp2_with fail
      refine HF3.out.mono ?_
      rintro e w3' ⟨rfl, rfl⟩
      go_wp2_with (rw [← HW4.out]; refine wpList_append_nx rfl (.tmp 62) (.tmp 63) 22 rfl w3.heap.size 3 (.int .i64 0) 8 Try.underlying22 infoI64 rfl _ _ _ rfl HLIT.out a1 nh c1 (ivals (nI ls)) rfl (by rw [ivals_len, nI_len, HNL.out]) (by rw [HNL.out, ← nI_len]; exact HS4.out.some_lenI) HS4.out.cellsI (ivals_one _) (by unfold maxLen; omega) (by omega) HB4.out.size ?_)
      intro fv w5 hr5 hg5 _
      have hrow5 : w5.ownsRow w3.heap.size 3 1 fv nh (ivals (nI ls)) := by simpa [ivals] using hr5
      have hb5 : Below w3.heap.size w3 w5 := HB4.out.grown hg5 HB4.out.size fun g hg => (HLIT.out.lt g hg).1
      have HB5 := hid (HB3.out.trans (hb5.mono HB3.out.size))
      have HAT5 := hid (HAT3.out.below hb5)
      have HROW5 := hid (owns_mv (F := fun _ => False) HROW3.out (Mv.of_below hb5) fun _ _ => id)
      have HF5 := hid hrow5
      have hd2 : (Value.slice a1 nh c1).ownBlock = none ∨ (Value.slice a1 nh c1).ownBlock ≠ fv.ownBlock := by
        cases hl : (Value.slice a1 nh c1).ownBlock with
        | none => exact .inl rfl
        | some g =>
          refine .inr fun e => ?_
          have h3 := (hrow5.lt g e.symm).1
          have h4 := (HROW3.out.lt g hl).2
          omega
      have HD2 := hid hd2
      have HCP := hid (pkCopy_any w5 b _ v w ls V HAT5.out)
      have hlt5 : ∀ i, Own2 b v i → i < w5.heap.size := fun i hi => by
        rcases hi with rfl | hi
        · exact HAT5.out.raw.blt
        · exact HAT5.out.raw.glt i hi
      have HLT5 := hid hlt5
      have HSZ : Hid (W.heap.size ≤ w3.heap.size) := hid HB3.out.size
      clear hr5 hg5 hrow5 hb5 HLIT HB4 HS4 HAT3 HROW3 HB3 HF3 hd2 hlt5 HB2 HS3 HW4
      go_wp2_with fail
      refine HCP.out.mono ?_
      rintro e w6 ⟨⟨pc, rfl, bc, vc, Vc, rfl, hbcge, hatc⟩, hb6⟩
      have hst : StP W w6 b v (.slice a1 nh c1) w ls V bc vc fv ls Vc := by
        refine ⟨HB5.out.trans (hb6.mono HB5.out.size), HAT5.out.below hb6, ?_, hatc.weaken HB5.out.size, ?_, fun i hi hc => ?_, HD2.out, HGE.out⟩
        · rw [← HNL.out]
          exact own_weaken (owns_mv (F := fun _ => False) HROW5.out (Mv.of_below hb6) fun _ _ => id) (Nat.le_refl _)
        · rw [← HNL.out]
          exact own_weaken (owns_mv (F := fun _ => False) HF5.out (Mv.of_below hb6) fun _ _ => id) HSZ.out
        · have h3 := HLT5.out i hi
          rcases hc with rfl | hc
          · omega
          · have := (hatc.raw.row.lt i hc).1
            omega
      have HST := hid hst
      have HTL := hid (pkTells_any _ w6 b _ v w ls V a1 c1 hst.arr (si_own hst.row))
      rw [← HNL.out] at HTL
      clear hb6 hatc hbcge hst HCP HB5 HAT5 HROW5 HF5 HD2 HLT5 HSZ HGE
      go_wp2_with fail
      refine HTL.out.mono ?_
      rintro e w7 ⟨rfl, hb7⟩
      have HST7 := hid (HST.out.below hb7)
      have HSM := hid (pkSame_any w7 b bc w _ _ v vc ls ls V Vc HST7.out.arr HST7.out.cop)
      rw [decide_eq_true rfl] at HSM
      clear hb7 HST HTL
      go_wp2_with fail
      refine HSM.out.mono ?_
      rintro e w8 ⟨rfl, hb8⟩
      have HST8 := hid (HST7.out.below hb8)
      clear hb8 HST7 HSM
      have HL0 : Hid (ls.length ≤ 40) := hid (by rw [← HNL.out]; omega)
      clear hcm2 hmin hz40 hzl hzc2 hnz0 hc1 hc1' hsz23
      rw [HNL.out] at HST8 ⊢
      clear HNL
      go_wp2_with fail
      go_loopw [1, 11] (fun lv i wr => ∃ (t : Nat) (v' : Value) (l V' : List Nat), t ≤ n ∧ t ≤ 20 ∧ i = .int .i64 (t : Int) ∧ l.length ≤ 40 + 20 * t ∧ StP W wr b v' lv w l V' bc vc fv ls Vc) (fun _ i _ => 20 - (intOf i).toNat)
      case atStart => exact ⟨0, v, ls, V, Nat.zero_le _, Nat.zero_le _, rfl, by have := HL0.out; omega, HST8.out⟩
      case round =>
        clear HST8 HL0
        obtain ⟨t, v', l, V', htn, ht20, rfl, hll, hst⟩ := hrel
        obtain ⟨a2, c2, rfl, -, hc2, hc2', hs2⟩ := Si.ownedI hst.row
        obtain ⟨nl, hnl⟩ : ∃ nl, nl = l.length := ⟨_, rfl⟩
        have HNL := hid hnl
        rw [nI_len, ← hnl] at hst hc2 ⊢
        have hnlb : (nl : Int) ≤ 440 := by omega
        have HLL := hid hll
        have HST := hid hst
        have HC2 := hid (And.intro hc2 hc2')
        clear hll hst hs2 hc2 hc2' hnl
        by_cases hin : (t : Int) < n
        · have hin2 : (t < n) = True := eq_true (by omega)
          by_cases hi2 : (t : Int) < 20
          · obtain ⟨ta, hta⟩ : ∃ ta, ts[t]? = some ta := ⟨_, List.getElem?_eq_getElem (by have := HN.out; omega)⟩
            obtain ⟨ba, oa, aL, cL, rfl, hok, hk0, hk1, hk2, hk3, hsi, hlL, hcL, hbnd⟩ := HTS.out.below HST.out.bel t ta hta
            obtain ⟨zm, hzm⟩ : ∃ zm, zm = ta.L.take 20 := ⟨_, rfl⟩
            have hmin2 : min (ta.L.length : Int) 20 = (zm.length : Int) := by rw [hzm, List.length_take]; omega
            have HX : Hid (Si (fun b => b < W.heap.size) wr aL zm) := hid (by rw [hzm]; exact hsi.front 20)
            obtain ⟨nL, hnL⟩ : ∃ nL, nL = ta.L.length := ⟨_, rfl⟩
            rw [← hnL] at hk3 hmin2 hlL
            obtain ⟨nm, hnm⟩ : ∃ nm, nm = zm.length := ⟨_, rfl⟩
            have HNM := hid hnm
            rw [← hnm] at hmin2
            have hm20 : (nm : Int) ≤ 20 := by omega
            have hmL : (nm : Int) ≤ nL := by omega
            have hmc : (nm : Int) ≤ cL := by omega
            have hnL0 : (0 : Int) ≤ nL := by omega
            obtain ⟨kk, hkk⟩ : ∃ kk, kk = ta.kind := ⟨_, rfl⟩
            obtain ⟨I, hI⟩ : ∃ I, I = ta.I := ⟨_, rfl⟩
            obtain ⟨N, hN⟩ : ∃ N, N = ta.N := ⟨_, rfl⟩
            rw [← hkk] at hk0
            rw [← hI] at hk1
            rw [← hN] at hk2
            have hkd := kind_lt3 kk
            obtain ⟨z, hz⟩ : ∃ z, z = (IntKind.u64.wrap kk).tmod 3 := ⟨_, rfl⟩
            rw [← hz] at hkd
            have hzz := hz.symm
            obtain ⟨x0, hx0⟩ : ∃ x0, x0 = wr.alloc (.cells #[.int .i64 kk, .int .i64 I, .int .i64 N, .slice aL nL cL] 34) := ⟨_, rfl⟩
            obtain ⟨bx, hbx⟩ : ∃ bx, bx = wr.heap.size := ⟨_, rfl⟩
            have hb0 : Below wr.heap.size wr x0 := by rw [hx0]; exact (Below.refl _ _).alloc (Nat.le_refl _) _
            have HBX : Hid (x0.heap[bx]? = some (.cells #[.int .i64 kk, .int .i64 I, .int .i64 N, .slice aL nL cL] 34 (0, 0))) := hid (by rw [hx0, hbx]; exact heap_alloc_new wr _)
            have HBO : Hid (∀ i, Own2 b v' i → i < bx) := hid fun i hi => by
              rw [hbx]
              rcases hi with rfl | hi
              · exact HST.out.arr.raw.blt
              · exact HST.out.arr.raw.glt i hi
            have HNO : Hid (¬ Own2 b v' bx) := hid fun h => Nat.lt_irrefl _ (HBO.out bx h)
            have HX0 := hid hx0
            have HBXE := hid hbx
            have HST0 := hid (HST.out.below hb0)
            have HXM := hid (HX.out.below hb0)
            have HSZ0 := hid hb0.size
            have hkz : z = 0 ∨ z = 1 ∨ z = 2 := by omega
            clear hin hta hzm hnL hkk hI hN hsi hlL hcL hok hbnd hz hnm hx0 hbx hb0 HST HX hkd
            by_cases hI0 : I < 0
            · have hI0' : (0 ≤ I) = False := eq_false (by omega)
              have HHAS : Hid (hasZ nl I = false) := hid (by unfold hasZ; rw [decide_eq_false_iff_not]; omega)
              clear hI0
              rcases hkz with rfl | rfl | rfl
              · have HSB := hid (pkSet_bad x0 b W.heap.size v' w l V' I N HST0.out.arr (by rw [← HNL.out, HHAS.out]; simp))
                go_wp2_with fail
                rw [← HBXE.out, ← HX0.out]
                refine HSB.out.mono ?_
                rintro e x1 ⟨rfl, rfl⟩
                clear HSB
                clear HBX
                have HT := hid (pkTells_any _ x0 b _ v' w l V' a2 c2 HST0.out.arr (si_own HST0.out.row))
                rw [← HNL.out] at HT
                go_wp2_with fail
                refine HT.out.mono ?_
                rintro e x9 ⟨rfl, hb9⟩
                have HST9 := hid (HST0.out.below hb9)
                clear hb9 HT
                go_wp2_with fail
                go_roundw
                case rel => exact ⟨t + 1, v', l, V', by have := of_eq_true hin2; omega, by omega, by go_num, by have := HLL.out; omega, HST9.out⟩
                case measure => simp [intOf]; omega
              · cases hall2 : allF w zm with
                | false =>
                  have HAB := hid (pkAdd_bad _ x0 b W.heap.size v' w l V' aL cL zm HST0.out.arr HXM.out (by rw [← HNM.out]; omega) hall2)
                  have HFT := hid (fun (x : World) (hx : Below x0.heap.size x0 x) => refFits_any _ x w aL cL zm HWW.out.1 HWW.out.2 (HXM.out.below hx) (by rw [← HNM.out]; omega))
                  rw [hall2, ← HNM.out] at HFT
                  rw [← HNM.out] at HAB
                  clear hall2 HBX
                  go_wp2_with fail
                  rw [← HBXE.out, ← HX0.out]
                  refine HAB.out.mono ?_
                  rintro e x1 ⟨rfl, hb1⟩
                  have HST1 := hid (HST0.out.below hb1)
                  have HF1 := hid (HFT.out x1 hb1)
                  clear hb1 HAB HFT HST0
                  go_wp2_with fail
                  refine HF1.out.mono ?_
                  rintro e x2 ⟨rfl, rfl⟩
                  clear HF1
                  have HT := hid (pkTells_any _ x1 b _ v' w l V' a2 c2 HST1.out.arr (si_own HST1.out.row))
                  rw [← HNL.out] at HT
                  go_wp2_with fail
                  refine HT.out.mono ?_
                  rintro e x9 ⟨rfl, hb9⟩
                  have HST9 := hid (HST1.out.below hb9)
                  clear hb9 HT
                  go_wp2_with fail
                  go_roundw
                  case rel => exact ⟨t + 1, v', l, V', by have := of_eq_true hin2; omega, by omega, by go_num, by have := HLL.out; omega, HST9.out⟩
                  case measure => simp [intOf]; omega
                | true =>
                  obtain ⟨ms, hms, hfit2⟩ := allF_nat hall2
                  subst hms
                  have HNM2 : Hid (nm = ms.length) := hid (by rw [HNM.out, nI_len])
                  have HAB := hid (pkAdd_any (fun i => i < W.heap.size) x0 b W.heap.size v' w l V' aL cL ms HST0.out.arr HXM.out (fun i hi hf => by have := HST0.out.own_ge i hf; omega) (by rw [← HNM2.out, ← HNL.out]; omega) hfit2 HST0.out.bel.size)
                  rw [← HNM2.out] at HAB
                  have HAL := hid hall2
                  clear hall2 HBX hfit2
                  go_wp2_with fail
                  rw [← HBXE.out, ← HX0.out]
                  refine HAB.out.mono ?_
                  rintro e x1 ⟨rfl, ⟨v2, V2, hat1, hnew1⟩, hm1⟩
                  have HT1 := hid (HST0.out.turn hat1 hnew1 hm1)
                  have HAT1 := hid hat1
                  have hxm1 : Si (fun i => i < W.heap.size) x1 aL (nI ms) := HXM.out.kept fun i hi hlt => hm1.block i hlt (fun hf => by have := HST0.out.own_ge i hf; omega)
                  have HXM1 := hid hxm1
                  have HFT := hid (refFits_any _ x1 w aL cL (nI ms) HWW.out.1 HWW.out.2 hxm1 (by rw [nI_len, ← HNM2.out]; omega))
                  rw [HAL.out, nI_len, ← HNM2.out] at HFT
                  have HRW : Hid (x1.ownsRow W.heap.size 3 1 (.slice a2 nl c2) nl (ivals (nI l))) := hid (by have h := HT1.out.2.1; rw [← HNL.out] at h; exact h)
                  have HD2 := hid HST0.out.d2
                  have HGE2 := hid HST0.out.ge
                  clear hat1 hnew1 hm1 hxm1 HAB HST0 HXM HAL
                  go_wp2_with fail
                  refine HFT.out.mono ?_
                  rintro e x2 ⟨rfl, rfl⟩
                  clear HFT
                  go_wp2_with (refine wpList_append_nx rfl (.tmp 202) (.tmp 203) 22 rfl W.heap.size 3 (.int .i64 0) 8 Try.underlying22 infoI64 rfl _ _ _ rfl HRW.out aL nm cL (ivals (nI ms)) rfl (by rw [ivals_len, nI_len, HNM2.out]) (by rw [HNM2.out, ← nI_len]; exact HXM1.out.some_lenI) HXM1.out.cellsI (ivals_one _) (by unfold maxLen; omega) (by omega) HT1.out.1.size ?_)
                  intro lv3 x3 hr3 hg3 hnw3
                  have hr3' : x3.ownsRow W.heap.size 3 1 lv3 (l ++ ms).length (ivals (nI (l ++ ms))) := by
                    rw [nI_app, ivals_app, List.length_append, ← HNL.out, ← HNM2.out]; exact hr3
                  have hst3 := StP.list HT1.out.1 HAT1.out HT1.out.2.1 HT1.out.2.2.1 HT1.out.2.2.2.1 HT1.out.2.2.2.2 HD2.out HGE2.out hg3 hr3' (by
                    rcases hnw3 with h | ⟨j, h1, h2⟩
                    · exact .inl h
                    · exact .inr fun g hg => by rw [h1] at hg; cases hg; exact h2)
                  obtain ⟨a3, c3, rfl, -, -, -, -⟩ := Si.ownedI hst3.row
                  have HST3 := hid hst3
                  have hnl3 : (nI (l ++ ms)).length = nl + nm := by rw [nI_len, List.length_append, ← HNL.out, ← HNM2.out]
                  rw [hnl3] at HST3 ⊢
                  have HLM : Hid ((l ++ ms).length = nl + nm) := hid (by rw [List.length_append, ← HNL.out, ← HNM2.out])
                  clear hr3 hg3 hnw3 hr3' hst3 hnl3 HRW HXM1 HT1 HAT1
                  have HT := hid (pkTells_any _ x3 b _ v2 w (l ++ ms) V2 a3 c3 HST3.out.arr (si_own HST3.out.row))
                  rw [HLM.out] at HT
                  go_wp2_with fail
                  refine HT.out.mono ?_
                  rintro e x9 ⟨rfl, hb9⟩
                  have HST9 := hid (HST3.out.below hb9)
                  clear hb9 HT
                  go_wp2_with fail
                  go_roundw
                  case rel => exact ⟨t + 1, v2, l ++ ms, V2, by have := of_eq_true hin2; omega, by omega, by go_num, by rw [HLM.out]; have := HLL.out; have := HNL.out; omega, HST9.out⟩
                  case measure => simp [intOf]; omega
              · have HAA := hid (pkAt_bad x0 I W.heap.size b v' w l V' HST0.out.arr (by rw [← HNL.out]; exact HHAS.out))
                go_wp2_with fail
                rw [← HBXE.out, ← HX0.out]
                refine HAA.out.mono ?_
                rintro e x1 ⟨rfl, rfl⟩
                clear HAA HBX
                have HT := hid (pkTells_any _ x0 b _ v' w l V' a2 c2 HST0.out.arr (si_own HST0.out.row))
                rw [← HNL.out] at HT
                go_wp2_with fail
                refine HT.out.mono ?_
                rintro e x9 ⟨rfl, hb9⟩
                have HST9 := hid (HST0.out.below hb9)
                clear hb9 HT
                go_wp2_with fail
                go_roundw
                case rel => exact ⟨t + 1, v', l, V', by have := of_eq_true hin2; omega, by omega, by go_num, by have := HLL.out; omega, HST9.out⟩
                case measure => simp [intOf]; omega
            · by_cases hIn : I < (nl : Int)
              · obtain ⟨i0, rfl⟩ := Int.eq_ofNat_of_zero_le (show (0 : Int) ≤ I by omega)
                have hin0 : (i0 < nl) = True := eq_true (by omega)
                clear hI0
                rcases hkz with rfl | rfl | rfl
                · have HST0' := HST0
                  by_cases hfn : fitsZ w N = true
                  · obtain ⟨n0, rfl⟩ : ∃ n0 : Nat, N = (n0 : Int) := by
                      unfold fitsZ at hfn
                      rw [decide_eq_true_iff] at hfn
                      exact Int.eq_ofNat_of_zero_le hfn.1
                    have hn0 : n0 < 2 ^ w := by rw [fitsZ_nat, decide_eq_true_iff] at hfn; exact hfn
                    have HSB := hid (pkSet_any x0 b i0 W.heap.size n0 v' w l V' HST0.out.arr (by rw [← HNL.out]; omega) hn0)
                    have HFF : Hid (allF w [(n0 : Int)] = true) := hid (by unfold allF; simp [hfn])
                    clear hfn
                    go_wp2_with fail
                    rw [← HBXE.out, ← HX0.out]
                    refine HSB.out.mono ?_
                    rintro e x1 ⟨rfl, ⟨V1, hat1⟩, hm1⟩
                    have HT1 := hid (HST0.out.turn hat1 (fun g hg => .inl hg) hm1)
                    have HAT1 := hid hat1
                    have HBX1 := hid (hm1.row HBX.out HNO.out)
                    clear hat1 hm1 HSB HBX
                    have hbr := HBX1.out
                    have q0 : x1.cell? ⟨bx, 0, none⟩ = some (.int .i64 kk) := by rw [cell_of_row _ _ _ _ _ _ hbr]; rfl
                    have q1 : x1.cell? ⟨bx, 1, none⟩ = some (.int .i64 (i0 : Int)) := by rw [cell_of_row _ _ _ _ _ _ hbr]; rfl
                    have q2 : x1.cell? ⟨bx, 2, none⟩ = some (.int .i64 (n0 : Int)) := by rw [cell_of_row _ _ _ _ _ _ hbr]; rfl
                    have q3 : x1.cell? ⟨bx, 3, none⟩ = some (.slice aL nL cL) := by rw [cell_of_row _ _ _ _ _ _ hbr]; rfl
                    clear hbr
                    obtain ⟨x2, hx2⟩ : ∃ x2, x2 = x1.alloc (.cells #[.int .i64 (n0 : Int)] 3) := ⟨_, rfl⟩
                    have hb2 : Below x1.heap.size x1 x2 := by rw [hx2]; exact (Below.refl _ _).alloc (Nat.le_refl _) _
                    have HX2 := hid hx2
                    have HFT := hid (refFits_any _ x2 w (some ⟨x1.heap.size, 0, none⟩) 1 [(n0 : Int)] HWW.out.1 HWW.out.2 (by rw [hx2]; exact Si.one x1 (n0 : Int) 3) (by simp))
                    rw [HFF.out] at HFT
                    have hne : a2 ≠ none := fun e => by
                      have h := HST0.out.row
                      rw [e] at h
                      rcases h.2 with ⟨h1, h2⟩ | ⟨g, cap, cur, h1, _⟩
                      · have := HNL.out; omega
                      · cases h1
                    obtain ⟨g2, rfl⟩ : ∃ g2, a2 = some ⟨g2, 0, none⟩ := by
                      rcases HST0.out.row.2 with ⟨h1, h2⟩ | ⟨g, cap, cur, h1, _⟩
                      · simp at h1; exact absurd h1.1 hne
                      · simp only [Value.slice.injEq] at h1; exact ⟨g, h1.1⟩
                    have hbl2 := HT1.out.1.trans (hb2.mono HT1.out.1.size)
                    have hrow2 : x2.ownsRow W.heap.size 3 1 (.slice (some ⟨g2, 0, none⟩) nl c2) l.length (ivals (nI l)) := owns_mv (F := fun _ => False) HT1.out.2.1 (Mv.of_below hb2) fun _ _ => id
                    have hrow2' := hrow2
                    rw [← HNL.out] at hrow2'
                    have hst2 := hrow2'.stored i0 (.int .i64 (n0 : Int))
                    rw [ivals_set] at hst2
                    have HFIN : Hid (StP W (x2.setCell ⟨g2, i0, none⟩ (.int .i64 (n0 : Int))) b v' (.slice (some ⟨g2, 0, none⟩) nl c2) w (l.set i0 n0) V1 bc vc fv ls Vc) := hid (StP.list hbl2 (HAT1.out.below hb2) hrow2 (HT1.out.2.2.1.below hb2) (owns_mv (F := fun _ => False) HT1.out.2.2.2.1 (Mv.of_below hb2) fun _ _ => id) HT1.out.2.2.2.2 HST0.out.d2 HST0.out.ge hst2.2 (by rw [List.length_set, ← HNL.out]; exact hst2.1) (.inl rfl))
                    have j3 : x2.cell? ⟨g2, i0, none⟩ = some (.int .i64 ((nI l).getD i0 0)) := by
                      have h := hrow2.cells (g := g2) rfl i0 _ (ivals_get (by rw [nI_len, ← HNL.out]; omega))
                      rw [Addr.add_lit] at h
                      simpa using h
                    have jf := hrow2'.frozenAt i0
                    have q1' := (hb2.cell (cell_lt q1)).trans q1
                    have q2' := (hb2.cell (cell_lt q2)).trans q2
                    have hi0w : IntKind.i64.wrap (i0 : Int) = (i0 : Int) := by rw [IntKind.wrap_i64]; omega
                    clear hx2 hb2 hne hbl2 hrow2 hrow2' hst2 HBX1 HT1 HAT1 HST0 HST0' HFF
                    go_wp2_with fail
                    rw [← HX2.out]
                    refine HFT.out.mono ?_
                    rintro e x3 ⟨rfl, rfl⟩
                    clear HFT q0 q1 q2 q3 HX2
                    go_wp2_with fail
                    clear j3 jf q1' q2'
                    generalize x2.setCell ⟨g2, i0, none⟩ (.int .i64 (n0 : Int)) = x4 at *
                    have HT := hid (pkTells_any _ x4 b _ v' w (l.set i0 n0) V1 (some ⟨g2, 0, none⟩) c2 HFIN.out.arr (si_own HFIN.out.row))
                    rw [List.length_set, ← HNL.out] at HT
                    go_wp2_with fail
                    refine HT.out.mono ?_
                    rintro e x9 ⟨rfl, hb9⟩
                    have HST9 := hid (HFIN.out.below hb9)
                    clear hb9 HT
                    go_wp2_with fail
                    go_roundw
                    case rel => exact ⟨t + 1, v', l.set i0 n0, V1, by have := of_eq_true hin2; omega, by omega, by go_num, by rw [List.length_set]; have := HLL.out; omega, HST9.out⟩
                    case measure => simp [intOf]; omega
                  · have hfn' : fitsZ w N = false := by simpa using hfn
                    have HSB := hid (pkSet_bad x0 b W.heap.size v' w l V' (i0 : Int) N HST0.out.arr (by rw [hfn']; simp))
                    have HFF : Hid (allF w [N] = false) := hid (by unfold allF; simp [hfn'])
                    clear hfn hfn'
                    go_wp2_with fail
                    rw [← HBXE.out, ← HX0.out]
                    refine HSB.out.mono ?_
                    rintro e x1 ⟨rfl, rfl⟩
                    clear HSB
                    have hbr := HBX.out
                    have q0 : x0.cell? ⟨bx, 0, none⟩ = some (.int .i64 kk) := by rw [cell_of_row _ _ _ _ _ _ hbr]; rfl
                    have q1 : x0.cell? ⟨bx, 1, none⟩ = some (.int .i64 (i0 : Int)) := by rw [cell_of_row _ _ _ _ _ _ hbr]; rfl
                    have q2 : x0.cell? ⟨bx, 2, none⟩ = some (.int .i64 N) := by rw [cell_of_row _ _ _ _ _ _ hbr]; rfl
                    have q3 : x0.cell? ⟨bx, 3, none⟩ = some (.slice aL nL cL) := by rw [cell_of_row _ _ _ _ _ _ hbr]; rfl
                    clear hbr
                    obtain ⟨x2, hx2⟩ : ∃ x2, x2 = x0.alloc (.cells #[.int .i64 N] 3) := ⟨_, rfl⟩
                    have hb2 : Below x0.heap.size x0 x2 := by rw [hx2]; exact (Below.refl _ _).alloc (Nat.le_refl _) _
                    have HX2 := hid hx2
                    have HFT := hid (refFits_any _ x2 w (some ⟨x0.heap.size, 0, none⟩) 1 [N] HWW.out.1 HWW.out.2 (by rw [hx2]; exact Si.one x0 N 3) (by simp))
                    rw [HFF.out] at HFT
                    have HST2 := hid (HST0.out.below hb2)
                    clear hx2 hb2 HBX HFF HST0 HST0'
                    go_wp2_with fail
                    rw [← HX2.out]
                    refine HFT.out.mono ?_
                    rintro e x3 ⟨rfl, rfl⟩
                    clear HFT q0 q1 q2 q3 HX2
                    have HT := hid (pkTells_any _ x2 b _ v' w l V' a2 c2 HST2.out.arr (si_own HST2.out.row))
                    rw [← HNL.out] at HT
                    go_wp2_with fail
                    refine HT.out.mono ?_
                    rintro e x9 ⟨rfl, hb9⟩
                    have HST9 := hid (HST2.out.below hb9)
                    clear hb9 HT
                    go_wp2_with fail
                    go_roundw
                    case rel => exact ⟨t + 1, v', l, V', by have := of_eq_true hin2; omega, by omega, by go_num, by have := HLL.out; omega, HST9.out⟩
                    case measure => simp [intOf]; omega
                · cases hall2 : allF w zm with
                  | false =>
                    have HAB := hid (pkAdd_bad _ x0 b W.heap.size v' w l V' aL cL zm HST0.out.arr HXM.out (by rw [← HNM.out]; omega) hall2)
                    have HFT := hid (fun (x : World) (hx : Below x0.heap.size x0 x) => refFits_any _ x w aL cL zm HWW.out.1 HWW.out.2 (HXM.out.below hx) (by rw [← HNM.out]; omega))
                    rw [hall2, ← HNM.out] at HFT
                    rw [← HNM.out] at HAB
                    clear hall2 HBX
                    go_wp2_with fail
                    rw [← HBXE.out, ← HX0.out]
                    refine HAB.out.mono ?_
                    rintro e x1 ⟨rfl, hb1⟩
                    have HST1 := hid (HST0.out.below hb1)
                    have HF1 := hid (HFT.out x1 hb1)
                    clear hb1 HAB HFT HST0
                    go_wp2_with fail
                    refine HF1.out.mono ?_
                    rintro e x2 ⟨rfl, rfl⟩
                    clear HF1
                    have HT := hid (pkTells_any _ x1 b _ v' w l V' a2 c2 HST1.out.arr (si_own HST1.out.row))
                    rw [← HNL.out] at HT
                    go_wp2_with fail
                    refine HT.out.mono ?_
                    rintro e x9 ⟨rfl, hb9⟩
                    have HST9 := hid (HST1.out.below hb9)
                    clear hb9 HT
                    go_wp2_with fail
                    go_roundw
                    case rel => exact ⟨t + 1, v', l, V', by have := of_eq_true hin2; omega, by omega, by go_num, by have := HLL.out; omega, HST9.out⟩
                    case measure => simp [intOf]; omega
                  | true =>
                    obtain ⟨ms, hms, hfit2⟩ := allF_nat hall2
                    subst hms
                    have HNM2 : Hid (nm = ms.length) := hid (by rw [HNM.out, nI_len])
                    have HAB := hid (pkAdd_any (fun i => i < W.heap.size) x0 b W.heap.size v' w l V' aL cL ms HST0.out.arr HXM.out (fun i hi hf => by have := HST0.out.own_ge i hf; omega) (by rw [← HNM2.out, ← HNL.out]; omega) hfit2 HST0.out.bel.size)
                    rw [← HNM2.out] at HAB
                    have HAL := hid hall2
                    clear hall2 HBX hfit2
                    go_wp2_with fail
                    rw [← HBXE.out, ← HX0.out]
                    refine HAB.out.mono ?_
                    rintro e x1 ⟨rfl, ⟨v2, V2, hat1, hnew1⟩, hm1⟩
                    have HT1 := hid (HST0.out.turn hat1 hnew1 hm1)
                    have HAT1 := hid hat1
                    have hxm1 : Si (fun i => i < W.heap.size) x1 aL (nI ms) := HXM.out.kept fun i hi hlt => hm1.block i hlt (fun hf => by have := HST0.out.own_ge i hf; omega)
                    have HXM1 := hid hxm1
                    have HFT := hid (refFits_any _ x1 w aL cL (nI ms) HWW.out.1 HWW.out.2 hxm1 (by rw [nI_len, ← HNM2.out]; omega))
                    rw [HAL.out, nI_len, ← HNM2.out] at HFT
                    have HRW : Hid (x1.ownsRow W.heap.size 3 1 (.slice a2 nl c2) nl (ivals (nI l))) := hid (by have h := HT1.out.2.1; rw [← HNL.out] at h; exact h)
                    have HD2 := hid HST0.out.d2
                    have HGE2 := hid HST0.out.ge
                    clear hat1 hnew1 hm1 hxm1 HAB HST0 HXM HAL
                    go_wp2_with fail
                    refine HFT.out.mono ?_
                    rintro e x2 ⟨rfl, rfl⟩
                    clear HFT
                    go_wp2_with (refine wpList_append_nx rfl (.tmp 202) (.tmp 203) 22 rfl W.heap.size 3 (.int .i64 0) 8 Try.underlying22 infoI64 rfl _ _ _ rfl HRW.out aL nm cL (ivals (nI ms)) rfl (by rw [ivals_len, nI_len, HNM2.out]) (by rw [HNM2.out, ← nI_len]; exact HXM1.out.some_lenI) HXM1.out.cellsI (ivals_one _) (by unfold maxLen; omega) (by omega) HT1.out.1.size ?_)
                    intro lv3 x3 hr3 hg3 hnw3
                    have hr3' : x3.ownsRow W.heap.size 3 1 lv3 (l ++ ms).length (ivals (nI (l ++ ms))) := by
                      rw [nI_app, ivals_app, List.length_append, ← HNL.out, ← HNM2.out]; exact hr3
                    have hst3 := StP.list HT1.out.1 HAT1.out HT1.out.2.1 HT1.out.2.2.1 HT1.out.2.2.2.1 HT1.out.2.2.2.2 HD2.out HGE2.out hg3 hr3' (by
                      rcases hnw3 with h | ⟨j, h1, h2⟩
                      · exact .inl h
                      · exact .inr fun g hg => by rw [h1] at hg; cases hg; exact h2)
                    obtain ⟨a3, c3, rfl, -, -, -, -⟩ := Si.ownedI hst3.row
                    have HST3 := hid hst3
                    have hnl3 : (nI (l ++ ms)).length = nl + nm := by rw [nI_len, List.length_append, ← HNL.out, ← HNM2.out]
                    rw [hnl3] at HST3 ⊢
                    have HLM : Hid ((l ++ ms).length = nl + nm) := hid (by rw [List.length_append, ← HNL.out, ← HNM2.out])
                    clear hr3 hg3 hnw3 hr3' hst3 hnl3 HRW HXM1 HT1 HAT1
                    have HT := hid (pkTells_any _ x3 b _ v2 w (l ++ ms) V2 a3 c3 HST3.out.arr (si_own HST3.out.row))
                    rw [HLM.out] at HT
                    go_wp2_with fail
                    refine HT.out.mono ?_
                    rintro e x9 ⟨rfl, hb9⟩
                    have HST9 := hid (HST3.out.below hb9)
                    clear hb9 HT
                    go_wp2_with fail
                    go_roundw
                    case rel => exact ⟨t + 1, v2, l ++ ms, V2, by have := of_eq_true hin2; omega, by omega, by go_num, by rw [HLM.out]; have := HLL.out; have := HNL.out; omega, HST9.out⟩
                    case measure => simp [intOf]; omega
                · have HAA := hid (pkAt_any x0 b i0 W.heap.size v' w l V' HST0.out.arr (by rw [← HNL.out]; omega))
                  have hcell := HST0.out.row.2
                  have j3 : ∀ x1, Below x0.heap.size x0 x1 → ∃ g2, a2 = some ⟨g2, 0, none⟩ ∧ x1.cell? ⟨g2, i0, none⟩ = some (.int .i64 ((l.getD i0 0 : Nat) : Int)) := fun x1 hb => by
                    have hrow := owns_mv (F := fun _ => False) HST0.out.row (Mv.of_below hb) fun _ _ => id
                    rcases hrow.2 with ⟨h1, h2⟩ | ⟨g, cap, cur, h1, _⟩
                    · have := HNL.out; omega
                    · simp only [Value.slice.injEq] at h1
                      obtain ⟨rfl, _, rfl⟩ := h1
                      have h := hrow.cells (g := g) rfl i0 _ (ivals_get (by rw [nI_len, ← HNL.out]; omega))
                      rw [Addr.add_lit, nI_get] at h
                      exact ⟨g, rfl, by simpa using h⟩
                  have HJ3 := hid j3
                  obtain ⟨X, hX⟩ : ∃ X, X = l.getD i0 0 := ⟨_, rfl⟩
                  rw [← hX] at HAA HJ3
                  have hXX : ((X : Int) != (X : Int)) = false := by simp
                  clear hcell j3 hX
                  go_wp2_with fail
                  rw [← HBXE.out, ← HX0.out]
                  refine HAA.out.mono ?_
                  rintro e x1 ⟨rfl, hb1⟩
                  have HST1 := hid (HST0.out.below hb1)
                  have HBX1 := hid (row_below HBX.out hb1)
                  obtain ⟨g2, rfl, j4⟩ := HJ3.out x1 hb1
                  have hbr := HBX1.out
                  have q0 : x1.cell? ⟨bx, 0, none⟩ = some (.int .i64 kk) := by rw [cell_of_row _ _ _ _ _ _ hbr]; rfl
                  have q1 : x1.cell? ⟨bx, 1, none⟩ = some (.int .i64 (i0 : Int)) := by rw [cell_of_row _ _ _ _ _ _ hbr]; rfl
                  have q2 : x1.cell? ⟨bx, 2, none⟩ = some (.int .i64 N) := by rw [cell_of_row _ _ _ _ _ _ hbr]; rfl
                  have q3 : x1.cell? ⟨bx, 3, none⟩ = some (.slice aL nL cL) := by rw [cell_of_row _ _ _ _ _ _ hbr]; rfl
                  clear hbr
                  clear hb1 HAA HST0 HBX HBX1 HJ3
                  have HT := hid (pkTells_any _ x1 b _ v' w l V' (some ⟨g2, 0, none⟩) c2 HST1.out.arr (si_own HST1.out.row))
                  rw [← HNL.out] at HT
                  go_wp2_with fail
                  refine HT.out.mono ?_
                  rintro e x9 ⟨rfl, hb9⟩
                  have HST9 := hid (HST1.out.below hb9)
                  clear hb9 HT
                  go_wp2_with fail
                  go_roundw
                  case rel => exact ⟨t + 1, v', l, V', by have := of_eq_true hin2; omega, by omega, by go_num, by have := HLL.out; omega, HST9.out⟩
                  case measure => simp [intOf]; omega
              · have hI0' : 0 ≤ I := by omega
                have hIn' : (I < (nl : Int)) = False := eq_false hIn
                have HHAS : Hid (hasZ nl I = false) := hid (by unfold hasZ; rw [decide_eq_false_iff_not]; omega)
                clear hI0 hIn
                rcases hkz with rfl | rfl | rfl
                · have HSB := hid (pkSet_bad x0 b W.heap.size v' w l V' I N HST0.out.arr (by rw [← HNL.out, HHAS.out]; simp))
                  go_wp2_with fail
                  rw [← HBXE.out, ← HX0.out]
                  refine HSB.out.mono ?_
                  rintro e x1 ⟨rfl, rfl⟩
                  clear HSB
                  clear HBX
                  have HT := hid (pkTells_any _ x0 b _ v' w l V' a2 c2 HST0.out.arr (si_own HST0.out.row))
                  rw [← HNL.out] at HT
                  go_wp2_with fail
                  refine HT.out.mono ?_
                  rintro e x9 ⟨rfl, hb9⟩
                  have HST9 := hid (HST0.out.below hb9)
                  clear hb9 HT
                  go_wp2_with fail
                  go_roundw
                  case rel => exact ⟨t + 1, v', l, V', by have := of_eq_true hin2; omega, by omega, by go_num, by have := HLL.out; omega, HST9.out⟩
                  case measure => simp [intOf]; omega
                · cases hall2 : allF w zm with
                  | false =>
                    have HAB := hid (pkAdd_bad _ x0 b W.heap.size v' w l V' aL cL zm HST0.out.arr HXM.out (by rw [← HNM.out]; omega) hall2)
                    have HFT := hid (fun (x : World) (hx : Below x0.heap.size x0 x) => refFits_any _ x w aL cL zm HWW.out.1 HWW.out.2 (HXM.out.below hx) (by rw [← HNM.out]; omega))
                    rw [hall2, ← HNM.out] at HFT
                    rw [← HNM.out] at HAB
                    clear hall2 HBX
                    go_wp2_with fail
                    rw [← HBXE.out, ← HX0.out]
                    refine HAB.out.mono ?_
                    rintro e x1 ⟨rfl, hb1⟩
                    have HST1 := hid (HST0.out.below hb1)
                    have HF1 := hid (HFT.out x1 hb1)
                    clear hb1 HAB HFT HST0
                    go_wp2_with fail
                    refine HF1.out.mono ?_
                    rintro e x2 ⟨rfl, rfl⟩
                    clear HF1
                    have HT := hid (pkTells_any _ x1 b _ v' w l V' a2 c2 HST1.out.arr (si_own HST1.out.row))
                    rw [← HNL.out] at HT
                    go_wp2_with fail
                    refine HT.out.mono ?_
                    rintro e x9 ⟨rfl, hb9⟩
                    have HST9 := hid (HST1.out.below hb9)
                    clear hb9 HT
                    go_wp2_with fail
                    go_roundw
                    case rel => exact ⟨t + 1, v', l, V', by have := of_eq_true hin2; omega, by omega, by go_num, by have := HLL.out; omega, HST9.out⟩
                    case measure => simp [intOf]; omega
                  | true =>
                    obtain ⟨ms, hms, hfit2⟩ := allF_nat hall2
                    subst hms
                    have HNM2 : Hid (nm = ms.length) := hid (by rw [HNM.out, nI_len])
                    have HAB := hid (pkAdd_any (fun i => i < W.heap.size) x0 b W.heap.size v' w l V' aL cL ms HST0.out.arr HXM.out (fun i hi hf => by have := HST0.out.own_ge i hf; omega) (by rw [← HNM2.out, ← HNL.out]; omega) hfit2 HST0.out.bel.size)
                    rw [← HNM2.out] at HAB
                    have HAL := hid hall2
                    clear hall2 HBX hfit2
                    go_wp2_with fail
                    rw [← HBXE.out, ← HX0.out]
                    refine HAB.out.mono ?_
                    rintro e x1 ⟨rfl, ⟨v2, V2, hat1, hnew1⟩, hm1⟩
                    have HT1 := hid (HST0.out.turn hat1 hnew1 hm1)
                    have HAT1 := hid hat1
                    have hxm1 : Si (fun i => i < W.heap.size) x1 aL (nI ms) := HXM.out.kept fun i hi hlt => hm1.block i hlt (fun hf => by have := HST0.out.own_ge i hf; omega)
                    have HXM1 := hid hxm1
                    have HFT := hid (refFits_any _ x1 w aL cL (nI ms) HWW.out.1 HWW.out.2 hxm1 (by rw [nI_len, ← HNM2.out]; omega))
                    rw [HAL.out, nI_len, ← HNM2.out] at HFT
                    have HRW : Hid (x1.ownsRow W.heap.size 3 1 (.slice a2 nl c2) nl (ivals (nI l))) := hid (by have h := HT1.out.2.1; rw [← HNL.out] at h; exact h)
                    have HD2 := hid HST0.out.d2
                    have HGE2 := hid HST0.out.ge
                    clear hat1 hnew1 hm1 hxm1 HAB HST0 HXM HAL
                    go_wp2_with fail
                    refine HFT.out.mono ?_
                    rintro e x2 ⟨rfl, rfl⟩
                    clear HFT
                    go_wp2_with (refine wpList_append_nx rfl (.tmp 202) (.tmp 203) 22 rfl W.heap.size 3 (.int .i64 0) 8 Try.underlying22 infoI64 rfl _ _ _ rfl HRW.out aL nm cL (ivals (nI ms)) rfl (by rw [ivals_len, nI_len, HNM2.out]) (by rw [HNM2.out, ← nI_len]; exact HXM1.out.some_lenI) HXM1.out.cellsI (ivals_one _) (by unfold maxLen; omega) (by omega) HT1.out.1.size ?_)
                    intro lv3 x3 hr3 hg3 hnw3
                    have hr3' : x3.ownsRow W.heap.size 3 1 lv3 (l ++ ms).length (ivals (nI (l ++ ms))) := by
                      rw [nI_app, ivals_app, List.length_append, ← HNL.out, ← HNM2.out]; exact hr3
                    have hst3 := StP.list HT1.out.1 HAT1.out HT1.out.2.1 HT1.out.2.2.1 HT1.out.2.2.2.1 HT1.out.2.2.2.2 HD2.out HGE2.out hg3 hr3' (by
                      rcases hnw3 with h | ⟨j, h1, h2⟩
                      · exact .inl h
                      · exact .inr fun g hg => by rw [h1] at hg; cases hg; exact h2)
                    obtain ⟨a3, c3, rfl, -, -, -, -⟩ := Si.ownedI hst3.row
                    have HST3 := hid hst3
                    have hnl3 : (nI (l ++ ms)).length = nl + nm := by rw [nI_len, List.length_append, ← HNL.out, ← HNM2.out]
                    rw [hnl3] at HST3 ⊢
                    have HLM : Hid ((l ++ ms).length = nl + nm) := hid (by rw [List.length_append, ← HNL.out, ← HNM2.out])
                    clear hr3 hg3 hnw3 hr3' hst3 hnl3 HRW HXM1 HT1 HAT1
                    have HT := hid (pkTells_any _ x3 b _ v2 w (l ++ ms) V2 a3 c3 HST3.out.arr (si_own HST3.out.row))
                    rw [HLM.out] at HT
                    go_wp2_with fail
                    refine HT.out.mono ?_
                    rintro e x9 ⟨rfl, hb9⟩
                    have HST9 := hid (HST3.out.below hb9)
                    clear hb9 HT
                    go_wp2_with fail
                    go_roundw
                    case rel => exact ⟨t + 1, v2, l ++ ms, V2, by have := of_eq_true hin2; omega, by omega, by go_num, by rw [HLM.out]; have := HLL.out; have := HNL.out; omega, HST9.out⟩
                    case measure => simp [intOf]; omega
                · have HAA := hid (pkAt_bad x0 I W.heap.size b v' w l V' HST0.out.arr (by rw [← HNL.out]; exact HHAS.out))
                  go_wp2_with fail
                  rw [← HBXE.out, ← HX0.out]
                  refine HAA.out.mono ?_
                  rintro e x1 ⟨rfl, rfl⟩
                  clear HAA HBX
                  have HT := hid (pkTells_any _ x0 b _ v' w l V' a2 c2 HST0.out.arr (si_own HST0.out.row))
                  rw [← HNL.out] at HT
                  go_wp2_with fail
                  refine HT.out.mono ?_
                  rintro e x9 ⟨rfl, hb9⟩
                  have HST9 := hid (HST0.out.below hb9)
                  clear hb9 HT
                  go_wp2_with fail
                  go_roundw
                  case rel => exact ⟨t + 1, v', l, V', by have := of_eq_true hin2; omega, by omega, by go_num, by have := HLL.out; omega, HST9.out⟩
                  case measure => simp [intOf]; omega
          · have hi22 : (20 : Int) ≤ (t : Int) := by omega
            clear hi2 HTS
            go_wp2_with fail
            refine (pkKnown_any wr).mono ?_
            rintro e x1 ⟨rfl, hb1⟩
            have HST1 := hid (HST.out.below hb1)
            obtain ⟨a5, c5, hfv, -, -, -, -⟩ := Si.ownedI HST1.out.fst
            subst hfv
            obtain ⟨n5, hn5⟩ : ∃ n5, n5 = ls.length := ⟨_, rfl⟩
            have HN5 := hid hn5
            rw [nI_len, ← hn5] at HST1 ⊢
            have HTC := hid (pkTells_any _ x1 bc _ vc w ls Vc a5 c5 HST1.out.cop (si_own HST1.out.fst))
            rw [← HN5.out] at HTC
            clear hb1 HST hn5
            go_wp2_with fail
            refine HTC.out.mono ?_
            rintro e x2 ⟨rfl, hb2⟩
            have HST2 := hid (HST1.out.below hb2)
            have HSM := hid (pkSame_any x2 b bc w _ _ v' vc l ls V' Vc HST2.out.arr HST2.out.cop)
            clear hb2 HST1 HTC
            go_wp2_with fail
            refine HSM.out.mono ?_
            rintro e x3 ⟨rfl, hb3⟩
            have HST3 := hid (HST2.out.below hb3)
            have HS6 := hid (refSame_any _ _ a2 a5 c2 c5 (nI l) (nI ls) x3 (si_own HST3.out.row) (si_own HST3.out.fst) (by rw [nI_len, ← HNL.out]; omega))
            rw [nI_len, nI_len, ← HNL.out, ← HN5.out, show decide (nI l = nI ls) = decide (l = ls) from by simp only [nI_inj]] at HS6
            have HBB := hid HST3.out.bel
            clear hb3 HST2 HST3 HSM
            generalize decide (l = ls) = d at *
            go_wp2_with fail
            refine HS6.out.mono ?_
            rintro e x4 ⟨rfl, hb4⟩
            have HB4 := hid (HBB.out.trans (hb4.mono HBB.out.size))
            clear hb4
            cases d
            · go_wp2_with fail
              go_ret
              exact ⟨rfl, HB4.out⟩
            · go_wp2_with fail
              go_ret
              exact ⟨rfl, HB4.out⟩
        · have hin2 : (t < n) = False := eq_false (by omega)
          clear hin HTS
          go_wp2_with fail
          refine (pkKnown_any wr).mono ?_
          rintro e x1 ⟨rfl, hb1⟩
          have HST1 := hid (HST.out.below hb1)
          obtain ⟨a5, c5, hfv, -, -, -, -⟩ := Si.ownedI HST1.out.fst
          subst hfv
          obtain ⟨n5, hn5⟩ : ∃ n5, n5 = ls.length := ⟨_, rfl⟩
          have HN5 := hid hn5
          rw [nI_len, ← hn5] at HST1 ⊢
          have HTC := hid (pkTells_any _ x1 bc _ vc w ls Vc a5 c5 HST1.out.cop (si_own HST1.out.fst))
          rw [← HN5.out] at HTC
          clear hb1 HST hn5
          go_wp2_with fail
          refine HTC.out.mono ?_
          rintro e x2 ⟨rfl, hb2⟩
          have HST2 := hid (HST1.out.below hb2)
          have HSM := hid (pkSame_any x2 b bc w _ _ v' vc l ls V' Vc HST2.out.arr HST2.out.cop)
          clear hb2 HST1 HTC
          go_wp2_with fail
          refine HSM.out.mono ?_
          rintro e x3 ⟨rfl, hb3⟩
          have HST3 := hid (HST2.out.below hb3)
          have HS6 := hid (refSame_any _ _ a2 a5 c2 c5 (nI l) (nI ls) x3 (si_own HST3.out.row) (si_own HST3.out.fst) (by rw [nI_len, ← HNL.out]; omega))
          rw [nI_len, nI_len, ← HNL.out, ← HN5.out, show decide (nI l = nI ls) = decide (l = ls) from by simp only [nI_inj]] at HS6
          have HBB := hid HST3.out.bel
          clear hb3 HST2 HST3 HSM
          generalize decide (l = ls) = d at *
          go_wp2_with fail
          refine HS6.out.mono ?_
          rintro e x4 ⟨rfl, hb4⟩
          have HB4 := hid (HBB.out.trans (hb4.mono HBB.out.size))
          clear hb4
          cases d
          · go_wp2_with fail
            go_ret
            exact ⟨rfl, HB4.out⟩
          · go_wp2_with fail
            go_ret
            exact ⟨rfl, HB4.out⟩
  · have hw' : isW width = false := by simpa using hw
    have HNW := hid (pkNew_width w2 width (.slice a1 nh c1) hw')
    clear HTS HN HZ HROW HNH
    by_cases hlo : width < 1
    · clear hw hw'
      go_wp2_with fail
      refine HNW.out.mono ?_
      rintro e w3 ⟨rfl, rfl⟩
      go_wp2_with fail
      refine (pkKnown_any w2).mono ?_
      rintro e w5 ⟨rfl, hb5⟩
      have HB5 := hid (HB2.out.trans (hb5.mono HB2.out.size))
      clear hb5
      go_wp2_with fail
      go_ret
      exact ⟨rfl, HB5.out⟩
    · have hhi : 31 < width := by unfold isW at hw'; rw [decide_eq_false_iff_not] at hw'; omega
      have hlo' : (width < 1) = False := eq_false hlo
      clear hw hw' hlo
      go_wp2_with fail
      refine HNW.out.mono ?_
      rintro e w3 ⟨rfl, rfl⟩
      go_wp2_with fail
      refine (pkKnown_any w2).mono ?_
      rintro e w5 ⟨rfl, hb5⟩
      have HB5 := hid (HB2.out.trans (hb5.mono HB2.out.size))
      clear hb5
      go_wp2_with fail
      go_ret
      exact ⟨rfl, HB5.out⟩
end Go.Proofs.Ytcgapplblhbdlaa
