/- CONTRACTS: syncing. -/
import Derived.Test.YtgppmnaidgkboaaDevM
namespace Go.Proofs.Ytgppmnaidgkboaa
open Go.RowKit Go.Inc

theorem splice_get {α : Type} {L cs : List α} {o : Nat} (h : o + cs.length ≤ L.length) (j : Nat) : (splice L o cs)[j]? = if j < o then L[j]? else if j - o < cs.length then cs[j - o]? else L[j]? := by
  unfold splice
  have e1 : min o L.length = o := by omega
  simp only [List.getElem?_append, List.length_take, List.getElem?_take, List.getElem?_drop, e1]
  by_cases h1 : j < o
  · simp [h1]
  · by_cases h2 : j - o < cs.length
    · simp [h1, h2]
    · simp only [h1, h2, if_false]
      congr 1; omega
theorem pg_get (B : List Nat) (k i : Nat) : (pg B k)[i]? = if i < 256 then B[256 * k + i]? else none := by
  unfold pg
  rw [List.getElem?_take, List.getElem?_drop]
theorem pg_splice_other {B cs : List Nat} {x k : Nat} (hl : 256 * x + 256 ≤ B.length) (hc : cs.length ≤ 256) (hk : k ≠ x) : pg (splice B (256 * x) cs) k = pg B k := by
  apply List.ext_getElem?
  intro i
  rw [pg_get, pg_get]
  by_cases hi : i < 256
  · rw [if_pos hi, if_pos hi, splice_get (by omega)]
    split
    · rfl
    · rw [if_neg (by omega)]
  · rw [if_neg hi, if_neg hi]
theorem pg_splice_same {B cs : List Nat} {x : Nat} (hl : 256 * x + 256 ≤ B.length) (hc : cs.length ≤ 256) : pg (splice B (256 * x) cs) x = cs ++ (pg B x).drop cs.length := by
  apply List.ext_getElem?
  intro i
  rw [pg_get, List.getElem?_append, List.getElem?_drop, pg_get]
  by_cases hi : i < 256
  · rw [if_pos hi, splice_get (by omega), if_neg (by omega)]
    have e : 256 * x + i - 256 * x = i := by omega
    rw [e]
    split
    · rfl
    · rw [if_pos (by omega)]
      congr 1; omega
  · rw [if_neg hi]
    rw [if_neg (by omega), if_neg (by omega)]
theorem pg_splice_whole {B cs : List Nat} {x : Nat} (hl : 256 * x + 256 ≤ B.length) (hc : cs.length = 256) : pg (splice B (256 * x) cs) x = cs := by
  rw [pg_splice_same hl (by omega), List.drop_eq_nil_of_le, List.append_nil]
  rw [hc]
  unfold pg
  rw [List.length_take]; omega

/-- What a sync has laid, while 'left' pages are still to come. -/
def Syncing (S : St) (left : Int → Bool) (p : Nat) (B : List Nat) : Prop := ∀ k : Nat, k < p → pg B k = if left k then pg S.B k else rd S k
theorem keptN_all (m : Nat) : keptN m (m : Int) = m := by unfold keptN; omega

theorem sync_down {C w g L c M f I p n S} (h : DevAt C w g L c M f I p n S) (ho : S.on = false) :
    Calls Try.prog 15 #[.pointer (some ⟨g, 0, none⟩)] w fun e w' => e = .returned (.int .i64 9) ∧ w = w' := by
  have H := hid (on_some w g _ _ _ _ _ _ _ _ h.row)
  rw [ho] at H
  clear h ho
  go_enter Try.func15, Try.ntmps15
  go_wp2_with fail
  refine H.out.mono ?_
  rintro e w1 ⟨rfl, rfl⟩
  go_wp2_with fail
  go_ret
  exact ⟨rfl, rfl⟩
theorem sync_nil (w : World) : Calls Try.prog 15 #[.pointer none] w fun e w' => e = .returned (.int .i64 9) ∧ w = w' := by
  have H := hid (on_nil w)
  go_enter Try.func15, Try.ntmps15
  go_wp2_with fail
  refine H.out.mono ?_
  rintro e w1 ⟨rfl, rfl⟩
  go_wp2_with fail
  go_ret
  exact ⟨rfl, rfl⟩
theorem sync_spent {C w g L c M f I p n S} (h : DevAt C w g L c M f I p n S) (ho : S.on = true) (hs : spendOk S.armed S.left = false) :
    Calls Try.prog 15 #[.pointer (some ⟨g, 0, none⟩)] w fun e w' => e = .returned (.int .i64 9) ∧ DevAt C w' g L c M f I p n { S with on := false, left := spendLeft S.armed S.left } ∧ Mv (fun b => b = g) w w' := by
  have H := hid (on_some w g _ _ _ _ _ _ _ _ h.row)
  have H2 := hid (spend_any w g _ _ _ _ _ _ _ _ h.row h.lb)
  rw [ho] at H
  rw [hs, ho] at H2
  have HD := hid h
  clear h ho hs
  go_enter Try.func15, Try.ntmps15
  go_wp2_with fail
  refine H.out.mono ?_
  rintro e w1 ⟨rfl, rfl⟩
  go_wp2_with fail
  refine H2.out.mono ?_
  rintro e w1 ⟨rfl, h1, h2⟩
  have hM : Mv (fun b => b = g) w w1 := Mv.of_grown h2 fun g h _ => by cases h; rfl
  have HT := hid (HD.out.turn hM (fun _ h => h) h1 (spendOk_left HD.out.lb) HD.out.cnt)
  have HM := hid hM
  clear h1 h2 hM
  go_wp2_with fail
  go_ret
  exact ⟨rfl, HT.out, HM.out⟩

/-- The state behind a sync that laid B. -/
def synced (S : St) (B : List Nat) : St := { S with left := spendLeft S.armed S.left, B := B, W := fun _ => [], t := S.t + 1 }

set_option maxRecDepth 20000 in
set_option maxHeartbeats 1000000 in
theorem sync_some {C w g L c M f I p n S} (h : DevAt C w g L c M f I p n S) (ho : S.on = true) (hs : spendOk S.armed S.left = true) (hn : n ≤ 1000000) (ht : S.t ≤ 1000000) :
    Calls Try.prog 15 #[.pointer (some ⟨g, 0, none⟩)] w fun e w' => e = .returned (.int .i64 0) ∧ (∃ B, DevAt C w' g L c M noKeys (fun _ => []) p 0 (synced S B) ∧ ∀ k, k < p → pg B k = rd S k) ∧ Mv (fun b => C b ≠ 0) w w' := by
  have H := hid (on_some w g _ _ _ _ _ _ _ _ h.row)
  have H2 := hid (spend_any w g _ _ _ _ _ _ _ _ h.row h.lb)
  rw [ho] at H
  rw [hs, ho] at H2
  have HD := hid h
  have Hon := hid ho
  have HTN := hid ht
  clear h ho hs ht
  go_enter Try.func15, Try.ntmps15
  go_wp2_with fail
  refine H.out.mono ?_
  rintro e w1 ⟨rfl, rfl⟩
  go_wp2_with fail
  refine H2.out.mono ?_
  rintro e w1 ⟨rfl, h1, h2⟩
  have hM : Mv (fun b => b = g) w w1 := Mv.of_grown h2 fun g h _ => by cases h; rfl
  have hT := HD.out.turn hM (fun _ h => h) h1 (spendOk_left HD.out.lb) HD.out.cnt
  have c4 := hT.row.c4
  have HT := hid hT
  have HM1 := hid hM
  clear h1 h2 hM hT H H2
  go_wp2_with (at_range; refine wpList_rangeI _ rfl _ 72 rfl 3 46 Try.underlying3 Try.underlying72 M n f rfl HT.out.map ?_; intro w2 cnt0 hrg0 hb0 hs0)
  go_frame
  have HR0 := hid hrg0
  obtain ⟨r, hr⟩ : ∃ r, r = w1.heap.size := ⟨_, rfl⟩
  have HD2 := hid (HT.out.keep (Mv.of_below (F := fun _ => False) hb0) fun _ h => h.elim)
  have HM2 : Hid (Mv (fun b => b = L) w1 w2) := hid (Mv.of_below hb0)
  rw [← hr] at HR0 ⊢
  have Hr := hid hr
  have hCr : Hid (C r = 0) := hid (by
    rcases Nat.eq_zero_or_pos (C r) with h | h
    · exact h
    · have := HT.out.lt r (by omega); omega)
  clear hrg0 hb0 hr hs0 c4
  obtain ⟨S1, hS1⟩ : ∃ S1 : St, S1 = { on := true && true, armed := S.armed, left := spendLeft S.armed S.left, B := S.B, W := S.W, r := S.r, s := S.s, t := S.t } := ⟨_, rfl⟩
  rw [← hS1] at HD2 HT
  have HS1 := hid hS1
  clear hS1
  go_loopw [3] (fun _ wr => ∃ left cnt B, Rg Try.prog 3 wr M r n f left cnt ∧ DevAt C wr g L c M f I p n { S1 with B := B } ∧ Syncing S1 left p B ∧ Mv (fun b => b = L) w1 wr) (fun _ wr => wr.rangeLeft M r)
  case atStart =>
    refine ⟨_, _, S1.B, HR0.out, HD2.out, fun k hk => ?_, HM2.out⟩
    split
    · rfl
    · rename_i hf
      have hf0 : f k = none := by cases h : f k with
        | none => rfl
        | some v => exact absurd (by show (f (k : Int)).isSome = true; rw [h]; rfl) hf
      unfold rd
      rw [if_pos (HD2.out.wnil (HD2.out.non _ hf0))]
  case round =>
    obtain ⟨left, cnt, B, hrg, hd, hsy, hmv⟩ := hrel
    have HRG := hid hrg
    have HDD := hid hd
    have HSY := hid hsy
    have HMV := hid hmv
    clear hrg hd hsy hmv
    go_wp2_with (at_next; refine wpList_nextI _ rfl _ rfl 3 Try.underlying3 M r n f left cnt rfl HRG.out ?_ ?_)
    · intro hl0
      have HB : Hid (∀ k, k < p → pg B k = rd S1 k) := hid fun k hk => by rw [HSY.out k hk, hl0]; rfl
      have c4 := HDD.out.row.c4
      clear hl0
      go_wp2_with (refine wpList_clear _ rfl (.tmp 36) 72 rfl 3 46 Try.underlying72 M n f rfl HDD.out.map ?_)
      intro w4 hm4 hg4
      have hd4 := HDD.out.cleared hg4 hm4
      have HD4 := hid hd4
      have HG4 := hid hg4
      have H4 := hid (add64_any w4 ⟨g, 7, none⟩ S1.t hd4.row.c7 (hd4.row.fz 7) (by have h1 := HTN.out; have h2 := hd4.cnt.2.2; rw [HS1.out] at h2 ⊢; simp only at h2 ⊢; omega) rfl)
      clear hd4 hm4 hg4 c4
      go_wp2_with fail
      refine H4.out.mono ?_
      rintro e w5 ⟨rfl, rfl⟩
      have hg5 : w4.grownBy (w4.setCell ⟨g, 7, none⟩ (.int .i64 (S1.t + 1))) (some g) := grown_setCell (grown_refl _ _) (.inl rfl) _
      have hm5 : Mv (fun b => b = g) w4 (w4.setCell ⟨g, 7, none⟩ (.int .i64 (S1.t + 1))) := Mv.of_grown hg5 fun g h _ => by cases h; rfl
      have HD5 := hid (HD4.out.turn hm5 (fun _ h => h) (HD4.out.row.s7 (S1.t + 1)) HD4.out.lb (by have h := HD4.out.cnt; simp only at h ⊢; omega))
      have HM5 : Hid (Mv (fun b => C b ≠ 0) w (w4.setCell ⟨g, 7, none⟩ (.int .i64 (S1.t + 1)))) := hid (by
        have hg : C g ≠ 0 := by rw [HD.out.cg]; decide
        have hL : C L ≠ 0 := by rw [HD.out.cL]; decide
        have hMM : C M ≠ 0 := by rw [HD.out.cM]; decide
        exact (((HM1.out.sub fun b _ h => by subst h; exact hg).trans (HMV.out.sub fun b _ h => by subst h; exact hL)).trans (Mv.of_grown HG4.out fun j h _ => by cases h; exact hMM)).trans (hm5.sub fun b _ h => by subst h; exact hg))
      obtain ⟨w5, hw5⟩ : ∃ w5, w5 = w4.setCell ⟨g, 7, none⟩ (.int .i64 (S1.t + 1)) := ⟨_, rfl⟩
      rw [← hw5] at HD5 HM5 ⊢
      clear hw5 hg5 hm5 H4
      go_wp2_with fail
      go_ret
      refine ⟨rfl, ⟨B, ?_, fun k hk => ?_⟩, HM5.out⟩
      · have hd := HD5.out
        rw [HS1.out] at hd
        unfold synced
        rw [Hon.out]
        exact hd
      · rw [HB.out k hk, HS1.out]; rfl
    · intro x v w3 cnt1 hx1 hx2 hlx hfx hrg1 hlt1 hg1 hs1 hen
      have hd3 := HDD.out.keep (w' := w3) (F := fun b => b = r) (Mv.of_grown hg1 fun g h _ => by cases h; rfl) (fun b h => by rw [h]; exact hCr.out)
      obtain ⟨a, k', hv⟩ := look_any hd3 x
      have HC := hid (count_any w3 M n f x a (I x).length k' hrg1.mp ⟨hx1, hx2⟩ hv)
      have HSV := hid (survive_any hd3 x ((I x).length : Int) 0 ⟨hx1, hx2⟩ hn)
      have hm3 : Hid (Mv (fun b => b = L) w1 w3) := hid (HMV.out.trans' (Mv.of_grown (F := fun b => b = r) hg1 fun g h _ => by cases h; rfl) fun i hi h => by subst h; have := Hr.out; omega)
      have HFX := hid hfx
      have HLX := hid hlx
      have HRG1 := hid hrg1
      have hcn : Hid (cnt1 < cnt) := hid hlt1
      have hxd := hid (hd3.dom x v hfx)
      have hwl := hid (hd3.wlen x)
      have hne : Hid (I x ≠ []) := hid (hd3.ver x v hfx).full
      have c4 := hd3.row.c4
      have hd3h := hid hd3
      clear hd3 hv hlx hfx hrg1 hlt1 hg1 hs1
      go_wp2_with fail
      refine HC.out.mono ?_
      rintro e w3' ⟨rfl, rfl⟩
      go_wp2_with fail
      refine HSV.out.mono ?_
      rintro e w4 ⟨rfl, hd4, hm4⟩
      have hLr : L ≠ r := by intro e; have h1 := hd4.cL; rw [e, hCr.out] at h1; omega
      have hLM := hd4.ne_of.2.2
      have HRG4 := hid (HRG1.out.same (hm4.block M HRG1.out.mp.lt (fun e => hLM e.symm)) (hm4.block r HRG1.out.lt (fun e => hLr e.symm)))
      have HD4 := hid hd4
      have HM4 := hid (hm3.out.trans hm4)
      clear hd4 hm4 HC HSV c4 hen
      go_wp2_with fail
      go_roundw
      case rel =>
        refine ⟨_, cnt1, _, HRG4.out, HD4.out, fun k hk => ?_, HM4.out⟩
        obtain ⟨j, rfl⟩ := Int.eq_ofNat_of_zero_le hxd.out.1
        have hlen := HDD.out.len
        simp only at hlen
        have hWx : (S1.W (j : Int)).length = (I (j : Int)).length := hwl.out
        have hpos := List.length_pos_iff.2 hne.out
        have hkb : keptB B j (S1.W (j : Int)) ((I (j : Int)).length : Int) 0 = splice B (256 * j) ((S1.W (j : Int)).getD ((I (j : Int)).length - 1) []) := by
          unfold keptB
          simp only [hWx, keptN_all]
          rw [if_neg (by omega), if_pos hpos]
        show pg (keptB B j (S1.W (j : Int)) ((I (j : Int)).length : Int) 0) k = _
        rw [hkb]
        have hll : ((S1.W (j : Int)).getD ((I (j : Int)).length - 1) []).length = 256 := by
          obtain ⟨q, hq, hsq⟩ := (hd3h.out.ver _ _ HFX.out).item (i := (I (j : Int)).length - 1) (by omega)
          have hw := hd3h.out.wait (j : Int)
          simp only at hw
          rw [hw, List.getD_eq_getElem?_getD, List.getElem?_map, hq]
          exact hsq.2.1
        have hjp := hxd.out.2
        by_cases hkj : k = j
        · subst hkj
          rw [pg_splice_whole (by omega) hll]
          simp only [decide_true, Bool.not_true, Bool.and_false]
          unfold rd
          rw [if_neg (by simp), if_neg (by intro e; rw [e] at hWx; simp at hWx; omega), hWx]
        · rw [pg_splice_other (by omega) (by omega) hkj, HSY.out k hk]
          have : ¬ ((k : Int) = (j : Int)) := by omega
          simp [this]
      case measure => rw [HRG4.out.left_eq, HRG.out.left_eq]; exact hcn.out
end Go.Proofs.Ytgppmnaidgkboaa
