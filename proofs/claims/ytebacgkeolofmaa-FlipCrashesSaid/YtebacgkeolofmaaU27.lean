/- CONTRACTS: a device is made, of nothing or of an image. CONTRACTS: syncing. CONTRACTS: crashes. CONTRACTS OF THE LAWS' HELPERS: a page filled up; keeps; the example. CONTRACTS: the device's methods, what lies where left open. CONTRACT: the chapter's example. WHAT A CRASH KEEPS, PAGE BY PAGE. -/
import Derived.Test.YtebacgkeolofmaaU26
import Derived.Carry
namespace Go.Proofs.Ytebacgkeolofmaa
open Go.RowKit Go.Inc

/-- The state at the beginning. -/
def fresh (B : List Nat) : St := ⟨true, false, 0, B, fun _ => [], 0, 0, 0⟩

theorem started_any (w : World) (L c p : Nat) (B : List Nat) (hl : w.ownsRow 0 5 1 (.slice (some ⟨L, 0, none⟩) (256 * p) c) (256 * p) (u8s B)) (hp : 1 ≤ p ∧ p ≤ 2048) :
    Calls Try.prog 44 #[.slice (some ⟨L, 0, none⟩) (256 * p) c] w fun e w' => ∃ C g M, e = .returned (.pointer (some ⟨g, 0, none⟩)) ∧ DevAt C w' g L c M noKeys (fun _ => []) p 0 (fresh B) ∧ Below w.heap.size w w' ∧ ∀ b, C b ≠ 0 → b = L ∨ w.heap.size ≤ b := by
  have HL := hid hl
  have hLlt : L < w.heap.size := by
    rcases hl.2 with ⟨h0, _⟩ | ⟨R, cap, cur, hv, _, hg, _⟩
    · cases h0
    · cases hv; exact row_lt hg
  clear hl
  obtain ⟨q, hq⟩ : ∃ q, q = 256 * p := ⟨_, rfl⟩
  rw [← hq]
  have HQ := hid hq
  clear hq
  obtain ⟨wm, hwm⟩ : ∃ wm, wm = w.alloc (.map #[] 0) := ⟨_, rfl⟩
  have hmm : (Instr.makeMap 93 none).run Try.prog w = .ok (.map (some w.heap.size)) wm := by rw [hwm]; exact run_makeMap 93 w
  have HWM := hid hwm
  have hszm : wm.heap.size = w.heap.size + 1 := by rw [hwm]; simp
  have HSM := hid hszm
  clear hwm hszm
  go_enter Try.func44, Try.ntmps44
  go_wp2_with fail
  have hrow : DevRow (wm.alloc (.cells #[.bool false, .bool false, .int .i64 0, .slice (some ⟨L, 0, none⟩) q c, .map (some w.heap.size), .int .i64 0, .int .i64 0, .int .i64 0] 102)) wm.heap.size false false 0 (.slice (some ⟨L, 0, none⟩) q c) (.map (some w.heap.size)) 0 0 0 := heap_alloc_new wm _
  have H := hid (light_any _ _ _ _ _ _ _ _ _ _ hrow)
  obtain ⟨w1, hw1⟩ : ∃ w1, w1 = wm.alloc (.cells #[.bool false, .bool false, .int .i64 0, .slice (some ⟨L, 0, none⟩) q c, .map (some w.heap.size), .int .i64 0, .int .i64 0, .int .i64 0] 102) := ⟨_, rfl⟩
  rw [← hw1] at H ⊢
  have HW1 := hid hw1
  clear hrow hw1 hmm
  refine H.out.mono ?_
  rintro e w2 ⟨rfl, h1, h2⟩
  have hb1 : Below w.heap.size w w1 := by rw [HW1.out, HWM.out]; exact ((Below.refl _ _).alloc (Nat.le_refl _) _).alloc (by simp) _
  have hm2 : Mv (fun b => b = wm.heap.size) w1 w2 := Mv.of_grown h2 fun g h _ => by cases h; rfl
  have hmv : Mv (fun b => b = wm.heap.size) w w2 := (Mv.of_below hb1).trans hm2
  have hmp : Mp Try.prog 3 w2 w.heap.size 0 noKeys := by
    have h0 := Mp.made w Try.prog 3
    rw [← HWM.out] at h0
    have h3 : Mp Try.prog 3 w1 w.heap.size 0 noKeys := h0.below (by rw [HW1.out]; exact (Below.refl _ _).alloc (Nat.le_refl _) _)
    exact h3.mv hm2 (by have := HSM.out; omega)
  have hsz2 : wm.heap.size < w2.heap.size := by
    have h3 : w1.heap.size = wm.heap.size + 1 := by rw [HW1.out]; simp
    have := hm2.size
    omega
  obtain ⟨C, hC⟩ : ∃ C : Nat → Nat, C = fun b => if b = wm.heap.size then 1 else if b = L then 2 else if b = w.heap.size then 3 else 0 := ⟨_, rfl⟩
  have hs := HSM.out
  have HD : Hid (DevAt C w2 wm.heap.size L c w.heap.size noKeys (fun _ => []) p 0 (fresh B)) := hid (by
    refine ⟨(by rw [← HQ.out]; exact h1), owns_mv HL.out hmv (fun b hb => (by simp only [Value.ownBlock, Option.some.injEq] at hb; omega)), hmp, fun x v hv => (by cases hv), fun _ _ => rfl, fun x v hv => (by cases hv), fun _ => Nat.le_refl _, fun _ => rfl, (by rw [hC]; simp), ?_, ?_, fun b hb => ?_, hp, .inr rfl, ⟨Int.le_refl 0, Int.le_refl 0, Int.le_refl 0⟩⟩
    · have h3 : ¬ L = wm.heap.size := by omega
      rw [hC]; simp [h3]
    · have h3 : ¬ w.heap.size = wm.heap.size := by omega
      have h4 : ¬ w.heap.size = L := by omega
      rw [hC]; simp [h3, h4]
    · rw [hC] at hb
      simp only at hb
      have := hmv.size
      split at hb
      · omega
      · split at hb
        · omega
        · split at hb
          · omega
          · exact absurd rfl hb)
  have HB : Hid (Below w.heap.size w w2) := hid (hmv.below (Nat.le_refl _) (fun i hi => by omega))
  have HCC : Hid (∀ b, C b ≠ 0 → b = L ∨ w.heap.size ≤ b) := hid (fun b hb => by
    rw [hC] at hb
    simp only at hb
    split at hb
    · omega
    · split at hb
      · exact .inl (by assumption)
      · split at hb
        · omega
        · exact absurd rfl hb)
  clear h1 h2 hb1 hm2 hmv hmp hsz2 hC hs H
  generalize wm.heap.size = g at *
  go_wp2_with fail
  go_ret
  exact ⟨C, g, w.heap.size, rfl, HD.out, HB.out, HCC.out⟩

theorem madeU8 (n : Nat) : (madeCells #[.int .u8 0] n).toList = u8s (List.replicate n 0) := by
  apply List.ext_getElem?
  intro i
  by_cases h : i < n
  · simp [madeCells, u8s, h, Nat.mod_one]
  · simp [madeCells, u8s, h]

set_option maxRecDepth 20000 in
theorem new_good (w : World) (p : Nat) (hp : 1 ≤ p ∧ p ≤ 2048) : Calls Try.prog 26 #[.int .i64 (p : Int)] w fun e w' => ∃ C g L c M, e = .returned (.tuple #[.pointer (some ⟨g, 0, none⟩), .int .i64 0]) ∧
    DevAt C w' g L c M noKeys (fun _ => []) p 0 (fresh (List.replicate (256 * p) 0)) ∧ Below w.heap.size w w' ∧ ∀ b, C b ≠ 0 → w.heap.size ≤ b := by
  have H := hid (mayHave_any w (p : Int))
  have h0 : (decide (1 ≤ (p : Int)) && decide ((p : Int) ≤ 2048)) = true := by simp; omega
  rw [h0] at H
  have hmul : (p : Int) * 256 = ((256 * p : Nat) : Int) := by omega
  obtain ⟨q, hq⟩ : ∃ q, q = 256 * p := ⟨_, rfl⟩
  rw [← hq] at hmul ⊢
  have hqb : (q : Int) ≤ 524288 ∧ 256 ≤ (q : Int) := by omega
  have hwm : wrap64 ((p : Int) * 256) = (q : Int) := by rw [hmul]; simp [wrap64]; omega
  have hqq : q ≤ 524288 := by omega
  have HQ := hid hq
  have HP := hid hp
  clear h0 hq hp
  obtain ⟨i, hi, hz0, hz1, hz2⟩ := info_parts infoU8
  go_enter Try.func26, Try.ntmps26
  go_wp2_with fail
  refine H.out.mono ?_
  rintro e w' ⟨rfl, rfl⟩
  go_wp2_with (at_make; refine wpList_make_full _ rfl _ _ 26 rfl w.heap.size 5 i (.int .u8 0) 1 Try.underlying26 hi hz0 hz1 _ _ _ _ q rfl rfl rfl rfl (by rw [hz2]; omega) (by unfold maxLen; omega) (Nat.le_refl _) ?_)
  intro w1 ho1 hg1
  rw [madeU8] at ho1
  have hb1 : Below w.heap.size w w1 := ⟨hg1.os, hg1.tape, hg1.output, hg1.size, fun i hi => hg1.block i hi (by simp)⟩
  have H2 := hid (started_any w1 w.heap.size q p (List.replicate (256 * p) 0) (by rw [← HQ.out]; exact own_weaken ho1 (Nat.zero_le _)) HP.out)
  rw [← HQ.out] at H2
  have HB1 := hid hb1
  clear ho1 hg1 hb1
  go_wp2_with fail
  refine H2.out.mono ?_
  rintro e w2 ⟨C, g, M, rfl, hd, hb2, hc⟩
  have HD := hid hd
  have HB2 : Hid (Below w.heap.size w w2) := hid (HB1.out.trans (hb2.mono HB1.out.size))
  have HC : Hid (∀ b, C b ≠ 0 → w.heap.size ≤ b) := hid fun b hb => by
    have := HB1.out.size
    rcases hc b hb with h | h <;> omega
  clear hd hb2 hc H2 H
  go_wp2_with fail
  go_ret2
  exact ⟨C, g, w.heap.size, q, M, rfl, HD.out, HB2.out, HC.out⟩

set_option maxRecDepth 20000 in
theorem load_good (w : World) (ok : Nat → Prop) (a : Option Addr) (c p : Nat) (bs : List Nat) (hs : Sl ok w a bs) (hl : bs.length = 256 * p) (hp : 1 ≤ p ∧ p ≤ 2048) : Calls Try.prog 22 #[.slice a bs.length c] w fun e w' => ∃ C g L c M, e = .returned (.tuple #[.pointer (some ⟨g, 0, none⟩), .int .i64 0]) ∧
    DevAt C w' g L c M noKeys (fun _ => []) p 0 (fresh bs) ∧ Below w.heap.size w w' ∧ ∀ b, C b ≠ 0 → w.heap.size ≤ b := by
  have H := hid (mayHave_any w (p : Int))
  have h0 : (decide (1 ≤ (p : Int)) && decide ((p : Int) ≤ 2048)) = true := by simp; omega
  rw [h0] at H
  have HC := hid (clone_any ok a c bs w hs (by omega) (fun h => by have := hs.some_len h; omega))
  have HLen := hid hl
  obtain ⟨q, hq⟩ : ∃ q, q = bs.length := ⟨_, rfl⟩
  rw [← hq] at HC hl ⊢
  have HQ := hid hq
  have h1 : (((q : Int) % 256) != 0) = false := by rw [bne_eq_false_iff_eq]; omega
  have h2 : (q : Int) / 256 = (p : Int) := by omega
  have h3 : (q : Int) ≤ 524288 := by omega
  have HP := hid hp
  clear h0 hq hl hp hs
  go_enter Try.func22, Try.ntmps22
  go_wp2_with fail
  refine H.out.mono ?_
  rintro e w' ⟨rfl, rfl⟩
  go_wp2_with fail
  refine HC.out.mono ?_
  rintro e w1 ⟨v, rfl, hv, hb1⟩
  have hrow : Row 5 w.heap.size w1 v bs := by unfold Row; rw [← HQ.out]; exact hv
  obtain ⟨a', c', hve, hn, hc1, hc2, _⟩ := hrow.sl
  obtain ⟨L, rfl⟩ : ∃ L, v = .slice (some ⟨L, 0, none⟩) (256 * p) c' := by
    rcases hrow.2 with ⟨_, h0⟩ | ⟨R, cap, cur, h0, _⟩
    · have := HP.out; have := HLen.out; omega
    · rw [h0] at hve ⊢
      simp only [Value.slice.injEq] at hve
      rw [hve.2.2, HLen.out]
      exact ⟨R, rfl⟩
  have H2 := hid (started_any w1 L c' p bs (by rw [← HLen.out]; exact own_weaken (by rw [← HLen.out] at hrow; exact hrow) (Nat.zero_le _)) HP.out)
  have hLb : Hid (w.heap.size ≤ L) := hid (by
    rcases hrow.2 with ⟨h0, _⟩ | ⟨R, cap, cur, h0, hb, _⟩
    · cases h0
    · simp only [Value.slice.injEq, Option.some.injEq, Addr.mk.injEq, and_true] at h0
      rw [h0.1]; exact hb)
  have HB1 := hid hb1
  clear hrow hv hve hn hc1 hc2 hb1 HC H
  go_wp2_with fail
  refine H2.out.mono ?_
  rintro e w2 ⟨C, g, M, rfl, hd, hb2, hc⟩
  have HD := hid hd
  have HB2 : Hid (Below w.heap.size w w2) := hid (HB1.out.trans (hb2.mono HB1.out.size))
  have HCC : Hid (∀ b, C b ≠ 0 → w.heap.size ≤ b) := hid fun b hb => by
    have := HB1.out.size
    have := hLb.out
    rcases hc b hb with h | h <;> omega
  clear hd hb2 hc H2
  go_wp2_with fail
  go_ret2
  exact ⟨C, g, L, c', M, rfl, HD.out, HB2.out, HCC.out⟩
end Go.Proofs.Ytebacgkeolofmaa
namespace Go.Proofs.Ytebacgkeolofmaa
open Go.RowKit Go.Inc

theorem splice_get {α : Type} {L cs : List α} {o : Nat} (h : o + cs.length ≤ L.length) (j : Nat) : (splice L o cs)[j]? = if j < o then L[j]? else if j - o < cs.length then cs[j - o]? else L[j]? := by
  unfold splice
  have e1 : min o L.length = o := by omega
  simp only [List.getElem?_append, List.length_take, List.getElem?_take, List.getElem?_drop, e1]
  by_cases h1 : j < o
  · simp [h1]
  · by_cases h2 : j - o < cs.length
    · simp [h1, h2]
    · simp only [h1, h2, if_false]
      congr 1; omega
theorem pg_get (B : List Nat) (k i : Nat) : (pg B k)[i]? = if i < 256 then B[256 * k + i]? else none := by
  unfold pg
  rw [List.getElem?_take, List.getElem?_drop]
theorem pg_splice_other {B cs : List Nat} {x k : Nat} (hl : 256 * x + 256 ≤ B.length) (hc : cs.length ≤ 256) (hk : k ≠ x) : pg (splice B (256 * x) cs) k = pg B k := by
  apply List.ext_getElem?
  intro i
  rw [pg_get, pg_get]
  by_cases hi : i < 256
  · rw [if_pos hi, if_pos hi, splice_get (by omega)]
    split
    · rfl
    · rw [if_neg (by omega)]
  · rw [if_neg hi, if_neg hi]
theorem pg_splice_same {B cs : List Nat} {x : Nat} (hl : 256 * x + 256 ≤ B.length) (hc : cs.length ≤ 256) : pg (splice B (256 * x) cs) x = cs ++ (pg B x).drop cs.length := by
  apply List.ext_getElem?
  intro i
  rw [pg_get, List.getElem?_append, List.getElem?_drop, pg_get]
  by_cases hi : i < 256
  · rw [if_pos hi, splice_get (by omega), if_neg (by omega)]
    have e : 256 * x + i - 256 * x = i := by omega
    rw [e]
    split
    · rfl
    · rw [if_pos (by omega)]
      congr 1; omega
  · rw [if_neg hi]
    rw [if_neg (by omega), if_neg (by omega)]
theorem pg_splice_whole {B cs : List Nat} {x : Nat} (hl : 256 * x + 256 ≤ B.length) (hc : cs.length = 256) : pg (splice B (256 * x) cs) x = cs := by
  rw [pg_splice_same hl (by omega), List.drop_eq_nil_of_le, List.append_nil]
  rw [hc]
  unfold pg
  rw [List.length_take]; omega

/-- What a sync has laid, while 'left' pages are still to come. -/
def Syncing (S : St) (left : Int → Bool) (p : Nat) (B : List Nat) : Prop := ∀ k : Nat, k < p → pg B k = if left k then pg S.B k else rd S k
theorem keptN_all (m : Nat) : keptN m (m : Int) = m := by unfold keptN; omega

theorem sync_down {C w g L c M f I p n S} (h : DevAt C w g L c M f I p n S) (ho : S.on = false) :
    Calls Try.prog 50 #[.pointer (some ⟨g, 0, none⟩)] w fun e w' => e = .returned (.int .i64 9) ∧ w = w' := by
  have H := hid (on_some w g _ _ _ _ _ _ _ _ h.row)
  rw [ho] at H
  clear h ho
  go_enter Try.func50, Try.ntmps50
  go_wp2_with fail
  refine H.out.mono ?_
  rintro e w1 ⟨rfl, rfl⟩
  go_wp2_with fail
  go_ret
  exact ⟨rfl, rfl⟩
theorem sync_spent {C w g L c M f I p n S} (h : DevAt C w g L c M f I p n S) (ho : S.on = true) (hs : spendOk S.armed S.left = false) :
    Calls Try.prog 50 #[.pointer (some ⟨g, 0, none⟩)] w fun e w' => e = .returned (.int .i64 9) ∧ DevAt C w' g L c M f I p n { S with on := false, left := spendLeft S.armed S.left } ∧ Mv (fun b => b = g) w w' := by
  have H := hid (on_some w g _ _ _ _ _ _ _ _ h.row)
  have H2 := hid (spend_any w g _ _ _ _ _ _ _ _ h.row h.lb)
  rw [ho] at H
  rw [hs, ho] at H2
  have HD := hid h
  clear h ho hs
  go_enter Try.func50, Try.ntmps50
  go_wp2_with fail
  refine H.out.mono ?_
  rintro e w1 ⟨rfl, rfl⟩
  go_wp2_with fail
  refine H2.out.mono ?_
  rintro e w1 ⟨rfl, h1, h2⟩
  have hM : Mv (fun b => b = g) w w1 := Mv.of_grown h2 fun g h _ => by cases h; rfl
  have HT := hid (HD.out.turn hM (fun _ h => h) h1 (spendOk_left HD.out.lb) HD.out.cnt)
  have HM := hid hM
  clear h1 h2 hM
  go_wp2_with fail
  go_ret
  exact ⟨rfl, HT.out, HM.out⟩

/-- The state behind a sync that laid B. -/
def synced (S : St) (B : List Nat) : St := { S with left := spendLeft S.armed S.left, B := B, W := fun _ => [], t := S.t + 1 }

set_option maxRecDepth 20000 in
set_option maxHeartbeats 1000000 in
theorem sync_some {C w g L c M f I p n S} (h : DevAt C w g L c M f I p n S) (ho : S.on = true) (hs : spendOk S.armed S.left = true) (hn : n ≤ 1000000) (ht : S.t ≤ 1000000) :
    Calls Try.prog 50 #[.pointer (some ⟨g, 0, none⟩)] w fun e w' => e = .returned (.int .i64 0) ∧ (∃ B, DevAt C w' g L c M noKeys (fun _ => []) p 0 (synced S B) ∧ ∀ k, k < p → pg B k = rd S k) ∧ Mv (fun b => C b ≠ 0) w w' := by
  have H := hid (on_some w g _ _ _ _ _ _ _ _ h.row)
  have H2 := hid (spend_any w g _ _ _ _ _ _ _ _ h.row h.lb)
  rw [ho] at H
  rw [hs, ho] at H2
  have HD := hid h
  have Hon := hid ho
  have HTN := hid ht
  clear h ho hs ht
  go_enter Try.func50, Try.ntmps50
  go_wp2_with fail
  refine H.out.mono ?_
  rintro e w1 ⟨rfl, rfl⟩
  go_wp2_with fail
  refine H2.out.mono ?_
  rintro e w1 ⟨rfl, h1, h2⟩
  have hM : Mv (fun b => b = g) w w1 := Mv.of_grown h2 fun g h _ => by cases h; rfl
  have hT := HD.out.turn hM (fun _ h => h) h1 (spendOk_left HD.out.lb) HD.out.cnt
  have c4 := hT.row.c4
  have HT := hid hT
  have HM1 := hid hM
  clear h1 h2 hM hT H H2
  go_wp2_with (at_range; refine wpList_rangeI _ rfl _ 93 rfl 3 118 Try.underlying3 Try.underlying93 M n f rfl HT.out.map ?_; intro w2 cnt0 hrg0 hb0 hs0)
  go_frame
  have HR0 := hid hrg0
  obtain ⟨r, hr⟩ : ∃ r, r = w1.heap.size := ⟨_, rfl⟩
  have HD2 := hid (HT.out.keep (Mv.of_below (F := fun _ => False) hb0) fun _ h => h.elim)
  have HM2 : Hid (Mv (fun b => b = L) w1 w2) := hid (Mv.of_below hb0)
  rw [← hr] at HR0 ⊢
  have Hr := hid hr
  have hCr : Hid (C r = 0) := hid (by
    rcases Nat.eq_zero_or_pos (C r) with h | h
    · exact h
    · have := HT.out.lt r (by omega); omega)
  clear hrg0 hb0 hr hs0 c4
  obtain ⟨S1, hS1⟩ : ∃ S1 : St, S1 = { on := true && true, armed := S.armed, left := spendLeft S.armed S.left, B := S.B, W := S.W, r := S.r, s := S.s, t := S.t } := ⟨_, rfl⟩
  rw [← hS1] at HD2 HT
  have HS1 := hid hS1
  clear hS1
  go_loopw [3] (fun _ wr => ∃ left cnt B, Rg Try.prog 3 wr M r n f left cnt ∧ DevAt C wr g L c M f I p n { S1 with B := B } ∧ Syncing S1 left p B ∧ Mv (fun b => b = L) w1 wr) (fun _ wr => wr.rangeLeft M r)
  case atStart =>
    refine ⟨_, _, S1.B, HR0.out, HD2.out, fun k hk => ?_, HM2.out⟩
    split
    · rfl
    · rename_i hf
      have hf0 : f k = none := by cases h : f k with
        | none => rfl
        | some v => exact absurd (by show (f (k : Int)).isSome = true; rw [h]; rfl) hf
      unfold rd
      rw [if_pos (HD2.out.wnil (HD2.out.non _ hf0))]
  case round =>
    obtain ⟨left, cnt, B, hrg, hd, hsy, hmv⟩ := hrel
    have HRG := hid hrg
    have HDD := hid hd
    have HSY := hid hsy
    have HMV := hid hmv
    clear hrg hd hsy hmv
    go_wp2_with (at_next; refine wpList_nextI _ rfl _ rfl 3 Try.underlying3 M r n f left cnt rfl HRG.out ?_ ?_)
    · intro hl0
      have HB : Hid (∀ k, k < p → pg B k = rd S1 k) := hid fun k hk => by rw [HSY.out k hk, hl0]; rfl
      have c4 := HDD.out.row.c4
      clear hl0
      go_wp2_with (refine wpList_clear _ rfl (.tmp 36) 93 rfl 3 118 Try.underlying93 M n f rfl HDD.out.map ?_)
      intro w4 hm4 hg4
      have hd4 := HDD.out.cleared hg4 hm4
      have HD4 := hid hd4
      have HG4 := hid hg4
      have H4 := hid (add64_any w4 ⟨g, 7, none⟩ S1.t hd4.row.c7 (hd4.row.fz 7) (by have h1 := HTN.out; have h2 := hd4.cnt.2.2; rw [HS1.out] at h2 ⊢; simp only at h2 ⊢; omega) rfl)
      clear hd4 hm4 hg4 c4
      go_wp2_with fail
      refine H4.out.mono ?_
      rintro e w5 ⟨rfl, rfl⟩
      have hg5 : w4.grownBy (w4.setCell ⟨g, 7, none⟩ (.int .i64 (S1.t + 1))) (some g) := grown_setCell (grown_refl _ _) (.inl rfl) _
      have hm5 : Mv (fun b => b = g) w4 (w4.setCell ⟨g, 7, none⟩ (.int .i64 (S1.t + 1))) := Mv.of_grown hg5 fun g h _ => by cases h; rfl
      have HD5 := hid (HD4.out.turn hm5 (fun _ h => h) (HD4.out.row.s7 (S1.t + 1)) HD4.out.lb (by have h := HD4.out.cnt; simp only at h ⊢; omega))
      have HM5 : Hid (Mv (fun b => C b ≠ 0) w (w4.setCell ⟨g, 7, none⟩ (.int .i64 (S1.t + 1)))) := hid (by
        have hg : C g ≠ 0 := by rw [HD.out.cg]; decide
        have hL : C L ≠ 0 := by rw [HD.out.cL]; decide
        have hMM : C M ≠ 0 := by rw [HD.out.cM]; decide
        exact (((HM1.out.sub fun b _ h => by subst h; exact hg).trans (HMV.out.sub fun b _ h => by subst h; exact hL)).trans (Mv.of_grown HG4.out fun j h _ => by cases h; exact hMM)).trans (hm5.sub fun b _ h => by subst h; exact hg))
      obtain ⟨w5, hw5⟩ : ∃ w5, w5 = w4.setCell ⟨g, 7, none⟩ (.int .i64 (S1.t + 1)) := ⟨_, rfl⟩
      rw [← hw5] at HD5 HM5 ⊢
      clear hw5 hg5 hm5 H4
      go_wp2_with fail
      go_ret
      refine ⟨rfl, ⟨B, ?_, fun k hk => ?_⟩, HM5.out⟩
      · have hd := HD5.out
        rw [HS1.out] at hd
        unfold synced
        rw [Hon.out]
        exact hd
      · rw [HB.out k hk, HS1.out]; rfl
    · intro x v w3 cnt1 hx1 hx2 hlx hfx hrg1 hlt1 hg1 hs1 hen
      have hd3 := HDD.out.keep (w' := w3) (F := fun b => b = r) (Mv.of_grown hg1 fun g h _ => by cases h; rfl) (fun b h => by rw [h]; exact hCr.out)
      obtain ⟨a, k', hv⟩ := look_any hd3 x
      have HC := hid (count_any w3 M n f x a (I x).length k' hrg1.mp ⟨hx1, hx2⟩ hv)
      have HSV := hid (survive_any hd3 x ((I x).length : Int) 0 ⟨hx1, hx2⟩ hn)
      have hm3 : Hid (Mv (fun b => b = L) w1 w3) := hid (HMV.out.trans' (Mv.of_grown (F := fun b => b = r) hg1 fun g h _ => by cases h; rfl) fun i hi h => by subst h; have := Hr.out; omega)
      have HFX := hid hfx
      have HLX := hid hlx
      have HRG1 := hid hrg1
      have hcn : Hid (cnt1 < cnt) := hid hlt1
      have hxd := hid (hd3.dom x v hfx)
      have hwl := hid (hd3.wlen x)
      have hne : Hid (I x ≠ []) := hid (hd3.ver x v hfx).full
      have c4 := hd3.row.c4
      have hd3h := hid hd3
      clear hd3 hv hlx hfx hrg1 hlt1 hg1 hs1
      go_wp2_with fail
      refine HC.out.mono ?_
      rintro e w3' ⟨rfl, rfl⟩
      go_wp2_with fail
      refine HSV.out.mono ?_
      rintro e w4 ⟨rfl, hd4, hm4⟩
      have hLr : L ≠ r := by intro e; have h1 := hd4.cL; rw [e, hCr.out] at h1; omega
      have hLM := hd4.ne_of.2.2
      have HRG4 := hid (HRG1.out.same (hm4.block M HRG1.out.mp.lt (fun e => hLM e.symm)) (hm4.block r HRG1.out.lt (fun e => hLr e.symm)))
      have HD4 := hid hd4
      have HM4 := hid (hm3.out.trans hm4)
      clear hd4 hm4 HC HSV c4 hen
      go_wp2_with fail
      go_roundw
      case rel =>
        refine ⟨_, cnt1, _, HRG4.out, HD4.out, fun k hk => ?_, HM4.out⟩
        obtain ⟨j, rfl⟩ := Int.eq_ofNat_of_zero_le hxd.out.1
        have hlen := HDD.out.len
        simp only at hlen
        have hWx : (S1.W (j : Int)).length = (I (j : Int)).length := hwl.out
        have hpos := List.length_pos_iff.2 hne.out
        have hkb : keptB B j (S1.W (j : Int)) ((I (j : Int)).length : Int) 0 = splice B (256 * j) ((S1.W (j : Int)).getD ((I (j : Int)).length - 1) []) := by
          unfold keptB
          simp only [hWx, keptN_all]
          rw [if_neg (by omega), if_pos hpos]
        show pg (keptB B j (S1.W (j : Int)) ((I (j : Int)).length : Int) 0) k = _
        rw [hkb]
        have hll : ((S1.W (j : Int)).getD ((I (j : Int)).length - 1) []).length = 256 := by
          obtain ⟨q, hq, hsq⟩ := (hd3h.out.ver _ _ HFX.out).item (i := (I (j : Int)).length - 1) (by omega)
          have hw := hd3h.out.wait (j : Int)
          simp only at hw
          rw [hw, List.getD_eq_getElem?_getD, List.getElem?_map, hq]
          exact hsq.2.1
        have hjp := hxd.out.2
        by_cases hkj : k = j
        · subst hkj
          rw [pg_splice_whole (by omega) hll]
          simp only [decide_true, Bool.not_true, Bool.and_false]
          unfold rd
          rw [if_neg (by simp), if_neg (by intro e; rw [e] at hWx; simp at hWx; omega), hWx]
        · rw [pg_splice_other (by omega) (by omega) hkj, HSY.out k hk]
          have : ¬ ((k : Int) = (j : Int)) := by omega
          simp [this]
      case measure => rw [HRG4.out.left_eq, HRG.out.left_eq]; exact hcn.out
end Go.Proofs.Ytebacgkeolofmaa
namespace Go.Proofs.Ytebacgkeolofmaa
open Go.RowKit Go.Inc

/-- What a crash keeps of a page. -/
structure Kp where
  page : Int
  N : Int
  part : Int
def Kp.wf (k : Kp) : Prop := -9223372036854775808 ≤ k.page ∧ k.page ≤ 9223372036854775807
/-- .. in memory. -/
def Kps (w : World) (b o : Nat) (ks : List Kp) : Prop := ∀ i k, ks[i]? = some k → w.cell? ⟨b, o + i * 3, none⟩ = some (.int .i64 k.page) ∧ w.cell? ⟨b, o + i * 3 + 1, none⟩ = some (.int .i64 k.N) ∧ w.cell? ⟨b, o + i * 3 + 2, none⟩ = some (.int .i64 k.part)
def KpS (ok : Nat → Prop) (w : World) (a : Option Addr) (ks : List Kp) : Prop := (∀ k ∈ ks, k.wf) ∧ (ks = [] ∨ ∃ b o, a = some ⟨b, o, none⟩ ∧ ok b ∧ Kps w b o ks)
theorem Kps.mv {F : Nat → Prop} {w w' : World} {b o : Nat} {ks : List Kp} (h : Kps w b o ks) (hm : Mv F w w') (hF : ¬ F b) : Kps w' b o ks :=
  fun i k hi => let ⟨h1, h2, h3⟩ := h i k hi; ⟨hm.cell h1 hF, hm.cell h2 hF, hm.cell h3 hF⟩
theorem KpS.mv {F : Nat → Prop} {w w' : World} {ok : Nat → Prop} {a : Option Addr} {ks : List Kp} (h : KpS ok w a ks) (hm : Mv F w w') (hF : ∀ b, ok b → ¬ F b) : KpS ok w' a ks :=
  ⟨h.1, h.2.imp id fun ⟨b, o, ha, hb, hk⟩ => ⟨b, o, ha, hb, hk.mv hm (hF b hb)⟩⟩

/-- One Keep: what waits, what is laid, how many survived. -/
def crash1 (s : (Int → List (List Nat)) × List Nat × Nat) (k : Kp) : (Int → List (List Nat)) × List Nat × Nat :=
  (fun y => if y = k.page then [] else s.1 y, keptB s.2.1 k.page.toNat (s.1 k.page) k.N k.part, s.2.2 + keptN (s.1 k.page).length k.N)
def crashAll (S : St) (ks : List Kp) : (Int → List (List Nat)) × List Nat × Nat := ks.foldl crash1 (S.W, S.B, 0)
theorem crashAll_snoc (S : St) {ks : List Kp} {j : Nat} {k : Kp} (h : ks[j]? = some k) : crashAll S (ks.take (j + 1)) = crash1 (crashAll S (ks.take j)) k := by
  obtain ⟨hj, he⟩ := List.getElem?_eq_some_iff.1 h
  unfold crashAll
  rw [List.take_succ_eq_append_getElem hj, List.foldl_append, he]
  rfl

set_option maxRecDepth 20000 in
set_option maxHeartbeats 1000000 in
theorem crash_some {C w g L c M f I p n S} (h : DevAt C w g L c M f I p n S) (b o cap : Nat) (ks : List Kp) (hk : Kps w b o ks) (hw : ∀ k ∈ ks, k.wf) (hb : C b = 0) (hn : n ≤ 1000000) (hl : ks.length ≤ 1000) :
    Calls Try.prog 30 #[.pointer (some ⟨g, 0, none⟩), .slice (some ⟨b, o, none⟩) ks.length cap] w fun e w' => e = .returned (.int .i64 ((crashAll S ks).2.2 : Nat)) ∧
      DevAt C w' g L c M noKeys (fun _ => []) p 0 { S with on := false, B := (crashAll S ks).2.1, W := fun _ => [] } ∧ Mv (fun b => C b ≠ 0) w w' := by
  have HD := hid h
  have HK := hid hk
  have HW := hid hw
  have hbL : b ≠ L := by rintro rfl; rw [h.cL] at hb; omega
  have hbM : b ≠ M := by rintro rfl; rw [h.cM] at hb; omega
  clear h hk hw hb
  obtain ⟨m, hm⟩ : ∃ m, m = ks.length := ⟨_, rfl⟩
  rw [← hm] at hl ⊢
  have HMM := hid hm
  clear hm
  go_enter Try.func30, Try.ntmps30
  go_wp2_with fail
  go_loopw [5, 12] (fun s i wr => ∃ (j cn : Nat) (f' : Int → Option Value) (I' : Int → List Item), j ≤ m ∧ i = .int .i64 (j : Int) ∧ s = .int .i64 (cn : Int) ∧ cn = (crashAll S (ks.take j)).2.2 ∧ cn ≤ j * 1000000 ∧
    DevAt C wr g L c M f' I' p n { S with W := (crashAll S (ks.take j)).1, B := (crashAll S (ks.take j)).2.1 } ∧ Mv (fun b => b = L ∨ b = M) w wr) (fun _ i _ => m - (intOf i).toNat)
  case atStart => exact ⟨0, 0, f, I, Nat.zero_le _, rfl, rfl, rfl, Nat.le_refl _, HD.out, Mv.refl _ _⟩
  case round =>
    obtain ⟨j, cn, f', I', hj, rfl, rfl, hcn, hcb, hd, hmv⟩ := hrel
    have HCN := hid hcn
    have HDJ := hid hd
    have HMV := hid hmv
    have hcb2 : (cn : Int) ≤ 1000000000 := by
      have : j * 1000000 ≤ 1000 * 1000000 := Nat.mul_le_mul_right _ (by omega)
      omega
    have hcbh := hid hcb
    clear hcn hd hmv hcb
    by_cases hlt : (j : Int) < m
    · obtain ⟨k, hkj⟩ : ∃ k, ks[j]? = some k := ⟨_, List.getElem?_eq_getElem (by rw [← HMM.out]; omega)⟩
      obtain ⟨q0, q1, q2⟩ := (HK.out.mv HMV.out (by rintro (h | h); exact hbL h; exact hbM h)) j k hkj
      have hwf := HW.out k (List.mem_of_getElem? hkj)
      have HKJ := hid hkj
      obtain ⟨x, N, part⟩ := k
      simp only at q0 q1 q2
      obtain ⟨hx1, hx2⟩ := hwf
      simp only at hx1 hx2
      clear hkj
      obtain ⟨w1, hw1⟩ : ∃ w1, w1 = wr.alloc (.cells #[.int .i64 x, .int .i64 N, .int .i64 part] 105) := ⟨_, rfl⟩
      have hb1 : Below wr.heap.size wr w1 := by rw [hw1]; exact (Below.refl _ _).alloc (Nat.le_refl _) _
      have hd1 := HDJ.out.keep (Mv.of_below (F := fun _ => False) hb1) fun _ h => h.elim
      have hk0 : w1.cell? ⟨wr.heap.size, 0, none⟩ = some (.int .i64 x) := by rw [hw1]; exact cell_of_row _ _ 0 _ _ _ (heap_alloc_new wr _)
      have HS := hid (survive_any hd1 x N part ⟨hx1, hx2⟩ hn)
      have HW1 := hid hw1
      have HM1 := hid (HMV.out.trans (Mv.of_below hb1))
      have hbx : wr.heap.size ≠ L := by have := HDJ.out.lt L (by rw [HDJ.out.cL]; decide); omega
      have hle := keptN_le ((crashAll S (ks.take j)).1 x).length N
      have hle2 : ((crashAll S (ks.take j)).1 x).length ≤ n := by have h1 := hd1.wlen x; have h2 := hd1.few x; simp only at h1; omega
      obtain ⟨kn, hkn⟩ : ∃ kn, kn = keptN ((crashAll S (ks.take j)).1 x).length N := ⟨_, rfl⟩
      rw [← hkn] at hle
      have hkb : (kn : Int) ≤ 1000000 := by omega
      have HKN := hid hkn
      have HS' : Hid (Calls Try.prog 52 #[.pointer (some ⟨g, 0, none⟩), .agg #[.int .i64 x, .int .i64 N, .int .i64 part]] w1 fun e w' => e = .returned (.int .i64 (kn : Int)) ∧
        DevAt C w' g L c M f' I' p n { S with W := (crashAll S (ks.take j)).1, B := keptB (crashAll S (ks.take j)).2.1 x.toNat ((crashAll S (ks.take j)).1 x) N part } ∧ Mv (fun b => b = L) w1 w') := hid (by rw [hkn]; exact HS.out)
      clear hw1 hb1 hd1 HS hkn hle hle2
      go_wp2_with fail
      rw [← HW1.out]
      clear q0 q1 q2
      refine HS'.out.mono ?_
      rintro e w2 ⟨rfl, hd2, hm2⟩
      have k0 : w2.cell? ⟨wr.heap.size, 0, none⟩ = some (.int .i64 x) := hm2.cell hk0 hbx
      have HD2 := hid hd2
      have HM2 := hid (HM1.out.trans (hm2.sub fun b _ h => .inl h))
      have c4 := hd2.row.c4
      clear hd2 hm2 hk0 HS'
      go_wp2_with fail
      go_still_tail 6, mixed
      change wpList _ _ _ _ _ w2.drew
      refine wpList_del _ rfl (.tmp 24) (.tmp 26) 93 3 rfl 118 Try.underlying3 Try.underlying93 M n f' rfl (HD2.out.map.same (w' := w2.drew) rfl) x rfl ⟨hx1, hx2⟩ ?_
      intro w3 hm3 hg3
      have HD3 := hid (HD2.out.remap (I' := fun y => if y = x then [] else I' y) (W := (crashAll S (ks.take (j + 1))).1) (Mv.of_grown (w := w2) (F := fun b => b = M) ⟨hg3.os, hg3.tape, hg3.output, hg3.size, hg3.block⟩ fun g h _ => by cases h; rfl) (fun _ h => h) hm3
        (fun y v hv => by
          unfold del at hv
          by_cases hy : y = x
          · rw [if_pos hy] at hv; cases hv
          · rw [if_neg hy] at hv; exact ⟨hv, by simp only [if_neg hy]⟩)
        (fun y hv => by
          unfold del at hv
          by_cases hy : y = x
          · simp only [if_pos hy]
          · rw [if_neg hy] at hv; simp only [if_neg hy]; exact HD2.out.non y hv)
        (fun y => by
          by_cases hy : y = x
          · simp only [if_pos hy]; exact Nat.zero_le _
          · simp only [if_neg hy]; exact HD2.out.few y)
        (fun y => by
          rw [crashAll_snoc S HKJ.out]
          show (if y = x then [] else _) = _
          by_cases hy : y = x
          · simp only [if_pos hy]; rfl
          · simp only [if_neg hy]; exact HD2.out.wait y))
      have HM3 : Hid (Mv (fun b => b = L ∨ b = M) w w3) := hid (HM2.out.trans (Mv.of_grown (w := w2) ⟨hg3.os, hg3.tape, hg3.output, hg3.size, hg3.block⟩ fun g h _ => by cases h; exact .inr rfl))
      clear hm3 hg3 c4 k0
      go_wp2_with fail
      go_roundw
      case rel =>
        refine ⟨j + 1, cn + kn, del f' x, (fun y => if y = x then [] else I' y), by omega, by go_num, by go_num, ?_, ?_, ?_, HM3.out⟩
        · rw [crashAll_snoc S HKJ.out, HCN.out, HKN.out]; rfl
        · have := hcbh.out; omega
        · have h := HD3.out
          have e : keptB (crashAll S (ks.take j)).2.1 x.toNat ((crashAll S (ks.take j)).1 x) N part = (crashAll S (ks.take (j + 1))).2.1 := by rw [crashAll_snoc S HKJ.out]; rfl
          rw [e] at h
          exact h
      case measure => simp [intOf]; omega
    · have hjm : Hid (j = m) := hid (by omega)
      have hge : (m : Int) ≤ j := by omega
      have c4 := HDJ.out.row.c4
      clear hlt
      go_wp2_with (refine wpList_clear _ rfl (.tmp 31) 93 rfl 3 118 Try.underlying93 M n f' rfl HDJ.out.map ?_)
      intro w1 hm1 hg1
      have hd1 := HDJ.out.cleared hg1 hm1
      have HD1 := hid hd1
      have HG1 := hid hg1
      have H := hid (cut_any w1 g _ _ _ _ _ _ _ _ hd1.row)
      clear hd1 hm1 hg1 c4
      go_wp2_with fail
      refine H.out.mono ?_
      rintro e w2 ⟨rfl, h1, h2⟩
      have hm2 : Mv (fun b => b = g) w1 w2 := Mv.of_grown h2 fun g h _ => by cases h; rfl
      have HD2 := hid (HD1.out.turn hm2 (fun _ h => h) h1 HD1.out.lb HD1.out.cnt)
      have HM2 : Hid (Mv (fun b => C b ≠ 0) w w2) := hid (by
        have hg : C g ≠ 0 := by rw [HD.out.cg]; decide
        have hL : C L ≠ 0 := by rw [HD.out.cL]; decide
        have hMM : C M ≠ 0 := by rw [HD.out.cM]; decide
        exact ((HMV.out.sub fun b _ h => by rcases h with h | h <;> subst h; exact hL; exact hMM).trans (Mv.of_grown HG1.out fun j h _ => by cases h; exact hMM)).trans (hm2.sub fun b _ h => by subst h; exact hg))
      clear h1 h2 hm2 H
      go_wp2_with fail
      go_ret
      have hfull : ks.take j = ks := by rw [hjm.out, HMM.out]; exact List.take_length
      have h1 := HCN.out
      have h2 := HD2.out
      rw [hfull] at h1 h2
      exact ⟨ret_int (by rw [h1]), h2, HM2.out⟩
end Go.Proofs.Ytebacgkeolofmaa
namespace Go.Proofs.Ytebacgkeolofmaa
open Go.RowKit Go.Inc

def fillTo (bs : List Nat) (k : Nat) : List Nat := bs.take k ++ List.replicate (256 - k) 0
def fill (bs : List Nat) : List Nat := fillTo bs (min bs.length 256)
theorem fillTo_len {bs : List Nat} {k : Nat} (h1 : k ≤ bs.length) (h2 : k ≤ 256) : (fillTo bs k).length = 256 := by unfold fillTo; simp; omega
theorem fill_len (bs : List Nat) : (fill bs).length = 256 := fillTo_len (by omega) (by omega)
theorem fillTo_set {bs : List Nat} {k : Nat} (h1 : k < bs.length) (h2 : k < 256) : (fillTo bs k).set k (bs.getD k 0) = fillTo bs (k + 1) := by
  unfold fillTo
  rw [take_snoc h1, List.set_append]
  rw [List.length_take, Nat.min_eq_left (by omega), if_neg (by omega), Nat.sub_self]
  obtain ⟨m, hm⟩ : ∃ m, 256 - k = m + 1 := ⟨255 - k, by omega⟩
  have hm' : 256 - (k + 1) = m := by omega
  rw [hm, hm', List.replicate_succ, List.set_cons_zero, List.append_assoc]
  rfl

set_option maxRecDepth 20000 in
set_option maxHeartbeats 1000000 in
theorem full_any (ok : Nat → Prop) (a : Option Addr) (c : Nat) (bs : List Nat) (w : World) (hs : Sl ok w a bs) (hl : bs.length ≤ 9223372036854775807) :
    Calls Try.prog 18 #[.slice a bs.length c] w fun e w' => e = .returned (.slice (some ⟨w.heap.size, 0, none⟩) 256 256) ∧ w'.ownsRow w.heap.size 5 1 (.slice (some ⟨w.heap.size, 0, none⟩) 256 256) 256 (u8s (fill bs)) ∧ Below w.heap.size w w' := by
  obtain ⟨i0, hi, hz0, hz1, hz2⟩ := info_parts infoU8
  have HI := hid (And.intro hi (And.intro hz0 (And.intro hz1 hz2)))
  have HS := hid hs
  clear hi hz0 hz1 hz2 hs
  obtain ⟨n, hn⟩ : ∃ n, n = bs.length := ⟨_, rfl⟩
  rw [← hn] at hl ⊢
  have HN := hid hn
  clear hn
  go_enter Try.func18, Try.ntmps18
  go_wp2_with (at_make; refine wpList_make_full _ rfl _ _ 26 rfl w.heap.size 5 i0 (.int .u8 0) 1 Try.underlying26 HI.out.1 HI.out.2.1 HI.out.2.2.1 .i64 .i64 _ _ 256 rfl rfl rfl rfl (by rw [HI.out.2.2.2]; omega) (by unfold maxLen; omega) (Nat.le_refl _) ?_)
  intro w1 hown hg
  rw [madeU8] at hown
  have HR : Hid (w1.ownsRow w.heap.size 5 1 (.slice (some ⟨w.heap.size, 0, none⟩) 256 256) 256 (u8s (fillTo bs 0))) := hid hown
  have HB1 : Hid (Below w.heap.size w w1) := hid ⟨hg.os, hg.tape, hg.output, hg.size, fun i hi => hg.block i hi (by simp)⟩
  clear hown hg
  go_wp2_with fail
  go_loopw [4] (fun i wr => ∃ k : Nat, k ≤ n ∧ k ≤ 256 ∧ i = .int .i64 (k : Int) ∧ wr.ownsRow w.heap.size 5 1 (.slice (some ⟨w.heap.size, 0, none⟩) 256 256) 256 (u8s (fillTo bs k)) ∧ Below w.heap.size w wr) (fun i _ => n - (intOf i).toNat)
  case atStart => exact ⟨0, Nat.zero_le _, Nat.zero_le _, rfl, HR.out, HB1.out⟩
  case round =>
    obtain ⟨k, hk, hk2, rfl, hr, hb⟩ := hrel
    have HRR := hid hr
    have HBB := hid hb
    by_cases hlt : (k : Int) < n
    · by_cases hlt2 : (k : Int) < 256
      · rcases HS.out with h0 | ⟨b, off, rfl, _, hc⟩
        · have := HN.out; rw [h0] at this; simp at this; omega
        have hcell0 := hc k (by rw [← HN.out]; omega)
        have hcb : wr.cell? ⟨b, off + k, none⟩ = _ := (hb.cell (cell_lt hcell0)).trans hcell0
        have hcell := hr.cells (g := w.heap.size) rfl k (.int .u8 (((fillTo bs k).getD k 0 : Nat) : Int)) (u8s_get (by rw [fillTo_len (by rw [← HN.out]; exact hk) hk2]; omega))
        rw [Addr.add_lit] at hcell
        simp only [Nat.zero_add] at hcell
        have hfz : wr.frozen? ⟨w.heap.size, k, none⟩ = false := hr.frozenAt k
        have hst := hid (hr.stored k (.int .u8 ((bs.getD k 0 : Nat) : Int)))
        have hset := hid (fillTo_set (bs := bs) (k := k) (by rw [← HN.out]; omega) (by omega))
        have HB2 := hid (hb.setCell (p := ⟨w.heap.size, k, none⟩) (Nat.le_refl _) (.int .u8 ((bs.getD k 0 : Nat) : Int)))
        generalize bs.getD k 0 = x at *
        generalize (fillTo bs k).getD k 0 = old at *
        clear hr hb hcell0 hc
        have hm : n - (k + 1) < n - k := by omega
        go_wp2_with fail
        go_roundw
        case rel =>
          refine ⟨k + 1, by omega, by omega, by go_num, ?_, HB2.out⟩
          rw [← hset.out, ← u8s_set]; exact hst.out.1
        case measure => simp [intOf]; omega
      · have hd : (256 : Int) ≤ k := by omega
        have hk256 : Hid (fillTo bs k = fill bs) := hid (by unfold fill; rw [Nat.min_eq_right (by rw [← HN.out]; omega)]; congr 1; omega)
        clear hlt2 hr hb
        go_wp2_with fail
        go_ret
        exact ⟨rfl, by rw [← hk256.out]; exact HRR.out, HBB.out⟩
    · have hd : (n : Int) ≤ k := by omega
      have hkn : Hid (fillTo bs k = fill bs) := hid (by unfold fill; rw [Nat.min_eq_left (by rw [← HN.out]; omega), ← HN.out]; congr 1; omega)
      clear hlt hr hb
      go_wp2_with fail
      go_ret
      exact ⟨rfl, by rw [← hkn.out]; exact HRR.out, HBB.out⟩
end Go.Proofs.Ytebacgkeolofmaa
namespace Go.Proofs.Ytebacgkeolofmaa
open Go.RowKit Go.Inc

theorem crash_empty {C w g L c M f I p n S} (h : DevAt C w g L c M f I p n S) (a : Option Addr) (cap : Nat) :
    Calls Try.prog 30 #[.pointer (some ⟨g, 0, none⟩), .slice a 0 cap] w fun e w' => e = .returned (.int .i64 0) ∧
      DevAt C w' g L c M noKeys (fun _ => []) p 0 { S with on := false, W := fun _ => [] } ∧ Mv (fun b => C b ≠ 0) w w' := by
  have HD := hid h
  have c4 := h.row.c4
  clear h
  go_enter Try.func30, Try.ntmps30
  go_wp2_with fail
  go_loopw [5, 12] (fun s i wr => s = .int .i64 0 ∧ i = .int .i64 0 ∧ w = wr) (fun _ _ _ => 0)
  case atStart => exact ⟨rfl, rfl, rfl⟩
  case round =>
    obtain ⟨rfl, rfl, rfl⟩ := hrel
    go_wp2_with (refine wpList_clear _ rfl (.tmp 31) 93 rfl 3 118 Try.underlying93 M n f rfl HD.out.map ?_)
    intro w1 hm1 hg1
    have hd1 := HD.out.cleared hg1 hm1
    have HD1 := hid hd1
    have HG1 := hid hg1
    have H := hid (cut_any w1 g _ _ _ _ _ _ _ _ hd1.row)
    clear hd1 hm1 hg1 c4
    go_wp2_with fail
    refine H.out.mono ?_
    rintro e w2 ⟨rfl, h1, h2⟩
    have hm2 : Mv (fun b => b = g) w1 w2 := Mv.of_grown h2 fun g h _ => by cases h; rfl
    have HD2 := hid (HD1.out.turn hm2 (fun _ h => h) h1 HD1.out.lb HD1.out.cnt)
    have HM2 : Hid (Mv (fun b => C b ≠ 0) w w2) := hid (by
      have hg : C g ≠ 0 := by rw [HD.out.cg]; decide
      have hMM : C M ≠ 0 := by rw [HD.out.cM]; decide
      exact (Mv.of_grown HG1.out fun j h _ => by cases h; exact hMM).trans (hm2.sub fun b _ h => by subst h; exact hg))
    clear h1 h2 hm2 H
    go_wp2_with fail
    go_ret
    exact ⟨rfl, HD2.out, HM2.out⟩

/-- A device at g, of the blocks that C colours; of p pages; at most n waiting versions a page. -/
def Dv (C : Nat → Nat) (w : World) (g p n : Nat) (S : St) : Prop := ∃ L c M f I, DevAt C w g L c M f I p n S
/-- C' colours what C colours, and new blocks alone. -/
def Ext (w : World) (C C' : Nat → Nat) : Prop := ∀ b, b < w.heap.size → C' b = C b
section
variable {C : Nat → Nat} {w w' : World} {g p n : Nat} {S : St}
theorem Dv.keep (h : Dv C w g p n S) {F : Nat → Prop} (hm : Mv F w w') (hF : ∀ b, F b → C b = 0) : Dv C w' g p n S := let ⟨L, c, M, f, I, h⟩ := h; ⟨L, c, M, f, I, h.keep hm hF⟩
theorem Dv.below (h : Dv C w g p n S) (hb : Below w.heap.size w w') : Dv C w' g p n S := h.keep (Mv.of_below (F := fun _ => False) hb) fun _ h => h.elim
theorem Dv.lt (h : Dv C w g p n S) {b : Nat} (hb : C b ≠ 0) : b < w.heap.size := let ⟨_, _, _, _, _, h⟩ := h; h.lt b hb
theorem Dv.new (h : Dv C w g p n S) {b : Nat} (hb : w.heap.size ≤ b) : C b = 0 := by
  rcases Nat.eq_zero_or_pos (C b) with h0 | h0
  · exact h0
  · have := h.lt (b := b) (by omega); omega
theorem Dv.cg (h : Dv C w g p n S) : C g = 1 := let ⟨_, _, _, _, _, h⟩ := h; h.cg
theorem Dv.glt (h : Dv C w g p n S) : g < w.heap.size := h.lt (by rw [h.cg]; decide)
theorem Dv.pp (h : Dv C w g p n S) : 1 ≤ p ∧ p ≤ 2048 := let ⟨_, _, _, _, _, h⟩ := h; h.pp
theorem Dv.len (h : Dv C w g p n S) : S.B.length = 256 * p := let ⟨_, _, _, _, _, h⟩ := h; h.len
theorem Dv.few (h : Dv C w g p n S) (x : Int) : (S.W x).length ≤ n := by
  obtain ⟨_, _, _, _, _, h⟩ := h
  rw [h.wlen]; exact h.few x
theorem Dv.dom (h : Dv C w g p n S) {x : Int} (hx : S.W x ≠ []) : 0 ≤ x ∧ x < p := by
  obtain ⟨_, _, _, f, I, h⟩ := h
  have hI : I x ≠ [] := fun e => hx (h.wnil e)
  obtain ⟨v, hv, _⟩ := look_some h hI
  exact h.dom x v hv
theorem Dv.wl (h : Dv C w g p n S) {x : Int} {b : List Nat} (hb : b ∈ S.W x) : b.length = 256 := by
  obtain ⟨_, _, _, f, I, h⟩ := h
  rw [h.wait] at hb
  obtain ⟨q, hq, rfl⟩ := List.mem_map.1 hb
  have hI : I x ≠ [] := by intro e; rw [e] at hq; cases hq
  obtain ⟨v, hv, hV⟩ := look_some h hI
  exact (hV.all q hq).2.1
theorem Dv.mono (h : Dv C w g p n S) {n' : Nat} (hn : n ≤ n') : Dv C w g p n' S := by
  obtain ⟨L, c, M, f, I, h⟩ := h
  exact ⟨L, c, M, f, I, { h with map := h.map.mono hn, few := fun x => Nat.le_trans (h.few x) hn }⟩

theorem dv_arm (h : Dv C w g p n S) (k : Int) (hk : -9223372036854775808 ≤ k ∧ k ≤ 9223372036854775807) :
    Calls Try.prog 28 #[.pointer (some ⟨g, 0, none⟩), .int .i64 k] w fun e w' => e = .returned (.tuple #[]) ∧ Dv C w' g p n { S with armed := decide (0 ≤ k), left := k } ∧ Mv (fun b => C b ≠ 0) w w' := by
  obtain ⟨_, _, _, _, _, h⟩ := h
  refine (arm_some h k hk).mono ?_
  rintro e w' ⟨rfl, hd, hm⟩
  exact ⟨rfl, ⟨_, _, _, _, _, hd⟩, hm.sub fun b _ e => by subst e; rw [h.cg]; decide⟩
theorem dv_power (h : Dv C w g p n S) :
    Calls Try.prog 31 #[.pointer (some ⟨g, 0, none⟩)] w fun e w' => e = .returned (.tuple #[]) ∧ Dv C w' g p 0 { S with on := true, armed := false, left := 0, W := fun _ => [] } ∧ Mv (fun b => C b ≠ 0) w w' := by
  obtain ⟨_, _, _, _, _, h⟩ := h
  refine (power_some h).mono ?_
  rintro e w' ⟨rfl, hd, hm⟩
  exact ⟨rfl, ⟨_, _, _, _, _, hd⟩, hm⟩
theorem dv_read_range (h : Dv C w g p n S) (x : Int) (ho : S.on = true) (hx : ¬ (0 ≤ x ∧ x < p)) : Calls Try.prog 46 #[.pointer (some ⟨g, 0, none⟩), .int .i64 x] w fun e w' => e = .returned (.tuple #[.slice none 0 0, .int .i64 10]) ∧ w = w' := by
  obtain ⟨_, _, _, _, _, h⟩ := h
  exact read_range h x ho hx
theorem dv_read (h : Dv C w g p n S) (k : Nat) (hk : k < p) (ho : S.on = true) (hn : n ≤ 1000000) (hr : S.r ≤ 1000000) :
    Calls Try.prog 46 #[.pointer (some ⟨g, 0, none⟩), .int .i64 (k : Int)] w fun e w' => ∃ v, e = .returned (.tuple #[v, .int .i64 0]) ∧ Row 5 w.heap.size w' v (rd S k) ∧ Dv C w' g p n { S with r := S.r + 1 } ∧ Mv (fun b => C b ≠ 0) w w' := by
  obtain ⟨_, _, _, _, _, h⟩ := h
  refine (read_some h k hk ho hn hr).mono ?_
  rintro e w' ⟨v, rfl, hv, hd, hm⟩
  exact ⟨v, rfl, hv, ⟨_, _, _, _, _, hd⟩, hm.sub fun b _ e => by subst e; rw [h.cg]; decide⟩
theorem rd_len (h : Dv C w g p n S) {k : Nat} (hk : k < p) : (rd S k).length = 256 := by
  unfold rd
  split
  · exact pg_len h.len hk
  · rename_i hne
    have hpos := List.length_pos_iff.2 hne
    refine h.wl (x := k) ?_
    rw [List.getD_eq_getElem?_getD, List.getElem?_eq_getElem (by omega)]
    exact List.getElem_mem _
theorem dv_write_down (h : Dv C w g p n S) (x : Int) (a : Option Addr) (l cb : Nat) (ho : S.on = false) : Calls Try.prog 49 #[.pointer (some ⟨g, 0, none⟩), .int .i64 x, .slice a l cb] w fun e w' => e = .returned (.int .i64 9) ∧ w = w' := by
  obtain ⟨_, _, _, _, _, h⟩ := h
  exact write_down h x a l cb ho
theorem dv_write_range (h : Dv C w g p n S) (x : Int) (a : Option Addr) (l cb : Nat) (ho : S.on = true) (hx : ¬ (0 ≤ x ∧ x < p)) : Calls Try.prog 49 #[.pointer (some ⟨g, 0, none⟩), .int .i64 x, .slice a l cb] w fun e w' => e = .returned (.int .i64 10) ∧ w = w' := by
  obtain ⟨_, _, _, _, _, h⟩ := h
  exact write_range h x a l cb ho hx
theorem dv_write_spent (h : Dv C w g p n S) (x : Int) (a : Option Addr) (cb : Nat) (ho : S.on = true) (hx : 0 ≤ x ∧ x < p) (hs : spendOk S.armed S.left = false) :
    Calls Try.prog 49 #[.pointer (some ⟨g, 0, none⟩), .int .i64 x, .slice a 256 cb] w fun e w' => e = .returned (.int .i64 9) ∧ Dv C w' g p n { S with on := false, left := spendLeft S.armed S.left } ∧ Mv (fun b => C b ≠ 0) w w' := by
  obtain ⟨_, _, _, _, _, h⟩ := h
  refine (write_spent h x a cb ho hx hs).mono ?_
  rintro e w' ⟨rfl, hd, hm⟩
  exact ⟨rfl, ⟨_, _, _, _, _, hd⟩, hm.sub fun b _ e => by subst e; rw [h.cg]; decide⟩
theorem dv_write (h : Dv C w g p n S) (k : Nat) (hk : k < p) (ok : Nat → Prop) (a : Option Addr) (cb : Nat) (bs : List Nat) (hsl : Sl ok w a bs) (hok : ∀ b, ok b → C b = 0) (hbl : bs.length = 256) (ho : S.on = true) (hs : spendOk S.armed S.left = true) (hn : n ≤ 1000000) (hsn : S.s ≤ 1000000) :
    Calls Try.prog 49 #[.pointer (some ⟨g, 0, none⟩), .int .i64 (k : Int), .slice a 256 cb] w fun e w' => e = .returned (.int .i64 0) ∧ (∃ C', Dv C' w' g p (n + 1) (wrote S k bs) ∧ Ext w C C') ∧ Mv (fun b => C b ≠ 0) w w' := by
  obtain ⟨_, _, _, _, _, h⟩ := h
  refine (write_some h k hk ok a cb bs hsl (fun b hb e => by subst e; have := hok _ hb; rw [h.cg] at this; omega) hbl ho hs hn hsn).mono ?_
  rintro e w' ⟨rfl, ⟨C', f', I', hd, hext⟩, hm⟩
  exact ⟨rfl, ⟨C', ⟨_, _, _, _, _, hd⟩, hext⟩, hm⟩
theorem dv_sync_down (h : Dv C w g p n S) (ho : S.on = false) : Calls Try.prog 50 #[.pointer (some ⟨g, 0, none⟩)] w fun e w' => e = .returned (.int .i64 9) ∧ w = w' := by
  obtain ⟨_, _, _, _, _, h⟩ := h
  exact sync_down h ho
theorem dv_sync_spent (h : Dv C w g p n S) (ho : S.on = true) (hs : spendOk S.armed S.left = false) :
    Calls Try.prog 50 #[.pointer (some ⟨g, 0, none⟩)] w fun e w' => e = .returned (.int .i64 9) ∧ Dv C w' g p n { S with on := false, left := spendLeft S.armed S.left } ∧ Mv (fun b => C b ≠ 0) w w' := by
  obtain ⟨_, _, _, _, _, h⟩ := h
  refine (sync_spent h ho hs).mono ?_
  rintro e w' ⟨rfl, hd, hm⟩
  exact ⟨rfl, ⟨_, _, _, _, _, hd⟩, hm.sub fun b _ e => by subst e; rw [h.cg]; decide⟩
theorem dv_sync (h : Dv C w g p n S) (ho : S.on = true) (hs : spendOk S.armed S.left = true) (hn : n ≤ 1000000) (ht : S.t ≤ 1000000) :
    Calls Try.prog 50 #[.pointer (some ⟨g, 0, none⟩)] w fun e w' => e = .returned (.int .i64 0) ∧ (∃ B, Dv C w' g p 0 (synced S B) ∧ ∀ k, k < p → pg B k = rd S k) ∧ Mv (fun b => C b ≠ 0) w w' := by
  obtain ⟨_, _, _, _, _, h⟩ := h
  refine (sync_some h ho hs hn ht).mono ?_
  rintro e w' ⟨rfl, ⟨B, hd, hB⟩, hm⟩
  exact ⟨rfl, ⟨B, ⟨_, _, _, _, _, hd⟩, hB⟩, hm⟩
theorem dv_crash (h : Dv C w g p n S) (ok : Nat → Prop) (a : Option Addr) (cap : Nat) (ks : List Kp) (hk : KpS ok w a ks) (hok : ∀ b, ok b → C b = 0) (hn : n ≤ 1000000) (hl : ks.length ≤ 1000) :
    Calls Try.prog 30 #[.pointer (some ⟨g, 0, none⟩), .slice a ks.length cap] w fun e w' => e = .returned (.int .i64 ((crashAll S ks).2.2 : Nat)) ∧ Dv C w' g p 0 { S with on := false, B := (crashAll S ks).2.1, W := fun _ => [] } ∧ Mv (fun b => C b ≠ 0) w w' := by
  obtain ⟨_, _, _, _, _, h⟩ := h
  obtain ⟨hwf, hks⟩ := hk
  rcases hks with rfl | ⟨b, o, rfl, hb, hks⟩
  · refine (crash_empty h a cap).mono ?_
    rintro e w' ⟨rfl, hd, hm⟩
    exact ⟨rfl, ⟨_, _, _, _, _, hd⟩, hm⟩
  · refine (crash_some h b o cap ks hks hwf (hok b hb) hn hl).mono ?_
    rintro e w' ⟨rfl, hd, hm⟩
    exact ⟨rfl, ⟨_, _, _, _, _, hd⟩, hm⟩
end
theorem dv_new (w : World) (p : Nat) (hp : 1 ≤ p ∧ p ≤ 2048) : Calls Try.prog 26 #[.int .i64 (p : Int)] w fun e w' => ∃ C g, e = .returned (.tuple #[.pointer (some ⟨g, 0, none⟩), .int .i64 0]) ∧
    Dv C w' g p 0 (fresh (List.replicate (256 * p) 0)) ∧ Below w.heap.size w w' ∧ ∀ b, C b ≠ 0 → w.heap.size ≤ b := by
  refine (new_good w p hp).mono ?_
  rintro e w' ⟨C, g, L, c, M, rfl, hd, hb, hc⟩
  exact ⟨C, g, rfl, ⟨_, _, _, _, _, hd⟩, hb, hc⟩
theorem dv_load (w : World) (ok : Nat → Prop) (a : Option Addr) (c p : Nat) (bs : List Nat) (hs : Sl ok w a bs) (hl : bs.length = 256 * p) (hp : 1 ≤ p ∧ p ≤ 2048) : Calls Try.prog 22 #[.slice a bs.length c] w fun e w' => ∃ C g, e = .returned (.tuple #[.pointer (some ⟨g, 0, none⟩), .int .i64 0]) ∧
    Dv C w' g p 0 (fresh bs) ∧ Below w.heap.size w w' ∧ ∀ b, C b ≠ 0 → w.heap.size ≤ b := by
  refine (load_good w ok a c p bs hs hl hp).mono ?_
  rintro e w' ⟨C, g, L, c, M, rfl, hd, hb, hc⟩
  exact ⟨C, g, rfl, ⟨_, _, _, _, _, hd⟩, hb, hc⟩
end Go.Proofs.Ytebacgkeolofmaa
namespace Go.Proofs.Ytebacgkeolofmaa
open Go.RowKit Go.Inc

/-- A page filled up, in new memory. -/
theorem full_sl (ok : Nat → Prop) (a : Option Addr) (c : Nat) (bs : List Nat) (w : World) (hs : Sl ok w a bs) (hl : bs.length ≤ 9223372036854775807) :
    Calls Try.prog 18 #[.slice a bs.length c] w fun e w' => ∃ G, e = .returned (.slice (some ⟨G, 0, none⟩) 256 256) ∧ Sl (fun b => w.heap.size ≤ b) w' (some ⟨G, 0, none⟩) (fill bs) ∧ Below w.heap.size w w' := by
  refine (full_any ok a c bs w hs hl).mono ?_
  rintro e w' ⟨rfl, ho, hb⟩
  have hr : Row 5 w.heap.size w' (.slice (some ⟨w.heap.size, 0, none⟩) 256 256) (fill bs) := by unfold Row; rw [fill_len]; exact ho
  obtain ⟨a', c', he, _, _, _, hsl⟩ := hr.sl
  simp only [Value.slice.injEq] at he
  rw [← he.1] at hsl
  exact ⟨_, rfl, hsl, hb⟩
end Go.Proofs.Ytebacgkeolofmaa
namespace Go.Proofs.Ytebacgkeolofmaa
open Go.RowKit Go.Inc

/-- What is laid of a page behind a crash that keeps N versions of it, and a part of the next one. -/
def keptPg (q : List Nat) (vs : List (List Nat)) (N part : Int) : List Nat :=
  let k := keptN vs.length N
  let q1 := if 0 < k then vs.getD (k - 1) [] else q
  if k < vs.length then (vs.getD k []).take (max 0 (min part 256)).toNat ++ q1.drop (max 0 (min part 256)).toNat else q1
theorem keptPg_nil (q : List Nat) (N part : Int) : keptPg q [] N part = q := by
  unfold keptPg
  simp [keptN_zero]
theorem splice_len {L cs : List Nat} {o : Nat} (h : o + cs.length ≤ L.length) : (splice L o cs).length = L.length := length_splice L o cs h
theorem mem_getD {vs : List (List Nat)} {i : Nat} (h : i < vs.length) : vs.getD i [] ∈ vs := by
  rw [List.getD_eq_getElem?_getD, List.getElem?_eq_getElem h]
  exact List.getElem_mem h
theorem keptB_len {B : List Nat} {p x : Nat} {vs : List (List Nat)} {N part : Int} (hB : B.length = 256 * p) (hx : vs ≠ [] → x < p) (hv : ∀ b ∈ vs, b.length = 256) : (keptB B x vs N part).length = 256 * p := by
  by_cases h0 : vs = []
  · subst h0; rw [keptB_nil]; exact hB
  · have hxp := hx h0
    have hle := keptN_le vs.length N
    have hpos := List.length_pos_iff.2 h0
    unfold keptB
    simp only
    have h1 : (if 0 < keptN vs.length N then splice B (256 * x) (vs.getD (keptN vs.length N - 1) []) else B).length = 256 * p := by
      split
      · have := hv _ (mem_getD (vs := vs) (i := keptN vs.length N - 1) (by omega))
        rw [splice_len (by omega)]; exact hB
      · exact hB
    split
    · have := hv _ (mem_getD (vs := vs) (i := keptN vs.length N) (by omega))
      rw [splice_len (by rw [List.length_take]; omega)]; exact h1
    · exact h1
theorem pg_keptB {B : List Nat} {p x k : Nat} {vs : List (List Nat)} {N part : Int} (hB : B.length = 256 * p) (hx : vs ≠ [] → x < p) (hv : ∀ b ∈ vs, b.length = 256) :
    pg (keptB B x vs N part) k = if k = x then keptPg (pg B x) vs N part else pg B k := by
  by_cases h0 : vs = []
  · subst h0
    rw [keptB_nil, keptPg_nil]
    split
    · rename_i h; rw [h]
    · rfl
  · have hxp := hx h0
    have hle := keptN_le vs.length N
    have hpos := List.length_pos_iff.2 h0
    unfold keptB keptPg
    simp only
    generalize hk : keptN vs.length N = m at *
    have hq : ∀ i, i < vs.length → (vs.getD i []).length = 256 := fun i hi => hv _ (mem_getD hi)
    generalize hpt : (max 0 (min part 256)).toNat = pt
    have hpt2 : pt ≤ 256 := by omega
    have hB1 : (if 0 < m then splice B (256 * x) (vs.getD (m - 1) []) else B).length = 256 * p ∧ ∀ j, pg (if 0 < m then splice B (256 * x) (vs.getD (m - 1) []) else B) j = if j = x then (if 0 < m then vs.getD (m - 1) [] else pg B x) else pg B j := by
      split
      · have := hq (m - 1) (by omega)
        refine ⟨by rw [splice_len (by omega)]; exact hB, fun j => ?_⟩
        split
        · rename_i hj; rw [hj, pg_splice_whole (by omega) this]
        · rename_i hj; rw [pg_splice_other (by omega) (by omega) hj]
      · refine ⟨hB, fun j => ?_⟩
        split
        · rename_i hj; rw [hj]
        · rfl
    obtain ⟨hl, hj⟩ := hB1
    by_cases hm : m < vs.length
    · rw [if_pos hm, if_pos hm]
      have h256 := hq m hm
      have htl : ((vs.getD m []).take pt).length = pt := by rw [List.length_take]; omega
      by_cases hkx : k = x
      · rw [if_pos hkx, hkx, pg_splice_same (by omega) (by omega), htl, hj x, if_pos rfl]
      · rw [if_neg hkx, pg_splice_other (by omega) (by omega) hkx, hj k, if_neg hkx]
    · rw [if_neg hm, if_neg hm, hj k]

/-- What a crash's state must be. -/
structure Sound (p : Nat) (s : (Int → List (List Nat)) × List Nat × Nat) : Prop where
  len : s.2.1.length = 256 * p
  dom : ∀ x, s.1 x ≠ [] → 0 ≤ x ∧ x < (p : Int)
  wl : ∀ x b, b ∈ s.1 x → b.length = 256
theorem Sound.step {p : Nat} {s : (Int → List (List Nat)) × List Nat × Nat} (h : Sound p s) (q : Kp) : Sound p (crash1 s q) := by
  refine ⟨keptB_len h.len (fun hne => by have := h.dom _ hne; omega) (h.wl _), fun x hx => ?_, fun x b hb => ?_⟩
  · unfold crash1 at hx
    simp only at hx
    split at hx
    · exact absurd rfl hx
    · exact h.dom x hx
  · unfold crash1 at hb
    simp only at hb
    split at hb
    · cases hb
    · exact h.wl x b hb
/-- The first keep of a page. -/
def first (ks : List Kp) (k : Nat) : Option Kp := ks.find? fun q => q.page = (k : Int)
def pgOf (s : (Int → List (List Nat)) × List Nat × Nat) (ks : List Kp) (k : Nat) : List Nat := match first ks k with
  | some q => keptPg (pg s.2.1 k) (s.1 k) q.N q.part
  | none => pg s.2.1 k
def cntOf (s : (Int → List (List Nat)) × List Nat × Nat) (ks : List Kp) (k : Nat) : Nat := match first ks k with
  | some q => keptN (s.1 k).length q.N
  | none => 0
theorem crash_pages {p : Nat} : ∀ (ks : List Kp) (s : (Int → List (List Nat)) × List Nat × Nat), Sound p s →
    (ks.foldl crash1 s).2.1.length = 256 * p ∧ (∀ k, k < p → pg (ks.foldl crash1 s).2.1 k = pgOf s ks k) ∧ (ks.foldl crash1 s).2.2 = s.2.2 + tot (cntOf s ks) p
  | [], s, h => ⟨h.len, fun k _ => rfl, by
      show s.2.2 = s.2.2 + tot (cntOf s []) p
      rw [tot_zero (F := cntOf s []) fun i _ => rfl]; rfl⟩
  | q :: r, s, h => by
    obtain ⟨h1, h2, h3⟩ := crash_pages r (crash1 s q) (h.step q)
    refine ⟨h1, fun k hk => ?_, ?_⟩
    · show pg (r.foldl crash1 (crash1 s q)).2.1 k = _
      rw [h2 k hk]
      unfold pgOf first
      rw [List.find?_cons]
      by_cases hq : q.page = (k : Int)
      · have hW : (crash1 s q).1 k = [] := by unfold crash1; simp [hq]
        have hP : pg (crash1 s q).2.1 k = keptPg (pg s.2.1 k) (s.1 k) q.N q.part := by
          unfold crash1
          simp only [hq]
          rw [pg_keptB h.len (fun hne => by have := h.dom _ hne; omega) (h.wl _)]
          simp
        simp only [hq, decide_true, hW, keptPg_nil, hP]
        split <;> rfl
      · have hW : (crash1 s q).1 k = s.1 k := by
          unfold crash1
          simp only
          rw [if_neg (fun e => hq e.symm)]
        have hP : pg (crash1 s q).2.1 k = pg s.2.1 k := by
          unfold crash1
          simp only
          rw [pg_keptB h.len (fun hne => by have := h.dom _ hne; omega) (h.wl _)]
          by_cases hkx : k = q.page.toNat
          · have hn : s.1 q.page = [] := by
              rcases Decidable.em (s.1 q.page = []) with h0 | h0
              · exact h0
              · have := h.dom _ h0; omega
            rw [if_pos hkx, hn, keptPg_nil, hkx]
          · rw [if_neg hkx]
        simp only [hq, decide_false, hW, hP]
    · show (r.foldl crash1 (crash1 s q)).2.2 = _
      rw [h3]
      have e1 : (crash1 s q).2.2 = s.2.2 + keptN (s.1 q.page).length q.N := rfl
      rw [e1]
      by_cases hin : 0 ≤ q.page ∧ q.page < (p : Int)
      · obtain ⟨i, hi⟩ := Int.eq_ofNat_of_zero_le hin.1
        have hip : i < p := by omega
        have h0 : cntOf (crash1 s q) r i = 0 := by
          unfold cntOf
          have hW : (crash1 s q).1 i = [] := by unfold crash1; simp [hi]
          rw [hW]
          split
          · exact keptN_zero _
          · rfl
        rw [tot_point (F := cntOf (crash1 s q) r) (G := cntOf s (q :: r)) hip (fun j hj => ?_) h0]
        · have e2 : cntOf s (q :: r) i = keptN (s.1 q.page).length q.N := by
            unfold cntOf first
            rw [List.find?_cons]
            simp [hi]
          rw [e2]; omega
        · unfold cntOf first
          rw [List.find?_cons]
          have hq : ¬ q.page = (j : Int) := by omega
          have hW : (crash1 s q).1 j = s.1 j := by unfold crash1; simp only; rw [if_neg (fun e => hq e.symm)]
          simp only [hq, decide_false, hW]
      · have hn : s.1 q.page = [] := by
          rcases Decidable.em (s.1 q.page = []) with h0 | h0
          · exact h0
          · exact absurd (h.dom _ h0) hin
        rw [hn]
        have e2 : tot (cntOf (crash1 s q) r) p = tot (cntOf s (q :: r)) p := tot_congr fun j hj => by
          unfold cntOf first
          rw [List.find?_cons]
          have hq : ¬ q.page = (j : Int) := by omega
          have hW : (crash1 s q).1 j = s.1 j := by unfold crash1; simp only; rw [if_neg (fun e => hq e.symm)]
          simp only [hq, decide_false, hW]
        rw [e2, show ([] : List (List Nat)).length = 0 from rfl, keptN_zero]
        omega
theorem Dv.sound {C w g p n S} (h : Dv C w g p n S) : Sound p (S.W, S.B, 0) := ⟨h.len, fun _ hx => h.dom hx, fun _ _ hb => h.wl hb⟩
theorem crash_pg {C w g p n S} (h : Dv C w g p n S) (ks : List Kp) {k : Nat} (hk : k < p) : pg (crashAll S ks).2.1 k = pgOf (S.W, S.B, 0) ks k := (crash_pages ks _ h.sound).2.1 k hk
theorem crash_cnt {C w g p n S} (h : Dv C w g p n S) (ks : List Kp) : (crashAll S ks).2.2 = tot (cntOf (S.W, S.B, 0) ks) p := by
  have := (crash_pages ks _ h.sound).2.2
  rw [Nat.zero_add] at this
  exact this
theorem crash_dry {C w g p n S} (h : Dv C w g p n S) (ks : List Kp) {k : Nat} (hk : k < p) (hW : S.W k = []) : pg (crashAll S ks).2.1 k = pg S.B k := by
  rw [crash_pg h ks hk]
  unfold pgOf
  split
  · show keptPg (pg S.B k) (S.W k) _ _ = _
    rw [hW, keptPg_nil]
  · rfl
end Go.Proofs.Ytebacgkeolofmaa
