/- CONTRACT: a number's page is opened (the document's). -/
import Derived.Test.YtmdimhijbmeioaaFrJ
import Derived.Test.YtmdimhijbmeioaaFrK
import Derived.Deep.QuietTactic
import Derived.BigQuiet
namespace Go.Proofs.Ytmdimhijbmeioaa
open Go.RowKit Go.Inc

theorem refDec_any (ok : Nat → Prop) (a : Option Addr) (c : Nat) (bs : List Nat) (w : World) (hs : Sl ok w a bs) (hby : Bytes bs) (hc : bs.length ≤ c ∧ c ≤ maxLen) :
    Calls Try.prog 20 #[.slice a bs.length c] w fun r w' => DecOk ok bs r w' ∧ Below w.heap.size w w' := by
  by_cases hl : bs.length = 256
  · rcases hs with h | ⟨b, o, rfl, hk, hcell⟩
    · rw [h] at hl; cases hl
    · have h := refDec_256 ok b o c bs w (.inr ⟨b, o, rfl, hk, hcell⟩) hby hl (by omega)
      rw [hl]
      exact h
  · exact refDec_len ok a c bs w (by omega)
theorem res22 (w : World) (g : Nat) (cs : Array Value) (tmps : Array Value) (h2 : tmps.getD 6 undef = .pointer (some ⟨g, 0, none⟩)) (hg : w.heap[g]? = some (.cells cs 24 (0, 0))) (hs : cs.size = 4) :
    (results Try.f22 tmps).run Try.prog w = .ok (.tuple #[.agg cs, tmps.getD 7 undef]) w :=
  res_cell_tmp rfl tmps w g 24 cs (0, 0) _ h2 hg Try.underlying24 rfl (by rw [hs]; kernel_rfl)
/-- Is one of the first j kinds this one (or is none told)? -/
def opnD (kinds : List Int) (k : Int) (j : Nat) : Bool := decide (kinds = [] ∨ k ∈ kinds.take j)

set_option maxRecDepth 20000 in
set_option maxHeartbeats 2000000 in
theorem refOpen_any (ok ok2 : Nat → Prop) (a : Option Addr) (c : Nat) (bs : List Nat) (page : Int) (a2 : Option Addr) (c2 : Nat) (kinds : List Int) (w : World) (hs : Sl ok w a bs) (hby : Bytes bs) (hc : bs.length ≤ c ∧ c ≤ maxLen) (hk : Si ok2 w a2 kinds) (hkl : (kinds.length : Int) ≤ 9223372036854775807) :
    Calls Try.prog 22 #[.slice a bs.length c, .int .i64 page, .slice a2 kinds.length c2] w fun r w' => OpnOk ok bs page kinds r w' ∧ Below w.heap.size w w' := by
  obtain ⟨wb, hwb⟩ : ∃ wb, wb = w.alloc (.cells #[.int .i64 0, .int .i64 0, .int .i64 0, .slice none 0 0] 24) := ⟨_, rfl⟩
  have hb : Below w.heap.size w wb := by rw [hwb]; exact (Below.refl _ _).alloc (Nat.le_refl _) _
  have hr : wb.heap[w.heap.size]? = some (.cells #[.int .i64 0, .int .i64 0, .int .i64 0, .slice none 0 0] 24 (0, 0)) := by rw [hwb]; exact heap_alloc_new w _
  have HD := hid (refDec_any (fun b => ok b ∧ b < w.heap.size) a c bs wb ((hs.mono fun b h1 h2 => ⟨h1, h2⟩).below hb) hby hc)
  have HK := hid (hk.mono (ok' := fun b => b < w.heap.size) fun b _ h => h)
  have HWB := hid hwb
  have HB := hid hb
  have HR := hid hr
  have HE : Hid (opnE bs page kinds = if decE bs ≠ 0 then decE bs else if (decF bs).p ≠ page then 5 else if kinds ≠ [] ∧ ¬ (decF bs).k ∈ kinds then 13 else 0) := hid rfl
  clear hs hby hc hk hb hr hwb
  go_enter Try.func22, Try.ntmps22
  go_wp2_with fail
  rw [← HWB.out]
  refine HD.out.mono ?_
  rintro r w1 ⟨⟨v, rfl, hv⟩, hb1⟩
  obtain ⟨a3, c3, rfl, hs3, hlc3, hm3, hn3⟩ := hv
  obtain ⟨w3, hw3⟩ : ∃ w3, w3 = w1.alloc (.cells #[.int .i64 (decF bs).k, .int .i64 (decF bs).e, .int .i64 (decF bs).p, .slice a3 (decF bs).b.length c3] 24) := ⟨_, rfl⟩
  have hb3 : Below w1.heap.size w1 w3 := by rw [hw3]; exact (Below.refl _ _).alloc (Nat.le_refl _) _
  have hr3 : w3.heap[w1.heap.size]? = some (.cells #[.int .i64 (decF bs).k, .int .i64 (decF bs).e, .int .i64 (decF bs).p, .slice a3 (decF bs).b.length c3] 24 (0, 0)) := by rw [hw3]; exact heap_alloc_new w1 _
  have HB3 : Hid (Below w.heap.size w w3) := hid ((HB.out.trans (hb1.mono HB.out.size)).trans (hb3.mono (HB.out.trans (hb1.mono HB.out.size)).size))
  have HR3 : Hid (w3.heap[w.heap.size]? = _) := hid (row_below (row_below HR.out hb1) hb3)
  have HV3 : Hid (Bb (fun b => ok b ∧ b < w.heap.size) w3 (.slice a3 (decF bs).b.length c3) (decF bs).b) := hid ⟨a3, c3, rfl, hs3.below hb3, hlc3, hm3, hn3⟩
  have HG3 : Hid (w3.heap[w1.heap.size]? = _) := hid hr3
  have HK3 := hid ((HK.out.below (HB.out.trans (hb1.mono HB.out.size))).below hb3) 
  have q0 := cell_of_row w3 _ 0 _ _ _ hr3
  have q1 := cell_of_row w3 _ 1 _ _ _ hr3
  have q2 := cell_of_row w3 _ 2 _ _ _ hr3
  have q3 := cell_of_row w3 _ 3 _ _ _ hr3
  have HW3 := hid hw3
  have HGOOD : Hid (opnE bs page kinds = 0 → ∀ x, Below w3.heap.size w3 x → ∀ y, x.grownBy y (some w.heap.size) → OpnOk ok bs page kinds (.returned (.tuple #[.agg #[.int .i64 (decF bs).k, .int .i64 (decF bs).e, .int .i64 (decF bs).p, .slice a3 (decF bs).b.length c3], .int .i64 0])) y) := hid fun h x hx y hy => by
    refine OpnOk.good h ?_
    obtain ⟨a1, c1, he, hs1, hr1⟩ := HV3.out
    exact ⟨a1, c1, he, ((hs1.below hx).grown hy (fun b hb => by omega)).mono fun b hb _ => hb.1, hr1⟩
  clear hs3 hlc3 hm3 hn3 hb1 hb3 hw3 hr3 HD HB HR HV3 HK
  by_cases hd : decE bs = 0
  · have HE : Hid (opnE bs page kinds = if (decF bs).p ≠ page then 5 else if kinds ≠ [] ∧ ¬ (decF bs).k ∈ kinds then 13 else 0) := hid (by rw [HE.out, if_neg (by simp [hd])])
    rw [hd]
    clear hd
    by_cases hp : (decF bs).p = page
    · have hp1 : ((decF bs).p != page) = false := by rw [bne_eq_false_iff_eq]; exact hp
      have HE : Hid (opnE bs page kinds = if kinds ≠ [] ∧ ¬ (decF bs).k ∈ kinds then 13 else 0) := hid (by rw [HE.out, if_neg (by simp [hp])])
      clear hp
      have hD0 : opnD kinds (decF bs).k 0 = ((kinds.length : Int) == 0) := by
        unfold opnD
        cases kinds with
        | nil => rfl
        | cons x xs =>
          have h1 : (((x :: xs).length : Int) == 0) = false := by rw [beq_eq_false_iff_ne, List.length_cons]; omega
          rw [h1]
          exact decide_eq_false (by rintro (h | h); · cases h
                                    · rw [List.take_zero] at h; cases h)
      have HDN : Hid (opnE bs page kinds = if opnD kinds (decF bs).k kinds.length = false then 13 else 0) := hid (by
        rw [HE.out]
        unfold opnD
        rw [List.take_length]
        by_cases h1 : kinds = [] <;> by_cases h2 : (decF bs).k ∈ kinds <;> simp [h1, h2])
      have HD0 := hid hD0
      have HCLL : Hid (∀ x, Below w3.heap.size w3 x → ∀ j, j < kinds.length → ∃ b off, a2 = some ⟨b, off, none⟩ ∧ x.cell? ⟨b, off + j, none⟩ = some (.int .i64 (kinds.getD j 0))) := hid fun x hx j hj => by
        rcases HK3.out.below hx with h | ⟨b, off, h, _, hc⟩
        · rw [h] at hj; simp at hj
        · exact ⟨b, off, h, hc j hj⟩
      have HNX : Hid (∀ j, j < kinds.length → opnD kinds (decF bs).k (j + 1) = (opnD kinds (decF bs).k j || (kinds.getD j 0 == (decF bs).k))) := hid fun j hj => by
        have hsn : kinds.take (j + 1) = kinds.take j ++ [kinds.getD j 0] := by
          rw [List.take_succ_eq_append_getElem hj, List.getD_eq_getElem?_getD, List.getElem?_eq_getElem hj]; rfl
        unfold opnD
        rw [hsn]
        rw [Bool.eq_iff_iff]
        simp only [decide_eq_true_iff, Bool.or_eq_true, beq_iff_eq, List.mem_append, List.mem_singleton]
        constructor
        · rintro (h | h | h)
          · exact .inl (.inl h)
          · exact .inl (.inr h)
          · exact .inr h.symm
        · rintro ((h | h) | h)
          · exact .inl h
          · exact .inr (.inl h)
          · exact .inr (.inr h.symm)
      have HB3R := hid (Below.refl w3.heap.size w3)
      clear hD0 HE HK3
      obtain ⟨n, hn⟩ : ∃ n, n = kinds.length := ⟨_, rfl⟩
      have HN := hid hn
      rw [← hn] at hkl HDN HD0 HCLL HNX ⊢
      clear hn
      go_wp2_with fail
      rw [← HW3.out]
      clear q0 q1 q2 q3
      go_loopw [10, 11] (fun okv i wr => ∃ j : Nat, j ≤ n ∧ i = .int .i64 (j : Int) ∧ okv = .bool (opnD kinds (decF bs).k j) ∧ Below w3.heap.size w3 wr) (fun _ i _ => n - (intOf i).toNat)
      case atStart => exact ⟨0, Nat.zero_le _, rfl, by rw [HD0.out], HB3R.out⟩
      case round =>
        obtain ⟨j, hj, rfl, rfl, hbw⟩ := hrel
        have hrg : wr.heap[w1.heap.size]? = _ := row_below HG3.out hbw
        have q0 := cell_of_row wr _ 0 _ _ _ hrg
        have HRG := hid hrg
        clear hrg
        by_cases hlt : (j : Int) < n
        · obtain ⟨b, off, hba, hcell⟩ := HCLL.out wr hbw j (by omega)
          have HNXj := HNX.out j (by omega)
          obtain ⟨z, hz⟩ : ∃ z, z = kinds.getD j 0 := ⟨_, rfl⟩
          rw [← hz] at hcell HNXj
          clear hz
          subst hba
          cases hD : opnD kinds (decF bs).k j
          · rw [hD, Bool.false_or] at HNXj
            have HNJ := hid HNXj
            clear HNXj hD
            go_wp2_with fail
            go_quiet (fail)
            have hbq : Below w3.heap.size w3 (wr.drewN nq) := ⟨hbw.os, hbw.tape, hbw.output, hbw.size, hbw.block⟩
            have HBQ := hid hbq
            clear hbq hbw q0 hcell HRG
            generalize wr.drewN nq = wq at *
            go_wp2_with fail
            go_roundw
            case rel => exact ⟨j + 1, by omega, by go_num, by rw [HNJ.out], HBQ.out⟩
            case measure => simp [intOf]; omega
          · rw [hD, Bool.true_or] at HNXj
            have HNJ := hid HNXj
            clear HNXj hD
            go_wp2_with fail
            go_quiet (fail)
            have hbq : Below w3.heap.size w3 (wr.drewN nq) := ⟨hbw.os, hbw.tape, hbw.output, hbw.size, hbw.block⟩
            have HBQ := hid hbq
            clear hbq hbw q0 hcell HRG
            generalize wr.drewN nq = wq at *
            go_wp2_with fail
            go_roundw
            case rel => exact ⟨j + 1, by omega, by go_num, by rw [HNJ.out], HBQ.out⟩
            case measure => simp [intOf]; omega
        · have hjn : j = n := by omega
          subst hjn
          have HBW := hid hbw
          have HBWW : Hid (Below w.heap.size w wr) := hid (HB3.out.trans (hbw.mono HB3.out.size))
          have HRW : Hid (wr.heap[w.heap.size]? = _) := hid (row_below HR3.out hbw)
          have q1 := cell_of_row wr _ 1 _ _ _ HRG.out
          have q2 := cell_of_row wr _ 2 _ _ _ HRG.out
          have q3 := cell_of_row wr _ 3 _ _ _ HRG.out
          clear hbw hlt
          cases hD : opnD kinds (decF bs).k j
          · have HE0 : Hid (opnE bs page kinds = 13) := hid (by rw [HDN.out, if_pos hD])
            clear hD
            go_upto_region 12 with fail
            refine wp_region_lit ?_
            refine wpList_plain rfl fun K hK => ?_
            go_simp
            refine hK _ _ ?_
            refine wpList_store_own rfl 24 _ _ rfl w.heap.size zc rfl rfl 24 _ HRW.out (by kernel_rfl) rfl (by simp [Value.oneCell', zc]) ?_
            intro w9 hr9 hg9
            have HR9 := hid hr9
            have HB9 : Hid (Below w.heap.size w w9) := hid (below_grown HBWW.out hg9 (Nat.le_refl _) HBWW.out.size)
            clear hr9 hg9
            go_wp2_with fail
            refine bodyPost_ret (v := .tuple #[.agg zc, .int .i64 13]) (res22 _ _ _ _ rfl HR9.out rfl) rfl ⟨?_, HB9.out⟩
            exact OpnOk.bad HE0.out (by decide)
          · have HE0 : Hid (opnE bs page kinds = 0) := hid (by rw [HDN.out, if_neg (by rw [hD]; simp)])
            have HGOOD := hid (HGOOD.out HE0.out wr HBW.out)
            clear hD
            go_upto_region 13 with fail
            refine wp_region_lit ?_
            refine wpList_plain rfl fun K hK => ?_
            go_simp
            refine hK _ _ ?_
            refine wpList_store_own rfl 24 _ _ rfl w.heap.size #[.int .i64 (decF bs).k, .int .i64 (decF bs).e, .int .i64 (decF bs).p, .slice a3 (decF bs).b.length c3] rfl rfl 24 _ HRW.out (by kernel_rfl) rfl (by simp [Value.oneCell']) ?_
            intro w9 hr9 hg9
            have HR9 := hid hr9
            have HB9 : Hid (Below w.heap.size w w9) := hid (below_grown HBWW.out hg9 (Nat.le_refl _) HBWW.out.size)
            have HO9 := hid (HGOOD.out w9 hg9)
            clear hr9 hg9
            go_wp2_with fail
            refine bodyPost_ret (v := .tuple #[.agg #[.int .i64 (decF bs).k, .int .i64 (decF bs).e, .int .i64 (decF bs).p, .slice a3 (decF bs).b.length c3], .int .i64 0]) (res22 _ _ _ _ rfl HR9.out rfl) rfl ⟨HO9.out, HB9.out⟩
    · have hp1 : ((decF bs).p != page) = true := by rw [bne_iff_ne]; exact hp
      have HE0 : Hid (opnE bs page kinds = 5) := hid (by rw [HE.out, if_pos hp])
      clear hp HE HGOOD HK3
      go_upto_region 5 with fail
      rw [← HW3.out]
      refine wp_region_lit ?_
      refine wpList_plain rfl fun K hK => ?_
      go_simp
      refine hK _ _ ?_
      refine wpList_store_own rfl 24 _ _ rfl w.heap.size zc rfl rfl 24 _ HR3.out (by kernel_rfl) rfl (by simp [Value.oneCell', zc]) ?_
      intro w9 hr9 hg9
      have HR9 := hid hr9
      have HB9 : Hid (Below w.heap.size w w9) := hid (below_grown HB3.out hg9 (Nat.le_refl _) HB3.out.size)
      clear hr9 hg9
      go_wp2_with fail
      refine bodyPost_ret (v := .tuple #[.agg zc, .int .i64 5]) (res22 _ _ _ _ rfl HR9.out rfl) rfl ⟨?_, HB9.out⟩
      exact OpnOk.bad HE0.out (by decide)
  · have HE0 : Hid (opnE bs page kinds = decE bs) := hid (by rw [HE.out, if_pos hd])
    have hd1 : (((decE bs : Nat) : Int) != 0) = true := by rw [bne_iff_ne]; omega
    have HNE := hid hd
    clear HE HGOOD HK3 hd
    generalize decE bs = q at *
    go_upto_region 3 with fail
    rw [← HW3.out]
    refine wp_region_lit ?_
    refine wpList_plain rfl fun K hK => ?_
    go_simp
    refine hK _ _ ?_
    refine wpList_plain rfl fun K hK => ?_
    go_simp
    refine hK _ _ ?_
    refine wpList_store_own rfl 24 _ _ rfl w.heap.size zc rfl rfl 24 _ HR3.out (by kernel_rfl) rfl (by simp [Value.oneCell', zc]) ?_
    intro w9 hr9 hg9
    have HR9 := hid hr9
    have HB9 : Hid (Below w.heap.size w w9) := hid (below_grown HB3.out hg9 (Nat.le_refl _) HB3.out.size)
    clear hr9 hg9
    go_wp2_with fail
    refine bodyPost_ret (v := .tuple #[.agg zc, .int .i64 (q : Nat)]) (res22 _ _ _ _ rfl HR9.out rfl) rfl ⟨?_, HB9.out⟩
    exact OpnOk.bad HE0.out HNE.out
end Go.Proofs.Ytmdimhijbmeioaa
