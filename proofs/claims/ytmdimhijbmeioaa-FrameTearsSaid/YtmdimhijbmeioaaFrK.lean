/- CONTRACTS: a number's page is opened (the program's). -/
import Derived.Test.YtmdimhijbmeioaaFrG
import Derived.Test.YtmdimhijbmeioaaFrA
import Derived.Deep.CutBlock
namespace Go.Proofs.Ytmdimhijbmeioaa
open Go.RowKit Go.Inc

/-- What is wrong with a page, of some kinds. -/
def opnE (bs : List Nat) (page : Int) (kinds : List Int) : Nat := if decE bs ≠ 0 then decE bs else if (decF bs).p ≠ page then 5 else if kinds ≠ [] ∧ ¬ (decF bs).k ∈ kinds then 13 else 0
def opnF (bs : List Nat) (page : Int) (kinds : List Int) : Fr := if opnE bs page kinds = 0 then decF bs else zeroFr
def OpnOk (ok : Nat → Prop) (bs : List Nat) (page : Int) (kinds : List Int) (r : Ending) (w' : World) : Prop :=
  ∃ v, r = .returned (.tuple #[.agg #[.int .i64 (opnF bs page kinds).k, .int .i64 (opnF bs page kinds).e, .int .i64 (opnF bs page kinds).p, v], .int .i64 (opnE bs page kinds : Nat)]) ∧ Bb ok w' v (opnF bs page kinds).b
abbrev OpnAns (bs : List Nat) (page : Int) (kinds : List Int) (B : Nat) (r : Ending) (w' : World) : Prop := OpnOk (fun b => B ≤ b) bs page kinds r w'
theorem OpnOk.bad {ok : Nat → Prop} {bs : List Nat} {page : Int} {kinds : List Int} {e : Nat} {w' : World} (h : opnE bs page kinds = e) (h0 : e ≠ 0) : OpnOk ok bs page kinds (.returned (.tuple #[.agg #[.int .i64 0, .int .i64 0, .int .i64 0, .slice none 0 0], .int .i64 (e : Int)])) w' := by
  unfold OpnOk opnF
  rw [h, if_neg h0]
  exact ⟨_, rfl, none, 0, rfl, Sl.nil _ _ _, Nat.le_refl _, Nat.zero_le _, fun _ => rfl⟩
theorem OpnOk.good {ok : Nat → Prop} {bs : List Nat} {page : Int} {kinds : List Int} {w' : World} {v : Value} (h : opnE bs page kinds = 0) (hv : Bb ok w' v (decF bs).b) :
    OpnOk ok bs page kinds (.returned (.tuple #[.agg #[.int .i64 (decF bs).k, .int .i64 (decF bs).e, .int .i64 (decF bs).p, v], .int .i64 0])) w' := by
  unfold OpnOk opnF
  rw [h, if_pos rfl]
  exact ⟨v, rfl, hv⟩
theorem decE_cases (bs : List Nat) : decE bs = 0 ∨ decE bs = 2 ∨ decE bs = 3 ∨ decE bs = 5 := by
  unfold decE
  split
  · exact .inr (.inl rfl)
  · split
    · exact .inr (.inr (.inr rfl))
    · split
      · exact .inl rfl
      · exact .inr (.inr (.inl rfl))
/-- Decode, wherever the bytes lie. -/
theorem decode_any (ok : Nat → Prop) (a : Option Addr) (c : Nat) (bs : List Nat) (w : World) (hs : Sl ok w a bs) (hby : Bytes bs) (hc : bs.length ≤ c ∧ c ≤ maxLen) :
    Calls Try.prog 15 #[.slice a bs.length c] w fun r w' => DecAns bs w.heap.size r w' ∧ Below w.heap.size w w' := by
  by_cases hl : bs.length = 256
  · rcases hs with h | ⟨b, o, rfl, _, hcell⟩
    · rw [h] at hl; cases hl
    · have h := decode_sum b o c bs w (.inr ⟨b, o, rfl, trivial, hcell⟩) hby hl (by omega)
      rw [hl]
      exact h
  · exact decode_len a c bs w (by omega)
theorem res21 (w : World) (g : Nat) (cs : Array Value) (tmps : Array Value) (h2 : tmps.getD 6 undef = .pointer (some ⟨g, 0, none⟩)) (hg : w.heap[g]? = some (.cells cs 25 (0, 0))) (hs : cs.size = 4) :
    (results Try.f21 tmps).run Try.prog w = .ok (.tuple #[.agg cs, tmps.getD 7 undef]) w :=
  res_cell_tmp rfl tmps w g 25 cs (0, 0) _ h2 hg Try.underlying25 rfl (by rw [hs]; kernel_rfl)

set_option maxRecDepth 20000 in
set_option maxHeartbeats 2000000 in
theorem open_any (ok ok2 : Nat → Prop) (a : Option Addr) (c : Nat) (bs : List Nat) (page : Int) (a2 : Option Addr) (c2 : Nat) (kinds : List Int) (w : World) (hs : Sl ok w a bs) (hby : Bytes bs) (hc : bs.length ≤ c ∧ c ≤ maxLen) (hk : Si ok2 w a2 kinds) (hkl : (kinds.length : Int) ≤ 9223372036854775807) :
    Calls Try.prog 21 #[.slice a bs.length c, .int .i64 page, .slice a2 kinds.length c2] w fun r w' => OpnAns bs page kinds w.heap.size r w' ∧ Below w.heap.size w w' := by
  obtain ⟨wb, hwb⟩ : ∃ wb, wb = w.alloc (.cells #[.int .i64 0, .int .i64 0, .int .i64 0, .slice none 0 0] 25) := ⟨_, rfl⟩
  have hb : Below w.heap.size w wb := by rw [hwb]; exact (Below.refl _ _).alloc (Nat.le_refl _) _
  have hr : wb.heap[w.heap.size]? = some (.cells #[.int .i64 0, .int .i64 0, .int .i64 0, .slice none 0 0] 25 (0, 0)) := by rw [hwb]; exact heap_alloc_new w _
  have HD := hid (decode_any ok a c bs wb (hs.below hb) hby hc)
  have HK := hid (hk.below hb)
  have HWB := hid hwb
  have HB := hid hb
  have HR := hid hr
  have HE : Hid (opnE bs page kinds = if decE bs ≠ 0 then decE bs else if (decF bs).p ≠ page then 5 else if kinds ≠ [] ∧ ¬ (decF bs).k ∈ kinds then 13 else 0) := hid rfl
  have HDE : Hid (decE bs = 0 ∨ decE bs = 2 ∨ decE bs = 3 ∨ decE bs = 5) := hid (decE_cases bs)
  clear hs hby hc hk hb hr hwb
  go_enter Try.func21, Try.ntmps21
  go_wp2_with fail
  rw [← HWB.out]
  refine HD.out.mono ?_
  rintro r w1 ⟨⟨v, rfl, hv⟩, hb1⟩
  obtain ⟨a3, c3, rfl, hs3, hlc3, hm3, hn3⟩ := hv
  obtain ⟨w3, hw3⟩ : ∃ w3, w3 = w1.alloc (.cells #[.int .i64 (decF bs).k, .int .i64 (decF bs).e, .int .i64 (decF bs).p, .slice a3 (decF bs).b.length c3] 25) := ⟨_, rfl⟩
  have hb3 : Below w1.heap.size w1 w3 := by rw [hw3]; exact (Below.refl _ _).alloc (Nat.le_refl _) _
  have hr3 : w3.heap[w1.heap.size]? = some (.cells #[.int .i64 (decF bs).k, .int .i64 (decF bs).e, .int .i64 (decF bs).p, .slice a3 (decF bs).b.length c3] 25 (0, 0)) := by rw [hw3]; exact heap_alloc_new w1 _
  have HB3 : Hid (Below w.heap.size w w3) := hid ((HB.out.trans (hb1.mono HB.out.size)).trans (hb3.mono (HB.out.trans (hb1.mono HB.out.size)).size))
  have HR3 : Hid (w3.heap[w.heap.size]? = _) := hid (row_below (row_below HR.out hb1) hb3)
  have HV3 : Hid (Bb (fun b => w.heap.size + 1 ≤ b) w3 (.slice a3 (decF bs).b.length c3) (decF bs).b) := hid ⟨a3, c3, rfl, (hs3.mono fun b h _ => Nat.le_trans (row_lt HR.out) h).below hb3, hlc3, hm3, hn3⟩
  have HK3 := hid ((HK.out.below hb1).below hb3)
  have q0 := cell_of_row w3 _ 0 _ _ _ hr3
  have q1 := cell_of_row w3 _ 1 _ _ _ hr3
  have q2 := cell_of_row w3 _ 2 _ _ _ hr3
  have q3 := cell_of_row w3 _ 3 _ _ _ hr3
  have HW3 := hid hw3
  have HGOOD : Hid (opnE bs page kinds = 0 → ∀ y, w3.grownBy y (some w.heap.size) → OpnAns bs page kinds w.heap.size (.returned (.tuple #[.agg #[.int .i64 (decF bs).k, .int .i64 (decF bs).e, .int .i64 (decF bs).p, .slice a3 (decF bs).b.length c3], .int .i64 0])) y) := hid fun h y hy => by
    refine OpnOk.good h ?_
    obtain ⟨a1, c1, he, hs1, hr1⟩ := HV3.out
    exact ⟨a1, c1, he, (hs1.grown hy (fun b hb => by omega)).mono fun b hb _ => by omega, hr1⟩
  clear hs3 hlc3 hm3 hn3 hb1 hb3 hw3 hr3 HD HB HR HK HV3
  by_cases hd : decE bs = 0
  · have HE : Hid (opnE bs page kinds = if (decF bs).p ≠ page then 5 else if kinds ≠ [] ∧ ¬ (decF bs).k ∈ kinds then 13 else 0) := hid (by rw [HE.out, if_neg (by simp [hd])])
    rw [hd]
    clear hd HDE
    by_cases hp : (decF bs).p = page
    · have hp1 : ((decF bs).p != page) = false := by rw [bne_eq_false_iff_eq]; exact hp
      have HE : Hid (opnE bs page kinds = if kinds ≠ [] ∧ ¬ (decF bs).k ∈ kinds then 13 else 0) := hid (by rw [HE.out, if_neg (by simp [hp])])
      clear hp
      have HAM := hid (among_any ok2 (decF bs).k a2 c2 kinds w3 HK3.out hkl)
      by_cases hk : kinds.length = 0
      · have hk0 : kinds = [] := List.eq_nil_of_length_eq_zero hk
        have HE0 : Hid (opnE bs page kinds = 0) := hid (by rw [HE.out, if_neg (fun h => h.1 hk0)])
        have HGOOD := hid (HGOOD.out HE0.out)
        have HGOOD : Hid (∀ y, w3.grownBy y (some w.heap.size) → OpnAns bs page kinds w.heap.size (.returned (.tuple #[.agg #[.int .i64 (decF bs).k, .int .i64 (decF bs).e, .int .i64 (decF bs).p, .slice a3 (decF bs).b.length c3], .int .i64 0])) y) := HGOOD
        clear hk HAM HE HK3
        rw [show kinds.length = 0 from by rw [hk0]; rfl]
        clear hk0 HE0
        go_upto_region 8 with fail
        rw [← HW3.out]
        refine wp_region_lit ?_
        refine wpList_plain rfl fun K hK => ?_
        go_simp
        refine hK _ _ ?_
        refine wpList_store_own rfl 25 _ _ rfl w.heap.size #[.int .i64 (decF bs).k, .int .i64 (decF bs).e, .int .i64 (decF bs).p, .slice a3 (decF bs).b.length c3] rfl rfl 25 _ HR3.out (by kernel_rfl) rfl (by simp [Value.oneCell']) ?_
        intro w9 hr9 hg9
        have HR9 := hid hr9
        have HB9 : Hid (Below w.heap.size w w9) := hid (below_grown HB3.out hg9 (Nat.le_refl _) HB3.out.size)
        have HO9 := hid (HGOOD.out w9 hg9)
        clear hr9 hg9
        go_wp2_with fail
        refine bodyPost_ret (v := .tuple #[.agg #[.int .i64 (decF bs).k, .int .i64 (decF bs).e, .int .i64 (decF bs).p, .slice a3 (decF bs).b.length c3], .int .i64 0]) (res21 _ _ _ _ rfl HR9.out rfl) rfl ⟨HO9.out, HB9.out⟩
      · have HE : Hid (opnE bs page kinds = if ¬ (decF bs).k ∈ kinds then 13 else 0) := hid (by
          rw [HE.out]
          have : kinds ≠ [] := fun h => hk (by rw [h]; rfl)
          by_cases hm : (decF bs).k ∈ kinds <;> simp [hm, this])
        clear HK3
        generalize kinds.length = n at *
        have hk1 : ((0 : Int) < (n : Int)) = True := eq_true (by omega)
        have hk2 : (0 < n) = True := eq_true (by omega)
        clear hk
        cases hm : decide ((decF bs).k ∈ kinds)
        · have HE0 : Hid (opnE bs page kinds = 13) := hid (by rw [HE.out, if_pos (of_decide_eq_false hm)])
          rw [hm] at HAM
          clear hm HE HGOOD
          go_wp2_with fail
          rw [← HW3.out]
          refine HAM.out.mono ?_
          rintro r w4 ⟨rfl, rfl⟩
          clear HAM
          go_upto_region 7 with fail
          refine wp_region_lit ?_
          refine wpList_plain rfl fun K hK => ?_
          go_simp
          refine hK _ _ ?_
          refine wpList_store_own rfl 25 _ _ rfl w.heap.size zc rfl rfl 25 _ HR3.out (by kernel_rfl) rfl (by simp [Value.oneCell', zc]) ?_
          intro w9 hr9 hg9
          have HR9 := hid hr9
          have HB9 : Hid (Below w.heap.size w w9) := hid (below_grown HB3.out hg9 (Nat.le_refl _) HB3.out.size)
          clear hr9 hg9
          go_wp2_with fail
          refine bodyPost_ret (v := .tuple #[.agg zc, .int .i64 13]) (res21 _ _ _ _ rfl HR9.out rfl) rfl ⟨?_, HB9.out⟩
          exact OpnOk.bad HE0.out (by decide)
        · have HE0 : Hid (opnE bs page kinds = 0) := hid (by rw [HE.out, if_neg (by simpa using of_decide_eq_true hm)])
          rw [hm] at HAM
          clear hm HE
          have HGOOD := hid (HGOOD.out HE0.out)
          go_wp2_with fail
          rw [← HW3.out]
          refine HAM.out.mono ?_
          rintro r w4 ⟨rfl, rfl⟩
          clear HAM
          go_upto_region 8 with fail
          refine wp_region_lit ?_
          refine wpList_plain rfl fun K hK => ?_
          go_simp
          refine hK _ _ ?_
          refine wpList_store_own rfl 25 _ _ rfl w.heap.size #[.int .i64 (decF bs).k, .int .i64 (decF bs).e, .int .i64 (decF bs).p, .slice a3 (decF bs).b.length c3] rfl rfl 25 _ HR3.out (by kernel_rfl) rfl (by simp [Value.oneCell']) ?_
          intro w9 hr9 hg9
          have HR9 := hid hr9
          have HB9 : Hid (Below w.heap.size w w9) := hid (below_grown HB3.out hg9 (Nat.le_refl _) HB3.out.size)
          have HO9 := hid (HGOOD.out w9 hg9)
          clear hr9 hg9
          go_wp2_with fail
          refine bodyPost_ret (v := .tuple #[.agg #[.int .i64 (decF bs).k, .int .i64 (decF bs).e, .int .i64 (decF bs).p, .slice a3 (decF bs).b.length c3], .int .i64 0]) (res21 _ _ _ _ rfl HR9.out rfl) rfl ⟨HO9.out, HB9.out⟩
    · have hp1 : ((decF bs).p != page) = true := by rw [bne_iff_ne]; exact hp
      have HE0 : Hid (opnE bs page kinds = 5) := hid (by rw [HE.out, if_pos hp])
      clear hp HE HGOOD HK3
      go_upto_region 5 with fail
      rw [← HW3.out]
      refine wp_region_lit ?_
      refine wpList_plain rfl fun K hK => ?_
      go_simp
      refine hK _ _ ?_
      refine wpList_store_own rfl 25 _ _ rfl w.heap.size zc rfl rfl 25 _ HR3.out (by kernel_rfl) rfl (by simp [Value.oneCell', zc]) ?_
      intro w9 hr9 hg9
      have HR9 := hid hr9
      have HB9 : Hid (Below w.heap.size w w9) := hid (below_grown HB3.out hg9 (Nat.le_refl _) HB3.out.size)
      clear hr9 hg9
      go_wp2_with fail
      refine bodyPost_ret (v := .tuple #[.agg zc, .int .i64 5]) (res21 _ _ _ _ rfl HR9.out rfl) rfl ⟨?_, HB9.out⟩
      exact OpnOk.bad HE0.out (by decide)
  · have HE0 : Hid (opnE bs page kinds = decE bs) := hid (by rw [HE.out, if_pos hd])
    have hd1 : (((decE bs : Nat) : Int) != 0) = true := by rw [bne_iff_ne]; omega
    have HNE := hid hd
    clear HE HGOOD HK3 HDE hd
    generalize decE bs = q at *
    go_upto_region 3 with fail
    rw [← HW3.out]
    refine wp_region_lit ?_
    refine wpList_plain rfl fun K hK => ?_
    go_simp
    refine hK _ _ ?_
    refine wpList_plain rfl fun K hK => ?_
    go_simp
    refine hK _ _ ?_
    refine wpList_store_own rfl 25 _ _ rfl w.heap.size zc rfl rfl 25 _ HR3.out (by kernel_rfl) rfl (by simp [Value.oneCell', zc]) ?_
    intro w9 hr9 hg9
    have HR9 := hid hr9
    have HB9 : Hid (Below w.heap.size w w9) := hid (below_grown HB3.out hg9 (Nat.le_refl _) HB3.out.size)
    clear hr9 hg9
    go_wp2_with fail
    refine bodyPost_ret (v := .tuple #[.agg zc, .int .i64 (q : Nat)]) (res21 _ _ _ _ rfl HR9.out rfl) rfl ⟨?_, HB9.out⟩
    exact OpnOk.bad HE0.out HNE.out
end Go.Proofs.Ytmdimhijbmeioaa
