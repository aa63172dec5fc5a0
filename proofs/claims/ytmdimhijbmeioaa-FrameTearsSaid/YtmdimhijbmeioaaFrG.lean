/- CONTRACT: the frame of bytes, or what is wrong. -/
import Derived.Test.YtmdimhijbmeioaaFrB
import Derived.Test.YtmdimhijbmeioaaFrD
import Derived.Test.YtmdimhijbmeioaaCrcE
import Derived.Deep.RegionHeld3
import Derived.Deep.CutBlock
namespace Go.Proofs.Ytmdimhijbmeioaa
open Go.RowKit Go.Inc

/-- What Decode answers. -/
def DecOk (ok : Nat → Prop) (bs : List Nat) (r : Ending) (w' : World) : Prop := ∃ v, r = .returned (.tuple #[.agg #[.int .i64 (decF bs).k, .int .i64 (decF bs).e, .int .i64 (decF bs).p, v], .int .i64 (decE bs : Nat)]) ∧ Bb ok w' v (decF bs).b
abbrev DecAns (bs : List Nat) (B : Nat) (r : Ending) (w' : World) : Prop := DecOk (fun b => B ≤ b) bs r w'
theorem DecOk.bad {ok : Nat → Prop} {bs : List Nat} {e : Nat} {w' : World} (h : decE bs = e) (h0 : e ≠ 0) : DecOk ok bs (.returned (.tuple #[.agg #[.int .i64 0, .int .i64 0, .int .i64 0, .slice none 0 0], .int .i64 (e : Int)])) w' := by
  unfold DecOk decF
  rw [h, if_neg h0]
  exact ⟨_, rfl, none, 0, rfl, Sl.nil _ _ _, Nat.le_refl _, Nat.zero_le _, fun _ => rfl⟩
/-- The cells of a frame of nothing. -/
abbrev zc : Array Value := #[.int .i64 0, .int .i64 0, .int .i64 0, .slice none 0 0]
theorem res25 (w : World) (g : Nat) (cs : Array Value) (tmps : Array Value) (h2 : tmps.getD 2 undef = .pointer (some ⟨g, 0, none⟩)) (hg : w.heap[g]? = some (.cells cs 25 (0, 0))) (hs : cs.size = 4) :
    (results Try.f15 tmps).run Try.prog w = .ok (.tuple #[.agg cs, tmps.getD 3 undef]) w :=
  res_cell_tmp rfl tmps w g 25 cs (0, 0) _ h2 hg Try.underlying25 rfl (by rw [hs]; kernel_rfl)

set_option maxHeartbeats 1000000 in
theorem decode_len (a : Option Addr) (c : Nat) (bs : List Nat) (w : World) (hl : (bs.length : Int) ≠ 256) :
    Calls Try.prog 15 #[.slice a bs.length c] w fun r w' => DecAns bs w.heap.size r w' ∧ Below w.heap.size w w' := by
  have hq : ((bs.length : Int) != 256) = true := by rw [bne_iff_ne]; exact hl
  have HD : Hid (decE bs = 2) := hid (by unfold decE; rw [if_pos (by omega)])
  clear hl
  go_enter Try.func15, Try.ntmps15
  go_wp2_with fail
  refine bodyPost_ret (v := .tuple #[.agg zc, .int .i64 2]) (res25 _ _ _ _ rfl (heap_alloc_new w _) rfl) rfl ⟨?_, (Below.refl _ _).alloc (Nat.le_refl _) _⟩
  exact DecOk.bad HD.out (by decide)

set_option maxHeartbeats 2000000 in
theorem decode_sum (b o c : Nat) (bs : List Nat) (w : World) (hs : Sl (fun _ => True) w (some ⟨b, o, none⟩) bs) (hby : Bytes bs) (hl : bs.length = 256) (hc : 256 ≤ c ∧ c ≤ maxLen) :
    Calls Try.prog 15 #[.slice (some ⟨b, o, none⟩) 256 c] w fun r w' => DecAns bs w.heap.size r w' ∧ Below w.heap.size w w' := by
  obtain ⟨wb, hwb⟩ : ∃ wb, wb = w.alloc (.cells #[.int .i64 0, .int .i64 0, .int .i64 0, .slice none 0 0] 25) := ⟨_, rfl⟩
  have hb : Below w.heap.size w wb := by rw [hwb]; exact (Below.refl _ _).alloc (Nat.le_refl _) _
  have hr : wb.heap[w.heap.size]? = some (.cells #[.int .i64 0, .int .i64 0, .int .i64 0, .slice none 0 0] 25 (0, 0)) := by rw [hwb]; exact heap_alloc_new w _
  have HH0 := holds_any (fun _ => True) (some ⟨b, o, none⟩) c bs wb (hs.below hb) hby (by omega) hc.2
  rw [hl] at HH0
  have HH := hid HH0
  have HSL := hid (hs.below hb)
  have HWB := hid hwb
  have HB := hid hb
  have HR := hid hr
  have HBY := hid hby
  have HL := hid hl
  have HCC := hid hc
  have hm : (c : Int) ≤ 9223372036854775807 := by have := hc.2; unfold maxLen at this; omega
  have hc1 : (256 : Int) ≤ c := by omega
  have HD5 : Hid (holds bs = false → decE bs = 5) := hid fun h => by unfold decE; rw [if_neg (by omega), if_pos h]
  have HD : Hid (holds bs = true → decE bs = if chk (picked bs) = 0 ∧ laid (picked bs) = bs.take 252 then 0 else 3) := hid fun h => by unfold decE; rw [if_neg (by omega), if_neg (by rw [h]; simp)]
  clear hs hby hl hc hb hr hwb HH0
  go_enter Try.func15, Try.ntmps15
  go_wp2_with fail
  rw [← HWB.out]
  refine HH.out.mono ?_
  rintro r w1 ⟨rfl, hb1⟩
  have HSL1 := hid (HSL.out.below hb1)
  have HB1 : Hid (Below w.heap.size w w1) := hid (HB.out.trans (hb1.mono HB.out.size))
  have HR1 : Hid (w1.heap[w.heap.size]? = _) := hid (row_below HR.out hb1)
  clear HSL HB HR hb1 HH HWB
  cases hh : holds bs
  · have HD5' := hid (HD5.out hh)
    clear HD HD5
    go_upto_region 4 with fail
    refine wp_region_lit ?_
    refine wpList_plain rfl fun K hK => ?_
    go_simp
    refine hK _ _ ?_
    refine wpList_store_own rfl 25 _ _ rfl w.heap.size zc rfl rfl 25 _ HR1.out (by kernel_rfl) rfl (by simp [Value.oneCell', zc]) ?_
    intro w2 hr2 hg2
    have HR2 := hid hr2
    have HB2 : Hid (Below w.heap.size w w2) := hid (below_grown HB1.out hg2 (Nat.le_refl _) HB1.out.size)
    clear hr2 hg2
    go_wp2_with fail
    refine bodyPost_ret (v := .tuple #[.agg zc, .int .i64 5]) (res25 _ _ _ _ rfl HR2.out rfl) rfl ⟨?_, HB2.out⟩
    exact DecOk.bad HD5'.out (by decide)
  · have HD' := hid (HD.out hh)
    clear HD HD5
    have HP := hid (pick_any _ b o c bs w1 HSL1.out HBY.out HL.out HCC.out)
    go_wp2_with fail
    refine HP.out.mono ?_
    rintro r w2 ⟨v, rfl, hv, hb2⟩
    obtain ⟨a2, c2, rfl, hs2, hlc2, hm2, hn2⟩ := hv
    obtain ⟨w3, hw3⟩ : ∃ w3, w3 = w2.alloc (.cells #[.int .i64 (picked bs).k, .int .i64 (picked bs).e, .int .i64 (picked bs).p, .slice a2 (picked bs).b.length c2] 25) := ⟨_, rfl⟩
    have hb3 : Below w2.heap.size w2 w3 := by rw [hw3]; exact (Below.refl _ _).alloc (Nat.le_refl _) _
    have hr3 : w3.heap[w2.heap.size]? = some (.cells #[.int .i64 (picked bs).k, .int .i64 (picked bs).e, .int .i64 (picked bs).p, .slice a2 (picked bs).b.length c2] 25 (0, 0)) := by rw [hw3]; exact heap_alloc_new w2 _
    have HW3 := hid hw3
    have HB2 : Hid (Below w.heap.size w w2) := hid (HB1.out.trans (hb2.mono HB1.out.size))
    have HB3 : Hid (Below w.heap.size w w3) := hid (HB2.out.trans (hb3.mono HB2.out.size))
    have HR3 : Hid (w3.heap[w.heap.size]? = _) := hid (row_below (row_below HR1.out hb2) hb3)
    have HS3 := hid ((hs2.mono (fun b h _ => Nat.le_trans HB1.out.size h)).below hb3)
    have HSL3 := hid ((HSL1.out.below hb2).below hb3)
    have HPB : Hid (Bytes (picked bs).b) := hid (picked_bytes HBY.out)
    have HST : Hid (∀ x, Below w3.heap.size w3 x → Below w3.heap.size w3 x ∧ x.cell? ⟨w2.heap.size, 0, none⟩ = some (.int .i64 (picked bs).k) ∧ x.cell? ⟨w2.heap.size, 1, none⟩ = some (.int .i64 (picked bs).e) ∧ x.cell? ⟨w2.heap.size, 2, none⟩ = some (.int .i64 (picked bs).p) ∧ x.cell? ⟨w2.heap.size, 3, none⟩ = some (.slice a2 (picked bs).b.length c2)) := hid fun x hx => by
      have hr : x.heap[w2.heap.size]? = _ := row_below hr3 hx
      exact ⟨hx, cell_of_row x _ 0 _ _ _ hr, cell_of_row x _ 1 _ _ _ hr, cell_of_row x _ 2 _ _ _ hr, cell_of_row x _ 3 _ _ _ hr⟩
    have HCK : Hid (∀ x, Calls Try.prog 12 #[.agg #[.int .i64 (picked bs).k, .int .i64 (picked bs).e, .int .i64 (picked bs).p, .slice a2 (picked bs).b.length c2]] x fun r w' => r = .returned (.int .i64 (chk (picked bs) : Nat)) ∧ Below x.heap.size x w') := hid fun x => check_any _ _ _ a2 c2 (picked bs).b x
    have HLY : Hid (chk (picked bs) = 0 → ∀ x, Below w3.heap.size w3 x → Calls Try.prog 28 #[.agg #[.int .i64 (picked bs).k, .int .i64 (picked bs).e, .int .i64 (picked bs).p, .slice a2 (picked bs).b.length c2]] x fun r w' => ∃ v, r = .returned v ∧ Row 5 x.heap.size w' v (laid (picked bs)) ∧ Below x.heap.size x w') :=
      hid fun h x hx => lay_any _ _ _ _ a2 c2 (picked bs).b x ((chk_zero _).1 h) (HS3.out.below hx) HPB.out ⟨hlc2, hm2⟩ hn2
    have HEQ : Hid (∀ x (aL : Option Addr) (cL : Nat) (ok : Nat → Prop), Below w3.heap.size w3 x → Sl ok x aL (laid (picked bs)) → Calls Try.prog 29 #[.slice aL (laid (picked bs)).length cL, .slice (some ⟨b, o, none⟩) 252 252] x fun r w' => r = .returned (.bool (decide (laid (picked bs) = bs.take 252))) ∧ x = w') :=
      hid fun x aL cL ok hx hs => by
        have h252 : (bs.take 252).length = 252 := by rw [List.length_take, HL.out]; rfl
        have h := equal_any ok _ aL (some ⟨b, o, none⟩) cL 252 (laid (picked bs)) (bs.take 252) x hs ((HSL3.out.below hx).front 252) (laid_bytes HPB.out) (HBY.out.take 252)
        rwa [h252] at h
    have HOUT : Hid (decE bs = 0 → ∀ x, Below w3.heap.size w3 x → ∀ y, Below x.heap.size x y ∨ x.grownBy y (some w.heap.size) → DecAns bs w.heap.size (.returned (.tuple #[.agg #[.int .i64 (picked bs).k, .int .i64 (picked bs).e, .int .i64 (picked bs).p, .slice a2 (picked bs).b.length c2], .int .i64 0])) y) := hid fun h x hx y hy => by
      have hF : decF bs = picked bs := by unfold decF; rw [if_pos h]
      unfold DecAns DecOk
      rw [hF, h]
      refine ⟨_, rfl, a2, c2, rfl, ?_, hlc2, hm2, hn2⟩
      have hs2' : Sl (fun b => w.heap.size + 1 ≤ b) w2 a2 (picked bs).b := hs2.mono fun b h _ => Nat.le_trans (row_lt HR1.out) h
      have hsx := (hs2'.below hb3).below hx
      rcases hy with hy | hy
      · exact (hsx.below hy).mono fun b h _ => by omega
      · exact (hsx.grown hy (fun b h => by omega)).mono fun b h _ => by omega
    clear hs2 hlc2 hm2 hn2 hb2 hb3 hw3 hr3 HP HSL1 HR1 HB1
    go_wp2_with fail
    rw [← HW3.out]
    have hb3r := Below.refl w3.heap.size w3
    cases hD : decide (chk (picked bs) = 0)
    · have hq : chk (picked bs) ≠ 0 := of_decide_eq_false hD
      have hq1 : (((chk (picked bs) : Nat) : Int) != 0) = true := by rw [bne_iff_ne]; omega
      have hd3 : decE bs = 3 := by rw [HD'.out, if_neg (fun h => hq h.1)]
      have HD3 := hid hd3
      clear hq hd3 hD HD' HLY HEQ HOUT
      generalize chk (picked bs) = q at *
      refine wp_region_grows 11 [Eqv' (.agg #[.int .i64 (picked bs).k, .int .i64 (picked bs).e, .int .i64 (picked bs).p, .slice a2 (picked bs).b.length c2]), Eqv' (.int .i64 (q : Nat)), Eqv' (.bool true), Eqv' (.bool true), Eqv' undef, Eqv' undef, Eqv' undef, Eqv' undef, Eqv' undef, Eqv' undef, Eqv' (.bool true)] (by kernel_rfl) (by decide) (by kernel_rfl) ?_ ?_ ?_
      · repeat' (first | exact List.forall_mem_nil _ | refine List.forall_mem_cons.2 ⟨?_, ?_⟩)
        all_goals
          intro w w' v hw h
          first | exact h | (obtain ⟨aL, cL, rfl, h1⟩ := h; exact ⟨aL, cL, rfl, h1.below hw⟩)
      · simp only [AllLt]
        refine ⟨⟨⟨⟨⟨⟨⟨⟨⟨⟨⟨trivial, ?_⟩, ?_⟩, ?_⟩, ?_⟩, ?_⟩, ?_⟩, ?_⟩, ?_⟩, ?_⟩, ?_⟩, ?_⟩
        all_goals
          intro o' ho
          simp at ho
          subst ho
          intro ρ w4 hR hL hS hG
          obtain ⟨hl1, hl2, -⟩ := hL
        · refine plainG rfl ?_
          intro bA K Q' hK
          have e4 := hS 4 (by kernel_rfl)
          change ρ (.tmp 4) = _ at e4
          obtain ⟨-, k0, k1, k2, k3⟩ := HST.out w4 (Below.trans (Below.drew hb3r) hR)
          simp only [execOp]
          go_simp
          exact hK _ _ rfl (Grew.refl _)
        · refine plainG rfl ?_
          intro bA K Q' hK
          have e15 := hG 0 15 (by decide) (by kernel_rfl) (by kernel_rfl)
          change ρ (.tmp 15) = _ at e15
          simp only [execOp]
          go_simp
          refine (HCK.out w4).mono ?_
          rintro r w5 ⟨rfl, hb⟩
          exact hK _ _ rfl hb
        · refine plainG rfl ?_
          intro bA K Q' hK
          have e16 := hG 1 16 (by decide) (by kernel_rfl) (by kernel_rfl)
          change ρ (.tmp 16) = _ at e16
          simp only [execOp]
          go_simp
          exact hK _ _ rfl (Grew.refl _)
        · refine plainG rfl ?_
          intro bA K Q' hK
          have e17 := hG 2 17 (by decide) (by kernel_rfl) (by kernel_rfl)
          change ρ (.tmp 17) = _ at e17
          simp only [execOp]
          go_simp
          exact hK _ _ rfl (Grew.refl _)
        · have eG : ρ (.tmp 18) = _ := hG 3 18 (by decide) (by kernel_rfl) (by kernel_rfl)
          exact offG rfl (by kernel_rfl) eG rfl rfl
        · have eG : ρ (.tmp 18) = _ := hG 3 18 (by decide) (by kernel_rfl) (by kernel_rfl)
          exact offG rfl (by kernel_rfl) eG rfl rfl
        · have eG : ρ (.tmp 18) = _ := hG 3 18 (by decide) (by kernel_rfl) (by kernel_rfl)
          exact offG rfl (by kernel_rfl) eG rfl rfl
        · have eG : ρ (.tmp 18) = _ := hG 3 18 (by decide) (by kernel_rfl) (by kernel_rfl)
          exact offG rfl (by kernel_rfl) eG rfl rfl
        · have eG : ρ (.tmp 18) = _ := hG 3 18 (by decide) (by kernel_rfl) (by kernel_rfl)
          exact offG rfl (by kernel_rfl) eG rfl rfl
        · have eG : ρ (.tmp 18) = _ := hG 3 18 (by decide) (by kernel_rfl) (by kernel_rfl)
          exact offG rfl (by kernel_rfl) eG rfl rfl
        · refine plainG rfl ?_
          intro bA K Q' hK
          have e18 := hG 3 18 (by decide) (by kernel_rfl) (by kernel_rfl)
          have e24 := hG 9 24 (by decide) (by kernel_rfl) (by kernel_rfl)
          change ρ (.tmp 18) = _ at e18
          change ρ (.tmp 24) = _ at e24
          simp only [execOp]
          go_simp
          exact hK _ _ rfl (Grew.refl _)
      · intro v w4 hR hG
        have h10 := hG.2
        change v 10 = _ at h10
        have hbx : Below w3.heap.size w3 w4 := Below.trans (Below.drew hb3r) hR
        have HBX := hid hbx
        have HB4 : Hid (Below w.heap.size w w4) := hid (HB3.out.trans (hbx.mono HB3.out.size))
        have HROW4 : Hid (w4.heap[w.heap.size]? = _) := hid (row_below HR3.out hbx)
        clear hG hR hbx
        simp [stG, stU, dstAt, Act.put, h10]
        go_upto_region 7 with fail
        refine wp_region_lit ?_
        refine wpList_plain rfl fun K hK => ?_
        go_simp
        refine hK _ _ ?_
        refine wpList_store_own rfl 25 _ _ rfl w.heap.size zc rfl rfl 25 _ HROW4.out (by kernel_rfl) rfl (by simp [Value.oneCell', zc]) ?_
        intro w5 hr5 hg5
        have HR5 := hid hr5
        have HB5 : Hid (Below w.heap.size w w5) := hid (below_grown HB4.out hg5 (Nat.le_refl _) HB4.out.size)
        clear hr5 hg5
        go_wp2_with fail
        refine bodyPost_ret (v := .tuple #[.agg zc, .int .i64 3]) (res25 _ _ _ _ rfl HR5.out rfl) rfl ⟨?_, HB5.out⟩
        exact DecOk.bad HD3.out (by decide)
    · have hq : chk (picked bs) = 0 := of_decide_eq_true hD
      have HLY := hid (HLY.out hq)
      have HDE : Hid (decE bs = if laid (picked bs) = bs.take 252 then 0 else 3) := hid (by rw [HD'.out]; by_cases h : laid (picked bs) = bs.take 252 <;> simp [h, hq])
      rw [hq] at HCK
      clear HD' hD hq
      cases hE : decide (laid (picked bs) = bs.take 252)
      · have HD3 : Hid (decE bs = 3) := hid (by rw [HDE.out, if_neg (of_decide_eq_false hE)])
        rw [hE] at HEQ
        clear hE HDE HOUT
        refine wp_region_grows 11 [Eqv' (.agg #[.int .i64 (picked bs).k, .int .i64 (picked bs).e, .int .i64 (picked bs).p, .slice a2 (picked bs).b.length c2]), Eqv' (.int .i64 0), Eqv' (.bool false), Eqv' (.bool false), Eqv' (.agg #[.int .i64 (picked bs).k, .int .i64 (picked bs).e, .int .i64 (picked bs).p, .slice a2 (picked bs).b.length c2]), (fun x v => ∃ aL cL, v = .slice aL (laid (picked bs)).length cL ∧ Sl (fun _ => True) x aL (laid (picked bs))), Eqv' (.slice (some ⟨b, o, none⟩) 256 c), Eqv' (.slice (some ⟨b, o, none⟩) 252 252), Eqv' (.bool false), Eqv' (.bool true), Eqv' (.bool true)] (by kernel_rfl) (by decide) (by kernel_rfl) ?_ ?_ ?_
        · repeat' (first | exact List.forall_mem_nil _ | refine List.forall_mem_cons.2 ⟨?_, ?_⟩)
          all_goals
            intro w w' v hw h
            first | exact h | (obtain ⟨aL, cL, rfl, h1⟩ := h; exact ⟨aL, cL, rfl, h1.below hw⟩)
        · simp only [AllLt]
          refine ⟨⟨⟨⟨⟨⟨⟨⟨⟨⟨⟨trivial, ?_⟩, ?_⟩, ?_⟩, ?_⟩, ?_⟩, ?_⟩, ?_⟩, ?_⟩, ?_⟩, ?_⟩, ?_⟩
          all_goals
            intro o' ho
            simp at ho
            subst ho
            intro ρ w4 hR hL hS hG
            obtain ⟨hl1, hl2, -⟩ := hL
          · refine plainG rfl ?_
            intro bA K Q' hK
            have e4 := hS 4 (by kernel_rfl)
            change ρ (.tmp 4) = _ at e4
            obtain ⟨-, k0, k1, k2, k3⟩ := HST.out w4 (Below.trans (Below.drew hb3r) hR)
            simp only [execOp]
            go_simp
            exact hK _ _ rfl (Grew.refl _)
          · refine plainG rfl ?_
            intro bA K Q' hK
            have e15 := hG 0 15 (by decide) (by kernel_rfl) (by kernel_rfl)
            change ρ (.tmp 15) = _ at e15
            simp only [execOp]
            go_simp
            refine (HCK.out w4).mono ?_
            rintro r w5 ⟨rfl, hb⟩
            exact hK _ _ rfl hb
          · refine plainG rfl ?_
            intro bA K Q' hK
            have e16 := hG 1 16 (by decide) (by kernel_rfl) (by kernel_rfl)
            change ρ (.tmp 16) = _ at e16
            simp only [execOp]
            go_simp
            exact hK _ _ rfl (Grew.refl _)
          · refine plainG rfl ?_
            intro bA K Q' hK
            have e17 := hG 2 17 (by decide) (by kernel_rfl) (by kernel_rfl)
            change ρ (.tmp 17) = _ at e17
            simp only [execOp]
            go_simp
            exact hK _ _ rfl (Grew.refl _)
          · have eG : ρ (.tmp 18) = _ := hG 3 18 (by decide) (by kernel_rfl) (by kernel_rfl)
            refine onG rfl (by kernel_rfl) eG ?_
            intro bA K Q' hK
            have e4 := hS 4 (by kernel_rfl)
            change ρ (.tmp 4) = _ at e4
            obtain ⟨-, k0, k1, k2, k3⟩ := HST.out w4 (Below.trans (Below.drew hb3r) hR)
            simp only [execOp]
            go_simp
            exact hK _ _ rfl (Grew.refl _)
          · have eG : ρ (.tmp 18) = _ := hG 3 18 (by decide) (by kernel_rfl) (by kernel_rfl)
            refine onG rfl (by kernel_rfl) eG ?_
            intro bA K Q' hK
            have e19 := hG 4 19 (by decide) (by kernel_rfl) (by kernel_rfl)
            change ρ (.tmp 19) = _ at e19
            simp only [execOp]
            go_simp
            refine (HLY.out w4 (Below.trans (Below.drew hb3r) hR)).mono ?_
            rintro r w5 ⟨v, rfl, hv, hb⟩
            obtain ⟨aL, cL, rfl, hnL, hcL, hmL, hsL⟩ := hv.sl
            exact hK _ _ ⟨aL, cL, rfl, hsL.mono fun _ _ _ => trivial⟩ hb
          · have eG : ρ (.tmp 18) = _ := hG 3 18 (by decide) (by kernel_rfl) (by kernel_rfl)
            refine onG rfl (by kernel_rfl) eG ?_
            intro bA K Q' hK
            have e0 := hS 0 (by kernel_rfl)
            change ρ (.tmp 0) = _ at e0
            simp only [execOp]
            go_simp
            exact hK _ _ rfl (Grew.refl _)
          · have eG : ρ (.tmp 18) = _ := hG 3 18 (by decide) (by kernel_rfl) (by kernel_rfl)
            refine onG rfl (by kernel_rfl) eG ?_
            intro bA K Q' hK
            have e21 := hG 6 21 (by decide) (by kernel_rfl) (by kernel_rfl)
            change ρ (.tmp 21) = _ at e21
            simp only [execOp]
            go_simp
            rw [if_pos (by omega)]
            exact hK _ _ rfl (Grew.refl _)
          · have eG : ρ (.tmp 18) = _ := hG 3 18 (by decide) (by kernel_rfl) (by kernel_rfl)
            refine onG rfl (by kernel_rfl) eG ?_
            intro bA K Q' hK
            have e20 := hG 5 20 (by decide) (by kernel_rfl) (by kernel_rfl)
            have e22 := hG 7 22 (by decide) (by kernel_rfl) (by kernel_rfl)
            obtain ⟨aL, cL, e20, hsL⟩ := e20
            change ρ (.tmp 22) = _ at e22
            simp only [execOp]
            go_simp
            refine (HEQ.out w4 aL cL _ (Below.trans (Below.drew hb3r) hR) hsL).mono ?_
            rintro r w5 ⟨rfl, rfl⟩
            exact hK _ _ rfl (Grew.refl _)
          · have eG : ρ (.tmp 18) = _ := hG 3 18 (by decide) (by kernel_rfl) (by kernel_rfl)
            refine onG rfl (by kernel_rfl) eG ?_
            intro bA K Q' hK
            have e23 := hG 8 23 (by decide) (by kernel_rfl) (by kernel_rfl)
            change ρ (.tmp 23) = _ at e23
            simp only [execOp]
            go_simp
            exact hK _ _ rfl (Grew.refl _)
          · refine plainG rfl ?_
            intro bA K Q' hK
            have e18 := hG 3 18 (by decide) (by kernel_rfl) (by kernel_rfl)
            have e24 := hG 9 24 (by decide) (by kernel_rfl) (by kernel_rfl)
            change ρ (.tmp 18) = _ at e18
            change ρ (.tmp 24) = _ at e24
            simp only [execOp]
            go_simp
            exact hK _ _ rfl (Grew.refl _)
        · intro v w4 hR hG
          have h10 := hG.2
          change v 10 = _ at h10
          have hbx : Below w3.heap.size w3 w4 := Below.trans (Below.drew hb3r) hR
          have HBX := hid hbx
          have HB4 : Hid (Below w.heap.size w w4) := hid (HB3.out.trans (hbx.mono HB3.out.size))
          have HROW4 : Hid (w4.heap[w.heap.size]? = _) := hid (row_below HR3.out hbx)
          clear hG hR hbx
          simp [stG, stU, dstAt, Act.put, h10]
          go_upto_region 7 with fail
          refine wp_region_lit ?_
          refine wpList_plain rfl fun K hK => ?_
          go_simp
          refine hK _ _ ?_
          refine wpList_store_own rfl 25 _ _ rfl w.heap.size zc rfl rfl 25 _ HROW4.out (by kernel_rfl) rfl (by simp [Value.oneCell', zc]) ?_
          intro w5 hr5 hg5
          have HR5 := hid hr5
          have HB5 : Hid (Below w.heap.size w w5) := hid (below_grown HB4.out hg5 (Nat.le_refl _) HB4.out.size)
          clear hr5 hg5
          go_wp2_with fail
          refine bodyPost_ret (v := .tuple #[.agg zc, .int .i64 3]) (res25 _ _ _ _ rfl HR5.out rfl) rfl ⟨?_, HB5.out⟩
          exact DecOk.bad HD3.out (by decide)
      · have HD0 : Hid (decE bs = 0) := hid (by rw [HDE.out, if_pos (of_decide_eq_true hE)])
        have HOUT := hid (HOUT.out HD0.out)
        rw [hE] at HEQ
        clear hE HDE
        refine wp_region_grows 11 [Eqv' (.agg #[.int .i64 (picked bs).k, .int .i64 (picked bs).e, .int .i64 (picked bs).p, .slice a2 (picked bs).b.length c2]), Eqv' (.int .i64 0), Eqv' (.bool false), Eqv' (.bool false), Eqv' (.agg #[.int .i64 (picked bs).k, .int .i64 (picked bs).e, .int .i64 (picked bs).p, .slice a2 (picked bs).b.length c2]), (fun x v => ∃ aL cL, v = .slice aL (laid (picked bs)).length cL ∧ Sl (fun _ => True) x aL (laid (picked bs))), Eqv' (.slice (some ⟨b, o, none⟩) 256 c), Eqv' (.slice (some ⟨b, o, none⟩) 252 252), Eqv' (.bool true), Eqv' (.bool false), Eqv' (.bool false)] (by kernel_rfl) (by decide) (by kernel_rfl) ?_ ?_ ?_
        · repeat' (first | exact List.forall_mem_nil _ | refine List.forall_mem_cons.2 ⟨?_, ?_⟩)
          all_goals
            intro w w' v hw h
            first | exact h | (obtain ⟨aL, cL, rfl, h1⟩ := h; exact ⟨aL, cL, rfl, h1.below hw⟩)
        · simp only [AllLt]
          refine ⟨⟨⟨⟨⟨⟨⟨⟨⟨⟨⟨trivial, ?_⟩, ?_⟩, ?_⟩, ?_⟩, ?_⟩, ?_⟩, ?_⟩, ?_⟩, ?_⟩, ?_⟩, ?_⟩
          all_goals
            intro o' ho
            simp at ho
            subst ho
            intro ρ w4 hR hL hS hG
            obtain ⟨hl1, hl2, -⟩ := hL
          · refine plainG rfl ?_
            intro bA K Q' hK
            have e4 := hS 4 (by kernel_rfl)
            change ρ (.tmp 4) = _ at e4
            obtain ⟨-, k0, k1, k2, k3⟩ := HST.out w4 (Below.trans (Below.drew hb3r) hR)
            simp only [execOp]
            go_simp
            exact hK _ _ rfl (Grew.refl _)
          · refine plainG rfl ?_
            intro bA K Q' hK
            have e15 := hG 0 15 (by decide) (by kernel_rfl) (by kernel_rfl)
            change ρ (.tmp 15) = _ at e15
            simp only [execOp]
            go_simp
            refine (HCK.out w4).mono ?_
            rintro r w5 ⟨rfl, hb⟩
            exact hK _ _ rfl hb
          · refine plainG rfl ?_
            intro bA K Q' hK
            have e16 := hG 1 16 (by decide) (by kernel_rfl) (by kernel_rfl)
            change ρ (.tmp 16) = _ at e16
            simp only [execOp]
            go_simp
            exact hK _ _ rfl (Grew.refl _)
          · refine plainG rfl ?_
            intro bA K Q' hK
            have e17 := hG 2 17 (by decide) (by kernel_rfl) (by kernel_rfl)
            change ρ (.tmp 17) = _ at e17
            simp only [execOp]
            go_simp
            exact hK _ _ rfl (Grew.refl _)
          · have eG : ρ (.tmp 18) = _ := hG 3 18 (by decide) (by kernel_rfl) (by kernel_rfl)
            refine onG rfl (by kernel_rfl) eG ?_
            intro bA K Q' hK
            have e4 := hS 4 (by kernel_rfl)
            change ρ (.tmp 4) = _ at e4
            obtain ⟨-, k0, k1, k2, k3⟩ := HST.out w4 (Below.trans (Below.drew hb3r) hR)
            simp only [execOp]
            go_simp
            exact hK _ _ rfl (Grew.refl _)
          · have eG : ρ (.tmp 18) = _ := hG 3 18 (by decide) (by kernel_rfl) (by kernel_rfl)
            refine onG rfl (by kernel_rfl) eG ?_
            intro bA K Q' hK
            have e19 := hG 4 19 (by decide) (by kernel_rfl) (by kernel_rfl)
            change ρ (.tmp 19) = _ at e19
            simp only [execOp]
            go_simp
            refine (HLY.out w4 (Below.trans (Below.drew hb3r) hR)).mono ?_
            rintro r w5 ⟨v, rfl, hv, hb⟩
            obtain ⟨aL, cL, rfl, hnL, hcL, hmL, hsL⟩ := hv.sl
            exact hK _ _ ⟨aL, cL, rfl, hsL.mono fun _ _ _ => trivial⟩ hb
          · have eG : ρ (.tmp 18) = _ := hG 3 18 (by decide) (by kernel_rfl) (by kernel_rfl)
            refine onG rfl (by kernel_rfl) eG ?_
            intro bA K Q' hK
            have e0 := hS 0 (by kernel_rfl)
            change ρ (.tmp 0) = _ at e0
            simp only [execOp]
            go_simp
            exact hK _ _ rfl (Grew.refl _)
          · have eG : ρ (.tmp 18) = _ := hG 3 18 (by decide) (by kernel_rfl) (by kernel_rfl)
            refine onG rfl (by kernel_rfl) eG ?_
            intro bA K Q' hK
            have e21 := hG 6 21 (by decide) (by kernel_rfl) (by kernel_rfl)
            change ρ (.tmp 21) = _ at e21
            simp only [execOp]
            go_simp
            rw [if_pos (by omega)]
            exact hK _ _ rfl (Grew.refl _)
          · have eG : ρ (.tmp 18) = _ := hG 3 18 (by decide) (by kernel_rfl) (by kernel_rfl)
            refine onG rfl (by kernel_rfl) eG ?_
            intro bA K Q' hK
            have e20 := hG 5 20 (by decide) (by kernel_rfl) (by kernel_rfl)
            have e22 := hG 7 22 (by decide) (by kernel_rfl) (by kernel_rfl)
            obtain ⟨aL, cL, e20, hsL⟩ := e20
            change ρ (.tmp 22) = _ at e22
            simp only [execOp]
            go_simp
            refine (HEQ.out w4 aL cL _ (Below.trans (Below.drew hb3r) hR) hsL).mono ?_
            rintro r w5 ⟨rfl, rfl⟩
            exact hK _ _ rfl (Grew.refl _)
          · have eG : ρ (.tmp 18) = _ := hG 3 18 (by decide) (by kernel_rfl) (by kernel_rfl)
            refine onG rfl (by kernel_rfl) eG ?_
            intro bA K Q' hK
            have e23 := hG 8 23 (by decide) (by kernel_rfl) (by kernel_rfl)
            change ρ (.tmp 23) = _ at e23
            simp only [execOp]
            go_simp
            exact hK _ _ rfl (Grew.refl _)
          · refine plainG rfl ?_
            intro bA K Q' hK
            have e18 := hG 3 18 (by decide) (by kernel_rfl) (by kernel_rfl)
            have e24 := hG 9 24 (by decide) (by kernel_rfl) (by kernel_rfl)
            change ρ (.tmp 18) = _ at e18
            change ρ (.tmp 24) = _ at e24
            simp only [execOp]
            go_simp
            exact hK _ _ rfl (Grew.refl _)
        · intro v w4 hR hG
          have h10 := hG.2
          change v 10 = _ at h10
          have hbx : Below w3.heap.size w3 w4 := Below.trans (Below.drew hb3r) hR
          have HBX := hid hbx
          have HB4 : Hid (Below w.heap.size w w4) := hid (HB3.out.trans (hbx.mono HB3.out.size))
          have HROW4 : Hid (w4.heap[w.heap.size]? = _) := hid (row_below HR3.out hbx)
          clear hG hR hbx
          simp [stG, stU, dstAt, Act.put, h10]
          obtain ⟨-, k0, k1, k2, k3⟩ := HST.out w4 HBX.out
          go_upto_region 8 with fail
          refine wp_region_lit ?_
          refine wpList_plain rfl fun K hK => ?_
          go_simp
          refine hK _ _ ?_
          refine wpList_store_own rfl 25 _ _ rfl w.heap.size #[.int .i64 (picked bs).k, .int .i64 (picked bs).e, .int .i64 (picked bs).p, .slice a2 (picked bs).b.length c2] rfl rfl 25 _ HROW4.out (by kernel_rfl) rfl (by simp [Value.oneCell']) ?_
          intro w5 hr5 hg5
          have HR5 := hid hr5
          have HB5 : Hid (Below w.heap.size w w5) := hid (below_grown HB4.out hg5 (Nat.le_refl _) HB4.out.size)
          have HO5 := hid (HOUT.out w4 HBX.out w5 (.inr hg5))
          clear hr5 hg5 k0 k1 k2 k3
          go_wp2_with fail
          refine bodyPost_ret (v := .tuple #[.agg #[.int .i64 (picked bs).k, .int .i64 (picked bs).e, .int .i64 (picked bs).p, .slice a2 (picked bs).b.length c2], .int .i64 0]) (res25 _ _ _ _ rfl HR5.out rfl) rfl ⟨HO5.out, HB5.out⟩
end Go.Proofs.Ytmdimhijbmeioaa
