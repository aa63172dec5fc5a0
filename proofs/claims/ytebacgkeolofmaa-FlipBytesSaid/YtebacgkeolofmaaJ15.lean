/- CONTRACT: the frame of bytes, or what is wrong. CONTRACTS: a number's page is opened (the program's). PLAIN FACTS OF SUPERBLOCKS: when one is right, its bytes, what a page's bytes tell, the one that counts. -/
import Derived.Test.YtebacgkeolofmaaJ5
import Derived.Test.YtebacgkeolofmaaJ14
import Derived.Test.YtebacgkeolofmaaJ4
import Derived.Deep.RegionHeld3
import Derived.Deep.CutBlock
import Derived.Test.YtebacgkeolofmaaJ10
namespace Go.Proofs.Ytebacgkeolofmaa
open Go.RowKit Go.Inc

/-- What Decode answers. -/
def DecOk (ok : Nat → Prop) (bs : List Nat) (r : Ending) (w' : World) : Prop := ∃ v, r = .returned (.tuple #[.agg #[.int .i64 (decF bs).k, .int .i64 (decF bs).e, .int .i64 (decF bs).p, v], .int .i64 (decE bs : Nat)]) ∧ Bb ok w' v (decF bs).b
abbrev DecAns (bs : List Nat) (B : Nat) (r : Ending) (w' : World) : Prop := DecOk (fun b => B ≤ b) bs r w'
theorem DecOk.bad {ok : Nat → Prop} {bs : List Nat} {e : Nat} {w' : World} (h : decE bs = e) (h0 : e ≠ 0) : DecOk ok bs (.returned (.tuple #[.agg #[.int .i64 0, .int .i64 0, .int .i64 0, .slice none 0 0], .int .i64 (e : Int)])) w' := by
  unfold DecOk decF
  rw [h, if_neg h0]
  exact ⟨_, rfl, none, 0, rfl, Sl.nil _ _ _, Nat.le_refl _, Nat.zero_le _, fun _ => rfl⟩
/-- The cells of a frame of nothing. -/
abbrev zc : Array Value := #[.int .i64 0, .int .i64 0, .int .i64 0, .slice none 0 0]
theorem res25 (w : World) (g : Nat) (cs : Array Value) (tmps : Array Value) (h2 : tmps.getD 2 undef = .pointer (some ⟨g, 0, none⟩)) (hg : w.heap[g]? = some (.cells cs 67 (0, 0))) (hs : cs.size = 4) :
    (results Try.f59 tmps).run Try.prog w = .ok (.tuple #[.agg cs, tmps.getD 3 undef]) w :=
  res_cell_tmp rfl tmps w g 67 cs (0, 0) _ h2 hg Try.underlying67 rfl (by rw [hs]; kernel_rfl)

set_option maxHeartbeats 1000000 in
theorem decode_len (a : Option Addr) (c : Nat) (bs : List Nat) (w : World) (hl : (bs.length : Int) ≠ 256) :
    Calls Try.prog 59 #[.slice a bs.length c] w fun r w' => DecAns bs w.heap.size r w' ∧ Below w.heap.size w w' := by
  have hq : ((bs.length : Int) != 256) = true := by rw [bne_iff_ne]; exact hl
  have HD : Hid (decE bs = 2) := hid (by unfold decE; rw [if_pos (by omega)])
  clear hl
  go_enter Try.func59, Try.ntmps59
  go_wp2_with fail
  refine bodyPost_ret (v := .tuple #[.agg zc, .int .i64 2]) (res25 _ _ _ _ rfl (heap_alloc_new w _) rfl) rfl ⟨?_, (Below.refl _ _).alloc (Nat.le_refl _) _⟩
  exact DecOk.bad HD.out (by decide)

set_option maxHeartbeats 2000000 in
theorem decode_sum (b o c : Nat) (bs : List Nat) (w : World) (hs : Sl (fun _ => True) w (some ⟨b, o, none⟩) bs) (hby : Bytes bs) (hl : bs.length = 256) (hc : 256 ≤ c ∧ c ≤ maxLen) :
    Calls Try.prog 59 #[.slice (some ⟨b, o, none⟩) 256 c] w fun r w' => DecAns bs w.heap.size r w' ∧ Below w.heap.size w w' := by
  obtain ⟨wb, hwb⟩ : ∃ wb, wb = w.alloc (.cells #[.int .i64 0, .int .i64 0, .int .i64 0, .slice none 0 0] 67) := ⟨_, rfl⟩
  have hb : Below w.heap.size w wb := by rw [hwb]; exact (Below.refl _ _).alloc (Nat.le_refl _) _
  have hr : wb.heap[w.heap.size]? = some (.cells #[.int .i64 0, .int .i64 0, .int .i64 0, .slice none 0 0] 67 (0, 0)) := by rw [hwb]; exact heap_alloc_new w _
  have HH0 := holds_any (fun _ => True) (some ⟨b, o, none⟩) c bs wb (hs.below hb) hby (by omega) hc.2
  rw [hl] at HH0
  have HH := hid HH0
  have HSL := hid (hs.below hb)
  have HWB := hid hwb
  have HB := hid hb
  have HR := hid hr
  have HBY := hid hby
  have HL := hid hl
  have HCC := hid hc
  have hm : (c : Int) ≤ 9223372036854775807 := by have := hc.2; unfold maxLen at this; omega
  have hc1 : (256 : Int) ≤ c := by omega
  have HD5 : Hid (holds bs = false → decE bs = 5) := hid fun h => by unfold decE; rw [if_neg (by omega), if_pos h]
  have HD : Hid (holds bs = true → decE bs = if chk (picked bs) = 0 ∧ laid (picked bs) = bs.take 252 then 0 else 3) := hid fun h => by unfold decE; rw [if_neg (by omega), if_neg (by rw [h]; simp)]
  clear hs hby hl hc hb hr hwb HH0
  go_enter Try.func59, Try.ntmps59
  go_wp2_with fail
  rw [← HWB.out]
  refine HH.out.mono ?_
  rintro r w1 ⟨rfl, hb1⟩
  have HSL1 := hid (HSL.out.below hb1)
  have HB1 : Hid (Below w.heap.size w w1) := hid (HB.out.trans (hb1.mono HB.out.size))
  have HR1 : Hid (w1.heap[w.heap.size]? = _) := hid (row_below HR.out hb1)
  clear HSL HB HR hb1 HH HWB
  cases hh : holds bs
  · have HD5' := hid (HD5.out hh)
    clear HD HD5
    go_upto_region 4 with fail
    refine wp_region_lit ?_
    refine wpList_plain rfl fun K hK => ?_
    go_simp
    refine hK _ _ ?_
    refine wpList_store_own rfl 67 _ _ rfl w.heap.size zc rfl rfl 67 _ HR1.out (by kernel_rfl) rfl (by simp [Value.oneCell', zc]) ?_
    intro w2 hr2 hg2
    have HR2 := hid hr2
    have HB2 : Hid (Below w.heap.size w w2) := hid (below_grown HB1.out hg2 (Nat.le_refl _) HB1.out.size)
    clear hr2 hg2
    go_wp2_with fail
    refine bodyPost_ret (v := .tuple #[.agg zc, .int .i64 5]) (res25 _ _ _ _ rfl HR2.out rfl) rfl ⟨?_, HB2.out⟩
    exact DecOk.bad HD5'.out (by decide)
  · have HD' := hid (HD.out hh)
    clear HD HD5
    have HP := hid (pick_any _ b o c bs w1 HSL1.out HBY.out HL.out HCC.out)
    go_wp2_with fail
    refine HP.out.mono ?_
    rintro r w2 ⟨v, rfl, hv, hb2⟩
    obtain ⟨a2, c2, rfl, hs2, hlc2, hm2, hn2⟩ := hv
    obtain ⟨w3, hw3⟩ : ∃ w3, w3 = w2.alloc (.cells #[.int .i64 (picked bs).k, .int .i64 (picked bs).e, .int .i64 (picked bs).p, .slice a2 (picked bs).b.length c2] 67) := ⟨_, rfl⟩
    have hb3 : Below w2.heap.size w2 w3 := by rw [hw3]; exact (Below.refl _ _).alloc (Nat.le_refl _) _
    have hr3 : w3.heap[w2.heap.size]? = some (.cells #[.int .i64 (picked bs).k, .int .i64 (picked bs).e, .int .i64 (picked bs).p, .slice a2 (picked bs).b.length c2] 67 (0, 0)) := by rw [hw3]; exact heap_alloc_new w2 _
    have HW3 := hid hw3
    have HB2 : Hid (Below w.heap.size w w2) := hid (HB1.out.trans (hb2.mono HB1.out.size))
    have HB3 : Hid (Below w.heap.size w w3) := hid (HB2.out.trans (hb3.mono HB2.out.size))
    have HR3 : Hid (w3.heap[w.heap.size]? = _) := hid (row_below (row_below HR1.out hb2) hb3)
    have HS3 := hid ((hs2.mono (fun b h _ => Nat.le_trans HB1.out.size h)).below hb3)
    have HSL3 := hid ((HSL1.out.below hb2).below hb3)
    have HPB : Hid (Bytes (picked bs).b) := hid (picked_bytes HBY.out)
    have HST : Hid (∀ x, Below w3.heap.size w3 x → Below w3.heap.size w3 x ∧ x.cell? ⟨w2.heap.size, 0, none⟩ = some (.int .i64 (picked bs).k) ∧ x.cell? ⟨w2.heap.size, 1, none⟩ = some (.int .i64 (picked bs).e) ∧ x.cell? ⟨w2.heap.size, 2, none⟩ = some (.int .i64 (picked bs).p) ∧ x.cell? ⟨w2.heap.size, 3, none⟩ = some (.slice a2 (picked bs).b.length c2)) := hid fun x hx => by
      have hr : x.heap[w2.heap.size]? = _ := row_below hr3 hx
      exact ⟨hx, cell_of_row x _ 0 _ _ _ hr, cell_of_row x _ 1 _ _ _ hr, cell_of_row x _ 2 _ _ _ hr, cell_of_row x _ 3 _ _ _ hr⟩
    have HCK : Hid (∀ x, Calls Try.prog 55 #[.agg #[.int .i64 (picked bs).k, .int .i64 (picked bs).e, .int .i64 (picked bs).p, .slice a2 (picked bs).b.length c2]] x fun r w' => r = .returned (.int .i64 (chk (picked bs) : Nat)) ∧ Below x.heap.size x w') := hid fun x => check_any _ _ _ a2 c2 (picked bs).b x
    have HLY : Hid (chk (picked bs) = 0 → ∀ x, Below w3.heap.size w3 x → Calls Try.prog 56 #[.agg #[.int .i64 (picked bs).k, .int .i64 (picked bs).e, .int .i64 (picked bs).p, .slice a2 (picked bs).b.length c2]] x fun r w' => ∃ v, r = .returned v ∧ Row 5 x.heap.size w' v (laid (picked bs)) ∧ Below x.heap.size x w') :=
      hid fun h x hx => lay_any _ _ _ _ a2 c2 (picked bs).b x ((chk_zero _).1 h) (HS3.out.below hx) HPB.out ⟨hlc2, hm2⟩ hn2
    have HEQ : Hid (∀ x (aL : Option Addr) (cL : Nat) (ok : Nat → Prop), Below w3.heap.size w3 x → Sl ok x aL (laid (picked bs)) → Calls Try.prog 80 #[.slice aL (laid (picked bs)).length cL, .slice (some ⟨b, o, none⟩) 252 252] x fun r w' => r = .returned (.bool (decide (laid (picked bs) = bs.take 252))) ∧ x = w') :=
      hid fun x aL cL ok hx hs => by
        have h252 : (bs.take 252).length = 252 := by rw [List.length_take, HL.out]; rfl
        have h := equal_any ok _ aL (some ⟨b, o, none⟩) cL 252 (laid (picked bs)) (bs.take 252) x hs ((HSL3.out.below hx).front 252) (laid_bytes HPB.out) (HBY.out.take 252)
        rwa [h252] at h
    have HOUT : Hid (decE bs = 0 → ∀ x, Below w3.heap.size w3 x → ∀ y, Below x.heap.size x y ∨ x.grownBy y (some w.heap.size) → DecAns bs w.heap.size (.returned (.tuple #[.agg #[.int .i64 (picked bs).k, .int .i64 (picked bs).e, .int .i64 (picked bs).p, .slice a2 (picked bs).b.length c2], .int .i64 0])) y) := hid fun h x hx y hy => by
      have hF : decF bs = picked bs := by unfold decF; rw [if_pos h]
      unfold DecAns DecOk
      rw [hF, h]
      refine ⟨_, rfl, a2, c2, rfl, ?_, hlc2, hm2, hn2⟩
      have hs2' : Sl (fun b => w.heap.size + 1 ≤ b) w2 a2 (picked bs).b := hs2.mono fun b h _ => Nat.le_trans (row_lt HR1.out) h
      have hsx := (hs2'.below hb3).below hx
      rcases hy with hy | hy
      · exact (hsx.below hy).mono fun b h _ => by omega
      · exact (hsx.grown hy (fun b h => by omega)).mono fun b h _ => by omega
    clear hs2 hlc2 hm2 hn2 hb2 hb3 hw3 hr3 HP HSL1 HR1 HB1
    go_wp2_with fail
    rw [← HW3.out]
    have hb3r := Below.refl w3.heap.size w3
    cases hD : decide (chk (picked bs) = 0)
    · have hq : chk (picked bs) ≠ 0 := of_decide_eq_false hD
      have hq1 : (((chk (picked bs) : Nat) : Int) != 0) = true := by rw [bne_iff_ne]; omega
      have hd3 : decE bs = 3 := by rw [HD'.out, if_neg (fun h => hq h.1)]
      have HD3 := hid hd3
      clear hq hd3 hD HD' HLY HEQ HOUT
      generalize chk (picked bs) = q at *
      refine wp_region_grows 11 [Eqv' (.agg #[.int .i64 (picked bs).k, .int .i64 (picked bs).e, .int .i64 (picked bs).p, .slice a2 (picked bs).b.length c2]), Eqv' (.int .i64 (q : Nat)), Eqv' (.bool true), Eqv' (.bool true), Eqv' undef, Eqv' undef, Eqv' undef, Eqv' undef, Eqv' undef, Eqv' undef, Eqv' (.bool true)] (by kernel_rfl) (by decide) (by kernel_rfl) ?_ ?_ ?_
      · repeat' (first | exact List.forall_mem_nil _ | refine List.forall_mem_cons.2 ⟨?_, ?_⟩)
        all_goals
          intro w w' v hw h
          first | exact h | (obtain ⟨aL, cL, rfl, h1⟩ := h; exact ⟨aL, cL, rfl, h1.below hw⟩)
      · simp only [AllLt]
        refine ⟨⟨⟨⟨⟨⟨⟨⟨⟨⟨⟨trivial, ?_⟩, ?_⟩, ?_⟩, ?_⟩, ?_⟩, ?_⟩, ?_⟩, ?_⟩, ?_⟩, ?_⟩, ?_⟩
        all_goals
          intro o' ho
          simp at ho
          subst ho
          intro ρ w4 hR hL hS hG
          obtain ⟨hl1, hl2, -⟩ := hL
        · refine plainG rfl ?_
          intro bA K Q' hK
          have e4 := hS 4 (by kernel_rfl)
          change ρ (.tmp 4) = _ at e4
          obtain ⟨-, k0, k1, k2, k3⟩ := HST.out w4 (Below.trans (Below.drew hb3r) hR)
          simp only [execOp]
          go_simp
          exact hK _ _ rfl (Grew.refl _)
        · refine plainG rfl ?_
          intro bA K Q' hK
          have e15 := hG 0 15 (by decide) (by kernel_rfl) (by kernel_rfl)
          change ρ (.tmp 15) = _ at e15
          simp only [execOp]
          go_simp
          refine (HCK.out w4).mono ?_
          rintro r w5 ⟨rfl, hb⟩
          exact hK _ _ rfl hb
        · refine plainG rfl ?_
          intro bA K Q' hK
          have e16 := hG 1 16 (by decide) (by kernel_rfl) (by kernel_rfl)
          change ρ (.tmp 16) = _ at e16
          simp only [execOp]
          go_simp
          exact hK _ _ rfl (Grew.refl _)
        · refine plainG rfl ?_
          intro bA K Q' hK
          have e17 := hG 2 17 (by decide) (by kernel_rfl) (by kernel_rfl)
          change ρ (.tmp 17) = _ at e17
          simp only [execOp]
          go_simp
          exact hK _ _ rfl (Grew.refl _)
        · have eG : ρ (.tmp 18) = _ := hG 3 18 (by decide) (by kernel_rfl) (by kernel_rfl)
          exact offG rfl (by kernel_rfl) eG rfl rfl
        · have eG : ρ (.tmp 18) = _ := hG 3 18 (by decide) (by kernel_rfl) (by kernel_rfl)
          exact offG rfl (by kernel_rfl) eG rfl rfl
        · have eG : ρ (.tmp 18) = _ := hG 3 18 (by decide) (by kernel_rfl) (by kernel_rfl)
          exact offG rfl (by kernel_rfl) eG rfl rfl
        · have eG : ρ (.tmp 18) = _ := hG 3 18 (by decide) (by kernel_rfl) (by kernel_rfl)
          exact offG rfl (by kernel_rfl) eG rfl rfl
        · have eG : ρ (.tmp 18) = _ := hG 3 18 (by decide) (by kernel_rfl) (by kernel_rfl)
          exact offG rfl (by kernel_rfl) eG rfl rfl
        · have eG : ρ (.tmp 18) = _ := hG 3 18 (by decide) (by kernel_rfl) (by kernel_rfl)
          exact offG rfl (by kernel_rfl) eG rfl rfl
        · refine plainG rfl ?_
          intro bA K Q' hK
          have e18 := hG 3 18 (by decide) (by kernel_rfl) (by kernel_rfl)
          have e24 := hG 9 24 (by decide) (by kernel_rfl) (by kernel_rfl)
          change ρ (.tmp 18) = _ at e18
          change ρ (.tmp 24) = _ at e24
          simp only [execOp]
          go_simp
          exact hK _ _ rfl (Grew.refl _)
      · intro v w4 hR hG
        have h10 := hG.2
        change v 10 = _ at h10
        have hbx : Below w3.heap.size w3 w4 := Below.trans (Below.drew hb3r) hR
        have HBX := hid hbx
        have HB4 : Hid (Below w.heap.size w w4) := hid (HB3.out.trans (hbx.mono HB3.out.size))
        have HROW4 : Hid (w4.heap[w.heap.size]? = _) := hid (row_below HR3.out hbx)
        clear hG hR hbx
        simp [stG, stU, dstAt, Act.put, h10]
        go_upto_region 7 with fail
        refine wp_region_lit ?_
        refine wpList_plain rfl fun K hK => ?_
        go_simp
        refine hK _ _ ?_
        refine wpList_store_own rfl 67 _ _ rfl w.heap.size zc rfl rfl 67 _ HROW4.out (by kernel_rfl) rfl (by simp [Value.oneCell', zc]) ?_
        intro w5 hr5 hg5
        have HR5 := hid hr5
        have HB5 : Hid (Below w.heap.size w w5) := hid (below_grown HB4.out hg5 (Nat.le_refl _) HB4.out.size)
        clear hr5 hg5
        go_wp2_with fail
        refine bodyPost_ret (v := .tuple #[.agg zc, .int .i64 3]) (res25 _ _ _ _ rfl HR5.out rfl) rfl ⟨?_, HB5.out⟩
        exact DecOk.bad HD3.out (by decide)
    · have hq : chk (picked bs) = 0 := of_decide_eq_true hD
      have HLY := hid (HLY.out hq)
      have HDE : Hid (decE bs = if laid (picked bs) = bs.take 252 then 0 else 3) := hid (by rw [HD'.out]; by_cases h : laid (picked bs) = bs.take 252 <;> simp [h, hq])
      rw [hq] at HCK
      clear HD' hD hq
      cases hE : decide (laid (picked bs) = bs.take 252)
      · have HD3 : Hid (decE bs = 3) := hid (by rw [HDE.out, if_neg (of_decide_eq_false hE)])
        rw [hE] at HEQ
        clear hE HDE HOUT
        refine wp_region_grows 11 [Eqv' (.agg #[.int .i64 (picked bs).k, .int .i64 (picked bs).e, .int .i64 (picked bs).p, .slice a2 (picked bs).b.length c2]), Eqv' (.int .i64 0), Eqv' (.bool false), Eqv' (.bool false), Eqv' (.agg #[.int .i64 (picked bs).k, .int .i64 (picked bs).e, .int .i64 (picked bs).p, .slice a2 (picked bs).b.length c2]), (fun x v => ∃ aL cL, v = .slice aL (laid (picked bs)).length cL ∧ Sl (fun _ => True) x aL (laid (picked bs))), Eqv' (.slice (some ⟨b, o, none⟩) 256 c), Eqv' (.slice (some ⟨b, o, none⟩) 252 252), Eqv' (.bool false), Eqv' (.bool true), Eqv' (.bool true)] (by kernel_rfl) (by decide) (by kernel_rfl) ?_ ?_ ?_
        · repeat' (first | exact List.forall_mem_nil _ | refine List.forall_mem_cons.2 ⟨?_, ?_⟩)
          all_goals
            intro w w' v hw h
            first | exact h | (obtain ⟨aL, cL, rfl, h1⟩ := h; exact ⟨aL, cL, rfl, h1.below hw⟩)
        · simp only [AllLt]
          refine ⟨⟨⟨⟨⟨⟨⟨⟨⟨⟨⟨trivial, ?_⟩, ?_⟩, ?_⟩, ?_⟩, ?_⟩, ?_⟩, ?_⟩, ?_⟩, ?_⟩, ?_⟩, ?_⟩
          all_goals
            intro o' ho
            simp at ho
            subst ho
            intro ρ w4 hR hL hS hG
            obtain ⟨hl1, hl2, -⟩ := hL
          · refine plainG rfl ?_
            intro bA K Q' hK
            have e4 := hS 4 (by kernel_rfl)
            change ρ (.tmp 4) = _ at e4
            obtain ⟨-, k0, k1, k2, k3⟩ := HST.out w4 (Below.trans (Below.drew hb3r) hR)
            simp only [execOp]
            go_simp
            exact hK _ _ rfl (Grew.refl _)
          · refine plainG rfl ?_
            intro bA K Q' hK
            have e15 := hG 0 15 (by decide) (by kernel_rfl) (by kernel_rfl)
            change ρ (.tmp 15) = _ at e15
            simp only [execOp]
            go_simp
            refine (HCK.out w4).mono ?_
            rintro r w5 ⟨rfl, hb⟩
            exact hK _ _ rfl hb
          · refine plainG rfl ?_
            intro bA K Q' hK
            have e16 := hG 1 16 (by decide) (by kernel_rfl) (by kernel_rfl)
            change ρ (.tmp 16) = _ at e16
            simp only [execOp]
            go_simp
            exact hK _ _ rfl (Grew.refl _)
          · refine plainG rfl ?_
            intro bA K Q' hK
            have e17 := hG 2 17 (by decide) (by kernel_rfl) (by kernel_rfl)
            change ρ (.tmp 17) = _ at e17
            simp only [execOp]
            go_simp
            exact hK _ _ rfl (Grew.refl _)
          · have eG : ρ (.tmp 18) = _ := hG 3 18 (by decide) (by kernel_rfl) (by kernel_rfl)
            refine onG rfl (by kernel_rfl) eG ?_
            intro bA K Q' hK
            have e4 := hS 4 (by kernel_rfl)
            change ρ (.tmp 4) = _ at e4
            obtain ⟨-, k0, k1, k2, k3⟩ := HST.out w4 (Below.trans (Below.drew hb3r) hR)
            simp only [execOp]
            go_simp
            exact hK _ _ rfl (Grew.refl _)
          · have eG : ρ (.tmp 18) = _ := hG 3 18 (by decide) (by kernel_rfl) (by kernel_rfl)
            refine onG rfl (by kernel_rfl) eG ?_
            intro bA K Q' hK
            have e19 := hG 4 19 (by decide) (by kernel_rfl) (by kernel_rfl)
            change ρ (.tmp 19) = _ at e19
            simp only [execOp]
            go_simp
            refine (HLY.out w4 (Below.trans (Below.drew hb3r) hR)).mono ?_
            rintro r w5 ⟨v, rfl, hv, hb⟩
            obtain ⟨aL, cL, rfl, hnL, hcL, hmL, hsL⟩ := hv.sl
            exact hK _ _ ⟨aL, cL, rfl, hsL.mono fun _ _ _ => trivial⟩ hb
          · have eG : ρ (.tmp 18) = _ := hG 3 18 (by decide) (by kernel_rfl) (by kernel_rfl)
            refine onG rfl (by kernel_rfl) eG ?_
            intro bA K Q' hK
            have e0 := hS 0 (by kernel_rfl)
            change ρ (.tmp 0) = _ at e0
            simp only [execOp]
            go_simp
            exact hK _ _ rfl (Grew.refl _)
          · have eG : ρ (.tmp 18) = _ := hG 3 18 (by decide) (by kernel_rfl) (by kernel_rfl)
            refine onG rfl (by kernel_rfl) eG ?_
            intro bA K Q' hK
            have e21 := hG 6 21 (by decide) (by kernel_rfl) (by kernel_rfl)
            change ρ (.tmp 21) = _ at e21
            simp only [execOp]
            go_simp
            rw [if_pos (by omega)]
            exact hK _ _ rfl (Grew.refl _)
          · have eG : ρ (.tmp 18) = _ := hG 3 18 (by decide) (by kernel_rfl) (by kernel_rfl)
            refine onG rfl (by kernel_rfl) eG ?_
            intro bA K Q' hK
            have e20 := hG 5 20 (by decide) (by kernel_rfl) (by kernel_rfl)
            have e22 := hG 7 22 (by decide) (by kernel_rfl) (by kernel_rfl)
            obtain ⟨aL, cL, e20, hsL⟩ := e20
            change ρ (.tmp 22) = _ at e22
            simp only [execOp]
            go_simp
            refine (HEQ.out w4 aL cL _ (Below.trans (Below.drew hb3r) hR) hsL).mono ?_
            rintro r w5 ⟨rfl, rfl⟩
            exact hK _ _ rfl (Grew.refl _)
          · have eG : ρ (.tmp 18) = _ := hG 3 18 (by decide) (by kernel_rfl) (by kernel_rfl)
            refine onG rfl (by kernel_rfl) eG ?_
            intro bA K Q' hK
            have e23 := hG 8 23 (by decide) (by kernel_rfl) (by kernel_rfl)
            change ρ (.tmp 23) = _ at e23
            simp only [execOp]
            go_simp
            exact hK _ _ rfl (Grew.refl _)
          · refine plainG rfl ?_
            intro bA K Q' hK
            have e18 := hG 3 18 (by decide) (by kernel_rfl) (by kernel_rfl)
            have e24 := hG 9 24 (by decide) (by kernel_rfl) (by kernel_rfl)
            change ρ (.tmp 18) = _ at e18
            change ρ (.tmp 24) = _ at e24
            simp only [execOp]
            go_simp
            exact hK _ _ rfl (Grew.refl _)
        · intro v w4 hR hG
          have h10 := hG.2
          change v 10 = _ at h10
          have hbx : Below w3.heap.size w3 w4 := Below.trans (Below.drew hb3r) hR
          have HBX := hid hbx
          have HB4 : Hid (Below w.heap.size w w4) := hid (HB3.out.trans (hbx.mono HB3.out.size))
          have HROW4 : Hid (w4.heap[w.heap.size]? = _) := hid (row_below HR3.out hbx)
          clear hG hR hbx
          simp [stG, stU, dstAt, Act.put, h10]
          go_upto_region 7 with fail
          refine wp_region_lit ?_
          refine wpList_plain rfl fun K hK => ?_
          go_simp
          refine hK _ _ ?_
          refine wpList_store_own rfl 67 _ _ rfl w.heap.size zc rfl rfl 67 _ HROW4.out (by kernel_rfl) rfl (by simp [Value.oneCell', zc]) ?_
          intro w5 hr5 hg5
          have HR5 := hid hr5
          have HB5 : Hid (Below w.heap.size w w5) := hid (below_grown HB4.out hg5 (Nat.le_refl _) HB4.out.size)
          clear hr5 hg5
          go_wp2_with fail
          refine bodyPost_ret (v := .tuple #[.agg zc, .int .i64 3]) (res25 _ _ _ _ rfl HR5.out rfl) rfl ⟨?_, HB5.out⟩
          exact DecOk.bad HD3.out (by decide)
      · have HD0 : Hid (decE bs = 0) := hid (by rw [HDE.out, if_pos (of_decide_eq_true hE)])
        have HOUT := hid (HOUT.out HD0.out)
        rw [hE] at HEQ
        clear hE HDE
        refine wp_region_grows 11 [Eqv' (.agg #[.int .i64 (picked bs).k, .int .i64 (picked bs).e, .int .i64 (picked bs).p, .slice a2 (picked bs).b.length c2]), Eqv' (.int .i64 0), Eqv' (.bool false), Eqv' (.bool false), Eqv' (.agg #[.int .i64 (picked bs).k, .int .i64 (picked bs).e, .int .i64 (picked bs).p, .slice a2 (picked bs).b.length c2]), (fun x v => ∃ aL cL, v = .slice aL (laid (picked bs)).length cL ∧ Sl (fun _ => True) x aL (laid (picked bs))), Eqv' (.slice (some ⟨b, o, none⟩) 256 c), Eqv' (.slice (some ⟨b, o, none⟩) 252 252), Eqv' (.bool true), Eqv' (.bool false), Eqv' (.bool false)] (by kernel_rfl) (by decide) (by kernel_rfl) ?_ ?_ ?_
        · repeat' (first | exact List.forall_mem_nil _ | refine List.forall_mem_cons.2 ⟨?_, ?_⟩)
          all_goals
            intro w w' v hw h
            first | exact h | (obtain ⟨aL, cL, rfl, h1⟩ := h; exact ⟨aL, cL, rfl, h1.below hw⟩)
        · simp only [AllLt]
          refine ⟨⟨⟨⟨⟨⟨⟨⟨⟨⟨⟨trivial, ?_⟩, ?_⟩, ?_⟩, ?_⟩, ?_⟩, ?_⟩, ?_⟩, ?_⟩, ?_⟩, ?_⟩, ?_⟩
          all_goals
            intro o' ho
            simp at ho
            subst ho
            intro ρ w4 hR hL hS hG
            obtain ⟨hl1, hl2, -⟩ := hL
          · refine plainG rfl ?_
            intro bA K Q' hK
            have e4 := hS 4 (by kernel_rfl)
            change ρ (.tmp 4) = _ at e4
            obtain ⟨-, k0, k1, k2, k3⟩ := HST.out w4 (Below.trans (Below.drew hb3r) hR)
            simp only [execOp]
            go_simp
            exact hK _ _ rfl (Grew.refl _)
          · refine plainG rfl ?_
            intro bA K Q' hK
            have e15 := hG 0 15 (by decide) (by kernel_rfl) (by kernel_rfl)
            change ρ (.tmp 15) = _ at e15
            simp only [execOp]
            go_simp
            refine (HCK.out w4).mono ?_
            rintro r w5 ⟨rfl, hb⟩
            exact hK _ _ rfl hb
          · refine plainG rfl ?_
            intro bA K Q' hK
            have e16 := hG 1 16 (by decide) (by kernel_rfl) (by kernel_rfl)
            change ρ (.tmp 16) = _ at e16
            simp only [execOp]
            go_simp
            exact hK _ _ rfl (Grew.refl _)
          · refine plainG rfl ?_
            intro bA K Q' hK
            have e17 := hG 2 17 (by decide) (by kernel_rfl) (by kernel_rfl)
            change ρ (.tmp 17) = _ at e17
            simp only [execOp]
            go_simp
            exact hK _ _ rfl (Grew.refl _)
          · have eG : ρ (.tmp 18) = _ := hG 3 18 (by decide) (by kernel_rfl) (by kernel_rfl)
            refine onG rfl (by kernel_rfl) eG ?_
            intro bA K Q' hK
            have e4 := hS 4 (by kernel_rfl)
            change ρ (.tmp 4) = _ at e4
            obtain ⟨-, k0, k1, k2, k3⟩ := HST.out w4 (Below.trans (Below.drew hb3r) hR)
            simp only [execOp]
            go_simp
            exact hK _ _ rfl (Grew.refl _)
          · have eG : ρ (.tmp 18) = _ := hG 3 18 (by decide) (by kernel_rfl) (by kernel_rfl)
            refine onG rfl (by kernel_rfl) eG ?_
            intro bA K Q' hK
            have e19 := hG 4 19 (by decide) (by kernel_rfl) (by kernel_rfl)
            change ρ (.tmp 19) = _ at e19
            simp only [execOp]
            go_simp
            refine (HLY.out w4 (Below.trans (Below.drew hb3r) hR)).mono ?_
            rintro r w5 ⟨v, rfl, hv, hb⟩
            obtain ⟨aL, cL, rfl, hnL, hcL, hmL, hsL⟩ := hv.sl
            exact hK _ _ ⟨aL, cL, rfl, hsL.mono fun _ _ _ => trivial⟩ hb
          · have eG : ρ (.tmp 18) = _ := hG 3 18 (by decide) (by kernel_rfl) (by kernel_rfl)
            refine onG rfl (by kernel_rfl) eG ?_
            intro bA K Q' hK
            have e0 := hS 0 (by kernel_rfl)
            change ρ (.tmp 0) = _ at e0
            simp only [execOp]
            go_simp
            exact hK _ _ rfl (Grew.refl _)
          · have eG : ρ (.tmp 18) = _ := hG 3 18 (by decide) (by kernel_rfl) (by kernel_rfl)
            refine onG rfl (by kernel_rfl) eG ?_
            intro bA K Q' hK
            have e21 := hG 6 21 (by decide) (by kernel_rfl) (by kernel_rfl)
            change ρ (.tmp 21) = _ at e21
            simp only [execOp]
            go_simp
            rw [if_pos (by omega)]
            exact hK _ _ rfl (Grew.refl _)
          · have eG : ρ (.tmp 18) = _ := hG 3 18 (by decide) (by kernel_rfl) (by kernel_rfl)
            refine onG rfl (by kernel_rfl) eG ?_
            intro bA K Q' hK
            have e20 := hG 5 20 (by decide) (by kernel_rfl) (by kernel_rfl)
            have e22 := hG 7 22 (by decide) (by kernel_rfl) (by kernel_rfl)
            obtain ⟨aL, cL, e20, hsL⟩ := e20
            change ρ (.tmp 22) = _ at e22
            simp only [execOp]
            go_simp
            refine (HEQ.out w4 aL cL _ (Below.trans (Below.drew hb3r) hR) hsL).mono ?_
            rintro r w5 ⟨rfl, rfl⟩
            exact hK _ _ rfl (Grew.refl _)
          · have eG : ρ (.tmp 18) = _ := hG 3 18 (by decide) (by kernel_rfl) (by kernel_rfl)
            refine onG rfl (by kernel_rfl) eG ?_
            intro bA K Q' hK
            have e23 := hG 8 23 (by decide) (by kernel_rfl) (by kernel_rfl)
            change ρ (.tmp 23) = _ at e23
            simp only [execOp]
            go_simp
            exact hK _ _ rfl (Grew.refl _)
          · refine plainG rfl ?_
            intro bA K Q' hK
            have e18 := hG 3 18 (by decide) (by kernel_rfl) (by kernel_rfl)
            have e24 := hG 9 24 (by decide) (by kernel_rfl) (by kernel_rfl)
            change ρ (.tmp 18) = _ at e18
            change ρ (.tmp 24) = _ at e24
            simp only [execOp]
            go_simp
            exact hK _ _ rfl (Grew.refl _)
        · intro v w4 hR hG
          have h10 := hG.2
          change v 10 = _ at h10
          have hbx : Below w3.heap.size w3 w4 := Below.trans (Below.drew hb3r) hR
          have HBX := hid hbx
          have HB4 : Hid (Below w.heap.size w w4) := hid (HB3.out.trans (hbx.mono HB3.out.size))
          have HROW4 : Hid (w4.heap[w.heap.size]? = _) := hid (row_below HR3.out hbx)
          clear hG hR hbx
          simp [stG, stU, dstAt, Act.put, h10]
          obtain ⟨-, k0, k1, k2, k3⟩ := HST.out w4 HBX.out
          go_upto_region 8 with fail
          refine wp_region_lit ?_
          refine wpList_plain rfl fun K hK => ?_
          go_simp
          refine hK _ _ ?_
          refine wpList_store_own rfl 67 _ _ rfl w.heap.size #[.int .i64 (picked bs).k, .int .i64 (picked bs).e, .int .i64 (picked bs).p, .slice a2 (picked bs).b.length c2] rfl rfl 67 _ HROW4.out (by kernel_rfl) rfl (by simp [Value.oneCell']) ?_
          intro w5 hr5 hg5
          have HR5 := hid hr5
          have HB5 : Hid (Below w.heap.size w w5) := hid (below_grown HB4.out hg5 (Nat.le_refl _) HB4.out.size)
          have HO5 := hid (HOUT.out w4 HBX.out w5 (.inr hg5))
          clear hr5 hg5 k0 k1 k2 k3
          go_wp2_with fail
          refine bodyPost_ret (v := .tuple #[.agg #[.int .i64 (picked bs).k, .int .i64 (picked bs).e, .int .i64 (picked bs).p, .slice a2 (picked bs).b.length c2], .int .i64 0]) (res25 _ _ _ _ rfl HR5.out rfl) rfl ⟨HO5.out, HB5.out⟩
end Go.Proofs.Ytebacgkeolofmaa
namespace Go.Proofs.Ytebacgkeolofmaa
open Go.RowKit Go.Inc

/-- What is wrong with a page, of some kinds. -/
def opnE (bs : List Nat) (page : Int) (kinds : List Int) : Nat := if decE bs ≠ 0 then decE bs else if (decF bs).p ≠ page then 5 else if kinds ≠ [] ∧ ¬ (decF bs).k ∈ kinds then 13 else 0
def opnF (bs : List Nat) (page : Int) (kinds : List Int) : Fr := if opnE bs page kinds = 0 then decF bs else zeroFr
def OpnOk (ok : Nat → Prop) (bs : List Nat) (page : Int) (kinds : List Int) (r : Ending) (w' : World) : Prop :=
  ∃ v, r = .returned (.tuple #[.agg #[.int .i64 (opnF bs page kinds).k, .int .i64 (opnF bs page kinds).e, .int .i64 (opnF bs page kinds).p, v], .int .i64 (opnE bs page kinds : Nat)]) ∧ Bb ok w' v (opnF bs page kinds).b
abbrev OpnAns (bs : List Nat) (page : Int) (kinds : List Int) (B : Nat) (r : Ending) (w' : World) : Prop := OpnOk (fun b => B ≤ b) bs page kinds r w'
theorem OpnOk.bad {ok : Nat → Prop} {bs : List Nat} {page : Int} {kinds : List Int} {e : Nat} {w' : World} (h : opnE bs page kinds = e) (h0 : e ≠ 0) : OpnOk ok bs page kinds (.returned (.tuple #[.agg #[.int .i64 0, .int .i64 0, .int .i64 0, .slice none 0 0], .int .i64 (e : Int)])) w' := by
  unfold OpnOk opnF
  rw [h, if_neg h0]
  exact ⟨_, rfl, none, 0, rfl, Sl.nil _ _ _, Nat.le_refl _, Nat.zero_le _, fun _ => rfl⟩
theorem OpnOk.good {ok : Nat → Prop} {bs : List Nat} {page : Int} {kinds : List Int} {w' : World} {v : Value} (h : opnE bs page kinds = 0) (hv : Bb ok w' v (decF bs).b) :
    OpnOk ok bs page kinds (.returned (.tuple #[.agg #[.int .i64 (decF bs).k, .int .i64 (decF bs).e, .int .i64 (decF bs).p, v], .int .i64 0])) w' := by
  unfold OpnOk opnF
  rw [h, if_pos rfl]
  exact ⟨v, rfl, hv⟩
theorem decE_cases (bs : List Nat) : decE bs = 0 ∨ decE bs = 2 ∨ decE bs = 3 ∨ decE bs = 5 := by
  unfold decE
  split
  · exact .inr (.inl rfl)
  · split
    · exact .inr (.inr (.inr rfl))
    · split
      · exact .inl rfl
      · exact .inr (.inr (.inl rfl))
/-- Decode, wherever the bytes lie. -/
theorem decode_any (ok : Nat → Prop) (a : Option Addr) (c : Nat) (bs : List Nat) (w : World) (hs : Sl ok w a bs) (hby : Bytes bs) (hc : bs.length ≤ c ∧ c ≤ maxLen) :
    Calls Try.prog 59 #[.slice a bs.length c] w fun r w' => DecAns bs w.heap.size r w' ∧ Below w.heap.size w w' := by
  by_cases hl : bs.length = 256
  · rcases hs with h | ⟨b, o, rfl, _, hcell⟩
    · rw [h] at hl; cases hl
    · have h := decode_sum b o c bs w (.inr ⟨b, o, rfl, trivial, hcell⟩) hby hl (by omega)
      rw [hl]
      exact h
  · exact decode_len a c bs w (by omega)
theorem res21 (w : World) (g : Nat) (cs : Array Value) (tmps : Array Value) (h2 : tmps.getD 6 undef = .pointer (some ⟨g, 0, none⟩)) (hg : w.heap[g]? = some (.cells cs 67 (0, 0))) (hs : cs.size = 4) :
    (results Try.f36 tmps).run Try.prog w = .ok (.tuple #[.agg cs, tmps.getD 7 undef]) w :=
  res_cell_tmp rfl tmps w g 67 cs (0, 0) _ h2 hg Try.underlying67 rfl (by rw [hs]; kernel_rfl)

set_option maxRecDepth 20000 in
set_option maxHeartbeats 2000000 in
theorem open_any (ok ok2 : Nat → Prop) (a : Option Addr) (c : Nat) (bs : List Nat) (page : Int) (a2 : Option Addr) (c2 : Nat) (kinds : List Int) (w : World) (hs : Sl ok w a bs) (hby : Bytes bs) (hc : bs.length ≤ c ∧ c ≤ maxLen) (hk : Si ok2 w a2 kinds) (hkl : (kinds.length : Int) ≤ 9223372036854775807) :
    Calls Try.prog 36 #[.slice a bs.length c, .int .i64 page, .slice a2 kinds.length c2] w fun r w' => OpnAns bs page kinds w.heap.size r w' ∧ Below w.heap.size w w' := by
  obtain ⟨wb, hwb⟩ : ∃ wb, wb = w.alloc (.cells #[.int .i64 0, .int .i64 0, .int .i64 0, .slice none 0 0] 67) := ⟨_, rfl⟩
  have hb : Below w.heap.size w wb := by rw [hwb]; exact (Below.refl _ _).alloc (Nat.le_refl _) _
  have hr : wb.heap[w.heap.size]? = some (.cells #[.int .i64 0, .int .i64 0, .int .i64 0, .slice none 0 0] 67 (0, 0)) := by rw [hwb]; exact heap_alloc_new w _
  have HD := hid (decode_any ok a c bs wb (hs.below hb) hby hc)
  have HK := hid (hk.below hb)
  have HWB := hid hwb
  have HB := hid hb
  have HR := hid hr
  have HE : Hid (opnE bs page kinds = if decE bs ≠ 0 then decE bs else if (decF bs).p ≠ page then 5 else if kinds ≠ [] ∧ ¬ (decF bs).k ∈ kinds then 13 else 0) := hid rfl
  have HDE : Hid (decE bs = 0 ∨ decE bs = 2 ∨ decE bs = 3 ∨ decE bs = 5) := hid (decE_cases bs)
  clear hs hby hc hk hb hr hwb
  go_enter Try.func36, Try.ntmps36
  go_wp2_with fail
  rw [← HWB.out]
  refine HD.out.mono ?_
  rintro r w1 ⟨⟨v, rfl, hv⟩, hb1⟩
  obtain ⟨a3, c3, rfl, hs3, hlc3, hm3, hn3⟩ := hv
  obtain ⟨w3, hw3⟩ : ∃ w3, w3 = w1.alloc (.cells #[.int .i64 (decF bs).k, .int .i64 (decF bs).e, .int .i64 (decF bs).p, .slice a3 (decF bs).b.length c3] 67) := ⟨_, rfl⟩
  have hb3 : Below w1.heap.size w1 w3 := by rw [hw3]; exact (Below.refl _ _).alloc (Nat.le_refl _) _
  have hr3 : w3.heap[w1.heap.size]? = some (.cells #[.int .i64 (decF bs).k, .int .i64 (decF bs).e, .int .i64 (decF bs).p, .slice a3 (decF bs).b.length c3] 67 (0, 0)) := by rw [hw3]; exact heap_alloc_new w1 _
  have HB3 : Hid (Below w.heap.size w w3) := hid ((HB.out.trans (hb1.mono HB.out.size)).trans (hb3.mono (HB.out.trans (hb1.mono HB.out.size)).size))
  have HR3 : Hid (w3.heap[w.heap.size]? = _) := hid (row_below (row_below HR.out hb1) hb3)
  have HV3 : Hid (Bb (fun b => w.heap.size + 1 ≤ b) w3 (.slice a3 (decF bs).b.length c3) (decF bs).b) := hid ⟨a3, c3, rfl, (hs3.mono fun b h _ => Nat.le_trans (row_lt HR.out) h).below hb3, hlc3, hm3, hn3⟩
  have HK3 := hid ((HK.out.below hb1).below hb3)
  have q0 := cell_of_row w3 _ 0 _ _ _ hr3
  have q1 := cell_of_row w3 _ 1 _ _ _ hr3
  have q2 := cell_of_row w3 _ 2 _ _ _ hr3
  have q3 := cell_of_row w3 _ 3 _ _ _ hr3
  have HW3 := hid hw3
  have HGOOD : Hid (opnE bs page kinds = 0 → ∀ y, w3.grownBy y (some w.heap.size) → OpnAns bs page kinds w.heap.size (.returned (.tuple #[.agg #[.int .i64 (decF bs).k, .int .i64 (decF bs).e, .int .i64 (decF bs).p, .slice a3 (decF bs).b.length c3], .int .i64 0])) y) := hid fun h y hy => by
    refine OpnOk.good h ?_
    obtain ⟨a1, c1, he, hs1, hr1⟩ := HV3.out
    exact ⟨a1, c1, he, (hs1.grown hy (fun b hb => by omega)).mono fun b hb _ => by omega, hr1⟩
  clear hs3 hlc3 hm3 hn3 hb1 hb3 hw3 hr3 HD HB HR HK HV3
  by_cases hd : decE bs = 0
  · have HE : Hid (opnE bs page kinds = if (decF bs).p ≠ page then 5 else if kinds ≠ [] ∧ ¬ (decF bs).k ∈ kinds then 13 else 0) := hid (by rw [HE.out, if_neg (by simp [hd])])
    rw [hd]
    clear hd HDE
    by_cases hp : (decF bs).p = page
    · have hp1 : ((decF bs).p != page) = false := by rw [bne_eq_false_iff_eq]; exact hp
      have HE : Hid (opnE bs page kinds = if kinds ≠ [] ∧ ¬ (decF bs).k ∈ kinds then 13 else 0) := hid (by rw [HE.out, if_neg (by simp [hp])])
      clear hp
      have HAM := hid (among_any ok2 (decF bs).k a2 c2 kinds w3 HK3.out hkl)
      by_cases hk : kinds.length = 0
      · have hk0 : kinds = [] := List.eq_nil_of_length_eq_zero hk
        have HE0 : Hid (opnE bs page kinds = 0) := hid (by rw [HE.out, if_neg (fun h => h.1 hk0)])
        have HGOOD := hid (HGOOD.out HE0.out)
        have HGOOD : Hid (∀ y, w3.grownBy y (some w.heap.size) → OpnAns bs page kinds w.heap.size (.returned (.tuple #[.agg #[.int .i64 (decF bs).k, .int .i64 (decF bs).e, .int .i64 (decF bs).p, .slice a3 (decF bs).b.length c3], .int .i64 0])) y) := HGOOD
        clear hk HAM HE HK3
        rw [show kinds.length = 0 from by rw [hk0]; rfl]
        clear hk0 HE0
        go_upto_region 8 with fail
        rw [← HW3.out]
        refine wp_region_lit ?_
        refine wpList_plain rfl fun K hK => ?_
        go_simp
        refine hK _ _ ?_
        refine wpList_store_own rfl 67 _ _ rfl w.heap.size #[.int .i64 (decF bs).k, .int .i64 (decF bs).e, .int .i64 (decF bs).p, .slice a3 (decF bs).b.length c3] rfl rfl 67 _ HR3.out (by kernel_rfl) rfl (by simp [Value.oneCell']) ?_
        intro w9 hr9 hg9
        have HR9 := hid hr9
        have HB9 : Hid (Below w.heap.size w w9) := hid (below_grown HB3.out hg9 (Nat.le_refl _) HB3.out.size)
        have HO9 := hid (HGOOD.out w9 hg9)
        clear hr9 hg9
        go_wp2_with fail
        refine bodyPost_ret (v := .tuple #[.agg #[.int .i64 (decF bs).k, .int .i64 (decF bs).e, .int .i64 (decF bs).p, .slice a3 (decF bs).b.length c3], .int .i64 0]) (res21 _ _ _ _ rfl HR9.out rfl) rfl ⟨HO9.out, HB9.out⟩
      · have HE : Hid (opnE bs page kinds = if ¬ (decF bs).k ∈ kinds then 13 else 0) := hid (by
          rw [HE.out]
          have : kinds ≠ [] := fun h => hk (by rw [h]; rfl)
          by_cases hm : (decF bs).k ∈ kinds <;> simp [hm, this])
        clear HK3
        generalize kinds.length = n at *
        have hk1 : ((0 : Int) < (n : Int)) = True := eq_true (by omega)
        have hk2 : (0 < n) = True := eq_true (by omega)
        clear hk
        cases hm : decide ((decF bs).k ∈ kinds)
        · have HE0 : Hid (opnE bs page kinds = 13) := hid (by rw [HE.out, if_pos (of_decide_eq_false hm)])
          rw [hm] at HAM
          clear hm HE HGOOD
          go_wp2_with fail
          rw [← HW3.out]
          refine HAM.out.mono ?_
          rintro r w4 ⟨rfl, rfl⟩
          clear HAM
          go_upto_region 7 with fail
          refine wp_region_lit ?_
          refine wpList_plain rfl fun K hK => ?_
          go_simp
          refine hK _ _ ?_
          refine wpList_store_own rfl 67 _ _ rfl w.heap.size zc rfl rfl 67 _ HR3.out (by kernel_rfl) rfl (by simp [Value.oneCell', zc]) ?_
          intro w9 hr9 hg9
          have HR9 := hid hr9
          have HB9 : Hid (Below w.heap.size w w9) := hid (below_grown HB3.out hg9 (Nat.le_refl _) HB3.out.size)
          clear hr9 hg9
          go_wp2_with fail
          refine bodyPost_ret (v := .tuple #[.agg zc, .int .i64 13]) (res21 _ _ _ _ rfl HR9.out rfl) rfl ⟨?_, HB9.out⟩
          exact OpnOk.bad HE0.out (by decide)
        · have HE0 : Hid (opnE bs page kinds = 0) := hid (by rw [HE.out, if_neg (by simpa using of_decide_eq_true hm)])
          rw [hm] at HAM
          clear hm HE
          have HGOOD := hid (HGOOD.out HE0.out)
          go_wp2_with fail
          rw [← HW3.out]
          refine HAM.out.mono ?_
          rintro r w4 ⟨rfl, rfl⟩
          clear HAM
          go_upto_region 8 with fail
          refine wp_region_lit ?_
          refine wpList_plain rfl fun K hK => ?_
          go_simp
          refine hK _ _ ?_
          refine wpList_store_own rfl 67 _ _ rfl w.heap.size #[.int .i64 (decF bs).k, .int .i64 (decF bs).e, .int .i64 (decF bs).p, .slice a3 (decF bs).b.length c3] rfl rfl 67 _ HR3.out (by kernel_rfl) rfl (by simp [Value.oneCell']) ?_
          intro w9 hr9 hg9
          have HR9 := hid hr9
          have HB9 : Hid (Below w.heap.size w w9) := hid (below_grown HB3.out hg9 (Nat.le_refl _) HB3.out.size)
          have HO9 := hid (HGOOD.out w9 hg9)
          clear hr9 hg9
          go_wp2_with fail
          refine bodyPost_ret (v := .tuple #[.agg #[.int .i64 (decF bs).k, .int .i64 (decF bs).e, .int .i64 (decF bs).p, .slice a3 (decF bs).b.length c3], .int .i64 0]) (res21 _ _ _ _ rfl HR9.out rfl) rfl ⟨HO9.out, HB9.out⟩
    · have hp1 : ((decF bs).p != page) = true := by rw [bne_iff_ne]; exact hp
      have HE0 : Hid (opnE bs page kinds = 5) := hid (by rw [HE.out, if_pos hp])
      clear hp HE HGOOD HK3
      go_upto_region 5 with fail
      rw [← HW3.out]
      refine wp_region_lit ?_
      refine wpList_plain rfl fun K hK => ?_
      go_simp
      refine hK _ _ ?_
      refine wpList_store_own rfl 67 _ _ rfl w.heap.size zc rfl rfl 67 _ HR3.out (by kernel_rfl) rfl (by simp [Value.oneCell', zc]) ?_
      intro w9 hr9 hg9
      have HR9 := hid hr9
      have HB9 : Hid (Below w.heap.size w w9) := hid (below_grown HB3.out hg9 (Nat.le_refl _) HB3.out.size)
      clear hr9 hg9
      go_wp2_with fail
      refine bodyPost_ret (v := .tuple #[.agg zc, .int .i64 5]) (res21 _ _ _ _ rfl HR9.out rfl) rfl ⟨?_, HB9.out⟩
      exact OpnOk.bad HE0.out (by decide)
  · have HE0 : Hid (opnE bs page kinds = decE bs) := hid (by rw [HE.out, if_pos hd])
    have hd1 : (((decE bs : Nat) : Int) != 0) = true := by rw [bne_iff_ne]; omega
    have HNE := hid hd
    clear HE HGOOD HK3 HDE hd
    generalize decE bs = q at *
    go_upto_region 3 with fail
    rw [← HW3.out]
    refine wp_region_lit ?_
    refine wpList_plain rfl fun K hK => ?_
    go_simp
    refine hK _ _ ?_
    refine wpList_plain rfl fun K hK => ?_
    go_simp
    refine hK _ _ ?_
    refine wpList_store_own rfl 67 _ _ rfl w.heap.size zc rfl rfl 67 _ HR3.out (by kernel_rfl) rfl (by simp [Value.oneCell', zc]) ?_
    intro w9 hr9 hg9
    have HR9 := hid hr9
    have HB9 : Hid (Below w.heap.size w w9) := hid (below_grown HB3.out hg9 (Nat.le_refl _) HB3.out.size)
    clear hr9 hg9
    go_wp2_with fail
    refine bodyPost_ret (v := .tuple #[.agg zc, .int .i64 (q : Nat)]) (res21 _ _ _ _ rfl HR9.out rfl) rfl ⟨?_, HB9.out⟩
    exact OpnOk.bad HE0.out HNE.out
end Go.Proofs.Ytebacgkeolofmaa
namespace Go.Proofs.Ytebacgkeolofmaa
open Go.RowKit Go.Inc

/-- A superblock. -/
structure Sp where
  e : Int
  r : Int
  s : Int
  t : Int
def zeroSp : Sp := ⟨0, 0, 0, 0⟩
def Sp.val (x : Sp) : Value := .agg #[.int .i64 x.e, .int .i64 x.r, .int .i64 x.s, .int .i64 x.t]
theorem Sp.ext' {x y : Sp} (h1 : x.e = y.e) (h2 : x.r = y.r) (h3 : x.s = y.s) (h4 : x.t = y.t) : x = y := by
  cases x; cases y; cases h1; cases h2; cases h3; cases h4; rfl
def pgOk (n : Int) : Bool := decide (n = 0 ∨ 2 ≤ n ∧ n ≤ 2047)
def Sp.ok (x : Sp) : Bool := decide (1 ≤ x.e ∧ x.e ≤ 4294967295) && pgOk x.r && pgOk x.s && decide (0 ≤ x.t ∧ x.t ≤ 2147483647)
def spChk (x : Sp) : Nat := if x.ok = true then 0 else 10
theorem spOk_iff (x : Sp) : x.ok = true ↔ (1 ≤ x.e ∧ x.e ≤ 4294967295) ∧ (x.r = 0 ∨ 2 ≤ x.r ∧ x.r ≤ 2047) ∧ (x.s = 0 ∨ 2 ≤ x.s ∧ x.s ≤ 2047) ∧ (0 ≤ x.t ∧ x.t ≤ 2147483647) := by
  unfold Sp.ok pgOk
  simp only [Bool.and_eq_true, decide_eq_true_eq, and_assoc]
theorem spChk_ok {x : Sp} (h : x.ok = true) : spChk x = 0 := by unfold spChk; rw [if_pos h]
theorem spChk_no {x : Sp} (h : x.ok = false) : spChk x = 10 := by unfold spChk; rw [if_neg (by rw [h]; decide)]
theorem spChk_zero (x : Sp) : spChk x = 0 ↔ x.ok = true := by
  unfold spChk
  cases x.ok <;> decide
theorem spChk_cases (x : Sp) : spChk x = 0 ∨ spChk x = 10 := by
  unfold spChk
  cases x.ok
  · exact .inr rfl
  · exact .inl rfl
/-- The page of an epoch. -/
def slot (e : Int) : Nat := (e % 2).toNat
theorem slot_int (e : Int) : ((slot e : Nat) : Int) = e % 2 := by unfold slot; omega
theorem slot_lt (e : Int) : slot e < 2 := by unfold slot; omega
def body (x : Sp) : List Nat := fr2 x.r.toNat ++ fr2 x.s.toNat ++ fr4 x.t.toNat
theorem body_len (x : Sp) : (body x).length = 8 := rfl
theorem body_bytes (x : Sp) : Bytes (body x) := ((fr2_bytes _).append (fr2_bytes _)).append (fr4_bytes _)
/-- Its frame. -/
def spFr (x : Sp) : Fr := ⟨1, x.e, (slot x.e : Nat), body x⟩
theorem spFr_ok {x : Sp} (h : x.ok = true) : (spFr x).ok := by
  have := (spOk_iff x).1 h
  have := slot_lt x.e
  unfold spFr Fr.ok
  simp only [body_len]
  omega
def spEnc (x : Sp) : List Nat := enc (spFr x)
theorem spEnc_len (x : Sp) : (spEnc x).length = 256 := enc_len (by show (body x).length ≤ 238; rw [body_len]; decide)
theorem spEnc_bytes (x : Sp) : Bytes (spEnc x) := enc_bytes (body_bytes x)
/-- What a body tells. -/
def spOf (e : Int) (b : List Nat) : Sp := ⟨e, (Var.num (frAt b 0 2) : Nat), (Var.num (frAt b 2 2) : Nat), (Var.num (frAt b 4 4) : Nat)⟩
theorem spOf_body {x : Sp} (h : x.ok = true) : spOf x.e (body x) = x := by
  have := (spOk_iff x).1 h
  have e1 : frAt (body x) 0 2 = fr2 x.r.toNat := rfl
  have e2 : frAt (body x) 2 2 = fr2 x.s.toNat := rfl
  have e3 : frAt (body x) 4 4 = fr4 x.t.toNat := rfl
  unfold spOf
  rw [e1, e2, e3, num_fr2 (by omega), num_fr2 (by omega), num_fr4 (by omega)]
  refine Sp.ext' rfl ?_ ?_ ?_ <;> simp only <;> omega
/-- What is wrong with a page. -/
def flE (bs : List Nat) (page : Int) : Nat :=
  if page = 0 ∨ page = 1 then (if opnE bs page [1] ≠ 0 then opnE bs page [1] else if (decF bs).b.length = 8 ∧ ((slot (decF bs).e : Nat) : Int) = page ∧ (spOf (decF bs).e (decF bs).b).ok = true then 0 else 3) else 10
def flS (bs : List Nat) (page : Int) : Sp := if flE bs page = 0 then spOf (decF bs).e (decF bs).b else zeroSp
theorem flS_bad {bs : List Nat} {page : Int} (h : flE bs page ≠ 0) : flS bs page = zeroSp := by unfold flS; rw [if_neg h]
theorem opnE_enc {f : Fr} (h : f.ok) (page : Int) (kinds : List Int) : opnE (enc f) page kinds = if f.p ≠ page then 5 else if kinds ≠ [] ∧ ¬ f.k ∈ kinds then 13 else 0 := by
  unfold opnE
  rw [if_neg (by rw [decE_enc h]; simp), decF_enc h]
/-- A superblock's bytes tell it on its page, and nothing on the other one. -/
theorem flE_enc {x : Sp} (h : x.ok = true) : flE (spEnc x) (slot x.e : Nat) = 0 := by
  have h2 : ((slot x.e : Nat) : Int) = 0 ∨ ((slot x.e : Nat) : Int) = 1 := by have := slot_lt x.e; omega
  have ho : opnE (spEnc x) (slot x.e : Nat) [1] = 0 := by
    unfold spEnc
    rw [opnE_enc (spFr_ok h), if_neg (by simp [spFr]), if_neg (by simp [spFr])]
  have hd : decF (spEnc x) = spFr x := decF_enc (spFr_ok h)
  unfold flE
  rw [if_pos h2, ho, if_neg (by simp), hd, if_pos]
  refine ⟨rfl, rfl, ?_⟩
  show (spOf x.e (body x)).ok = true
  rw [spOf_body h, h]
theorem flS_enc {x : Sp} (h : x.ok = true) : flS (spEnc x) (slot x.e : Nat) = x := by
  have hd : decF (spEnc x) = spFr x := decF_enc (spFr_ok h)
  unfold flS
  rw [if_pos (flE_enc h), hd]
  exact spOf_body h
theorem flE_other {x : Sp} (h : x.ok = true) : flE (spEnc x) (1 - (slot x.e : Nat)) = 5 := by
  have h2 : (1 - ((slot x.e : Nat) : Int)) = 0 ∨ (1 - ((slot x.e : Nat) : Int)) = 1 := by have := slot_lt x.e; omega
  have hne : (spFr x).p ≠ 1 - ((slot x.e : Nat) : Int) := by show ((slot x.e : Nat) : Int) ≠ _; omega
  have ho : opnE (spEnc x) (1 - (slot x.e : Nat)) [1] = 5 := by
    unfold spEnc
    rw [opnE_enc (spFr_ok h), if_pos hne]
  unfold flE
  rw [if_pos h2, ho, if_pos (by decide)]
theorem flS_ok {bs : List Nat} {page : Int} (h : flE bs page = 0) : (flS bs page).ok = true ∧ ((slot (flS bs page).e : Nat) : Int) = page := by
  unfold flS
  rw [if_pos h]
  unfold flE at h
  split at h
  · split at h
    · rename_i h1; exact absurd h h1
    · split at h
      · rename_i h1; exact ⟨h1.2.2, h1.2.1⟩
      · cases h
  · cases h
theorem opnE_le (bs : List Nat) (page : Int) (kinds : List Int) : opnE bs page kinds ≤ 13 := by
  have := decE_cases bs
  unfold opnE
  repeat' split
  all_goals omega
theorem flE_le (bs : List Nat) (page : Int) : flE bs page ≤ 13 := by
  have := opnE_le bs page [1]
  unfold flE
  repeat' split
  all_goals omega
/-- The one that counts, of two pages. -/
def fiE (a b : List Nat) : Nat := if flE a 0 ≠ 0 ∧ flE b 1 ≠ 0 then 5 else 0
def fiS (a b : List Nat) : Sp := if flE a 0 ≠ 0 ∧ flE b 1 ≠ 0 then zeroSp else if flE a 0 ≠ 0 ∨ flE b 1 = 0 ∧ (flS a 0).e < (flS b 1).e then flS b 1 else flS a 0
theorem fiE_cases (a b : List Nat) : fiE a b = 0 ∨ fiE a b = 5 := by unfold fiE; split <;> simp
theorem fiS_ok {a b : List Nat} (h : fiE a b = 0) : (fiS a b).ok = true := by
  unfold fiE at h
  split at h
  · cases h
  · rename_i hn
    unfold fiS
    rw [if_neg hn]
    split
    · rename_i h2
      exact (flS_ok (by omega)).1
    · exact (flS_ok (by omega)).1
theorem fiS_bad {a b : List Nat} (h : fiE a b ≠ 0) : fiS a b = zeroSp := by
  unfold fiE at h
  unfold fiS
  split at h
  · rename_i hn; rw [if_pos hn]
  · exact absurd rfl h
theorem fiS_page {a b : List Nat} (h : fiE a b = 0) : fiS a b = (if slot (fiS a b).e = 0 then flS a 0 else flS b 1) ∧ flE (if slot (fiS a b).e = 0 then a else b) (slot (fiS a b).e : Nat) = 0 := by
  unfold fiE at h
  split at h
  · cases h
  · rename_i hn
    have hc : fiS a b = if flE a 0 ≠ 0 ∨ flE b 1 = 0 ∧ (flS a 0).e < (flS b 1).e then flS b 1 else flS a 0 := by unfold fiS; rw [if_neg hn]
    rw [hc]
    split
    · have hb : flE b 1 = 0 := by omega
      have := (flS_ok hb).2
      rw [if_neg (by omega), if_neg (by omega)]
      exact ⟨rfl, by rw [this]; exact hb⟩
    · have ha : flE a 0 = 0 := by omega
      have := (flS_ok ha).2
      rw [if_pos (by omega), if_pos (by omega)]
      exact ⟨rfl, by rw [this]; exact ha⟩
end Go.Proofs.Ytebacgkeolofmaa
