/- CONTRACT: the frame of bytes, or what is wrong. CONTRACTS: a number's page is opened (the program's). PLAIN FACTS OF SUPERBLOCKS: when one is right, its bytes, what a page's bytes tell, the one that counts. CONTRACT: the document's frame of bytes, or what is wrong. CONTRACT: a number's page is opened (the document's). -/
import Derived.Test.YtebacgkeolofmaaU5
import Derived.Test.YtebacgkeolofmaaU14
import Derived.Test.YtebacgkeolofmaaU4
import Derived.Deep.RegionHeld3
import Derived.Deep.CutBlock
import Derived.Test.YtebacgkeolofmaaU10
import Derived.BigQuiet
import Derived.Deep.QuietTactic
namespace Go.Proofs.Ytebacgkeolofmaa
open Go.RowKit Go.Inc

/-- What Decode answers. -/
def DecOk (ok : Nat → Prop) (bs : List Nat) (r : Ending) (w' : World) : Prop := ∃ v, r = .returned (.tuple #[.agg #[.int .i64 (decF bs).k, .int .i64 (decF bs).e, .int .i64 (decF bs).p, v], .int .i64 (decE bs : Nat)]) ∧ Bb ok w' v (decF bs).b
abbrev DecAns (bs : List Nat) (B : Nat) (r : Ending) (w' : World) : Prop := DecOk (fun b => B ≤ b) bs r w'
theorem DecOk.bad {ok : Nat → Prop} {bs : List Nat} {e : Nat} {w' : World} (h : decE bs = e) (h0 : e ≠ 0) : DecOk ok bs (.returned (.tuple #[.agg #[.int .i64 0, .int .i64 0, .int .i64 0, .slice none 0 0], .int .i64 (e : Int)])) w' := by
  unfold DecOk decF
  rw [h, if_neg h0]
  exact ⟨_, rfl, none, 0, rfl, Sl.nil _ _ _, Nat.le_refl _, Nat.zero_le _, fun _ => rfl⟩
/-- The cells of a frame of nothing. -/
abbrev zc : Array Value := #[.int .i64 0, .int .i64 0, .int .i64 0, .slice none 0 0]
theorem res25 (w : World) (g : Nat) (cs : Array Value) (tmps : Array Value) (h2 : tmps.getD 2 undef = .pointer (some ⟨g, 0, none⟩)) (hg : w.heap[g]? = some (.cells cs 67 (0, 0))) (hs : cs.size = 4) :
    (results Try.f59 tmps).run Try.prog w = .ok (.tuple #[.agg cs, tmps.getD 3 undef]) w :=
  res_cell_tmp rfl tmps w g 67 cs (0, 0) _ h2 hg Try.underlying67 rfl (by rw [hs]; kernel_rfl)

set_option maxHeartbeats 1000000 in
theorem decode_len (a : Option Addr) (c : Nat) (bs : List Nat) (w : World) (hl : (bs.length : Int) ≠ 256) :
    Calls Try.prog 59 #[.slice a bs.length c] w fun r w' => DecAns bs w.heap.size r w' ∧ Below w.heap.size w w' := by
  have hq : ((bs.length : Int) != 256) = true := by rw [bne_iff_ne]; exact hl
  have HD : Hid (decE bs = 2) := hid (by unfold decE; rw [if_pos (by omega)])
  clear hl
  go_enter Try.func59, Try.ntmps59
  go_wp2_with fail
  refine bodyPost_ret (v := .tuple #[.agg zc, .int .i64 2]) (res25 _ _ _ _ rfl (heap_alloc_new w _) rfl) rfl ⟨?_, (Below.refl _ _).alloc (Nat.le_refl _) _⟩
  exact DecOk.bad HD.out (by decide)

set_option maxHeartbeats 2000000 in
theorem decode_sum (b o c : Nat) (bs : List Nat) (w : World) (hs : Sl (fun _ => True) w (some ⟨b, o, none⟩) bs) (hby : Bytes bs) (hl : bs.length = 256) (hc : 256 ≤ c ∧ c ≤ maxLen) :
    Calls Try.prog 59 #[.slice (some ⟨b, o, none⟩) 256 c] w fun r w' => DecAns bs w.heap.size r w' ∧ Below w.heap.size w w' := by
  obtain ⟨wb, hwb⟩ : ∃ wb, wb = w.alloc (.cells #[.int .i64 0, .int .i64 0, .int .i64 0, .slice none 0 0] 67) := ⟨_, rfl⟩
  have hb : Below w.heap.size w wb := by rw [hwb]; exact (Below.refl _ _).alloc (Nat.le_refl _) _
  have hr : wb.heap[w.heap.size]? = some (.cells #[.int .i64 0, .int .i64 0, .int .i64 0, .slice none 0 0] 67 (0, 0)) := by rw [hwb]; exact heap_alloc_new w _
  have HH0 := holds_any (fun _ => True) (some ⟨b, o, none⟩) c bs wb (hs.below hb) hby (by omega) hc.2
  rw [hl] at HH0
  have HH := hid HH0
  have HSL := hid (hs.below hb)
  have HWB := hid hwb
  have HB := hid hb
  have HR := hid hr
  have HBY := hid hby
  have HL := hid hl
  have HCC := hid hc
  have hm : (c : Int) ≤ 9223372036854775807 := by have := hc.2; unfold maxLen at this; omega
  have hc1 : (256 : Int) ≤ c := by omega
  have HD5 : Hid (holds bs = false → decE bs = 5) := hid fun h => by unfold decE; rw [if_neg (by omega), if_pos h]
  have HD : Hid (holds bs = true → decE bs = if chk (picked bs) = 0 ∧ laid (picked bs) = bs.take 252 then 0 else 3) := hid fun h => by unfold decE; rw [if_neg (by omega), if_neg (by rw [h]; simp)]
  clear hs hby hl hc hb hr hwb HH0
  go_enter Try.func59, Try.ntmps59
  go_wp2_with fail
  rw [← HWB.out]
  refine HH.out.mono ?_
  rintro r w1 ⟨rfl, hb1⟩
  have HSL1 := hid (HSL.out.below hb1)
  have HB1 : Hid (Below w.heap.size w w1) := hid (HB.out.trans (hb1.mono HB.out.size))
  have HR1 : Hid (w1.heap[w.heap.size]? = _) := hid (row_below HR.out hb1)
  clear HSL HB HR hb1 HH HWB
  cases hh : holds bs
  · have HD5' := hid (HD5.out hh)
    clear HD HD5
    go_upto_region 4 with fail
    refine wp_region_lit ?_
    refine wpList_plain rfl fun K hK => ?_
    go_simp
    refine hK _ _ ?_
    refine wpList_store_own rfl 67 _ _ rfl w.heap.size zc rfl rfl 67 _ HR1.out (by kernel_rfl) rfl (by simp [Value.oneCell', zc]) ?_
    intro w2 hr2 hg2
    have HR2 := hid hr2
    have HB2 : Hid (Below w.heap.size w w2) := hid (below_grown HB1.out hg2 (Nat.le_refl _) HB1.out.size)
    clear hr2 hg2
    go_wp2_with fail
    refine bodyPost_ret (v := .tuple #[.agg zc, .int .i64 5]) (res25 _ _ _ _ rfl HR2.out rfl) rfl ⟨?_, HB2.out⟩
    exact DecOk.bad HD5'.out (by decide)
  · have HD' := hid (HD.out hh)
    clear HD HD5
    have HP := hid (pick_any _ b o c bs w1 HSL1.out HBY.out HL.out HCC.out)
    go_wp2_with fail
    refine HP.out.mono ?_
    rintro r w2 ⟨v, rfl, hv, hb2⟩
    obtain ⟨a2, c2, rfl, hs2, hlc2, hm2, hn2⟩ := hv
    obtain ⟨w3, hw3⟩ : ∃ w3, w3 = w2.alloc (.cells #[.int .i64 (picked bs).k, .int .i64 (picked bs).e, .int .i64 (picked bs).p, .slice a2 (picked bs).b.length c2] 67) := ⟨_, rfl⟩
    have hb3 : Below w2.heap.size w2 w3 := by rw [hw3]; exact (Below.refl _ _).alloc (Nat.le_refl _) _
    have hr3 : w3.heap[w2.heap.size]? = some (.cells #[.int .i64 (picked bs).k, .int .i64 (picked bs).e, .int .i64 (picked bs).p, .slice a2 (picked bs).b.length c2] 67 (0, 0)) := by rw [hw3]; exact heap_alloc_new w2 _
    have HW3 := hid hw3
    have HB2 : Hid (Below w.heap.size w w2) := hid (HB1.out.trans (hb2.mono HB1.out.size))
    have HB3 : Hid (Below w.heap.size w w3) := hid (HB2.out.trans (hb3.mono HB2.out.size))
    have HR3 : Hid (w3.heap[w.heap.size]? = _) := hid (row_below (row_below HR1.out hb2) hb3)
    have HS3 := hid ((hs2.mono (fun b h _ => Nat.le_trans HB1.out.size h)).below hb3)
    have HSL3 := hid ((HSL1.out.below hb2).below hb3)
    have HPB : Hid (Bytes (picked bs).b) := hid (picked_bytes HBY.out)
    have HST : Hid (∀ x, Below w3.heap.size w3 x → Below w3.heap.size w3 x ∧ x.cell? ⟨w2.heap.size, 0, none⟩ = some (.int .i64 (picked bs).k) ∧ x.cell? ⟨w2.heap.size, 1, none⟩ = some (.int .i64 (picked bs).e) ∧ x.cell? ⟨w2.heap.size, 2, none⟩ = some (.int .i64 (picked bs).p) ∧ x.cell? ⟨w2.heap.size, 3, none⟩ = some (.slice a2 (picked bs).b.length c2)) := hid fun x hx => by
      have hr : x.heap[w2.heap.size]? = _ := row_below hr3 hx
      exact ⟨hx, cell_of_row x _ 0 _ _ _ hr, cell_of_row x _ 1 _ _ _ hr, cell_of_row x _ 2 _ _ _ hr, cell_of_row x _ 3 _ _ _ hr⟩
    have HCK : Hid (∀ x, Calls Try.prog 55 #[.agg #[.int .i64 (picked bs).k, .int .i64 (picked bs).e, .int .i64 (picked bs).p, .slice a2 (picked bs).b.length c2]] x fun r w' => r = .returned (.int .i64 (chk (picked bs) : Nat)) ∧ Below x.heap.size x w') := hid fun x => check_any _ _ _ a2 c2 (picked bs).b x
    have HLY : Hid (chk (picked bs) = 0 → ∀ x, Below w3.heap.size w3 x → Calls Try.prog 56 #[.agg #[.int .i64 (picked bs).k, .int .i64 (picked bs).e, .int .i64 (picked bs).p, .slice a2 (picked bs).b.length c2]] x fun r w' => ∃ v, r = .returned v ∧ Row 5 x.heap.size w' v (laid (picked bs)) ∧ Below x.heap.size x w') :=
      hid fun h x hx => lay_any _ _ _ _ a2 c2 (picked bs).b x ((chk_zero _).1 h) (HS3.out.below hx) HPB.out ⟨hlc2, hm2⟩ hn2
    have HEQ : Hid (∀ x (aL : Option Addr) (cL : Nat) (ok : Nat → Prop), Below w3.heap.size w3 x → Sl ok x aL (laid (picked bs)) → Calls Try.prog 80 #[.slice aL (laid (picked bs)).length cL, .slice (some ⟨b, o, none⟩) 252 252] x fun r w' => r = .returned (.bool (decide (laid (picked bs) = bs.take 252))) ∧ x = w') :=
      hid fun x aL cL ok hx hs => by
        have h252 : (bs.take 252).length = 252 := by rw [List.length_take, HL.out]; rfl
        have h := equal_any ok _ aL (some ⟨b, o, none⟩) cL 252 (laid (picked bs)) (bs.take 252) x hs ((HSL3.out.below hx).front 252) (laid_bytes HPB.out) (HBY.out.take 252)
        rwa [h252] at h
    have HOUT : Hid (decE bs = 0 → ∀ x, Below w3.heap.size w3 x → ∀ y, Below x.heap.size x y ∨ x.grownBy y (some w.heap.size) → DecAns bs w.heap.size (.returned (.tuple #[.agg #[.int .i64 (picked bs).k, .int .i64 (picked bs).e, .int .i64 (picked bs).p, .slice a2 (picked bs).b.length c2], .int .i64 0])) y) := hid fun h x hx y hy => by
      have hF : decF bs = picked bs := by unfold decF; rw [if_pos h]
      unfold DecAns DecOk
      rw [hF, h]
      refine ⟨_, rfl, a2, c2, rfl, ?_, hlc2, hm2, hn2⟩
      have hs2' : Sl (fun b => w.heap.size + 1 ≤ b) w2 a2 (picked bs).b := hs2.mono fun b h _ => Nat.le_trans (row_lt HR1.out) h
      have hsx := (hs2'.below hb3).below hx
      rcases hy with hy | hy
      · exact (hsx.below hy).mono fun b h _ => by omega
      · exact (hsx.grown hy (fun b h => by omega)).mono fun b h _ => by omega
    clear hs2 hlc2 hm2 hn2 hb2 hb3 hw3 hr3 HP HSL1 HR1 HB1
    go_wp2_with fail
    rw [← HW3.out]
    have hb3r := Below.refl w3.heap.size w3
    cases hD : decide (chk (picked bs) = 0)
    · have hq : chk (picked bs) ≠ 0 := of_decide_eq_false hD
      have hq1 : (((chk (picked bs) : Nat) : Int) != 0) = true := by rw [bne_iff_ne]; omega
      have hd3 : decE bs = 3 := by rw [HD'.out, if_neg (fun h => hq h.1)]
      have HD3 := hid hd3
      clear hq hd3 hD HD' HLY HEQ HOUT
      generalize chk (picked bs) = q at *
      refine wp_region_grows 11 [Eqv' (.agg #[.int .i64 (picked bs).k, .int .i64 (picked bs).e, .int .i64 (picked bs).p, .slice a2 (picked bs).b.length c2]), Eqv' (.int .i64 (q : Nat)), Eqv' (.bool true), Eqv' (.bool true), Eqv' undef, Eqv' undef, Eqv' undef, Eqv' undef, Eqv' undef, Eqv' undef, Eqv' (.bool true)] (by kernel_rfl) (by decide) (by kernel_rfl) ?_ ?_ ?_
      · repeat' (first | exact List.forall_mem_nil _ | refine List.forall_mem_cons.2 ⟨?_, ?_⟩)
        all_goals
          intro w w' v hw h
          first | exact h | (obtain ⟨aL, cL, rfl, h1⟩ := h; exact ⟨aL, cL, rfl, h1.below hw⟩)
      · simp only [AllLt]
        refine ⟨⟨⟨⟨⟨⟨⟨⟨⟨⟨⟨trivial, ?_⟩, ?_⟩, ?_⟩, ?_⟩, ?_⟩, ?_⟩, ?_⟩, ?_⟩, ?_⟩, ?_⟩, ?_⟩
        all_goals
          intro o' ho
          simp at ho
          subst ho
          intro ρ w4 hR hL hS hG
          obtain ⟨hl1, hl2, -⟩ := hL
        · refine plainG rfl ?_
          intro bA K Q' hK
          have e4 := hS 4 (by kernel_rfl)
          change ρ (.tmp 4) = _ at e4
          obtain ⟨-, k0, k1, k2, k3⟩ := HST.out w4 (Below.trans (Below.drew hb3r) hR)
          simp only [execOp]
          go_simp
          exact hK _ _ rfl (Grew.refl _)
        · refine plainG rfl ?_
          intro bA K Q' hK
          have e15 := hG 0 15 (by decide) (by kernel_rfl) (by kernel_rfl)
          change ρ (.tmp 15) = _ at e15
          simp only [execOp]
          go_simp
          refine (HCK.out w4).mono ?_
          rintro r w5 ⟨rfl, hb⟩
          exact hK _ _ rfl hb
        · refine plainG rfl ?_
          intro bA K Q' hK
          have e16 := hG 1 16 (by decide) (by kernel_rfl) (by kernel_rfl)
          change ρ (.tmp 16) = _ at e16
          simp only [execOp]
          go_simp
          exact hK _ _ rfl (Grew.refl _)
        · refine plainG rfl ?_
          intro bA K Q' hK
          have e17 := hG 2 17 (by decide) (by kernel_rfl) (by kernel_rfl)
          change ρ (.tmp 17) = _ at e17
          simp only [execOp]
          go_simp
          exact hK _ _ rfl (Grew.refl _)
        · have eG : ρ (.tmp 18) = _ := hG 3 18 (by decide) (by kernel_rfl) (by kernel_rfl)
          exact offG rfl (by kernel_rfl) eG rfl rfl
        · have eG : ρ (.tmp 18) = _ := hG 3 18 (by decide) (by kernel_rfl) (by kernel_rfl)
          exact offG rfl (by kernel_rfl) eG rfl rfl
        · have eG : ρ (.tmp 18) = _ := hG 3 18 (by decide) (by kernel_rfl) (by kernel_rfl)
          exact offG rfl (by kernel_rfl) eG rfl rfl
        · have eG : ρ (.tmp 18) = _ := hG 3 18 (by decide) (by kernel_rfl) (by kernel_rfl)
          exact offG rfl (by kernel_rfl) eG rfl rfl
        · have eG : ρ (.tmp 18) = _ := hG 3 18 (by decide) (by kernel_rfl) (by kernel_rfl)
          exact offG rfl (by kernel_rfl) eG rfl rfl
        · have eG : ρ (.tmp 18) = _ := hG 3 18 (by decide) (by kernel_rfl) (by kernel_rfl)
          exact offG rfl (by kernel_rfl) eG rfl rfl
        · refine plainG rfl ?_
          intro bA K Q' hK
          have e18 := hG 3 18 (by decide) (by kernel_rfl) (by kernel_rfl)
          have e24 := hG 9 24 (by decide) (by kernel_rfl) (by kernel_rfl)
          change ρ (.tmp 18) = _ at e18
          change ρ (.tmp 24) = _ at e24
          simp only [execOp]
          go_simp
          exact hK _ _ rfl (Grew.refl _)
      · intro v w4 hR hG
        have h10 := hG.2
        change v 10 = _ at h10
        have hbx : Below w3.heap.size w3 w4 := Below.trans (Below.drew hb3r) hR
        have HBX := hid hbx
        have HB4 : Hid (Below w.heap.size w w4) := hid (HB3.out.trans (hbx.mono HB3.out.size))
        have HROW4 : Hid (w4.heap[w.heap.size]? = _) := hid (row_below HR3.out hbx)
        clear hG hR hbx
        simp [stG, stU, dstAt, Act.put, h10]
        go_upto_region 7 with fail
        refine wp_region_lit ?_
        refine wpList_plain rfl fun K hK => ?_
        go_simp
        refine hK _ _ ?_
        refine wpList_store_own rfl 67 _ _ rfl w.heap.size zc rfl rfl 67 _ HROW4.out (by kernel_rfl) rfl (by simp [Value.oneCell', zc]) ?_
        intro w5 hr5 hg5
        have HR5 := hid hr5
        have HB5 : Hid (Below w.heap.size w w5) := hid (below_grown HB4.out hg5 (Nat.le_refl _) HB4.out.size)
        clear hr5 hg5
        go_wp2_with fail
        refine bodyPost_ret (v := .tuple #[.agg zc, .int .i64 3]) (res25 _ _ _ _ rfl HR5.out rfl) rfl ⟨?_, HB5.out⟩
        exact DecOk.bad HD3.out (by decide)
    · have hq : chk (picked bs) = 0 := of_decide_eq_true hD
      have HLY := hid (HLY.out hq)
      have HDE : Hid (decE bs = if laid (picked bs) = bs.take 252 then 0 else 3) := hid (by rw [HD'.out]; by_cases h : laid (picked bs) = bs.take 252 <;> simp [h, hq])
      rw [hq] at HCK
      clear HD' hD hq
      cases hE : decide (laid (picked bs) = bs.take 252)
      · have HD3 : Hid (decE bs = 3) := hid (by rw [HDE.out, if_neg (of_decide_eq_false hE)])
        rw [hE] at HEQ
        clear hE HDE HOUT
        refine wp_region_grows 11 [Eqv' (.agg #[.int .i64 (picked bs).k, .int .i64 (picked bs).e, .int .i64 (picked bs).p, .slice a2 (picked bs).b.length c2]), Eqv' (.int .i64 0), Eqv' (.bool false), Eqv' (.bool false), Eqv' (.agg #[.int .i64 (picked bs).k, .int .i64 (picked bs).e, .int .i64 (picked bs).p, .slice a2 (picked bs).b.length c2]), (fun x v => ∃ aL cL, v = .slice aL (laid (picked bs)).length cL ∧ Sl (fun _ => True) x aL (laid (picked bs))), Eqv' (.slice (some ⟨b, o, none⟩) 256 c), Eqv' (.slice (some ⟨b, o, none⟩) 252 252), Eqv' (.bool false), Eqv' (.bool true), Eqv' (.bool true)] (by kernel_rfl) (by decide) (by kernel_rfl) ?_ ?_ ?_
        · repeat' (first | exact List.forall_mem_nil _ | refine List.forall_mem_cons.2 ⟨?_, ?_⟩)
          all_goals
            intro w w' v hw h
            first | exact h | (obtain ⟨aL, cL, rfl, h1⟩ := h; exact ⟨aL, cL, rfl, h1.below hw⟩)
        · simp only [AllLt]
          refine ⟨⟨⟨⟨⟨⟨⟨⟨⟨⟨⟨trivial, ?_⟩, ?_⟩, ?_⟩, ?_⟩, ?_⟩, ?_⟩, ?_⟩, ?_⟩, ?_⟩, ?_⟩, ?_⟩
          all_goals
            intro o' ho
            simp at ho
            subst ho
            intro ρ w4 hR hL hS hG
            obtain ⟨hl1, hl2, -⟩ := hL
          · refine plainG rfl ?_
            intro bA K Q' hK
            have e4 := hS 4 (by kernel_rfl)
            change ρ (.tmp 4) = _ at e4
            obtain ⟨-, k0, k1, k2, k3⟩ := HST.out w4 (Below.trans (Below.drew hb3r) hR)
            simp only [execOp]
            go_simp
            exact hK _ _ rfl (Grew.refl _)
          · refine plainG rfl ?_
            intro bA K Q' hK
            have e15 := hG 0 15 (by decide) (by kernel_rfl) (by kernel_rfl)
            change ρ (.tmp 15) = _ at e15
            simp only [execOp]
            go_simp
            refine (HCK.out w4).mono ?_
            rintro r w5 ⟨rfl, hb⟩
            exact hK _ _ rfl hb
          · refine plainG rfl ?_
            intro bA K Q' hK
            have e16 := hG 1 16 (by decide) (by kernel_rfl) (by kernel_rfl)
            change ρ (.tmp 16) = _ at e16
            simp only [execOp]
            go_simp
            exact hK _ _ rfl (Grew.refl _)
          · refine plainG rfl ?_
            intro bA K Q' hK
            have e17 := hG 2 17 (by decide) (by kernel_rfl) (by kernel_rfl)
            change ρ (.tmp 17) = _ at e17
            simp only [execOp]
            go_simp
            exact hK _ _ rfl (Grew.refl _)
          · have eG : ρ (.tmp 18) = _ := hG 3 18 (by decide) (by kernel_rfl) (by kernel_rfl)
            refine onG rfl (by kernel_rfl) eG ?_
            intro bA K Q' hK
            have e4 := hS 4 (by kernel_rfl)
            change ρ (.tmp 4) = _ at e4
            obtain ⟨-, k0, k1, k2, k3⟩ := HST.out w4 (Below.trans (Below.drew hb3r) hR)
            simp only [execOp]
            go_simp
            exact hK _ _ rfl (Grew.refl _)
          · have eG : ρ (.tmp 18) = _ := hG 3 18 (by decide) (by kernel_rfl) (by kernel_rfl)
            refine onG rfl (by kernel_rfl) eG ?_
            intro bA K Q' hK
            have e19 := hG 4 19 (by decide) (by kernel_rfl) (by kernel_rfl)
            change ρ (.tmp 19) = _ at e19
            simp only [execOp]
            go_simp
            refine (HLY.out w4 (Below.trans (Below.drew hb3r) hR)).mono ?_
            rintro r w5 ⟨v, rfl, hv, hb⟩
            obtain ⟨aL, cL, rfl, hnL, hcL, hmL, hsL⟩ := hv.sl
            exact hK _ _ ⟨aL, cL, rfl, hsL.mono fun _ _ _ => trivial⟩ hb
          · have eG : ρ (.tmp 18) = _ := hG 3 18 (by decide) (by kernel_rfl) (by kernel_rfl)
            refine onG rfl (by kernel_rfl) eG ?_
            intro bA K Q' hK
            have e0 := hS 0 (by kernel_rfl)
            change ρ (.tmp 0) = _ at e0
            simp only [execOp]
            go_simp
            exact hK _ _ rfl (Grew.refl _)
          · have eG : ρ (.tmp 18) = _ := hG 3 18 (by decide) (by kernel_rfl) (by kernel_rfl)
            refine onG rfl (by kernel_rfl) eG ?_
            intro bA K Q' hK
            have e21 := hG 6 21 (by decide) (by kernel_rfl) (by kernel_rfl)
            change ρ (.tmp 21) = _ at e21
            simp only [execOp]
            go_simp
            rw [if_pos (by omega)]
            exact hK _ _ rfl (Grew.refl _)
          · have eG : ρ (.tmp 18) = _ := hG 3 18 (by decide) (by kernel_rfl) (by kernel_rfl)
            refine onG rfl (by kernel_rfl) eG ?_
            intro bA K Q' hK
            have e20 := hG 5 20 (by decide) (by kernel_rfl) (by kernel_rfl)
            have e22 := hG 7 22 (by decide) (by kernel_rfl) (by kernel_rfl)
            obtain ⟨aL, cL, e20, hsL⟩ := e20
            change ρ (.tmp 22) = _ at e22
            simp only [execOp]
            go_simp
            refine (HEQ.out w4 aL cL _ (Below.trans (Below.drew hb3r) hR) hsL).mono ?_
            rintro r w5 ⟨rfl, rfl⟩
            exact hK _ _ rfl (Grew.refl _)
          · have eG : ρ (.tmp 18) = _ := hG 3 18 (by decide) (by kernel_rfl) (by kernel_rfl)
            refine onG rfl (by kernel_rfl) eG ?_
            intro bA K Q' hK
            have e23 := hG 8 23 (by decide) (by kernel_rfl) (by kernel_rfl)
            change ρ (.tmp 23) = _ at e23
            simp only [execOp]
            go_simp
            exact hK _ _ rfl (Grew.refl _)
          · refine plainG rfl ?_
            intro bA K Q' hK
            have e18 := hG 3 18 (by decide) (by kernel_rfl) (by kernel_rfl)
            have e24 := hG 9 24 (by decide) (by kernel_rfl) (by kernel_rfl)
            change ρ (.tmp 18) = _ at e18
            change ρ (.tmp 24) = _ at e24
            simp only [execOp]
            go_simp
            exact hK _ _ rfl (Grew.refl _)
        · intro v w4 hR hG
          have h10 := hG.2
          change v 10 = _ at h10
          have hbx : Below w3.heap.size w3 w4 := Below.trans (Below.drew hb3r) hR
          have HBX := hid hbx
          have HB4 : Hid (Below w.heap.size w w4) := hid (HB3.out.trans (hbx.mono HB3.out.size))
          have HROW4 : Hid (w4.heap[w.heap.size]? = _) := hid (row_below HR3.out hbx)
          clear hG hR hbx
          simp [stG, stU, dstAt, Act.put, h10]
          go_upto_region 7 with fail
          refine wp_region_lit ?_
          refine wpList_plain rfl fun K hK => ?_
          go_simp
          refine hK _ _ ?_
          refine wpList_store_own rfl 67 _ _ rfl w.heap.size zc rfl rfl 67 _ HROW4.out (by kernel_rfl) rfl (by simp [Value.oneCell', zc]) ?_
          intro w5 hr5 hg5
          have HR5 := hid hr5
          have HB5 : Hid (Below w.heap.size w w5) := hid (below_grown HB4.out hg5 (Nat.le_refl _) HB4.out.size)
          clear hr5 hg5
          go_wp2_with fail
          refine bodyPost_ret (v := .tuple #[.agg zc, .int .i64 3]) (res25 _ _ _ _ rfl HR5.out rfl) rfl ⟨?_, HB5.out⟩
          exact DecOk.bad HD3.out (by decide)
      · have HD0 : Hid (decE bs = 0) := hid (by rw [HDE.out, if_pos (of_decide_eq_true hE)])
        have HOUT := hid (HOUT.out HD0.out)
        rw [hE] at HEQ
        clear hE HDE
        refine wp_region_grows 11 [Eqv' (.agg #[.int .i64 (picked bs).k, .int .i64 (picked bs).e, .int .i64 (picked bs).p, .slice a2 (picked bs).b.length c2]), Eqv' (.int .i64 0), Eqv' (.bool false), Eqv' (.bool false), Eqv' (.agg #[.int .i64 (picked bs).k, .int .i64 (picked bs).e, .int .i64 (picked bs).p, .slice a2 (picked bs).b.length c2]), (fun x v => ∃ aL cL, v = .slice aL (laid (picked bs)).length cL ∧ Sl (fun _ => True) x aL (laid (picked bs))), Eqv' (.slice (some ⟨b, o, none⟩) 256 c), Eqv' (.slice (some ⟨b, o, none⟩) 252 252), Eqv' (.bool true), Eqv' (.bool false), Eqv' (.bool false)] (by kernel_rfl) (by decide) (by kernel_rfl) ?_ ?_ ?_
        · repeat' (first | exact List.forall_mem_nil _ | refine List.forall_mem_cons.2 ⟨?_, ?_⟩)
          all_goals
            intro w w' v hw h
            first | exact h | (obtain ⟨aL, cL, rfl, h1⟩ := h; exact ⟨aL, cL, rfl, h1.below hw⟩)
        · simp only [AllLt]
          refine ⟨⟨⟨⟨⟨⟨⟨⟨⟨⟨⟨trivial, ?_⟩, ?_⟩, ?_⟩, ?_⟩, ?_⟩, ?_⟩, ?_⟩, ?_⟩, ?_⟩, ?_⟩, ?_⟩
          all_goals
            intro o' ho
            simp at ho
            subst ho
            intro ρ w4 hR hL hS hG
            obtain ⟨hl1, hl2, -⟩ := hL
          · refine plainG rfl ?_
            intro bA K Q' hK
            have e4 := hS 4 (by kernel_rfl)
            change ρ (.tmp 4) = _ at e4
            obtain ⟨-, k0, k1, k2, k3⟩ := HST.out w4 (Below.trans (Below.drew hb3r) hR)
            simp only [execOp]
            go_simp
            exact hK _ _ rfl (Grew.refl _)
          · refine plainG rfl ?_
            intro bA K Q' hK
            have e15 := hG 0 15 (by decide) (by kernel_rfl) (by kernel_rfl)
            change ρ (.tmp 15) = _ at e15
            simp only [execOp]
            go_simp
            refine (HCK.out w4).mono ?_
            rintro r w5 ⟨rfl, hb⟩
            exact hK _ _ rfl hb
          · refine plainG rfl ?_
            intro bA K Q' hK
            have e16 := hG 1 16 (by decide) (by kernel_rfl) (by kernel_rfl)
            change ρ (.tmp 16) = _ at e16
            simp only [execOp]
            go_simp
            exact hK _ _ rfl (Grew.refl _)
          · refine plainG rfl ?_
            intro bA K Q' hK
            have e17 := hG 2 17 (by decide) (by kernel_rfl) (by kernel_rfl)
            change ρ (.tmp 17) = _ at e17
            simp only [execOp]
            go_simp
            exact hK _ _ rfl (Grew.refl _)
          · have eG : ρ (.tmp 18) = _ := hG 3 18 (by decide) (by kernel_rfl) (by kernel_rfl)
            refine onG rfl (by kernel_rfl) eG ?_
            intro bA K Q' hK
            have e4 := hS 4 (by kernel_rfl)
            change ρ (.tmp 4) = _ at e4
            obtain ⟨-, k0, k1, k2, k3⟩ := HST.out w4 (Below.trans (Below.drew hb3r) hR)
            simp only [execOp]
            go_simp
            exact hK _ _ rfl (Grew.refl _)
          · have eG : ρ (.tmp 18) = _ := hG 3 18 (by decide) (by kernel_rfl) (by kernel_rfl)
            refine onG rfl (by kernel_rfl) eG ?_
            intro bA K Q' hK
            have e19 := hG 4 19 (by decide) (by kernel_rfl) (by kernel_rfl)
            change ρ (.tmp 19) = _ at e19
            simp only [execOp]
            go_simp
            refine (HLY.out w4 (Below.trans (Below.drew hb3r) hR)).mono ?_
            rintro r w5 ⟨v, rfl, hv, hb⟩
            obtain ⟨aL, cL, rfl, hnL, hcL, hmL, hsL⟩ := hv.sl
            exact hK _ _ ⟨aL, cL, rfl, hsL.mono fun _ _ _ => trivial⟩ hb
          · have eG : ρ (.tmp 18) = _ := hG 3 18 (by decide) (by kernel_rfl) (by kernel_rfl)
            refine onG rfl (by kernel_rfl) eG ?_
            intro bA K Q' hK
            have e0 := hS 0 (by kernel_rfl)
            change ρ (.tmp 0) = _ at e0
            simp only [execOp]
            go_simp
            exact hK _ _ rfl (Grew.refl _)
          · have eG : ρ (.tmp 18) = _ := hG 3 18 (by decide) (by kernel_rfl) (by kernel_rfl)
            refine onG rfl (by kernel_rfl) eG ?_
            intro bA K Q' hK
            have e21 := hG 6 21 (by decide) (by kernel_rfl) (by kernel_rfl)
            change ρ (.tmp 21) = _ at e21
            simp only [execOp]
            go_simp
            rw [if_pos (by omega)]
            exact hK _ _ rfl (Grew.refl _)
          · have eG : ρ (.tmp 18) = _ := hG 3 18 (by decide) (by kernel_rfl) (by kernel_rfl)
            refine onG rfl (by kernel_rfl) eG ?_
            intro bA K Q' hK
            have e20 := hG 5 20 (by decide) (by kernel_rfl) (by kernel_rfl)
            have e22 := hG 7 22 (by decide) (by kernel_rfl) (by kernel_rfl)
            obtain ⟨aL, cL, e20, hsL⟩ := e20
            change ρ (.tmp 22) = _ at e22
            simp only [execOp]
            go_simp
            refine (HEQ.out w4 aL cL _ (Below.trans (Below.drew hb3r) hR) hsL).mono ?_
            rintro r w5 ⟨rfl, rfl⟩
            exact hK _ _ rfl (Grew.refl _)
          · have eG : ρ (.tmp 18) = _ := hG 3 18 (by decide) (by kernel_rfl) (by kernel_rfl)
            refine onG rfl (by kernel_rfl) eG ?_
            intro bA K Q' hK
            have e23 := hG 8 23 (by decide) (by kernel_rfl) (by kernel_rfl)
            change ρ (.tmp 23) = _ at e23
            simp only [execOp]
            go_simp
            exact hK _ _ rfl (Grew.refl _)
          · refine plainG rfl ?_
            intro bA K Q' hK
            have e18 := hG 3 18 (by decide) (by kernel_rfl) (by kernel_rfl)
            have e24 := hG 9 24 (by decide) (by kernel_rfl) (by kernel_rfl)
            change ρ (.tmp 18) = _ at e18
            change ρ (.tmp 24) = _ at e24
            simp only [execOp]
            go_simp
            exact hK _ _ rfl (Grew.refl _)
        · intro v w4 hR hG
          have h10 := hG.2
          change v 10 = _ at h10
          have hbx : Below w3.heap.size w3 w4 := Below.trans (Below.drew hb3r) hR
          have HBX := hid hbx
          have HB4 : Hid (Below w.heap.size w w4) := hid (HB3.out.trans (hbx.mono HB3.out.size))
          have HROW4 : Hid (w4.heap[w.heap.size]? = _) := hid (row_below HR3.out hbx)
          clear hG hR hbx
          simp [stG, stU, dstAt, Act.put, h10]
          obtain ⟨-, k0, k1, k2, k3⟩ := HST.out w4 HBX.out
          go_upto_region 8 with fail
          refine wp_region_lit ?_
          refine wpList_plain rfl fun K hK => ?_
          go_simp
          refine hK _ _ ?_
          refine wpList_store_own rfl 67 _ _ rfl w.heap.size #[.int .i64 (picked bs).k, .int .i64 (picked bs).e, .int .i64 (picked bs).p, .slice a2 (picked bs).b.length c2] rfl rfl 67 _ HROW4.out (by kernel_rfl) rfl (by simp [Value.oneCell']) ?_
          intro w5 hr5 hg5
          have HR5 := hid hr5
          have HB5 : Hid (Below w.heap.size w w5) := hid (below_grown HB4.out hg5 (Nat.le_refl _) HB4.out.size)
          have HO5 := hid (HOUT.out w4 HBX.out w5 (.inr hg5))
          clear hr5 hg5 k0 k1 k2 k3
          go_wp2_with fail
          refine bodyPost_ret (v := .tuple #[.agg #[.int .i64 (picked bs).k, .int .i64 (picked bs).e, .int .i64 (picked bs).p, .slice a2 (picked bs).b.length c2], .int .i64 0]) (res25 _ _ _ _ rfl HR5.out rfl) rfl ⟨HO5.out, HB5.out⟩
end Go.Proofs.Ytebacgkeolofmaa
namespace Go.Proofs.Ytebacgkeolofmaa
open Go.RowKit Go.Inc

/-- What is wrong with a page, of some kinds. -/
def opnE (bs : List Nat) (page : Int) (kinds : List Int) : Nat := if decE bs ≠ 0 then decE bs else if (decF bs).p ≠ page then 5 else if kinds ≠ [] ∧ ¬ (decF bs).k ∈ kinds then 13 else 0
def opnF (bs : List Nat) (page : Int) (kinds : List Int) : Fr := if opnE bs page kinds = 0 then decF bs else zeroFr
def OpnOk (ok : Nat → Prop) (bs : List Nat) (page : Int) (kinds : List Int) (r : Ending) (w' : World) : Prop :=
  ∃ v, r = .returned (.tuple #[.agg #[.int .i64 (opnF bs page kinds).k, .int .i64 (opnF bs page kinds).e, .int .i64 (opnF bs page kinds).p, v], .int .i64 (opnE bs page kinds : Nat)]) ∧ Bb ok w' v (opnF bs page kinds).b
abbrev OpnAns (bs : List Nat) (page : Int) (kinds : List Int) (B : Nat) (r : Ending) (w' : World) : Prop := OpnOk (fun b => B ≤ b) bs page kinds r w'
theorem OpnOk.bad {ok : Nat → Prop} {bs : List Nat} {page : Int} {kinds : List Int} {e : Nat} {w' : World} (h : opnE bs page kinds = e) (h0 : e ≠ 0) : OpnOk ok bs page kinds (.returned (.tuple #[.agg #[.int .i64 0, .int .i64 0, .int .i64 0, .slice none 0 0], .int .i64 (e : Int)])) w' := by
  unfold OpnOk opnF
  rw [h, if_neg h0]
  exact ⟨_, rfl, none, 0, rfl, Sl.nil _ _ _, Nat.le_refl _, Nat.zero_le _, fun _ => rfl⟩
theorem OpnOk.good {ok : Nat → Prop} {bs : List Nat} {page : Int} {kinds : List Int} {w' : World} {v : Value} (h : opnE bs page kinds = 0) (hv : Bb ok w' v (decF bs).b) :
    OpnOk ok bs page kinds (.returned (.tuple #[.agg #[.int .i64 (decF bs).k, .int .i64 (decF bs).e, .int .i64 (decF bs).p, v], .int .i64 0])) w' := by
  unfold OpnOk opnF
  rw [h, if_pos rfl]
  exact ⟨v, rfl, hv⟩
theorem decE_cases (bs : List Nat) : decE bs = 0 ∨ decE bs = 2 ∨ decE bs = 3 ∨ decE bs = 5 := by
  unfold decE
  split
  · exact .inr (.inl rfl)
  · split
    · exact .inr (.inr (.inr rfl))
    · split
      · exact .inl rfl
      · exact .inr (.inr (.inl rfl))
/-- Decode, wherever the bytes lie. -/
theorem decode_any (ok : Nat → Prop) (a : Option Addr) (c : Nat) (bs : List Nat) (w : World) (hs : Sl ok w a bs) (hby : Bytes bs) (hc : bs.length ≤ c ∧ c ≤ maxLen) :
    Calls Try.prog 59 #[.slice a bs.length c] w fun r w' => DecAns bs w.heap.size r w' ∧ Below w.heap.size w w' := by
  by_cases hl : bs.length = 256
  · rcases hs with h | ⟨b, o, rfl, _, hcell⟩
    · rw [h] at hl; cases hl
    · have h := decode_sum b o c bs w (.inr ⟨b, o, rfl, trivial, hcell⟩) hby hl (by omega)
      rw [hl]
      exact h
  · exact decode_len a c bs w (by omega)
theorem res21 (w : World) (g : Nat) (cs : Array Value) (tmps : Array Value) (h2 : tmps.getD 6 undef = .pointer (some ⟨g, 0, none⟩)) (hg : w.heap[g]? = some (.cells cs 67 (0, 0))) (hs : cs.size = 4) :
    (results Try.f36 tmps).run Try.prog w = .ok (.tuple #[.agg cs, tmps.getD 7 undef]) w :=
  res_cell_tmp rfl tmps w g 67 cs (0, 0) _ h2 hg Try.underlying67 rfl (by rw [hs]; kernel_rfl)

set_option maxRecDepth 20000 in
set_option maxHeartbeats 2000000 in
theorem open_any (ok ok2 : Nat → Prop) (a : Option Addr) (c : Nat) (bs : List Nat) (page : Int) (a2 : Option Addr) (c2 : Nat) (kinds : List Int) (w : World) (hs : Sl ok w a bs) (hby : Bytes bs) (hc : bs.length ≤ c ∧ c ≤ maxLen) (hk : Si ok2 w a2 kinds) (hkl : (kinds.length : Int) ≤ 9223372036854775807) :
    Calls Try.prog 36 #[.slice a bs.length c, .int .i64 page, .slice a2 kinds.length c2] w fun r w' => OpnAns bs page kinds w.heap.size r w' ∧ Below w.heap.size w w' := by
  obtain ⟨wb, hwb⟩ : ∃ wb, wb = w.alloc (.cells #[.int .i64 0, .int .i64 0, .int .i64 0, .slice none 0 0] 67) := ⟨_, rfl⟩
  have hb : Below w.heap.size w wb := by rw [hwb]; exact (Below.refl _ _).alloc (Nat.le_refl _) _
  have hr : wb.heap[w.heap.size]? = some (.cells #[.int .i64 0, .int .i64 0, .int .i64 0, .slice none 0 0] 67 (0, 0)) := by rw [hwb]; exact heap_alloc_new w _
  have HD := hid (decode_any ok a c bs wb (hs.below hb) hby hc)
  have HK := hid (hk.below hb)
  have HWB := hid hwb
  have HB := hid hb
  have HR := hid hr
  have HE : Hid (opnE bs page kinds = if decE bs ≠ 0 then decE bs else if (decF bs).p ≠ page then 5 else if kinds ≠ [] ∧ ¬ (decF bs).k ∈ kinds then 13 else 0) := hid rfl
  have HDE : Hid (decE bs = 0 ∨ decE bs = 2 ∨ decE bs = 3 ∨ decE bs = 5) := hid (decE_cases bs)
  clear hs hby hc hk hb hr hwb
  go_enter Try.func36, Try.ntmps36
  go_wp2_with fail
  rw [← HWB.out]
  refine HD.out.mono ?_
  rintro r w1 ⟨⟨v, rfl, hv⟩, hb1⟩
  obtain ⟨a3, c3, rfl, hs3, hlc3, hm3, hn3⟩ := hv
  obtain ⟨w3, hw3⟩ : ∃ w3, w3 = w1.alloc (.cells #[.int .i64 (decF bs).k, .int .i64 (decF bs).e, .int .i64 (decF bs).p, .slice a3 (decF bs).b.length c3] 67) := ⟨_, rfl⟩
  have hb3 : Below w1.heap.size w1 w3 := by rw [hw3]; exact (Below.refl _ _).alloc (Nat.le_refl _) _
  have hr3 : w3.heap[w1.heap.size]? = some (.cells #[.int .i64 (decF bs).k, .int .i64 (decF bs).e, .int .i64 (decF bs).p, .slice a3 (decF bs).b.length c3] 67 (0, 0)) := by rw [hw3]; exact heap_alloc_new w1 _
  have HB3 : Hid (Below w.heap.size w w3) := hid ((HB.out.trans (hb1.mono HB.out.size)).trans (hb3.mono (HB.out.trans (hb1.mono HB.out.size)).size))
  have HR3 : Hid (w3.heap[w.heap.size]? = _) := hid (row_below (row_below HR.out hb1) hb3)
  have HV3 : Hid (Bb (fun b => w.heap.size + 1 ≤ b) w3 (.slice a3 (decF bs).b.length c3) (decF bs).b) := hid ⟨a3, c3, rfl, (hs3.mono fun b h _ => Nat.le_trans (row_lt HR.out) h).below hb3, hlc3, hm3, hn3⟩
  have HK3 := hid ((HK.out.below hb1).below hb3)
  have q0 := cell_of_row w3 _ 0 _ _ _ hr3
  have q1 := cell_of_row w3 _ 1 _ _ _ hr3
  have q2 := cell_of_row w3 _ 2 _ _ _ hr3
  have q3 := cell_of_row w3 _ 3 _ _ _ hr3
  have HW3 := hid hw3
  have HGOOD : Hid (opnE bs page kinds = 0 → ∀ y, w3.grownBy y (some w.heap.size) → OpnAns bs page kinds w.heap.size (.returned (.tuple #[.agg #[.int .i64 (decF bs).k, .int .i64 (decF bs).e, .int .i64 (decF bs).p, .slice a3 (decF bs).b.length c3], .int .i64 0])) y) := hid fun h y hy => by
    refine OpnOk.good h ?_
    obtain ⟨a1, c1, he, hs1, hr1⟩ := HV3.out
    exact ⟨a1, c1, he, (hs1.grown hy (fun b hb => by omega)).mono fun b hb _ => by omega, hr1⟩
  clear hs3 hlc3 hm3 hn3 hb1 hb3 hw3 hr3 HD HB HR HK HV3
  by_cases hd : decE bs = 0
  · have HE : Hid (opnE bs page kinds = if (decF bs).p ≠ page then 5 else if kinds ≠ [] ∧ ¬ (decF bs).k ∈ kinds then 13 else 0) := hid (by rw [HE.out, if_neg (by simp [hd])])
    rw [hd]
    clear hd HDE
    by_cases hp : (decF bs).p = page
    · have hp1 : ((decF bs).p != page) = false := by rw [bne_eq_false_iff_eq]; exact hp
      have HE : Hid (opnE bs page kinds = if kinds ≠ [] ∧ ¬ (decF bs).k ∈ kinds then 13 else 0) := hid (by rw [HE.out, if_neg (by simp [hp])])
      clear hp
      have HAM := hid (among_any ok2 (decF bs).k a2 c2 kinds w3 HK3.out hkl)
      by_cases hk : kinds.length = 0
      · have hk0 : kinds = [] := List.eq_nil_of_length_eq_zero hk
        have HE0 : Hid (opnE bs page kinds = 0) := hid (by rw [HE.out, if_neg (fun h => h.1 hk0)])
        have HGOOD := hid (HGOOD.out HE0.out)
        have HGOOD : Hid (∀ y, w3.grownBy y (some w.heap.size) → OpnAns bs page kinds w.heap.size (.returned (.tuple #[.agg #[.int .i64 (decF bs).k, .int .i64 (decF bs).e, .int .i64 (decF bs).p, .slice a3 (decF bs).b.length c3], .int .i64 0])) y) := HGOOD
        clear hk HAM HE HK3
        rw [show kinds.length = 0 from by rw [hk0]; rfl]
        clear hk0 HE0
        go_upto_region 8 with fail
        rw [← HW3.out]
        refine wp_region_lit ?_
        refine wpList_plain rfl fun K hK => ?_
        go_simp
        refine hK _ _ ?_
        refine wpList_store_own rfl 67 _ _ rfl w.heap.size #[.int .i64 (decF bs).k, .int .i64 (decF bs).e, .int .i64 (decF bs).p, .slice a3 (decF bs).b.length c3] rfl rfl 67 _ HR3.out (by kernel_rfl) rfl (by simp [Value.oneCell']) ?_
        intro w9 hr9 hg9
        have HR9 := hid hr9
        have HB9 : Hid (Below w.heap.size w w9) := hid (below_grown HB3.out hg9 (Nat.le_refl _) HB3.out.size)
        have HO9 := hid (HGOOD.out w9 hg9)
        clear hr9 hg9
        go_wp2_with fail
        refine bodyPost_ret (v := .tuple #[.agg #[.int .i64 (decF bs).k, .int .i64 (decF bs).e, .int .i64 (decF bs).p, .slice a3 (decF bs).b.length c3], .int .i64 0]) (res21 _ _ _ _ rfl HR9.out rfl) rfl ⟨HO9.out, HB9.out⟩
      · have HE : Hid (opnE bs page kinds = if ¬ (decF bs).k ∈ kinds then 13 else 0) := hid (by
          rw [HE.out]
          have : kinds ≠ [] := fun h => hk (by rw [h]; rfl)
          by_cases hm : (decF bs).k ∈ kinds <;> simp [hm, this])
        clear HK3
        generalize kinds.length = n at *
        have hk1 : ((0 : Int) < (n : Int)) = True := eq_true (by omega)
        have hk2 : (0 < n) = True := eq_true (by omega)
        clear hk
        cases hm : decide ((decF bs).k ∈ kinds)
        · have HE0 : Hid (opnE bs page kinds = 13) := hid (by rw [HE.out, if_pos (of_decide_eq_false hm)])
          rw [hm] at HAM
          clear hm HE HGOOD
          go_wp2_with fail
          rw [← HW3.out]
          refine HAM.out.mono ?_
          rintro r w4 ⟨rfl, rfl⟩
          clear HAM
          go_upto_region 7 with fail
          refine wp_region_lit ?_
          refine wpList_plain rfl fun K hK => ?_
          go_simp
          refine hK _ _ ?_
          refine wpList_store_own rfl 67 _ _ rfl w.heap.size zc rfl rfl 67 _ HR3.out (by kernel_rfl) rfl (by simp [Value.oneCell', zc]) ?_
          intro w9 hr9 hg9
          have HR9 := hid hr9
          have HB9 : Hid (Below w.heap.size w w9) := hid (below_grown HB3.out hg9 (Nat.le_refl _) HB3.out.size)
          clear hr9 hg9
          go_wp2_with fail
          refine bodyPost_ret (v := .tuple #[.agg zc, .int .i64 13]) (res21 _ _ _ _ rfl HR9.out rfl) rfl ⟨?_, HB9.out⟩
          exact OpnOk.bad HE0.out (by decide)
        · have HE0 : Hid (opnE bs page kinds = 0) := hid (by rw [HE.out, if_neg (by simpa using of_decide_eq_true hm)])
          rw [hm] at HAM
          clear hm HE
          have HGOOD := hid (HGOOD.out HE0.out)
          go_wp2_with fail
          rw [← HW3.out]
          refine HAM.out.mono ?_
          rintro r w4 ⟨rfl, rfl⟩
          clear HAM
          go_upto_region 8 with fail
          refine wp_region_lit ?_
          refine wpList_plain rfl fun K hK => ?_
          go_simp
          refine hK _ _ ?_
          refine wpList_store_own rfl 67 _ _ rfl w.heap.size #[.int .i64 (decF bs).k, .int .i64 (decF bs).e, .int .i64 (decF bs).p, .slice a3 (decF bs).b.length c3] rfl rfl 67 _ HR3.out (by kernel_rfl) rfl (by simp [Value.oneCell']) ?_
          intro w9 hr9 hg9
          have HR9 := hid hr9
          have HB9 : Hid (Below w.heap.size w w9) := hid (below_grown HB3.out hg9 (Nat.le_refl _) HB3.out.size)
          have HO9 := hid (HGOOD.out w9 hg9)
          clear hr9 hg9
          go_wp2_with fail
          refine bodyPost_ret (v := .tuple #[.agg #[.int .i64 (decF bs).k, .int .i64 (decF bs).e, .int .i64 (decF bs).p, .slice a3 (decF bs).b.length c3], .int .i64 0]) (res21 _ _ _ _ rfl HR9.out rfl) rfl ⟨HO9.out, HB9.out⟩
    · have hp1 : ((decF bs).p != page) = true := by rw [bne_iff_ne]; exact hp
      have HE0 : Hid (opnE bs page kinds = 5) := hid (by rw [HE.out, if_pos hp])
      clear hp HE HGOOD HK3
      go_upto_region 5 with fail
      rw [← HW3.out]
      refine wp_region_lit ?_
      refine wpList_plain rfl fun K hK => ?_
      go_simp
      refine hK _ _ ?_
      refine wpList_store_own rfl 67 _ _ rfl w.heap.size zc rfl rfl 67 _ HR3.out (by kernel_rfl) rfl (by simp [Value.oneCell', zc]) ?_
      intro w9 hr9 hg9
      have HR9 := hid hr9
      have HB9 : Hid (Below w.heap.size w w9) := hid (below_grown HB3.out hg9 (Nat.le_refl _) HB3.out.size)
      clear hr9 hg9
      go_wp2_with fail
      refine bodyPost_ret (v := .tuple #[.agg zc, .int .i64 5]) (res21 _ _ _ _ rfl HR9.out rfl) rfl ⟨?_, HB9.out⟩
      exact OpnOk.bad HE0.out (by decide)
  · have HE0 : Hid (opnE bs page kinds = decE bs) := hid (by rw [HE.out, if_pos hd])
    have hd1 : (((decE bs : Nat) : Int) != 0) = true := by rw [bne_iff_ne]; omega
    have HNE := hid hd
    clear HE HGOOD HK3 HDE hd
    generalize decE bs = q at *
    go_upto_region 3 with fail
    rw [← HW3.out]
    refine wp_region_lit ?_
    refine wpList_plain rfl fun K hK => ?_
    go_simp
    refine hK _ _ ?_
    refine wpList_plain rfl fun K hK => ?_
    go_simp
    refine hK _ _ ?_
    refine wpList_store_own rfl 67 _ _ rfl w.heap.size zc rfl rfl 67 _ HR3.out (by kernel_rfl) rfl (by simp [Value.oneCell', zc]) ?_
    intro w9 hr9 hg9
    have HR9 := hid hr9
    have HB9 : Hid (Below w.heap.size w w9) := hid (below_grown HB3.out hg9 (Nat.le_refl _) HB3.out.size)
    clear hr9 hg9
    go_wp2_with fail
    refine bodyPost_ret (v := .tuple #[.agg zc, .int .i64 (q : Nat)]) (res21 _ _ _ _ rfl HR9.out rfl) rfl ⟨?_, HB9.out⟩
    exact OpnOk.bad HE0.out HNE.out
end Go.Proofs.Ytebacgkeolofmaa
namespace Go.Proofs.Ytebacgkeolofmaa
open Go.RowKit Go.Inc

/-- A superblock. -/
structure Sp where
  e : Int
  r : Int
  s : Int
  t : Int
def zeroSp : Sp := ⟨0, 0, 0, 0⟩
def Sp.val (x : Sp) : Value := .agg #[.int .i64 x.e, .int .i64 x.r, .int .i64 x.s, .int .i64 x.t]
theorem Sp.ext' {x y : Sp} (h1 : x.e = y.e) (h2 : x.r = y.r) (h3 : x.s = y.s) (h4 : x.t = y.t) : x = y := by
  cases x; cases y; cases h1; cases h2; cases h3; cases h4; rfl
def pgOk (n : Int) : Bool := decide (n = 0 ∨ 2 ≤ n ∧ n ≤ 2047)
def Sp.ok (x : Sp) : Bool := decide (1 ≤ x.e ∧ x.e ≤ 4294967295) && pgOk x.r && pgOk x.s && decide (0 ≤ x.t ∧ x.t ≤ 2147483647)
def spChk (x : Sp) : Nat := if x.ok = true then 0 else 10
theorem spOk_iff (x : Sp) : x.ok = true ↔ (1 ≤ x.e ∧ x.e ≤ 4294967295) ∧ (x.r = 0 ∨ 2 ≤ x.r ∧ x.r ≤ 2047) ∧ (x.s = 0 ∨ 2 ≤ x.s ∧ x.s ≤ 2047) ∧ (0 ≤ x.t ∧ x.t ≤ 2147483647) := by
  unfold Sp.ok pgOk
  simp only [Bool.and_eq_true, decide_eq_true_eq, and_assoc]
theorem spChk_ok {x : Sp} (h : x.ok = true) : spChk x = 0 := by unfold spChk; rw [if_pos h]
theorem spChk_no {x : Sp} (h : x.ok = false) : spChk x = 10 := by unfold spChk; rw [if_neg (by rw [h]; decide)]
theorem spChk_zero (x : Sp) : spChk x = 0 ↔ x.ok = true := by
  unfold spChk
  cases x.ok <;> decide
theorem spChk_cases (x : Sp) : spChk x = 0 ∨ spChk x = 10 := by
  unfold spChk
  cases x.ok
  · exact .inr rfl
  · exact .inl rfl
/-- The page of an epoch. -/
def slot (e : Int) : Nat := (e % 2).toNat
theorem slot_int (e : Int) : ((slot e : Nat) : Int) = e % 2 := by unfold slot; omega
theorem slot_lt (e : Int) : slot e < 2 := by unfold slot; omega
def body (x : Sp) : List Nat := fr2 x.r.toNat ++ fr2 x.s.toNat ++ fr4 x.t.toNat
theorem body_len (x : Sp) : (body x).length = 8 := rfl
theorem body_bytes (x : Sp) : Bytes (body x) := ((fr2_bytes _).append (fr2_bytes _)).append (fr4_bytes _)
/-- Its frame. -/
def spFr (x : Sp) : Fr := ⟨1, x.e, (slot x.e : Nat), body x⟩
theorem spFr_ok {x : Sp} (h : x.ok = true) : (spFr x).ok := by
  have := (spOk_iff x).1 h
  have := slot_lt x.e
  unfold spFr Fr.ok
  simp only [body_len]
  omega
def spEnc (x : Sp) : List Nat := enc (spFr x)
theorem spEnc_len (x : Sp) : (spEnc x).length = 256 := enc_len (by show (body x).length ≤ 238; rw [body_len]; decide)
theorem spEnc_bytes (x : Sp) : Bytes (spEnc x) := enc_bytes (body_bytes x)
/-- What a body tells. -/
def spOf (e : Int) (b : List Nat) : Sp := ⟨e, (Var.num (frAt b 0 2) : Nat), (Var.num (frAt b 2 2) : Nat), (Var.num (frAt b 4 4) : Nat)⟩
theorem spOf_body {x : Sp} (h : x.ok = true) : spOf x.e (body x) = x := by
  have := (spOk_iff x).1 h
  have e1 : frAt (body x) 0 2 = fr2 x.r.toNat := rfl
  have e2 : frAt (body x) 2 2 = fr2 x.s.toNat := rfl
  have e3 : frAt (body x) 4 4 = fr4 x.t.toNat := rfl
  unfold spOf
  rw [e1, e2, e3, num_fr2 (by omega), num_fr2 (by omega), num_fr4 (by omega)]
  refine Sp.ext' rfl ?_ ?_ ?_ <;> simp only <;> omega
/-- What is wrong with a page. -/
def flE (bs : List Nat) (page : Int) : Nat :=
  if page = 0 ∨ page = 1 then (if opnE bs page [1] ≠ 0 then opnE bs page [1] else if (decF bs).b.length = 8 ∧ ((slot (decF bs).e : Nat) : Int) = page ∧ (spOf (decF bs).e (decF bs).b).ok = true then 0 else 3) else 10
def flS (bs : List Nat) (page : Int) : Sp := if flE bs page = 0 then spOf (decF bs).e (decF bs).b else zeroSp
theorem flS_bad {bs : List Nat} {page : Int} (h : flE bs page ≠ 0) : flS bs page = zeroSp := by unfold flS; rw [if_neg h]
theorem opnE_enc {f : Fr} (h : f.ok) (page : Int) (kinds : List Int) : opnE (enc f) page kinds = if f.p ≠ page then 5 else if kinds ≠ [] ∧ ¬ f.k ∈ kinds then 13 else 0 := by
  unfold opnE
  rw [if_neg (by rw [decE_enc h]; simp), decF_enc h]
/-- A superblock's bytes tell it on its page, and nothing on the other one. -/
theorem flE_enc {x : Sp} (h : x.ok = true) : flE (spEnc x) (slot x.e : Nat) = 0 := by
  have h2 : ((slot x.e : Nat) : Int) = 0 ∨ ((slot x.e : Nat) : Int) = 1 := by have := slot_lt x.e; omega
  have ho : opnE (spEnc x) (slot x.e : Nat) [1] = 0 := by
    unfold spEnc
    rw [opnE_enc (spFr_ok h), if_neg (by simp [spFr]), if_neg (by simp [spFr])]
  have hd : decF (spEnc x) = spFr x := decF_enc (spFr_ok h)
  unfold flE
  rw [if_pos h2, ho, if_neg (by simp), hd, if_pos]
  refine ⟨rfl, rfl, ?_⟩
  show (spOf x.e (body x)).ok = true
  rw [spOf_body h, h]
theorem flS_enc {x : Sp} (h : x.ok = true) : flS (spEnc x) (slot x.e : Nat) = x := by
  have hd : decF (spEnc x) = spFr x := decF_enc (spFr_ok h)
  unfold flS
  rw [if_pos (flE_enc h), hd]
  exact spOf_body h
theorem flE_other {x : Sp} (h : x.ok = true) : flE (spEnc x) (1 - (slot x.e : Nat)) = 5 := by
  have h2 : (1 - ((slot x.e : Nat) : Int)) = 0 ∨ (1 - ((slot x.e : Nat) : Int)) = 1 := by have := slot_lt x.e; omega
  have hne : (spFr x).p ≠ 1 - ((slot x.e : Nat) : Int) := by show ((slot x.e : Nat) : Int) ≠ _; omega
  have ho : opnE (spEnc x) (1 - (slot x.e : Nat)) [1] = 5 := by
    unfold spEnc
    rw [opnE_enc (spFr_ok h), if_pos hne]
  unfold flE
  rw [if_pos h2, ho, if_pos (by decide)]
theorem flS_ok {bs : List Nat} {page : Int} (h : flE bs page = 0) : (flS bs page).ok = true ∧ ((slot (flS bs page).e : Nat) : Int) = page := by
  unfold flS
  rw [if_pos h]
  unfold flE at h
  split at h
  · split at h
    · rename_i h1; exact absurd h h1
    · split at h
      · rename_i h1; exact ⟨h1.2.2, h1.2.1⟩
      · cases h
  · cases h
theorem opnE_le (bs : List Nat) (page : Int) (kinds : List Int) : opnE bs page kinds ≤ 13 := by
  have := decE_cases bs
  unfold opnE
  repeat' split
  all_goals omega
theorem flE_le (bs : List Nat) (page : Int) : flE bs page ≤ 13 := by
  have := opnE_le bs page [1]
  unfold flE
  repeat' split
  all_goals omega
/-- The one that counts, of two pages. -/
def fiE (a b : List Nat) : Nat := if flE a 0 ≠ 0 ∧ flE b 1 ≠ 0 then 5 else 0
def fiS (a b : List Nat) : Sp := if flE a 0 ≠ 0 ∧ flE b 1 ≠ 0 then zeroSp else if flE a 0 ≠ 0 ∨ flE b 1 = 0 ∧ (flS a 0).e < (flS b 1).e then flS b 1 else flS a 0
theorem fiE_cases (a b : List Nat) : fiE a b = 0 ∨ fiE a b = 5 := by unfold fiE; split <;> simp
theorem fiS_ok {a b : List Nat} (h : fiE a b = 0) : (fiS a b).ok = true := by
  unfold fiE at h
  split at h
  · cases h
  · rename_i hn
    unfold fiS
    rw [if_neg hn]
    split
    · rename_i h2
      exact (flS_ok (by omega)).1
    · exact (flS_ok (by omega)).1
theorem fiS_bad {a b : List Nat} (h : fiE a b ≠ 0) : fiS a b = zeroSp := by
  unfold fiE at h
  unfold fiS
  split at h
  · rename_i hn; rw [if_pos hn]
  · exact absurd rfl h
theorem fiS_page {a b : List Nat} (h : fiE a b = 0) : fiS a b = (if slot (fiS a b).e = 0 then flS a 0 else flS b 1) ∧ flE (if slot (fiS a b).e = 0 then a else b) (slot (fiS a b).e : Nat) = 0 := by
  unfold fiE at h
  split at h
  · cases h
  · rename_i hn
    have hc : fiS a b = if flE a 0 ≠ 0 ∨ flE b 1 = 0 ∧ (flS a 0).e < (flS b 1).e then flS b 1 else flS a 0 := by unfold fiS; rw [if_neg hn]
    rw [hc]
    split
    · have hb : flE b 1 = 0 := by omega
      have := (flS_ok hb).2
      rw [if_neg (by omega), if_neg (by omega)]
      exact ⟨rfl, by rw [this]; exact hb⟩
    · have ha : flE a 0 = 0 := by omega
      have := (flS_ok ha).2
      rw [if_pos (by omega), if_pos (by omega)]
      exact ⟨rfl, by rw [this]; exact ha⟩
end Go.Proofs.Ytebacgkeolofmaa
namespace Go.Proofs.Ytebacgkeolofmaa
open Go.RowKit Go.Inc

theorem res24 (w : World) (g : Nat) (cs : Array Value) (tmps : Array Value) (h2 : tmps.getD 2 undef = .pointer (some ⟨g, 0, none⟩)) (hg : w.heap[g]? = some (.cells cs 75 (0, 0))) (hs : cs.size = 4) :
    (results Try.f67 tmps).run Try.prog w = .ok (.tuple #[.agg cs, tmps.getD 3 undef]) w :=
  res_cell_tmp rfl tmps w g 75 cs (0, 0) _ h2 hg Try.underlying75 rfl (by rw [hs]; kernel_rfl)

set_option maxHeartbeats 1000000 in
theorem refDec_len (ok : Nat → Prop) (a : Option Addr) (c : Nat) (bs : List Nat) (w : World) (hl : (bs.length : Int) ≠ 256) :
    Calls Try.prog 67 #[.slice a bs.length c] w fun r w' => DecOk ok bs r w' ∧ Below w.heap.size w w' := by
  have hq : ((bs.length : Int) != 256) = true := by rw [bne_iff_ne]; exact hl
  have HD : Hid (decE bs = 2) := hid (by unfold decE; rw [if_pos (by omega)])
  clear hl
  go_enter Try.func67, Try.ntmps67
  go_wp2_with fail
  refine bodyPost_ret (v := .tuple #[.agg zc, .int .i64 2]) (res24 _ _ _ _ rfl (heap_alloc_new w _) rfl) rfl ⟨?_, (Below.refl _ _).alloc (Nat.le_refl _) _⟩
  exact DecOk.bad HD.out (by decide)

set_option maxRecDepth 20000 in
set_option maxHeartbeats 4000000 in
theorem refDec_256 (ok : Nat → Prop) (b o c : Nat) (bs : List Nat) (w : World) (hs : Sl ok w (some ⟨b, o, none⟩) bs) (hby : Bytes bs) (hl : bs.length = 256) (hc : 256 ≤ c ∧ c ≤ maxLen) :
    Calls Try.prog 67 #[.slice (some ⟨b, o, none⟩) 256 c] w fun r w' => DecOk ok bs r w' ∧ Below w.heap.size w w' := by
  obtain ⟨wb, hwb⟩ : ∃ wb, wb = w.alloc (.cells #[.int .i64 0, .int .i64 0, .int .i64 0, .slice none 0 0] 75) := ⟨_, rfl⟩
  have hb : Below w.heap.size w wb := by rw [hwb]; exact (Below.refl _ _).alloc (Nat.le_refl _) _
  have hr : wb.heap[w.heap.size]? = some (.cells #[.int .i64 0, .int .i64 0, .int .i64 0, .slice none 0 0] 75 (0, 0)) := by rw [hwb]; exact heap_alloc_new w _
  have hnums := picked_nums hl
  have hcell : ∀ x, Below w.heap.size w x → ∀ i, i < 256 → x.cell? ⟨b, o + i, none⟩ = some (.int .u8 ((bs.getD i 0 : Nat) : Int)) := by
    intro x hx i hi
    rcases hs.below hx with h | ⟨b', o', h, _, hc⟩
    · rw [h] at hl; cases hl
    · cases h
      exact hc i (by omega)
  obtain ⟨x0, hx0⟩ : ∃ x, x = bs.getD 0 0 := ⟨_, rfl⟩
  have hy0 : (x0 : Int) < 256 := by have := hby.getD 0; omega
  obtain ⟨x1, hx1⟩ : ∃ x, x = bs.getD 1 0 := ⟨_, rfl⟩
  have hy1 : (x1 : Int) < 256 := by have := hby.getD 1; omega
  obtain ⟨x2, hx2⟩ : ∃ x, x = bs.getD 2 0 := ⟨_, rfl⟩
  have hy2 : (x2 : Int) < 256 := by have := hby.getD 2; omega
  obtain ⟨x3, hx3⟩ : ∃ x, x = bs.getD 3 0 := ⟨_, rfl⟩
  have hy3 : (x3 : Int) < 256 := by have := hby.getD 3; omega
  obtain ⟨x4, hx4⟩ : ∃ x, x = bs.getD 4 0 := ⟨_, rfl⟩
  have hy4 : (x4 : Int) < 256 := by have := hby.getD 4; omega
  obtain ⟨x5, hx5⟩ : ∃ x, x = bs.getD 5 0 := ⟨_, rfl⟩
  have hy5 : (x5 : Int) < 256 := by have := hby.getD 5; omega
  obtain ⟨x6, hx6⟩ : ∃ x, x = bs.getD 6 0 := ⟨_, rfl⟩
  have hy6 : (x6 : Int) < 256 := by have := hby.getD 6; omega
  obtain ⟨x7, hx7⟩ : ∃ x, x = bs.getD 7 0 := ⟨_, rfl⟩
  have hy7 : (x7 : Int) < 256 := by have := hby.getD 7; omega
  obtain ⟨x8, hx8⟩ : ∃ x, x = bs.getD 8 0 := ⟨_, rfl⟩
  have hy8 : (x8 : Int) < 256 := by have := hby.getD 8; omega
  obtain ⟨x9, hx9⟩ : ∃ x, x = bs.getD 9 0 := ⟨_, rfl⟩
  have hy9 : (x9 : Int) < 256 := by have := hby.getD 9; omega
  have HCL : Hid (∀ x, Below w.heap.size w x → x.cell? ⟨b, o, none⟩ = some (.int .u8 (x0 : Int)) ∧ x.cell? ⟨b, o + 1, none⟩ = some (.int .u8 (x1 : Int)) ∧ x.cell? ⟨b, o + 2, none⟩ = some (.int .u8 (x2 : Int)) ∧ x.cell? ⟨b, o + 3, none⟩ = some (.int .u8 (x3 : Int)) ∧ x.cell? ⟨b, o + 4, none⟩ = some (.int .u8 (x4 : Int)) ∧ x.cell? ⟨b, o + 5, none⟩ = some (.int .u8 (x5 : Int)) ∧ x.cell? ⟨b, o + 6, none⟩ = some (.int .u8 (x6 : Int)) ∧ x.cell? ⟨b, o + 7, none⟩ = some (.int .u8 (x7 : Int)) ∧ x.cell? ⟨b, o + 8, none⟩ = some (.int .u8 (x8 : Int)) ∧ x.cell? ⟨b, o + 9, none⟩ = some (.int .u8 (x9 : Int))) := hid fun x hx => ⟨by rw [hx0]; exact hcell x hx 0 (by omega), by rw [hx1]; exact hcell x hx 1 (by omega), by rw [hx2]; exact hcell x hx 2 (by omega), by rw [hx3]; exact hcell x hx 3 (by omega), by rw [hx4]; exact hcell x hx 4 (by omega), by rw [hx5]; exact hcell x hx 5 (by omega), by rw [hx6]; exact hcell x hx 6 (by omega), by rw [hx7]; exact hcell x hx 7 (by omega), by rw [hx8]; exact hcell x hx 8 (by omega), by rw [hx9]; exact hcell x hx 9 (by omega)⟩
  rw [← hx1, ← hx2, ← hx3, ← hx4, ← hx5, ← hx6, ← hx7, ← hx8, ← hx9] at hnums
  have HCELL := hid hcell
  have HNUM := hid hnums
  have h252 : (bs.take 252).length = 252 := by rw [List.length_take, hl]; rfl
  have hd252 : (bs.drop 252).length = 4 := by rw [List.length_drop, hl]
  have HSLT : Hid (Crc.sum (bs.take 252) < 4294967296) := hid (Crc.sum_lt _ (hby.take 252))
  have HSM : Hid (∀ x, Below w.heap.size w x → Calls Try.prog 63 #[.slice (some ⟨b, o, none⟩) 252 c] x fun r w' => r = .returned (.int .u32 (Crc.sum (bs.take 252) : Nat)) ∧ x = w') := hid fun x hx => by
    have h := refSum_any _ (some ⟨b, o, none⟩) c (bs.take 252) x ((hs.below hx).front 252) (hby.take 252) (by rw [h252]; decide)
    rwa [h252] at h
  have HSA : Hid (∀ x, Below w.heap.size w x → ∀ g, Sl (fun _ => True) x (some ⟨g, 0, none⟩) (low (Crc.sum (bs.take 252))) → Calls Try.prog 16 #[.slice (some ⟨b, o + 252, none⟩) 4 (c - 252), .slice (some ⟨g, 0, none⟩) 4 4] x fun r w' => r = .returned (.bool (holds bs)) ∧ Below x.heap.size x w') := hid fun x hx g hg => by
    have h := same_any _ _ (some ⟨b, o + 252, none⟩) (some ⟨g, 0, none⟩) (c - 252) 4 (bs.drop 252) (low (Crc.sum (bs.take 252))) x ((hs.below hx).behind 252 _ (fun _ => by simp [Addr.add])) hg (by rw [hd252]; decide)
    rw [hd252, show (low (Crc.sum (bs.take 252))).length = 4 from rfl] at h
    rw [holds_256 hl]
    exact h
  have HSE : Hid (∀ x, Below w.heap.size w x → Calls Try.prog 16 #[.slice (some ⟨b, o + 248, none⟩) 4 (c - 248), .slice (some ⟨b, o + 2, none⟩) 4 (c - 2)] x fun r w' => r = .returned (.bool (decide (frAt bs 248 4 = frAt bs 2 4))) ∧ Below x.heap.size x w') := hid fun x hx => by
    have h := same_any _ _ (some ⟨b, o + 248, none⟩) (some ⟨b, o + 2, none⟩) (c - 248) (c - 2) (frAt bs 248 4) (frAt bs 2 4) x (Sl.at (hs.below hx) 248 4) (Sl.at (hs.below hx) 2 4) (by rw [frAt_len (by omega)]; decide)
    rwa [frAt_len (by omega), frAt_len (by omega)] at h
  have HBODY : Hid (∀ x, Below w.heap.size w x → ∀ n, n ≤ 238 → Sl ok x (some ⟨b, o + 10, none⟩) (frAt bs 10 n)) := hid fun x hx n _ => Sl.at (hs.below hx) 10 n
  have HDE5 : Hid (holds bs = false → decE bs = 5) := hid fun h => by unfold decE; rw [if_neg (by omega), if_pos h]
  have HOK : Hid (holds bs = true → refOk bs → decE bs = 0) := hid (decE_ok hl hby)
  have HNO : Hid (holds bs = true → ¬ refOk bs → decE bs = 3) := hid (decE_no hl hby)
  have HX0 := hid hx0
  have HL := hid hl
  have HBY := hid hby
  have HWB := hid hwb
  have HB := hid hb
  have HR := hid hr
  have hm : (c : Int) ≤ 9223372036854775807 := by have := hc.2; unfold maxLen at this; omega
  have hc1 : (256 : Int) ≤ c := by omega
  have hcc1 : 256 ≤ c := hc.1
  clear hs hby hl hc hb hr hwb h252 hd252 hnums hcell hx0 hx1 hx2 hx3 hx4 hx5 hx6 hx7 hx8 hx9
  generalize Crc.sum (bs.take 252) = sm at *
  go_enter Try.func67, Try.ntmps67
  go_upto_region 3 with fail
  rw [← HWB.out]
  have HBX := HB
  refine wp_region_grows 8 [Eqv' (.slice (some ⟨b, o, none⟩) 256 c), Eqv' (.slice (some ⟨b, o + 252, none⟩) 4 (c - 252)), Eqv' (.slice (some ⟨b, o, none⟩) 256 c), Eqv' (.slice (some ⟨b, o, none⟩) 252 c), Eqv' (.int .u32 (sm : Nat)), (fun x v => ∃ g, v = .slice (some ⟨g, 0, none⟩) 4 4 ∧ Sl (fun _ => True) x (some ⟨g, 0, none⟩) (low sm)), Eqv' (.bool (holds bs)), Eqv' (.bool (!holds bs))] (by kernel_rfl) (by decide) (by kernel_rfl) ?_ ?_ ?_
  · repeat' (first | exact List.forall_mem_nil _ | refine List.forall_mem_cons.2 ⟨?_, ?_⟩)
    all_goals
      intro w w' v hw h
      first | exact h | (obtain ⟨g, rfl, h1⟩ := h; exact ⟨g, rfl, h1.below hw⟩)
  · simp only [AllLt]
    refine ⟨⟨⟨⟨⟨⟨⟨⟨trivial, ?_⟩, ?_⟩, ?_⟩, ?_⟩, ?_⟩, ?_⟩, ?_⟩, ?_⟩
    all_goals
      intro o' ho
      simp at ho
      subst ho
      intro ρ w4 hR hL hS hG
      obtain ⟨hl1, hl2, -⟩ := hL
    · refine plainG rfl ?_
      intro bA K Q' hK
      have e0 := hS 0 (by kernel_rfl)
      change ρ (.tmp 0) = _ at e0
      simp only [execOp]
      go_simp
      exact hK _ _ rfl (Grew.refl _)
    · refine plainG rfl ?_
      intro bA K Q' hK
      have e11 := hG 0 11 (by decide) (by kernel_rfl) (by kernel_rfl)
      change ρ (.tmp 11) = _ at e11
      simp only [execOp]
      go_simp
      rw [if_neg (by omega)]
      exact hK _ _ rfl (Grew.refl _)
    · refine plainG rfl ?_
      intro bA K Q' hK
      have e0 := hS 0 (by kernel_rfl)
      change ρ (.tmp 0) = _ at e0
      simp only [execOp]
      go_simp
      exact hK _ _ rfl (Grew.refl _)
    · refine plainG rfl ?_
      intro bA K Q' hK
      have e13 := hG 2 13 (by decide) (by kernel_rfl) (by kernel_rfl)
      change ρ (.tmp 13) = _ at e13
      simp only [execOp]
      go_simp
      rw [if_pos (by omega)]
      exact hK _ _ rfl (Grew.refl _)
    · refine plainG rfl ?_
      intro bA K Q' hK
      have e14 := hG 3 14 (by decide) (by kernel_rfl) (by kernel_rfl)
      change ρ (.tmp 14) = _ at e14
      simp only [execOp]
      go_simp
      refine (HSM.out w4 (Grew.on HBX.out hR)).mono ?_
      rintro r w5 ⟨rfl, rfl⟩
      exact hK _ _ rfl (Grew.refl _)
    · refine plainG rfl ?_
      intro bA K Q' hK
      have e15 := hG 4 15 (by decide) (by kernel_rfl) (by kernel_rfl)
      change ρ (.tmp 15) = _ at e15
      simp only [execOp]
      go_simp
      refine (low_any _ w4 HSLT.out).mono ?_
      rintro r w5 ⟨rfl, hs, hb⟩
      exact hK _ _ ⟨_, rfl, hs.mono fun _ _ _ => trivial⟩ hb
    · refine plainG rfl ?_
      intro bA K Q' hK
      have e12 := hG 1 12 (by decide) (by kernel_rfl) (by kernel_rfl)
      have e16 := hG 5 16 (by decide) (by kernel_rfl) (by kernel_rfl)
      change ρ (.tmp 12) = _ at e12
      obtain ⟨g16, e16, hs16⟩ := e16
      simp only [execOp]
      go_simp
      refine (HSA.out w4 (Grew.on HBX.out hR) _ hs16).mono ?_
      rintro r w5 ⟨rfl, hb⟩
      exact hK _ _ rfl hb
    · refine plainG rfl ?_
      intro bA K Q' hK
      have e17 := hG 6 17 (by decide) (by kernel_rfl) (by kernel_rfl)
      change ρ (.tmp 17) = _ at e17
      simp only [execOp]
      go_simp
      exact hK _ _ rfl (Grew.refl _)
  · intro v w1 hR hG
    have h7 := hG.2
    change v 7 = _ at h7
    have HB1 : Hid (Below w.heap.size w w1) := hid (Grew.on HB.out hR)
    have HR1 : Hid (w1.heap[w.heap.size]? = _) := hid (row_below (w := wb.drew) HR.out hR)
    clear hG hR HB HBX HR HWB HSM HSA HSLT
    have HBX := HB1
    cases hh : holds bs
    · rw [hh] at h7
      have HD5 := hid (HDE5.out hh)
      clear HDE5 HOK HNO HSE HBODY HCL HCELL
      simp [stG, stU, dstAt, Act.put, h7]
      go_upto_region 4 with fail
      refine wp_region_lit ?_
      refine wpList_plain rfl fun K hK => ?_
      go_simp
      refine hK _ _ ?_
      refine wpList_store_own rfl 75 _ _ rfl w.heap.size zc rfl rfl 75 _ HR1.out (by kernel_rfl) rfl (by simp [Value.oneCell', zc]) ?_
      intro w2 hr2 hg2
      have HR2 := hid hr2
      have HB2 : Hid (Below w.heap.size w w2) := hid (below_grown HB1.out hg2 (Nat.le_refl _) HB1.out.size)
      clear hr2 hg2
      go_wp2_with fail
      refine bodyPost_ret (v := .tuple #[.agg zc, .int .i64 5]) (res24 _ _ _ _ rfl HR2.out rfl) rfl ⟨?_, HB2.out⟩
      exact DecOk.bad HD5.out (by decide)
    · rw [hh] at h7
      have HOK := hid (HOK.out hh)
      have HNO := hid (HNO.out hh)
      clear HDE5 hh
      simp [stG, stU, dstAt, Act.put, h7]
      go_upto_region 5 with fail
      refine wp_region_grows 10 [Eqv' (.slice (some ⟨b, o, none⟩) 256 c), Eqv' (.pointer (some ⟨b, o + 8, none⟩)), Eqv' (.int .u8 (x8 : Int)), Eqv' (.int .i64 ((x8 : Int))), Eqv' (.slice (some ⟨b, o, none⟩) 256 c), Eqv' (.pointer (some ⟨b, o + 9, none⟩)), Eqv' (.int .u8 (x9 : Int)), Eqv' (.int .i64 ((x9 : Int))), Eqv' (.int .i64 (256 * (x9 : Int))), Eqv' (.int .i64 ((x8 : Int) + 256 * (x9 : Int)))] (by kernel_rfl) (by decide) (by kernel_rfl) ?_ ?_ ?_
      · repeat' (first | exact List.forall_mem_nil _ | refine List.forall_mem_cons.2 ⟨?_, ?_⟩)
        all_goals
          intro w w' v hw h
          first | exact h | exact h
      · simp only [AllLt]
        refine ⟨⟨⟨⟨⟨⟨⟨⟨⟨⟨trivial, ?_⟩, ?_⟩, ?_⟩, ?_⟩, ?_⟩, ?_⟩, ?_⟩, ?_⟩, ?_⟩, ?_⟩
        all_goals
          intro o' ho
          simp at ho
          subst ho
          intro ρ w4 hR hL hS hG
          obtain ⟨hl1, hl2, -⟩ := hL
        · refine plainG rfl ?_
          intro bA K Q' hK
          have e0 := hS 0 (by kernel_rfl)
          change ρ (.tmp 0) = _ at e0
          simp only [execOp]
          go_simp
          exact hK _ _ rfl (Grew.refl _)
        · refine plainG rfl ?_
          intro bA K Q' hK
          have e20 := hG 0 20 (by decide) (by kernel_rfl) (by kernel_rfl)
          change ρ (.tmp 20) = _ at e20
          simp only [execOp]
          go_simp
          exact hK _ _ rfl (Grew.refl _)
        · refine plainG rfl ?_
          intro bA K Q' hK
          have e21 := hG 1 21 (by decide) (by kernel_rfl) (by kernel_rfl)
          change ρ (.tmp 21) = _ at e21
          obtain ⟨k0, k1, k2, k3, k4, k5, k6, k7, k8, k9⟩ := HCL.out w4 (Grew.on HBX.out hR)
          simp only [execOp]
          go_simp
          exact hK _ _ rfl (Grew.refl _)
        · refine plainG rfl ?_
          intro bA K Q' hK
          have e22 := hG 2 22 (by decide) (by kernel_rfl) (by kernel_rfl)
          change ρ (.tmp 22) = _ at e22
          simp only [execOp]
          go_simp
          exact hK _ _ (val_int (by rw [IntKind.wrap_i64]; omega)) (Grew.refl _)
        · refine plainG rfl ?_
          intro bA K Q' hK
          have e0 := hS 0 (by kernel_rfl)
          change ρ (.tmp 0) = _ at e0
          simp only [execOp]
          go_simp
          exact hK _ _ rfl (Grew.refl _)
        · refine plainG rfl ?_
          intro bA K Q' hK
          have e24 := hG 4 24 (by decide) (by kernel_rfl) (by kernel_rfl)
          change ρ (.tmp 24) = _ at e24
          simp only [execOp]
          go_simp
          exact hK _ _ rfl (Grew.refl _)
        · refine plainG rfl ?_
          intro bA K Q' hK
          have e25 := hG 5 25 (by decide) (by kernel_rfl) (by kernel_rfl)
          change ρ (.tmp 25) = _ at e25
          obtain ⟨k0, k1, k2, k3, k4, k5, k6, k7, k8, k9⟩ := HCL.out w4 (Grew.on HBX.out hR)
          simp only [execOp]
          go_simp
          exact hK _ _ rfl (Grew.refl _)
        · refine plainG rfl ?_
          intro bA K Q' hK
          have e26 := hG 6 26 (by decide) (by kernel_rfl) (by kernel_rfl)
          change ρ (.tmp 26) = _ at e26
          simp only [execOp]
          go_simp
          exact hK _ _ (val_int (by rw [IntKind.wrap_i64]; omega)) (Grew.refl _)
        · refine plainG rfl ?_
          intro bA K Q' hK
          have e27 := hG 7 27 (by decide) (by kernel_rfl) (by kernel_rfl)
          change ρ (.tmp 27) = _ at e27
          simp only [execOp]
          go_simp
          exact hK _ _ (val_int (by rw [IntKind.wrap_i64]; omega)) (Grew.refl _)
        · refine plainG rfl ?_
          intro bA K Q' hK
          have e23 := hG 3 23 (by decide) (by kernel_rfl) (by kernel_rfl)
          have e28 := hG 8 28 (by decide) (by kernel_rfl) (by kernel_rfl)
          change ρ (.tmp 23) = _ at e23
          change ρ (.tmp 28) = _ at e28
          simp only [execOp]
          go_simp
          exact hK _ _ (val_int (by rw [IntKind.wrap_i64]; omega)) (Grew.refl _)
      · intro v w2 hR hG
        have h9 := hG.2
        change v 9 = _ at h9
        have HB2 : Hid (Below w.heap.size w w2) := hid (Grew.on HB1.out hR)
        have HR2 : Hid (w2.heap[w.heap.size]? = _) := hid (row_below (w := w1.drew) HR1.out hR)
        clear hG hR HB1 HBX HR1
        have HBX := HB2
        simp [stG, stU, dstAt, Act.put, h9]
        go_upto_region 6 with fail
        refine wp_region_grows 38 [Eqv' (.slice (some ⟨b, o, none⟩) 256 c), Eqv' (.pointer (some ⟨b, o + 1, none⟩)), Eqv' (.int .u8 (x1 : Int)), Eqv' (.int .i64 ((x1 : Int))), Eqv' (.slice (some ⟨b, o, none⟩) 256 c), Eqv' (.pointer (some ⟨b, o + 2, none⟩)), Eqv' (.int .u8 (x2 : Int)), Eqv' (.int .i64 ((x2 : Int))), Eqv' (.slice (some ⟨b, o, none⟩) 256 c), Eqv' (.pointer (some ⟨b, o + 3, none⟩)), Eqv' (.int .u8 (x3 : Int)), Eqv' (.int .i64 ((x3 : Int))), Eqv' (.int .i64 (256 * (x3 : Int))), Eqv' (.int .i64 ((x2 : Int) + 256 * (x3 : Int))), Eqv' (.slice (some ⟨b, o, none⟩) 256 c), Eqv' (.pointer (some ⟨b, o + 4, none⟩)), Eqv' (.int .u8 (x4 : Int)), Eqv' (.int .i64 ((x4 : Int))), Eqv' (.int .i64 (65536 * (x4 : Int))), Eqv' (.int .i64 ((x2 : Int) + 256 * (x3 : Int) + 65536 * (x4 : Int))), Eqv' (.slice (some ⟨b, o, none⟩) 256 c), Eqv' (.pointer (some ⟨b, o + 5, none⟩)), Eqv' (.int .u8 (x5 : Int)), Eqv' (.int .i64 ((x5 : Int))), Eqv' (.int .i64 (16777216 * (x5 : Int))), Eqv' (.int .i64 ((x2 : Int) + 256 * (x3 : Int) + 65536 * (x4 : Int) + 16777216 * (x5 : Int))), Eqv' (.slice (some ⟨b, o, none⟩) 256 c), Eqv' (.pointer (some ⟨b, o + 6, none⟩)), Eqv' (.int .u8 (x6 : Int)), Eqv' (.int .i64 ((x6 : Int))), Eqv' (.slice (some ⟨b, o, none⟩) 256 c), Eqv' (.pointer (some ⟨b, o + 7, none⟩)), Eqv' (.int .u8 (x7 : Int)), Eqv' (.int .i64 ((x7 : Int))), Eqv' (.int .i64 (256 * (x7 : Int))), Eqv' (.int .i64 ((x6 : Int) + 256 * (x7 : Int))), Eqv' (.agg #[.int .i64 (x1 : Int), .int .i64 ((x2 : Int) + 256 * (x3 : Int) + 65536 * (x4 : Int) + 16777216 * (x5 : Int)), .int .i64 ((x6 : Int) + 256 * (x7 : Int)), .slice none 0 0]), (fun x v => ∃ g, v = .pointer (some ⟨g, 0, none⟩) ∧ w2.heap.size ≤ g ∧ x.heap[g]? = some (.cells zc 75 (0, 0)))] (by kernel_rfl) (by decide) (by kernel_rfl) ?_ ?_ ?_
        · repeat' (first | exact List.forall_mem_nil _ | refine List.forall_mem_cons.2 ⟨?_, ?_⟩)
          all_goals
            intro w w' v hw h
            first | exact h | (obtain ⟨g, rfl, h1, h2⟩ := h; exact ⟨g, rfl, h1, row_below h2 hw⟩)
        · simp only [AllLt]
          refine ⟨⟨⟨⟨⟨⟨⟨⟨⟨⟨⟨⟨⟨⟨⟨⟨⟨⟨⟨⟨⟨⟨⟨⟨⟨⟨⟨⟨⟨⟨⟨⟨⟨⟨⟨⟨⟨⟨trivial, ?_⟩, ?_⟩, ?_⟩, ?_⟩, ?_⟩, ?_⟩, ?_⟩, ?_⟩, ?_⟩, ?_⟩, ?_⟩, ?_⟩, ?_⟩, ?_⟩, ?_⟩, ?_⟩, ?_⟩, ?_⟩, ?_⟩, ?_⟩, ?_⟩, ?_⟩, ?_⟩, ?_⟩, ?_⟩, ?_⟩, ?_⟩, ?_⟩, ?_⟩, ?_⟩, ?_⟩, ?_⟩, ?_⟩, ?_⟩, ?_⟩, ?_⟩, ?_⟩, ?_⟩
          all_goals
            intro o' ho
            simp at ho
            subst ho
            intro ρ w4 hR hL hS hG
            obtain ⟨hl1, hl2, -⟩ := hL
          · refine plainG rfl ?_
            intro bA K Q' hK
            have e0 := hS 0 (by kernel_rfl)
            change ρ (.tmp 0) = _ at e0
            simp only [execOp]
            go_simp
            exact hK _ _ rfl (Grew.refl _)
          · refine plainG rfl ?_
            intro bA K Q' hK
            have e30 := hG 0 30 (by decide) (by kernel_rfl) (by kernel_rfl)
            change ρ (.tmp 30) = _ at e30
            simp only [execOp]
            go_simp
            exact hK _ _ rfl (Grew.refl _)
          · refine plainG rfl ?_
            intro bA K Q' hK
            have e31 := hG 1 31 (by decide) (by kernel_rfl) (by kernel_rfl)
            change ρ (.tmp 31) = _ at e31
            obtain ⟨k0, k1, k2, k3, k4, k5, k6, k7, k8, k9⟩ := HCL.out w4 (Grew.on HBX.out hR)
            simp only [execOp]
            go_simp
            exact hK _ _ rfl (Grew.refl _)
          · refine plainG rfl ?_
            intro bA K Q' hK
            have e32 := hG 2 32 (by decide) (by kernel_rfl) (by kernel_rfl)
            change ρ (.tmp 32) = _ at e32
            simp only [execOp]
            go_simp
            exact hK _ _ (val_int (by rw [IntKind.wrap_i64]; omega)) (Grew.refl _)
          · refine plainG rfl ?_
            intro bA K Q' hK
            have e0 := hS 0 (by kernel_rfl)
            change ρ (.tmp 0) = _ at e0
            simp only [execOp]
            go_simp
            exact hK _ _ rfl (Grew.refl _)
          · refine plainG rfl ?_
            intro bA K Q' hK
            have e34 := hG 4 34 (by decide) (by kernel_rfl) (by kernel_rfl)
            change ρ (.tmp 34) = _ at e34
            simp only [execOp]
            go_simp
            exact hK _ _ rfl (Grew.refl _)
          · refine plainG rfl ?_
            intro bA K Q' hK
            have e35 := hG 5 35 (by decide) (by kernel_rfl) (by kernel_rfl)
            change ρ (.tmp 35) = _ at e35
            obtain ⟨k0, k1, k2, k3, k4, k5, k6, k7, k8, k9⟩ := HCL.out w4 (Grew.on HBX.out hR)
            simp only [execOp]
            go_simp
            exact hK _ _ rfl (Grew.refl _)
          · refine plainG rfl ?_
            intro bA K Q' hK
            have e36 := hG 6 36 (by decide) (by kernel_rfl) (by kernel_rfl)
            change ρ (.tmp 36) = _ at e36
            simp only [execOp]
            go_simp
            exact hK _ _ (val_int (by rw [IntKind.wrap_i64]; omega)) (Grew.refl _)
          · refine plainG rfl ?_
            intro bA K Q' hK
            have e0 := hS 0 (by kernel_rfl)
            change ρ (.tmp 0) = _ at e0
            simp only [execOp]
            go_simp
            exact hK _ _ rfl (Grew.refl _)
          · refine plainG rfl ?_
            intro bA K Q' hK
            have e38 := hG 8 38 (by decide) (by kernel_rfl) (by kernel_rfl)
            change ρ (.tmp 38) = _ at e38
            simp only [execOp]
            go_simp
            exact hK _ _ rfl (Grew.refl _)
          · refine plainG rfl ?_
            intro bA K Q' hK
            have e39 := hG 9 39 (by decide) (by kernel_rfl) (by kernel_rfl)
            change ρ (.tmp 39) = _ at e39
            obtain ⟨k0, k1, k2, k3, k4, k5, k6, k7, k8, k9⟩ := HCL.out w4 (Grew.on HBX.out hR)
            simp only [execOp]
            go_simp
            exact hK _ _ rfl (Grew.refl _)
          · refine plainG rfl ?_
            intro bA K Q' hK
            have e40 := hG 10 40 (by decide) (by kernel_rfl) (by kernel_rfl)
            change ρ (.tmp 40) = _ at e40
            simp only [execOp]
            go_simp
            exact hK _ _ (val_int (by rw [IntKind.wrap_i64]; omega)) (Grew.refl _)
          · refine plainG rfl ?_
            intro bA K Q' hK
            have e41 := hG 11 41 (by decide) (by kernel_rfl) (by kernel_rfl)
            change ρ (.tmp 41) = _ at e41
            simp only [execOp]
            go_simp
            exact hK _ _ (val_int (by rw [IntKind.wrap_i64]; omega)) (Grew.refl _)
          · refine plainG rfl ?_
            intro bA K Q' hK
            have e37 := hG 7 37 (by decide) (by kernel_rfl) (by kernel_rfl)
            have e42 := hG 12 42 (by decide) (by kernel_rfl) (by kernel_rfl)
            change ρ (.tmp 37) = _ at e37
            change ρ (.tmp 42) = _ at e42
            simp only [execOp]
            go_simp
            exact hK _ _ (val_int (by rw [IntKind.wrap_i64]; omega)) (Grew.refl _)
          · refine plainG rfl ?_
            intro bA K Q' hK
            have e0 := hS 0 (by kernel_rfl)
            change ρ (.tmp 0) = _ at e0
            simp only [execOp]
            go_simp
            exact hK _ _ rfl (Grew.refl _)
          · refine plainG rfl ?_
            intro bA K Q' hK
            have e44 := hG 14 44 (by decide) (by kernel_rfl) (by kernel_rfl)
            change ρ (.tmp 44) = _ at e44
            simp only [execOp]
            go_simp
            exact hK _ _ rfl (Grew.refl _)
          · refine plainG rfl ?_
            intro bA K Q' hK
            have e45 := hG 15 45 (by decide) (by kernel_rfl) (by kernel_rfl)
            change ρ (.tmp 45) = _ at e45
            obtain ⟨k0, k1, k2, k3, k4, k5, k6, k7, k8, k9⟩ := HCL.out w4 (Grew.on HBX.out hR)
            simp only [execOp]
            go_simp
            exact hK _ _ rfl (Grew.refl _)
          · refine plainG rfl ?_
            intro bA K Q' hK
            have e46 := hG 16 46 (by decide) (by kernel_rfl) (by kernel_rfl)
            change ρ (.tmp 46) = _ at e46
            simp only [execOp]
            go_simp
            exact hK _ _ (val_int (by rw [IntKind.wrap_i64]; omega)) (Grew.refl _)
          · refine plainG rfl ?_
            intro bA K Q' hK
            have e47 := hG 17 47 (by decide) (by kernel_rfl) (by kernel_rfl)
            change ρ (.tmp 47) = _ at e47
            simp only [execOp]
            go_simp
            exact hK _ _ (val_int (by rw [IntKind.wrap_i64]; omega)) (Grew.refl _)
          · refine plainG rfl ?_
            intro bA K Q' hK
            have e43 := hG 13 43 (by decide) (by kernel_rfl) (by kernel_rfl)
            have e48 := hG 18 48 (by decide) (by kernel_rfl) (by kernel_rfl)
            change ρ (.tmp 43) = _ at e43
            change ρ (.tmp 48) = _ at e48
            simp only [execOp]
            go_simp
            exact hK _ _ (val_int (by rw [IntKind.wrap_i64]; omega)) (Grew.refl _)
          · refine plainG rfl ?_
            intro bA K Q' hK
            have e0 := hS 0 (by kernel_rfl)
            change ρ (.tmp 0) = _ at e0
            simp only [execOp]
            go_simp
            exact hK _ _ rfl (Grew.refl _)
          · refine plainG rfl ?_
            intro bA K Q' hK
            have e50 := hG 20 50 (by decide) (by kernel_rfl) (by kernel_rfl)
            change ρ (.tmp 50) = _ at e50
            simp only [execOp]
            go_simp
            exact hK _ _ rfl (Grew.refl _)
          · refine plainG rfl ?_
            intro bA K Q' hK
            have e51 := hG 21 51 (by decide) (by kernel_rfl) (by kernel_rfl)
            change ρ (.tmp 51) = _ at e51
            obtain ⟨k0, k1, k2, k3, k4, k5, k6, k7, k8, k9⟩ := HCL.out w4 (Grew.on HBX.out hR)
            simp only [execOp]
            go_simp
            exact hK _ _ rfl (Grew.refl _)
          · refine plainG rfl ?_
            intro bA K Q' hK
            have e52 := hG 22 52 (by decide) (by kernel_rfl) (by kernel_rfl)
            change ρ (.tmp 52) = _ at e52
            simp only [execOp]
            go_simp
            exact hK _ _ (val_int (by rw [IntKind.wrap_i64]; omega)) (Grew.refl _)
          · refine plainG rfl ?_
            intro bA K Q' hK
            have e53 := hG 23 53 (by decide) (by kernel_rfl) (by kernel_rfl)
            change ρ (.tmp 53) = _ at e53
            simp only [execOp]
            go_simp
            exact hK _ _ (val_int (by rw [IntKind.wrap_i64]; omega)) (Grew.refl _)
          · refine plainG rfl ?_
            intro bA K Q' hK
            have e49 := hG 19 49 (by decide) (by kernel_rfl) (by kernel_rfl)
            have e54 := hG 24 54 (by decide) (by kernel_rfl) (by kernel_rfl)
            change ρ (.tmp 49) = _ at e49
            change ρ (.tmp 54) = _ at e54
            simp only [execOp]
            go_simp
            exact hK _ _ (val_int (by rw [IntKind.wrap_i64]; omega)) (Grew.refl _)
          · refine plainG rfl ?_
            intro bA K Q' hK
            have e0 := hS 0 (by kernel_rfl)
            change ρ (.tmp 0) = _ at e0
            simp only [execOp]
            go_simp
            exact hK _ _ rfl (Grew.refl _)
          · refine plainG rfl ?_
            intro bA K Q' hK
            have e56 := hG 26 56 (by decide) (by kernel_rfl) (by kernel_rfl)
            change ρ (.tmp 56) = _ at e56
            simp only [execOp]
            go_simp
            exact hK _ _ rfl (Grew.refl _)
          · refine plainG rfl ?_
            intro bA K Q' hK
            have e57 := hG 27 57 (by decide) (by kernel_rfl) (by kernel_rfl)
            change ρ (.tmp 57) = _ at e57
            obtain ⟨k0, k1, k2, k3, k4, k5, k6, k7, k8, k9⟩ := HCL.out w4 (Grew.on HBX.out hR)
            simp only [execOp]
            go_simp
            exact hK _ _ rfl (Grew.refl _)
          · refine plainG rfl ?_
            intro bA K Q' hK
            have e58 := hG 28 58 (by decide) (by kernel_rfl) (by kernel_rfl)
            change ρ (.tmp 58) = _ at e58
            simp only [execOp]
            go_simp
            exact hK _ _ (val_int (by rw [IntKind.wrap_i64]; omega)) (Grew.refl _)
          · refine plainG rfl ?_
            intro bA K Q' hK
            have e0 := hS 0 (by kernel_rfl)
            change ρ (.tmp 0) = _ at e0
            simp only [execOp]
            go_simp
            exact hK _ _ rfl (Grew.refl _)
          · refine plainG rfl ?_
            intro bA K Q' hK
            have e60 := hG 30 60 (by decide) (by kernel_rfl) (by kernel_rfl)
            change ρ (.tmp 60) = _ at e60
            simp only [execOp]
            go_simp
            exact hK _ _ rfl (Grew.refl _)
          · refine plainG rfl ?_
            intro bA K Q' hK
            have e61 := hG 31 61 (by decide) (by kernel_rfl) (by kernel_rfl)
            change ρ (.tmp 61) = _ at e61
            obtain ⟨k0, k1, k2, k3, k4, k5, k6, k7, k8, k9⟩ := HCL.out w4 (Grew.on HBX.out hR)
            simp only [execOp]
            go_simp
            exact hK _ _ rfl (Grew.refl _)
          · refine plainG rfl ?_
            intro bA K Q' hK
            have e62 := hG 32 62 (by decide) (by kernel_rfl) (by kernel_rfl)
            change ρ (.tmp 62) = _ at e62
            simp only [execOp]
            go_simp
            exact hK _ _ (val_int (by rw [IntKind.wrap_i64]; omega)) (Grew.refl _)
          · refine plainG rfl ?_
            intro bA K Q' hK
            have e63 := hG 33 63 (by decide) (by kernel_rfl) (by kernel_rfl)
            change ρ (.tmp 63) = _ at e63
            simp only [execOp]
            go_simp
            exact hK _ _ (val_int (by rw [IntKind.wrap_i64]; omega)) (Grew.refl _)
          · refine plainG rfl ?_
            intro bA K Q' hK
            have e59 := hG 29 59 (by decide) (by kernel_rfl) (by kernel_rfl)
            have e64 := hG 34 64 (by decide) (by kernel_rfl) (by kernel_rfl)
            change ρ (.tmp 59) = _ at e59
            change ρ (.tmp 64) = _ at e64
            simp only [execOp]
            go_simp
            exact hK _ _ (val_int (by rw [IntKind.wrap_i64]; omega)) (Grew.refl _)
          · refine plainG rfl ?_
            intro bA K Q' hK
            have e33 := hG 3 33 (by decide) (by kernel_rfl) (by kernel_rfl)
            have e55 := hG 25 55 (by decide) (by kernel_rfl) (by kernel_rfl)
            have e65 := hG 35 65 (by decide) (by kernel_rfl) (by kernel_rfl)
            change ρ (.tmp 33) = _ at e33
            change ρ (.tmp 55) = _ at e55
            change ρ (.tmp 65) = _ at e65
            simp only [execOp]
            go_simp
            exact hK _ _ rfl (Grew.refl _)
          · refine plainG rfl ?_
            intro bA K Q' hK
            simp only [execOp]
            go_simp
            exact hK _ _ ⟨_, rfl, hR.size, heap_alloc_new w4 _⟩ ((Grew.refl _).alloc _)
        · intro v w3 hR hG
          obtain ⟨g5, h37, hg5, hrow5⟩ := hG.2
          have h36 := hG.1.2
          change v 36 = _ at h36
          have HB3 : Hid (Below w.heap.size w w3) := hid (Grew.on HB2.out hR)
          have HR3 : Hid (w3.heap[w.heap.size]? = _) := hid (row_below (w := w2.drew) HR2.out hR)
          have hgne : w.heap.size < g5 := Nat.lt_of_lt_of_le (row_lt HR2.out) hg5
          have HG5 := hid hgne
          clear hG hR HB2 HBX hg5 hgne
          simp [stG, stU, dstAt, Act.put, h37, h36]
          have hN : (x8 : Int) + 256 * (x9 : Int) = ((x8 + 256 * x9 : Nat) : Int) := by omega
          rw [hN]
          obtain ⟨N, hNd⟩ : ∃ N, N = x8 + 256 * x9 := ⟨_, rfl⟩
          have HNd := hid hNd
          rw [← hNd]
          have hNb : (N : Int) < 65536 := by omega
          clear hN hNd h36 h37 h9 h7
          refine wpList_store_own rfl 75 _ _ rfl g5 #[.int .i64 (x1 : Int), .int .i64 ((x2 : Int) + 256 * (x3 : Int) + 65536 * (x4 : Int) + 16777216 * (x5 : Int)), .int .i64 (((x6 : Int) + 256 * (x7 : Int))), .slice none 0 0] rfl rfl 75 _ hrow5 (by kernel_rfl) rfl (by simp [Value.oneCell']) ?_
          intro w4 hr4 hg4
          have HB4 : Hid (Below w.heap.size w w4) := hid (below_grown HB3.out hg4 (Nat.le_of_lt HG5.out) HB3.out.size)
          have HR4 : Hid (w4.heap[w.heap.size]? = _) := hid (row_grown HR3.out hg4 (by intro h; cases h; exact absurd HG5.out (Nat.lt_irrefl _)))
          have HRG := hid hr4
          have q0 := cell_of_row w4 _ 0 _ _ _ hr4
          have q2 := cell_of_row w4 _ 2 _ _ _ hr4
          have q3 := cell_of_row w4 _ 3 _ _ _ hr4
          have qf := frozen_of_row w4 g5 3 _ _ hr4
          have k0 := (HCL.out w4 HB4.out).1
          clear hr4 hg4 hrow5 HB3 HR3
          have hsp : (((x0 : Int) != 241) = true ∧ x0 ≠ 241) ∨ (((x0 : Int) != 241) = false ∧ x0 = 241 ∧ (238 : Int) < N) ∨ (((x0 : Int) != 241) = false ∧ x0 = 241 ∧ (N : Int) ≤ 238 ∧ (x1 : Int) < 1) ∨ (((x0 : Int) != 241) = false ∧ x0 = 241 ∧ (N : Int) ≤ 238 ∧ (1 : Int) ≤ x1 ∧ (9 : Int) < x1) ∨ (((x0 : Int) != 241) = false ∧ x0 = 241 ∧ (N : Int) ≤ 238 ∧ (1 : Int) ≤ x1 ∧ (x1 : Int) ≤ 9 ∧ (2047 : Int) < ((x6 : Int) + 256 * (x7 : Int))) ∨
              (((x0 : Int) != 241) = false ∧ x0 = 241 ∧ (N : Int) ≤ 238 ∧ (1 : Int) ≤ x1 ∧ (x1 : Int) ≤ 9 ∧ ((x6 : Int) + 256 * (x7 : Int)) ≤ (2047 : Int)) := by
            by_cases h : x0 = 241
            · right
              have h' : ((x0 : Int) != 241) = false := by rw [bne_eq_false_iff_eq]; omega
              by_cases h1 : (N : Int) ≤ 238
              · right
                by_cases h2 : (1 : Int) ≤ x1
                · right
                  by_cases h3 : (x1 : Int) ≤ 9
                  · right
                    by_cases h4 : ((x6 : Int) + 256 * (x7 : Int)) ≤ (2047 : Int)
                    · exact .inr ⟨h', h, h1, h2, h3, h4⟩
                    · exact .inl ⟨h', h, h1, h2, h3, by omega⟩
                  · exact .inl ⟨h', h, h1, h2, by omega⟩
                · exact .inl ⟨h', h, h1, by omega⟩
              · exact .inl ⟨h', h, by omega⟩
            · exact .inl ⟨by rw [bne_iff_ne]; omega, h⟩
          have HBAD : Hid (x0 ≠ 241 ∨ 238 < N ∨ x1 < 1 ∨ 9 < x1 ∨ 2047 < x6 + 256 * x7 → decE bs = 3) := hid fun h => HNO.out fun hr => by
            obtain ⟨r1, r2, r3, r4, r5, _⟩ := hr
            obtain ⟨n1, n2, n3, n4⟩ := HNUM.out
            rw [← HX0.out] at r1
            rw [n4] at r2
            rw [n1] at r3 r4
            rw [n3] at r5
            have := HNd.out
            omega
          rcases hsp with ⟨t0, hb⟩ | ⟨t0, hb, t1⟩ | ⟨t0, hb, t1, t2⟩ | ⟨t0, hb, t1, t2, t3⟩ | ⟨t0, hb, t1, t2, t3, t4⟩ | ⟨t0, hb, t1, t2, t3, t4⟩
          rotate_right 1
          · have HX1 := hid hb
            have t5 : ((2047 : Int) < ((x6 : Int) + 256 * (x7 : Int))) = False := eq_false (by omega)
            have t6 : ((238 : Int) < N) = False := eq_false (by omega)
            have t7 : ((x1 : Int) < 1) = False := eq_false (by omega)
            have t8 : ((9 : Int) < x1) = False := eq_false (by omega)
            have hN10 : (10 : Int) + N ≤ c := by omega
            have hNc : (c = 10) = False := eq_false (by omega)
            have HT := hid (And.intro t1 (And.intro t2 (And.intro t3 t4)))
            clear hb t2 t3 t4
            go_wp2_with fail
            obtain ⟨w5, hw5⟩ : ∃ w5, w5 = w4.setCell ⟨g5, 3, none⟩ (.slice (some ⟨b, o + 10, none⟩) N (c - 10)) := ⟨_, rfl⟩
            rw [← hw5]
            have hg5 : w4.grownBy w5 (some g5) := by rw [hw5]; exact grown_setCell (grown_refl _ _) (.inl rfl) _
            have HB5 : Hid (Below w.heap.size w w5) := hid (below_grown HB4.out hg5 (Nat.le_of_lt HG5.out) HB4.out.size)
            have HR5 : Hid (w5.heap[w.heap.size]? = _) := hid (row_grown HR4.out hg5 (by intro h; cases h; exact absurd HG5.out (Nat.lt_irrefl _)))
            have HRG5 : Hid (w5.heap[g5]? = some (.cells #[.int .i64 (x1 : Int), .int .i64 ((x2 : Int) + 256 * (x3 : Int) + 65536 * (x4 : Int) + 16777216 * (x5 : Int)), .int .i64 (((x6 : Int) + 256 * (x7 : Int))), .slice (some ⟨b, o + 10, none⟩) N (c - 10)] 75 (0, 0))) := hid (by
              have h := heap_setCell_same w4 g5 3 _ _ (.slice (some ⟨b, o + 10, none⟩) N (c - 10)) HRG.out
              rw [hw5]
              exact h)
            have HFRN : Hid (frN bs = N) := hid (HNUM.out.2.2.2.trans HNd.out.symm)
            have HGOOD : Hid (decE bs = 0 → ∀ y, Below w.heap.size w y → DecOk ok bs (.returned (.tuple #[.agg #[.int .i64 (x1 : Int), .int .i64 ((x2 : Int) + 256 * (x3 : Int) + 65536 * (x4 : Int) + 16777216 * (x5 : Int)), .int .i64 (((x6 : Int) + 256 * (x7 : Int))), .slice (some ⟨b, o + 10, none⟩) N (c - 10)], .int .i64 0])) y) := hid fun h y hy => by
              obtain ⟨n1, n2, n3, n4⟩ := HNUM.out
              have hlen : (picked bs).b.length = N := by rw [picked_len HL.out, HFRN.out]; omega
              have hbb : (picked bs).b = frAt bs 10 N := by show frAt bs 10 (min (frN bs) 238) = _; rw [HFRN.out, Nat.min_eq_left (by omega)]
              unfold DecOk
              have e5 : ((x2 + 256 * x3 + 65536 * x4 + 16777216 * x5 : Nat) : Int) = (x2 : Int) + 256 * (x3 : Int) + 65536 * (x4 : Int) + 16777216 * (x5 : Int) := by omega
              have e7 : ((x6 + 256 * x7 : Nat) : Int) = ((x6 : Int) + 256 * (x7 : Int)) := by omega
              rw [decF_ok h, h, n1, n2, n3, e5, e7]
              refine ⟨.slice (some ⟨b, o + 10, none⟩) N (c - 10), rfl, some ⟨b, o + 10, none⟩, c - 10, by rw [hlen], ?_, by rw [hlen]; omega, by have := hm; unfold maxLen; omega, fun h => by cases h⟩
              rw [hbb]
              exact HBODY.out y hy N (by omega)
            have HREF : Hid ((∀ j, 10 + N ≤ j → j < 248 → bs.getD j 0 = 0) → decide (frAt bs 248 4 = frAt bs 2 4) = true → decE bs = 0) := hid fun h1 h2 => HOK.out (by
              obtain ⟨n1, n2, n3, n4⟩ := HNUM.out
              have := HT.out
              unfold refOk
              rw [HFRN.out, n1, n3, ← HX0.out]
              exact ⟨HX1.out, by omega, by omega, by omega, by omega, h1, of_decide_eq_true h2⟩)
            have HNOZ : Hid (∀ j, 10 + N ≤ j → j < 248 → bs.getD j 0 ≠ 0 → decE bs = 3) := hid fun j h1 h2 h3 => HNO.out fun hr => by
              have := hr.2.2.2.2.2.1 j (by rw [HFRN.out]; exact h1) h2
              exact h3 this
            have HNOE : Hid (decide (frAt bs 248 4 = frAt bs 2 4) = false → decE bs = 3) := hid fun h => HNO.out fun hr => (of_decide_eq_false h) hr.2.2.2.2.2.2
            have hn10 : 10 + N ≤ 248 := by omega
            clear hw5 hg5 q0 q2 q3 qf k0 t5 t6 t7 t8 hN10 hNc HRG HB4 HR4 HOK HNO HBAD HNUM HCL t0
            go_loop [6] (fun i => ∃ k : Nat, 10 + N ≤ k ∧ k ≤ 248 ∧ i = .int .i64 (k : Int) ∧ ∀ j, 10 + N ≤ j → j < k → bs.getD j 0 = 0) (fun i => 248 - (intOf i).toNat)
            case atStart => exact ⟨10 + N, Nat.le_refl _, hn10, by congr 1, fun j h1 h2 => by omega⟩
            case round =>
              obtain ⟨k, hk1, hk2, rfl, hz⟩ := hrel
              have HZ := hid hz
              clear hz
              by_cases hlt : (k : Int) < 248
              · have hcell := HCELL.out w5 HB5.out k (by omega)
                obtain ⟨y, hy⟩ : ∃ y, y = bs.getD k 0 := ⟨_, rfl⟩
                rw [← hy] at hcell
                have HY := hid hy
                clear hy
                have hk256 : (k : Int) < 256 := by omega
                by_cases hy0 : y = 0
                · have ht : ((y : Int) != 0) = false := by rw [bne_eq_false_iff_eq]; omega
                  have HY0 := hid hy0
                  clear hy0
                  go_wp2_with fail
                  go_round
                  case rel => exact ⟨k + 1, by omega, by omega, by go_num, fun j h1 h2 => by
                    by_cases hj : j = k
                    · rw [hj, ← HY.out, HY0.out]
                    · exact HZ.out j h1 (by omega)⟩
                  case measure => simp [intOf]; omega
                · have ht : ((y : Int) != 0) = true := by rw [bne_iff_ne]; omega
                  have HD3 : Hid (decE bs = 3) := hid (HNOZ.out k hk1 (by omega) (by rw [← HY.out]; exact hy0))
                  clear hy0
                  go_upto_region 14 with fail
                  refine wp_region_lit ?_
                  refine wpList_plain rfl fun K hK => ?_
                  go_simp
                  refine hK _ _ ?_
                  refine wpList_store_own rfl 75 _ _ rfl w.heap.size zc rfl rfl 75 _ HR5.out (by kernel_rfl) rfl (by simp [Value.oneCell', zc]) ?_
                  intro w9 hr9 hg9
                  have HR9 := hid hr9
                  have HB9 : Hid (Below w.heap.size w w9) := hid (below_grown HB5.out hg9 (Nat.le_refl _) HB5.out.size)
                  clear hr9 hg9
                  go_wp2_with fail
                  refine bodyPost_ret (v := .tuple #[.agg zc, .int .i64 3]) (res24 _ _ _ _ rfl HR9.out rfl) rfl ⟨?_, HB9.out⟩
                  exact DecOk.bad HD3.out (by decide)
              · have hk8 : k = 248 := by omega
                subst hk8
                have HREF := hid (HREF.out HZ.out)
                clear hlt HZ HNOZ
                go_upto_region 15 with fail
                have HBX := HB5
                refine wp_region_grows 6 [Eqv' (.slice (some ⟨b, o, none⟩) 256 c), Eqv' (.slice (some ⟨b, o + 248, none⟩) 4 (c - 248)), Eqv' (.slice (some ⟨b, o, none⟩) 256 c), Eqv' (.slice (some ⟨b, o + 2, none⟩) 4 (c - 2)), Eqv' (.bool (decide (frAt bs 248 4 = frAt bs 2 4))), Eqv' (.bool (!decide (frAt bs 248 4 = frAt bs 2 4)))] (by kernel_rfl) (by decide) (by kernel_rfl) ?_ ?_ ?_
                · repeat' (first | exact List.forall_mem_nil _ | refine List.forall_mem_cons.2 ⟨?_, ?_⟩)
                  all_goals
                    intro w w' v hw h
                    first | exact h | exact h
                · simp only [AllLt]
                  refine ⟨⟨⟨⟨⟨⟨trivial, ?_⟩, ?_⟩, ?_⟩, ?_⟩, ?_⟩, ?_⟩
                  all_goals
                    intro o' ho
                    simp at ho
                    subst ho
                    intro ρ w4 hR hL hS hG
                    obtain ⟨hl1, hl2, -⟩ := hL
                  · refine plainG rfl ?_
                    intro bA K Q' hK
                    have e0 := hS 0 (by kernel_rfl)
                    change ρ (.tmp 0) = _ at e0
                    simp only [execOp]
                    go_simp
                    exact hK _ _ rfl (Grew.refl _)
                  · refine plainG rfl ?_
                    intro bA K Q' hK
                    have e108 := hG 0 108 (by decide) (by kernel_rfl) (by kernel_rfl)
                    change ρ (.tmp 108) = _ at e108
                    simp only [execOp]
                    go_simp
                    rw [if_pos (by omega), if_neg (by omega)]
                    exact hK _ _ rfl (Grew.refl _)
                  · refine plainG rfl ?_
                    intro bA K Q' hK
                    have e0 := hS 0 (by kernel_rfl)
                    change ρ (.tmp 0) = _ at e0
                    simp only [execOp]
                    go_simp
                    exact hK _ _ rfl (Grew.refl _)
                  · refine plainG rfl ?_
                    intro bA K Q' hK
                    have e110 := hG 2 110 (by decide) (by kernel_rfl) (by kernel_rfl)
                    change ρ (.tmp 110) = _ at e110
                    simp only [execOp]
                    go_simp
                    rw [if_pos (by omega), if_neg (by omega)]
                    exact hK _ _ rfl (Grew.refl _)
                  · refine plainG rfl ?_
                    intro bA K Q' hK
                    have e109 := hG 1 109 (by decide) (by kernel_rfl) (by kernel_rfl)
                    have e111 := hG 3 111 (by decide) (by kernel_rfl) (by kernel_rfl)
                    change ρ (.tmp 109) = _ at e109
                    change ρ (.tmp 111) = _ at e111
                    simp only [execOp]
                    go_simp
                    refine (HSE.out w4 (Grew.on HBX.out hR)).mono ?_
                    rintro r w5 ⟨rfl, hb⟩
                    exact hK _ _ rfl hb
                  · refine plainG rfl ?_
                    intro bA K Q' hK
                    have e112 := hG 4 112 (by decide) (by kernel_rfl) (by kernel_rfl)
                    change ρ (.tmp 112) = _ at e112
                    simp only [execOp]
                    go_simp
                    exact hK _ _ rfl (Grew.refl _)
                · intro v w6 hR hG
                  have h5 := hG.2
                  change v 5 = _ at h5
                  have HB6 : Hid (Below w.heap.size w w6) := hid (Grew.on HB5.out hR)
                  have HR6 : Hid (w6.heap[w.heap.size]? = _) := hid (row_below (w := w5.drew) HR5.out hR)
                  have hrg6 : w6.heap[g5]? = _ := row_below (w := w5.drew) HRG5.out hR
                  have q0 := cell_of_row w6 _ 0 _ _ _ hrg6
                  have q1 := cell_of_row w6 _ 1 _ _ _ hrg6
                  have q2 := cell_of_row w6 _ 2 _ _ _ hrg6
                  have q3 := cell_of_row w6 _ 3 _ _ _ hrg6
                  clear hG hR HB5 HBX HR5 HRG5 hrg6
                  cases hE : decide (frAt bs 248 4 = frAt bs 2 4)
                  · have HD3 : Hid (decE bs = 3) := hid (HNOE.out hE)
                    rw [hE] at h5
                    simp [stG, stU, dstAt, Act.put, h5]
                    go_upto_region 16 with fail
                    refine wp_region_lit ?_
                    refine wpList_plain rfl fun K hK => ?_
                    go_simp
                    refine hK _ _ ?_
                    refine wpList_store_own rfl 75 _ _ rfl w.heap.size zc rfl rfl 75 _ HR6.out (by kernel_rfl) rfl (by simp [Value.oneCell', zc]) ?_
                    intro w9 hr9 hg9
                    have HR9 := hid hr9
                    have HB9 : Hid (Below w.heap.size w w9) := hid (below_grown HB6.out hg9 (Nat.le_refl _) HB6.out.size)
                    clear hr9 hg9
                    go_wp2_with fail
                    refine bodyPost_ret (v := .tuple #[.agg zc, .int .i64 3]) (res24 _ _ _ _ rfl HR9.out rfl) rfl ⟨?_, HB9.out⟩
                    exact DecOk.bad HD3.out (by decide)
                  · have HD0 := hid (HREF.out hE)
                    have HGOOD := hid (HGOOD.out HD0.out)
                    rw [hE] at h5
                    simp [stG, stU, dstAt, Act.put, h5]
                    go_upto_region 17 with fail
                    refine wp_region_lit ?_
                    refine wpList_plain rfl fun K hK => ?_
                    go_simp
                    refine hK _ _ ?_
                    refine wpList_store_own rfl 75 _ _ rfl w.heap.size #[.int .i64 (x1 : Int), .int .i64 ((x2 : Int) + 256 * (x3 : Int) + 65536 * (x4 : Int) + 16777216 * (x5 : Int)), .int .i64 (((x6 : Int) + 256 * (x7 : Int))), .slice (some ⟨b, o + 10, none⟩) N (c - 10)] rfl rfl 75 _ HR6.out (by kernel_rfl) rfl (by simp [Value.oneCell']) ?_
                    intro w9 hr9 hg9
                    have HR9 := hid hr9
                    have HB9 : Hid (Below w.heap.size w w9) := hid (below_grown HB6.out hg9 (Nat.le_refl _) HB6.out.size)
                    clear hr9 hg9 q0 q1 q2 q3
                    go_wp2_with fail
                    refine bodyPost_ret (v := .tuple #[.agg #[.int .i64 (x1 : Int), .int .i64 ((x2 : Int) + 256 * (x3 : Int) + 65536 * (x4 : Int) + 16777216 * (x5 : Int)), .int .i64 (((x6 : Int) + 256 * (x7 : Int))), .slice (some ⟨b, o + 10, none⟩) N (c - 10)], .int .i64 0]) (res24 _ _ _ _ rfl HR9.out rfl) rfl ⟨HGOOD.out w9 HB9.out, HB9.out⟩
          all_goals
            have HD3 : Hid (decE bs = 3) := hid (HBAD.out (by omega))
            clear hb HBAD HOK HNO HNUM
            go_upto_region 8 with fail
            refine wp_region_lit ?_
            refine wpList_plain rfl fun K hK => ?_
            go_simp
            refine hK _ _ ?_
            refine wpList_store_own rfl 75 _ _ rfl w.heap.size zc rfl rfl 75 _ HR4.out (by kernel_rfl) rfl (by simp [Value.oneCell', zc]) ?_
            intro w9 hr9 hg9
            have HR9 := hid hr9
            have HB9 : Hid (Below w.heap.size w w9) := hid (below_grown HB4.out hg9 (Nat.le_refl _) HB4.out.size)
            clear hr9 hg9
            go_wp2_with fail
            refine bodyPost_ret (v := .tuple #[.agg zc, .int .i64 3]) (res24 _ _ _ _ rfl HR9.out rfl) rfl ⟨?_, HB9.out⟩
            exact DecOk.bad HD3.out (by decide)
end Go.Proofs.Ytebacgkeolofmaa
namespace Go.Proofs.Ytebacgkeolofmaa
open Go.RowKit Go.Inc

theorem refDec_any (ok : Nat → Prop) (a : Option Addr) (c : Nat) (bs : List Nat) (w : World) (hs : Sl ok w a bs) (hby : Bytes bs) (hc : bs.length ≤ c ∧ c ≤ maxLen) :
    Calls Try.prog 67 #[.slice a bs.length c] w fun r w' => DecOk ok bs r w' ∧ Below w.heap.size w w' := by
  by_cases hl : bs.length = 256
  · rcases hs with h | ⟨b, o, rfl, hk, hcell⟩
    · rw [h] at hl; cases hl
    · have h := refDec_256 ok b o c bs w (.inr ⟨b, o, rfl, hk, hcell⟩) hby hl (by omega)
      rw [hl]
      exact h
  · exact refDec_len ok a c bs w (by omega)
theorem res22 (w : World) (g : Nat) (cs : Array Value) (tmps : Array Value) (h2 : tmps.getD 6 undef = .pointer (some ⟨g, 0, none⟩)) (hg : w.heap[g]? = some (.cells cs 75 (0, 0))) (hs : cs.size = 4) :
    (results Try.f42 tmps).run Try.prog w = .ok (.tuple #[.agg cs, tmps.getD 7 undef]) w :=
  res_cell_tmp rfl tmps w g 75 cs (0, 0) _ h2 hg Try.underlying75 rfl (by rw [hs]; kernel_rfl)
/-- Is one of the first j kinds this one (or is none told)? -/
def opnD (kinds : List Int) (k : Int) (j : Nat) : Bool := decide (kinds = [] ∨ k ∈ kinds.take j)

set_option maxRecDepth 20000 in
set_option maxHeartbeats 2000000 in
theorem refOpen_any (ok ok2 : Nat → Prop) (a : Option Addr) (c : Nat) (bs : List Nat) (page : Int) (a2 : Option Addr) (c2 : Nat) (kinds : List Int) (w : World) (hs : Sl ok w a bs) (hby : Bytes bs) (hc : bs.length ≤ c ∧ c ≤ maxLen) (hk : Si ok2 w a2 kinds) (hkl : (kinds.length : Int) ≤ 9223372036854775807) :
    Calls Try.prog 42 #[.slice a bs.length c, .int .i64 page, .slice a2 kinds.length c2] w fun r w' => OpnOk ok bs page kinds r w' ∧ Below w.heap.size w w' := by
  obtain ⟨wb, hwb⟩ : ∃ wb, wb = w.alloc (.cells #[.int .i64 0, .int .i64 0, .int .i64 0, .slice none 0 0] 75) := ⟨_, rfl⟩
  have hb : Below w.heap.size w wb := by rw [hwb]; exact (Below.refl _ _).alloc (Nat.le_refl _) _
  have hr : wb.heap[w.heap.size]? = some (.cells #[.int .i64 0, .int .i64 0, .int .i64 0, .slice none 0 0] 75 (0, 0)) := by rw [hwb]; exact heap_alloc_new w _
  have HD := hid (refDec_any (fun b => ok b ∧ b < w.heap.size) a c bs wb ((hs.mono fun b h1 h2 => ⟨h1, h2⟩).below hb) hby hc)
  have HK := hid (hk.mono (ok' := fun b => b < w.heap.size) fun b _ h => h)
  have HWB := hid hwb
  have HB := hid hb
  have HR := hid hr
  have HE : Hid (opnE bs page kinds = if decE bs ≠ 0 then decE bs else if (decF bs).p ≠ page then 5 else if kinds ≠ [] ∧ ¬ (decF bs).k ∈ kinds then 13 else 0) := hid rfl
  clear hs hby hc hk hb hr hwb
  go_enter Try.func42, Try.ntmps42
  go_wp2_with fail
  rw [← HWB.out]
  refine HD.out.mono ?_
  rintro r w1 ⟨⟨v, rfl, hv⟩, hb1⟩
  obtain ⟨a3, c3, rfl, hs3, hlc3, hm3, hn3⟩ := hv
  obtain ⟨w3, hw3⟩ : ∃ w3, w3 = w1.alloc (.cells #[.int .i64 (decF bs).k, .int .i64 (decF bs).e, .int .i64 (decF bs).p, .slice a3 (decF bs).b.length c3] 75) := ⟨_, rfl⟩
  have hb3 : Below w1.heap.size w1 w3 := by rw [hw3]; exact (Below.refl _ _).alloc (Nat.le_refl _) _
  have hr3 : w3.heap[w1.heap.size]? = some (.cells #[.int .i64 (decF bs).k, .int .i64 (decF bs).e, .int .i64 (decF bs).p, .slice a3 (decF bs).b.length c3] 75 (0, 0)) := by rw [hw3]; exact heap_alloc_new w1 _
  have HB3 : Hid (Below w.heap.size w w3) := hid ((HB.out.trans (hb1.mono HB.out.size)).trans (hb3.mono (HB.out.trans (hb1.mono HB.out.size)).size))
  have HR3 : Hid (w3.heap[w.heap.size]? = _) := hid (row_below (row_below HR.out hb1) hb3)
  have HV3 : Hid (Bb (fun b => ok b ∧ b < w.heap.size) w3 (.slice a3 (decF bs).b.length c3) (decF bs).b) := hid ⟨a3, c3, rfl, hs3.below hb3, hlc3, hm3, hn3⟩
  have HG3 : Hid (w3.heap[w1.heap.size]? = _) := hid hr3
  have HK3 := hid ((HK.out.below (HB.out.trans (hb1.mono HB.out.size))).below hb3) 
  have q0 := cell_of_row w3 _ 0 _ _ _ hr3
  have q1 := cell_of_row w3 _ 1 _ _ _ hr3
  have q2 := cell_of_row w3 _ 2 _ _ _ hr3
  have q3 := cell_of_row w3 _ 3 _ _ _ hr3
  have HW3 := hid hw3
  have HGOOD : Hid (opnE bs page kinds = 0 → ∀ x, Below w3.heap.size w3 x → ∀ y, x.grownBy y (some w.heap.size) → OpnOk ok bs page kinds (.returned (.tuple #[.agg #[.int .i64 (decF bs).k, .int .i64 (decF bs).e, .int .i64 (decF bs).p, .slice a3 (decF bs).b.length c3], .int .i64 0])) y) := hid fun h x hx y hy => by
    refine OpnOk.good h ?_
    obtain ⟨a1, c1, he, hs1, hr1⟩ := HV3.out
    exact ⟨a1, c1, he, ((hs1.below hx).grown hy (fun b hb => by omega)).mono fun b hb _ => hb.1, hr1⟩
  clear hs3 hlc3 hm3 hn3 hb1 hb3 hw3 hr3 HD HB HR HV3 HK
  by_cases hd : decE bs = 0
  · have HE : Hid (opnE bs page kinds = if (decF bs).p ≠ page then 5 else if kinds ≠ [] ∧ ¬ (decF bs).k ∈ kinds then 13 else 0) := hid (by rw [HE.out, if_neg (by simp [hd])])
    rw [hd]
    clear hd
    by_cases hp : (decF bs).p = page
    · have hp1 : ((decF bs).p != page) = false := by rw [bne_eq_false_iff_eq]; exact hp
      have HE : Hid (opnE bs page kinds = if kinds ≠ [] ∧ ¬ (decF bs).k ∈ kinds then 13 else 0) := hid (by rw [HE.out, if_neg (by simp [hp])])
      clear hp
      have hD0 : opnD kinds (decF bs).k 0 = ((kinds.length : Int) == 0) := by
        unfold opnD
        cases kinds with
        | nil => rfl
        | cons x xs =>
          have h1 : (((x :: xs).length : Int) == 0) = false := by rw [beq_eq_false_iff_ne, List.length_cons]; omega
          rw [h1]
          exact decide_eq_false (by rintro (h | h); · cases h
                                    · rw [List.take_zero] at h; cases h)
      have HDN : Hid (opnE bs page kinds = if opnD kinds (decF bs).k kinds.length = false then 13 else 0) := hid (by
        rw [HE.out]
        unfold opnD
        rw [List.take_length]
        by_cases h1 : kinds = [] <;> by_cases h2 : (decF bs).k ∈ kinds <;> simp [h1, h2])
      have HD0 := hid hD0
      have HCLL : Hid (∀ x, Below w3.heap.size w3 x → ∀ j, j < kinds.length → ∃ b off, a2 = some ⟨b, off, none⟩ ∧ x.cell? ⟨b, off + j, none⟩ = some (.int .i64 (kinds.getD j 0))) := hid fun x hx j hj => by
        rcases HK3.out.below hx with h | ⟨b, off, h, _, hc⟩
        · rw [h] at hj; simp at hj
        · exact ⟨b, off, h, hc j hj⟩
      have HNX : Hid (∀ j, j < kinds.length → opnD kinds (decF bs).k (j + 1) = (opnD kinds (decF bs).k j || (kinds.getD j 0 == (decF bs).k))) := hid fun j hj => by
        have hsn : kinds.take (j + 1) = kinds.take j ++ [kinds.getD j 0] := by
          rw [List.take_succ_eq_append_getElem hj, List.getD_eq_getElem?_getD, List.getElem?_eq_getElem hj]; rfl
        unfold opnD
        rw [hsn]
        rw [Bool.eq_iff_iff]
        simp only [decide_eq_true_iff, Bool.or_eq_true, beq_iff_eq, List.mem_append, List.mem_singleton]
        constructor
        · rintro (h | h | h)
          · exact .inl (.inl h)
          · exact .inl (.inr h)
          · exact .inr h.symm
        · rintro ((h | h) | h)
          · exact .inl h
          · exact .inr (.inl h)
          · exact .inr (.inr h.symm)
      have HB3R := hid (Below.refl w3.heap.size w3)
      clear hD0 HE HK3
      obtain ⟨n, hn⟩ : ∃ n, n = kinds.length := ⟨_, rfl⟩
      have HN := hid hn
      rw [← hn] at hkl HDN HD0 HCLL HNX ⊢
      clear hn
      go_wp2_with fail
      rw [← HW3.out]
      clear q0 q1 q2 q3
      go_loopw [10, 11] (fun okv i wr => ∃ j : Nat, j ≤ n ∧ i = .int .i64 (j : Int) ∧ okv = .bool (opnD kinds (decF bs).k j) ∧ Below w3.heap.size w3 wr) (fun _ i _ => n - (intOf i).toNat)
      case atStart => exact ⟨0, Nat.zero_le _, rfl, by rw [HD0.out], HB3R.out⟩
      case round =>
        obtain ⟨j, hj, rfl, rfl, hbw⟩ := hrel
        have hrg : wr.heap[w1.heap.size]? = _ := row_below HG3.out hbw
        have q0 := cell_of_row wr _ 0 _ _ _ hrg
        have HRG := hid hrg
        clear hrg
        by_cases hlt : (j : Int) < n
        · obtain ⟨b, off, hba, hcell⟩ := HCLL.out wr hbw j (by omega)
          have HNXj := HNX.out j (by omega)
          obtain ⟨z, hz⟩ : ∃ z, z = kinds.getD j 0 := ⟨_, rfl⟩
          rw [← hz] at hcell HNXj
          clear hz
          subst hba
          cases hD : opnD kinds (decF bs).k j
          · rw [hD, Bool.false_or] at HNXj
            have HNJ := hid HNXj
            clear HNXj hD
            go_wp2_with fail
            go_quiet (fail)
            have hbq : Below w3.heap.size w3 (wr.drewN nq) := ⟨hbw.os, hbw.tape, hbw.output, hbw.size, hbw.block⟩
            have HBQ := hid hbq
            clear hbq hbw q0 hcell HRG
            generalize wr.drewN nq = wq at *
            go_wp2_with fail
            go_roundw
            case rel => exact ⟨j + 1, by omega, by go_num, by rw [HNJ.out], HBQ.out⟩
            case measure => simp [intOf]; omega
          · rw [hD, Bool.true_or] at HNXj
            have HNJ := hid HNXj
            clear HNXj hD
            go_wp2_with fail
            go_quiet (fail)
            have hbq : Below w3.heap.size w3 (wr.drewN nq) := ⟨hbw.os, hbw.tape, hbw.output, hbw.size, hbw.block⟩
            have HBQ := hid hbq
            clear hbq hbw q0 hcell HRG
            generalize wr.drewN nq = wq at *
            go_wp2_with fail
            go_roundw
            case rel => exact ⟨j + 1, by omega, by go_num, by rw [HNJ.out], HBQ.out⟩
            case measure => simp [intOf]; omega
        · have hjn : j = n := by omega
          subst hjn
          have HBW := hid hbw
          have HBWW : Hid (Below w.heap.size w wr) := hid (HB3.out.trans (hbw.mono HB3.out.size))
          have HRW : Hid (wr.heap[w.heap.size]? = _) := hid (row_below HR3.out hbw)
          have q1 := cell_of_row wr _ 1 _ _ _ HRG.out
          have q2 := cell_of_row wr _ 2 _ _ _ HRG.out
          have q3 := cell_of_row wr _ 3 _ _ _ HRG.out
          clear hbw hlt
          cases hD : opnD kinds (decF bs).k j
          · have HE0 : Hid (opnE bs page kinds = 13) := hid (by rw [HDN.out, if_pos hD])
            clear hD
            go_upto_region 12 with fail
            refine wp_region_lit ?_
            refine wpList_plain rfl fun K hK => ?_
            go_simp
            refine hK _ _ ?_
            refine wpList_store_own rfl 75 _ _ rfl w.heap.size zc rfl rfl 75 _ HRW.out (by kernel_rfl) rfl (by simp [Value.oneCell', zc]) ?_
            intro w9 hr9 hg9
            have HR9 := hid hr9
            have HB9 : Hid (Below w.heap.size w w9) := hid (below_grown HBWW.out hg9 (Nat.le_refl _) HBWW.out.size)
            clear hr9 hg9
            go_wp2_with fail
            refine bodyPost_ret (v := .tuple #[.agg zc, .int .i64 13]) (res22 _ _ _ _ rfl HR9.out rfl) rfl ⟨?_, HB9.out⟩
            exact OpnOk.bad HE0.out (by decide)
          · have HE0 : Hid (opnE bs page kinds = 0) := hid (by rw [HDN.out, if_neg (by rw [hD]; simp)])
            have HGOOD := hid (HGOOD.out HE0.out wr HBW.out)
            clear hD
            go_upto_region 13 with fail
            refine wp_region_lit ?_
            refine wpList_plain rfl fun K hK => ?_
            go_simp
            refine hK _ _ ?_
            refine wpList_store_own rfl 75 _ _ rfl w.heap.size #[.int .i64 (decF bs).k, .int .i64 (decF bs).e, .int .i64 (decF bs).p, .slice a3 (decF bs).b.length c3] rfl rfl 75 _ HRW.out (by kernel_rfl) rfl (by simp [Value.oneCell']) ?_
            intro w9 hr9 hg9
            have HR9 := hid hr9
            have HB9 : Hid (Below w.heap.size w w9) := hid (below_grown HBWW.out hg9 (Nat.le_refl _) HBWW.out.size)
            have HO9 := hid (HGOOD.out w9 hg9)
            clear hr9 hg9
            go_wp2_with fail
            refine bodyPost_ret (v := .tuple #[.agg #[.int .i64 (decF bs).k, .int .i64 (decF bs).e, .int .i64 (decF bs).p, .slice a3 (decF bs).b.length c3], .int .i64 0]) (res22 _ _ _ _ rfl HR9.out rfl) rfl ⟨HO9.out, HB9.out⟩
    · have hp1 : ((decF bs).p != page) = true := by rw [bne_iff_ne]; exact hp
      have HE0 : Hid (opnE bs page kinds = 5) := hid (by rw [HE.out, if_pos hp])
      clear hp HE HGOOD HK3
      go_upto_region 5 with fail
      rw [← HW3.out]
      refine wp_region_lit ?_
      refine wpList_plain rfl fun K hK => ?_
      go_simp
      refine hK _ _ ?_
      refine wpList_store_own rfl 75 _ _ rfl w.heap.size zc rfl rfl 75 _ HR3.out (by kernel_rfl) rfl (by simp [Value.oneCell', zc]) ?_
      intro w9 hr9 hg9
      have HR9 := hid hr9
      have HB9 : Hid (Below w.heap.size w w9) := hid (below_grown HB3.out hg9 (Nat.le_refl _) HB3.out.size)
      clear hr9 hg9
      go_wp2_with fail
      refine bodyPost_ret (v := .tuple #[.agg zc, .int .i64 5]) (res22 _ _ _ _ rfl HR9.out rfl) rfl ⟨?_, HB9.out⟩
      exact OpnOk.bad HE0.out (by decide)
  · have HE0 : Hid (opnE bs page kinds = decE bs) := hid (by rw [HE.out, if_pos hd])
    have hd1 : (((decE bs : Nat) : Int) != 0) = true := by rw [bne_iff_ne]; omega
    have HNE := hid hd
    clear HE HGOOD HK3 hd
    generalize decE bs = q at *
    go_upto_region 3 with fail
    rw [← HW3.out]
    refine wp_region_lit ?_
    refine wpList_plain rfl fun K hK => ?_
    go_simp
    refine hK _ _ ?_
    refine wpList_plain rfl fun K hK => ?_
    go_simp
    refine hK _ _ ?_
    refine wpList_store_own rfl 75 _ _ rfl w.heap.size zc rfl rfl 75 _ HR3.out (by kernel_rfl) rfl (by simp [Value.oneCell', zc]) ?_
    intro w9 hr9 hg9
    have HR9 := hid hr9
    have HB9 : Hid (Below w.heap.size w w9) := hid (below_grown HB3.out hg9 (Nat.le_refl _) HB3.out.size)
    clear hr9 hg9
    go_wp2_with fail
    refine bodyPost_ret (v := .tuple #[.agg zc, .int .i64 (q : Nat)]) (res22 _ _ _ _ rfl HR9.out rfl) rfl ⟨?_, HB9.out⟩
    exact OpnOk.bad HE0.out HNE.out
end Go.Proofs.Ytebacgkeolofmaa
