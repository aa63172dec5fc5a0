/- CONTRACTS OF THE DOCUMENT's DEVICE: one is made. -/
import Derived.Test.YtgppmnaidgkboaaRefA
import Derived.Deep.OwnRows
import Derived.Maps.AppendAt
namespace Go.Proofs.Ytgppmnaidgkboaa
open Go.RowKit Go.Inc Go.Deep

/-- 'append' onto a slice of the call's own, as one step of a region that draws; where the new one lies. -/
theorem step_append_at {P : Program} {ops : Array Oper} {o : Oper} {a : Act} {w : World} {K : Act → World → Prop} {Q : Exit → Act → World → Prop} {E : Prop}
    (hg : o.guard = none) (s x : Operand) (t : TypeId) (hop : o.op = Op.call { callee := Callee.builtin Builtin.append, args := #[s, x], argTypes := #[t, t] })
    (base : Nat) (e : TypeId) (i : TypeInfo) (z : Value) (size bytes : Nat) (h1 : P.underlying t = some (.slice e)) (h2 : P.info? e = some i) (h3 : i.zero = some z) (h4 : i.size = size) (h5 : i.bytes = bytes) (h6 : z.cells.size = size) (h7 : 0 < size)
    (v : Value) (n : Nat) (xs : List Value) (hs : a.eval s = v) (hown : w.ownsRow base e size v n xs)
    (ad : Addr) (m c : Nat) (news : List Value) (hx : a.eval x = .slice (some ad) m c) (hn : news.length = m * size) (hc : ∀ j u, news[j]? = some u → w.cell? (ad.add j) = some u) (h1c : ∀ u ∈ news, u.oneCell' = true)
    (b0 : 0 < n + m) (b1 : n + m ≤ maxLen) (b2 : (n + m) * bytes ≤ 140737488355328) (b3 : base ≤ w.heap.size)
    (hK : ∀ g c w', w'.ownsRow base e size (.slice (some ⟨g, 0, none⟩) (n + m) c) (n + m) (xs ++ news) → w.grownBy w' v.ownBlock → (some g = v.ownBlock ∨ g = w.heap.size) → K (a.put o.dst (.slice (some ⟨g, 0, none⟩) (n + m) c)) w') :
    if Region.wanted o (yielded ops a.tmps) = true then Oper.wp P o a w K Q else E := by
  have hw : Region.wanted o (yielded ops a.tmps) = true := by simp [Region.wanted, hg]
  rw [if_pos hw]
  obtain ⟨v', w', hrun, r1, r2, _, r3⟩ := run_append_own_at (P := P) w base t o.type e i z size bytes h1 h2 h3 h4 h5 h6 h7 v n xs hown ad m c news hn hc h1c b1 b2 b3
  unfold Oper.wp
  simp [execOp, hop, resolve, invoke, builtin, hs, hx, hrun, Result.andThen]
  rcases r1.2 with ⟨_, h0⟩ | ⟨g, cap, cur, rfl, _⟩
  · omega
  · exact hK g cap w' r1 r2 (by rcases r3 with h | h; exact .inl h; cases h; exact .inr rfl)

/-- The state at the beginning. -/
def rfresh (k : Nat) : Rs := ⟨List.replicate k (List.replicate 256 0), [], false, -1, 0, 0, 0⟩

/-- One page more. -/
theorem RefAt.grewP {K w h ldv R P} (H : RefAt K w h ldv (.slice none 0 0) P [] R) {wm w' : World} {q : Item} {ldv' : Value} (hb : Below w.heap.size w wm) (hs : Sl (fun b => w.heap.size ≤ b) wm q.a q.b) (hq : q.b.length = 256 ∧ 256 ≤ q.c ∧ q.c ≤ maxLen)
    (hown : w'.ownsRow 0 31 1 ldv' (P.length + 1) (P.map Item.val ++ [q.val])) (hat : ldv'.ownBlock = ldv.ownBlock ∨ ∃ b, ldv'.ownBlock = some b ∧ wm.heap.size ≤ b) (hm : Mv (fun b => ldv.ownBlock = some b ∨ b = h) wm w')
    (hrow : RefRow w' h ldv' (.slice none 0 0) R.off R.left R.r R.s R.t) :
    ∃ K', RefAt K' w' h ldv' (.slice none 0 0) (P ++ [q]) [] { R with P := R.P ++ [q.b], L := [] } ∧ ∀ b, b < w.heap.size → K' b = K b := by
  have hlt : ∀ b, (ldv.ownBlock = some b ∨ b = h) → b < w.heap.size := by
    rintro b (hb | rfl)
    · exact H.lt b (by rw [H.kp b hb]; decide)
    · exact H.lt _ (by rw [H.kh]; decide)
  obtain ⟨K', hK'⟩ : ∃ K' : Nat → Nat, K' = fun b => if b < w.heap.size then K b else if ldv'.ownBlock = some b then 2 else if b < wm.heap.size then 4 else 0 := ⟨_, rfl⟩
  have hold : ∀ b, b < w.heap.size → K' b = K b := fun b hb => by rw [hK']; simp [hb]
  have hkeep : ∀ b, K b ≠ 0 → K' b = K b := fun b hb => hold b (H.lt b hb)
  have hmm : Mv (fun b => ldv.ownBlock = some b ∨ b = h) w w' := (Mv.of_below hb).trans' hm fun _ _ h => h
  have hgood : ∀ q, Good K w q → Good K' w' q := fun q hq => ⟨(hq.1.mv hmm fun b hb hf => by
      rcases hf with hf | hf
      · have := H.kp b hf; omega
      · subst hf; have := H.kh; omega).mono fun b hb _ => by rw [hkeep b (by rw [hb]; decide)]; exact hb, hq.2⟩
  refine ⟨K', ⟨hrow, ?_, World.ownsRow_nil _ _ _ _, fun x hx => ?_, fun e he => (by cases he), ?_, rfl, (hkeep h (by rw [H.kh]; decide)).trans H.kh, fun b hb' => ?_, fun b hb => (by cases hb), fun b hb' => ?_, H.lb, H.cnt⟩, hold⟩
  · simpa using hown
  · rcases List.mem_append.1 hx with hx | hx
    · exact hgood x (H.pall x hx)
    · rw [List.mem_singleton] at hx
      subst hx
      refine ⟨?_, hq⟩
      have hs' : Sl (fun b => w.heap.size ≤ b ∧ b < wm.heap.size) wm x.a x.b := hs.mono fun b h1 h2 => ⟨h1, h2⟩
      refine (hs'.mv hm fun b hb hF => ?_).mono fun b hb _ => ?_
      · have := hlt b hF; omega
      · have h1 : ¬ b < w.heap.size := by omega
        have h2 : ¬ ldv'.ownBlock = some b := fun e => by
          rcases hat with h | ⟨c, h, hc⟩
          · rw [h] at e; have := hlt b (.inl e); omega
          · rw [h] at e; cases e; omega
        rw [hK']; simp [h1, h2, hb.2]
  · show R.P ++ [q.b] = _
    rw [H.pe]; simp
  · by_cases hl : b < w.heap.size
    · rw [hold b hl]
      rcases hat with h | ⟨c, h, hc⟩
      · rw [h] at hb'; exact H.kp b hb'
      · rw [h] at hb'; cases hb'; have := hb.size; omega
    · rw [hK']; simp [hl, hb']
  · rw [hK'] at hb'
    simp only at hb'
    have := hmm.size
    have hws := hm.size
    split at hb'
    · omega
    · split at hb'
      · rename_i hvb
        rcases hown.2 with ⟨h0, _⟩ | ⟨g, cap, cur, hv, _, hg, _⟩
        · rw [h0] at hvb; cases hvb
        · rw [hv] at hvb; cases hvb
          exact row_lt hg
      · split at hb'
        · omega
        · exact absurd rfl hb'

set_option maxRecDepth 20000 in
set_option maxHeartbeats 2000000 in
theorem rnew_any (w : World) (p : Nat) (hp : p ≤ 20) : Calls Try.prog 11 #[.int .i64 (p : Int)] w fun e w' => ∃ K h, e = .returned (.pointer (some ⟨h, 0, none⟩)) ∧ Rf K w' h (rfresh p) ∧ Below w.heap.size w w' ∧ ∀ b, K b ≠ 0 → w.heap.size ≤ b := by
  obtain ⟨i0, hi, hz0, hz1, hz2⟩ := info_parts infoRow
  have HI := hid (And.intro hi (And.intro hz0 (And.intro hz1 hz2)))
  obtain ⟨Z, hZ⟩ : ∃ Z, Z = madeCells #[.int .u8 0] 256 := ⟨_, rfl⟩
  have hmk : ∀ w : World, (Instr.makeSlice 31 (.int .i64 256) (.int .i64 256)).run Try.prog w = .ok (.slice (some ⟨w.heap.size, 0, none⟩) 256 256) (w.alloc (.cells Z 5)) := fun w => by
    rw [hZ]; exact run_make_row' 31 5 (.int .u8 0) 1 Try.underlying31 infoU8 rfl .i64 .i64 256 (by decide) (by decide) w
  have HZ := hid hZ
  clear hi hz0 hz1 hz2 hZ
  go_enter Try.func11, Try.ntmps11
  go_wp2_with fail
  have hrow0 : RefRow (w.alloc (.cells #[.slice none 0 0, .slice none 0 0, .bool false, .int .i64 (-1), .int .i64 0, .int .i64 0, .int .i64 0] 49)) w.heap.size (.slice none 0 0) (.slice none 0 0) false (-1) 0 0 0 := heap_alloc_new w _
  obtain ⟨w1, hw1⟩ : ∃ w1, w1 = w.alloc (.cells #[.slice none 0 0, .slice none 0 0, .bool false, .int .i64 (-1), .int .i64 0, .int .i64 0, .int .i64 0] 49) := ⟨_, rfl⟩
  have hb1 : Below w.heap.size w w1 := by rw [hw1]; exact (Below.refl _ _).alloc (Nat.le_refl _) _
  have hlt1 : w.heap.size < w1.heap.size := by rw [hw1]; simp
  rw [← hw1] at hrow0 ⊢
  have HR0 : Hid (RefAt (fun b => if b = w.heap.size then 1 else 0) w1 w.heap.size (.slice none 0 0) (.slice none 0 0) [] [] (rfresh 0)) := hid
    ⟨hrow0, World.ownsRow_nil _ _ _ _, World.ownsRow_nil _ _ _ _, fun q hq => (by cases hq), fun q hq => (by cases hq), rfl, rfl, if_pos rfl, fun b hb => (by cases hb), fun b hb => (by cases hb), fun b hb => (by
      split at hb
      · omega
      · exact absurd rfl hb), ⟨by decide, by decide⟩, ⟨Int.le_refl 0, Int.le_refl 0, Int.le_refl 0⟩⟩
  have HB1 := hid hb1
  have hC1 : Hid (∀ b, (if b = w.heap.size then 1 else 0) ≠ 0 → w.heap.size ≤ b) := hid fun b hb => by
    split at hb
    · omega
    · exact absurd rfl hb
  clear hrow0 hw1 hb1 hlt1
  obtain ⟨h, hh⟩ : ∃ h, h = w.heap.size := ⟨_, rfl⟩
  rw [← hh] at HR0 ⊢
  have Hh := hid hh
  clear hh
  go_loopw [4] (fun i wr => ∃ (k : Nat) (K : Nat → Nat) (ldv : Value) (P : List Item), k ≤ p ∧ i = .int .i64 (k : Int) ∧ P.length = k ∧ RefAt K wr h ldv (.slice none 0 0) P [] (rfresh k) ∧ (∀ b, K b ≠ 0 → w.heap.size ≤ b) ∧ Below w.heap.size w wr) (fun i _ => p - (intOf i).toNat)
  case atStart => exact ⟨0, _, _, [], Nat.zero_le _, rfl, rfl, HR0.out, fun b hb => by rw [Hh.out] at hb; exact hC1.out b hb, HB1.out⟩
  case round =>
    obtain ⟨k, K, ldv, P, hk, rfl, hP, hR, hC, hb⟩ := hrel
    have HR := hid hR
    have HC := hid hC
    have HB := hid hb
    have HP := hid hP
    by_cases hlt : (k : Int) < p
    · have c0 := hR.row.c0
      have f0 := hR.row.fz 0
      have hhl : h < wr.heap.size := row_lt hR.row
      obtain ⟨wm, hwm⟩ : ∃ wm, wm = (((wr.alloc (.cells Z 5)).alloc (.cells #[.slice (some ⟨wr.heap.size, 0, none⟩) 256 256] 31))).drew := ⟨_, rfl⟩
      have hbm : Below wr.heap.size wr wm := by rw [hwm]; exact (((Below.refl _ _).alloc (Nat.le_refl _) _).alloc (by simp) _).drew
      have hlm : wm.ownsRow 0 31 1 ldv k (P.map Item.val) := by rw [← hP]; exact owns_mv hR.ld (Mv.of_below (F := fun _ => False) hbm) fun _ _ h => h
      have hone : ∀ j u, [Value.slice (some ⟨wr.heap.size, 0, none⟩) 256 256][j]? = some u → wm.cell? ((⟨wr.heap.size + 1, 0, none⟩ : Addr).add j) = some u := by
        have h := cell_one_new (wr.alloc (.cells Z 5)) (Value.slice (some ⟨wr.heap.size, 0, none⟩) 256 256) 31
        have e : (wr.alloc (.cells Z 5)).heap.size = wr.heap.size + 1 := by simp
        rw [e] at h
        rw [hwm]
        exact h
      have hsl : Sl (fun b => wr.heap.size ≤ b) wm (some ⟨wr.heap.size, 0, none⟩) (List.replicate 256 0) := by
        have hz : wm.heap[wr.heap.size]? = some (.cells ((List.replicate 256 0).map fun x : Nat => Value.int .u8 (x : Int)).toArray 5 (0, 0)) := by
          have h1 : (wr.alloc (.cells Z 5)).heap[wr.heap.size]? = some (.cells Z 5 (0, 0)) := heap_alloc_new wr _
          have h2 : ((wr.alloc (.cells Z 5)).alloc (.cells #[.slice (some ⟨wr.heap.size, 0, none⟩) 256 256] 31)).heap[wr.heap.size]? = some (.cells Z 5 (0, 0)) := by
            exact row_below h1 ((Below.refl _ _).alloc (Nat.le_refl _) _)
          rw [hwm]
          show ((wr.alloc (.cells Z 5)).alloc (.cells #[.slice (some ⟨wr.heap.size, 0, none⟩) 256 256] 31)).heap[wr.heap.size]? = _
          rw [h2, HZ.out]
          have e : madeCells #[.int .u8 0] 256 = (u8s (List.replicate 256 0)).toArray := by rw [← madeU8]
          rw [e]
          rfl
        exact (Sl.row _ hz).mono fun b hb _ => by omega
      have hrm : RefRow wm h ldv (.slice none 0 0) false (-1) 0 0 0 := row_below hR.row hbm
      have hszm : wm.heap.size = wr.heap.size + 1 + 1 := by rw [hwm]; simp
      have hne : ldv.ownBlock ≠ some h := fun e => by have h1 := hR.kp h e; have h2 := hR.kh; omega
      have HWM := hid hwm
      have HBM := hid hbm
      have HLM := hid hlm
      have HSL := hid hsl
      have HSZ := hid hszm
      have HRM := hid hrm
      clear hR hC hb hP hwm hbm hlm hsl hszm HR0 HB1 hC1 hrm
      go_wp2_with fail
      go_region_law (refine step_append_at rfl (.tmp 16) (.tmp 18) 46 rfl 0 31 i0 (.slice none 0 0) 1 24 Try.underlying46 HI.out.1 HI.out.2.1 HI.out.2.2.1 HI.out.2.2.2 rfl (by decide) ldv k (P.map Item.val) rfl (by rw [HWM.out] at HLM; exact HLM.out) _ 1 1 [.slice (some ⟨wr.heap.size, 0, none⟩) 256 256] rfl rfl (by rw [HWM.out] at hone; exact hone) (by simp [Value.oneCell']) (by omega) (by unfold maxLen; omega) (by omega) (Nat.zero_le _) ?_; intro g2 cp2 w2 ho2 hg2 hat2; have hr2 : RefRow w2 h ldv (.slice none 0 0) false (-1) 0 0 0 := row_grown HRM.out (by rw [HWM.out]; exact hg2) hne; have hc2 := hr2.c0; have hf2 := hr2.fz 0)
      all_goals
        have hg2' : wm.grownBy w2 ldv.ownBlock := by rw [HWM.out]; exact hg2
        have hat2' : some g2 = ldv.ownBlock ∨ g2 = wm.heap.size := by rw [HWM.out]; exact hat2
        have hgh : g2 ≠ h := by
          rcases hat2' with h1 | h1
          · intro e; subst e; exact hne h1.symm
          · have := HSZ.out; omega
        have hg3 : w2.grownBy (w2.setCell ⟨h, 0, none⟩ (.slice (some ⟨g2, 0, none⟩) (k + 1) cp2)) (some h) := grown_setCell (grown_refl _ _) (.inl rfl) _
        have hm3 : Mv (fun b => b = h) w2 (w2.setCell ⟨h, 0, none⟩ (.slice (some ⟨g2, 0, none⟩) (k + 1) cp2)) := Mv.of_grown hg3 fun g h _ => by cases h; rfl
        have hmm : Mv (fun b => ldv.ownBlock = some b ∨ b = h) wm (w2.setCell ⟨h, 0, none⟩ (.slice (some ⟨g2, 0, none⟩) (k + 1) cp2)) :=
          (Mv.of_grown (F := fun b => ldv.ownBlock = some b ∨ b = h) hg2' fun g hg _ => .inl hg).trans' hm3 fun _ _ e => .inr e
        obtain ⟨K2, hR2, hext⟩ := HR.out.grewP (q := ⟨some ⟨wr.heap.size, 0, none⟩, 256, List.replicate 256 0⟩) (ldv' := .slice (some ⟨g2, 0, none⟩) (k + 1) cp2) HBM.out HSL.out ⟨by simp, Nat.le_refl _, (show 256 ≤ maxLen by decide)⟩
          (by rw [HP.out]; exact owns_mv ho2 hm3 fun b hb e => by cases hb; exact hgh e) (by
            rcases hat2' with h1 | h1
            · exact .inl h1
            · exact .inr ⟨g2, rfl, by omega⟩) hmm (hr2.s0 _)
        have hB2 : Below w.heap.size w (w2.setCell ⟨h, 0, none⟩ (.slice (some ⟨g2, 0, none⟩) (k + 1) cp2)) := (HB.out.trans (HBM.out.mono HB.out.size)).trans (hmm.below (Nat.le_trans HB.out.size HBM.out.size) fun b hb => by
          rcases hb with hb | hb
          · exact HC.out b (by rw [HR.out.kp b hb]; decide)
          · have := Hh.out; omega)
        have hC2 : ∀ b, K2 b ≠ 0 → w.heap.size ≤ b := fun b hb => by
          by_cases hl : b < wr.heap.size
          · rw [hext b hl] at hb; exact HC.out b hb
          · have := HB.out.size; omega
        have hst : ({ (rfresh k) with P := (rfresh k).P ++ [List.replicate 256 0], L := [] } : Rs) = rfresh (k + 1) := by unfold rfresh; simp [List.replicate_succ']
        have HR2 : Hid (RefAt K2 (w2.setCell ⟨h, 0, none⟩ (.slice (some ⟨g2, 0, none⟩) (k + 1) cp2)) h (.slice (some ⟨g2, 0, none⟩) (k + 1) cp2) (.slice none 0 0) (P ++ [⟨some ⟨wr.heap.size, 0, none⟩, 256, List.replicate 256 0⟩]) [] (rfresh (k + 1))) := hid (by rw [← hst]; exact hR2)
        have HB2 := hid hB2
        have HC2 := hid hC2
        obtain ⟨w3, hw3⟩ : ∃ w3, w3 = w2.setCell ⟨h, 0, none⟩ (.slice (some ⟨g2, 0, none⟩) (k + 1) cp2) := ⟨_, rfl⟩
        rw [← hw3] at HR2 HB2 ⊢
        clear hw3 hR2 hB2 hC2 hmm hm3 hg3 hst hext hg2 hg2' hat2 hat2' ho2 hr2 hc2 hf2 hone c0 f0
        go_wp2_with fail
        go_roundw
        case rel => exact ⟨k + 1, K2, _, _, by omega, by go_num, by rw [List.length_append, HP.out]; rfl, HR2.out, HC2.out, HB2.out⟩
        case measure => simp [intOf]; omega
    · have hge : (p : Int) ≤ k := by omega
      have hkp : Hid (k = p) := hid (by omega)
      clear hlt hR hC hb hP
      go_wp2_with fail
      go_ret
      have h := HR.out
      rw [hkp.out] at h
      exact ⟨K, _, rfl, ⟨_, _, _, _, h⟩, HB.out, HC.out⟩
end Go.Proofs.Ytgppmnaidgkboaa
