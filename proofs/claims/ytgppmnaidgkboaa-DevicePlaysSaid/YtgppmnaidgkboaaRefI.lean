/- CONTRACTS OF THE DOCUMENT's DEVICE: a crash, walked. -/
import Derived.Test.YtgppmnaidgkboaaRefH
namespace Go.Proofs.Ytgppmnaidgkboaa
open Go.RowKit Go.Inc

set_option maxRecDepth 20000 in
set_option maxHeartbeats 4000000 in
theorem rcrash_any {K w h ldv llv P L R} (H : RefAt K w h ldv llv P L R) (hp : 0 < P.length) (hpl : P.length ≤ 20) (hll : L.length ≤ 1000) (ok : Nat → Prop) (a : Option Addr) (cap : Nat) (ks : List Kp) (hk : KpS ok w a ks) (hok : ∀ b, ok b → K b = 0) (hl : ks.length ≤ 1000) :
    Calls Try.prog 19 #[.pointer (some ⟨h, 0, none⟩), .slice a ks.length cap] w fun e w' => e = .returned (.int .i64 ((tot (rcnt R ks) P.length : Nat) : Int)) ∧
      (∃ K' P', RefAt K' w' h ldv (.slice none 0 0) P' [] { R with P := P'.map Item.b, L := [], off := true } ∧ (∀ b, b < w.heap.size → K' b = K b) ∧ P'.length = P.length ∧ ∀ k, k < P.length → (P'.map Item.b).getD k [] = rpg R ks k) ∧ Mv (fun b => K b ≠ 0) w w' := by
  obtain ⟨pb, pc, rfl, hpc, hpm, hKp, _⟩ := H.pshape hp
  obtain ⟨la, lc, hle, hlc1, hlc2, _⟩ := H.lshape
  subst hle
  have HH := hid H
  have HK := hid hk
  have HOK := hid hok
  have HPos := hid hp
  have HLL := hid hll
  have hpl' : (P.length : Int) ≤ 20 := by omega
  have hpbw : pb < w.heap.size := H.lt pb (by rw [hKp]; decide)
  obtain ⟨p, hpP⟩ : ∃ p, p = P.length := ⟨_, rfl⟩
  have HPP := hid hpP
  have HCR := hid H.cr
  obtain ⟨mk, hmk⟩ : ∃ mk, mk = ks.length := ⟨_, rfl⟩
  have HMK := hid hmk
  rw [← hpP] at hpc hpl hpl' HH HCR ⊢
  rw [← hmk] at hl ⊢
  have hl' : (mk : Int) ≤ 1000 := by omega
  obtain ⟨m, hmL⟩ : ∃ m, m = L.length := ⟨_, rfl⟩
  have HML := hid hmL
  have hm1000 : (m : Int) ≤ 1000 := by omega
  rw [← hmL] at hlc1 HH HCR
  have HKP := hid hKp
  have HPW := hid hpbw
  clear H hk hok hp hll hpm hpP hmk hmL hKp hpbw
  go_enter Try.func19, Try.ntmps19
  go_wp2_with fail
  go_loopw [5, 6] (fun n i wr => ∃ no nn : Nat, no ≤ p ∧ i = .int .i64 (no : Int) ∧ n = .int .i64 (nn : Int) ∧ nn = tot (rcnt R ks) no ∧ nn ≤ no * 1000 ∧ CrAt K w wr h (.slice (some ⟨pb, 0, none⟩) p pc) (.slice la m lc) p L R fun k => if k < no then rpg R ks k else R.P.getD k []) (fun _ i _ => p - (intOf i).toNat)
  case atStart => exact ⟨0, 0, Nat.zero_le _, rfl, rfl, rfl, Nat.le_refl _, HCR.out.same fun k _ => (if_neg (Nat.not_lt_zero k)).symm⟩
  case round =>
    obtain ⟨w0, hren⟩ : ∃ w0, w0 = wr := ⟨_, rfl⟩
    subst hren
    obtain ⟨no, nn, hno, rfl, rfl, hnn, hnb, hcr⟩ := hrel
    have HNN := hid hnn
    have HNB := hid hnb
    have HC := hid hcr
    have c0 := hcr.row.c0
    have c1 := hcr.row.c1
    have hnn2 : (nn : Int) ≤ 20000 := by
      have : no * 1000 ≤ 20 * 1000 := Nat.mul_le_mul_right _ (by omega)
      omega
    clear hnn hnb hcr
    by_cases hlt : (no : Int) < p
    · -- what is found of the page
      obtain ⟨K1, P1, hr1, he1, hl1, hg1, hmv1⟩ := HC.out
      have hvb : K1 w0.heap.size = 0 := hr1.new (Nat.le_refl _)
      obtain ⟨w1, hw1⟩ : ∃ w1, w1 = w0.alloc (.cells #[.int .i64 (-1), .int .i64 0, .int .i64 0] 88) := ⟨_, rfl⟩
      have hb1 : Below w0.heap.size w0 w1 := by rw [hw1]; exact (Below.refl _ _).alloc (Nat.le_refl _) _
      have hrow1 : w1.heap[w0.heap.size]? = some (.cells #[.int .i64 (-1), .int .i64 0, .int .i64 0] 88 (0, 0)) := by rw [hw1]; exact heap_alloc_new w0 _
      have HR1 := hid hr1
      have HE1 := hid he1
      have HG1 := hid hg1
      have HP1 := hid hl1
      have HMV1 := hid hmv1
      have HVB := hid hvb
      have HW1 := hid hw1
      have HB1 := hid hb1
      have HROW1 := hid hrow1
      clear hr1 he1 hl1 hg1 hmv1 hvb hw1 hb1 hrow1
      go_wp2_with fail
      rw [← HW1.out]
      go_loopw [8] (fun i wx => ∃ (k : Nat) (z : Int) (q : Kp), k ≤ mk ∧ z = (k : Int) - 1 ∧ i = .int .i64 z ∧ q = kpv (ks.drop k) no ∧ wx.heap[w0.heap.size]? = some (.cells #[.int .i64 q.page, .int .i64 q.N, .int .i64 q.part] 88 (0, 0)) ∧ Mv (fun b => b = w0.heap.size) w1 wx) (fun i _ => (intOf i + 1).toNat)
      case atStart => exact ⟨mk, _, ⟨-1, 0, 0⟩, Nat.le_refl _, rfl, rfl, by rw [HMK.out, List.drop_length]; rfl, HROW1.out, Mv.refl _ _⟩
      case round =>
        obtain ⟨wx, hren⟩ : ∃ wx, wx = wr := ⟨_, rfl⟩
        subst hren
        obtain ⟨k, z, q, hk, hz, rfl, hq, hrow, hmx⟩ := hrel
        have HQ := hid hq
        have HROW := hid hrow
        have HMX := hid hmx
        by_cases hz0 : 0 ≤ z
        · obtain ⟨k', rfl⟩ := Int.eq_ofNat_of_zero_le hz0
          obtain rfl : k = k' + 1 := by omega
          obtain ⟨kq, hkq⟩ : ∃ kq, ks[k']? = some kq := ⟨_, List.getElem?_eq_getElem (by rw [← HMK.out]; omega)⟩
          have hlt2 : (k' : Int) < mk := by omega
          have hks : ∃ b o, a = some ⟨b, o, none⟩ ∧ ok b ∧ Kps w b o ks := by
            rcases HK.out.2 with h0 | h0
            · rw [h0] at hkq; cases hkq
            · exact h0
          obtain ⟨kb, ko, rfl, hokb, hkps⟩ := hks
          have hKkb := HOK.out kb hokb
          have hkps2 := ((hkps.mv HMV1.out (by rw [hKkb]; simp)).mv (Mv.of_below (F := fun _ => False) HB1.out) (fun h => h)).mv HMX.out (by
            rintro rfl
            have := (hkps k' kq hkq).1
            have h1 := cell_lt this
            have h2 := HMV1.out.size
            simp only at h1
            omega)
          obtain ⟨q0, q1, q2⟩ := hkps2 k' kq hkq
          have hdrop := hid (kpv_drop hkq no)
          obtain ⟨x, N, part⟩ := kq
          simp only at q0 q1 q2
          clear hkq hkps hkps2 hq hrow hmx hz
          by_cases hx : x = (no : Int)
          · subst hx
            have HX : Hid (kpv (ks.drop k') no = ⟨(no : Int), N, part⟩) := hid (by rw [hdrop.out]; exact if_pos rfl)
            clear hdrop
            have o0 : wx.cell? ⟨w0.heap.size, 0, none⟩ = some (.int .i64 q.page) := cell_of_row _ _ 0 _ _ _ HROW.out
            have o1 : wx.cell? ⟨w0.heap.size, 1, none⟩ = some (.int .i64 q.N) := cell_of_row _ _ 1 _ _ _ HROW.out
            have o2 : wx.cell? ⟨w0.heap.size, 2, none⟩ = some (.int .i64 q.part) := cell_of_row _ _ 2 _ _ _ HROW.out
            have z0 := frozen_of_row wx w0.heap.size 0 _ _ HROW.out
            have z1 := frozen_of_row wx w0.heap.size 1 _ _ HROW.out
            have z2 := frozen_of_row wx w0.heap.size 2 _ _ HROW.out
            have r0 : (wx.setCell ⟨w0.heap.size, 0, none⟩ (.int .i64 (no : Int))).heap[w0.heap.size]? = some (.cells #[.int .i64 (no : Int), .int .i64 q.N, .int .i64 q.part] 88 (0, 0)) := row_set HROW.out 0 _ (by simp)
            have r1 : ((wx.setCell ⟨w0.heap.size, 0, none⟩ (.int .i64 (no : Int))).setCell ⟨w0.heap.size, 1, none⟩ (.int .i64 N)).heap[w0.heap.size]? = some (.cells #[.int .i64 (no : Int), .int .i64 N, .int .i64 q.part] 88 (0, 0)) := row_set r0 1 _ (by simp)
            have r2 : (((wx.setCell ⟨w0.heap.size, 0, none⟩ (.int .i64 (no : Int))).setCell ⟨w0.heap.size, 1, none⟩ (.int .i64 N)).setCell ⟨w0.heap.size, 2, none⟩ (.int .i64 part)).heap[w0.heap.size]? = some (.cells #[.int .i64 (no : Int), .int .i64 N, .int .i64 part] 88 (0, 0)) := row_set r1 2 _ (by simp)
            have HROW5 := hid r2
            clear r0 r1 r2
            have g1 : wx.grownBy (wx.setCell ⟨w0.heap.size, 0, none⟩ (.int .i64 (no : Int))) (some w0.heap.size) := grown_setCell (grown_refl _ _) (.inl rfl) _
            have g2 := grown_setCell g1 (p := ⟨w0.heap.size, 1, none⟩) (.inl rfl) (.int .i64 N)
            have g3 := grown_setCell g2 (p := ⟨w0.heap.size, 2, none⟩) (.inl rfl) (.int .i64 part)
            have HM5 := hid (HMX.out.trans (Mv.of_grown (F := fun b => b = w0.heap.size) g3 fun g h _ => by cases h; rfl))
            clear g1 g2 g3
            go_wp2_with fail
            go_roundw
            case rel => exact ⟨k', _, ⟨(no : Int), N, part⟩, by omega, rfl, by go_num, HX.out.symm, HROW5.out, HM5.out⟩
            case measure => simp [intOf] <;> omega
          · have hx' : (x == (no : Int)) = false := by simpa using hx
            have HX : Hid (q = kpv (ks.drop k') no) := hid (by rw [hdrop.out, HQ.out]; exact (if_neg hx).symm)
            clear hx hdrop
            go_wp2_with fail
            go_roundw
            case rel => exact ⟨k', _, q, by omega, rfl, by go_num, HX.out, HROW.out, HMX.out⟩
            case measure => simp [intOf] <;> omega
        · obtain rfl : z = -1 := by omega
          obtain rfl : k = 0 := by omega
          clear hq hrow hmx hz hz0
          have hq0 : q = kpv ks no := HQ.out
          have hbx : Below w0.heap.size w0 wx := HB1.out.trans (HMX.out.below HB1.out.size fun i e => by rw [e]; exact Nat.le_refl _)
          have HBX := hid hbx
          cases hfi : first ks no with
          | none =>
            have hq1 : q = ⟨-1, 0, 0⟩ := by rw [hq0]; unfold kpv; rw [hfi]; rfl
            have o0 : wx.cell? ⟨w0.heap.size, 0, none⟩ = some (.int .i64 (-1)) := by rw [cell_of_row _ _ 0 _ _ _ HROW.out, hq1]; rfl
            have HF := hid hfi
            clear hq0 hq1 hbx hfi
            go_wp2_with fail
            go_roundw
            case rel =>
              refine ⟨no + 1, nn, by omega, by go_num, rfl, ?_, ?_, ?_⟩
              · show nn = tot (rcnt R ks) no + rcnt R ks no
                rw [HNN.out]; unfold rcnt; rw [HF.out]; rfl
              · have := HNB.out; omega
              · refine (HC.out.below HBX.out).same fun k _ => ?_
                by_cases h1 : k < no
                · rw [if_pos h1, if_pos (by omega)]
                · rw [if_neg h1]
                  by_cases h2 : k = no
                  · subst h2; rw [if_pos (by omega)]; unfold rpg; rw [HF.out]
                  · rw [if_neg (by omega)]
            case measure => simp [intOf] <;> omega
          | some q' =>
            have hq1 : q = q' := by rw [hq0]; unfold kpv; rw [hfi]; rfl
            subst hq1
            have hpg : q.page = (no : Int) := by have := List.find?_some hfi; simpa using this
            obtain ⟨x, N, part⟩ := q
            simp only at hpg
            subst hpg
            have o0 : wx.cell? ⟨w0.heap.size, 0, none⟩ = some (.int .i64 (no : Int)) := cell_of_row _ _ 0 _ _ _ HROW.out
            have hno0 : decide ((no : Int) < 0) = false := decide_eq_false (by omega)
            have HF := hid hfi
            have HCX : Hid (CrAt K1 wx wx h (.slice (some ⟨pb, 0, none⟩) p pc) (.slice la m lc) p L R fun k => if k = no then lastOr (R.P.getD no []) (vsOf (R.L.take 0) no) else if k < no then rpg R ks k else R.P.getD k []) := hid (by
              refine ((HR1.out.keep (Mv.of_below (F := fun _ => False) HBX.out) fun _ h => h.elim).cr' ?_).same fun k hk => ?_
              · exact HP1.out
              · rw [HG1.out k hk]
                by_cases h2 : k = no
                · subst h2
                  rw [if_pos rfl, if_neg (Nat.lt_irrefl _)]
                  rfl
                · rw [if_neg h2])
            have HPK := hid (show K1 pb ≠ 0 ∧ pb < wx.heap.size from by
              have h1 := HE1.out pb HPW.out
              rw [h1, HKP.out]
              exact ⟨by decide, Nat.lt_of_lt_of_le HPW.out (Nat.le_trans HMV1.out.size HBX.out.size)⟩)
            clear hq0 hbx hfi
            go_wp2_with fail
            go_loopw [5, 9, 10] (fun n c i wy => ∃ j cn n2 : Nat, j ≤ m ∧ i = .int .i64 (j : Int) ∧ c = .int .i64 (cn : Int) ∧ n = .int .i64 (n2 : Int) ∧ n2 = nn + cn ∧ cn ≤ j ∧ keptN cn N = cn ∧ cn = (vsOf (R.L.take j) no).length ∧
              CrAt K1 wx wy h (.slice (some ⟨pb, 0, none⟩) p pc) (.slice la m lc) p L R fun k => if k = no then lastOr (R.P.getD no []) (vsOf (R.L.take j) no) else if k < no then rpg R ks k else R.P.getD k []) (fun _ _ i _ => m - (intOf i).toNat)
            case atStart => exact ⟨0, 0, nn, Nat.zero_le _, rfl, rfl, rfl, rfl, Nat.le_refl _, keptN_zero _, rfl, HCX.out⟩
            case round =>
              obtain ⟨wy, hren⟩ : ∃ wy, wy = wr := ⟨_, rfl⟩
              subst hren
              obtain ⟨j, cn, n2, hj, rfl, rfl, rfl, hn2, hcj, hkn, hcl, hcy⟩ := hrel
              have HN2 := hid hn2
              have HKN := hid hkn
              have HCL := hid hcl
              have HCY := hid hcy
              have y1 := hcy.row.c1
              have y0 := hcy.row.c0
              have hn2b : (n2 : Int) ≤ 21000 := by omega
              have hcb : (cn : Int) ≤ 1000 := by omega
              have hrowy := hid (hcy.mv.row HROW.out (by rw [HVB.out]; simp))
              have v1 : wy.cell? ⟨w0.heap.size, 1, none⟩ = some (.int .i64 N) := cell_of_row _ _ 1 _ _ _ hrowy.out
              clear hn2 hkn hcl hcy
              by_cases hjm : (j : Int) < m
              · obtain ⟨e, he⟩ : ∃ e, L[j]? = some e := ⟨_, List.getElem?_eq_getElem (by rw [← HML.out]; omega)⟩
                obtain ⟨⟨lb, hla, e0, e1⟩, hesl, hel, _⟩ := HCY.out.item he
                subst hla
                have hRL : R.L[j]? = some (e.1, e.2.b) := by rw [HH.out.le, List.getElem?_map, he]; rfl
                have HNX := hid (vs_next hRL (no : Int))
                have HSP := hid (fun h => vs_split hRL (x := (no : Int)) h)
                have HE := hid he
                have HEL := hid hel
                have HESL := hid hesl
                obtain ⟨x, q⟩ := e
                simp only at e0 e1
                clear he hRL hesl hel
                by_cases hx : x = (no : Int)
                · subst hx
                  by_cases hc : (cn : Int) < N
                  · obtain ⟨old, hp0, hpf, _⟩ := HCY.out.page (no := no) (by omega)
                    have hnoi : (no : Int) < p ∧ (0 : Int) ≤ no := by omega
                    have HC6 := hid ((HCY.out.setOld (no := no) HPK.out.1 HPK.out.2 HE.out (by omega)).below ((Below.refl _ _).drew))
                    have HKS := hid (kept_step hc)
                    have HNX' : Hid (vsOf (R.L.take (j + 1)) no = vsOf (R.L.take j) no ++ [q.b]) := hid (HNX.out.trans (if_pos rfl))
                    go_wp2_with fail
                    go_still_tail 14, mixed
                    go_wp2_with fail
                    go_roundw
                    case rel =>
                      refine ⟨j + 1, cn + 1, n2 + 1, by omega, by go_num, by go_num, by go_num, by rw [HN2.out]; omega, by omega, HKS.out, ?_, HC6.out.same fun k _ => ?_⟩
                      · rw [HNX'.out, List.length_append, ← HCL.out]; rfl
                      · by_cases h2 : k = no
                        · subst h2; rw [HNX'.out, lastOr_snoc, if_pos rfl, if_pos rfl]
                        · rw [if_neg h2, if_neg h2, if_neg h2]
                    case measure => simp [intOf] <;> omega
                  · obtain ⟨old, hp0, hpf, hosl, holn, hocur⟩ := HCY.out.page (no := no) (by omega)
                    have hnoi : (no : Int) < p ∧ (0 : Int) ≤ no := by omega
                    have HSP' := hid (HSP.out rfl)
                    have HBRK := hid (show keptN (vsOf R.L no).length N = cn ∧ keptPg (R.P.getD no []) (vsOf R.L no) N part = q.b.take (max 0 (min part 256)).toNat ++ old.b.drop (max 0 (min part 256)).toNat from by
                      have h1 := kept_break (q := R.P.getD no []) (b := q.b) (vs := vsOf (R.L.take j) no) (r := vsOf (R.L.drop (j + 1)) no) (N := N) (part := part) (by rw [← HCL.out]; exact HKN.out) (by rw [← HCL.out]; exact hc)
                      rw [if_pos rfl] at hocur
                      rw [HSP'.out, hocur, HCL.out]
                      exact h1)
                    obtain ⟨pt, hpt⟩ : ∃ pt, pt = (max 0 (min part 256)).toNat := ⟨_, rfl⟩
                    rw [← hpt] at HBRK
                    have hptb : pt ≤ 256 ∧ ((pt : Int) ≤ part ∨ pt = 0) ∧ (pt = 256 ∨ part ≤ (pt : Int)) := by rw [hpt]; omega
                    have HPT := hid hptb
                    have hown : Hid ((wy.alloc (.cells #[] 5)).ownsRow wy.heap.size 5 1 (.slice (some ⟨wy.heap.size, 0, none⟩) 0 0) 0 (u8s [])) := hid (World.ownsRow_lit wy #[] 0 (Nat.le_refl _) (Nat.zero_le _) rfl)
                    have hb1 : Below wy.heap.size wy (wy.alloc (.cells #[] 5)) := (Below.refl _ _).alloc (Nat.le_refl _) _
                    have HO1 := hid (hosl.below hb1)
                    have y0a : (wy.alloc (.cells #[] 5)).cell? ⟨h, 0, none⟩ = _ := (hb1.cell (cell_lt y0)).trans y0
                    have p0a : (wy.alloc (.cells #[] 5)).cell? ⟨pb, no, none⟩ = _ := (hb1.cell (cell_lt hp0)).trans hp0
                    have HY1 := hid hb1
                    have HON := hid holn
                    clear hb1 hosl hocur holn hpt hptb HSP
                    go_wp2_with (refine wpList_append_any rfl (.tmp 83) (.tmp 90) 31 rfl wy.heap.size 5 (.int .u8 0) 1 Try.underlying31 infoU8 rfl _ _ _ rfl hown.out old.a _ _ (u8s old.b) rfl (by rw [u8s_length]; exact HON.out) (fun h => absurd (HO1.out.some_len h) (by rw [HON.out]; decide)) HO1.out.cells (u8s_one _) (by unfold maxLen; omega) (by omega) (by simp) ?_)
                    intro v w4 hv hg _
                    have HY4 := hid (below_owned HY1.out hown.out (Nat.le_refl _) hg)
                    obtain ⟨g, cg, rfl⟩ : ∃ g cg, v = .slice (some ⟨g, 0, none⟩) 256 cg := by
                      rcases hv.2 with ⟨_, h1⟩ | ⟨g, cap, cur, h0, _⟩
                      · omega
                      · exact ⟨g, cap, h0⟩
                    have HV : Hid (w4.ownsRow wy.heap.size 5 1 (.slice (some ⟨g, 0, none⟩) 256 cg) 256 (u8s (q.b.take 0 ++ old.b.drop 0))) := hid (by simpa [u8s] using hv)
                    clear hv hg
                    go_wp2_with fail
                    go_loopw [12] (fun i wz => ∃ t : Nat, t ≤ pt ∧ i = .int .i64 (t : Int) ∧ wz.ownsRow wy.heap.size 5 1 (.slice (some ⟨g, 0, none⟩) 256 cg) 256 (u8s (q.b.take t ++ old.b.drop t)) ∧ Below wy.heap.size wy wz) (fun i _ => 256 - (intOf i).toNat)
                    case atStart => exact ⟨0, Nat.zero_le _, rfl, HV.out, HY4.out⟩
                    case round =>
                      obtain ⟨wz, hren⟩ : ∃ wz, wz = wr := ⟨_, rfl⟩
                      subst hren
                      obtain ⟨t, ht, rfl, hr, hb⟩ := hrel
                      have HRR := hid hr
                      have HBB := hid hb
                      have HCZ := hid (HCY.out.below hb)
                      have y1 := HCZ.out.row.c1
                      have y0 := HCZ.out.row.c0
                      have hrowz := hid (hb.cell (p := ⟨w0.heap.size, 2, none⟩) (by have := row_lt hrowy.out; exact this))
                      have v2 : wz.cell? ⟨w0.heap.size, 2, none⟩ = some (.int .i64 part) := hrowz.out.trans (cell_of_row _ _ 2 _ _ _ hrowy.out)
                      obtain ⟨⟨lb', hla', e0', e1'⟩, hesl', _⟩ := HCZ.out.item HE.out
                      obtain rfl : lb = lb' := by simpa using hla'
                      simp only at e0' e1'
                      obtain ⟨old', hp0', hpf', _⟩ := HCZ.out.page (no := no) (by omega)
                      clear hr hb hla'
                      by_cases hall : (t : Int) < 256 ∧ (t : Int) < part
                      · obtain ⟨ht1, ht2⟩ := hall
                        rcases hesl' with h0 | ⟨b, off, hqa, _, hc⟩
                        · have := HEL.out; rw [h0] at this; simp at this
                        have hcell := hc t (by have := HEL.out; omega)
                        have hold := HRR.out.cells (g := g) rfl t (.int .u8 (((q.b.take t ++ old.b.drop t).getD t 0 : Nat) : Int)) (u8s_get (by rw [mix_len HEL.out HON.out (by omega)]; omega))
                        rw [Addr.add_lit] at hold
                        simp only [Nat.zero_add] at hold
                        have hfz : wz.frozen? ⟨g, t, none⟩ = false := HRR.out.frozenAt t
                        have hst := hid (HRR.out.stored t (.int .u8 ((q.b.getD t 0 : Nat) : Int)))
                        have hset := hid (mix_set (e := q.b) (q := old.b) (t := t) HEL.out HON.out (by omega))
                        try simp only at hqa hcell
                        rw [hqa] at e1'
                        have HZ2 := hid (HBB.out.setCell (p := ⟨g, t, none⟩) (by
                          have h1 := HRR.out.2
                          rcases h1 with ⟨_, h1⟩ | ⟨g', _, _, h1, h2, _⟩
                          · omega
                          · simp only [Value.slice.injEq, Option.some.injEq, Addr.mk.injEq, and_true] at h1
                            have h3 := h1.1
                            subst h3; exact h2) (.int .u8 ((q.b.getD t 0 : Nat) : Int)))
                        have htpt : Hid (t + 1 ≤ pt) := hid (by have := HPT.out; omega)
                        generalize q.b.getD t 0 = xb at *
                        generalize (q.b.take t ++ old.b.drop t).getD t 0 = ob at *
                        clear hc hqa
                        go_wp2_with fail
                        go_roundw
                        case rel =>
                          refine ⟨t + 1, htpt.out, by go_num, ?_, HZ2.out⟩
                          rw [← hset.out, ← u8s_set]; exact hst.out.1
                        case measure => simp [intOf] <;> omega
                      · have htp : Hid (t = pt) := hid (by have := HPT.out; omega)
                        have HCN := hid (HCY.out.setNew HPK.out.1 (no := no) (by omega) HBB.out (bs := q.b.take t ++ old.b.drop t) (g := g) (cg := cg) (by unfold Row; rw [mix_len HEL.out HON.out (by have := HPT.out; omega)]; exact HRR.out) (mix_len HEL.out HON.out (by have := HPT.out; omega)))
                        have hcase : ((t : Int) < 256) = False ∨ (((t : Int) < 256) = True ∧ ((t : Int) < part) = False) := by
                          by_cases h1 : (t : Int) < 256
                          · exact .inr ⟨by simp; omega, by simp; omega⟩
                          · exact .inl (by simp; omega)
                        clear hall hesl'
                        rcases hcase with h1 | ⟨h1, h2⟩
                        all_goals
                          go_wp2_with fail
                          go_roundw
                          case rel =>
                            refine ⟨no + 1, n2, by omega, by go_num, rfl, ?_, ?_, ?_⟩
                            · show n2 = tot (rcnt R ks) no + rcnt R ks no
                              rw [HN2.out, HNN.out]; unfold rcnt; rw [HF.out]
                              show _ = _ + keptN _ N
                              rw [HBRK.out.1]
                            · have := HNB.out; rw [HN2.out]; omega
                            · refine (CrAt.join HMV1.out HE1.out HBX.out HCN.out).same fun k _ => ?_
                              by_cases h2 : k = no
                              · subst h2
                                rw [if_pos rfl, if_pos (by omega)]; unfold rpg; rw [HF.out]
                                rw [htp.out]
                                exact HBRK.out.2.symm
                              · rw [if_neg h2, if_neg h2]
                                by_cases h1 : k < no
                                · rw [if_pos h1, if_pos (by omega)]
                                · rw [if_neg h1, if_neg (by omega)]
                          case measure => simp [intOf] <;> omega
                · have hx' : (x != (no : Int)) = true := by simpa using hx
                  have HX := hid hx
                  clear hx
                  go_wp2_with fail
                  go_roundw
                  case rel =>
                    have h1 : vsOf (R.L.take (j + 1)) no = vsOf (R.L.take j) no := by rw [HNX.out]; exact if_neg HX.out
                    exact ⟨j + 1, cn, n2, by omega, by go_num, rfl, rfl, HN2.out, by omega, HKN.out, by rw [h1]; exact HCL.out, by rw [h1]; exact HCY.out⟩
                  case measure => simp [intOf] <;> omega
              · have hge : (m : Int) ≤ j := by omega
                have hge2 : (j < m) = False := by simp; omega
                have hjm2 : Hid (R.L.take j = R.L) := hid (by rw [List.take_of_length_le]; rw [HH.out.llen, ← HML.out]; omega)
                clear hjm
                go_wp2_with fail
                go_roundw
                case rel =>
                  have hcn := HCL.out
                  have hkn := HKN.out
                  rw [hjm2.out] at hcn
                  refine ⟨no + 1, n2, by omega, by go_num, rfl, ?_, ?_, ?_⟩
                  · show n2 = tot (rcnt R ks) no + rcnt R ks no
                    rw [HN2.out, HNN.out]; unfold rcnt; rw [HF.out]
                    show _ = _ + keptN _ N
                    rw [← hcn, hkn]
                  · have := HNB.out; rw [HN2.out]; omega
                  · refine (CrAt.join HMV1.out HE1.out HBX.out HCY.out).same fun k _ => ?_
                    rw [hjm2.out]
                    by_cases h2 : k = no
                    · subst h2
                      rw [if_pos rfl, if_pos (by omega)]; unfold rpg; rw [HF.out]
                      exact (kept_end (by rw [← hcn]; exact hkn)).symm
                    · rw [if_neg h2]
                      by_cases h1 : k < no
                      · rw [if_pos h1, if_pos (by omega)]
                      · rw [if_neg h1, if_neg (by omega)]
                case measure => simp [intOf] <;> omega
    · have hge : (p : Int) ≤ no := by omega
      have hge2 : (no < p) = False := by simp; omega
      have f1 := HC.out.row.fz 1
      have f2 := HC.out.row.fz 2
      have c2 := HC.out.row.c2
      have hnp : Hid (no = p) := hid (by omega)
      clear hlt
      go_wp2_with fail
      go_ret
      obtain ⟨K2, P2, h1, h2, h3, h4, h5⟩ := HC.out
      have hs1 := h1.row.s1 (.slice none 0 0)
      have hs2 := hs1.s2 true
      have g1 : w0.grownBy (w0.setCell ⟨h, 1, none⟩ (.slice none 0 0)) (some h) := grown_setCell (grown_refl _ _) (.inl rfl) _
      have g2 := grown_setCell g1 (p := ⟨h, 2, none⟩) (.inl rfl) (.bool true)
      have hm := Mv.of_grown (F := fun b => b = h) g2 fun g h _ => by cases h; rfl
      have hKh : K h ≠ 0 := by rw [HH.out.kh]; decide
      refine ⟨ret_int (by rw [HNN.out, hnp.out]), ⟨K2, P2, h1.emptied hm (fun _ h => h) hs2 h1.lb h1.cnt, h2, h3, fun k hk => ?_⟩, h5.trans (hm.sub fun b _ e => by subst e; exact hKh)⟩
      rw [h4 k hk]
      exact if_pos (by rw [hnp.out]; exact hk)
end Go.Proofs.Ytgppmnaidgkboaa
