/- FLIP, THE THIRD STATEMENT: of any two pages the one that counts is the document's; of superblocks that are told it is the first of the highest epoch (all pages; the first ten superblocks of any list). -/
import Derived.Test.YtebacgkeolofmaaU28
import Derived.Test.YtebacgkeolofmaaU22
import Derived.Test.YtebacgkeolofmaaU30
namespace Go.Proofs.Ytebacgkeolofmaa
open Go.RowKit Go.Inc

theorem pg_two {A B : List Nat} (hA : A.length = 256) (hB : B.length = 256) : pg (A ++ B) 0 = A ∧ pg (A ++ B) 1 = B := by
  unfold pg
  refine ⟨?_, ?_⟩
  · rw [Nat.mul_zero, List.drop_zero]
    exact List.take_left' hA
  · rw [Nat.mul_one, List.drop_left' hA]
    exact List.take_of_length_le (by omega)
theorem Idle.two {A B : List Nat} (hA : A.length = 256) (hB : B.length = 256) : Idle (fresh (A ++ B)) A B 0 :=
  ⟨rfl, rfl, fun _ => rfl, (pg_two hA hB).1, (pg_two hA hB).2, Int.le_refl _, Int.le_refl _, Int.le_refl _⟩
/-- Where the first of the highest epoch of the first k stands: -1 of none. -/
def Best (l : List Sp) (k : Nat) (v : Value) : Prop := (k = 0 ∧ v = .int .i64 (-1)) ∨ (0 < k ∧ ∃ j : Nat, j < k ∧ v = .int .i64 (j : Int) ∧ l.getD j zeroSp = mx l (k - 1))
theorem mx_take (l : List Sp) (n : Nat) : ∀ k, k < n → mx (l.take n) k = mx l k := by
  have hg : ∀ i, i < n → (l.take n).getD i zeroSp = l.getD i zeroSp := fun i hi => by
    simp only [List.getD_eq_getElem?_getD, List.getElem?_take, if_pos hi]
  intro k
  induction k with
  | zero => intro h; exact hg 0 h
  | succ k ih => intro h; unfold mx; rw [ih (by omega), hg (k + 1) h]
set_option maxRecDepth 20000 in
set_option maxHeartbeats 8000000 in
theorem flipFinds_walk (ok1 ok2 ok : Nat → Prop) (aA : Option Addr) (cA : Nat) (bsA : List Nat) (aB : Option Addr) (cB : Nat) (bsB : List Nat) (a : Option Addr) (c : Nat) (l : List Sp) (w : World) (hsA : Sl ok1 w aA bsA) (hbyA : Bytes bsA) (hcA : bsA.length ≤ cA ∧ cA ≤ maxLen)
    (hsB : Sl ok2 w aB bsB) (hbyB : Bytes bsB) (hcB : bsB.length ≤ cB ∧ cB ≤ maxLen) (hs : SpS ok w a l) (hc : l.length ≤ c ∧ c ≤ maxLen) :
    Calls Try.prog 5 #[.slice aA bsA.length cA, .slice aB bsB.length cB, .slice a l.length c] w fun r w' => r = .returned (.bool true) ∧ Below w.heap.size w w' := by
  have HF1 := hid (full_sl ok1 aA cA bsA w hsA (by have := hcA.1; have := hcA.2; unfold maxLen at *; omega))
  have HF2 : Hid (∀ x, Below w.heap.size w x → Calls Try.prog 18 _ x _) := hid fun x hx => full_sl ok2 aB cB bsB x (hsB.below hx) (by have := hcB.1; have := hcB.2; unfold maxLen at *; omega)
  have HAL := hid (fill_len bsA)
  have HBL := hid (fill_len bsB)
  have HAB := hid (flFill_bytes hbyA)
  have HBB := hid (flFill_bytes hbyB)
  obtain ⟨n, hn⟩ : ∃ n, n = l.length := ⟨_, rfl⟩
  obtain ⟨N, hN⟩ : ∃ N, N = min n 10 := ⟨_, rfl⟩
  have HS : Hid (∀ x, Below w.heap.size w x → ∀ k, k < n → ∃ b o, a = some ⟨b, o, none⟩ ∧ _) := hid fun x hx k hk => hs.cells (k := k) hx (by omega)
  have HS2 : Hid (∀ b o, a = some ⟨b, o, none⟩ → ∀ x, Below w.heap.size w x → ∀ k, k < n → x.cell? ⟨b, o + k * 4, none⟩ = some (.int .i64 (l.getD k zeroSp).e)) := hid fun b o ha x hx k hk => by
    obtain ⟨b', o', ha', h0, _⟩ := hs.cells hx (k := k) (by omega)
    rw [ha] at ha'
    cases ha'
    exact h0
  have hcl : (n : Int) ≤ c := by omega
  have hcm : (c : Int) ≤ 9223372036854775807 := by have := hc.2; unfold maxLen at this; omega
  have HNL := hid hn
  rw [← hn]
  clear hs hc hn hsA hbyA hcA hsB hbyB hcB
  generalize fill bsA = A at *
  generalize fill bsB = B at *
  go_enter Try.func5, Try.ntmps5
  go_wp2_with fail
  refine HF1.out.mono ?_
  clear HF1
  rintro x w1 ⟨g1, rfl, hs1, hb1⟩
  have HFB := hid (HF2.out w1 hb1)
  have HB1 := hid hb1
  have HS1 := hid hs1
  clear HF2 hb1 hs1
  go_wp2_with fail
  refine HFB.out.mono ?_
  clear HFB
  rintro x w2 ⟨g2, rfl, hs2, hb2⟩
  have HB2 : Hid (Below w.heap.size w w2) := hid (HB1.out.trans (hb2.mono HB1.out.size))
  have HSA2 := hid (HS1.out.below hb2)
  have HSB2 := hid hs2
  clear hb2 hs2 HB1 HS1
  go_upto_region 2 with fail
  have HOWN : Hid ((w2.alloc (.cells #[] 5)).ownsRow w2.heap.size 5 1 (.slice (some ⟨w2.heap.size, 0, none⟩) 0 0) 0 (u8s [])) := hid (World.ownsRow_lit w2 #[] 0 (Nat.le_refl _) (by unfold maxLen; omega) rfl)
  have HBA : Hid (Below w2.heap.size w2 (w2.alloc (.cells #[] 5))) := hid ((Below.refl _ _).alloc (Nat.le_refl _) _)
  go_wp2_with (refine wpList_append_any rfl (.tmp 23) (.tmp 24) 26 rfl w2.heap.size 5 (.int .u8 0) 1 Try.underlying26 infoU8 rfl _ _ _ rfl HOWN.out (some ⟨g1, 0, none⟩) 256 256 (u8s A) rfl (by rw [u8s_length]; exact HAL.out) (fun h => by cases h) (HSA2.out.below HBA.out).cells (u8s_one _) (by unfold maxLen; omega) (by omega) HBA.out.size ?_)
  intro v3 w3 hv3 hg3 _
  have HV3 : Hid (w3.ownsRow w2.heap.size 5 1 v3 256 (u8s A)) := hid (by simpa [u8s] using hv3)
  have HB3 : Hid (Below w2.heap.size w2 w3) := hid (below_owned (w0 := w2) HBA.out HOWN.out (Nat.le_refl _) hg3)
  have HSA3 : Hid (Sl (fun b => b < w2.heap.size) w3 (some ⟨g1, 0, none⟩) A) := hid ((HSA2.out.mono fun _ _ h => h).below HB3.out)
  have HSB3 : Hid (Sl (fun b => b < w2.heap.size) w3 (some ⟨g2, 0, none⟩) B) := hid ((HSB2.out.mono fun _ _ h => h).below HB3.out)
  clear hv3 hg3 HOWN HBA HSA2 HSB2
  go_wp2_with (refine wpList_append_any rfl (.tmp 25) (.tmp 26) 26 rfl w2.heap.size 5 (.int .u8 0) 1 Try.underlying26 infoU8 rfl _ _ _ rfl HV3.out (some ⟨g2, 0, none⟩) 256 256 (u8s B) rfl (by rw [u8s_length]; exact HBL.out) (fun h => by cases h) HSB3.out.cells (u8s_one _) (by unfold maxLen; omega) (by omega) HB3.out.size ?_)
  intro v4 w4 hv4 hg4 _
  have hb4 : Below w2.heap.size w2 w4 := below_owned (w0 := w2) HB3.out HV3.out (Nat.le_refl _) hg4
  have hv4' : Row 5 w2.heap.size w4 v4 (A ++ B) := by
    unfold Row
    rw [u8s_append, List.length_append, HAL.out, HBL.out]
    exact hv4
  have hgb : ∀ b, b < w2.heap.size → v3.ownBlock ≠ some b := fun b hb h => by have := (HV3.out.lt b h).1; omega
  have HSA4 : Hid (Sl (fun b => b < w4.heap.size) w4 (some ⟨g1, 0, none⟩) A) := hid ((HSA3.out.kept fun b hb hlt => hg4.block b hlt (fun h => hgb b hb h.symm)).mono fun _ _ h => h)
  have HSB4 : Hid (Sl (fun b => b < w4.heap.size) w4 (some ⟨g2, 0, none⟩) B) := hid ((HSB3.out.kept fun b hb hlt => hg4.block b hlt (fun h => hgb b hb h.symm)).mono fun _ _ h => h)
  have HB4 : Hid (Below w.heap.size w w4) := hid (HB2.out.trans (hb4.mono HB2.out.size))
  have hl512 : (A ++ B).length = 512 := by rw [List.length_append, HAL.out, HBL.out]
  obtain ⟨a4, c4, rfl, _, _, _, hs4⟩ := hv4'.sl
  have HLD := hid (dv_load w4 _ a4 c4 2 (A ++ B) hs4 hl512 (by decide))
  rw [hl512] at HLD ⊢
  clear hv4 hg4 hb4 hv4' hgb hs4 hl512 HB2 HB3 HV3 HSA3 HSB3
  go_wp2_with fail
  refine HLD.out.mono ?_
  clear HLD
  rintro x w5 ⟨C, g, rfl, hd5, hb5, hhi5⟩
  have HB5 : Hid (Below w.heap.size w w5) := hid (HB4.out.trans (hb5.mono HB4.out.size))
  have HHI : Hid (∀ b, C b ≠ 0 → w4.heap.size ≤ b) := hid hhi5
  have hdd : Dd w.heap.size C w5 g _ A B 0 := ⟨hd5, Idle.two HAL.out HBL.out, HAB.out, HBB.out, fun b hb => Nat.le_trans HB4.out.size (hhi5 b hb)⟩
  have HFD := hid (find_dd hdd (by decide))
  have HSA5 := hid (HSA4.out.below hb5)
  have HSB5 := hid (HSB4.out.below hb5)
  clear hd5 hb5 hhi5 hdd HB4 HSA4 HSB4
  obtain ⟨x, hx⟩ : ∃ x, x = fiS A B := ⟨_, rfl⟩
  obtain ⟨q, hq⟩ : ∃ q, q = fiE A B := ⟨_, rfl⟩
  have HRF : Hid (∀ z, Sl (fun b => b < w4.heap.size) z (some ⟨g1, 0, none⟩) A → Sl (fun b => b < w4.heap.size) z (some ⟨g2, 0, none⟩) B → Calls Try.prog 24 #[.slice (some ⟨g1, 0, none⟩) 256 256, .slice (some ⟨g2, 0, none⟩) 256 256] z fun r z' => r = .returned (.tuple #[.agg #[.int .i64 (x).e, .int .i64 (x).r, .int .i64 (x).s, .int .i64 (x).t], .int .i64 (q : Nat)]) ∧ Below z.heap.size z z') := hid fun z h1 h2 => by
    have h := refFind_any _ _ _ _ 256 256 A B z h1 h2 HAB.out HBB.out (by rw [HAL.out]; unfold maxLen; omega) (by rw [HBL.out]; unfold maxLen; omega)
    unfold FiAns at h
    rw [HAL.out, HBL.out, ← hx, ← hq] at h
    exact h
  rw [← hx, ← hq] at HFD
  clear hx hq HAB HBB HAL HBL
  go_wp2_with fail
  refine HFD.out.mono ?_
  clear HFD
  rintro r w6 ⟨S6, rfl, hd6, hm6⟩
  obtain ⟨w7, hw7⟩ : ∃ u, u = w6.alloc (.cells #[.int .i64 (x).e, .int .i64 (x).r, .int .i64 (x).s, .int .i64 (x).t] 24) := ⟨_, rfl⟩
  have hb7 : Below w6.heap.size w6 w7 := by rw [hw7]; exact (Below.refl _ _).alloc (Nat.le_refl _) _
  have HX7 : Hid (w7.heap[w6.heap.size]? = some (.cells #[.int .i64 (x).e, .int .i64 (x).r, .int .i64 (x).s, .int .i64 (x).t] 24 (0, 0))) := hid (by rw [hw7]; exact heap_alloc_new w6 _)
  have HB6 : Hid (Below w.heap.size w w6) := hid (HB5.out.trans (hm6.below HB5.out.size hd6.hi))
  have HB7 : Hid (Below w.heap.size w w7) := hid (HB6.out.trans (hb7.mono HB6.out.size))
  have HSA7 := hid ((HSA5.out.mv hm6 (fun b hb h => by have := HHI.out b h; omega)).below hb7)
  have HSB7 := hid ((HSB5.out.mv hm6 (fun b hb h => by have := HHI.out b h; omega)).below hb7)
  have HR7 := hid (HRF.out w7 HSA7.out HSB7.out)
  have HW7 := hid hw7
  clear hd6 hm6 hb7 hw7 HB5 HB6 HSA5 HSB5 HSA7 HSB7 HRF HHI
  go_upto_region 6 with fail
  rw [← HW7.out]
  clear HW7
  go_wp2_with fail
  refine HR7.out.mono ?_
  clear HR7
  rintro r w8 ⟨rfl, hb8⟩
  obtain ⟨w9, hw9⟩ : ∃ u, u = w8.alloc (.cells #[.int .i64 (x).e, .int .i64 (x).r, .int .i64 (x).s, .int .i64 (x).t] 23) := ⟨_, rfl⟩
  have hb9 : Below w8.heap.size w8 w9 := by rw [hw9]; exact (Below.refl _ _).alloc (Nat.le_refl _) _
  have HZ9 : Hid (w9.heap[w8.heap.size]? = some (.cells #[.int .i64 (x).e, .int .i64 (x).r, .int .i64 (x).s, .int .i64 (x).t] 23 (0, 0))) := hid (by rw [hw9]; exact heap_alloc_new w8 _)
  have HB8 : Hid (Below w.heap.size w w8) := hid (HB7.out.trans (hb8.mono HB7.out.size))
  have HB9 : Hid (Below w.heap.size w w9) := hid (HB8.out.trans (hb9.mono HB8.out.size))
  have HX9 := hid (row_below (row_below HX7.out hb8) hb9)
  have HW9 := hid hw9
  clear hb8 hb9 hw9 HB7 HB8 HX7
  go_upto_region 7 with fail
  rw [← HW9.out]
  clear HW9
  have HC : Hid (∀ z, Grew w9.drew z → z.cell? ⟨w6.heap.size, 0, none⟩ = some (.int .i64 x.e) ∧ z.cell? ⟨w6.heap.size, 1, none⟩ = some (.int .i64 x.r) ∧ z.cell? ⟨w6.heap.size, 2, none⟩ = some (.int .i64 x.s) ∧ z.cell? ⟨w6.heap.size, 3, none⟩ = some (.int .i64 x.t) ∧
      z.cell? ⟨w8.heap.size, 0, none⟩ = some (.int .i64 x.e) ∧ z.cell? ⟨w8.heap.size, 1, none⟩ = some (.int .i64 x.r) ∧ z.cell? ⟨w8.heap.size, 2, none⟩ = some (.int .i64 x.s) ∧ z.cell? ⟨w8.heap.size, 3, none⟩ = some (.int .i64 x.t)) := hid fun z hz => by
    have h1 : z.heap[w6.heap.size]? = _ := row_below (w := w9.drew) HX9.out hz
    have h2 : z.heap[w8.heap.size]? = _ := row_below (w := w9.drew) HZ9.out hz
    exact ⟨cell_of_row z _ 0 _ _ _ h1, cell_of_row z _ 1 _ _ _ h1, cell_of_row z _ 2 _ _ _ h1, cell_of_row z _ 3 _ _ _ h1, cell_of_row z _ 0 _ _ _ h2, cell_of_row z _ 1 _ _ _ h2, cell_of_row z _ 2 _ _ _ h2, cell_of_row z _ 3 _ _ _ h2⟩
  refine wp_region_grows 9 [Eqv' (.int .i64 (q : Nat)), Eqv' (.int .i64 (q : Nat)), Eqv' (.bool false), Eqv' (.bool false), Eqv' (.agg #[.int .i64 (x).e, .int .i64 (x).r, .int .i64 (x).s, .int .i64 (x).t]), Eqv' (.agg #[.int .i64 (x).e, .int .i64 (x).r, .int .i64 (x).s, .int .i64 (x).t]), Eqv' (.agg #[.int .i64 (x).e, .int .i64 (x).r, .int .i64 (x).s, .int .i64 (x).t]), Eqv' (.bool false), Eqv' (.bool false)] (by kernel_rfl) (by decide) (by kernel_rfl) ?_ ?_ ?_
  · repeat' (first | exact List.forall_mem_nil _ | refine List.forall_mem_cons.2 ⟨?_, ?_⟩)
    all_goals
      intro w w' v hw h
      exact h
  · simp only [AllLt]
    refine ⟨⟨⟨⟨⟨⟨⟨⟨⟨trivial, ?_⟩, ?_⟩, ?_⟩, ?_⟩, ?_⟩, ?_⟩, ?_⟩, ?_⟩, ?_⟩
    all_goals
      intro o' ho
      simp at ho
      subst ho
      intro ρ w2 hR hL hS hG
      obtain ⟨hl1, hl2, -⟩ := hL
    · refine plainG rfl ?_
      intro bA K Q' hK
      have e10 := hS 10 (by kernel_rfl)
      change ρ (.tmp 10) = _ at e10
      simp only [execOp]
      go_simp
      exact hK _ _ rfl (Grew.refl _)
    · refine plainG rfl ?_
      intro bA K Q' hK
      have e12 := hS 12 (by kernel_rfl)
      change ρ (.tmp 12) = _ at e12
      simp only [execOp]
      go_simp
      exact hK _ _ rfl (Grew.refl _)
    · refine plainG rfl ?_
      intro bA K Q' hK
      have e44 := hG 0 44 (by decide) (by kernel_rfl) (by kernel_rfl)
      have e45 := hG 1 45 (by decide) (by kernel_rfl) (by kernel_rfl)
      change ρ (.tmp 44) = _ at e44
      change ρ (.tmp 45) = _ at e45
      simp only [execOp]
      go_simp
      exact hK _ _ rfl (Grew.refl _)
    · refine plainG rfl ?_
      intro bA K Q' hK
      have e46 := hG 2 46 (by decide) (by kernel_rfl) (by kernel_rfl)
      change ρ (.tmp 46) = _ at e46
      simp only [execOp]
      go_simp
      exact hK _ _ rfl (Grew.refl _)
    · have eG : ρ (.tmp 47) = _ := hG 3 47 (by decide) (by kernel_rfl) (by kernel_rfl)
      refine onG rfl (by kernel_rfl) eG ?_
      intro bA K Q' hK
      have e9 := hS 9 (by kernel_rfl)
      change ρ (.tmp 9) = _ at e9
      obtain ⟨x0, x1, x2, x3, z0, z1, z2, z3⟩ := HC.out w2 hR
      simp only [execOp]
      go_simp
      exact hK _ _ rfl (Grew.refl _)
    · have eG : ρ (.tmp 47) = _ := hG 3 47 (by decide) (by kernel_rfl) (by kernel_rfl)
      refine onG rfl (by kernel_rfl) eG ?_
      intro bA K Q' hK
      have e48 := hG 4 48 (by decide) (by kernel_rfl) (by kernel_rfl)
      change ρ (.tmp 48) = _ at e48
      simp only [execOp]
      go_simp
      refine (of_any x.e x.r x.s x.t w2).mono ?_
      rintro r9 w9 ⟨rfl, hb9⟩
      exact hK _ _ rfl hb9
    · have eG : ρ (.tmp 47) = _ := hG 3 47 (by decide) (by kernel_rfl) (by kernel_rfl)
      refine onG rfl (by kernel_rfl) eG ?_
      intro bA K Q' hK
      have e11 := hS 11 (by kernel_rfl)
      change ρ (.tmp 11) = _ at e11
      obtain ⟨x0, x1, x2, x3, z0, z1, z2, z3⟩ := HC.out w2 hR
      simp only [execOp]
      go_simp
      exact hK _ _ rfl (Grew.refl _)
    · have eG : ρ (.tmp 47) = _ := hG 3 47 (by decide) (by kernel_rfl) (by kernel_rfl)
      refine onG rfl (by kernel_rfl) eG ?_
      intro bA K Q' hK
      have e49 := hG 5 49 (by decide) (by kernel_rfl) (by kernel_rfl)
      have e50 := hG 6 50 (by decide) (by kernel_rfl) (by kernel_rfl)
      change ρ (.tmp 49) = _ at e49
      change ρ (.tmp 50) = _ at e50
      simp only [execOp]
      go_simp
      exact hK _ _ rfl (Grew.refl _)
    · refine plainG rfl ?_
      intro bA K Q' hK
      have e47 := hG 3 47 (by decide) (by kernel_rfl) (by kernel_rfl)
      have e51 := hG 7 51 (by decide) (by kernel_rfl) (by kernel_rfl)
      change ρ (.tmp 47) = _ at e47
      change ρ (.tmp 51) = _ at e51
      simp only [execOp]
      go_simp
      exact hK _ _ rfl (Grew.refl _)
  · intro v' w10 hR hG
    have hlast : v' 8 = .bool false := hG.2
    have HB10 : Hid (Below w.heap.size w w10) := hid (Grew.on HB9.out hR)
    clear hG hR HC HB9 HX9 HZ9
    simp [stG, stU, dstAt, Act.put, hlast]
    go_wp2_with fail
    go_loopw [13, 14, 15] (fun v b i wr => ∃ k : Nat, k ≤ N ∧ i = .int .i64 (k : Int) ∧ wr.ownsRow w10.heap.size 24 4 v k (scells (l.take k)) ∧ Best l k b ∧ Below w10.heap.size w10 wr) (fun _ _ i _ => N - (intOf i).toNat)
    case atStart => exact ⟨0, Nat.zero_le _, rfl, by simpa [scells] using World.ownsRow_nil _ _ _ _, .inl ⟨rfl, rfl⟩, Below.refl _ _⟩
    case round =>
      obtain ⟨k, hk, rfl, hv, hbest, hb⟩ := hrel
      have HV := hid hv
      have HBW := hid hb
      have HB : Hid (Below w.heap.size w _) := hid (HB10.out.trans (hb.mono HB10.out.size))
      clear hv hb
      have hN10 : N ≤ 10 := by omega
      have hNn : N ≤ n := by omega
      by_cases hlt : k < N
      · have hk1 : (k < n) = True := eq_true (by omega)
        have hk2 : (k : Int) < n := by omega
        have hk3 : (k : Int) < 10 := by omega
        obtain ⟨s, hsd⟩ : ∃ s, s = l.getD k zeroSp := ⟨_, rfl⟩
        obtain ⟨b, o, ha, c0, c1, c2, c3⟩ := HS.out _ HB.out k (by omega)
        have HSX := hid (HS2.out b o ha)
        subst ha
        rw [← hsd] at c0 c1 c2 c3
        have HLT := hid hlt
        have HSD := hid hsd
        have HBEST := hid hbest
        have HTK : Hid (scells (l.take (k + 1)) = scells (l.take k) ++ scells [s]) := hid (by
          rw [List.take_succ_eq_append_getElem (by have := HNL.out; omega), scells_append, hsd, List.getD_eq_getElem?_getD, List.getElem?_eq_getElem (by have := HNL.out; omega)]
          rfl)
        clear hsd hlt hbest
        go_wp2_with fail
        refine (to_any s.e s.r s.s s.t _).mono ?_
        rintro r w11 ⟨rfl, hb11⟩
        have HB11 : Hid (Below w.heap.size w w11) := hid (HB.out.trans (hb11.mono HB.out.size))
        have HBW11 : Hid (Below w10.heap.size w10 w11) := hid (HBW.out.trans (hb11.mono HBW.out.size))
        have HV11 := hid (owns_mv HV.out (Mv.of_below (F := fun _ => False) hb11) (fun _ _ h => h))
        clear c0 c1 c2 c3 hb11 HB HBW HV
        obtain ⟨i0, hi0, hz0, hz1, hz2⟩ := info_parts infoSp
        have HI := hid (And.intro hi0 (And.intro hz0 (And.intro hz1 hz2)))
        clear hi0 hz0 hz1 hz2
        go_wp2_with (refine wpList_append_own _ rfl (.tmp 63) (.tmp 69) 50 rfl w10.heap.size 24 i0 (.agg #[.int .i64 0, .int .i64 0, .int .i64 0, .int .i64 0]) 4 32 Try.underlying50 HI.out.1 HI.out.2.1 HI.out.2.2.1 HI.out.2.2.2 rfl (by decide) _ _ _ rfl (HV11.out.alloc _) ⟨w11.heap.size, 0, none⟩ 1 1 (scells [s]) rfl (by rw [scells_len]; rfl) (cells_new w11 s _) (scells_one _) (by unfold maxLen; omega) (by omega) (by have := HBW11.out.size; simp; omega) ?_)
        intro v12 w12 hv12 hg12 _
        have HV12 : Hid (w12.ownsRow w10.heap.size 24 4 v12 (k + 1) (scells (l.take (k + 1)))) := hid (by rw [HTK.out]; exact hv12)
        have HBW12 : Hid (Below w10.heap.size w10 w12) := hid (below_owned (w0 := w10) (HBW11.out.alloc HBW11.out.size _) (HV11.out.alloc _) (Nat.le_refl _) hg12)
        have HB12 : Hid (Below w.heap.size w w12) := hid (HB10.out.trans (HBW12.out.mono HB10.out.size))
        clear hv12 hg12 HTK HI HV11 HBW11 HB11
        rcases HBEST.out with ⟨hk0, rfl⟩ | ⟨hkp, j, hj, rfl, hjm⟩
        · have HNB : Hid (Best l (k + 1) (.int .i64 (k : Int))) := hid (.inr ⟨by omega, k, by omega, rfl, by rw [hk0]; rfl⟩)
          clear hk0 HBEST
          go_upto_region 15 with fail
          have HC : Hid (∀ z, Grew w12.drew z → True ∧ True) := hid fun _ _ => ⟨trivial, trivial⟩
          refine wp_region_grows 15 [Eqv' (.int .i64 (-1)), Eqv' (.bool true), Eqv' (.bool true), Eqv' (undef), Eqv' (undef), Eqv' (undef), Eqv' (undef), Eqv' (undef), Eqv' (undef), Eqv' (undef), Eqv' (undef), Eqv' (undef), Eqv' (undef), Eqv' (undef), Eqv' (.bool true)] (by kernel_rfl) (by decide) (by kernel_rfl) ?_ ?_ ?_
          · repeat' (first | exact List.forall_mem_nil _ | refine List.forall_mem_cons.2 ⟨?_, ?_⟩)
            all_goals
              intro w w' v hw h
              exact h
          · simp only [AllLt]
            refine ⟨⟨⟨⟨⟨⟨⟨⟨⟨⟨⟨⟨⟨⟨⟨trivial, ?_⟩, ?_⟩, ?_⟩, ?_⟩, ?_⟩, ?_⟩, ?_⟩, ?_⟩, ?_⟩, ?_⟩, ?_⟩, ?_⟩, ?_⟩, ?_⟩, ?_⟩
            all_goals
              intro o' ho
              simp at ho
              subst ho
              intro ρ w2 hR hL hS hG
              obtain ⟨hl1, hl2, -⟩ := hL
            · refine plainG rfl ?_
              intro bA K Q' hK
              have e14 := hS 14 (by kernel_rfl)
              change ρ (.tmp 14) = _ at e14
              simp only [execOp]
              go_simp
              exact hK _ _ rfl (Grew.refl _)
            · refine plainG rfl ?_
              intro bA K Q' hK
              have e71 := hG 0 71 (by decide) (by kernel_rfl) (by kernel_rfl)
              change ρ (.tmp 71) = _ at e71
              simp only [execOp]
              go_simp
              exact hK _ _ rfl (Grew.refl _)
            · refine plainG rfl ?_
              intro bA K Q' hK
              have e72 := hG 1 72 (by decide) (by kernel_rfl) (by kernel_rfl)
              change ρ (.tmp 72) = _ at e72
              simp only [execOp]
              go_simp
              exact hK _ _ rfl (Grew.refl _)
            · have eG : ρ (.tmp 73) = _ := hG 2 73 (by decide) (by kernel_rfl) (by kernel_rfl)
              exact offG rfl (by kernel_rfl) eG rfl rfl
            · have eG : ρ (.tmp 73) = _ := hG 2 73 (by decide) (by kernel_rfl) (by kernel_rfl)
              exact offG rfl (by kernel_rfl) eG rfl rfl
            · have eG : ρ (.tmp 73) = _ := hG 2 73 (by decide) (by kernel_rfl) (by kernel_rfl)
              exact offG rfl (by kernel_rfl) eG rfl rfl
            · have eG : ρ (.tmp 73) = _ := hG 2 73 (by decide) (by kernel_rfl) (by kernel_rfl)
              exact offG rfl (by kernel_rfl) eG rfl rfl
            · have eG : ρ (.tmp 73) = _ := hG 2 73 (by decide) (by kernel_rfl) (by kernel_rfl)
              exact offG rfl (by kernel_rfl) eG rfl rfl
            · have eG : ρ (.tmp 73) = _ := hG 2 73 (by decide) (by kernel_rfl) (by kernel_rfl)
              exact offG rfl (by kernel_rfl) eG rfl rfl
            · have eG : ρ (.tmp 73) = _ := hG 2 73 (by decide) (by kernel_rfl) (by kernel_rfl)
              exact offG rfl (by kernel_rfl) eG rfl rfl
            · have eG : ρ (.tmp 73) = _ := hG 2 73 (by decide) (by kernel_rfl) (by kernel_rfl)
              exact offG rfl (by kernel_rfl) eG rfl rfl
            · have eG : ρ (.tmp 73) = _ := hG 2 73 (by decide) (by kernel_rfl) (by kernel_rfl)
              exact offG rfl (by kernel_rfl) eG rfl rfl
            · have eG : ρ (.tmp 73) = _ := hG 2 73 (by decide) (by kernel_rfl) (by kernel_rfl)
              exact offG rfl (by kernel_rfl) eG rfl rfl
            · have eG : ρ (.tmp 73) = _ := hG 2 73 (by decide) (by kernel_rfl) (by kernel_rfl)
              exact offG rfl (by kernel_rfl) eG rfl rfl
            · refine plainG rfl ?_
              intro bA K Q' hK
              have e73 := hG 2 73 (by decide) (by kernel_rfl) (by kernel_rfl)
              have e84 := hG 13 84 (by decide) (by kernel_rfl) (by kernel_rfl)
              change ρ (.tmp 73) = _ at e73
              change ρ (.tmp 84) = _ at e84
              simp only [execOp]
              go_simp
              exact hK _ _ rfl (Grew.refl _)
          · intro v' w13 hR hG
            have hlast : v' 14 = .bool true := hG.2
            have HB13 : Hid (Below w10.heap.size w10 w13) := hid (Grew.on HBW12.out hR)
            have HV13 := hid (owns_mv HV12.out (Mv.of_below (F := fun _ => False) (Below.trans ((Below.refl _ _).drew) hR)) (fun _ _ h => h))
            clear hG hR HC HV12 HBW12 HB12
            simp [stG, stU, dstAt, Act.put, hlast]
            go_wp2_with fail
            go_roundw
            case rel => exact ⟨k + 1, by have := HLT.out; omega, by go_num, HV13.out, HNB.out, HB13.out⟩
            case measure => have := HLT.out; simp [intOf]; omega
        · obtain ⟨y, hy⟩ : ∃ y, y = mx l (k - 1) := ⟨_, rfl⟩
          have HMX : Hid (mx l k = if y.e < s.e then s else y) := hid (by
            obtain ⟨i, rfl⟩ : ∃ i, k = i + 1 := ⟨k - 1, by omega⟩
            rw [hy, HSD.out]; rfl)
          have HNB : Hid (Best l (k + 1) (.int .i64 (if y.e < s.e then (k : Int) else (j : Int)))) := hid (.inr ⟨by omega, if y.e < s.e then k else j, by split <;> omega, by split <;> rfl, by
            rw [Nat.add_sub_cancel, HMX.out]
            split
            · exact HSD.out.symm
            · rw [hjm, hy]⟩)
          have HC : Hid (∀ z, Grew w12.drew z → z.cell? ⟨b, o + k * 4, none⟩ = some (.int .i64 s.e) ∧ z.cell? ⟨b, o + j * 4, none⟩ = some (.int .i64 y.e)) := hid fun z hz => by
            have hzb := Grew.on HB12.out hz
            exact ⟨by rw [HSX.out z hzb k (by have := HLT.out; omega), HSD.out], by rw [HSX.out z hzb j (by have := HLT.out; omega), hjm, hy]⟩
          have hj1 : (j < n) = True := eq_true (by omega)
          have hj2 : (j : Int) < n := by omega
          clear hy hjm HMX HBEST hkp
          go_upto_region 15 with fail
          refine wp_region_grows 15 [Eqv' (.int .i64 (j : Int)), Eqv' (.bool false), Eqv' (.bool false), Eqv' (.slice (some ⟨b, o, none⟩) n c), Eqv' (.int .i64 (k : Int)), Eqv' (.pointer (some ⟨b, o + k * 4, none⟩)), Eqv' (.pointer (some ⟨b, o + k * 4, none⟩)), Eqv' (.int .i64 s.e), Eqv' (.slice (some ⟨b, o, none⟩) n c), Eqv' (.int .i64 (j : Int)), Eqv' (.pointer (some ⟨b, o + j * 4, none⟩)), Eqv' (.pointer (some ⟨b, o + j * 4, none⟩)), Eqv' (.int .i64 y.e), Eqv' (.bool (decide (y.e < s.e))), Eqv' (.bool (decide (y.e < s.e)))] (by kernel_rfl) (by decide) (by kernel_rfl) ?_ ?_ ?_
          · repeat' (first | exact List.forall_mem_nil _ | refine List.forall_mem_cons.2 ⟨?_, ?_⟩)
            all_goals
              intro w w' v hw h
              exact h
          · simp only [AllLt]
            refine ⟨⟨⟨⟨⟨⟨⟨⟨⟨⟨⟨⟨⟨⟨⟨trivial, ?_⟩, ?_⟩, ?_⟩, ?_⟩, ?_⟩, ?_⟩, ?_⟩, ?_⟩, ?_⟩, ?_⟩, ?_⟩, ?_⟩, ?_⟩, ?_⟩, ?_⟩
            all_goals
              intro o' ho
              simp at ho
              subst ho
              intro ρ w2 hR hL hS hG
              obtain ⟨hl1, hl2, -⟩ := hL
            · refine plainG rfl ?_
              intro bA K Q' hK
              have e14 := hS 14 (by kernel_rfl)
              change ρ (.tmp 14) = _ at e14
              simp only [execOp]
              go_simp
              exact hK _ _ rfl (Grew.refl _)
            · refine plainG rfl ?_
              intro bA K Q' hK
              have e71 := hG 0 71 (by decide) (by kernel_rfl) (by kernel_rfl)
              change ρ (.tmp 71) = _ at e71
              simp only [execOp]
              go_simp
              exact hK _ _ rfl (Grew.refl _)
            · refine plainG rfl ?_
              intro bA K Q' hK
              have e72 := hG 1 72 (by decide) (by kernel_rfl) (by kernel_rfl)
              change ρ (.tmp 72) = _ at e72
              simp only [execOp]
              go_simp
              exact hK _ _ rfl (Grew.refl _)
            · have eG : ρ (.tmp 73) = _ := hG 2 73 (by decide) (by kernel_rfl) (by kernel_rfl)
              refine onG rfl (by kernel_rfl) eG ?_
              intro bA K Q' hK
              have e2 := hS 2 (by kernel_rfl)
              change ρ (.tmp 2) = _ at e2
              simp only [execOp]
              go_simp
              exact hK _ _ rfl (Grew.refl _)
            · have eG : ρ (.tmp 73) = _ := hG 2 73 (by decide) (by kernel_rfl) (by kernel_rfl)
              refine onG rfl (by kernel_rfl) eG ?_
              intro bA K Q' hK
              have e15 := hS 15 (by kernel_rfl)
              change ρ (.tmp 15) = _ at e15
              simp only [execOp]
              go_simp
              exact hK _ _ rfl (Grew.refl _)
            · have eG : ρ (.tmp 73) = _ := hG 2 73 (by decide) (by kernel_rfl) (by kernel_rfl)
              refine onG rfl (by kernel_rfl) eG ?_
              intro bA K Q' hK
              have e74 := hG 3 74 (by decide) (by kernel_rfl) (by kernel_rfl)
              have e75 := hG 4 75 (by decide) (by kernel_rfl) (by kernel_rfl)
              change ρ (.tmp 74) = _ at e74
              change ρ (.tmp 75) = _ at e75
              simp only [execOp]
              go_simp
              exact hK _ _ rfl (Grew.refl _)
            · have eG : ρ (.tmp 73) = _ := hG 2 73 (by decide) (by kernel_rfl) (by kernel_rfl)
              refine onG rfl (by kernel_rfl) eG ?_
              intro bA K Q' hK
              have e76 := hG 5 76 (by decide) (by kernel_rfl) (by kernel_rfl)
              change ρ (.tmp 76) = _ at e76
              simp only [execOp]
              go_simp
              exact hK _ _ rfl (Grew.refl _)
            · have eG : ρ (.tmp 73) = _ := hG 2 73 (by decide) (by kernel_rfl) (by kernel_rfl)
              refine onG rfl (by kernel_rfl) eG ?_
              intro bA K Q' hK
              have e77 := hG 6 77 (by decide) (by kernel_rfl) (by kernel_rfl)
              change ρ (.tmp 77) = _ at e77
              obtain ⟨x0, y0⟩ := HC.out w2 hR
              simp only [execOp]
              go_simp
              exact hK _ _ rfl (Grew.refl _)
            · have eG : ρ (.tmp 73) = _ := hG 2 73 (by decide) (by kernel_rfl) (by kernel_rfl)
              refine onG rfl (by kernel_rfl) eG ?_
              intro bA K Q' hK
              have e2 := hS 2 (by kernel_rfl)
              change ρ (.tmp 2) = _ at e2
              simp only [execOp]
              go_simp
              exact hK _ _ rfl (Grew.refl _)
            · have eG : ρ (.tmp 73) = _ := hG 2 73 (by decide) (by kernel_rfl) (by kernel_rfl)
              refine onG rfl (by kernel_rfl) eG ?_
              intro bA K Q' hK
              have e14 := hS 14 (by kernel_rfl)
              change ρ (.tmp 14) = _ at e14
              simp only [execOp]
              go_simp
              exact hK _ _ rfl (Grew.refl _)
            · have eG : ρ (.tmp 73) = _ := hG 2 73 (by decide) (by kernel_rfl) (by kernel_rfl)
              refine onG rfl (by kernel_rfl) eG ?_
              intro bA K Q' hK
              have e79 := hG 8 79 (by decide) (by kernel_rfl) (by kernel_rfl)
              have e80 := hG 9 80 (by decide) (by kernel_rfl) (by kernel_rfl)
              change ρ (.tmp 79) = _ at e79
              change ρ (.tmp 80) = _ at e80
              simp only [execOp]
              go_simp
              exact hK _ _ rfl (Grew.refl _)
            · have eG : ρ (.tmp 73) = _ := hG 2 73 (by decide) (by kernel_rfl) (by kernel_rfl)
              refine onG rfl (by kernel_rfl) eG ?_
              intro bA K Q' hK
              have e81 := hG 10 81 (by decide) (by kernel_rfl) (by kernel_rfl)
              change ρ (.tmp 81) = _ at e81
              simp only [execOp]
              go_simp
              exact hK _ _ rfl (Grew.refl _)
            · have eG : ρ (.tmp 73) = _ := hG 2 73 (by decide) (by kernel_rfl) (by kernel_rfl)
              refine onG rfl (by kernel_rfl) eG ?_
              intro bA K Q' hK
              have e82 := hG 11 82 (by decide) (by kernel_rfl) (by kernel_rfl)
              change ρ (.tmp 82) = _ at e82
              obtain ⟨x0, y0⟩ := HC.out w2 hR
              simp only [execOp]
              go_simp
              exact hK _ _ rfl (Grew.refl _)
            · have eG : ρ (.tmp 73) = _ := hG 2 73 (by decide) (by kernel_rfl) (by kernel_rfl)
              refine onG rfl (by kernel_rfl) eG ?_
              intro bA K Q' hK
              have e78 := hG 7 78 (by decide) (by kernel_rfl) (by kernel_rfl)
              have e83 := hG 12 83 (by decide) (by kernel_rfl) (by kernel_rfl)
              change ρ (.tmp 78) = _ at e78
              change ρ (.tmp 83) = _ at e83
              simp only [execOp]
              go_simp
              exact hK _ _ rfl (Grew.refl _)
            · refine plainG rfl ?_
              intro bA K Q' hK
              have e73 := hG 2 73 (by decide) (by kernel_rfl) (by kernel_rfl)
              have e84 := hG 13 84 (by decide) (by kernel_rfl) (by kernel_rfl)
              change ρ (.tmp 73) = _ at e73
              change ρ (.tmp 84) = _ at e84
              simp only [execOp]
              go_simp
              exact hK _ _ rfl (Grew.refl _)
          · intro v' w13 hR hG
            have hlast : v' 14 = .bool (decide (y.e < s.e)) := hG.2
            have HB13 : Hid (Below w10.heap.size w10 w13) := hid (Grew.on HBW12.out hR)
            have HV13 := hid (owns_mv HV12.out (Mv.of_below (F := fun _ => False) (Below.trans ((Below.refl _ _).drew) hR)) (fun _ _ h => h))
            clear hG hR HC HV12 HBW12 HB12
            by_cases hys : y.e < s.e
            · rw [decide_eq_true hys] at hlast
              rw [if_pos hys] at HNB
              clear hys
              simp [stG, stU, dstAt, Act.put, hlast]
              go_wp2_with fail
              go_roundw
              case rel => exact ⟨k + 1, by have := HLT.out; omega, by go_num, HV13.out, HNB.out, HB13.out⟩
              case measure => have := HLT.out; simp [intOf]; omega
            · rw [decide_eq_false hys] at hlast
              rw [if_neg hys] at HNB
              clear hys
              simp [stG, stU, dstAt, Act.put, hlast]
              go_wp2_with fail
              go_roundw
              case rel => exact ⟨k + 1, by have := HLT.out; omega, by go_num, HV13.out, HNB.out, HB13.out⟩
              case measure => have := HLT.out; simp [intOf]; omega
      · have hkN : k = N := by omega
        have htest : (k < n) = False ∨ ((k < n) = True ∧ (k : Int) < n ∧ (10 : Int) ≤ k) := by
          by_cases h : k < n
          · exact .inr ⟨eq_true h, by omega, by omega⟩
          · exact .inl (eq_false h)
        have hlen : (l.take k).length = N := by rw [List.length_take, ← HNL.out]; omega
        obtain ⟨a2, c2, rfl, hsp, hc1, hc2⟩ := SpS.owned (n := k) HV.out
        have HCH := hid (choose_any _ a2 c2 (l.take k) _ hsp ⟨hc1, hc2⟩)
        have HSP := hid hsp
        have HC2 : Hid (N ≤ c2) := hid (by rw [← hlen]; exact hc1)
        have hNc : (N : Int) ≤ c2 := by have := HC2.out; omega
        have hcm2 : (c2 : Int) ≤ 9223372036854775807 := by unfold maxLen at hc2; omega
        rw [hlen] at HCH ⊢
        rcases hbest with ⟨hk0, rfl⟩ | ⟨hkp, j, hj, rfl, hjm⟩
        · have hnil : l.take k = [] := by rw [hk0]; rfl
          rw [show chE (l.take k) = 7 from by rw [hnil]; rfl, show chS (l.take k) = zeroSp from by rw [hnil]; rfl] at HCH
          clear hlen hsp hc1 hc2 hnil hk0 hkN hlt HV HBW HSP hN hk hN10 hNn
          generalize l.take k = lh at *
          rcases htest with h1 | ⟨h1, h2, h3⟩
          all_goals
            go_wp2_with fail
            refine HCH.out.mono ?_
            rintro r w11 ⟨rfl, hb11⟩
            have HB11 : Hid (Below w.heap.size w w11) := hid (HB.out.trans (hb11.mono HB.out.size))
            have HB12 : Hid (Below w.heap.size w (w11.alloc (.cells #[.int .i64 (zeroSp).e, .int .i64 (zeroSp).r, .int .i64 (zeroSp).s, .int .i64 (zeroSp).t] 24))) := hid (HB11.out.alloc HB11.out.size _)
            clear hb11 HB11
            go_wp2_with fail
            refine (flKnown_any _).mono ?_
            rintro r w13 ⟨rfl, hb13⟩
            have HB13 : Hid (Below w.heap.size w w13) := hid (HB12.out.trans (hb13.mono HB12.out.size))
            clear hb13 HB12
            go_wp2_with fail
            go_ret
            exact ⟨rfl, HB13.out⟩
        · obtain ⟨y, hy⟩ : ∃ y, y = l.getD j zeroSp := ⟨_, rfl⟩
          have hne : l.take k ≠ [] := fun h => by rw [h] at hlen; simp at hlen; omega
          have hce : chE (l.take k) = 0 := by unfold chE; rw [if_neg hne]
          have hcs : chS (l.take k) = y := by
            unfold chS
            rw [if_neg hne, hlen, mx_take l k (N - 1) (by omega), hy, hjm, hkN]
          obtain ⟨b2, o2, rfl, HZC⟩ : ∃ b2 o2, a2 = some ⟨b2, o2, none⟩ ∧ Hid (∀ z, Below w10.heap.size w10 z → True) := by
            rcases HSP.out with h | ⟨b2, o2, h, _, _⟩
            · exact absurd h hne
            · exact ⟨b2, o2, h, hid fun _ _ => trivial⟩
          rw [hce, hcs] at HCH
          have HY : Hid ((l.take k)[j]? = some y) := hid (by
            rw [List.getElem?_take, if_pos hj, hy, List.getD_eq_getElem?_getD, List.getElem?_eq_getElem (by have := HNL.out; omega)]; rfl)
          have hj1 : (j < N) = True := eq_true (by omega)
          have hj2 : (j : Int) < N := by omega
          clear hlen hsp hc1 hc2 hkN hlt hne hce hcs hy hjm hj hkp HV HBW HZC hN hk hN10 hNn
          generalize l.take k = lh at *
          rcases htest with h1 | ⟨h1, h2, h3⟩
          all_goals
            go_wp2_with fail
            refine HCH.out.mono ?_
            rintro r w11 ⟨rfl, hb11⟩
            obtain ⟨w12, hw12⟩ : ∃ u, u = w11.alloc (.cells #[.int .i64 (y).e, .int .i64 (y).r, .int .i64 (y).s, .int .i64 (y).t] 24) := ⟨_, rfl⟩
            have hb12 : Below w11.heap.size w11 w12 := by rw [hw12]; exact (Below.refl _ _).alloc (Nat.le_refl _) _
            have HX12 : Hid (w12.heap[w11.heap.size]? = some (.cells #[.int .i64 (y).e, .int .i64 (y).r, .int .i64 (y).s, .int .i64 (y).t] 24 (0, 0))) := hid (by rw [hw12]; exact heap_alloc_new w11 _)
            have HB11 : Hid (Below w.heap.size w w11) := hid (HB.out.trans (hb11.mono HB.out.size))
            have HB12 : Hid (Below w.heap.size w w12) := hid (HB11.out.trans (hb12.mono HB11.out.size))
            have HSP12 := hid ((HSP.out.below hb11).below hb12)
            have HW12 := hid hw12
            clear hb11 hb12 hw12 HB11
            go_upto_region 20 with fail
            rw [← HW12.out]
            clear HW12
            have HC : Hid (∀ z, Grew w12.drew z → z.cell? ⟨w11.heap.size, 0, none⟩ = some (.int .i64 y.e) ∧ z.cell? ⟨w11.heap.size, 1, none⟩ = some (.int .i64 y.r) ∧ z.cell? ⟨w11.heap.size, 2, none⟩ = some (.int .i64 y.s) ∧ z.cell? ⟨w11.heap.size, 3, none⟩ = some (.int .i64 y.t) ∧
                z.cell? ⟨b2, o2 + j * 4, none⟩ = some (.int .i64 y.e) ∧ z.cell? ⟨b2, o2 + j * 4 + 1, none⟩ = some (.int .i64 y.r) ∧ z.cell? ⟨b2, o2 + j * 4 + 2, none⟩ = some (.int .i64 y.s) ∧ z.cell? ⟨b2, o2 + j * 4 + 3, none⟩ = some (.int .i64 y.t)) := hid fun z hz => by
              have h1 : z.heap[w11.heap.size]? = _ := row_below (w := w12.drew) HX12.out hz
              have h2 : SpS _ z (some ⟨b2, o2, none⟩) lh := SpS.below (w := w12.drew) HSP12.out hz
              rcases h2 with h | ⟨b', o', h', _, hc'⟩
              · have := HY.out; rw [h] at this; cases this
              · cases h'
                obtain ⟨g0, g1, g2, g3⟩ := hc' j y HY.out
                exact ⟨cell_of_row z _ 0 _ _ _ h1, cell_of_row z _ 1 _ _ _ h1, cell_of_row z _ 2 _ _ _ h1, cell_of_row z _ 3 _ _ _ h1, g0, g1, g2, g3⟩
            refine wp_region_grows 14 [Eqv' (.bool true), Eqv' (.bool true), Eqv' (.int .i64 0), Eqv' (.bool true), Eqv' (.bool true), Eqv' (.bool true), Eqv' (.agg #[.int .i64 (y).e, .int .i64 (y).r, .int .i64 (y).s, .int .i64 (y).t]), Eqv' (.slice (some ⟨b2, o2, none⟩) N c2), Eqv' (.int .i64 (j : Int)), Eqv' (.pointer (some ⟨b2, o2 + j * 4, none⟩)), Eqv' (.agg #[.int .i64 (y).e, .int .i64 (y).r, .int .i64 (y).s, .int .i64 (y).t]), Eqv' (.bool true), Eqv' (.bool true), Eqv' (.bool true)] (by kernel_rfl) (by decide) (by kernel_rfl) ?_ ?_ ?_
            · repeat' (first | exact List.forall_mem_nil _ | refine List.forall_mem_cons.2 ⟨?_, ?_⟩)
              all_goals
                intro w w' v hw h
                exact h
            · simp only [AllLt]
              refine ⟨⟨⟨⟨⟨⟨⟨⟨⟨⟨⟨⟨⟨⟨trivial, ?_⟩, ?_⟩, ?_⟩, ?_⟩, ?_⟩, ?_⟩, ?_⟩, ?_⟩, ?_⟩, ?_⟩, ?_⟩, ?_⟩, ?_⟩, ?_⟩
              all_goals
                intro o' ho
                simp at ho
                subst ho
                intro ρ w2 hR hL hS hG
                obtain ⟨hl1, hl2, -⟩ := hL
              · refine plainG rfl ?_
                intro bA K Q' hK
                simp only [execOp]
                go_simp
                refine (flKnown_any w2).mono ?_
                rintro r9 w9 ⟨rfl, hb9⟩
                exact hK _ _ rfl hb9
              · refine plainG rfl ?_
                intro bA K Q' hK
                have e99 := hG 0 99 (by decide) (by kernel_rfl) (by kernel_rfl)
                change ρ (.tmp 99) = _ at e99
                simp only [execOp]
                go_simp
                exact hK _ _ rfl (Grew.refl _)
              · have eG : ρ (.tmp 100) = _ := hG 1 100 (by decide) (by kernel_rfl) (by kernel_rfl)
                refine onG rfl (by kernel_rfl) eG ?_
                intro bA K Q' hK
                have e17 := hS 17 (by kernel_rfl)
                change ρ (.tmp 17) = _ at e17
                simp only [execOp]
                go_simp
                exact hK _ _ rfl (Grew.refl _)
              · have eG : ρ (.tmp 100) = _ := hG 1 100 (by decide) (by kernel_rfl) (by kernel_rfl)
                refine onG rfl (by kernel_rfl) eG ?_
                intro bA K Q' hK
                have e101 := hG 2 101 (by decide) (by kernel_rfl) (by kernel_rfl)
                change ρ (.tmp 101) = _ at e101
                simp only [execOp]
                go_simp
                exact hK _ _ rfl (Grew.refl _)
              · refine plainG rfl ?_
                intro bA K Q' hK
                have e100 := hG 1 100 (by decide) (by kernel_rfl) (by kernel_rfl)
                have e102 := hG 3 102 (by decide) (by kernel_rfl) (by kernel_rfl)
                change ρ (.tmp 100) = _ at e100
                change ρ (.tmp 102) = _ at e102
                simp only [execOp]
                go_simp
                exact hK _ _ rfl (Grew.refl _)
              · refine plainG rfl ?_
                intro bA K Q' hK
                have e103 := hG 4 103 (by decide) (by kernel_rfl) (by kernel_rfl)
                change ρ (.tmp 103) = _ at e103
                simp only [execOp]
                go_simp
                exact hK _ _ rfl (Grew.refl _)
              · have eG : ρ (.tmp 104) = _ := hG 5 104 (by decide) (by kernel_rfl) (by kernel_rfl)
                refine onG rfl (by kernel_rfl) eG ?_
                intro bA K Q' hK
                have e16 := hS 16 (by kernel_rfl)
                change ρ (.tmp 16) = _ at e16
                obtain ⟨x0, x1, x2, x3, z0, z1, z2, z3⟩ := HC.out w2 hR
                simp only [execOp]
                go_simp
                exact hK _ _ rfl (Grew.refl _)
              · have eG : ρ (.tmp 104) = _ := hG 5 104 (by decide) (by kernel_rfl) (by kernel_rfl)
                refine onG rfl (by kernel_rfl) eG ?_
                intro bA K Q' hK
                have e13 := hS 13 (by kernel_rfl)
                change ρ (.tmp 13) = _ at e13
                simp only [execOp]
                go_simp
                exact hK _ _ rfl (Grew.refl _)
              · have eG : ρ (.tmp 104) = _ := hG 5 104 (by decide) (by kernel_rfl) (by kernel_rfl)
                refine onG rfl (by kernel_rfl) eG ?_
                intro bA K Q' hK
                have e14 := hS 14 (by kernel_rfl)
                change ρ (.tmp 14) = _ at e14
                simp only [execOp]
                go_simp
                exact hK _ _ rfl (Grew.refl _)
              · have eG : ρ (.tmp 104) = _ := hG 5 104 (by decide) (by kernel_rfl) (by kernel_rfl)
                refine onG rfl (by kernel_rfl) eG ?_
                intro bA K Q' hK
                have e106 := hG 7 106 (by decide) (by kernel_rfl) (by kernel_rfl)
                have e107 := hG 8 107 (by decide) (by kernel_rfl) (by kernel_rfl)
                change ρ (.tmp 106) = _ at e106
                change ρ (.tmp 107) = _ at e107
                simp only [execOp]
                go_simp
                exact hK _ _ rfl (Grew.refl _)
              · have eG : ρ (.tmp 104) = _ := hG 5 104 (by decide) (by kernel_rfl) (by kernel_rfl)
                refine onG rfl (by kernel_rfl) eG ?_
                intro bA K Q' hK
                have e108 := hG 9 108 (by decide) (by kernel_rfl) (by kernel_rfl)
                change ρ (.tmp 108) = _ at e108
                obtain ⟨x0, x1, x2, x3, z0, z1, z2, z3⟩ := HC.out w2 hR
                simp only [execOp]
                go_simp
                exact hK _ _ rfl (Grew.refl _)
              · have eG : ρ (.tmp 104) = _ := hG 5 104 (by decide) (by kernel_rfl) (by kernel_rfl)
                refine onG rfl (by kernel_rfl) eG ?_
                intro bA K Q' hK
                have e105 := hG 6 105 (by decide) (by kernel_rfl) (by kernel_rfl)
                have e109 := hG 10 109 (by decide) (by kernel_rfl) (by kernel_rfl)
                change ρ (.tmp 105) = _ at e105
                change ρ (.tmp 109) = _ at e109
                simp only [execOp]
                go_simp
                exact hK _ _ rfl (Grew.refl _)
              · refine plainG rfl ?_
                intro bA K Q' hK
                have e104 := hG 5 104 (by decide) (by kernel_rfl) (by kernel_rfl)
                have e110 := hG 11 110 (by decide) (by kernel_rfl) (by kernel_rfl)
                change ρ (.tmp 104) = _ at e104
                change ρ (.tmp 110) = _ at e110
                simp only [execOp]
                go_simp
                exact hK _ _ rfl (Grew.refl _)
              · refine plainG rfl ?_
                intro bA K Q' hK
                have e111 := hG 12 111 (by decide) (by kernel_rfl) (by kernel_rfl)
                change ρ (.tmp 111) = _ at e111
                simp only [execOp]
                go_simp
                exact hK _ _ rfl (Grew.refl _)
            · intro v' w13 hR hG
              have hlast : v' 13 = .bool true := hG.2
              have HB13 : Hid (Below w.heap.size w w13) := hid (Grew.on HB12.out hR)
              clear hG hR HC HB12 HX12
              simp [stG, stU, dstAt, Act.put, hlast]
              go_wp2_with fail
              go_ret
              exact ⟨rfl, HB13.out⟩
namespace flipFinds
open Go.ChangeShapes Go.WideShapes Go.ChangeAt

theorem own : ownKnob Try.prog.godebug = none := by kernel_rfl
theorem laidOut : laidOutB Try.prog = true := by kernel_rfl

set_option maxRecDepth 100000 in
theorem lifted (os : Os) (started : os.Started) (H : Type) (enc : TypeId × Value → H) :
    ReturnsInHanded {} Try.checked os 5 .any (Rows.flipFindsSpec.pre6 enc Try.prog Try.f5 Rows.flipFindsRow.domain false) (Rows.flipFindsSpec.post enc Try.prog Try.f5 false true false false) := by
  refine returnsInHanded_of_change (C := Try.checked) own started (by kernel_rfl) Try.func5
    (ChangeSpec.witness6 (enc := enc) (C := Try.checked) false ⟨#[], #[.slice none 0 0, .slice none 0 0, .slice none 0 0], []⟩ 8 (by kernel_rfl) (by kernel_rfl) (by kernel_rfl) (by kernel_rfl)) ?_
  intro W base args ds gs before hval0 hW hcnd _
  have hval : ∀ (j : Nat) t v, Try.f5.params[j]? = some t → args[j]? = some v → Value.okWide Try.prog W .any base t v := hval0
  have hW' := hW
  obtain ⟨p, q, hA0, hV, rfl, hfz, hnd⟩ := hW
  have hA : DataW.TrodAll enc Try.prog W 0 (fun _ => true) true Try.f5.params.toList args.toList ds p := hA0
  rw [Try.params5] at hA hval
  obtain ⟨v0, vs0, d0, ds0, p0, q0, hargs, rfl, rfl, h0, r0⟩ := trodAll_cons hA
  obtain ⟨v1, vs1, d1, ds1, p1, q1, rfl, rfl, rfl, h1, r1⟩ := trodAll_cons r0
  obtain ⟨v2, vs2, d2, ds2, p2, q2, rfl, rfl, rfl, h2, r2⟩ := trodAll_cons r1
  obtain ⟨rfl, rfl, rfl⟩ := trodAll_nil r2
  obtain rfl : args = #[v0, v1, v2] := by cases args; simp_all
  obtain ⟨rfl, rfl⟩ := trodVars_none hV
  obtain ⟨a0, len0, cap0, rfl⟩ := okWide_slice Try.underlying26 (hval 0 26 v0 rfl rfl)
  have k0 := h0
  have lt0 : ∀ x ∈ p0, x.block < W.heap.size := by obtain ⟨m, hm⟩ := k0; exact DataW.trod_lt m _ _ _ hm
  obtain ⟨a, c, bs0, hv, hby0, hsl0, hlc0, hcm0, hn0⟩ : ∃ a c bs, Value.slice a0 len0 cap0 = .slice a (List.length bs) c ∧ Bytes bs ∧ Sl (fun _ => True) W a bs ∧ bs.length ≤ c ∧ c ≤ maxLen ∧ (a = none → c = 0) := by
    obtain ⟨fuel, hf⟩ := h0
    exact open_sl Try.underlying26 Try.underlying5 (by kernel_rfl) hf
  simp only [Value.slice.injEq] at hv
  obtain ⟨rfl, rfl, rfl⟩ := hv
  obtain ⟨a1, len1, cap1, rfl⟩ := okWide_slice Try.underlying26 (hval 1 26 v1 rfl rfl)
  have k1 := h1
  have lt1 : ∀ x ∈ p1, x.block < W.heap.size := by obtain ⟨m, hm⟩ := k1; exact DataW.trod_lt m _ _ _ hm
  obtain ⟨a, c, bs1, hv, hby1, hsl1, hlc1, hcm1, hn1⟩ : ∃ a c bs, Value.slice a1 len1 cap1 = .slice a (List.length bs) c ∧ Bytes bs ∧ Sl (fun _ => True) W a bs ∧ bs.length ≤ c ∧ c ≤ maxLen ∧ (a = none → c = 0) := by
    obtain ⟨fuel, hf⟩ := h1
    exact open_sl Try.underlying26 Try.underlying5 (by kernel_rfl) hf
  simp only [Value.slice.injEq] at hv
  obtain ⟨rfl, rfl, rfl⟩ := hv
  obtain ⟨a2, len2, cap2, rfl⟩ := okWide_slice Try.underlying44 (hval 2 44 v2 rfl rfl)
  have k2 := h2
  have lt2 : ∀ x ∈ p2, x.block < W.heap.size := by obtain ⟨m, hm⟩ := k2; exact DataW.trod_lt m _ _ _ hm
  obtain ⟨a, c, l2, hv, hls2, hlf2, hlc2, hcm2⟩ : ∃ a c l, Value.slice a2 len2 cap2 = .slice a (List.length l) c ∧ SpS (fun _ => True) W a l ∧ (∀ y ∈ l, y.fits) ∧ l.length ≤ c ∧ c ≤ maxLen := by
    obtain ⟨fuel, hf⟩ := h2
    exact open_sups Try.underlying44 hf
  simp only [Value.slice.injEq] at hv
  obtain ⟨rfl, rfl, rfl⟩ := hv
  clear hA0 hval0
  refine (flipFinds_walk _ _ _ a0 cap0 bs0 a1 cap1 bs1 a2 cap2 l2 W hsl0 hby0 ⟨hlc0, hcm0⟩ hsl1 hby1 ⟨hlc1, hcm1⟩ hls2 ⟨hlc2, hcm2⟩).mono fun e W' ⟨he, bel⟩ => ?_
  subst he
  exact ⟨_, rfl, _, _, _, [], _, [], hW', trodAll_mk1 (shut_bool Try.underlying4 _), (trodAll_cons_mk (Below.trod laidOut (by kernel_rfl) (of_decide_eq_true (by kernel_rfl)) k0 bel lt0) (trodAll_cons_mk (Below.trod laidOut (by kernel_rfl) (of_decide_eq_true (by kernel_rfl)) k1 bel lt1) (trodAll_cons_mk (Below.trod laidOut (by kernel_rfl) (of_decide_eq_true (by kernel_rfl)) k2 bel lt2) trodAll_mk0))), rfl, bel.frame _, fun h => by cases h⟩

/-- THE STATEMENT. -/
theorem proved : Rows.FlipFindsSaid :=
  OpenClaim.holds_of_wide 5 Try.f5 rfl rfl rfl rfl rfl rfl rfl ⟨rfl, rfl, rfl, rfl, rfl⟩ rfl rfl rfl rfl rfl (by kernel_rfl) Try.func5 (by kernel_rfl)
    (of_decide_eq_true (by kernel_rfl)) (by unfold Func.isWrapper; first | (rw [if_pos (by decide +kernel)]; kernel_rfl) | (rw [if_neg (by decide +kernel)]; exact ⟨rfl, rfl⟩))
    (fun os started H enc _ => lifted os started H enc)
end flipFinds
end Go.Proofs.Ytebacgkeolofmaa
