/- CONTRACTS: crashes. -/
import Derived.Test.YtgppmnaidgkboaaDevN
namespace Go.Proofs.Ytgppmnaidgkboaa
open Go.RowKit Go.Inc

/-- What a crash keeps of a page. -/
structure Kp where
  page : Int
  N : Int
  part : Int
def Kp.wf (k : Kp) : Prop := -9223372036854775808 ≤ k.page ∧ k.page ≤ 9223372036854775807
/-- .. in memory. -/
def Kps (w : World) (b o : Nat) (ks : List Kp) : Prop := ∀ i k, ks[i]? = some k → w.cell? ⟨b, o + i * 3, none⟩ = some (.int .i64 k.page) ∧ w.cell? ⟨b, o + i * 3 + 1, none⟩ = some (.int .i64 k.N) ∧ w.cell? ⟨b, o + i * 3 + 2, none⟩ = some (.int .i64 k.part)
def KpS (ok : Nat → Prop) (w : World) (a : Option Addr) (ks : List Kp) : Prop := (∀ k ∈ ks, k.wf) ∧ (ks = [] ∨ ∃ b o, a = some ⟨b, o, none⟩ ∧ ok b ∧ Kps w b o ks)
theorem Kps.mv {F : Nat → Prop} {w w' : World} {b o : Nat} {ks : List Kp} (h : Kps w b o ks) (hm : Mv F w w') (hF : ¬ F b) : Kps w' b o ks :=
  fun i k hi => let ⟨h1, h2, h3⟩ := h i k hi; ⟨hm.cell h1 hF, hm.cell h2 hF, hm.cell h3 hF⟩
theorem KpS.mv {F : Nat → Prop} {w w' : World} {ok : Nat → Prop} {a : Option Addr} {ks : List Kp} (h : KpS ok w a ks) (hm : Mv F w w') (hF : ∀ b, ok b → ¬ F b) : KpS ok w' a ks :=
  ⟨h.1, h.2.imp id fun ⟨b, o, ha, hb, hk⟩ => ⟨b, o, ha, hb, hk.mv hm (hF b hb)⟩⟩

/-- One Keep: what waits, what is laid, how many survived. -/
def crash1 (s : (Int → List (List Nat)) × List Nat × Nat) (k : Kp) : (Int → List (List Nat)) × List Nat × Nat :=
  (fun y => if y = k.page then [] else s.1 y, keptB s.2.1 k.page.toNat (s.1 k.page) k.N k.part, s.2.2 + keptN (s.1 k.page).length k.N)
def crashAll (S : St) (ks : List Kp) : (Int → List (List Nat)) × List Nat × Nat := ks.foldl crash1 (S.W, S.B, 0)
theorem crashAll_snoc (S : St) {ks : List Kp} {j : Nat} {k : Kp} (h : ks[j]? = some k) : crashAll S (ks.take (j + 1)) = crash1 (crashAll S (ks.take j)) k := by
  obtain ⟨hj, he⟩ := List.getElem?_eq_some_iff.1 h
  unfold crashAll
  rw [List.take_succ_eq_append_getElem hj, List.foldl_append, he]
  rfl

theorem crash_nil (w : World) (a : Option Addr) (l c : Nat) : Calls Try.prog 18 #[.pointer none, .slice a l c] w fun e w' => e = .returned (.int .i64 0) ∧ w = w' := by
  go_enter Try.func18, Try.ntmps18
  go_wp2
  go_ret
  exact ⟨rfl, rfl⟩

set_option maxRecDepth 20000 in
set_option maxHeartbeats 1000000 in
theorem crash_some {C w g L c M f I p n S} (h : DevAt C w g L c M f I p n S) (b o cap : Nat) (ks : List Kp) (hk : Kps w b o ks) (hw : ∀ k ∈ ks, k.wf) (hb : C b = 0) (hn : n ≤ 1000000) (hl : ks.length ≤ 1000) :
    Calls Try.prog 18 #[.pointer (some ⟨g, 0, none⟩), .slice (some ⟨b, o, none⟩) ks.length cap] w fun e w' => e = .returned (.int .i64 ((crashAll S ks).2.2 : Nat)) ∧
      DevAt C w' g L c M noKeys (fun _ => []) p 0 { S with on := false, B := (crashAll S ks).2.1, W := fun _ => [] } ∧ Mv (fun b => C b ≠ 0) w w' := by
  have HD := hid h
  have HK := hid hk
  have HW := hid hw
  have hbL : b ≠ L := by rintro rfl; rw [h.cL] at hb; omega
  have hbM : b ≠ M := by rintro rfl; rw [h.cM] at hb; omega
  clear h hk hw hb
  obtain ⟨m, hm⟩ : ∃ m, m = ks.length := ⟨_, rfl⟩
  rw [← hm] at hl ⊢
  have HMM := hid hm
  clear hm
  go_enter Try.func18, Try.ntmps18
  go_wp2_with fail
  go_loopw [5, 12] (fun s i wr => ∃ (j cn : Nat) (f' : Int → Option Value) (I' : Int → List Item), j ≤ m ∧ i = .int .i64 (j : Int) ∧ s = .int .i64 (cn : Int) ∧ cn = (crashAll S (ks.take j)).2.2 ∧ cn ≤ j * 1000000 ∧
    DevAt C wr g L c M f' I' p n { S with W := (crashAll S (ks.take j)).1, B := (crashAll S (ks.take j)).2.1 } ∧ Mv (fun b => b = L ∨ b = M) w wr) (fun _ i _ => m - (intOf i).toNat)
  case atStart => exact ⟨0, 0, f, I, Nat.zero_le _, rfl, rfl, rfl, Nat.le_refl _, HD.out, Mv.refl _ _⟩
  case round =>
    obtain ⟨j, cn, f', I', hj, rfl, rfl, hcn, hcb, hd, hmv⟩ := hrel
    have HCN := hid hcn
    have HDJ := hid hd
    have HMV := hid hmv
    have hcb2 : (cn : Int) ≤ 1000000000 := by
      have : j * 1000000 ≤ 1000 * 1000000 := Nat.mul_le_mul_right _ (by omega)
      omega
    have hcbh := hid hcb
    clear hcn hd hmv hcb
    by_cases hlt : (j : Int) < m
    · obtain ⟨k, hkj⟩ : ∃ k, ks[j]? = some k := ⟨_, List.getElem?_eq_getElem (by rw [← HMM.out]; omega)⟩
      obtain ⟨q0, q1, q2⟩ := (HK.out.mv HMV.out (by rintro (h | h); exact hbL h; exact hbM h)) j k hkj
      have hwf := HW.out k (List.mem_of_getElem? hkj)
      have HKJ := hid hkj
      obtain ⟨x, N, part⟩ := k
      simp only at q0 q1 q2
      obtain ⟨hx1, hx2⟩ := hwf
      simp only at hx1 hx2
      clear hkj
      obtain ⟨w1, hw1⟩ : ∃ w1, w1 = wr.alloc (.cells #[.int .i64 x, .int .i64 N, .int .i64 part] 68) := ⟨_, rfl⟩
      have hb1 : Below wr.heap.size wr w1 := by rw [hw1]; exact (Below.refl _ _).alloc (Nat.le_refl _) _
      have hd1 := HDJ.out.keep (Mv.of_below (F := fun _ => False) hb1) fun _ h => h.elim
      have hk0 : w1.cell? ⟨wr.heap.size, 0, none⟩ = some (.int .i64 x) := by rw [hw1]; exact cell_of_row _ _ 0 _ _ _ (heap_alloc_new wr _)
      have HS := hid (survive_any hd1 x N part ⟨hx1, hx2⟩ hn)
      have HW1 := hid hw1
      have HM1 := hid (HMV.out.trans (Mv.of_below hb1))
      have hbx : wr.heap.size ≠ L := by have := HDJ.out.lt L (by rw [HDJ.out.cL]; decide); omega
      have hle := keptN_le ((crashAll S (ks.take j)).1 x).length N
      have hle2 : ((crashAll S (ks.take j)).1 x).length ≤ n := by have h1 := hd1.wlen x; have h2 := hd1.few x; simp only at h1; omega
      obtain ⟨kn, hkn⟩ : ∃ kn, kn = keptN ((crashAll S (ks.take j)).1 x).length N := ⟨_, rfl⟩
      rw [← hkn] at hle
      have hkb : (kn : Int) ≤ 1000000 := by omega
      have HKN := hid hkn
      have HS' : Hid (Calls Try.prog 39 #[.pointer (some ⟨g, 0, none⟩), .agg #[.int .i64 x, .int .i64 N, .int .i64 part]] w1 fun e w' => e = .returned (.int .i64 (kn : Int)) ∧
        DevAt C w' g L c M f' I' p n { S with W := (crashAll S (ks.take j)).1, B := keptB (crashAll S (ks.take j)).2.1 x.toNat ((crashAll S (ks.take j)).1 x) N part } ∧ Mv (fun b => b = L) w1 w') := hid (by rw [hkn]; exact HS.out)
      clear hw1 hb1 hd1 HS hkn hle hle2
      go_wp2_with fail
      rw [← HW1.out]
      clear q0 q1 q2
      refine HS'.out.mono ?_
      rintro e w2 ⟨rfl, hd2, hm2⟩
      have k0 : w2.cell? ⟨wr.heap.size, 0, none⟩ = some (.int .i64 x) := hm2.cell hk0 hbx
      have HD2 := hid hd2
      have HM2 := hid (HM1.out.trans (hm2.sub fun b _ h => .inl h))
      have c4 := hd2.row.c4
      clear hd2 hm2 hk0 HS'
      go_wp2_with fail
      go_still_tail 6, mixed
      change wpList _ _ _ _ _ w2.drew
      refine wpList_del _ rfl (.tmp 24) (.tmp 26) 72 3 rfl 46 Try.underlying3 Try.underlying72 M n f' rfl (HD2.out.map.same (w' := w2.drew) rfl) x rfl ⟨hx1, hx2⟩ ?_
      intro w3 hm3 hg3
      have HD3 := hid (HD2.out.remap (I' := fun y => if y = x then [] else I' y) (W := (crashAll S (ks.take (j + 1))).1) (Mv.of_grown (w := w2) (F := fun b => b = M) ⟨hg3.os, hg3.tape, hg3.output, hg3.size, hg3.block⟩ fun g h _ => by cases h; rfl) (fun _ h => h) hm3
        (fun y v hv => by
          unfold del at hv
          by_cases hy : y = x
          · rw [if_pos hy] at hv; cases hv
          · rw [if_neg hy] at hv; exact ⟨hv, by simp only [if_neg hy]⟩)
        (fun y hv => by
          unfold del at hv
          by_cases hy : y = x
          · simp only [if_pos hy]
          · rw [if_neg hy] at hv; simp only [if_neg hy]; exact HD2.out.non y hv)
        (fun y => by
          by_cases hy : y = x
          · simp only [if_pos hy]; exact Nat.zero_le _
          · simp only [if_neg hy]; exact HD2.out.few y)
        (fun y => by
          rw [crashAll_snoc S HKJ.out]
          show (if y = x then [] else _) = _
          by_cases hy : y = x
          · simp only [if_pos hy]; rfl
          · simp only [if_neg hy]; exact HD2.out.wait y))
      have HM3 : Hid (Mv (fun b => b = L ∨ b = M) w w3) := hid (HM2.out.trans (Mv.of_grown (w := w2) ⟨hg3.os, hg3.tape, hg3.output, hg3.size, hg3.block⟩ fun g h _ => by cases h; exact .inr rfl))
      clear hm3 hg3 c4 k0
      go_wp2_with fail
      go_roundw
      case rel =>
        refine ⟨j + 1, cn + kn, del f' x, (fun y => if y = x then [] else I' y), by omega, by go_num, by go_num, ?_, ?_, ?_, HM3.out⟩
        · rw [crashAll_snoc S HKJ.out, HCN.out, HKN.out]; rfl
        · have := hcbh.out; omega
        · have h := HD3.out
          have e : keptB (crashAll S (ks.take j)).2.1 x.toNat ((crashAll S (ks.take j)).1 x) N part = (crashAll S (ks.take (j + 1))).2.1 := by rw [crashAll_snoc S HKJ.out]; rfl
          rw [e] at h
          exact h
      case measure => simp [intOf]; omega
    · have hjm : Hid (j = m) := hid (by omega)
      have hge : (m : Int) ≤ j := by omega
      have c4 := HDJ.out.row.c4
      clear hlt
      go_wp2_with (refine wpList_clear _ rfl (.tmp 31) 72 rfl 3 46 Try.underlying72 M n f' rfl HDJ.out.map ?_)
      intro w1 hm1 hg1
      have hd1 := HDJ.out.cleared hg1 hm1
      have HD1 := hid hd1
      have HG1 := hid hg1
      have H := hid (cut_any w1 g _ _ _ _ _ _ _ _ hd1.row)
      clear hd1 hm1 hg1 c4
      go_wp2_with fail
      refine H.out.mono ?_
      rintro e w2 ⟨rfl, h1, h2⟩
      have hm2 : Mv (fun b => b = g) w1 w2 := Mv.of_grown h2 fun g h _ => by cases h; rfl
      have HD2 := hid (HD1.out.turn hm2 (fun _ h => h) h1 HD1.out.lb HD1.out.cnt)
      have HM2 : Hid (Mv (fun b => C b ≠ 0) w w2) := hid (by
        have hg : C g ≠ 0 := by rw [HD.out.cg]; decide
        have hL : C L ≠ 0 := by rw [HD.out.cL]; decide
        have hMM : C M ≠ 0 := by rw [HD.out.cM]; decide
        exact ((HMV.out.sub fun b _ h => by rcases h with h | h <;> subst h; exact hL; exact hMM).trans (Mv.of_grown HG1.out fun j h _ => by cases h; exact hMM)).trans (hm2.sub fun b _ h => by subst h; exact hg))
      clear h1 h2 hm2 H
      go_wp2_with fail
      go_ret
      have hfull : ks.take j = ks := by rw [hjm.out, HMM.out]; exact List.take_length
      have h1 := HCN.out
      have h2 := HD2.out
      rw [hfull] at h1 h2
      exact ⟨ret_int (by rw [h1]), h2, HM2.out⟩
end Go.Proofs.Ytgppmnaidgkboaa
