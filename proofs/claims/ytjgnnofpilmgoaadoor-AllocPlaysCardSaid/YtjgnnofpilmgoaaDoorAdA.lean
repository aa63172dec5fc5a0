/- CONTRACTS: the document's allocator: All, right, twice, turn, Commit, Abort. -/
import Derived.Test.YtjgnnofpilmgoaaDoorAlF
namespace Go.Proofs.YtjgnnofpilmgoaaDoor
open Go.RowKit Go.Inc

/-- The document's allocator lies there: of each page its kind. -/
def Dk (w : World) (g : Nat) (ks : List Nat) : Prop := w.ownsRow g 3 1 (.slice (some ⟨g, 0, none⟩) ks.length ks.length) ks.length (nvals ks)
theorem own_self {W : World} {B e n c k : Nat} {g : Nat} {x : List Value} (h : W.ownsRow B e 1 (.slice (some ⟨g, 0, none⟩) n c) k x) : W.ownsRow g e 1 (.slice (some ⟨g, 0, none⟩) n c) k x :=
  ⟨h.1, h.2.imp id fun ⟨g', cap, cur, h1, _, r⟩ => ⟨g', cap, cur, h1, (by cases h1; exact Nat.le_refl _), r⟩⟩
section
variable {w w' : World} {g : Nat} {ks : List Nat}
theorem nvals_kd {i : Nat} (h : i < ks.length) : (nvals ks)[i]? = some (.int .i64 ((kd ks i : Nat) : Int)) := nvals_get h
theorem nvals_set (i k : Nat) : (nvals ks).set i (.int .i64 (k : Int)) = nvals (ks.set i k) := by simp [nvals, List.map_set]
theorem Dk.cell (h : Dk w g ks) {i : Nat} (hi : i < ks.length) : w.cell? ⟨g, i, none⟩ = some (.int .i64 ((kd ks i : Nat) : Int)) := by
  have hc := World.ownsRow.cells (g := g) h rfl i _ (nvals_kd hi)
  rw [Addr.add_lit] at hc
  simpa only [Nat.zero_add] using hc
theorem Dk.fz (h : Dk w g ks) (i : Nat) : w.frozen? ⟨g, i, none⟩ = false := World.ownsRow.frozenAt h i
theorem Dk.mv {F : Nat → Prop} (h : Dk w g ks) (hm : Mv F w w') (hg : ¬ F g) : Dk w' g ks := owns_mv h hm (fun i hi hf => by
  have : g = i := by simpa [Value.ownBlock] using hi
  subst this; exact hg hf)
theorem Dk.below (h : Dk w g ks) (hb : Below w.heap.size w w') : Dk w' g ks := h.mv (F := fun _ => False) (Mv.of_below hb) id
theorem Dk.put (h : Dk w g ks) (i k : Nat) : Dk (w.setCell ⟨g, i, none⟩ (.int .i64 (k : Int))) g (ks.set i k) := by
  have hst := (World.ownsRow.stored h i (.int .i64 (k : Int)))
  unfold Dk
  rw [List.length_set, ← nvals_set]
  exact hst.1
theorem Dk.lt (h : Dk w g ks) (h0 : 0 < ks.length) : g < w.heap.size := cell_lt (h.cell h0)
end
theorem si_cell {okz : Nat → Prop} {w : World} {a : Option Addr} {zs : List Int} (h : Si okz w a zs) {k : Nat} (hk : k < zs.length) : ∃ b o, a = some ⟨b, o, none⟩ ∧ w.cell? ⟨b, o + k, none⟩ = some (.int .i64 (zs.getD k 0)) := by
  rcases h with h | ⟨b, o, h, _, hc⟩
  · rw [h] at hk; simp at hk
  · exact ⟨b, o, h, hc k hk⟩
theorem own_base' {W : World} {B e s n : Nat} {v : Value} {x : List Value} (h : W.ownsRow B e s v n x) {g : Nat} (hg : v.ownBlock = some g) : B ≤ g := by
  rcases h.2 with ⟨rfl, _⟩ | ⟨g', cap, cur, rfl, hb, _⟩
  · simp [Value.ownBlock] at hg
  · obtain rfl : g' = g := by simpa [Value.ownBlock] using hg
    exact hb
/-- Of this kind. -/
def eqK (k : Nat) (x : Nat) : Bool := decide (x = k)
set_option maxHeartbeats 2000000 in
theorem dAll_any (g : Nat) (ks : List Nat) (kk : Nat) (w : World) (h : Dk w g ks) (hl : (ks.length : Int) ≤ 2048) :
    Calls Tryd.prog 32 #[.slice (some ⟨g, 0, none⟩) ks.length ks.length, .int .i64 (kk : Int)] w fun r w' => (∃ v, r = .returned v ∧ w'.ownsRow w.heap.size 3 1 v (pagesK (eqK kk) ks).length (nvals (pagesK (eqK kk) ks))) ∧ Below w.heap.size w w' := by
  have HM := hid h
  obtain ⟨n, hn⟩ : ∃ n, n = ks.length := ⟨_, rfl⟩
  have HN := hid hn
  rw [← hn] at hl ⊢
  clear h hn
  go_enter Tryd.func32, Tryd.ntmps32
  go_wp2_with fail
  go_loopw [5, 6] (fun v i wr => ∃ k : Nat, k ≤ n ∧ i = .int .i64 (k : Int) ∧ wr.ownsRow w.heap.size 3 1 v (cntTo (fun i => eqK kk (kd ks i)) k) (nvals (numsTo (fun i => eqK kk (kd ks i)) k)) ∧ Below w.heap.size w wr) (fun _ i _ => n - (intOf i).toNat)
  case atStart => exact ⟨0, Nat.zero_le _, rfl, World.ownsRow_nil _ _ _ _, Below.refl _ _⟩
  case round =>
    obtain ⟨k, hk, rfl, hv, hb⟩ := hrel
    have HV := hid hv
    have HB := hid hb
    clear hv hb
    by_cases hlt : (k : Int) < n
    · have hc := (HM.out.below HB.out).cell (i := k) (by have := HN.out; omega)
      have hkn : (k < n) = True := eq_true (by omega)
      by_cases hb : kd ks k = kk
      · have HT := hid (And.intro (numsTo_in (f := fun i => eqK kk (kd ks i)) (k := k) (by simp [eqK, hb])) (cntTo_in (f := fun i => eqK kk (kd ks i)) (k := k) (by simp [eqK, hb])))
        have hlen : cntTo (fun i => eqK kk (kd ks i)) k ≤ k := numsTo_len _ _
        rw [hb] at hc
        clear hb
        go_wp2_with (refine wpList_append_any rfl (.tmp 19) (.tmp 21) 22 rfl w.heap.size 3 (.int .i64 0) 8 Tryd.underlying22 infoInt rfl _ _ _ rfl (HV.out.alloc _) (some ⟨wr.heap.size, 0, none⟩) 1 1 _ rfl rfl (by intro h; cases h) (one_new wr _ _) (by simp [Value.oneCell']) (by unfold maxLen; omega) (by omega) (by have := HB.out.size; simp; omega) ?_)
        intro v4 w4 hv4 hg4 _
        have HB4 : Hid (Below w.heap.size w w4) := hid (below_owned (w0 := w) (HB.out.alloc HB.out.size _) (HV.out.alloc _) (Nat.le_refl _) hg4)
        have HV4 : Hid (w4.ownsRow w.heap.size 3 1 v4 (cntTo (fun i => eqK kk (kd ks i)) (k + 1)) (nvals (numsTo (fun i => eqK kk (kd ks i)) (k + 1)))) := hid (by rw [HT.out.1, HT.out.2, nvals_snoc]; exact hv4)
        clear hv4 hg4 HV HB
        go_wp2_with fail
        go_roundw
        case rel => exact ⟨k + 1, by omega, by go_num, HV4.out, HB4.out⟩
        case measure => simp [intOf]; omega
      · have HT := hid (And.intro (numsTo_out (f := fun i => eqK kk (kd ks i)) (k := k) (by simp [eqK, hb])) (cntTo_out (f := fun i => eqK kk (kd ks i)) (k := k) (by simp [eqK, hb])))
        have hne : (((kd ks k : Nat) : Int) == (kk : Int)) = false := by rw [beq_eq_false_iff_ne]; omega
        clear hb
        go_wp2_with fail
        go_roundw
        case rel => exact ⟨k + 1, by omega, by go_num, by rw [HT.out.1, HT.out.2]; exact HV.out, HB.out⟩
        case measure => simp [intOf]; omega
    · have hkf : (k < n) = False := eq_false (by omega)
      have HKN : Hid (k = n) := hid (by omega)
      clear hlt
      go_wp2_with fail
      go_ret
      refine ⟨⟨_, rfl, ?_⟩, HB.out⟩
      unfold pagesK
      rw [← HN.out, ← HKN.out]
      exact HV.out
set_option maxHeartbeats 2000000 in
theorem dRight_any (okz : Nat → Prop) (av : Option Addr) (N ca : Nat) (a : Option Addr) (cz : Nat) (zs : List Int) (w : World) (hz : Si okz w a zs) (hl : (zs.length : Int) ≤ 9223372036854775807) :
    Calls Tryd.prog 34 #[.slice av N ca, .slice a zs.length cz] w fun r w' => r = .returned (.bool (!outR N zs)) ∧ Below w.heap.size w w' := by
  have HZ := hid hz
  obtain ⟨n, hn⟩ : ∃ n, n = zs.length := ⟨_, rfl⟩
  have HN := hid hn
  rw [← hn] at hl ⊢
  clear hz hn
  go_enter Tryd.func34, Tryd.ntmps34
  go_wp2_with fail
  go_loopw [5] (fun i wr => ∃ k : Nat, k ≤ n ∧ i = .int .i64 (k : Int) ∧ (∀ z ∈ zs.take k, 2 ≤ z ∧ z < (N : Int)) ∧ Below w.heap.size w wr) (fun i _ => n - (intOf i).toNat)
  case atStart => exact ⟨0, Nat.zero_le _, rfl, by simp, Below.refl _ _⟩
  case round =>
    obtain ⟨k, hk, rfl, hin, hb⟩ := hrel
    have HIN := hid hin
    have HB := hid hb
    clear hin hb
    by_cases hlt : (k : Int) < n
    · obtain ⟨b, o, rfl, hck⟩ := si_cell (HZ.out.below HB.out) (k := k) (by have := HN.out; omega)
      have HSN := hid (takeI_snoc (bs := zs) (k := k) (by have := HN.out; omega))
      have HM := hid (getD_mem (zs := zs) (k := k) (by have := HN.out; omega))
      obtain ⟨x, hx⟩ : ∃ x, x = zs.getD k 0 := ⟨_, rfl⟩
      rw [← hx] at hck HSN HM
      have hkn : (k < n) = True := eq_true (by omega)
      clear hx
      by_cases hx2 : x < 2
      · have HO : Hid (outR N zs = true) := hid (outR_true HM.out (.inl hx2))
        go_wp2_with fail
        go_ret
        exact ⟨by rw [HO.out]; rfl, HB.out⟩
      have hx3 : (2 : Int) ≤ x := by omega
      clear hx2
      by_cases hxN : (N : Int) ≤ x
      · have HO : Hid (outR N zs = true) := hid (outR_true HM.out (.inr hxN))
        go_wp2_with fail
        go_ret
        exact ⟨by rw [HO.out]; rfl, HB.out⟩
      have hxN2 : x < (N : Int) := by omega
      clear hxN
      go_wp2_with fail
      go_roundw
      case rel => exact ⟨k + 1, by omega, by go_num, by rw [HSN.out]; intro z hz; rcases mem_snoc.1 hz with h | h; exact HIN.out z h; subst h; omega, HB.out⟩
      case measure => simp [intOf]; omega
    · have hkf : (k < n) = False := eq_false (by omega)
      have HKN : Hid (k = n) := hid (by omega)
      have HO : Hid (outR N zs = false) := hid (outR_false.2 (by have h := HIN.out; rw [HKN.out, HN.out, List.take_length] at h; exact h))
      clear hlt
      go_wp2_with fail
      go_ret
      exact ⟨by rw [HO.out]; rfl, HB.out⟩
set_option maxHeartbeats 2000000 in
theorem dTwice_any (okz : Nat → Prop) (a : Option Addr) (cz : Nat) (zs : List Int) (w : World) (hz : Si okz w a zs) (hl : (zs.length : Int) ≤ 9223372036854775807) :
    Calls Tryd.prog 35 #[.slice a zs.length cz] w fun r w' => r = .returned (.bool (!decide zs.Nodup)) ∧ Below w.heap.size w w' := by
  have HZ := hid hz
  obtain ⟨n, hn⟩ : ∃ n, n = zs.length := ⟨_, rfl⟩
  have HN := hid hn
  rw [← hn] at hl ⊢
  clear hz hn
  go_enter Tryd.func35, Tryd.ntmps35
  go_wp2_with fail
  go_loopw [3] (fun i wr => ∃ k : Nat, k ≤ n ∧ i = .int .i64 (k : Int) ∧ (zs.take k).Nodup ∧ Below w.heap.size w wr) (fun i _ => n - (intOf i).toNat)
  case atStart => exact ⟨0, Nat.zero_le _, rfl, by simp, Below.refl _ _⟩
  case round =>
    obtain ⟨k, hk, rfl, hin, hb⟩ := hrel
    have HIN := hid hin
    have HB := hid hb
    clear hin hb
    obtain ⟨wj, hwj⟩ : ∃ wj, wj = wr := ⟨_, rfl⟩
    subst hwj
    by_cases hlt : (k : Int) < n
    · have HSN := hid (takeI_snoc (bs := zs) (k := k) (by have := HN.out; omega))
      have hkn : (k < n) = True := eq_true (by omega)
      go_wp2_with fail
      go_loopw [4] (fun i wr => ∃ j : Nat, j ≤ k ∧ i = .int .i64 (j : Int) ∧ zs.getD k 0 ∉ zs.take j ∧ Below w.heap.size w wr) (fun i _ => k - (intOf i).toNat)
      case atStart => exact ⟨0, Nat.zero_le _, rfl, by simp, HB.out⟩
      case round =>
        clear HB
        obtain ⟨j, hj, rfl, hno, hb⟩ := hrel
        have HNO := hid hno
        have HB := hid hb
        clear hno hb
        by_cases hjk : (j : Int) < k
        · obtain ⟨b, o, rfl, hcj⟩ := si_cell (HZ.out.below HB.out) (k := j) (by have := HN.out; omega)
          obtain ⟨b2, o2, hab, hck⟩ := si_cell (HZ.out.below HB.out) (k := k) (by have := HN.out; omega)
          cases hab
          have HSJ := hid (takeI_snoc (bs := zs) (k := j) (by have := HN.out; omega))
          obtain ⟨x, hx⟩ : ∃ x, x = zs.getD k 0 := ⟨_, rfl⟩
          obtain ⟨y, hy⟩ : ∃ y, y = zs.getD j 0 := ⟨_, rfl⟩
          rw [← hx] at hck HSN HNO
          rw [← hy] at hcj HSJ
          have HX := hid hx
          have hjkn : (j < k) = True := eq_true (by omega)
          have hjn : (j < n) = True := eq_true (by omega)
          have hjn2 : (j : Int) < (n : Int) := by omega
          clear hx hy
          by_cases hxy : y = x
          · have hq : (y == x) = true := by rw [beq_iff_eq]; exact hxy
            have HO : Hid (decide zs.Nodup = false) := hid (decide_eq_false (not_nodup_take (k := k + 1) (by
              rw [HSN.out, nodup_snoc]
              intro h
              refine h.2 ?_
              have hm : y ∈ zs.take (j + 1) := by rw [HSJ.out, mem_snoc]; exact .inr rfl
              have hle : zs.take (j + 1) <+: zs.take k := (List.prefix_take_le_iff (by have := HN.out; omega)).2 (by omega)
              rw [← hxy]
              exact hle.subset hm)))
            clear hxy
            go_wp2_with fail
            go_quiet (fail)
            go_wp2_with fail
            go_ret
            exact ⟨by rw [HO.out]; rfl, HB.out.trans ((below_drewN _ _).mono HB.out.size)⟩
          · have hq : (y == x) = false := by rw [beq_eq_false_iff_ne]; exact hxy
            have HXY := hid hxy
            clear hxy
            go_wp2_with fail
            go_quiet (fail)
            go_wp2_with fail
            go_roundw
            case rel => exact ⟨j + 1, by omega, by go_num, by rw [← HX.out, HSJ.out, mem_snoc]; rintro (h | h); exact HNO.out h; exact HXY.out h.symm, HB.out.trans ((below_drewN _ _).mono HB.out.size)⟩
            case measure => simp [intOf]; omega
        · have hjf : (j < k) = False := eq_false (by omega)
          have HJK : Hid (j = k) := hid (by omega)
          clear hjk
          go_wp2_with fail
          go_roundw
          case rel => exact ⟨k + 1, by omega, by go_num, by rw [HSN.out, nodup_snoc]; exact ⟨HIN.out, by have h := HNO.out; rw [HJK.out] at h; exact h⟩, HB.out⟩
          case measure => simp [intOf]; omega
    · have hkf : (k < n) = False := eq_false (by omega)
      have HKN : Hid (k = n) := hid (by omega)
      have HO : Hid (decide zs.Nodup = true) := hid (decide_eq_true (by have h := HIN.out; rw [HKN.out, HN.out, List.take_length] at h; exact h))
      clear hlt
      go_wp2_with fail
      go_ret
      exact ⟨by rw [HO.out]; rfl, HB.out⟩
end Go.Proofs.YtjgnnofpilmgoaaDoor
