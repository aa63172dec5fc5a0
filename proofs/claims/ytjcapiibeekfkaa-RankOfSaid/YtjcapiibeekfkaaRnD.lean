/- CONTRACTS: the directory, once; ranks. -/
import Derived.Test.YtjcapiibeekfkaaRnC
import Derived.Test.YtjcapiibeekfkaaRkO
namespace Go.Inc
open Go.RowKit
theorem rkB_far (m : List Bool) {j : Nat} (h : m.length ≤ j) : rkB m true j = rkB m true m.length := by
  obtain ⟨t, rfl⟩ : ∃ t, j = m.length + t := ⟨j - m.length, by omega⟩
  unfold rkB
  exact cntTo_gap t fun i hi _ => by rw [inB_far hi]; rfl
/-- A row lies where one lay, or in new memory. -/
def OwN (w : World) (u u' : Value) : Prop := ∀ g, u'.ownBlock = some g → u.ownBlock = some g ∨ w.heap.size ≤ g
theorem OwN.refl (w : World) (u : Value) : OwN w u u := fun _ h => .inl h
end Go.Inc
namespace Go.Proofs.Ytjcapiibeekfkaa
open Go.RowKit Go.Inc

/-- A row whose directory was found out. -/
structure RkF (x : World) (b : Nat) (m : List Bool) (v : Value) (W : List Nat) (vb vw : Value) : Prop where
  r : RwR x b m.length v W 1 0 vb vw (dirB m ((W.length + 7) / 8)) (dirW m W.length) (rkB m true m.length)
  wd : WdR W m
  le : m.length ≤ 65536
/-- One whose directory was not. -/
structure RkN (x : World) (b : Nat) (m : List Bool) (v : Value) (W : List Nat) (vb vw : Value) : Prop where
  r : RwR x b m.length v W 0 0 vb vw [] [] 0
  wd : WdR W m
  le : m.length ≤ 65536
  eb : vb = .slice none 0 0
  ew : vw = .slice none 0 0
def RkQ (x : World) (b : Nat) (m : List Bool) (v : Value) (W : List Nat) (vb vw : Value) : Prop := RkF x b m v W vb vw ∨ RkN x b m v W vb vw
theorem RkF.below {x y : World} {b : Nat} {m : List Bool} {v : Value} {W : List Nat} {vb vw : Value} (h : RkF x b m v W vb vw) (hb : Below x.heap.size x y) : RkF y b m v W vb vw := ⟨h.r.below hb, h.wd, h.le⟩
theorem RkQ.mv {F : Nat → Prop} {x y : World} {b : Nat} {m : List Bool} {v : Value} {W : List Nat} {vb vw : Value} (h : RkQ x b m v W vb vw) (hm : Mv F x y) (hF : ∀ i, RwS b v vb vw i → ¬ F i) : RkQ y b m v W vb vw := by
  rcases h with h | h
  · exact .inl ⟨h.r.mv hm hF, h.wd, h.le⟩
  · exact .inr ⟨h.r.mv hm hF, h.wd, h.le, h.eb, h.ew⟩
theorem RkQ.below {x y : World} {b : Nat} {m : List Bool} {v : Value} {W : List Nat} {vb vw : Value} (h : RkQ x b m v W vb vw) (hb : Below x.heap.size x y) : RkQ y b m v W vb vw := h.mv (F := fun _ => False) (Mv.of_below hb) fun _ _ => id
theorem RkQ.c0 {x : World} {b : Nat} {m : List Bool} {v : Value} {W : List Nat} {vb vw : Value} (h : RkQ x b m v W vb vw) : x.cell? ⟨b, 0, none⟩ = some (.int .i64 (m.length : Int)) := by rcases h with h | h <;> exact h.r.c0
theorem RkQ.wd {x : World} {b : Nat} {m : List Bool} {v : Value} {W : List Nat} {vb vw : Value} (h : RkQ x b m v W vb vw) : WdR W m := by rcases h with h | h <;> exact h.wd
theorem RkQ.le {x : World} {b : Nat} {m : List Bool} {v : Value} {W : List Nat} {vb vw : Value} (h : RkQ x b m v W vb vw) : m.length ≤ 65536 := by rcases h with h | h <;> exact h.le
theorem RkQ.lt {x : World} {b : Nat} {m : List Bool} {v : Value} {W : List Nat} {vb vw : Value} (h : RkQ x b m v W vb vw) : ∀ i, RwS b v vb vw i → i < x.heap.size := by rcases h with h | h <;> exact h.r.lt
/-- What finding out does: the row is as it was, its directory where it was, or new. -/
def Fnd (x : World) (b : Nat) (m : List Bool) (v : Value) (W : List Nat) (vb vw : Value) (y : World) : Prop := ∃ vb' vw', RkF y b m v W vb' vw' ∧ OwN x vb vb' ∧ OwN x vw vw' ∧ Mv (fun i => i = b) x y
theorem Fnd.below {x y z : World} {b : Nat} {m : List Bool} {v : Value} {W : List Nat} {vb vw : Value} (h : Fnd x b m v W vb vw y) (hb : Below y.heap.size y z) : Fnd x b m v W vb vw z := by
  obtain ⟨vb', vw', h1, h2, h3, h4⟩ := h
  exact ⟨vb', vw', h1.below hb, h2, h3, h4.trans (Mv.of_below hb)⟩
theorem rDir_found (x : World) (b : Nat) (m : List Bool) (v : Value) (W : List Nat) (vb vw : Value) (h : RkF x b m v W vb vw) :
    Calls Try.prog 42 #[.pointer (some ⟨b, 0, none⟩)] x fun e w' => e = .returned (.pointer (some ⟨b, 5, none⟩)) ∧ w' = x := by
  have HO := hid (once_done ⟨b, 2, none⟩ (.func (.func 50) #[.pointer (some ⟨b, 0, none⟩)] #[]) x h.r.c2)
  clear h
  go_enter Try.func42, Try.ntmps42
  go_wp2_with fail
  refine HO.out.mono ?_
  rintro e w1 ⟨rfl, rfl⟩
  go_wp2_with fail
  go_ret
  exact ⟨rfl, rfl⟩
theorem rDir_new (x : World) (b : Nat) (m : List Bool) (v : Value) (W : List Nat) (vb vw : Value) (h : RkN x b m v W vb vw) :
    Calls Try.prog 42 #[.pointer (some ⟨b, 0, none⟩)] x fun e w' => e = .returned (.pointer (some ⟨b, 5, none⟩)) ∧ Fnd x b m v W vb vw w' := by
  obtain ⟨hr, hwd, hle, rfl, rfl⟩ := h
  have hr1 : RwR (x.setCell ⟨b, 3, none⟩ (.int .i32 1)) b m.length v W 0 1 (.slice none 0 0) (.slice none 0 0) [] [] 0 := ⟨hr.box' 3 _, hr.row' 3 _, hr.blk' 3 _, hr.wrd' 3 _, .inl rfl⟩
  have hm1 : Mv (fun i => i = b) x (x.setCell ⟨b, 3, none⟩ (.int .i32 1)) := mv_setCell (Mv.refl (fun i => i = b) x) rfl _
  have HF := rCount_any _ b 0 1 v W m hr1 hwd hle
  have HO := hid (once_first b 2 (.pointer (some ⟨b, 0, none⟩)) x (fun w2 => ∃ vb vw, CtR (x.setCell ⟨b, 3, none⟩ (.int .i32 1)) b m.length v W 0 1 vb vw (dirB m ((W.length + 7) / 8)) (dirW m W.length) (rkB m true (64 * W.length)) w2) hr.c2 hr.c3 (hr.fz 3) HF
    (fun w2 h2 => by obtain ⟨vb, vw, h2⟩ := h2; exact ⟨h2.r.c2, h2.r.c3, h2.r.fz 2, h2.r.fz 3⟩))
  have HFIN : Hid (∀ w2 vb vw, CtR (x.setCell ⟨b, 3, none⟩ (.int .i32 1)) b m.length v W 0 1 vb vw (dirB m ((W.length + 7) / 8)) (dirW m W.length) (rkB m true (64 * W.length)) w2 → Fnd x b m v W (.slice none 0 0) (.slice none 0 0) ((w2.drew.setCell ⟨b, 2, none⟩ (.int .u32 1)).setCell ⟨b, 2 + 1, none⟩ (.int .i32 0))) := hid fun w2 vb vw h2 => by
    have h3 := h2.below (Below.refl _ _).drew
    rw [rkB_far m (show m.length ≤ 64 * W.length from by have := hwd.len; omega)] at h3
    have h4 : RwR (w2.drew.setCell ⟨b, 2, none⟩ (.int .u32 1)) b m.length v W 1 1 vb vw (dirB m ((W.length + 7) / 8)) (dirW m W.length) (rkB m true m.length) := ⟨h3.r.box' 2 _, h3.r.row' 2 _, h3.r.blk' 2 _, h3.r.wrd' 2 _, h3.r.ap⟩
    have h5 : RwR ((w2.drew.setCell ⟨b, 2, none⟩ (.int .u32 1)).setCell ⟨b, 3, none⟩ (.int .i32 0)) b m.length v W 1 0 vb vw (dirB m ((W.length + 7) / 8)) (dirW m W.length) (rkB m true m.length) := ⟨h4.box' 3 _, h4.row' 3 _, h4.blk' 3 _, h4.wrd' 3 _, h3.r.ap⟩
    refine ⟨vb, vw, ⟨h5, hwd, hle⟩, fun g hg => .inr ?_, fun g hg => .inr ?_, mv_setCell (mv_setCell (hm1.trans h3.mv : Mv (fun i => i = b) x w2.drew) rfl _ : Mv (fun i => i = b) x _) rfl _⟩
    · have := h2.ob g hg; rwa [World.size_setCell] at this
    · have := h2.ow g hg; rwa [World.size_setCell] at this
  clear HF hr hr1 hm1 hwd hle
  go_enter Try.func42, Try.ntmps42
  go_wp2_with fail
  refine HO.out.mono ?_
  rintro e w1 ⟨rfl, w2, ⟨vb, vw, h2⟩, rfl⟩
  have HFF := hid (HFIN.out w2 vb vw h2)
  generalize ((w2.drew.setCell ⟨b, 2, none⟩ (.int .u32 1)).setCell ⟨b, 2 + 1, none⟩ (.int .i32 0)) = w3 at *
  clear h2 HFIN HO
  go_wp2_with fail
  go_ret
  exact ⟨rfl, HFF.out⟩
theorem rDir_any (x : World) (b : Nat) (m : List Bool) (v : Value) (W : List Nat) (vb vw : Value) (h : RkQ x b m v W vb vw) :
    Calls Try.prog 42 #[.pointer (some ⟨b, 0, none⟩)] x fun e w' => e = .returned (.pointer (some ⟨b, 5, none⟩)) ∧ Fnd x b m v W vb vw w' := by
  rcases h with h | h
  · refine (rDir_found x b m v W vb vw h).mono ?_
    rintro e w' ⟨h1, rfl⟩
    exact ⟨h1, vb, vw, h, OwN.refl _ _, OwN.refl _ _, Mv.refl _ _⟩
  · exact rDir_new x b m v W vb vw h
set_option maxRecDepth 20000 in
/-- Ranks of ones, whatever finding out the directory does. -/
theorem rOnes_of (x : World) (b i : Nat) (m : List Bool) (v : Value) (W : List Nat) (Post : World → Value → Value → Prop) (hi : i ≤ m.length)
    (hd : Calls Try.prog 42 #[.pointer (some ⟨b, 0, none⟩)] x fun e w' => e = .returned (.pointer (some ⟨b, 5, none⟩)) ∧ ∃ vb vw, RkF w' b m v W vb vw ∧ Post w' vb vw) :
    Calls Try.prog 45 #[.pointer (some ⟨b, 0, none⟩), .int .i64 (i : Int)] x fun e w' => e = .returned (.int .i64 ((rkB m true i : Nat) : Int)) ∧ ∃ w1 vb vw, RkF w1 b m v W vb vw ∧ Post w1 vb vw ∧ ∃ j, w' = w1.drewN j := by
  have HD := hid hd
  obtain ⟨q, hq⟩ : ∃ q, q = i / 64 := ⟨_, rfl⟩
  obtain ⟨o, ho⟩ : ∃ o, o = i % 64 := ⟨_, rfl⟩
  obtain ⟨q8, hq8⟩ : ∃ q8, q8 = i / 512 := ⟨_, rfl⟩
  have hqi : (i : Int) / 64 = (q : Int) := by omega
  have hqt : Int.tdiv (i : Int) 64 = (q : Int) := by rw [Int.tdiv_eq_ediv_of_nonneg (by omega)]; exact hqi
  have hoi : (i : Int) % 64 = (o : Int) := by omega
  have hot : Int.tmod (i : Int) 64 = (o : Int) := by rw [Int.tmod_eq_emod_of_nonneg (by omega)]; exact hoi
  have hob : (o : Int) < 64 := by omega
  have h8i : (i : Int) / 512 = (q8 : Int) := by omega
  have h8t : Int.tdiv (i : Int) 512 = (q8 : Int) := by rw [Int.tdiv_eq_ediv_of_nonneg (by omega)]; exact h8i
  have HQ := hid hq
  have HOO := hid ho
  have HQ8 := hid hq8
  have HI := hid hi
  obtain ⟨R, hR⟩ : ∃ R, R = rkB m true i := ⟨_, rfl⟩
  have HR := hid hR
  rw [← hR]
  clear hd hq ho hq8 hi hR
  go_enter Try.func45, Try.ntmps45
  go_wp2_with fail
  refine HD.out.mono ?_
  rintro e w1 ⟨rfl, vb, vw, hf, hp⟩
  have HF := hid hf
  have HP := hid hp
  obtain ⟨a, c, rfl⟩ := own_slice hf.r.row
  have k1 := hf.r.c1
  have k7 := hf.r.c7
  have hwl := hf.wd.len
  have hle := hf.le
  obtain ⟨nw, hnw⟩ : ∃ nw, nw = W.length := ⟨_, rfl⟩
  rw [← hnw] at k1
  by_cases hend : q = nw
  · have hqe : ((q : Int) == (nw : Int)) = true := by simp [hend]
    have HALL : Hid (rkB m true m.length = R) := hid (by rw [HR.out]; congr 1; have := HQ.out; have := HI.out; omega)
    rw [HALL.out] at k7
    have hqw : IntKind.i64.wrap (q : Int) = (q : Int) := by rw [IntKind.wrap_i64]; have := HQ.out; have := HI.out; omega
    clear hf hp hwl hle hnw hend
    go_wp2_with fail
    go_ret
    exact ⟨rfl, w1, vb, vw, HF.out, HP.out, 0, rfl⟩
  · have hqe : ((q : Int) == (nw : Int)) = false := by simp; omega
    have hqn : (q : Int) < (nw : Int) := by have := HQ.out; have := HI.out; omega
    have hqw : IntKind.i64.wrap (q : Int) = (q : Int) := by rw [IntKind.wrap_i64]; have := HQ.out; have := HI.out; omega
    have h8w : IntKind.i64.wrap (q8 : Int) = (q8 : Int) := by rw [IntKind.wrap_i64]; have := HQ8.out; have := HI.out; omega
    have hDl : (dirB m ((W.length + 7) / 8)).length = (W.length + 7) / 8 := dirB_len _ _
    have hEl : (dirW m W.length).length = W.length := dirW_len _ _
    have hsum := dir_sum m (q := q) (t := (W.length + 7) / 8) (u := W.length) (by omega) (by omega)
    have hq88 : q / 8 = q8 := by have := HQ.out; have := HQ8.out; omega
    rw [hq88] at hsum
    have hrk := hf.wd.rank_mask (j := q) (s := o) (by omega)
    rw [← hsum, show 64 * q + o = i from by have := HQ.out; have := HOO.out; omega, ← HR.out] at hrk
    obtain ⟨gb, cb, rfl, -, -⟩ := own_here hf.r.blk (by omega)
    obtain ⟨gw, cw, rfl, -, -⟩ := own_here hf.r.wrd (by omega)
    obtain ⟨g, c', he, -, -⟩ := own_here hf.r.row (by omega)
    simp only [Value.slice.injEq] at he
    obtain ⟨rfl, -, rfl⟩ := he
    have k2 := hf.r.word (q := q) (by omega)
    have k5 := hf.r.c5
    have k6 := hf.r.c6
    have kb : w1.cell? ⟨gb, q8, none⟩ = some (.int .i64 (((dirB m ((W.length + 7) / 8)).getD q8 0 : Nat) : Int)) := by
      have hc := hf.r.blk.cells (g := gb) rfl q8 _ (nvals_get (by omega))
      rw [Addr.add_lit] at hc
      simpa only [Nat.zero_add] using hc
    have kw : w1.cell? ⟨gw, q, none⟩ = some (.int .i64 (((dirW m W.length).getD q 0 : Nat) : Int)) := by
      have hc := hf.r.wrd.cells (g := gw) rfl q _ (nvals_get (by omega))
      rw [Addr.add_lit] at hc
      simpa only [Nat.zero_add] using hc
    have hzl := hf.wd.get_lt q
    obtain ⟨d1, hd1⟩ : ∃ d1, d1 = (dirB m ((W.length + 7) / 8)).getD q8 0 := ⟨_, rfl⟩
    obtain ⟨d2, hd2⟩ : ∃ d2, d2 = (dirW m W.length).getD q 0 := ⟨_, rfl⟩
    obtain ⟨z, hz⟩ : ∃ z, z = W.getD q 0 := ⟨_, rfl⟩
    rw [← hd1] at kb hrk
    rw [← hd2] at kw hrk
    rw [← hz] at k2 hzl hrk
    rw [hDl] at k5
    rw [hEl, ← hnw] at k6
    obtain ⟨nb, hnb⟩ : ∃ nb, nb = (W.length + 7) / 8 := ⟨_, rfl⟩
    rw [← hnb] at k5
    have h8n : (q8 : Int) < (nb : Int) := by omega
    obtain ⟨p, hpp⟩ : ∃ p, p = 2 ^ o := ⟨_, rfl⟩
    have hpl : p < 18446744073709551616 := by rw [hpp, HOO.out]; exact pow_lt64 i
    have hp0 : 0 < p := by rw [hpp]; exact Nat.two_pow_pos o
    obtain ⟨p1, hp1⟩ : ∃ p1, p1 = p - 1 := ⟨_, rfl⟩
    rw [← hpp, ← hp1] at hrk
    obtain ⟨y, hy⟩ : ∃ y, y = z &&& p1 := ⟨_, rfl⟩
    rw [← hy] at hrk
    have hyl : y < 18446744073709551616 := by rw [hy]; exact and_lt64 hzl _
    obtain ⟨cn, hcn⟩ : ∃ cn, cn = popN y 64 := ⟨_, rfl⟩
    rw [← hcn] at hrk
    have f1 : (2 : Int) ^ o = (p : Int) := by rw [hpp]; simp
    have f2 : IntKind.u64.wrap (p : Int) = (p : Int) := wrap_nat hpl
    have f3 : (p : Int) - 1 = (p1 : Int) := by omega
    have f4 : IntKind.u64.wrap (p1 : Int) = (p1 : Int) := wrap_nat (by omega)
    have f5 : bits .and .u64 (z : Int) (p1 : Int) = (y : Int) := by rw [u64_and_nat z p1 hzl (by omega), hy]
    obtain ⟨s, hs⟩ : ∃ s, s = d1 + d2 := ⟨_, rfl⟩
    have hRb : R ≤ 65536 := by rw [HR.out]; have := rkB_le m true i; have := HI.out; omega
    have f6 : (d1 : Int) + (d2 : Int) = (s : Int) := by omega
    have f7 : IntKind.i64.wrap (s : Int) = (s : Int) := by rw [IntKind.wrap_i64]; omega
    have f8 : (s : Int) + (cn : Int) = (R : Int) := by omega
    have f9 : IntKind.i64.wrap (R : Int) = (R : Int) := by rw [IntKind.wrap_i64]; omega
    have hon : ∀ z' : World, Calls Try.prog 54 #[.int .u64 (y : Int)] z' fun e w' => e = .returned (.int .i64 (cn : Int)) ∧ w' = z' := fun z' => by rw [hcn]; exact (ones_any y z' hyl).mono fun _ _ h => ⟨h.1, h.2.symm⟩
    have l1 : ∀ n', Calls Try.prog 54 #[.int .u64 (y : Int)] (w1.drewN n') fun e w' => e = .returned (.int .i64 (cn : Int)) ∧ ∃ m, w' = w1.drewN m := fun n' => Calls.quiet_of_same (hon (w1.drewN n'))
    clear hon
    clear hf hp hwl hle hnw hend hDl hEl hsum hq88 hrk hzl hd1 hd2 hz hnb hpp hpl hp0 hp1 hy hyl hcn hs hRb
    go_wp2_with fail
    go_quiet (with_reducible exact l1 _)
    go_wp2_with fail
    go_ret
    exact ⟨rfl, w1, _, _, HF.out, HP.out, _, rfl⟩
end Go.Proofs.Ytjcapiibeekfkaa
