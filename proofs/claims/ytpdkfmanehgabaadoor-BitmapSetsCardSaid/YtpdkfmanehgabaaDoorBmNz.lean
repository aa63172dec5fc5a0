/- THE LAW BitmapNil: the walk. -/
import Derived.Test.YtpdkfmanehgabaaDoorBmLaid
namespace Go.Proofs.YtpdkfmanehgabaaDoor
open Go.RowKit Go.Inc

theorem bm_nil (ok : Nat → Prop) (w : World) : Bm ok w (.pointer none) [] := .inl ⟨rfl, rfl⟩
theorem copy_post_nil {B : Nat} {v x : Value} {w : World} {m : List Bool} (hm : m.length = 0) (h : CopyPost B v m w x) : x = .pointer none := by
  rcases h with ⟨_, _, h⟩ | ⟨b, g, c, W, _, _, _, h, _⟩
  · exact h
  · have := h.s1; omega
theorem copy_post_some {B : Nat} {v x : Value} {w : World} {m : List Bool} (hm : 0 < m.length) (h : CopyPost B v m w x) : NewSet B w x m := by
  rcases h with ⟨_, h, _⟩ | h
  · rw [h] at hm; simp at hm
  · exact h
theorem si_one (w : World) (z : Int) (T : TypeId) : Si (fun b => b = w.heap.size) (w.alloc (.cells #[.int .i64 z] T)) (some ⟨w.heap.size, 0, none⟩) [z] :=
  .inr ⟨_, _, rfl, rfl, fun i hi => by
    have h0 : i = 0 := by simp at hi; omega
    subst h0
    rw [cell_of_row _ w.heap.size _ _ _ _ (heap_alloc_new w _)]; rfl⟩
theorem bms_one {ok : Nat → Prop} {w : World} {v : Value} {m : List Bool} (h : Bm ok w v m) (T : TypeId) : BmS (fun _ => True) (w.alloc (.cells #[v] T)) (some ⟨w.heap.size, 0, none⟩) 1 (fun _ => m) := fun i hi => by
  have h0 : i = 0 := by omega
  subst h0
  exact ⟨_, 0, v, rfl, trivial, by rw [cell_of_row _ w.heap.size _ _ _ _ (heap_alloc_new w _)]; rfl, (h.below ((Below.refl _ _).alloc (Nat.le_refl _) _)).mono fun _ _ _ => trivial⟩
theorem mix_or_nil (m : List Bool) : mix (fun x y => x || y) m [] = m := ext_inB (mix_len _ _ _) fun i hi => by
  rw [mix_len] at hi
  rw [mix_get, inB_far (m := []) (Nat.zero_le _), decide_eq_true hi]; simp
theorem cnt_and_nil (m : List Bool) : cntTo (inB (mix (fun x y => x && y) m [])) (mix (fun x y => x && y) m []).length = 0 := by
  have h : numsTo (inB (mix (fun x y => x && y) m [])) (0 + (mix (fun x y => x && y) m []).length) = numsTo (inB (mix (fun x y => x && y) m [])) 0 := numsTo_gap _ fun i _ _ => by
    rw [mix_get, inB_far (m := []) (Nat.zero_le _)]; simp
  rw [Nat.zero_add] at h
  unfold cntTo
  rw [h]; rfl
theorem has_nil (no : Int) (w : World) : Calls Tryd.prog 26 #[.pointer none, .int .i64 no] w fun e w' => e = .returned (.bool false) ∧ Below w.heap.size w w' :=
  (has_any (fun _ => True) _ [] no w (bm_nil _ _)).mono fun _ _ h => ⟨by rw [h.1, hasB_nil], h.2⟩
theorem size_nil (w : World) : Calls Tryd.prog 9 #[.pointer none] w fun e w' => e = .returned (.int .i64 0) ∧ w = w' := size_any (fun _ => True) _ [] w (bm_nil _ _)
theorem all_nil (w : World) (ht : Tab w) : Calls Tryd.prog 28 #[.pointer none] w fun e w' => (∃ a c, e = .returned (.slice a 0 c)) ∧ Below w.heap.size w w' :=
  (allI_any (fun _ => True) _ [] w (bm_nil _ _) ht).mono fun _ _ ⟨⟨x, h1, a, c, h2, _⟩, hb⟩ => ⟨⟨a, c, by rw [h1, h2]; rfl⟩, hb⟩
theorem runs_nil (w : World) : Calls Tryd.prog 29 #[.pointer none] w fun e w' => (∃ a c, e = .returned (.slice a 0 c)) ∧ Below w.heap.size w w' :=
  (runsIn_any (fun _ => True) _ [] w (bm_nil _ _)).mono fun _ _ ⟨⟨x, h1, a, c, h2, _⟩, hb⟩ => ⟨⟨a, c, by rw [h1, h2]; rfl⟩, hb⟩
theorem bytes_nil (w : World) : Calls Tryd.prog 30 #[.pointer none] w fun e w' => (∃ a c, e = .returned (.slice a 0 c)) ∧ Below w.heap.size w w' :=
  (bytes_any (fun _ => True) _ [] w (bm_nil _ _)).mono fun _ _ ⟨⟨x, h1, h2⟩, hb⟩ => ⟨(by
    obtain ⟨a, c, h3, _⟩ := h2.sl
    exact ⟨a, c, by rw [h1, h3]; rfl⟩), hb⟩
theorem add_one (ok : Nat → Prop) (a : Option Addr) (c : Nat) (z : Int) (w : World) (h : Si ok w a [z]) : Calls Tryd.prog 11 #[.pointer none, .slice a 1 c] w fun e w' => e = .returned (.int .i64 0) ∧ w = w' := add_nil ok a c [z] w h (show ((1 : Nat) : Int) ≤ _ by decide)
theorem drop_one (ok : Nat → Prop) (a : Option Addr) (c : Nat) (z : Int) (w : World) (h : Si ok w a [z]) : Calls Tryd.prog 12 #[.pointer none, .slice a 1 c] w fun e w' => e = .returned (.int .i64 0) ∧ Below w.heap.size w w' := drop_nil ok a c [z] w h (show ((1 : Nat) : Int) ≤ _ by decide)
theorem same_nils (w : World) : Calls Tryd.prog 21 #[.pointer none, .pointer none] w fun e w' => e = .returned (.bool true) ∧ Below w.heap.size w w' := sameSet_any (fun _ => True) _ _ [] [] w (bm_nil _ _) (bm_nil _ _)
theorem same_nil_some (ok : Nat → Prop) (v : Value) (m : List Bool) (w : World) (h : Bm ok w v m) (hm : 0 < m.length) : Calls Tryd.prog 21 #[.pointer none, v] w fun e w' => e = .returned (.bool false) ∧ Below w.heap.size w w' :=
  (sameSet_any ok _ _ [] m w (bm_nil _ _) h).mono fun _ _ h => ⟨by rw [h.1, decide_eq_false (by rintro rfl; simp at hm)], h.2⟩
theorem same_selves (v vo : Value) (m : List Bool) (w : World) (h : Bm (fun _ => True) w v m) (ho : Bm (fun _ => True) w vo m) : Calls Tryd.prog 21 #[v, vo] w fun e w' => e = .returned (.bool true) ∧ Below w.heap.size w w' :=
  (sameSet_any _ _ _ m m w h ho).mono fun _ _ h => ⟨by rw [h.1, decide_eq_true rfl], h.2⟩
theorem count_zero (ok : Nat → Prop) (v : Value) (m : List Bool) (w : World) (h : Bm ok w v (mix (fun x y => x && y) m [])) : Calls Tryd.prog 27 #[v] w fun e w' => e = .returned (.int .i64 0) ∧ w = w' :=
  (count_any ok v _ w h).mono fun _ _ h => ⟨by rw [h.1, cnt_and_nil]; rfl, h.2⟩
theorem alloc_below (w : World) (o : Obj) : Below w.heap.size w (w.alloc o) := (Below.refl _ _).alloc (Nat.le_refl _) _
/-- Both chains go on: from the start, and from where the set was made. -/
def Two2 (W w1 z : World) : Prop := Below W.heap.size W z ∧ Below w1.heap.size w1 z
theorem Two2.on {W w1 z z' : World} (h : Two2 W w1 z) (hb : Below z.heap.size z z') : Two2 W w1 z' := ⟨h.1.trans (hb.mono h.1.size), h.2.trans (hb.mono h.2.size)⟩
set_option maxRecDepth 20000 in
set_option maxHeartbeats 4000000 in
theorem bitmapNil_walk (no : Int) (a : Option Addr) (c : Nat) (zs : List Int) (W : World) (hs : Si (fun _ => True) W a zs) (hlc : zs.length ≤ c) (hcm : c ≤ maxLen) (hT : Tab W)
    (hz : -9223372036854775808 ≤ no ∧ no ≤ 9223372036854775807) :
    Calls Tryd.prog 6 #[.int .i64 no, .slice a zs.length c] W fun e w' => e = .returned (.bool true) ∧ Below W.heap.size W w' := by
  obtain ⟨zh, hzh⟩ : ∃ zh, zh = zs.take 30 := ⟨_, rfl⟩
  have hmin : min (zs.length : Int) 30 = (zh.length : Int) := by rw [hzh, List.length_take]; omega
  have HS : Hid (Si (fun _ => True) W a zh) := hid (by rw [hzh]; exact hs.front 30)
  have hb40 : (zh.length : Int) ≤ 30 := by omega
  have hbc : (zh.length : Int) ≤ c := by omega
  have hcm2 : (c : Int) ≤ 9223372036854775807 := by unfold maxLen at hcm; omega
  have HT := hid hT
  have HLO : Hid (Calls Tryd.prog 24 #[.pointer none, .int .i64 no] W fun e w' => e = .returned (.tuple #[.int .i64 0, .int .i64 7]) ∧ W = w') := hid (lowest_any (fun _ => True) _ [] no W (bm_nil _ _) hT hz.1 hz.2)
  have HFR : Hid (Calls Tryd.prog 25 #[.pointer none, .int .i64 no] W fun e w' => e = .returned (.tuple #[.int .i64 0, .int .i64 7]) ∧ W = w') := hid (free_any (fun _ => True) _ [] no W (bm_nil _ _) hT hz.1 hz.2)
  have HN := hid (new_any (fun _ => True) 9 a c zh W HS.out (by decide) (by decide) (by omega))
  clear hs hT hzh HS
  go_enter Tryd.func6, Tryd.ntmps6
  go_wp2_with fail
  refine HLO.out.mono ?_
  clear HLO
  rintro e w0 ⟨rfl, rfl⟩
  go_wp2_with fail
  refine HFR.out.mono ?_
  clear HFR
  rintro e w0 ⟨rfl, rfl⟩
  go_wp2_with fail
  refine HN.out.mono ?_
  clear HN
  rintro e w1 ⟨⟨vx, rfl, hx⟩, hb1⟩
  obtain ⟨m, hm⟩ : ∃ m, m = newB 9 zh := ⟨_, rfl⟩
  have HML : Hid (m.length = 9) := hid (by rw [hm, newB_len])
  rw [← hm] at hx
  have HX := hid hx
  have HK0 : Hid (Two2 W w1 w1) := hid ⟨hb1, Below.refl _ _⟩
  have HXB : Hid (∀ z, Two2 W w1 z → Bm (fun b => W.heap.size ≤ b) z vx m) := hid fun z hz => (HX.out.below hz.2).bm
  have HTZ : Hid (∀ z, Two2 W w1 z → Tab z) := hid fun z hz => HT.out.below hz.1
  obtain ⟨bx, hvx⟩ : ∃ bx, vx = .pointer (some ⟨bx, 0, none⟩) := by
    obtain ⟨b, g, c, V, h, _⟩ := HX.out
    exact ⟨b, h⟩
  subst hvx
  clear hx hb1 hm HT
  go_wp2_with fail
  refine (known_any w1 (HTZ.out _ HK0.out)).mono ?_
  rintro e w2 ⟨rfl, hb⟩
  have HK1 := hid (HK0.out.on hb)
  clear hb HK0
  go_wp2_with fail
  refine (has_nil no w2).mono ?_
  rintro e w3 ⟨rfl, hb⟩
  have HK2 := hid (HK1.out.on hb)
  clear hb HK1
  go_wp2_with fail
  refine (count_nil w3).mono ?_
  rintro e w ⟨rfl, rfl⟩
  go_wp2_with fail
  refine (size_nil w3).mono ?_
  rintro e w ⟨rfl, rfl⟩
  go_wp2_with fail
  refine (all_nil w3 (HTZ.out _ HK2.out)).mono ?_
  rintro e w4 ⟨⟨a1, c1, rfl⟩, hb⟩
  have HK3 := hid (HK2.out.on hb)
  clear hb HK2
  go_wp2_with fail
  refine (runs_nil w4).mono ?_
  rintro e w5 ⟨⟨a2, c2, rfl⟩, hb⟩
  have HK4 := hid (HK3.out.on hb)
  clear hb HK3
  go_wp2_with fail
  refine (bytes_nil w5).mono ?_
  rintro e w6 ⟨⟨a3, c3, rfl⟩, hb⟩
  have HK5 := hid (HK4.out.on hb)
  clear hb HK4
  go_wp2_with fail
  refine (copy_nil w6).mono ?_
  rintro e w ⟨rfl, rfl⟩
  go_wp2_with fail
  have HK6 := hid (HK5.out.on (alloc_below w6 (.cells #[.int .i64 no] 3)))
  have HSI := hid (si_one w6 no 3)
  have HBM := hid (bms_one (HXB.out _ HK5.out) 23)
  clear HBM HK5
  generalize w6.alloc (.cells #[.int .i64 no] 3) = w7 at *
  refine (add_one _ _ _ no w7 HSI.out).mono ?_
  rintro e w ⟨rfl, rfl⟩
  clear HSI
  go_wp2_with fail
  have HK7 := hid (HK6.out.on (alloc_below w7 (.cells #[.int .i64 no] 3)))
  have HSI := hid (si_one w7 no 3)
  clear HK6
  generalize w7.alloc (.cells #[.int .i64 no] 3) = w8 at *
  refine (drop_one _ _ _ no w8 HSI.out).mono ?_
  rintro e w9 ⟨rfl, hb⟩
  clear HSI
  have HK8 := hid (HK7.out.on hb)
  clear hb HK7
  go_wp2_with fail
  have HK9 := hid (HK8.out.on (alloc_below w9 (.cells #[.pointer (some ⟨bx, 0, none⟩)] 23)))
  have HBS := hid (bms_one (HXB.out _ HK8.out) 23)
  clear HK8
  generalize w9.alloc (.cells #[.pointer (some ⟨bx, 0, none⟩)] 23) = w10 at *
  refine (union_any (fun _ => True) _ [] _ 1 1 _ w10 (bm_nil _ _) HBS.out (by decide)).mono ?_
  rintro e w11 ⟨⟨x, rfl, hx⟩, hb⟩
  obtain rfl := copy_post_nil (unionTo_len _ _ _) hx
  clear HBS hx
  have HK10 := hid (HK9.out.on hb)
  clear hb HK9
  go_wp2_with fail
  refine (common_any _ _ _ [] m w11 (bm_nil _ _) (HXB.out _ HK10.out)).mono ?_
  rintro e w12 ⟨⟨x, rfl, hx⟩, hb⟩
  have HK11 := hid (HK10.out.on hb)
  clear hb HK10
  obtain rfl := copy_post_nil (mix_len _ _ _) hx
  clear hx
  go_wp2_with fail
  refine (without_any _ _ _ [] m w12 (bm_nil _ _) (HXB.out _ HK11.out)).mono ?_
  rintro e w13 ⟨⟨x, rfl, hx⟩, hb⟩
  have HK12 := hid (HK11.out.on hb)
  clear hb HK11
  obtain rfl := copy_post_nil (mix_len _ _ _) hx
  clear hx
  go_wp2_with fail
  refine (same_nils w13).mono ?_
  rintro e w14 ⟨rfl, hb⟩
  have HK13 := hid (HK12.out.on hb)
  clear hb HK12
  go_wp2_with fail
  refine (same_nil_some _ _ m w14 (HXB.out _ HK13.out) (by rw [HML.out]; decide)).mono ?_
  rintro e w15 ⟨rfl, hb⟩
  have HK14 := hid (HK13.out.on hb)
  clear hb HK13
  go_wp2_with fail
  have HK15 := hid (HK14.out.on (alloc_below w15 (.cells #[.pointer none] 23)))
  have HBS := hid (bms_one (bm_nil (fun _ => True) w15) 23)
  clear HK14
  generalize w15.alloc (.cells #[.pointer none] 23) = w16 at *
  refine (union_any (fun _ => True) _ m _ 1 1 _ w16 ((HXB.out _ HK15.out).mono fun _ _ _ => trivial) HBS.out (by decide)).mono ?_
  rintro e w17 ⟨⟨x, rfl, hx⟩, hb⟩
  have HU : Hid (NewSet w16.heap.size w17 x m) := hid (by
    have h := copy_post_some (by rw [unionTo_len, HML.out]; decide) hx
    rwa [show unionTo m (fun _ => []) 1 = m from mix_or_nil m] at h)
  clear HBS hx
  have HK16 := hid (HK15.out.on hb)
  clear hb HK15
  go_wp2_with fail
  refine (same_selves _ _ m w17 (HU.out.bm.mono fun _ _ _ => trivial) ((HXB.out _ HK16.out).mono fun _ _ _ => trivial)).mono ?_
  rintro e w18 ⟨rfl, hb⟩
  have HK17 := hid (HK16.out.on hb)
  clear hb HK16
  clear HU
  go_wp2_with fail
  refine (common_any _ _ _ m [] w18 (HXB.out _ HK17.out) (bm_nil _ _)).mono ?_
  rintro e w19 ⟨⟨x, rfl, hx⟩, hb⟩
  have HK18 := hid (HK17.out.on hb)
  clear hb HK17
  have HU := hid (copy_post_some (by rw [mix_len, HML.out]; decide) hx)
  clear hx
  go_wp2_with fail
  refine (count_zero _ _ m w19 HU.out.bm).mono ?_
  rintro e w ⟨rfl, rfl⟩
  go_wp2_with fail
  go_ret
  exact ⟨rfl, HK18.out.1⟩
end Go.Proofs.YtpdkfmanehgabaaDoor
