/- CONTRACTS: the chapter's example. -/
import Derived.Test.YtjgnnofpilmgoaaDoorAlL
import Derived.Test.YtjgnnofpilmgoaaDoorBmRf
namespace Go.Proofs.YtjgnnofpilmgoaaDoor
open Go.RowKit Go.Inc

theorem kn1 : newE 6 [2, 3] = 0 := by decide
theorem kn2 : 1 ≤ (pagesK isF (newK 6 [2, 3])).length := by decide
theorem kn3 : tookZ (newK 6 [2, 3]) 1 = [4] := by decide
theorem kn4 : giveE (tookK (newK 6 [2, 3]) 1) [2] = 0 := by decide
theorem kn5 : intsK isP (gaveK (tookK (newK 6 [2, 3]) 1) [2]) = [2] := by decide
theorem kn6 : kindK (mapK cK (gaveK (tookK (newK 6 [2, 3]) 1) [2])) 2 = 1 := by decide
/-- What is known of an allocator that was made behind w, in a later world. -/
structure Own (C : Nat → Nat) (w z : World) (p : Nat) (v1 v2 v3 : Value) (ks : List Nat) : Prop where
  al : Al C z p v1 v2 v3 ks
  ks : Ks ks
  tab : Tab z
  bel : Below w.heap.size w z
  low : ∀ i, C i ≠ 0 → w.heap.size ≤ i
section
variable {C : Nat → Nat} {w z z' : World} {p : Nat} {v1 v2 v3 : Value} {ks ks' : List Nat}
theorem Own.below (h : Own C w z p v1 v2 v3 ks) (hb : Below z.heap.size z z') : Own C w z' p v1 v2 v3 ks :=
  ⟨h.al.below hb, h.ks, h.tab.below hb, h.bel.trans (hb.mono h.bel.size), h.low⟩
theorem Own.turn (h : Own C w z p v1 v2 v3 ks) (hm : Mv (fun i => C i ≠ 0) z z') (hal : Al C z' p v1 v2 v3 ks') (hk : Ks ks') : Own C w z' p v1 v2 v3 ks' :=
  ⟨hal, hk, tab_mv hm h.al.z0 h.tab, h.bel.trans (hm.below h.bel.size h.low), h.low⟩
/-- What turns nothing of its blocks. -/
theorem Own.mv {F : Nat → Prop} (h : Own C w z p v1 v2 v3 ks) (hm : Mv F z z') (hF : ∀ i, F i → C i = 0 ∧ w.heap.size ≤ i) (h0 : 0 < w.heap.size) : Own C w z' p v1 v2 v3 ks :=
  ⟨h.al.mv hm fun i hi => (hF i hi).1, h.ks, h.tab.mv hm fun hf => by have := (hF 0 hf).2; omega, h.bel.trans (hm.below h.bel.size fun i hi => (hF i hi).2), h.low⟩
theorem Own.far {i : Nat} (h : Own C w z p v1 v2 v3 ks) (hi : z.heap.size ≤ i) : C i = 0 := Decidable.byContradiction fun hh => by have := h.al.old i hh; omega
theorem Own.near {i : Nat} (h : Own C w z p v1 v2 v3 ks) (hi : i < w.heap.size) : C i = 0 := Decidable.byContradiction fun hh => by have := h.low i hh; omega
end
/-- Take, Give, Adopt, Commit, Abort, Kind, Free of it, in these words. -/
theorem own_take {C : Nat → Nat} {w z : World} {p : Nat} {v1 v2 v3 : Value} {ks : List Nat} (h : Own C w z p v1 v2 v3 ks) (n : Nat) (hn : (n : Int) ≤ 9223372036854775807) :
    Calls Tryd.prog 10 #[.pointer (some ⟨p, 0, none⟩), .int .i64 (n : Int)] z fun e z' => ((pagesK isF ks).length < n ∧ e = .returned (.tuple #[.slice none 0 0, .int .i64 6]) ∧ Own C w z' p v1 v2 v3 ks ∧ Mv (fun i => C i ≠ 0) z z') ∨
      (n ≤ (pagesK isF ks).length ∧ (∃ x, e = .returned (.tuple #[x, .int .i64 0]) ∧ IntsN z.heap.size z' x n (tookZ ks n)) ∧ Own C w z' p v1 v2 v3 (tookK ks n) ∧ Mv (fun i => C i ≠ 0) z z') := by
  refine (take_some n hn h.al h.ks h.tab).mono ?_
  rintro e z' ⟨(⟨h1, h2, h3⟩ | ⟨h1, h2, h3⟩), hm⟩
  · exact .inl ⟨h1, h2, h.turn hm h3 h.ks, hm⟩
  · exact .inr ⟨h1, h2, h.turn hm h3 (h.ks.took n), hm⟩
theorem own_give {C : Nat → Nat} {w z : World} {p : Nat} {v1 v2 v3 : Value} {ks : List Nat} (h : Own C w z p v1 v2 v3 ks) (okz : Nat → Prop) (a : Option Addr) (cz : Nat) (zs : List Int) (hz : Si okz z a zs) (hd : ∀ i, okz i → C i = 0) (hl : (zs.length : Int) ≤ 9223372036854775807) :
    Calls Tryd.prog 13 #[.pointer (some ⟨p, 0, none⟩), .slice a zs.length cz] z fun e z' => e = .returned (.int .i64 (giveE ks zs)) ∧ Own C w z' p v1 v2 v3 (gaveK ks zs) ∧ Mv (fun i => C i ≠ 0) z z' :=
  (give_any okz a cz zs h.al h.ks hz hd hl).mono fun _ _ hh => ⟨hh.1, h.turn hh.2.2 hh.2.1 (h.ks.gave zs), hh.2.2⟩
theorem own_adopt {C : Nat → Nat} {w z : World} {p : Nat} {v1 v2 v3 : Value} {ks : List Nat} (h : Own C w z p v1 v2 v3 ks) (okz : Nat → Prop) (a : Option Addr) (cz : Nat) (zs : List Int) (hz : Si okz z a zs) (hd : ∀ i, okz i → C i = 0) (hl : (zs.length : Int) ≤ 9223372036854775807) :
    Calls Tryd.prog 19 #[.pointer (some ⟨p, 0, none⟩), .slice a zs.length cz] z fun e z' => e = .returned (.int .i64 (adoptE ks zs)) ∧ Own C w z' p v1 v2 v3 (adoptK ks zs) ∧ Mv (fun i => C i ≠ 0) z z' :=
  (adopt_any okz a cz zs h.al h.ks hz hd hl).mono fun _ _ hh => ⟨hh.1, h.turn hh.2.2 hh.2.1 (h.ks.adopt zs), hh.2.2⟩
theorem own_commit {C : Nat → Nat} {w z : World} {p : Nat} {v1 v2 v3 : Value} {ks : List Nat} (h : Own C w z p v1 v2 v3 ks) :
    Calls Tryd.prog 15 #[.pointer (some ⟨p, 0, none⟩)] z fun e z' => (∃ x, e = .returned x ∧ IntsN z.heap.size z' x (intsK isP ks).length (intsK isP ks)) ∧ Own C w z' p v1 v2 v3 (mapK cK ks) ∧ Mv (fun i => C i ≠ 0) z z' :=
  (commit_any h.al h.ks h.tab).mono fun _ _ hh => ⟨hh.1, h.turn hh.2.2 hh.2.1 h.ks.commit, hh.2.2⟩
theorem own_abort {C : Nat → Nat} {w z : World} {p : Nat} {v1 v2 v3 : Value} {ks : List Nat} (h : Own C w z p v1 v2 v3 ks) :
    Calls Tryd.prog 17 #[.pointer (some ⟨p, 0, none⟩)] z fun e z' => (∃ x, e = .returned x ∧ IntsN z.heap.size z' x (intsK isS ks).length (intsK isS ks)) ∧ Own C w z' p v1 v2 v3 (mapK aK ks) ∧ Mv (fun i => C i ≠ 0) z z' :=
  (abort_any h.al h.ks h.tab).mono fun _ _ hh => ⟨hh.1, h.turn hh.2.2 hh.2.1 h.ks.abort, hh.2.2⟩
theorem own_new {w : World} (okz : Nat → Prop) (n : Nat) (a : Option Addr) (cz : Nat) (zs : List Int) (z : World) (hw : Below w.heap.size w z) (hz : Si okz z a zs) (h1 : (2 : Int) ≤ n) (h2 : (n : Int) ≤ 2048) (hl : (zs.length : Int) ≤ 9223372036854775807) (ht : Tab z) :
    Calls Tryd.prog 7 #[.int .i64 (n : Int), .slice a zs.length cz] z fun e z' => ((newE n zs = 0 ∧ ∃ C p v1 v2 v3, e = .returned (.tuple #[.pointer (some ⟨p, 0, none⟩), .int .i64 0]) ∧ Own C w z' p v1 v2 v3 (newK n zs) ∧ ∀ i, C i ≠ 0 → z.heap.size ≤ i) ∨
      (newE n zs ≠ 0 ∧ e = .returned (.tuple #[.pointer none, .int .i64 (newE n zs)]))) ∧ Below z.heap.size z z' := by
  refine (allocNew_any okz n a cz zs z hz h1 h2 hl ht).mono ?_
  rintro e z' ⟨(⟨h3, C, p, v1, v2, v3, h4, h5, h6⟩ | ⟨h3, h4⟩), hb⟩
  · exact ⟨.inl ⟨h3, C, p, v1, v2, v3, h4, ⟨h5, newK_ks (by omega) (by omega) h3, ht.below hb, hw.trans (hb.mono hw.size), fun i hi => Nat.le_trans hw.size (h6 i hi)⟩, h6⟩, hb⟩
  · exact ⟨.inr ⟨h3, h4⟩, hb⟩
theorem refSame_eq {ok ok' : Nat → Prop} {a b : Option Addr} (n c d : Nat) (zs : List Int) {w : World} (ha : Si ok w a zs) (hb : Si ok' w b zs) (hn : n = zs.length) (hm : (n : Int) ≤ 9223372036854775807) :
    Calls Tryd.prog 12 #[.slice a n c, .slice b n d] w fun e w' => e = .returned (.bool true) ∧ Below w.heap.size w w' := by
  subst hn
  refine (refSame_any ok ok' a b c d zs zs w ha hb hm).mono ?_
  rintro e w' ⟨rfl, h2⟩
  exact ⟨by rw [decide_eq_true rfl], h2⟩
set_option maxHeartbeats 4000000 in
theorem known_any (w : World) (ht : Tab w) : Calls Tryd.prog 8 #[] w fun e w' => e = .returned (.bool true) ∧ Below w.heap.size w w' := by
  have HN := hid (own_new (w := w) (fun b => b = w.heap.size) 6 (some ⟨w.heap.size, 0, none⟩) 2 [2, 3] (w.alloc (.cells #[.int .i64 2, .int .i64 3] 3)) (alloc_below w _) (si_two w 2 3 3) (by decide) (by decide) (by decide) (ht.below (alloc_below w _)))
  clear ht
  go_enter Tryd.func8, Tryd.ntmps8
  go_wp2_with fail
  refine HN.out.mono ?_
  clear HN
  rintro e w1 ⟨(⟨-, C, p, v1, v2, v3, rfl, hown, hlo⟩ | ⟨h, -⟩), hb⟩
  · have HO1 := hid hown
    clear hown hlo hb
    go_wp2_with fail
    refine (own_take HO1.out 1 (by decide)).mono ?_
    rintro e w2 (⟨h, -⟩ | ⟨-, ⟨x, rfl, hx⟩, ho, hm⟩)
    · exact absurd kn2 (by omega)
    · rw [kn3] at hx
      have HX2 : Hid (IntsN w1.heap.size w2 x 1 [4]) := hid hx
      have HO2 := hid ho
      have hz := HO1.out.far (i := w1.heap.size)
      have HZ : Hid (∀ i, w1.heap.size ≤ i → C i = 0) := hid fun i hi => HO1.out.far hi
      clear hx ho hm hz
      have HB3 := hid (alloc_below w2 (.cells #[.int .i64 2] 3))
      have HG := hid (own_give (HO2.out.below HB3.out) (fun b => b = w2.heap.size) (some ⟨w2.heap.size, 0, none⟩) 1 [2] (si_one w2 2 3) (fun i hi => by subst hi; exact HO2.out.far (Nat.le_refl _)) (by decide))
      go_wp2_with fail
      refine HG.out.mono ?_
      clear HG
      rintro e w3 ⟨he, ho, hm⟩
      rw [kn4] at he
      subst he
      have HO3 := hid ho
      have HX3 : Hid (IntsN w1.heap.size w3 x 1 [4]) := hid ((HX2.out.below HB3.out).mv hm fun i hi hc => hc (HZ.out i hi))
      clear ho hm HX2 HO2
      go_wp2_with fail
      refine (own_commit HO3.out).mono ?_
      rintro e w4 ⟨⟨y, rfl, hy⟩, ho, hm⟩
      rw [kn5] at hy
      have HY4 : Hid (IntsN w3.heap.size w4 y 1 [2]) := hid hy
      have HO4 := hid ho
      have HX4 : Hid (IntsN w1.heap.size w4 x 1 [4]) := hid (HX3.out.mv hm fun i hi hc => hc (HZ.out i hi))
      clear hy ho hm HX3 HO3
      obtain ⟨ax, cx, rfl, hsx⟩ := HX4.out
      obtain ⟨ay, cy, rfl, hsy⟩ := HY4.out
      have HSX := hid hsx
      have HSY := hid hsy
      have HB5 := hid (alloc_below w4 (.cells #[.int .i64 4] 3))
      have HS5 := hid (refSame_eq 1 cx 1 [4] (hsx.below HB5.out) (si_one w4 4 3) rfl (by decide))
      clear hsx hsy HX4 HY4
      go_wp2_with fail
      refine HS5.out.mono ?_
      clear HS5
      rintro e w5 ⟨rfl, hb5⟩
      have HB6 : Hid (Below w4.heap.size w4 w5) := hid (HB5.out.trans (hb5.mono HB5.out.size))
      have HB7 := hid (alloc_below w5 (.cells #[.int .i64 2] 3))
      have HS7 := hid (refSame_eq 1 cy 1 [2] ((HSY.out.below HB6.out).below HB7.out) (si_one w5 2 3) rfl (by decide))
      clear hb5
      go_wp2_with fail
      refine HS7.out.mono ?_
      clear HS7
      rintro e w6 ⟨rfl, hb6⟩
      have HB8 : Hid (Below w4.heap.size w4 w6) := hid (HB6.out.trans ((HB7.out.trans (hb6.mono HB7.out.size)).mono HB6.out.size))
      have HO6 := hid (HO4.out.below HB8.out)
      have HKD := hid (kind_any 2 HO6.out.al HO6.out.ks)
      rw [kn6] at HKD
      clear hb6
      go_wp2_with fail
      refine HKD.out.mono ?_
      rintro e w7 ⟨rfl, hb7⟩
      have HB9 := hid (HO6.out.bel.trans (hb7.mono HO6.out.bel.size))
      clear hb7
      go_wp2_with fail
      go_ret
      exact ⟨rfl, HB9.out⟩
  · exact absurd kn1 h
end Go.Proofs.YtjgnnofpilmgoaaDoor
