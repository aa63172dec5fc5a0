/- CONTRACTS: Union, Common, Without. -/
import Derived.Test.YtjgnnofpilmgoaaDoorBmI
namespace Go.Proofs.YtjgnnofpilmgoaaDoor
open Go.RowKit Go.Inc

/-- Of each number of the first: what f makes of both. -/
def mix (f : Bool → Bool → Bool) (m o : List Bool) : List Bool := (List.range m.length).map fun i => f (inB m i) (inB o i)
theorem mix_len (f : Bool → Bool → Bool) (m o : List Bool) : (mix f m o).length = m.length := by simp [mix]
theorem mix_get (f : Bool → Bool → Bool) (m o : List Bool) (i : Nat) : inB (mix f m o) i = (decide (i < m.length) && f (inB m i) (inB o i)) := by
  by_cases h : i < m.length
  · unfold mix
    rw [decide_eq_true h, Bool.true_and]
    conv => lhs; unfold inB
    rw [List.getD_eq_getElem?_getD, List.getElem?_map, List.getElem?_range h]
    rfl
  · rw [inB_far (by rw [mix_len]; omega)]; simp [h]
theorem Bm.old {ok : Nat → Prop} {w : World} {v : Value} {m : List Bool} (h : Bm ok w v m) : Bm (fun b => b < w.heap.size) w v m := h.mono fun _ _ hb => hb
theorem NewSet.mv {B : Nat} {w w' : World} {v : Value} {m : List Bool} {F : Nat → Prop} (h : NewSet B w v m) (hm : Mv F w w') (hk : ∀ i, B ≤ i → ¬ F i) : NewSet B w' v m := by
  obtain ⟨b, g, c, W, h1, h2, h3, h4, h5⟩ := h
  exact ⟨b, g, c, W, h1, h2, h3, h4.mv hm (hk b h2) (hk g h3), h5⟩
theorem copied_new {B : Nat} {w' : World} {e : Ending} {m : List Bool} {V : List Nat} (h : Copied B w' e m.length V) (hb : ∀ i, wbit V i = inB m i) : ∃ v, e = .returned v ∧ NewSet B w' v m := by
  obtain ⟨b2, g2, c2, h1, h2, h3, h4⟩ := h
  exact ⟨_, h1, b2, g2, c2, V, rfl, h2, h3, h4, hb⟩
/-- Copy: none of none, else a new one. -/
def CopyPost (B : Nat) (v : Value) (m : List Bool) (w' : World) (x : Value) : Prop := (v = .pointer none ∧ m = [] ∧ x = .pointer none) ∨ NewSet B w' x m
theorem copy_any (ok : Nat → Prop) (v : Value) (m : List Bool) (w : World) (h : Bm ok w v m) :
    Calls Tryd.prog 40 #[v] w fun e w' => (∃ x, e = .returned x ∧ CopyPost w.heap.size v m w' x) ∧ Below w.heap.size w w' := by
  rcases h with ⟨rfl, rfl⟩ | ⟨b, g, c, W, rfl, _, _, hat, hbits⟩
  · refine (copy_nil w).mono ?_
    rintro e w' ⟨rfl, rfl⟩
    exact ⟨⟨_, rfl, .inl ⟨rfl, rfl, rfl⟩⟩, Below.refl _ _⟩
  · refine (copy_some b g c m.length W w hat).mono ?_
    rintro e w' ⟨h, hb⟩
    obtain ⟨v, h1, h2⟩ := copied_new h hbits
    exact ⟨⟨v, h1, .inr h2⟩, hb⟩
def JoinGood (F : Nat) (h : Nat → Nat → Nat) : Prop := ∀ (ok : Nat → Prop) (b g c S : Nat) (V : List Nat) (vo : Value) (mo : List Bool) (O : List Nat) (w : World), BmAt w b g c S V → BmW ok w vo mo O → (∀ i, ok i → i ≠ g) →
    Calls Tryd.prog 55 #[.pointer (some ⟨b, 0, none⟩), vo, .func (.func F) #[] #[]] w fun e w' => e = .returned (.tuple #[]) ∧ (∃ V', BmAt w' b g c S V' ∧ Cut S (joinTo h V O V.length) V') ∧ Mv (fun i => i = g) w w'
theorem join_new {F : Nat} {h : Nat → Nat → Nat} {f : Bool → Bool → Bool} (hj : JoinGood F h) (hf : ∀ x y j, x < 18446744073709551616 → y < 18446744073709551616 → j < 64 → (h x y).testBit j = f (x.testBit j) (y.testBit j))
    (B : Nat) (w : World) (v vo : Value) (m mo : List Bool) (hn : NewSet B w v m) (ho : Bm (fun b => b < B) w vo mo) :
    Calls Tryd.prog 55 #[v, vo, .func (.func F) #[] #[]] w fun e w' => e = .returned (.tuple #[]) ∧ NewSet B w' v (mix f m mo) ∧ Mv (fun i => B ≤ i) w w' := by
  obtain ⟨b, g, c, W, rfl, h2, h3, h4, h5⟩ := hn
  obtain ⟨O, hO⟩ := ho.words
  refine (hj _ b g c m.length W vo mo O w h4 hO fun i hi e => by omega).mono ?_
  rintro e w' ⟨h1, ⟨V', h6, h7⟩, h8⟩
  refine ⟨h1, ⟨b, g, c, V', rfl, h2, h3, by rw [mix_len]; exact h6, fun i => ?_⟩, h8.sub fun i _ hi => by subst hi; exact h3⟩
  rw [h7 i, mix_get]
  by_cases hi : i < m.length
  · rw [joinTo_bits h4.fits hO.fits hf (by have := h4.len; omega), h5, hO.bits]
  · simp [hi]
theorem join_nil (vo f : Value) (w : World) : Calls Tryd.prog 55 #[.pointer none, vo, f] w fun e w' => e = .returned (.tuple #[]) ∧ w = w' := by
  go_enter Tryd.func55, Tryd.ntmps55
  go_wp2_with fail
  exact bodyPost_ret (v := .tuple #[]) (results_none rfl _ _ _) rfl ⟨rfl, rfl⟩
theorem join_or (B : Nat) (w : World) (v vo : Value) (m mo : List Bool) (hn : NewSet B w v m) (ho : Bm (fun b => b < B) w vo mo) :
    Calls Tryd.prog 55 #[v, vo, .func (.func 56) #[] #[]] w fun e w' => e = .returned (.tuple #[]) ∧ NewSet B w' v (mix (fun x y => x || y) m mo) ∧ Mv (fun i => B ≤ i) w w' :=
  join_new (fun ok b g c S V vo mo O w => joinOr_any ok b g c S V vo mo O w) (fun x y j _ _ _ => Nat.testBit_or x y j) B w v vo m mo hn ho
theorem mv_new_below {w0 a b : World} {B : Nat} (h : Below w0.heap.size w0 a) (k : Mv (fun i => B ≤ i) a b) (hB : w0.heap.size ≤ B) : Below w0.heap.size w0 b := h.trans (k.below h.size fun i hi => by omega)
/-- The first and the first k of some. -/
def unionTo (m : List Bool) (ms : Nat → List Bool) : Nat → List Bool
  | 0 => m
  | k + 1 => mix (fun x y => x || y) (unionTo m ms k) (ms k)
theorem unionTo_len (m : List Bool) (ms : Nat → List Bool) : ∀ k, (unionTo m ms k).length = m.length
  | 0 => rfl
  | k + 1 => by unfold unionTo; rw [mix_len, unionTo_len m ms k]
/-- A slice's sets. -/
def BmS (ok : Nat → Prop) (w : World) (a : Option Addr) (n : Nat) (ms : Nat → List Bool) : Prop := ∀ i, i < n → ∃ b o v, a = some ⟨b, o, none⟩ ∧ ok b ∧ w.cell? ⟨b, o + i, none⟩ = some v ∧ Bm ok w v (ms i)
theorem BmS.mv {ok : Nat → Prop} {w w' : World} {a : Option Addr} {n : Nat} {ms : Nat → List Bool} {F : Nat → Prop} (h : BmS ok w a n ms) (hm : Mv F w w') (hk : ∀ i, ok i → ¬ F i) : BmS ok w' a n ms := fun i hi => by
  obtain ⟨b, o, v, h1, h2, h3, h4⟩ := h i hi
  exact ⟨b, o, v, h1, h2, hm.cell h3 (hk b h2), h4.mv hm hk⟩
theorem BmS.old {ok : Nat → Prop} {w : World} {a : Option Addr} {n : Nat} {ms : Nat → List Bool} (h : BmS ok w a n ms) : BmS (fun b => b < w.heap.size) w a n ms := fun i hi => by
  obtain ⟨b, o, v, h1, h2, h3, h4⟩ := h i hi
  exact ⟨b, o, v, h1, cell_lt h3, h3, h4.old⟩
set_option maxRecDepth 20000 in
theorem union_any (ok : Nat → Prop) (v : Value) (m : List Bool) (a : Option Addr) (n c : Nat) (ms : Nat → List Bool) (w : World) (h : Bm ok w v m) (hs : BmS ok w a n ms) (hl : (n : Int) ≤ 9223372036854775807) :
    Calls Tryd.prog 47 #[v, .slice a n c] w fun e w' => (∃ x, e = .returned x ∧ CopyPost w.heap.size v (unionTo m ms n) w' x) ∧ Below w.heap.size w w' := by
  have HS := hid hs.old
  have HC := hid (copy_any ok v m w h)
  clear h hs
  go_enter Tryd.func47, Tryd.ntmps47
  go_wp2_with fail
  refine HC.out.mono ?_
  clear HC
  rintro e w1 ⟨⟨x, rfl, hx⟩, hb⟩
  have HB1 := hid hb
  have HS1 := hid (HS.out.mv (F := fun _ => False) (Mv.of_below hb) fun _ _ => id)
  clear hb HS
  have HX := hid hx
  clear hx
  go_wp2_with fail
  go_loopw [12] (fun i wr => ∃ k : Nat, k ≤ n ∧ i = .int .i64 (k : Int) ∧ CopyPost w.heap.size v (unionTo m ms k) wr x ∧ BmS (fun b => b < w.heap.size) wr a n ms ∧ Below w.heap.size w wr) (fun i _ => n - (intOf i).toNat)
  case atStart => exact ⟨0, Nat.zero_le _, rfl, HX.out, HS1.out, HB1.out⟩
  case round =>
    obtain ⟨k, hk, rfl, hx, hs, hb⟩ := hrel
    have HB := hid hb
    have HSR := hid hs
    clear hb hs HX HS1 HB1
    by_cases hlt : (k : Int) < n
    · obtain ⟨b0, o0, vo, rfl, hok, hcell, hbm⟩ := HSR.out k (by omega)
      have hkn : (k < n) = True := eq_true (by omega)
      rcases hx with ⟨rfl, h2, rfl⟩ | hx
      · have H2 := hid h2
        clear h2 hbm
        go_wp2_with fail
        refine (join_nil _ _ _).mono ?_
        rintro e w2 ⟨rfl, rfl⟩
        go_wp2_with fail
        go_roundw
        case rel => exact ⟨k + 1, by omega, by go_num, .inl ⟨rfl, by unfold unionTo; rw [H2.out]; rfl, rfl⟩, HSR.out, HB.out⟩
        case measure => simp [intOf]; omega
      · have HX := hid (join_or _ _ _ _ _ _ hx hbm)
        clear hx hbm
        go_wp2_with fail
        refine HX.out.mono ?_
        clear HX
        rintro e w2 ⟨rfl, hn, hm⟩
        have HN := hid hn
        have HB2 := hid (mv_new_below HB.out hm (Nat.le_refl _))
        have HS2 := hid (HSR.out.mv hm fun i hi => by omega)
        clear hn hm HB HSR
        go_wp2_with fail
        go_roundw
        case rel => exact ⟨k + 1, by omega, by go_num, .inr HN.out, HS2.out, HB2.out⟩
        case measure => simp [intOf]; omega
    · have hkf : (k < n) = False := eq_false (by omega)
      have HKN : Hid (k = n) := hid (by omega)
      have HX := hid hx
      clear hlt hx
      go_wp2_with fail
      go_ret
      exact ⟨⟨_, rfl, by rw [← HKN.out]; exact HX.out⟩, HB.out⟩
end Go.Proofs.YtjgnnofpilmgoaaDoor

