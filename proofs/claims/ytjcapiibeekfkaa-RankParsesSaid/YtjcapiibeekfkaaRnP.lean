/- WHAT WAS ASKED OF THE PROGRAM's CALLS: rows as they lie in memory; all contracts. -/
import Derived.Test.YtjcapiibeekfkaaRnH
import Derived.Test.YtjcapiibeekfkaaRkP
namespace Go.Proofs.Ytjcapiibeekfkaa
open Go.RowKit Go.Inc

def Rk (w : World) (b : Nat) (m : List Bool) (S : Nat → Prop) : Prop := ∃ v W vb vw, RkQ w b m v W vb vw ∧ S = RwS b v vb vw
theorem Fnd.kp {x y : World} {b : Nat} {m : List Bool} {v : Value} {W : List Nat} {vb vw : Value} (h : Fnd x b m v W vb vw y) : ∃ S', Kp Rk x y b m (RwS b v vb vw) S' := by
  obtain ⟨vb', vw', h1, h2, h3, h4⟩ := h
  refine ⟨_, ⟨v, W, vb', vw', .inl h1, rfl⟩, fun i hi => ?_, h4.sub fun i _ hi => .inl hi⟩
  rcases hi with hi | hi | hi | hi
  · exact .inl (.inl hi)
  · exact .inl (.inr (.inl hi))
  · rcases h2 i hi with h | h
    · exact .inl (.inr (.inr (.inl h)))
    · exact .inr h
  · rcases h3 i hi with h | h
    · exact .inl (.inr (.inr (.inr h)))
    · exact .inr h
theorem RkQ.kp {x y : World} {b : Nat} {m : List Bool} {v : Value} {W : List Nat} {vb vw : Value} (h : RkQ x b m v W vb vw) (hb : Below x.heap.size x y) : Kp Rk x y b m (RwS b v vb vw) (RwS b v vb vw) :=
  ⟨⟨v, W, vb, vw, h.below hb, rfl⟩, fun _ hi => .inl hi, Mv.of_below hb⟩
theorem NewR.out {x w' : World} {m : List Bool} {e : Ending} (h : NewR x m e w') : ∃ b S, e = .returned (.tuple #[.pointer (some ⟨b, 0, none⟩), .int .i64 0]) ∧ Rk w' b m S ∧ ∀ i, S i → x.heap.size ≤ i := by
  obtain ⟨b, v, W, h1, h2, h3, h4⟩ := h
  refine ⟨b, _, h1, ⟨v, W, _, _, .inr h2, rfl⟩, fun i hi => ?_⟩
  rcases hi with rfl | hi | hi | hi
  · exact h3
  · exact h4 i hi
  · cases hi
  · cases hi
theorem si_new {x y : World} {L : List Nat} {u : Value} {b : Nat} {v vb vw : Value} {B : Nat} (hx : x.heap.size ≤ B) (hlt : ∀ i, RwS b v vb vw i → i < B) (h : y.ownsRow B 3 1 u L.length (nvals L)) : ∃ au cu, u = .slice au L.length cu ∧ Si (fun g => x.heap.size ≤ g ∧ ¬ RwS b v vb vw g) y au (L.map fun x : Nat => (x : Int)) := by
  obtain ⟨a, c, h1, _, _, _, _, h2⟩ := Si.ownedN h
  exact ⟨a, c, h1, h2.mono fun g hg _ => ⟨Nat.le_trans hx hg, fun hs => by have := hlt g hs; omega⟩⟩
theorem pr : PR Rk where
  lt := fun h => by obtain ⟨v, W, vb, vw, h, rfl⟩ := h; exact h.lt
  own := fun h => by obtain ⟨v, W, vb, vw, h, rfl⟩ := h; exact .inl rfl
  le := fun h => by obtain ⟨v, W, vb, vw, h, rfl⟩ := h; exact h.le
  keep := fun h hm hF => by obtain ⟨v, W, vb, vw, h, rfl⟩ := h; exact ⟨v, W, vb, vw, h.mv hm hF, rfl⟩
  pNew := fun ok w a c m hm hl => by
    refine (rNew_any ok w a c m hm hl).mono ?_
    rintro e w' ⟨h, hb⟩
    obtain ⟨b, S, h1, h2, h3⟩ := h.out
    exact ⟨b, S, h1, h2, h3, hb⟩
  pOf := fun ok w a c n zs hs _ _ hl h0 => by
    refine (rOf_any ok w a c n zs hs hl).mono ?_
    rintro e w' ⟨h | h, hb⟩
    · obtain ⟨b, S, h1, h2, h3⟩ := h.2.out
      exact ⟨b, S, h1, h2, h3, hb⟩
    · exact absurd h0 h.1
  pOfBad := fun ok w a c n zs hs _ _ hl h0 => by
    refine (rOf_any ok w a c n zs hs hl).mono ?_
    rintro e w' ⟨h | h, hb⟩
    · exact absurd h.1 h0
    · exact ⟨h.2, hb⟩
  pParse := fun ok w a c bs hs hc hn hby hl h0 => by
    refine (rParse_any ok w a c bs hs hc hn hby hl).mono ?_
    rintro e w' ⟨h | h, hb⟩
    · obtain ⟨_, b, v, W, au, cu, h1, h2, h3, h4, h5⟩ := h
      refine ⟨b, _, au, cu, h1, ⟨v, W, _, _, .inr h2, rfl⟩, fun i hi => ?_, h5.mono fun g hg _ => ?_, hb⟩
      · rcases hi with rfl | hi | hi | hi
        · exact h3
        · exact h4 i hi
        · cases hi
        · cases hi
      · rintro (hi | hi | hi | hi)
        · exact hg.1 hi
        · exact hg.2 hi
        · cases hi
        · cases hi
    · exact absurd h0 h.1
  pParseBad := fun ok w a c bs hs hc hn hby hl h0 => by
    refine (rParse_any ok w a c bs hs hc hn hby hl).mono ?_
    rintro e w' ⟨h | h, hb⟩
    · exact absurd h.1 h0
    · exact ⟨_, h.2, hb⟩
  pAt := fun w b m S i h _ => by
    obtain ⟨v, W, vb, vw, h, rfl⟩ := h
    have key : ∀ d k vb vw D E all, RwR w b m.length v W d k vb vw D E all → _ := fun d k vb vw D E all hr => rAt_any w b m.length d k all i v vb vw W D E m hr rfl h.wd h.le
    have h2 : Calls Try.prog 10 #[.pointer (some ⟨b, 0, none⟩), .int .i64 i] w fun e w' => (∃ u, e = .returned (.tuple #[.bool u, .int .i64 (atE m i)]) ∧ (atE m i = 0 → u = inB m i.toNat)) ∧ w = w' := by
      rcases h with h | h <;> exact key _ _ _ _ _ _ _ h.r
    refine h2.mono ?_
    rintro e w' ⟨⟨u, h3, h4⟩, rfl⟩
    exact ⟨u, _, h3, h4, h.kp (Below.refl _ _)⟩
  pRank := fun w b m S one i h _ => by
    obtain ⟨v, W, vb, vw, h, rfl⟩ := h
    refine (rRank_any w b one i m v W vb vw h).mono ?_
    rintro e w' ⟨⟨z, h1, h2⟩, rfl | h3⟩
    · exact ⟨z, _, h1, h2, h.kp (Below.refl _ _)⟩
    · obtain ⟨S', h4⟩ := h3.kp
      exact ⟨z, S', h1, h2, h4⟩
  pSelect := fun w b m S one k h hk => by
    obtain ⟨v, W, vb, vw, h, rfl⟩ := h
    by_cases h0 : k < 0
    · have he : slE m one k = 7 := by unfold slE; rw [if_neg (by omega)]
      refine (rSelect_neg w b one k h0).mono ?_
      rintro e w' ⟨h1, hb⟩
      exact ⟨0, _, by rw [h1, he], fun h => (by rw [he] at h; cases h), h.kp hb⟩
    · obtain ⟨kn, rfl⟩ := Int.eq_ofNat_of_zero_le (show 0 ≤ k by omega)
      refine (rSelect_any w b kn one m v W vb vw h hk.2).mono ?_
      rintro e w' ⟨⟨z, h1, h2⟩, h3⟩
      obtain ⟨S', h4⟩ := h3.kp
      exact ⟨z, S', h1, h2, h4⟩
  pCount := fun w b m S one h => by
    obtain ⟨v, W, vb, vw, h, rfl⟩ := h
    refine (rCount1_any w b one m v W vb vw h).mono ?_
    rintro e w' ⟨h1, h3⟩
    obtain ⟨S', h4⟩ := h3.kp
    exact ⟨S', h1, h4⟩
  pLen := fun w b m S h => by
    obtain ⟨v, W, vb, vw, h, rfl⟩ := h
    refine (rLen_any w b m.length h.c0).mono ?_
    rintro e w' ⟨h1, rfl⟩
    exact ⟨_, h1, h.kp (Below.refl _ _)⟩
  pBytes := fun w b m S h => by
    obtain ⟨v, W, vb, vw, h, rfl⟩ := h
    have h2 : Calls Try.prog 27 #[.pointer (some ⟨b, 0, none⟩)] w fun e w' => ∃ u, e = .returned u ∧ Row 5 w.heap.size w' u (rowBs m) ∧ Below w.heap.size w w' := by
      rcases h with h | h <;> exact rBytes_any w b m.length _ _ _ v _ _ W _ _ m h.r rfl h.wd h.le
    refine h2.mono ?_
    rintro e w' ⟨u, rfl, h3, h4⟩
    obtain ⟨a, c, rfl, _, _, _, hs⟩ := h3.sl
    exact ⟨_, a, c, rfl, h.kp h4, hs.mono fun g hg _ => ⟨hg, fun hi => by have := h.lt g hi; omega⟩⟩
  pOnes := fun w b m S h => by
    obtain ⟨v, W, vb, vw, h, rfl⟩ := h
    have h2 : Calls Try.prog 19 #[.pointer (some ⟨b, 0, none⟩)] w fun e w' => ∃ u, e = .returned u ∧ w'.ownsRow w.heap.size 3 1 u (plcB m m.length).length (nvals (plcB m m.length)) ∧ Below w.heap.size w w' := by
      rcases h with h | h <;> exact rOnesL_any w b m.length _ _ _ v _ _ W _ _ m h.r rfl h.wd h.le
    refine h2.mono ?_
    rintro e w' ⟨u, rfl, h3, h4⟩
    obtain ⟨a, c, rfl, hs⟩ := si_new (Nat.le_refl _) h.lt h3
    exact ⟨_, a, c, rfl, h.kp h4, hs⟩
  pDirectory := fun w b m S h => by
    obtain ⟨v, W, vb, vw, h, rfl⟩ := h
    have hl := h.wd.len
    refine (rDirectory_any w b m v W vb vw h).mono ?_
    rintro e w' ⟨w1, u1, u2, rfl, hf, hb, h1, h2⟩
    rw [show (W.length + 7) / 8 = (m.length + 511) / 512 from by omega] at h1
    rw [hl] at h2
    obtain ⟨vb', vw', g1, g2, g3, g4⟩ := hf
    obtain ⟨a, c, rfl, hs1⟩ := si_new (x := w) g4.size (fun i hi => (RkQ.lt (.inl g1)) i hi) h1
    obtain ⟨a2, c2, rfl, hs2⟩ := si_new (x := w) g4.size (fun i hi => (RkQ.lt (.inl g1)) i hi) h2
    refine ⟨RwS b v vb' vw', a, c, a2, c2, by rw [dirB_len, dirW_len], ⟨⟨v, W, vb', vw', .inl (g1.below hb), rfl⟩, fun i hi => ?_, (g4.trans (Mv.of_below hb)).sub fun i _ hi => .inl hi⟩, hs1, hs2⟩
    rcases hi with hi | hi | hi | hi
    · exact .inl (.inl hi)
    · exact .inl (.inr (.inl hi))
    · rcases g2 i hi with h | h
      · exact .inl (.inr (.inr (.inl h)))
      · exact .inr h
    · rcases g3 i hi with h | h
      · exact .inl (.inr (.inr (.inr h)))
      · exact .inr h
  pSame := fun w b m S b2 m2 S2 h k _ => by
    obtain ⟨v, W, vb, vw, h, rfl⟩ := h
    obtain ⟨v2, W2, vb2, vw2, k, rfl⟩ := k
    refine (rSame_any w b b2 m m2 v v2 W W2 vb vw vb2 vw2 h k).mono ?_
    rintro e w' ⟨h1, j, rfl⟩
    exact ⟨_, h1, ⟨v, W, vb, vw, h.below (below_drewN _ _), rfl⟩, fun i hi => .inl hi, Mv.of_below (below_drewN _ _)⟩
  pSameNil := fun w => (rSame_nil w).mono fun e w' h => ⟨h.1, by rw [← h.2]; exact Below.refl _ _⟩
  pSameOne := fun w b m S h => by
    obtain ⟨v, W, vb, vw, h, rfl⟩ := h
    refine (rSame_one w b).mono ?_
    rintro e w' ⟨h1, rfl⟩
    exact ⟨_, h1, h.kp (Below.refl _ _)⟩
  nAt := fun w i _ => (rAtN w i).mono fun e w' h => ⟨_, h.1, by rw [← h.2]; exact Below.refl _ _⟩
  nRank := fun w one i _ => (rRankN w one i).mono fun e w' h => ⟨_, h.1, by rw [← h.2]; exact Below.refl _ _⟩
  nSelect := fun w one i _ => (rSelectN w one i).mono fun e w' h => ⟨_, h.1, h.2⟩
  nLen := fun w => (rLenN w).mono fun e w' h => ⟨h.1, by rw [← h.2]; exact Below.refl _ _⟩
  nCount := fun w one => (rCountN one w).mono fun e w' h => ⟨h.1, by rw [← h.2]; exact Below.refl _ _⟩
  nBytes := fun w => (rBytesN w).mono fun e w' h => ⟨none, 0, h.1, by rw [← h.2]; exact Below.refl _ _⟩
  nOnes := fun w => (rOnesN w).mono fun e w' h => ⟨none, 0, h.1, by rw [← h.2]; exact Below.refl _ _⟩
  nDirectory := fun w => (rDirectoryN w).mono fun e w' h => ⟨none, 0, none, 0, h.1, by rw [← h.2]; exact Below.refl _ _⟩
end Go.Proofs.Ytjcapiibeekfkaa
