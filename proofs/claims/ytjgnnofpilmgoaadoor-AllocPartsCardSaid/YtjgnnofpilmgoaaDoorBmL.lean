/- CONTRACTS: Same; Runs. -/
import Derived.Test.YtjgnnofpilmgoaaDoorBmRf
import Derived.Test.YtjgnnofpilmgoaaDoorBmRuns
namespace Go.Proofs.YtjgnnofpilmgoaaDoor
open Go.RowKit Go.Inc

theorem run_eql_nil_some {P : Program} {w : World} (t : TypeId) (a : Addr) (h : P.underlying t = some (.pointer (P.pointee t))) : (binOp .eql t (.pointer none) (.pointer (some a))).run P w = .ok (.bool false) w := by
  have h2 : ∀ d : Nat, (Op.equalIn (d + 1) t (.pointer none) (.pointer (some a))).run P w = .ok false w := fun d => by
    simp [Op.equalIn, run_underlying h]
  simp only [binOp]
  simp [Op.equal, Op.maxDepth, h2 9999]
set_option maxRecDepth 20000 in
set_option maxHeartbeats 1000000 in
/-- The same size and numbers? -/
theorem sameSet_any (ok : Nat → Prop) (v vo : Value) (m mo : List Bool) (w : World) (h : Bm ok w v m) (ho : Bm ok w vo mo) :
    Calls Tryd.prog 43 #[v, vo] w fun e w' => e = .returned (.bool (decide (m = mo))) ∧ Below w.heap.size w w' := by
  rcases h with ⟨rfl, rfl⟩ | ⟨b, g, c, W, rfl, _, _, hat, hbits⟩
  · rcases ho with ⟨rfl, rfl⟩ | ⟨b2, g2, c2, W2, rfl, _, _, hat2, hbits2⟩
    · go_enter Tryd.func43, Tryd.ntmps43
      go_wp2_with fail
      go_ret
      exact ⟨rfl, Below.refl _ _⟩
    · have HD : Hid (decide (([] : List Bool) = mo) = false) := hid (by
        rw [decide_eq_false_iff_not]; rintro rfl; have := hat2.s1; simp at this)
      clear hat2 hbits2
      have hq : (binOp .eql 45 (.pointer none) (.pointer (some ⟨b2, 0, none⟩))).run Tryd.prog w = .ok (.bool false) w := run_eql_nil_some 45 _ (by kernel_rfl)
      go_enter Tryd.func43, Tryd.ntmps43
      go_wp2_with fail
      go_ret
      exact ⟨by rw [HD.out]; rfl, Below.refl _ _⟩
  · rcases ho with ⟨rfl, rfl⟩ | ⟨b2, g2, c2, W2, rfl, _, _, hat2, hbits2⟩
    · have HD : Hid (decide (m = []) = false) := hid (by
        rw [decide_eq_false_iff_not]; rintro rfl; have := hat.s1; simp at this)
      clear hat hbits
      go_enter Tryd.func43, Tryd.ntmps43
      go_wp2_with fail
      go_ret
      exact ⟨by rw [HD.out]; rfl, Below.refl _ _⟩
    · have hc0 := hat.hsz
      have hc1 := hat.hw
      have hd0 := hat2.hsz
      have hd1 := hat2.hw
      by_cases hs : m.length = mo.length
      · have hlen : W2.length = W.length := by rw [hat.len, hat2.len, hs]
        have HD : Hid (decide (m = mo) = decide (W = W2)) := hid (by
          congr 1
          apply propext
          constructor
          · rintro rfl
            exact words_ext hlen.symm hat.fits hat2.fits fun i => by rw [hbits, hbits2]
          · rintro rfl
            exact ext_inB hs fun i _ => by rw [← hbits, ← hbits2])
        obtain ⟨n, hn⟩ : ∃ n, n = W.length := ⟨_, rfl⟩
        obtain ⟨S, hS⟩ : ∃ S, S = m.length := ⟨_, rfl⟩
        rw [← hn] at hc1
        rw [hlen, ← hn] at hd1
        rw [← hS] at hc0
        rw [← hs, ← hS] at hd0
        have l2 : ∀ j, Calls Tryd.prog 52 #[.slice (some ⟨g, 0, none⟩) n c, .slice (some ⟨g2, 0, none⟩) n c2] (w.drewN j) fun e w' => e = .returned (.bool (decide (W = W2))) ∧ ∃ i, w' = w.drewN i := fun j =>
          (equal_some g g2 n c c2 W W2 (w.drewN j) hn.symm (by rw [hlen, hn]) (by have := hat.wlen; omega) (fun i hi => hat.cell (by omega)) (fun i hi => hat2.cell (by omega))).mono fun e w' h => ⟨h.1, by
            obtain ⟨i, hi⟩ := h.2
            exact ⟨j + i, hi.trans (World.drewN_drewN _ _ _)⟩⟩
        have hss : ((S : Int) == S) = true := by simp
        generalize decide (W = W2) = bb at *
        clear hat hat2 hbits hbits2 hs hlen hn hS
        go_enter Tryd.func43, Tryd.ntmps43
        go_wp2_with fail
        go_quiet (with_reducible exact l2 _)
        go_wp2_with fail
        go_ret
        exact ⟨by rw [HD.out]; rfl, below_drewN _ _⟩
      · have HD : Hid (decide (m = mo) = false) := hid (by rw [decide_eq_false_iff_not]; rintro rfl; exact hs rfl)
        have hss : ((m.length : Int) == mo.length) = false := by rw [beq_eq_false_iff_ne]; omega
        obtain ⟨S, hS⟩ : ∃ S, S = m.length := ⟨_, rfl⟩
        obtain ⟨S2, hS2⟩ : ∃ S, S = mo.length := ⟨_, rfl⟩
        rw [← hS] at hc0
        rw [← hS2] at hd0
        rw [← hS, ← hS2] at hss
        clear hat hat2 hbits hbits2 hs hS hS2
        go_enter Tryd.func43, Tryd.ntmps43
        go_wp2_with fail
        go_quiet (fail)
        go_wp2_with fail
        go_ret
        exact ⟨by rw [HD.out]; rfl, below_drewN _ _⟩
end Go.Proofs.YtjgnnofpilmgoaaDoor

