/- CONTRACTS OF THE DOCUMENT's DEVICE: writing. -/
import Derived.Test.YtgppmnaidgkboaaRefC
namespace Go.Proofs.Ytgppmnaidgkboaa
open Go.RowKit Go.Inc

/-- One version more that waits. -/
theorem RefAt.grewL {K w h ldv llv P L R} (H : RefAt K w h ldv llv P L R) {wm w' : World} {q : Item} {no : Int} {llv' : Value} (hb : Below w.heap.size w wm) (hs : Sl (fun b => w.heap.size ≤ b) wm q.a q.b) (hq : q.b.length = 256 ∧ 256 ≤ q.c ∧ q.c ≤ maxLen) (hno : 0 ≤ no ∧ no < P.length)
    (hown : w'.ownsRow 0 83 2 llv' (L.length + 1) (lcells L ++ [.int .i64 no, q.val])) (hat : llv'.ownBlock = llv.ownBlock ∨ ∃ b, llv'.ownBlock = some b ∧ wm.heap.size ≤ b) (hm : Mv (fun b => llv.ownBlock = some b ∨ b = h) wm w')
    (hrow : RefRow w' h ldv llv' R.off R.left R.r R.s R.t) :
    ∃ K', RefAt K' w' h ldv llv' P (L ++ [(no, q)]) { R with L := R.L ++ [(no, q.b)] } ∧ ∀ b, b < w.heap.size → K' b = K b := by
  have hlt : ∀ b, (llv.ownBlock = some b ∨ b = h) → b < w.heap.size := by
    rintro b (hb | rfl)
    · exact H.lt b (by rw [H.kl b hb]; decide)
    · exact H.lt _ (by rw [H.kh]; decide)
  obtain ⟨K', hK'⟩ : ∃ K' : Nat → Nat, K' = fun b => if b < w.heap.size then K b else if llv'.ownBlock = some b then 3 else if b < wm.heap.size then 4 else 0 := ⟨_, rfl⟩
  have hold : ∀ b, b < w.heap.size → K' b = K b := fun b hb => by rw [hK']; simp [hb]
  have hkeep : ∀ b, K b ≠ 0 → K' b = K b := fun b hb => hold b (H.lt b hb)
  have hmm : Mv (fun b => llv.ownBlock = some b ∨ b = h) w w' := (Mv.of_below hb).trans' hm fun _ _ h => h
  have hgood : ∀ q, Good K w q → Good K' w' q := fun q hq => ⟨(hq.1.mv hmm fun b hb hf => by
      rcases hf with hf | hf
      · have := H.kl b hf; omega
      · subst hf; have := H.kh; omega).mono fun b hb _ => by rw [hkeep b (by rw [hb]; decide)]; exact hb, hq.2⟩
  have hnew : Good K' w' q := by
    refine ⟨?_, hq⟩
    have hs' : Sl (fun b => w.heap.size ≤ b ∧ b < wm.heap.size) wm q.a q.b := hs.mono fun b h1 h2 => ⟨h1, h2⟩
    refine (hs'.mv hm fun b hb hF => ?_).mono fun b hb _ => ?_
    · have := hlt b hF; omega
    · have h1 : ¬ b < w.heap.size := by omega
      have h2 : ¬ llv'.ownBlock = some b := fun e => by
        rcases hat with h | ⟨c, h, hc⟩
        · rw [h] at e; have := hlt b (.inl e); omega
        · rw [h] at e; cases e; omega
      rw [hK']; simp [h1, h2, hb.2]
  refine ⟨K', ⟨hrow, owns_mv H.ld hmm (fun b hb' hf => ?_), ?_, fun x hx => hgood x (H.pall x hx), fun e he => ?_, H.pe, ?_, (hkeep h (by rw [H.kh]; decide)).trans H.kh, fun b hb' => ?_, fun b hb' => ?_, fun b hb' => ?_, H.lb, H.cnt⟩, hold⟩
  · rcases hf with hf | hf
    · have h1 := H.kl b hf; have h2 := H.kp b hb'; omega
    · subst hf; have h1 := H.kh; have h2 := H.kp _ hb'; omega
  · have e : lcells (L ++ [(no, q)]) = lcells L ++ [.int .i64 no, q.val] := by rw [lcells_append]; rfl
    rw [e]
    simpa using hown
  · rcases List.mem_append.1 he with he | he
    · exact ⟨hgood e.2 (H.lall e he).1, (H.lall e he).2⟩
    · rw [List.mem_singleton] at he
      subst he
      exact ⟨hnew, hno⟩
  · show R.L ++ [(no, q.b)] = _
    rw [H.le]; simp
  · rw [hkeep b (by rw [H.kp b hb']; decide)]; exact H.kp b hb'
  · by_cases hl : b < w.heap.size
    · rw [hold b hl]
      rcases hat with h | ⟨c, h, hc⟩
      · rw [h] at hb'; exact H.kl b hb'
      · rw [h] at hb'; cases hb'; have := hb.size; omega
    · rw [hK']; simp [hl, hb']
  · rw [hK'] at hb'
    simp only at hb'
    have := hmm.size
    have hws := hm.size
    split at hb'
    · omega
    · split at hb'
      · rename_i hvb
        rcases hown.2 with ⟨h0, _⟩ | ⟨g, cap, cur, hv, _, hg, _⟩
        · rw [h0] at hvb; cases hvb
        · rw [hv] at hvb; cases hvb
          exact row_lt hg
      · split at hb'
        · omega
        · exact absurd rfl hb'

theorem rwrite_down {K w h ldv llv P L R} (H : RefAt K w h ldv llv P L R) (x : Int) (a : Option Addr) (l cb : Nat) (ho : R.off = true) : Calls Try.prog 13 #[.pointer (some ⟨h, 0, none⟩), .int .i64 x, .slice a l cb] w fun e w' => e = .returned (.int .i64 9) ∧ w = w' := by
  have c2 := H.row.c2
  rw [ho] at c2
  clear H ho
  go_enter Try.func13, Try.ntmps13
  go_wp2
  go_ret
  exact ⟨rfl, rfl⟩
theorem rwrite_range {K w h ldv llv P L R} (H : RefAt K w h ldv llv P L R) (hp : 0 < P.length) (x : Int) (a : Option Addr) (l cb : Nat) (ho : R.off = false) (hx : ¬ (0 ≤ x ∧ x < P.length)) : Calls Try.prog 13 #[.pointer (some ⟨h, 0, none⟩), .int .i64 x, .slice a l cb] w fun e w' => e = .returned (.int .i64 10) ∧ w = w' := by
  have c2 := H.row.c2
  have c0 := H.row.c0
  rw [ho] at c2
  obtain ⟨b, c, rfl, _⟩ := H.pshape hp
  generalize P.length = p at *
  clear H ho
  by_cases h0 : x < 0
  · have h1 : decide (x < 0) = true := decide_eq_true h0
    go_enter Try.func13, Try.ntmps13
    go_wp2
    go_ret
    exact ⟨rfl, rfl⟩
  · have h1 : decide (x < 0) = false := decide_eq_false h0
    have h2 : decide ((p : Int) ≤ x) = true := decide_eq_true (by omega)
    go_enter Try.func13, Try.ntmps13
    go_wp2
    go_ret
    exact ⟨rfl, rfl⟩
theorem rwrite_long {K w h ldv llv P L R} (H : RefAt K w h ldv llv P L R) (x : Int) (a : Option Addr) (l cb : Nat) (ho : R.off = false) (hx : 0 ≤ x ∧ x < P.length) (hl : l ≠ 256) : Calls Try.prog 13 #[.pointer (some ⟨h, 0, none⟩), .int .i64 x, .slice a l cb] w fun e w' => e = .returned (.int .i64 2) ∧ w = w' := by
  have c2 := H.row.c2
  have c0 := H.row.c0
  rw [ho] at c2
  obtain ⟨b, c, rfl, _⟩ := H.pshape (by omega)
  generalize P.length = p at *
  have h1 : decide (x < 0) = false := decide_eq_false (by omega)
  have h2 : decide ((p : Int) ≤ x) = false := decide_eq_false (by omega)
  have h3 : ((l : Int) != 256) = true := by rw [bne_iff_ne]; omega
  clear H ho hl
  go_enter Try.func13, Try.ntmps13
  go_wp2
  go_ret
  exact ⟨rfl, rfl⟩
theorem rwrite_spent {K w h ldv llv P L R} (H : RefAt K w h ldv llv P L R) (x : Int) (a : Option Addr) (cb : Nat) (ho : R.off = false) (hx : 0 ≤ x ∧ x < P.length) (h0 : R.left = 0) :
    Calls Try.prog 13 #[.pointer (some ⟨h, 0, none⟩), .int .i64 x, .slice a 256 cb] w fun e w' => e = .returned (.int .i64 9) ∧ RefAt K w' h ldv llv P L { R with off := true } ∧ Mv (fun b => b = h) w w' := by
  have c2 := H.row.c2
  have c0 := H.row.c0
  rw [ho] at c2
  have HU := hid (use_any H)
  obtain ⟨b, c, rfl, _⟩ := H.pshape (by omega)
  have hd : decide (R.left ≠ 0) = false := by simp [h0]
  have he : ({ R with off := R.off || decide (R.left = 0), left := useLeft R.left } : Rs) = { R with off := true } := by
    rw [ho, h0]; rfl
  rw [hd, he] at HU
  generalize P.length = p at *
  have h1 : decide (x < 0) = false := decide_eq_false (by omega)
  have h2 : decide ((p : Int) ≤ x) = false := decide_eq_false (by omega)
  clear H ho h0 hd he
  go_enter Try.func13, Try.ntmps13
  go_wp2_with fail
  refine HU.out.mono ?_
  rintro e w1 ⟨rfl, hr, hm⟩
  have HR := hid hr
  have HM := hid hm
  clear hr hm
  go_wp2_with fail
  go_ret
  exact ⟨rfl, HR.out, HM.out⟩
end Go.Proofs.Ytgppmnaidgkboaa
