/- THE TWO DEVICES, SIDE BY SIDE: what is the same, call by call. -/
import Derived.Test.YtgppmnaidgkboaaRefI
namespace Go.Proofs.Ytgppmnaidgkboaa
open Go.RowKit Go.Inc

/-- The document's device of p pages. -/
def Rp (K : Nat → Nat) (w : World) (h p : Nat) (R : Rs) : Prop := ∃ ldv llv P L, RefAt K w h ldv llv P L R ∧ P.length = p ∧ 0 < p ∧ p ≤ 20
/-- The two are in the same state. -/
structure Eqv (p : Nat) (S : St) (R : Rs) : Prop where
  on : S.on = !R.off
  pgs : ∀ k, k < p → pg S.B k = R.P.getD k []
  W : ∀ x, S.W x = vsOf R.L x
  left : (S.armed = true ∧ S.left = R.left ∧ 0 ≤ R.left) ∨ (S.armed = false ∧ R.left < 0)
  r : S.r = R.r
  s : S.s = R.s
  t : S.t = R.t
theorem Eqv.spend {p S R} (E : Eqv p S R) : spendOk S.armed S.left = decide (R.left ≠ 0) ∧ ((S.armed = true ∧ spendLeft S.armed S.left = useLeft R.left ∧ 0 ≤ useLeft R.left) ∨ (S.armed = false ∧ useLeft R.left < 0)) := by
  unfold spendOk spendLeft useLeft
  rcases E.left with ⟨h1, h2, h3⟩ | ⟨h1, h2⟩
  · rw [h1, h2]
    refine ⟨by simp, .inl ⟨rfl, ?_, ?_⟩⟩
    · by_cases h0 : R.left = 0
      · simp [h0]
      · rw [if_pos ⟨rfl, h0⟩, if_pos (by omega)]
    · split <;> omega
  · rw [h1]
    refine ⟨by simp; omega, .inr ⟨rfl, ?_⟩⟩
    rw [if_neg (by omega)]; exact h2
section
variable {C K : Nat → Nat} {w w' : World} {g h p n : Nat} {S : St} {R : Rs}
theorem Rp.keep (H : Rp K w h p R) {F : Nat → Prop} (hm : Mv F w w') (hF : ∀ b, F b → K b = 0) : Rp K w' h p R := let ⟨a, b, c, d, h, r⟩ := H; ⟨a, b, c, d, h.keep hm hF, r⟩
theorem Rp.new (H : Rp K w h p R) {b : Nat} (hb : w.heap.size ≤ b) : K b = 0 := let ⟨_, _, _, _, h, _⟩ := H; h.new hb
theorem Rp.kh (H : Rp K w h p R) : K h = 1 := let ⟨_, _, _, _, h, _⟩ := H; h.kh
theorem Rp.dom (H : Rp K w h p R) : ∀ e ∈ R.L, 0 ≤ e.1 ∧ e.1 < (p : Int) := by
  obtain ⟨_, _, P, L, h, hp, _⟩ := H
  intro e he
  rw [h.le] at he
  obtain ⟨x, hx, rfl⟩ := List.mem_map.1 he
  rw [← hp]
  exact (h.lall x hx).2
theorem Rp.plen (H : Rp K w h p R) : R.P.length = p := by
  obtain ⟨_, _, P, L, h, hp, _⟩ := H
  rw [h.plen]; exact hp

/-! Writing. -/
def rw' (p : Nat) (R : Rs) (x : Int) (bs : List Nat) : Int × Rs :=
  if R.off = true then (9, R) else if ¬ (0 ≤ x ∧ x < (p : Int)) then (10, R) else if bs.length ≠ 256 then (2, R) else if R.left = 0 then (9, { R with off := true }) else (0, { R with L := R.L ++ [(x, bs)], left := useLeft R.left, s := R.s + 1 })
theorem rp_write (H : Rp K w h p R) (x : Int) (ok : Nat → Prop) (a : Option Addr) (cb : Nat) (bs : List Nat) (hsl : Sl ok w a bs) (hok : ∀ b, ok b → K b = 0) (hll : R.L.length ≤ 1000) (hs : R.s ≤ 1000000) :
    Calls Try.prog 13 #[.pointer (some ⟨h, 0, none⟩), .int .i64 x, .slice a bs.length cb] w fun e w' => e = .returned (.int .i64 (rw' p R x bs).1) ∧ (∃ K', Rp K' w' h p (rw' p R x bs).2 ∧ ∀ b, b < w.heap.size → K' b = K b) ∧ Mv (fun b => K b ≠ 0) w w' := by
  obtain ⟨ldv, llv, P, L, h1, rfl, hp, hp2⟩ := H
  have hll' : L.length ≤ 1000 := by rw [← h1.llen]; exact hll
  have hkh : K h ≠ 0 := by rw [h1.kh]; decide
  unfold rw'
  by_cases ho : R.off = true
  · rw [if_pos ho]
    refine (rwrite_down h1 x a _ cb ho).mono ?_
    rintro e w' ⟨rfl, rfl⟩
    exact ⟨rfl, ⟨K, ⟨_, _, _, _, h1, rfl, hp, hp2⟩, fun _ _ => rfl⟩, Mv.refl _ _⟩
  · have ho' : R.off = false := by simpa using ho
    rw [if_neg ho]
    by_cases hx : 0 ≤ x ∧ x < (P.length : Int)
    · rw [if_neg (fun hn => hn hx)]
      by_cases hb : bs.length = 256
      · rw [if_neg (fun hn => hn hb)]
        by_cases h0 : R.left = 0
        · rw [if_pos h0, hb]
          refine (rwrite_spent h1 x a cb ho' hx h0).mono ?_
          rintro e w' ⟨rfl, hr, hm⟩
          exact ⟨rfl, ⟨K, ⟨_, _, _, _, hr, rfl, hp, hp2⟩, fun _ _ => rfl⟩, hm.sub fun b _ e => by subst e; exact hkh⟩
        · rw [if_neg h0, hb]
          obtain ⟨k, rfl⟩ := Int.eq_ofNat_of_zero_le hx.1
          refine (rwrite_any h1 k ok a cb bs hsl hok hb ho' (by omega) hp2 hll' h0 hs).mono ?_
          rintro e w' ⟨rfl, ⟨K', llv', L', hr, he⟩, hm⟩
          exact ⟨rfl, ⟨K', ⟨_, _, _, _, hr, rfl, hp, hp2⟩, he⟩, hm⟩
      · rw [if_pos hb]
        refine (rwrite_long h1 x a _ cb ho' hx hb).mono ?_
        rintro e w' ⟨rfl, rfl⟩
        exact ⟨rfl, ⟨K, ⟨_, _, _, _, h1, rfl, hp, hp2⟩, fun _ _ => rfl⟩, Mv.refl _ _⟩
    · rw [if_pos hx]
      refine (rwrite_range h1 hp x a _ cb ho' hx).mono ?_
      rintro e w' ⟨rfl, rfl⟩
      exact ⟨rfl, ⟨K, ⟨_, _, _, _, h1, rfl, hp, hp2⟩, fun _ _ => rfl⟩, Mv.refl _ _⟩
theorem dp_write (H : Dv C w g p n S) (E : Eqv p S R) (x : Int) (ok : Nat → Prop) (a : Option Addr) (cb : Nat) (bs : List Nat) (hsl : Sl ok w a bs) (hok : ∀ b, ok b → C b = 0) (hn : n ≤ 1000000) (hs : R.s ≤ 1000000) :
    Calls Try.prog 14 #[.pointer (some ⟨g, 0, none⟩), .int .i64 x, .slice a bs.length cb] w fun e w' => e = .returned (.int .i64 (rw' p R x bs).1) ∧ (∃ C' S', Dv C' w' g p (n + 1) S' ∧ Ext w C C' ∧ Eqv p S' (rw' p R x bs).2) ∧ Mv (fun b => C b ≠ 0) w w' := by
  unfold rw'
  have hsp := E.spend
  have hon := E.on
  by_cases ho : R.off = true
  · rw [if_pos ho]
    refine (dv_write_down H x a _ cb (by rw [hon, ho]; rfl)).mono ?_
    rintro e w' ⟨rfl, rfl⟩
    exact ⟨rfl, ⟨C, S, H.mono (by omega), fun _ _ => rfl, E⟩, Mv.refl _ _⟩
  · have ho' : R.off = false := by simpa using ho
    have hson : S.on = true := by rw [hon, ho']; rfl
    rw [if_neg ho]
    by_cases hx : 0 ≤ x ∧ x < (p : Int)
    · rw [if_neg (fun hn => hn hx)]
      by_cases hb : bs.length = 256
      · rw [if_neg (fun hn => hn hb)]
        by_cases h0 : R.left = 0
        · rw [if_pos h0, hb]
          refine (dv_write_spent H x a cb hson hx (by rw [hsp.1]; simp [h0])).mono ?_
          rintro e w' ⟨rfl, hr, hm⟩
          refine ⟨rfl, ⟨C, _, hr.mono (by omega), fun _ _ => rfl, { E with on := rfl, left := ?_ }⟩, hm⟩
          have h2 := hsp.2
          unfold useLeft at h2
          rw [if_neg (by omega)] at h2
          exact h2
        · rw [if_neg h0, hb]
          obtain ⟨k, rfl⟩ := Int.eq_ofNat_of_zero_le hx.1
          refine (dv_write H k (by omega) ok a cb bs hsl hok hb hson (by rw [hsp.1]; simp [h0]) hn (by rw [E.s]; exact hs)).mono ?_
          rintro e w' ⟨rfl, ⟨C', hr, he⟩, hm⟩
          refine ⟨rfl, ⟨C', _, hr, he, { E with W := fun y => ?_, left := hsp.2, s := by show S.s + 1 = R.s + 1; rw [E.s] }⟩, hm⟩
          show addW S.W k bs y = vsOf (R.L ++ [((k : Int), bs)]) y
          rw [vsOf_snoc, ← E.W y]
          unfold addW
          by_cases hy : y = (k : Int)
          · subst hy; simp
          · have hy' : (k : Int) ≠ y := fun e => hy e.symm
            simp [hy, hy']
      · rw [if_pos hb]
        refine (dv_write_long H x a _ cb hson hx hb).mono ?_
        rintro e w' ⟨rfl, rfl⟩
        exact ⟨rfl, ⟨C, S, H.mono (by omega), fun _ _ => rfl, E⟩, Mv.refl _ _⟩
    · rw [if_pos hx]
      refine (dv_write_range H x a _ cb hson hx).mono ?_
      rintro e w' ⟨rfl, rfl⟩
      exact ⟨rfl, ⟨C, S, H.mono (by omega), fun _ _ => rfl, E⟩, Mv.refl _ _⟩

/-! Syncing. -/
def rsy (R : Rs) : Int × Rs := if R.off = true then (9, R) else if R.left = 0 then (9, { R with off := true }) else (0, { R with P := syncB R.P R.L, L := [], left := useLeft R.left, t := R.t + 1 })
theorem rp_sync (H : Rp K w h p R) (hll : R.L.length ≤ 1000) (ht : R.t ≤ 1000000) :
    Calls Try.prog 16 #[.pointer (some ⟨h, 0, none⟩)] w fun e w' => e = .returned (.int .i64 (rsy R).1) ∧ Rp K w' h p (rsy R).2 ∧ Mv (fun b => K b ≠ 0) w w' := by
  obtain ⟨ldv, llv, P, L, h1, rfl, hp, hp2⟩ := H
  have hll' : L.length ≤ 1000 := by rw [← h1.llen]; exact hll
  have hkh : K h ≠ 0 := by rw [h1.kh]; decide
  unfold rsy
  by_cases ho : R.off = true
  · rw [if_pos ho]
    refine (rsync_down h1 ho).mono ?_
    rintro e w' ⟨rfl, rfl⟩
    exact ⟨rfl, ⟨_, _, _, _, h1, rfl, hp, hp2⟩, Mv.refl _ _⟩
  · have ho' : R.off = false := by simpa using ho
    rw [if_neg ho]
    by_cases h0 : R.left = 0
    · rw [if_pos h0]
      refine (rsync_spent h1 ho' h0).mono ?_
      rintro e w' ⟨rfl, hr, hm⟩
      exact ⟨rfl, ⟨_, _, _, _, hr, rfl, hp, hp2⟩, hm.sub fun b _ e => by subst e; exact hkh⟩
    · rw [if_neg h0]
      refine (rsync_any h1 hp hp2 hll' ho' h0 ht).mono ?_
      rintro e w' ⟨rfl, hr, hm⟩
      exact ⟨rfl, ⟨_, _, _, _, hr, syncI_len _ _, hp, hp2⟩, hm⟩
theorem dp_sync (H : Dv C w g p n S) (hR : Rp K w' h p R) (E : Eqv p S R) (hn : n ≤ 1000000) (ht : R.t ≤ 1000000) :
    Calls Try.prog 15 #[.pointer (some ⟨g, 0, none⟩)] w fun e w' => e = .returned (.int .i64 (rsy R).1) ∧ (∃ S', Dv C w' g p n S' ∧ Eqv p S' (rsy R).2) ∧ Mv (fun b => C b ≠ 0) w w' := by
  unfold rsy
  have hsp := E.spend
  have hon := E.on
  by_cases ho : R.off = true
  · rw [if_pos ho]
    refine (dv_sync_down H (by rw [hon, ho]; rfl)).mono ?_
    rintro e w' ⟨rfl, rfl⟩
    exact ⟨rfl, ⟨S, H, E⟩, Mv.refl _ _⟩
  · have ho' : R.off = false := by simpa using ho
    have hson : S.on = true := by rw [hon, ho']; rfl
    rw [if_neg ho]
    by_cases h0 : R.left = 0
    · rw [if_pos h0]
      refine (dv_sync_spent H hson (by rw [hsp.1]; simp [h0])).mono ?_
      rintro e w' ⟨rfl, hr, hm⟩
      refine ⟨rfl, ⟨_, hr, { E with on := rfl, left := ?_ }⟩, hm⟩
      have h2 := hsp.2
      unfold useLeft at h2
      rw [if_neg (by omega)] at h2
      exact h2
    · rw [if_neg h0]
      refine (dv_sync H hson (by rw [hsp.1]; simp [h0]) hn (by rw [E.t]; exact ht)).mono ?_
      rintro e w' ⟨rfl, ⟨B, hr, hB⟩, hm⟩
      refine ⟨rfl, ⟨_, hr.mono (Nat.zero_le _), { E with pgs := fun k hk => ?_, W := fun _ => rfl, left := hsp.2, t := by show S.t + 1 = R.t + 1; rw [E.t] }⟩, hm⟩
      show pg B k = (syncB R.P R.L).getD k []
      rw [hB k hk, syncB_get _ _ (by rw [hR.plen]; exact hk) fun e he => (hR.dom e he).1]
      unfold rd lastOr
      rw [E.W k, E.pgs k hk]

/-! Crashing. -/
theorem rp_crash (H : Rp K w h p R) (hll : R.L.length ≤ 1000) (ok : Nat → Prop) (a : Option Addr) (cap : Nat) (ks : List Kp) (hk : KpS ok w a ks) (hok : ∀ b, ok b → K b = 0) (hl : ks.length ≤ 1000) :
    Calls Try.prog 19 #[.pointer (some ⟨h, 0, none⟩), .slice a ks.length cap] w fun e w' => e = .returned (.int .i64 ((tot (rcnt R ks) p : Nat) : Int)) ∧
      (∃ K' R', Rp K' w' h p R' ∧ R' = { R with P := R'.P, L := [], off := true } ∧ (∀ k, k < p → R'.P.getD k [] = rpg R ks k) ∧ ∀ b, b < w.heap.size → K' b = K b) ∧ Mv (fun b => K b ≠ 0) w w' := by
  obtain ⟨ldv, llv, P, L, h1, rfl, hp, hp2⟩ := H
  refine (rcrash_any h1 hp hp2 (by rw [← h1.llen]; exact hll) ok a cap ks hk hok hl).mono ?_
  rintro e w' ⟨rfl, ⟨K', P', hr, he, hl', hP⟩, hm⟩
  exact ⟨rfl, ⟨K', _, ⟨_, _, _, _, hr, hl', hp, hp2⟩, rfl, hP, he⟩, hm⟩
theorem dp_crash (H : Dv C w g p n S) (E : Eqv p S R) (ok : Nat → Prop) (a : Option Addr) (cap : Nat) (ks : List Kp) (hk : KpS ok w a ks) (hok : ∀ b, ok b → C b = 0) (hn : n ≤ 1000000) (hl : ks.length ≤ 1000) :
    Calls Try.prog 18 #[.pointer (some ⟨g, 0, none⟩), .slice a ks.length cap] w fun e w' => e = .returned (.int .i64 ((tot (rcnt R ks) p : Nat) : Int)) ∧
      (∃ S', Dv C w' g p n S' ∧ ∀ R', R' = { R with P := R'.P, L := [], off := true } → (∀ k, k < p → R'.P.getD k [] = rpg R ks k) → Eqv p S' R') ∧ Mv (fun b => C b ≠ 0) w w' := by
  refine (dv_crash H ok a cap ks hk hok hn hl).mono ?_
  rintro e w' ⟨rfl, hd, hm⟩
  have hcnt : (crashAll S ks).2.2 = tot (rcnt R ks) p := by
    rw [crash_cnt H ks]
    refine tot_congr fun k _ => ?_
    unfold cntOf rcnt
    simp only
    rw [E.W k]
    cases first ks k <;> rfl
  refine ⟨by rw [hcnt], ⟨_, hd.mono (Nat.zero_le _), fun R' h1 h2 => ?_⟩, hm⟩
  rw [h1]
  refine { E with on := rfl, W := fun _ => rfl, pgs := fun k hk => ?_ }
  show pg (crashAll S ks).2.1 k = R'.P.getD k []
  rw [crash_pg H ks hk, h2 k hk]
  unfold pgOf rpg
  simp only
  rw [E.W k, E.pgs k hk]
  cases first ks k <;> rfl

/-! Power, arming. -/
theorem rp_power (H : Rp K w h p R) :
    Calls Try.prog 21 #[.pointer (some ⟨h, 0, none⟩)] w fun e w' => e = .returned (.tuple #[]) ∧ Rp K w' h p { R with L := [], off := false, left := -1 } ∧ Mv (fun b => K b ≠ 0) w w' := by
  obtain ⟨ldv, llv, P, L, h1, hl, hp⟩ := H
  refine (rpower_any h1).mono ?_
  rintro e w' ⟨rfl, hr, hm⟩
  exact ⟨rfl, ⟨_, _, _, _, hr, hl, hp⟩, hm.sub fun b _ e => by subst e; rw [h1.kh]; decide⟩
theorem Eqv.power (E : Eqv p S R) : Eqv p { S with on := true, armed := false, left := 0, W := fun _ => [] } { R with L := [], off := false, left := -1 } :=
  { E with on := rfl, W := fun _ => rfl, left := .inr ⟨rfl, (by decide : (-1 : Int) < 0)⟩ }
theorem Eqv.arm (E : Eqv p S R) (k : Int) : Eqv p { S with armed := decide (0 ≤ k), left := k } { R with left := max k (-1) } := by
  have hl : (decide (0 ≤ k) = true ∧ k = max k (-1) ∧ 0 ≤ max k (-1)) ∨ (decide (0 ≤ k) = false ∧ max k (-1) < 0) := by
    by_cases hk : 0 ≤ k
    · exact .inl ⟨decide_eq_true hk, by omega, by omega⟩
    · exact .inr ⟨decide_eq_false hk, by omega⟩
  exact { E with left := hl }
theorem Rp.row (H : Rp K w h p R) : ∃ ldv llc, ∃ la : Option Addr, RefRow w h ldv (.slice la R.L.length llc) R.off R.left R.r R.s R.t := by
  obtain ⟨ldv, llv, P, L, h1, hl, hp⟩ := H
  obtain ⟨la, lc, rfl, _⟩ := h1.lshape
  rw [h1.llen]
  exact ⟨_, _, _, h1.row⟩
theorem Rp.arm (H : Rp K w h p R) (k : Int) (hk : -1 ≤ k ∧ k ≤ 9223372036854775807) : Rp K (w.setCell ⟨h, 3, none⟩ (.int .i64 k)) h p { R with left := k } ∧ Mv (fun b => K b ≠ 0) w (w.setCell ⟨h, 3, none⟩ (.int .i64 k)) := by
  obtain ⟨ldv, llv, P, L, h1, hl, hp⟩ := H
  have hm : Mv (fun b => b = h) w (w.setCell ⟨h, 3, none⟩ (.int .i64 k)) := Mv.of_grown (r := some h) (grown_setCell (grown_refl _ _) (.inl rfl) _) fun g h _ => by cases h; rfl
  exact ⟨⟨_, _, _, _, h1.turn hm (fun _ h => h) (h1.row.s3 k) hk h1.cnt, hl, hp⟩, hm.sub fun b _ e => by subst e; rw [h1.kh]; decide⟩

/-! Reading. -/
def rre (p : Nat) (R : Rs) (x : Int) : Int × List Nat × Rs := if R.off = true then (9, [], R) else if ¬ (0 ≤ x ∧ x < (p : Int)) then (10, [], R) else (0, rread R x.toNat, { R with r := R.r + 1 })
/-- What is read: a slice of these bytes, outside of what is coloured, or of the document's own. -/
theorem rp_read (H : Rp K w h p R) (x : Int) (hll : R.L.length ≤ 1000) (hr : R.r ≤ 1000000) :
    Calls Try.prog 24 #[.pointer (some ⟨h, 0, none⟩), .int .i64 x] w fun e w' => ∃ a c, e = .returned (.tuple #[.slice a (rre p R x).2.1.length c, .int .i64 (rre p R x).1]) ∧ Sl (fun _ => True) w' a (rre p R x).2.1 ∧ (rre p R x).2.1.length ≤ 256 ∧ Rp K w' h p (rre p R x).2.2 ∧ Mv (fun b => K b ≠ 0) w w' := by
  obtain ⟨ldv, llv, P, L, h1, rfl, hp, hp2⟩ := H
  have hkh : K h ≠ 0 := by rw [h1.kh]; decide
  unfold rre
  by_cases ho : R.off = true
  · rw [if_pos ho]
    refine (rread_down h1 x ho).mono ?_
    rintro e w' ⟨rfl, rfl⟩
    exact ⟨none, 0, rfl, Sl.nil _ _ _, Nat.zero_le _, ⟨_, _, _, _, h1, rfl, hp, hp2⟩, Mv.refl _ _⟩
  · have ho' : R.off = false := by simpa using ho
    rw [if_neg ho]
    by_cases hx : 0 ≤ x ∧ x < (P.length : Int)
    · rw [if_neg (fun hn => hn hx)]
      obtain ⟨k, rfl⟩ := Int.eq_ofNat_of_zero_le hx.1
      refine (rread_any h1 k (by omega) hp2 (by rw [← h1.llen]; exact hll) ho' hr).mono ?_
      rintro e w' ⟨q, rfl, hg, hb, hR, hm⟩
      have hb' : rread R (k : Int).toNat = q.b := hb.symm
      refine ⟨q.a, q.c, ?_, ?_, ?_, ⟨_, _, _, _, hR, rfl, hp, hp2⟩, hm.sub fun b _ e => by subst e; exact hkh⟩
      · show _ = Ending.returned (.tuple #[.slice q.a (rread R (k : Int).toNat).length q.c, .int .i64 0])
        rw [hb', hg.2.1]
      · show Sl _ w' q.a (rread R (k : Int).toNat)
        rw [hb']
        exact hg.1.mono fun _ _ _ => trivial
      · show (rread R (k : Int).toNat).length ≤ 256
        rw [hb', hg.2.1]
        exact Nat.le_refl _
    · rw [if_pos hx]
      refine (rread_range h1 hp x ho' hx).mono ?_
      rintro e w' ⟨rfl, rfl⟩
      exact ⟨none, 0, rfl, Sl.nil _ _ _, Nat.zero_le _, ⟨_, _, _, _, h1, rfl, hp, hp2⟩, Mv.refl _ _⟩
theorem dp_read (H : Dv C w g p n S) (E : Eqv p S R) (x : Int) (hn : n ≤ 1000000) (hr : R.r ≤ 1000000) :
    Calls Try.prog 23 #[.pointer (some ⟨g, 0, none⟩), .int .i64 x] w fun e w' => ∃ a c, e = .returned (.tuple #[.slice a (rre p R x).2.1.length c, .int .i64 (rre p R x).1]) ∧ Sl (fun b => w.heap.size ≤ b) w' a (rre p R x).2.1 ∧ (rre p R x).2.1.length ≤ 256 ∧ (∃ S', Dv C w' g p n S' ∧ Eqv p S' (rre p R x).2.2) ∧ Mv (fun b => C b ≠ 0) w w' := by
  unfold rre
  have hon := E.on
  by_cases ho : R.off = true
  · rw [if_pos ho]
    refine (dv_read_down H x (by rw [hon, ho]; rfl)).mono ?_
    rintro e w' ⟨rfl, rfl⟩
    exact ⟨none, 0, rfl, Sl.nil _ _ _, Nat.zero_le _, ⟨S, H, E⟩, Mv.refl _ _⟩
  · have ho' : R.off = false := by simpa using ho
    have hson : S.on = true := by rw [hon, ho']; rfl
    rw [if_neg ho]
    by_cases hx : 0 ≤ x ∧ x < (p : Int)
    · rw [if_neg (fun hn => hn hx)]
      obtain ⟨k, rfl⟩ := Int.eq_ofNat_of_zero_le hx.1
      have hk : k < p := by omega
      have hrd : rd S k = rread R (k : Int).toNat := by
        unfold rd rread lastOr
        rw [E.W k, E.pgs k hk]
        rfl
      refine (dv_read H k hk hson hn (by rw [E.r]; exact hr)).mono ?_
      rintro e w' ⟨v, rfl, hv, hd, hm⟩
      obtain ⟨a, c, rfl, _, _, _, hs⟩ := hv.sl
      have hl := rd_len H hk
      refine ⟨a, c, ?_, ?_, ?_, ⟨_, hd, { E with r := by show S.r + 1 = R.r + 1; rw [E.r] }⟩, hm⟩
      · rw [hrd]
      · show Sl _ w' a (rread R (k : Int).toNat)
        rw [← hrd]; exact hs
      · show (rread R (k : Int).toNat).length ≤ 256
        rw [← hrd, hl]; exact Nat.le_refl _
    · rw [if_pos hx]
      refine (dv_read_range H x hson hx).mono ?_
      rintro e w' ⟨rfl, rfl⟩
      exact ⟨none, 0, rfl, Sl.nil _ _ _, Nat.zero_le _, ⟨S, H, E⟩, Mv.refl _ _⟩
/-! The image, and what waits. -/
theorem rp_image (H : Rp K w h p R) : Calls Try.prog 29 #[.pointer (some ⟨h, 0, none⟩)] w fun e w' => ∃ v, e = .returned v ∧ Row 5 w.heap.size w' v R.P.flatten ∧ Below w.heap.size w w' := by
  obtain ⟨_, _, P, L, h1, hl, hp, hp2⟩ := H
  exact rimage_any h1 (by omega) (by omega)
theorem flat_pages : ∀ (Q : List (List Nat)) (B : List Nat), (∀ q ∈ Q, q.length = 256) → B.length = 256 * Q.length → (∀ k, k < Q.length → pg B k = Q.getD k []) → B = Q.flatten
  | [], B, _, hB, _ => List.eq_nil_of_length_eq_zero (by simpa using hB)
  | q :: r, B, hq, hB, hp => by
    have h0 := hp 0 (by simp)
    have h1 : B.take 256 = q := h0
    rw [List.flatten_cons, ← h1, ← flat_pages r (B.drop 256) (fun x hx => hq x (List.mem_cons_of_mem _ hx)) (by rw [List.length_drop, hB, List.length_cons]; omega) (fun k hk => ?_), List.take_append_drop]
    have h2 := hp (k + 1) (by rw [List.length_cons]; omega)
    have h3 : (q :: r).getD (k + 1) [] = r.getD k [] := rfl
    rw [← h3, ← h2]
    unfold pg
    rw [List.drop_drop]
    congr 2
    omega
theorem image_eq (H : Dv C w g p n S) (HR : Rp K w' h p R) (E : Eqv p S R) : S.B = R.P.flatten := by
  refine flat_pages R.P S.B (fun q hq => ?_) (by rw [H.len, HR.plen]) fun k hk => E.pgs k (by rw [← HR.plen]; exact hk)
  obtain ⟨_, _, P, L, h1, _⟩ := HR
  rw [h1.pe] at hq
  obtain ⟨x, hx, rfl⟩ := List.mem_map.1 hq
  exact (h1.pall x hx).2.1
theorem tot_bump {F G : Nat → Nat} {i : Nat} : ∀ {p : Nat}, i < p → (∀ j, j ≠ i → G j = F j) → G i = F i + 1 → tot G p = tot F p + 1
  | 0, h, _, _ => by omega
  | p + 1, h, hF, h0 => by
    unfold tot
    by_cases hip : i = p
    · subst hip
      rw [tot_congr (F := G) (G := F) fun j hj => hF j (by omega), h0]
      omega
    · rw [tot_bump (p := p) (by omega) hF h0, hF p (by omega)]
      omega
theorem tot_vs {p : Nat} : ∀ (L : List (Int × List Nat)), (∀ e ∈ L, 0 ≤ e.1 ∧ e.1 < (p : Int)) → tot (fun i => (vsOf L (i : Nat)).length) p = L.length
  | [], _ => tot_zero fun _ _ => rfl
  | e :: r, h => by
    obtain ⟨h1, h2⟩ := h e List.mem_cons_self
    rw [List.length_cons, ← tot_vs r fun x hx => h x (List.mem_cons_of_mem _ hx)]
    refine tot_bump (i := e.1.toNat) (by omega) (fun j hj => ?_) ?_
    · unfold vsOf
      rw [List.filter_cons_of_neg (by simp; omega)]
    · unfold vsOf
      rw [List.filter_cons_of_pos (by simp; omega)]
      rfl
theorem waiting_eq (HR : Rp K w' h p R) (E : Eqv p S R) : tot (fun i => (S.W i).length) p = R.L.length := by
  rw [← tot_vs R.L HR.dom]
  exact tot_congr fun i _ => by rw [E.W i]
end
end Go.Proofs.Ytgppmnaidgkboaa
