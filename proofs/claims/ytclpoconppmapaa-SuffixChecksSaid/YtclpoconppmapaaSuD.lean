/- CONTRACTS (suffix, as it landed): Kinds, Firsts; whether places are there. -/
import Derived.Test.YtclpoconppmapaaSuC
namespace Go.Inc
open Go.RowKit
theorem ckT_i64 {x : List Int} (h : ckT x = 0) : ∀ z ∈ x, i64s z := fun z hz => by
  have := (ckT_zero h).2.1 z hz
  unfold i64s; omega
/-- Handed back: a new slice of these, and no error. -/
def NewS (w : World) (zs : List Int) (e : Ending) (w' : World) : Prop := ∃ u, e = .returned (.tuple #[u, .int .i64 0]) ∧ So (fun g => w.heap.size ≤ g) w' u zs ∧ Below w.heap.size w w'
/-- Is a number no place? -/
def placeB (n : Nat) (z : Int) : Bool := decide (z < 0) || decide ((n : Int) ≤ z)
theorem placeB_iff {n : Nat} {z : Int} : placeB n z = false ↔ 0 ≤ z ∧ z < n := by unfold placeB; simp
theorem allocU (w : World) (o : Obj) : Below w.heap.size w (w.alloc o) := (Below.refl _ _).alloc (Nat.le_refl _) _
end Go.Inc
namespace Go.Proofs.Ytclpoconppmapaa
open Go.RowKit Go.Inc
set_option maxRecDepth 20000 in
set_option maxHeartbeats 1000000 in
theorem suKinds (ok : Nat → Prop) (w : World) (v : Value) (zs : List Int) (hs : So ok w v zs) (hl : zs.length ≤ 65536) (hk : ckT zs = 0) :
    Calls Try.prog 10 #[v] w fun e w' => ∃ u cu, e = .returned (.tuple #[.slice u zs.length cu, .int .i64 0]) ∧ Bl (fun g => w.heap.size ≤ g) w' u (kdTo zs zs.length) ∧ Below w.heap.size w w' := by
  have HC := hid (check_any ok w v zs hs hl (ckT_i64 hk))
  rw [hk] at HC
  obtain ⟨a, c, rfl, hsi, -, -, -⟩ := hs
  have HK := hid (kinds_any ok w a c zs hsi (ckT_zero hk).2.2 (by omega))
  have HKL := hid (kdTo_len zs zs.length)
  obtain ⟨n, hn⟩ : ∃ n, n = zs.length := ⟨_, rfl⟩
  rw [← hn] at HK HKL HC ⊢
  clear hsi hl hk hn
  go_enter Try.func10, Try.ntmps10
  go_wp2_with fail
  refine HC.out.mono ?_
  rintro e w' ⟨rfl, rfl⟩
  go_wp2_with fail
  refine HK.out.mono ?_
  rintro e w1 ⟨u, rfl, hu, hb⟩
  obtain ⟨ka, kc, rfl, -, -, -, -, hkb⟩ := Bl.owned hu
  rw [HKL.out]
  have HB := hid hb
  have HKB := hid hkb
  clear HK HC hu hb hkb
  go_wp2_with fail
  go_ret2
  exact ⟨ka, kc, rfl, HKB.out, HB.out⟩
set_option maxRecDepth 20000 in
set_option maxHeartbeats 1000000 in
theorem suKindsE (ok : Nat → Prop) (w : World) (v : Value) (zs : List Int) (hs : So ok w v zs) (hl : zs.length ≤ 65536) (hz : ∀ z ∈ zs, i64s z) (hk : ckT zs ≠ 0) :
    Calls Try.prog 10 #[v] w fun e w' => ∃ u, e = .returned (.tuple #[u, .int .i64 ((ckT zs : Nat) : Int)]) ∧ Below w.heap.size w w' := by
  have HC := hid (check_any ok w v zs hs hl hz)
  obtain ⟨k, hkk⟩ : ∃ k, k = ckT zs := ⟨_, rfl⟩
  rw [← hkk] at HC hk ⊢
  have hk0 : ((k : Int) != 0) = true := by rw [bne_iff_ne]; omega
  clear hs hl hz hk hkk
  go_enter Try.func10, Try.ntmps10
  go_wp2_with fail
  refine HC.out.mono ?_
  rintro e w' ⟨rfl, rfl⟩
  go_wp2_with fail
  go_ret2
  exact ⟨_, rfl, Below.refl _ _⟩
set_option maxRecDepth 20000 in
set_option maxHeartbeats 1000000 in
theorem suFirsts (ok : Nat → Prop) (w : World) (v : Value) (zs : List Int) (hs : So ok w v zs) (hl : zs.length ≤ 65536) (hk : ckT zs = 0) :
    Calls Try.prog 11 #[v] w (NewS w (zsN (fsT zs zs.length))) := by
  have HC := hid (check_any ok w v zs hs hl (ckT_i64 hk))
  rw [hk] at HC
  obtain ⟨a, c, rfl, hsi, -, -, -⟩ := hs
  have HK := hid (firsts_any ok w a c zs hsi (ckT_zero hk).2.2 (by omega))
  obtain ⟨L, hL⟩ : ∃ L, L = fsT zs zs.length := ⟨_, rfl⟩
  rw [← hL] at HK ⊢
  obtain ⟨n, hn⟩ : ∃ n, n = zs.length := ⟨_, rfl⟩
  rw [← hn] at HK HC ⊢
  clear hsi hl hk hn hL
  go_enter Try.func11, Try.ntmps11
  go_wp2_with fail
  refine HC.out.mono ?_
  rintro e w' ⟨rfl, rfl⟩
  go_wp2_with fail
  refine HK.out.mono ?_
  rintro e w1 ⟨u, rfl, hu, hb⟩
  have HB := hid hb
  have HU := hid (So.ownedN hu)
  obtain ⟨a1, c1, rfl, -⟩ := HU.out
  obtain ⟨ln, hln⟩ : ∃ ln, ln = (zsN L).length := ⟨_, rfl⟩
  rw [← hln] at HU ⊢
  clear HK HC hu hb hln
  go_wp2_with fail
  go_ret2
  exact ⟨_, rfl, HU.out, HB.out⟩
set_option maxRecDepth 20000 in
set_option maxHeartbeats 1000000 in
theorem suFirstsE (ok : Nat → Prop) (w : World) (v : Value) (zs : List Int) (hs : So ok w v zs) (hl : zs.length ≤ 65536) (hz : ∀ z ∈ zs, i64s z) (hk : ckT zs ≠ 0) :
    Calls Try.prog 11 #[v] w fun e w' => ∃ u, e = .returned (.tuple #[u, .int .i64 ((ckT zs : Nat) : Int)]) ∧ Below w.heap.size w w' := by
  have HC := hid (check_any ok w v zs hs hl hz)
  obtain ⟨k, hkk⟩ : ∃ k, k = ckT zs := ⟨_, rfl⟩
  rw [← hkk] at HC hk ⊢
  have hk0 : ((k : Int) != 0) = true := by rw [bne_iff_ne]; omega
  clear hs hl hz hk hkk
  go_enter Try.func11, Try.ntmps11
  go_wp2_with fail
  refine HC.out.mono ?_
  rintro e w' ⟨rfl, rfl⟩
  go_wp2_with fail
  go_ret2
  exact ⟨_, rfl, Below.refl _ _⟩
theorem place_any (x : World) (z : Int) (b n c : Nat) (a : Option Addr) (hz : i64s z) (hc : x.cell? ⟨b, 0, none⟩ = some (.slice a n c)) (_hn : (n : Int) ≤ 65536) :
    Calls Try.prog 45 #[.int .i64 z, .pointer (some ⟨b, 0, none⟩)] x fun e w' => e = .returned (.bool (placeB n z)) ∧ x = w' := by
  obtain ⟨h1, h2⟩ := hz
  by_cases h3 : z < 0
  · have e : Hid (placeB n z = true) := hid (by unfold placeB; simp [h3])
    go_enter Try.func45, Try.ntmps45
    go_wp2_with fail
    go_ret
    exact ⟨by rw [e.out] <;> rfl, rfl⟩
  · by_cases h4 : (n : Int) ≤ z
    · have e : Hid (placeB n z = true) := hid (by unfold placeB; simp [h4])
      go_enter Try.func45, Try.ntmps45
      go_wp2_with fail
      go_ret
      exact ⟨by rw [e.out] <;> rfl, rfl⟩
    · have e : Hid (placeB n z = false) := hid (by unfold placeB; simp [h3, h4])
      go_enter Try.func45, Try.ntmps45
      go_wp2_with fail
      go_ret
      exact ⟨by rw [e.out] <;> rfl, rfl⟩
/-- What is wrong with a text, or with places of it. -/
def cpT (x ps : List Int) : Nat := if ckT x = 0 then (if ps.any (placeB x.length) then 10 else 0) else ckT x
set_option maxRecDepth 20000 in
set_option maxHeartbeats 1500000 in
theorem checkPlaces_any (ok ok' : Nat → Prop) (w : World) (v v' : Value) (zs ps : List Int) (hs : So ok w v zs) (hp : So ok' w v' ps) (hl : zs.length ≤ 65536) (hz : ∀ z ∈ zs, i64s z) (hpl : ps.length ≤ 65536) (hpz : ∀ z ∈ ps, i64s z) :
    Calls Try.prog 31 #[v, v'] w fun e w' => e = .returned (.int .i64 ((cpT zs ps : Nat) : Int)) ∧ Below w.heap.size w w' := by
  have HS := hid hs
  have HP := hid hp
  obtain ⟨a, c, rfl, hsi, -, -, -⟩ := hs
  obtain ⟨a', c', rfl, hpi, -, -, -⟩ := hp
  obtain ⟨n, hn⟩ : ∃ n, n = zs.length := ⟨_, rfl⟩
  obtain ⟨m, hm⟩ : ∃ m, m = ps.length := ⟨_, rfl⟩
  obtain ⟨w0, hw0⟩ : ∃ w0, w0 = w.alloc (.cells #[.slice a n c] 22) := ⟨_, rfl⟩
  obtain ⟨g, hg⟩ : ∃ g, g = w.heap.size := ⟨_, rfl⟩
  have HW := hid hw0
  have HG := hid hg
  have HB : Hid (Below w.heap.size w w0) := hid (by rw [hw0]; exact allocU w _)
  have hcb : w0.cell? ⟨g, 0, none⟩ = some (.slice a n c) := by rw [hw0, hg]; simp
  have HC := hid (check_any ok w0 _ zs (HS.out.below HB.out) hl hz)
  have HF := hid (containsF_any ok' w0 a' c' ps 45 #[.pointer (some ⟨g, 0, none⟩)] (placeB n) (hpi.below HB.out) (by omega) ⟨fun args w => by kernel_rfl, fun y hy z hzm => place_any y z g n c a (hpz z hzm) (by rw [World.cell?_of_block (hy.block g (cell_lt hcb))]; exact hcb) (by omega)⟩)
  rw [← hn] at HC ⊢
  rw [← hm] at HF ⊢
  have HT : Hid (cpT zs ps = if ckT zs = 0 then (if ps.any (placeB n) then 10 else 0) else ckT zs) := hid (by rw [hn]; rfl)
  obtain ⟨k, hk⟩ : ∃ k, k = ckT zs := ⟨_, rfl⟩
  obtain ⟨q, hq⟩ : ∃ q, q = ps.any (placeB n) := ⟨_, rfl⟩
  rw [← hk] at HC HT
  rw [← hq] at HF HT
  have hnb : (n : Int) ≤ 65536 := by omega
  clear hl hz hpl hpz hsi hpi hn hm hw0 hg hk hq HS HP
  go_enter Try.func31, Try.ntmps31
  go_upto_region 1 with fail
  rw [← HW.out, ← HG.out]
  clear HW
  go_wp2_with fail
  refine HC.out.mono ?_
  rintro e w' ⟨rfl, rfl⟩
  clear HC
  by_cases h0 : k = 0
  · subst h0
    cases q
    · go_wp2_with fail
      refine HF.out.mono ?_
      rintro e w' ⟨rfl, rfl⟩
      go_wp2_with fail
      go_ret
      exact ⟨by rw [HT.out]; rfl, HB.out⟩
    · go_wp2_with fail
      refine HF.out.mono ?_
      rintro e w' ⟨rfl, rfl⟩
      go_wp2_with fail
      go_ret
      exact ⟨by rw [HT.out]; rfl, HB.out⟩
  · have hk0 : ((k : Int) != 0) = true := by rw [bne_iff_ne]; omega
    have HX : Hid (cpT zs ps = k) := hid (by rw [HT.out, if_neg h0])
    clear h0
    go_wp2_with fail
    go_ret
    exact ⟨by rw [HX.out]; rfl, HB.out⟩
end Go.Proofs.Ytclpoconppmapaa
