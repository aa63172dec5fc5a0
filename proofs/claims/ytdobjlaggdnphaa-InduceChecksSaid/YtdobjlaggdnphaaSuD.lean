/- CONTRACTS (suffix, as it landed): Kinds, Firsts; whether places are there. -/
import Derived.Test.YtdobjlaggdnphaaSuC
namespace Go.Inc
open Go.RowKit
theorem ckT_i64 {x : List Int} (h : ckT x = 0) : ∀ z ∈ x, i64s z := fun z hz => by
  have := (ckT_zero h).2.1 z hz
  unfold i64s; omega
/-- Handed back: a new slice of these, and no error. -/
def NewS (w : World) (zs : List Int) (e : Ending) (w' : World) : Prop := ∃ u, e = .returned (.tuple #[u, .int .i64 0]) ∧ So (fun g => w.heap.size ≤ g) w' u zs ∧ Below w.heap.size w w'
theorem allocU (w : World) (o : Obj) : Below w.heap.size w (w.alloc o) := (Below.refl _ _).alloc (Nat.le_refl _) _
end Go.Inc
namespace Go.Proofs.Ytdobjlaggdnphaa
open Go.RowKit Go.Inc
set_option maxRecDepth 20000 in
set_option maxHeartbeats 1000000 in
theorem suKinds (ok : Nat → Prop) (w : World) (v : Value) (zs : List Int) (hs : So ok w v zs) (hl : zs.length ≤ 65536) (hk : ckT zs = 0) :
    Calls Try.prog 49 #[v] w fun e w' => ∃ u cu, e = .returned (.tuple #[.slice u zs.length cu, .int .i64 0]) ∧ Bl (fun g => w.heap.size ≤ g) w' u (kdTo zs zs.length) ∧ Below w.heap.size w w' := by
  have HC := hid (check_any ok w v zs hs hl (ckT_i64 hk))
  rw [hk] at HC
  obtain ⟨a, c, rfl, hsi, -, -, -⟩ := hs
  have HK := hid (kinds_any ok w a c zs hsi (ckT_zero hk).2.2 (by omega))
  have HKL := hid (kdTo_len zs zs.length)
  obtain ⟨n, hn⟩ : ∃ n, n = zs.length := ⟨_, rfl⟩
  rw [← hn] at HK HKL HC ⊢
  clear hsi hl hk hn
  go_enter Try.func49, Try.ntmps49
  go_wp2_with fail
  refine HC.out.mono ?_
  rintro e w' ⟨rfl, rfl⟩
  go_wp2_with fail
  refine HK.out.mono ?_
  rintro e w1 ⟨u, rfl, hu, hb⟩
  obtain ⟨ka, kc, rfl, -, -, -, -, hkb⟩ := Bl.owned hu
  rw [HKL.out]
  have HB := hid hb
  have HKB := hid hkb
  clear HK HC hu hb hkb
  go_wp2_with fail
  go_ret2
  exact ⟨ka, kc, rfl, HKB.out, HB.out⟩
set_option maxRecDepth 20000 in
set_option maxHeartbeats 1000000 in
theorem suKindsE (ok : Nat → Prop) (w : World) (v : Value) (zs : List Int) (hs : So ok w v zs) (hl : zs.length ≤ 65536) (hz : ∀ z ∈ zs, i64s z) (hk : ckT zs ≠ 0) :
    Calls Try.prog 49 #[v] w fun e w' => ∃ u, e = .returned (.tuple #[u, .int .i64 ((ckT zs : Nat) : Int)]) ∧ Below w.heap.size w w' := by
  have HC := hid (check_any ok w v zs hs hl hz)
  obtain ⟨k, hkk⟩ : ∃ k, k = ckT zs := ⟨_, rfl⟩
  rw [← hkk] at HC hk ⊢
  have hk0 : ((k : Int) != 0) = true := by rw [bne_iff_ne]; omega
  clear hs hl hz hk hkk
  go_enter Try.func49, Try.ntmps49
  go_wp2_with fail
  refine HC.out.mono ?_
  rintro e w' ⟨rfl, rfl⟩
  go_wp2_with fail
  go_ret2
  exact ⟨_, rfl, Below.refl _ _⟩
set_option maxRecDepth 20000 in
set_option maxHeartbeats 1000000 in
theorem suFirsts (ok : Nat → Prop) (w : World) (v : Value) (zs : List Int) (hs : So ok w v zs) (hl : zs.length ≤ 65536) (hk : ckT zs = 0) :
    Calls Try.prog 33 #[v] w (NewS w (zsN (fsT zs zs.length))) := by
  have HC := hid (check_any ok w v zs hs hl (ckT_i64 hk))
  rw [hk] at HC
  obtain ⟨a, c, rfl, hsi, -, -, -⟩ := hs
  have HK := hid (firsts_any ok w a c zs hsi (ckT_zero hk).2.2 (by omega))
  obtain ⟨L, hL⟩ : ∃ L, L = fsT zs zs.length := ⟨_, rfl⟩
  rw [← hL] at HK ⊢
  obtain ⟨n, hn⟩ : ∃ n, n = zs.length := ⟨_, rfl⟩
  rw [← hn] at HK HC ⊢
  clear hsi hl hk hn hL
  go_enter Try.func33, Try.ntmps33
  go_wp2_with fail
  refine HC.out.mono ?_
  rintro e w' ⟨rfl, rfl⟩
  go_wp2_with fail
  refine HK.out.mono ?_
  rintro e w1 ⟨u, rfl, hu, hb⟩
  have HB := hid hb
  have HU := hid (So.ownedN hu)
  obtain ⟨a1, c1, rfl, -⟩ := HU.out
  obtain ⟨ln, hln⟩ : ∃ ln, ln = (zsN L).length := ⟨_, rfl⟩
  rw [← hln] at HU ⊢
  clear HK HC hu hb hln
  go_wp2_with fail
  go_ret2
  exact ⟨_, rfl, HU.out, HB.out⟩
set_option maxRecDepth 20000 in
set_option maxHeartbeats 1000000 in
theorem suFirstsE (ok : Nat → Prop) (w : World) (v : Value) (zs : List Int) (hs : So ok w v zs) (hl : zs.length ≤ 65536) (hz : ∀ z ∈ zs, i64s z) (hk : ckT zs ≠ 0) :
    Calls Try.prog 33 #[v] w fun e w' => ∃ u, e = .returned (.tuple #[u, .int .i64 ((ckT zs : Nat) : Int)]) ∧ Below w.heap.size w w' := by
  have HC := hid (check_any ok w v zs hs hl hz)
  obtain ⟨k, hkk⟩ : ∃ k, k = ckT zs := ⟨_, rfl⟩
  rw [← hkk] at HC hk ⊢
  have hk0 : ((k : Int) != 0) = true := by rw [bne_iff_ne]; omega
  clear hs hl hz hk hkk
  go_enter Try.func33, Try.ntmps33
  go_wp2_with fail
  refine HC.out.mono ?_
  rintro e w' ⟨rfl, rfl⟩
  go_wp2_with fail
  go_ret2
  exact ⟨_, rfl, Below.refl _ _⟩
end Go.Proofs.Ytdobjlaggdnphaa

