/- CONTRACTS (suffix, as it landed): Piece. -/
import Derived.Test.YtclpoconppmapaaSuL
namespace Go.Proofs.Ytclpoconppmapaa
open Go.RowKit Go.Inc
theorem one_i64 {a : Int} (ha : i64s a) : ∀ z ∈ [a], i64s z := by
  intro z hz
  rw [List.mem_singleton] at hz; subst hz; exact ha
theorem cpT_in1 {x : List Int} {a : Nat} (h : ckT x = 0) (ha : a < x.length) : cpT x [(a : Int)] = 0 := by
  unfold cpT
  have h1 : placeB x.length (a : Int) = false := placeB_iff.2 (by omega)
  rw [if_pos h, if_neg (by simp [h1])]
theorem cpT_out1 {x : List Int} {a : Int} (h : ckT x = 0) (hn : ¬ (0 ≤ a ∧ a < x.length)) : cpT x [a] = 10 := by
  unfold cpT
  rw [if_pos h, if_pos]
  apply Classical.byContradiction
  intro hc
  simp only [List.any_cons, List.any_nil, Bool.or_false, Bool.not_eq_true] at hc
  exact hn (placeB_iff.1 hc)
set_option maxRecDepth 20000 in
set_option maxHeartbeats 1500000 in
theorem piece_bad (ok : Nat → Prop) (w : World) (v : Value) (zs : List Int) (a : Int) (hs : So ok w v zs) (hl : zs.length ≤ 65536) (hz : ∀ z ∈ zs, i64s z) (ha : i64s a) (k : Nat) (hk : cpT zs [a] = k) (h0 : k ≠ 0) :
    Calls Try.prog 15 #[v, .int .i64 a] w fun e w' => ∃ u, e = .returned (.tuple #[u, .int .i64 (k : Int)]) ∧ Below w.heap.size w w' := by
  have HC := hid (checkPlaces_any _ _ (w.alloc (.cells #[.int .i64 a] 3)) v _ zs [a] (hs.below (allocU w _)) (So.one1 w a 3) hl hz (by simp) (one_i64 ha))
  have HA := hid (allocU w (.cells #[.int .i64 a] 3))
  rw [hk] at HC
  have hk0 : ((k : Int) != 0) = true := by rw [bne_iff_ne]; omega
  clear hs hl hz ha hk h0
  go_enter Try.func15, Try.ntmps15
  go_wp2_with fail
  refine HC.out.mono ?_
  rintro e w1 ⟨rfl, hb1⟩
  have HB := hid (HA.out.trans (hb1.mono HA.out.size))
  clear HC HA hb1
  go_wp2_with fail
  go_ret2
  exact ⟨_, rfl, HB.out⟩
theorem suPieceR (ok : Nat → Prop) (w : World) (v : Value) (zs : List Int) (a : Int) (hs : So ok w v zs) (hl : zs.length ≤ 65536) (hk : ckT zs = 0) (ha : i64s a) (hn : ¬ (0 ≤ a ∧ a < zs.length)) :
    Calls Try.prog 15 #[v, .int .i64 a] w fun e w' => ∃ u, e = .returned (.tuple #[u, .int .i64 10]) ∧ Below w.heap.size w w' :=
  piece_bad ok w v zs a hs hl (ckT_i64 hk) ha 10 (cpT_out1 hk hn) (by omega)
theorem suPieceE (ok : Nat → Prop) (w : World) (v : Value) (zs : List Int) (a : Int) (hs : So ok w v zs) (hl : zs.length ≤ 65536) (hz : ∀ z ∈ zs, i64s z) (hk : ckT zs ≠ 0) (ha : i64s a) :
    Calls Try.prog 15 #[v, .int .i64 a] w fun e w' => ∃ u, e = .returned (.tuple #[u, .int .i64 ((ckT zs : Nat) : Int)]) ∧ Below w.heap.size w w' :=
  piece_bad ok w v zs a hs hl hz ha _ (cpT_bad hk) hk
/-- What Piece hands back of a place. -/
def PcP (w : World) (zs : List Int) (a : Nat) (e : Ending) (w' : World) : Prop := (∃ u k, e = .returned (.tuple #[u, .int .i64 k]) ∧ (a ∈ fsT zs zs.length → k = 0 ∧ So (fun g => w.heap.size ≤ g) w' u (pcT zs a)) ∧ (a ∉ fsT zs zs.length → k = 7)) ∧ Below w.heap.size w w'
set_option maxRecDepth 20000 in
set_option maxHeartbeats 2000000 in
theorem piece_any (ok : Nat → Prop) (w : World) (v : Value) (zs : List Int) (a : Nat) (hs : So ok w v zs) (hl : zs.length ≤ 65536) (hk : ckT zs = 0) (ha : a < zs.length) :
    Calls Try.prog 15 #[v, .int .i64 (a : Int)] w (PcP w zs a) := by
  have HC := hid (checkPlaces_any _ _ (w.alloc (.cells #[.int .i64 (a : Int)] 3)) v _ zs [(a : Int)] (hs.below (allocU w _)) (So.one1 w (a : Int) 3) hl (ckT_i64 hk) (by simp) (one_i64 (by unfold i64s; omega)))
  have HA := hid (allocU w (.cells #[.int .i64 (a : Int)] 3))
  rw [cpT_in1 hk ha] at HC
  obtain ⟨p, c, rfl, hsi, hlc, hcm, -⟩ := hs
  obtain ⟨pb, po, rfl⟩ : ∃ pb po, p = some (⟨pb, po, none⟩ : Addr) := by
    rcases hsi with h | ⟨b', o', h, -, -⟩
    · rw [h] at ha; simp at ha
    · exact ⟨_, _, h⟩
  have HS := hid hsi
  have HFS := hid (fun (y : World) (hy : Below w.heap.size w y) => firsts_any ok y (some ⟨pb, po, none⟩) c zs (hsi.below hy) (ckT_zero hk).2.2 (by omega))
  obtain ⟨F, hF⟩ : ∃ F, F = fsT zs zs.length := ⟨_, rfl⟩
  have HFL : Hid (F.length ≤ zs.length) := hid (by rw [hF]; exact fsT_len _ _)
  have HRI : Hid ((zsN F).Pairwise (· < ·)) := hid (by rw [hF]; exact fsZ_rise _)
  have HFN : Hid (∀ b, b ∈ F → b < zs.length) := hid (fun b hb => by rw [hF] at hb; exact fsT_lt hb)
  have HPC : Hid (pcT zs a = (zs.drop a).take ((if F.idxOf a + 1 < F.length then F.getD (F.idxOf a + 1) 0 + 1 else zs.length) - a)) := hid (by rw [hF]; rfl)
  have HFF := hid hF
  rw [← hF] at HFS
  obtain ⟨n, hn⟩ : ∃ n, n = zs.length := ⟨_, rfl⟩
  have HN := hid hn
  have HL := hid hl
  have HAN := hid ha
  rw [← hn] at HC HFS HFL HFN HPC hl hlc ha ⊢
  have hca : (c = a) = False := eq_false (by omega)
  have hab : (a : Int) ≤ (n : Int) := by omega
  have hnc : (n : Int) ≤ (c : Int) := by omega
  have hcx : (c : Int) ≤ 9223372036854775807 := by unfold maxLen at hcm; omega
  have hnb : (n : Int) ≤ 65536 := by omega
  clear hsi hlc hcm hk hF hn hl ha
  go_enter Try.func15, Try.ntmps15
  go_wp2_with fail
  refine HC.out.mono ?_
  rintro e w1 ⟨rfl, hb1⟩
  have HB := hid (HA.out.trans (hb1.mono HA.out.size))
  have HF1 := hid (HFS.out w1 HB.out)
  clear HC HA hb1 HFS
  go_wp2_with fail
  refine HF1.out.mono ?_
  rintro e w2 ⟨u, rfl, hu, hb2⟩
  obtain ⟨fa, fc, rfl, -, -, hfc, hfm, hfs⟩ := Si.ownedN hu
  have HB2 := hid (HB.out.trans (hb2.mono HB.out.size))
  have HFSI := hid hfs
  change Hid (Si _ w2 fa (zsN F)) at HFSI
  have HSE := hid (search_any _ w2 fa fc (zsN F) (a : Int) HFSI.out (by rw [zsN_len]; have := HFL.out; omega) HRI.out)
  obtain ⟨m, hm⟩ : ∃ m, m = F.length := ⟨_, rfl⟩
  have HM := hid hm
  rw [zsN_len] at HSE
  rw [← hm] at HFL HPC HSE hfc ⊢
  have hmn : (m : Int) ≤ 65536 := by have := HFL.out; omega
  have hmc : (m : Int) ≤ (fc : Int) := by omega
  have hfx : (fc : Int) ≤ 9223372036854775807 := by unfold maxLen at hfm; omega
  clear HF1 HB hu hb2 hfs hfc hfm hm
  go_wp2_with fail
  refine HSE.out.mono ?_
  rintro e w3 ⟨⟨i, rfl, hi⟩, rfl⟩
  by_cases hin : a ∈ F
  · have hi2 : i = F.idxOf a := by rw [hi (mem_zsN.2 hin), idx_zsN]
    rw [decide_eq_true (mem_zsN.2 hin)]
    have HIL : Hid (i < m) := hid (by rw [hi2, HM.out]; exact List.idxOf_lt_length_of_mem hin)
    have HIN := hid hin
    have HI2 := hid hi2
    rw [← hi2] at HPC
    have him : (i : Int) < (m : Int) := by have := HIL.out; omega
    obtain ⟨l, hml⟩ : ∃ l : Nat, (m : Int) - 1 = (l : Int) := ⟨m - 1, by have := HIL.out; omega⟩
    clear hi hi2 hin HSE
    by_cases hil : i = l
    · have hb : ((i : Int) == (l : Int)) = true := by rw [beq_iff_eq]; omega
      have HP : Hid (pcT zs a = zs.drop a) := hid (by
        rw [HPC.out, if_neg (by omega)]
        exact List.take_of_length_le (by rw [List.length_drop, HN.out]; omega))
      have HCL := hid (cloneZ_any _ w2 ⟨pb, po + a, none⟩ (n - a) (c - a) (zs.drop a) ((HS.out.below HB2.out).from a) (by rw [List.length_drop, HN.out]) (by have := HN.out; have := HL.out; omega))
      clear hil
      go_wp2_with fail
      refine HCL.out.mono ?_
      rintro e w4 ⟨u, rfl, hu, hb4⟩
      have HU := hid hu
      have HB4 := hid (HB2.out.trans (hb4.mono HB2.out.size))
      obtain ⟨ua, uc, rfl, -⟩ := hu
      obtain ⟨ul, hul⟩ : ∃ ul, ul = (zs.drop a).length := ⟨_, rfl⟩
      rw [← hul] at HU ⊢
      clear HCL hul hb4
      go_wp2_with fail
      go_ret2
      exact ⟨⟨_, _, rfl, fun _ => ⟨rfl, by rw [HP.out]; exact HU.out.mono (fun b hb _ => Nat.le_trans HB2.out.size hb)⟩, fun h => absurd (by rw [← HFF.out]; exact HIN.out) h⟩, HB4.out⟩
    · have hb : ((i : Int) == (l : Int)) = false := by rw [beq_eq_false_iff_ne]; omega
      obtain ⟨i1, hi1⟩ : ∃ i1 : Nat, (i : Int) + 1 = (i1 : Int) := ⟨i + 1, by omega⟩
      have HI1 : Hid (i + 1 = i1 ∧ i1 < m) := hid (by have := HIL.out; omega)
      have hi1m : (i1 : Int) < (m : Int) := by have := HI1.out; omega
      rw [HI1.out.1, if_pos HI1.out.2] at HPC
      have hfn := HFN.out (F.getD i1 0) (by
        rw [List.getD_eq_getElem?_getD, List.getElem?_eq_getElem (by rw [← HM.out]; exact HI1.out.2)]; exact List.getElem_mem _)
      have hfa : a < F.getD i1 0 := by
        have h1 := riseZ_at HRI.out (i := i) (j := i1) (by have := HI1.out; omega) (by rw [zsN_len, ← HM.out]; exact HI1.out.2)
        have h3 : (zsN F).getD i 0 = (a : Int) := by
          have h4 := at_get (mem_zsN.2 HIN.out)
          rw [idx_zsN] at h4
          rw [HI2.out]; exact h4.2
        rw [h3, zsN_get] at h1
        omega
      obtain ⟨qb, qo, rfl, hq⟩ := siCell HFSI.out (k := i1) (by rw [zsN_len, ← HM.out]; exact HI1.out.2)
      rw [zsN_get] at hq
      obtain ⟨nb, hnbb⟩ : ∃ nb, nb = F.getD i1 0 := ⟨_, rfl⟩
      rw [← hnbb] at hq HPC hfn hfa
      obtain ⟨b1, hb1⟩ : ∃ b1 : Nat, (nb : Int) + 1 = (b1 : Int) := ⟨nb + 1, by omega⟩
      have HB1 : Hid (nb + 1 = b1) := hid (by omega)
      have hab1 : (a : Int) ≤ (b1 : Int) := by omega
      have hb1c : (b1 : Int) ≤ (c : Int) := by omega
      have hnbx : (nb : Int) ≤ 65536 := by omega
      have HP : Hid (pcT zs a = (zs.drop a).take (b1 - a)) := hid (by rw [HPC.out, HB1.out])
      have HCL := hid (cloneZ_any _ w2 ⟨pb, po + a, none⟩ (b1 - a) (c - a) ((zs.drop a).take (b1 - a)) (((HS.out.below HB2.out).from a).front (b1 - a)) (by rw [List.length_take, List.length_drop]; have := HN.out; omega) (by omega))
      obtain ⟨P, hP⟩ : ∃ P, P = (zs.drop a).take (b1 - a) := ⟨_, rfl⟩
      rw [← hP] at HP HCL
      clear hil hfn hfa hnbb hP HPC
      go_wp2_with fail
      refine HCL.out.mono ?_
      rintro e w4 ⟨u, rfl, hu, hb4⟩
      have HU := hid hu
      have HB4 := hid (HB2.out.trans (hb4.mono HB2.out.size))
      obtain ⟨ua, uc, rfl, -⟩ := hu
      obtain ⟨ul, hul⟩ : ∃ ul, ul = P.length := ⟨_, rfl⟩
      rw [← hul] at HU ⊢
      clear HCL hul hb4
      go_wp2_with fail
      go_ret2
      exact ⟨⟨_, _, rfl, fun _ => ⟨rfl, by rw [HP.out]; exact HU.out.mono (fun b hb _ => Nat.le_trans HB2.out.size hb)⟩, fun h => absurd (by rw [← HFF.out]; exact HIN.out) h⟩, HB4.out⟩
  · rw [decide_eq_false (fun h => hin (mem_zsN.1 h))]
    have HNI := hid hin
    clear hi hin HSE
    go_wp2_with fail
    go_ret2
    exact ⟨⟨_, _, rfl, fun h => absurd (by rw [HFF.out]; exact h) HNI.out, fun _ => rfl⟩, HB2.out⟩
theorem suPiece (ok : Nat → Prop) (w : World) (v : Value) (zs : List Int) (a : Nat) (hs : So ok w v zs) (hl : zs.length ≤ 65536) (hk : ckT zs = 0) (ha : a ∈ fsT zs zs.length) :
    Calls Try.prog 15 #[v, .int .i64 (a : Int)] w (NewS w (pcT zs a)) := by
  refine (piece_any ok w v zs a hs hl hk (fsT_lt ha)).mono ?_
  rintro e w' ⟨⟨u, k, rfl, h1, -⟩, hb⟩
  obtain ⟨rfl, h2⟩ := h1 ha
  exact ⟨u, rfl, h2, hb⟩
theorem suPieceN (ok : Nat → Prop) (w : World) (v : Value) (zs : List Int) (a : Nat) (hs : So ok w v zs) (hl : zs.length ≤ 65536) (hk : ckT zs = 0) (ha : a < zs.length) (hn : a ∉ fsT zs zs.length) :
    Calls Try.prog 15 #[v, .int .i64 (a : Int)] w fun e w' => ∃ u, e = .returned (.tuple #[u, .int .i64 7]) ∧ Below w.heap.size w w' := by
  refine (piece_any ok w v zs a hs hl hk ha).mono ?_
  rintro e w' ⟨⟨u, k, rfl, -, h1⟩, hb⟩
  obtain rfl := h1 hn
  exact ⟨u, rfl, hb⟩
end Go.Proofs.Ytclpoconppmapaa
