/- CONTRACTS: Contains; one number put in or taken out; check: is a list of pages as it must be? -/
import Derived.Test.YtjgnnofpilmgoaaDoorAlA
namespace Go.Proofs.YtjgnnofpilmgoaaDoor
open Go.RowKit Go.Inc

set_option maxHeartbeats 1000000 in
theorem index_any (ok : Nat → Prop) (a : Option Addr) (c : Nat) (kz : List Int) (z : Int) (w : World) (hs : Si ok w a kz) (hl : (kz.length : Int) ≤ 9223372036854775807) :
    Calls Tryd.prog 54 #[.slice a kz.length c, .int .i64 z] w fun e w' => (∃ r : Int, e = .returned (.int .i64 r) ∧ (decide (0 ≤ r) = decide (z ∈ kz))) ∧ Below w.heap.size w w' := by
  have HS := hid hs
  obtain ⟨n, hn⟩ : ∃ n, n = kz.length := ⟨_, rfl⟩
  have HN := hid hn
  rw [← hn] at hl ⊢
  clear hs hn
  go_enter Tryd.func54, Tryd.ntmps54
  go_wp2_with fail
  go_loopw [8] (fun i wr => ∃ k : Nat, k ≤ n ∧ i = .int .i64 (k : Int) ∧ z ∉ kz.take k ∧ Below w.heap.size w wr) (fun i _ => n - (intOf i).toNat)
  case atStart => exact ⟨0, Nat.zero_le _, rfl, by simp, Below.refl _ _⟩
  case round =>
    obtain ⟨k, hk, rfl, hno, hb⟩ := hrel
    have HNO := hid hno
    have HB := hid hb
    clear hno hb
    by_cases hlt : (k : Int) < n
    · have hs := HS.out.below HB.out
      rcases hs with h0 | ⟨b, o, rfl, -, hc⟩
      · exfalso; have := HN.out; rw [h0] at this; simp at this; omega
      have hck := hc k (by have := HN.out; omega)
      have HSN := hid (takeI_snoc (bs := kz) (k := k) (by have := HN.out; omega))
      have HM := hid (getD_mem (zs := kz) (k := k) (by have := HN.out; omega))
      obtain ⟨x, hx⟩ : ∃ x, x = kz.getD k 0 := ⟨_, rfl⟩
      rw [← hx] at hck HSN HM
      have hkn : (k < n) = True := eq_true (by omega)
      clear hc hx
      by_cases hzx : z = x
      · subst hzx
        go_wp2_with fail
        try go_quiet (fail)
        go_wp2_with fail
        go_ret
        exact ⟨⟨_, rfl, by simp [HM.out]⟩, HB.out⟩
      · have hne : (z == x) = false := by rw [beq_eq_false_iff_ne]; exact hzx
        have HZX := hid hzx
        clear hzx
        go_wp2_with fail
        try go_quiet (fail)
        go_wp2_with fail
        go_roundw
        case rel => exact ⟨k + 1, by omega, by go_num, by rw [HSN.out, mem_snoc]; rintro (h | h); exact HNO.out h; exact HZX.out h, HB.out⟩
        case measure => simp [intOf]; omega
    · have hkf : (k < n) = False := eq_false (by omega)
      have HKN : Hid (k = n) := hid (by omega)
      clear hlt
      go_wp2_with fail
      go_ret
      exact ⟨⟨_, rfl, by have h := HNO.out; rw [HKN.out, HN.out, List.take_length] at h; simp [h]⟩, HB.out⟩
theorem contains_any (ok : Nat → Prop) (a : Option Addr) (c : Nat) (kz : List Int) (z : Int) (w : World) (hs : Si ok w a kz) (hl : (kz.length : Int) ≤ 9223372036854775807) :
    Calls Tryd.prog 46 #[.slice a kz.length c, .int .i64 z] w fun e w' => e = .returned (.bool (decide (z ∈ kz))) ∧ Below w.heap.size w w' := by
  have H := hid (index_any ok a c kz z w hs hl)
  obtain ⟨n, hn⟩ : ∃ n, n = kz.length := ⟨_, rfl⟩
  rw [← hn] at H ⊢
  clear hs hn hl
  go_enter Tryd.func46, Tryd.ntmps46
  go_wp2_with fail
  refine H.out.mono ?_
  rintro e w1 ⟨⟨r, rfl, hr⟩, hb⟩
  have HR := hid hr
  have HB := hid hb
  clear hr hb H
  go_wp2_with fail
  go_ret
  exact ⟨by rw [← HR.out]; rfl, HB.out⟩

theorem add_one {ok : Nat → Prop} {v : Value} {m : List Bool} {w : World} (h : Sm ok w v m) (q : Nat) (hq : q < m.length) (T : TypeId) :
    Calls Tryd.prog 30 #[v, .slice (some ⟨w.heap.size, 0, none⟩) 1 1] (w.alloc (.cells #[.int .i64 (q : Int)] T)) fun e w' => e = .returned (.int .i64 (if inB m q = true then 0 else 1)) ∧ Sm ok w' v (m.set q true) ∧ Mv ok (w.alloc (.cells #[.int .i64 (q : Int)] T)) w' := by
  refine (addS_any (fun b => ok b ∧ b < w.heap.size) (fun b => b = w.heap.size) v m (some ⟨w.heap.size, 0, none⟩) 1 [(q : Int)] _ ((h.mono (ok' := fun b => ok b ∧ b < w.heap.size) fun _ h1 h2 => ⟨h1, h2⟩).below (alloc_below w _)) (si_one w (q : Int) T) (fun i e hh => by have := hh.2; omega) (by simp)).mono ?_
  rintro e w' ⟨rfl, h1, h2⟩
  rw [putTo_one hq] at h1 ⊢
  refine ⟨?_, ?_, h2.sub fun i _ hi => hi.1⟩
  · cases inB m q <;> rfl
  · have h3 := h1.mono (ok' := ok) fun _ h _ => h.1
    by_cases hm : inB m q = true
    · rw [if_pos hm] at h3
      rw [show m.set q true = m from ext_inB (by simp) fun i hi => by
        rw [inB_set hq]
        split
        · rename_i e; rw [e, hm]
        · rfl]
      exact h3
    · rw [if_neg hm] at h3
      exact h3
theorem drop_one {ok : Nat → Prop} {v : Value} {m : List Bool} {w : World} (h : Sm ok w v m) (q : Nat) (hq : q < m.length) (T : TypeId) :
    Calls Tryd.prog 33 #[v, .slice (some ⟨w.heap.size, 0, none⟩) 1 1] (w.alloc (.cells #[.int .i64 (q : Int)] T)) fun e w' => e = .returned (.int .i64 (if inB m q = true then 1 else 0)) ∧ Sm ok w' v (m.set q false) ∧ Mv ok (w.alloc (.cells #[.int .i64 (q : Int)] T)) w' := by
  refine (dropS_any (fun b => ok b ∧ b < w.heap.size) (fun b => b = w.heap.size) v m (some ⟨w.heap.size, 0, none⟩) 1 [(q : Int)] _ ((h.mono (ok' := fun b => ok b ∧ b < w.heap.size) fun _ h1 h2 => ⟨h1, h2⟩).below (alloc_below w _)) (si_one w (q : Int) T) (fun i e hh => by have := hh.2; omega) (by simp)).mono ?_
  rintro e w' ⟨rfl, h1, h2⟩
  rw [putTo_one hq] at h1 ⊢
  refine ⟨?_, ?_, h2.sub fun i _ hi => hi.1⟩
  · cases inB m q <;> rfl
  · have h3 := h1.mono (ok' := ok) fun _ h _ => h.1
    by_cases hm : inB m q = false
    · rw [if_pos hm] at h3
      rw [show m.set q false = m from ext_inB (by simp) fun i hi => by
        rw [inB_set hq]
        split
        · rename_i e; rw [e, hm]
        · rfl]
      exact h3
    · rw [if_neg hm] at h3
      exact h3

def goodK (kz : List Int) (k : Nat) : Bool := decide ((k : Int) ∈ kz)
/-- What the second round of the check knows. -/
structure Told (B : Nat) (w : World) (v : Value) (n : Nat) (l : List Int) (m : List Bool) : Prop where
  sm : Sm (fun b => B ≤ b) w v m
  len : m.length = n
  bits : ∀ i, i < n → inB m i = decide ((i : Int) ∈ l)
set_option maxRecDepth 20000 in
set_option maxHeartbeats 4000000 in
theorem check_any {C : Nat → Nat} {p : Nat} {v1 v2 v3 : Value} {ks : List Nat} {w : World} (okz okk : Nat → Prop) (a ak : Option Addr) (cz ck : Nat) (zs kz : List Int) (wrong : Int) (h : Al C w p v1 v2 v3 ks) (hk : Ks ks) (hz : Si okz w a zs) (hkz : Si okk w ak kz) (hl : (zs.length : Int) ≤ 9223372036854775807) (hl2 : (kz.length : Int) ≤ 9223372036854775807) :
    Calls Tryd.prog 29 #[.pointer (some ⟨p, 0, none⟩), .slice a zs.length cz, .int .i64 wrong, .slice ak kz.length ck] w fun e w' => e = .returned (.int .i64 (chkE ks zs (goodK kz) wrong)) ∧ Below w.heap.size w w' := by
  have HA := hid h
  have HK := hid hk
  have HZ := hid hz
  have HKZ := hid hkz
  obtain ⟨n, hn⟩ : ∃ n, n = zs.length := ⟨_, rfl⟩
  have HN := hid hn
  obtain ⟨nk, hnk⟩ : ∃ nk, nk = kz.length := ⟨_, rfl⟩
  have HNK := hid hnk
  obtain ⟨N, hN⟩ : ∃ N, N = ks.length := ⟨_, rfl⟩
  have HNN := hid hN
  have hN1 : (2 : Int) ≤ N := by have := hk.n2; omega
  have hN2 : (N : Int) ≤ 2048 := by have := hk.n2048; omega
  have HP : Hid (∀ x, Below w.heap.size w x → Calls Tryd.prog 27 #[.pointer (some ⟨p, 0, none⟩)] x fun e w' => e = .returned (.int .i64 (N : Int)) ∧ x = w') := hid fun x hx => by rw [hN]; exact pages_any (h.below hx)
  have hl2' := hl2
  rw [← hn] at hl ⊢
  rw [← hnk] at hl2 ⊢
  have HL2 := hid hl2'
  clear h hk hz hkz hn hnk hN hl2'
  go_enter Tryd.func29, Tryd.ntmps29
  go_wp2_with fail
  go_loopw [16] (fun i wr => ∃ k : Nat, k ≤ n ∧ i = .int .i64 (k : Int) ∧ (∀ z ∈ zs.take k, 2 ≤ z ∧ z < (ks.length : Int)) ∧ Below w.heap.size w wr) (fun i _ => n - (intOf i).toNat)
  case atStart => exact ⟨0, Nat.zero_le _, rfl, by simp, Below.refl _ _⟩
  case round =>
    obtain ⟨k, hk, rfl, hin, hb⟩ := hrel
    have HIN := hid hin
    have HB := hid hb
    clear hin hb
    by_cases hlt : (k : Int) < n
    · have hs := HZ.out.below HB.out
      rcases hs with h0 | ⟨b, o, rfl, -, hc⟩
      · exfalso; have := HN.out; rw [h0] at this; simp at this; omega
      have hck := hc k (by have := HN.out; omega)
      have HSN := hid (takeI_snoc (bs := zs) (k := k) (by have := HN.out; omega))
      have HM := hid (getD_mem (zs := zs) (k := k) (by have := HN.out; omega))
      obtain ⟨x, hx⟩ : ∃ x, x = zs.getD k 0 := ⟨_, rfl⟩
      rw [← hx] at hck HSN HM
      have hkn : (k < n) = True := eq_true (by omega)
      clear hc hx
      by_cases hx2 : x < 2
      · have HO : Hid (chkE ks zs (goodK kz) wrong = 10) := hid (chkE_out (outR_true HM.out (.inl hx2)))
        go_wp2_with fail
        go_ret
        exact ⟨by rw [HO.out]; rfl, HB.out⟩
      have hx3 : (2 : Int) ≤ x := by omega
      clear hx2
      by_cases hxN : (N : Int) ≤ x
      · have HO : Hid (chkE ks zs (goodK kz) wrong = 10) := hid (chkE_out (outR_true HM.out (.inr (by rw [← HNN.out]; exact hxN))))
        go_wp2_with fail
        refine (HP.out wr HB.out).mono ?_
        rintro e w1 ⟨rfl, rfl⟩
        go_wp2_with fail
        go_ret
        exact ⟨by rw [HO.out]; rfl, HB.out⟩
      have hxN2 : x < (N : Int) := by omega
      clear hxN
      go_wp2_with fail
      refine (HP.out wr HB.out).mono ?_
      rintro e w1 ⟨rfl, rfl⟩
      go_wp2_with fail
      go_roundw
      case rel => exact ⟨k + 1, by omega, by go_num, by rw [HSN.out]; intro z hz; rcases mem_snoc.1 hz with h | h; exact HIN.out z h; subst h; have := HNN.out; omega, HB.out⟩
      case measure => simp [intOf]; omega
    · have hkf : (k < n) = False := eq_false (by omega)
      have HKN : Hid (k = n) := hid (by omega)
      have HIR : Hid (∀ z ∈ zs, 2 ≤ z ∧ z < (ks.length : Int)) := hid (by have h := HIN.out; rw [HKN.out, HN.out, List.take_length] at h; exact h)
      have HOF : Hid (outR ks.length zs = false) := hid (outR_false.2 HIR.out)
      clear hlt HIN
      obtain ⟨wi, hwi⟩ : ∃ wi, wi = wr := ⟨_, rfl⟩
      subst hwi
      go_wp2_with fail
      refine (HP.out wi HB.out).mono ?_
      rintro e w1 ⟨rfl, rfl⟩
      go_wp2_with fail
      refine (setOf_any N wi (by omega) hN2).mono ?_
      rintro e w2 ⟨⟨vt, rfl, hv⟩, hb2⟩
      have HT : Hid (Told wi.heap.size w2 vt ks.length (zs.take 0) (List.replicate N false)) := hid ⟨hv, by rw [List.length_replicate]; exact HNN.out, fun i _ => by rw [inB_zeros]; simp⟩
      have HB2 : Hid (Below wi.heap.size wi w2) := hid hb2
      clear hv hb2
      go_wp2_with fail
      go_loopw [34] (fun i wr => ∃ (k : Nat) (m : List Bool), k ≤ n ∧ i = .int .i64 (k : Int) ∧ Told wi.heap.size wr vt ks.length (zs.take k) m ∧ (∀ z ∈ zs.take k, goodK kz (kd ks z.toNat) = true) ∧ (zs.take k).Nodup ∧ Below wi.heap.size wi wr) (fun i _ => n - (intOf i).toNat)
      case atStart => exact ⟨0, _, Nat.zero_le _, rfl, HT.out, by simp, by simp, HB2.out⟩
      case round =>
        clear HT HB2
        obtain ⟨k, m, hk, rfl, ht, hg, hnd, hb⟩ := hrel
        have HT := hid ht
        have HG := hid hg
        have HND := hid hnd
        have HBI : Hid (Below wi.heap.size wi wr) := hid hb
        have HBW : Hid (Below w.heap.size w wr) := hid (HB.out.trans (hb.mono HB.out.size))
        obtain ⟨wj, hwj⟩ : ∃ wj, wj = wr := ⟨_, rfl⟩
        subst hwj
        clear ht hg hnd hb
        by_cases hlt : (k : Int) < n
        · have hs := HZ.out.below HBW.out
          rcases hs with h0 | ⟨b, o, rfl, -, hc⟩
          · exfalso; have := HN.out; rw [h0] at this; simp at this; omega
          have hck := hc k (by have := HN.out; omega)
          have HSN := hid (takeI_snoc (bs := zs) (k := k) (by have := HN.out; omega))
          have HM := hid (getD_mem (zs := zs) (k := k) (by have := HN.out; omega))
          obtain ⟨x, hx⟩ : ∃ x, x = zs.getD k 0 := ⟨_, rfl⟩
          rw [← hx] at hck HSN HM
          have hkn : (k < n) = True := eq_true (by omega)
          obtain ⟨q, rfl⟩ := Int.eq_ofNat_of_zero_le (show (0 : Int) ≤ x by have := HIR.out x HM.out; omega)
          have hqn : q < ks.length := by have := HIR.out _ HM.out; omega
          have HKD : Hid (∀ y, Below w.heap.size w y → Calls Tryd.prog 26 #[.pointer (some ⟨p, 0, none⟩), .int .i64 (q : Int)] y fun e w' => e = .returned (.int .i64 (kd ks q : Int)) ∧ Below y.heap.size y w') := hid fun y hy => by
            have := kind_any (q : Int) (HA.out.below hy) HK.out
            rw [kindK_nat hqn] at this
            exact this
          have HCN : Hid (∀ y, Below w.heap.size w y → Calls Tryd.prog 46 #[.slice ak nk ck, .int .i64 (kd ks q : Int)] y fun e w' => e = .returned (.bool (goodK kz (kd ks q))) ∧ Below y.heap.size y w') := hid fun y hy => by
            have := contains_any okk ak ck kz (kd ks q : Int) y (HKZ.out.below hy) HL2.out
            rw [← HNK.out] at this
            exact this
          obtain ⟨g, hg⟩ : ∃ g, g = goodK kz (kd ks q) := ⟨_, rfl⟩
          rw [← hg] at HCN
          have HGD := hid hg
          have HQ := hid hqn
          clear hc hx hg hqn
          go_wp2_with fail
          refine (HKD.out wj HBW.out).mono ?_
          rintro e w3 ⟨rfl, hb3⟩
          have HB3 : Hid (Below wi.heap.size wi w3) := hid (HBI.out.trans (hb3.mono HBI.out.size))
          have HW3 : Hid (Below w.heap.size w w3) := hid (HBW.out.trans (hb3.mono HBW.out.size))
          have HT3 : Hid (Sm (fun b => wi.heap.size ≤ b) w3 vt m) := hid (HT.out.sm.below hb3)
          clear hb3
          go_wp2_with fail
          refine (HCN.out w3 HW3.out).mono ?_
          rintro e w4 ⟨rfl, hb4⟩
          have HB4 : Hid (Below wi.heap.size wi w4) := hid (HB3.out.trans (hb4.mono HB3.out.size))
          have HW4 : Hid (Below w.heap.size w w4) := hid (HW3.out.trans (hb4.mono HW3.out.size))
          have HT4 : Hid (Sm (fun b => wi.heap.size ≤ b) w4 vt m) := hid (HT3.out.below hb4)
          clear hb4
          cases g
          · have HO : Hid (chkE ks zs (goodK kz) wrong = wrong) := hid (chkE_bad HOF.out HM.out HGD.out.symm)
            go_wp2_with fail
            go_ret
            exact ⟨by rw [HO.out]; rfl, HW4.out⟩
          · have hadd := add_one HT4.out q (by rw [HT.out.len]; exact HQ.out) 3
            have hbit := HT.out.bits q HQ.out
            by_cases hmem : (q : Int) ∈ zs.take k
            · have HO : Hid (chkE ks zs (goodK kz) wrong = wrong) := hid (chkE_twice HOF.out (not_nodup_take (k := k + 1) (by rw [HSN.out, nodup_snoc]; exact fun h => h.2 hmem)))
              rw [hbit, decide_eq_true hmem, if_pos rfl] at hadd
              have HADD := hid hadd
              clear hadd hbit hmem
              go_wp2_with fail
              refine HADD.out.mono ?_
              rintro e w5 ⟨rfl, -, hm5⟩
              have HM5 := hid hm5
              clear hm5
              go_wp2_with fail
              go_ret
              exact ⟨by rw [HO.out]; rfl, (HW4.out.trans ((alloc_below w4 _).mono HW4.out.size)).trans (HM5.out.below (by have := HW4.out.size; simp; omega) fun i hi => by have := HB.out.size; have hi2 : wi.heap.size ≤ i := hi; omega)⟩
            · rw [hbit, decide_eq_false hmem, if_neg (by decide)] at hadd
              have HADD := hid hadd
              have HMEM := hid hmem
              clear hadd hbit hmem
              go_wp2_with fail
              refine HADD.out.mono ?_
              rintro e w5 ⟨rfl, hs5, hm5⟩
              have HS5 := hid hs5
              have HB5 : Hid (Below wi.heap.size wi w5) := hid ((HB4.out.trans ((alloc_below w4 _).mono HB4.out.size)).trans (hm5.below (by have := HB4.out.size; simp; omega) fun i hi => hi))
              clear hm5 hs5 HADD
              go_wp2_with fail
              go_roundw
              case rel =>
                refine ⟨k + 1, m.set q true, by omega, by go_num, ⟨HS5.out, by rw [List.length_set]; exact HT.out.len, fun i hi => ?_⟩, ?_, ?_, HB5.out⟩
                · rw [inB_set (by rw [HT.out.len]; exact HQ.out), HT.out.bits i hi, HSN.out]
                  by_cases e : i = q
                  · subst e; simp
                  · have e2 : ¬ (i : Int) = (q : Int) := by omega
                    simp [e, e2]
                · rw [HSN.out]
                  intro z hz
                  rcases mem_snoc.1 hz with h | h
                  · exact HG.out z h
                  · subst h; exact HGD.out.symm
                · rw [HSN.out, nodup_snoc]; exact ⟨HND.out, HMEM.out⟩
              case measure => simp [intOf]; omega
        · have hkf : (k < n) = False := eq_false (by omega)
          have HKN2 : Hid (k = n) := hid (by omega)
          have HO : Hid (chkE ks zs (goodK kz) wrong = 0) := hid (by
            have h1 := HG.out
            have h2 := HND.out
            rw [HKN2.out, HN.out, List.take_length] at h1 h2
            exact chkE_ok HOF.out h1 h2)
          clear hlt
          go_wp2_with fail
          go_ret
          exact ⟨by rw [HO.out]; rfl, HBW.out⟩
end Go.Proofs.YtjgnnofpilmgoaaDoor
