/- CONTRACTS OF THE CHECK SUM'S INNER FUNCTIONS: the eight steps, the table, the document's own sum. Each for every argument that fits its kind. -/
import Derived.Test.YtmdimhijbmeioaaRows
import Derived.Test.YtmdimhijbmeioaaCrcMath
import Derived.Test.YtmdimhijbmeioaaLib
namespace Go.Proofs.Ytmdimhijbmeioaa
open Go.RowKit Go.Inc

/-- Steps: k of them. -/
def Sn : Nat → Nat → Nat
  | 0, r => r
  | k + 1, r => Crc.S (Sn k r)

theorem Sn_lt (k r : Nat) (h : r < 4294967296) : Sn k r < 4294967296 := by
  induction k with
  | zero => exact h
  | succ k ih => exact Crc.S_lt _ ih

theorem S_odd {y : Nat} (h : y % 2 = 1) : Crc.S y = (y / 2) ^^^ 2197175160 := by unfold Crc.S; rw [if_pos h]; rfl
theorem S_even {y : Nat} (h : y % 2 = 0) : Crc.S y = y / 2 := by unfold Crc.S; rw [if_neg (by omega)]

set_option maxHeartbeats 400000 in
theorem stepped_any (x : Nat) (w : World) (h1 : x < 4294967296) :
    Calls Try.prog 68 #[.int .u32 x] w fun e w' => e = .returned (.int .u32 (Crc.S8 x)) ∧ w = w' := by
  go_enter Try.func68, Try.ntmps68
  go_wp2
  go_loop [0, 4] (fun r i => ∃ k : Nat, k ≤ 8 ∧ i = .int .i64 k ∧ r = .int .u32 (Sn k x : Nat)) (fun _ i => 8 - (intOf i).toNat)
  case atStart => exact ⟨0, by omega, rfl, rfl⟩
  case round =>
    obtain ⟨k, hk, rfl, rfl⟩ := hrel
    have hy := Sn_lt k x h1
    have hS : Hid (Sn (k + 1) x = Crc.S (Sn k x)) := hid rfl
    have hE : Hid (k = 8 → Crc.S8 x = Sn k x) := hid (by rintro rfl; rfl)
    generalize Sn k x = y at *
    by_cases hlt : k < 8
    · clear hE
      have hb : bits .and .u32 (y : Int) 1 = ((y % 2 : Nat) : Int) := by
        have := u32_and_nat y 1 hy (by omega)
        rw [nat_mask1] at this
        exact this
      have hx : Hid (bits .xor .u32 ((y : Int) / 2) 2197175160 = (((y / 2) ^^^ 2197175160 : Nat) : Int)) := u32_xor_nat (y / 2) 2197175160 (by omega) (by omega)
      by_cases hm : y % 2 = 1
      · have hc : (bits .and .u32 (y : Int) 1 != 0) = true := by rw [hb, hm]; rfl
        have ho := hid (S_odd hm)
        clear hm hb
        go_wp2
        go_round
        case rel => exact ⟨k + 1, by omega, by go_num, by rw [hS.out, ho.out, hx.out]⟩
        case measure => simp [intOf]; omega
      · have hm : y % 2 = 0 := by omega
        have hc : (bits .and .u32 (y : Int) 1 != 0) = false := by rw [hb, hm]; rfl
        have ho := hid (S_even hm)
        clear hm hb
        go_wp2
        go_round
        case rel => exact ⟨k + 1, by omega, by go_num, by rw [hS.out, ho.out]; rfl⟩
        case measure => simp [intOf]; omega
    · go_wp2
      go_ret
      exact ⟨ret_u32 (hE.out (by omega)).symm, rfl⟩

/-- The table, filled up to m. -/
def tab (m : Nat) : Array Value := ((List.range 256).map fun i => Value.int .u32 ((if i < m then Crc.S8 i else 0 : Nat) : Int)).toArray
theorem tab_size (m : Nat) : (tab m).size = 256 := by simp [tab]
theorem tab_get (m i : Nat) (hi : i < 256) : (tab m)[i]? = some (.int .u32 ((if i < m then Crc.S8 i else 0 : Nat) : Int)) := by
  simp [tab, hi]
theorem tab_set (m : Nat) : (tab m).setIfInBounds m (.int .u32 (Crc.S8 m : Nat)) = tab (m + 1) := by
  apply Array.ext_getElem?
  intro i
  rw [Array.getElem?_setIfInBounds, tab_size]
  by_cases hm : m = i
  · subst hm
    by_cases h : m < 256
    · rw [tab_get _ _ h, tab_get _ _ h]; simp [h]
    · simp [h, tab_size]
  · by_cases h : i < 256
    · rw [tab_get _ _ h, tab_get _ _ h]
      simp only [if_neg hm]
      have : (i < m) = (i < m + 1) := by simp; omega
      simp [this]
    · have h' : 256 ≤ i := by omega
      simp [hm, h', tab_size]
theorem tab_zero : ((Try.prog.info? 116).bind (·.zero)).map (·.cells) = some (tab 0) := by kernel_rfl
theorem tab_one : tab 0 = tab 1 := by
  apply Array.ext_getElem?
  intro i
  by_cases h : i < 256
  · rw [tab_get _ _ h, tab_get _ _ h]
    by_cases h0 : i = 0
    · subst h0; rfl
    · have : ¬ (i < 1) := by omega
      simp [this]
  · have h' : 256 ≤ i := by omega
    simp [h', tab_size]

attribute [irreducible] tab
/-- A power of two, at most 256. -/
def Pow2 (m : Nat) : Prop := ∃ j, j ≤ 8 ∧ m = 2 ^ j
theorem Pow2.le {m : Nat} (h : Pow2 m) : 1 ≤ m ∧ m ≤ 256 := by
  obtain ⟨j, hj, rfl⟩ := h
  exact ⟨Nat.one_le_two_pow, Nat.le_trans (Nat.pow_le_pow_right (by decide) hj) (by decide)⟩
theorem Pow2.dbl {m : Nat} (h : Pow2 m) (hm : m < 256) : Pow2 (2 * m) := by
  obtain ⟨j, hj, rfl⟩ := h
  have : j < 8 := by
    rcases Nat.lt_or_ge j 8 with h | h
    · exact h
    · have : 2 ^ 8 ≤ 2 ^ j := Nat.pow_le_pow_right (by decide) h
      omega
  exact ⟨j + 1, by omega, by rw [Nat.pow_succ]; omega⟩
theorem Pow2.xor {m k : Nat} (h : Pow2 m) (hk : k < m) : Crc.S8 m ^^^ Crc.S8 k = Crc.S8 (m + k) := by
  obtain ⟨j, hj, rfl⟩ := h
  exact (Crc.S8_bit j k hk).symm

set_option maxHeartbeats 1000000 in
theorem steps_any (w : World) :
    Calls Try.prog 65 #[] w fun e w' => e = .returned (.agg (tab 256)) ∧ Below w.heap.size w w' := by
  go_enter Try.func65, Try.ntmps65
  go_wp2_with (refine wpList_alloc rfl 116 rfl (tab 0) tab_zero ?_)
  go_loopw [2] (fun i wr => ∃ m : Nat, Pow2 m ∧ i = .int .i64 m ∧ wr = (w.alloc (.cells (tab 0) 116)).alloc (.cells (tab m) 116)) (fun i _ => 256 - (intOf i).toNat)
  case atStart => exact ⟨1, ⟨0, by omega, rfl⟩, rfl, by rw [← tab_one]⟩
  case round =>
    obtain ⟨m, hp, rfl, rfl⟩ := hrel
    have hS := Crc.S8_lt m (by have := hp.le; omega)
    have h1 : (1 : Int) ≤ m ∧ (m : Int) ≤ 256 := by have := hp.le; omega
    obtain ⟨h1, h2⟩ := h1
    have hx : Hid (∀ k, k < m → Crc.S8 m ^^^ Crc.S8 k = Crc.S8 (m + k)) := hid fun k hk => hp.xor hk
    by_cases hlt : (m : Int) < 256
    · have hd := hid (hp.dbl (by omega))
      go_wp2_with (go_at_call 68; refine (stepped_any _ _ (by omega)).mono ?_; rintro e w' ⟨rfl, rfl⟩)
      generalize hga : Crc.S8 m = a at *
      clear hga
      have h256 : Hid (2 * m ≤ 256) := hid hd.out.le.2
      go_loopw [13] (fun i wr => ∃ k : Nat, k ≤ m ∧ i = .int .i64 k ∧ wr = (w.alloc (.cells (tab 0) 116)).alloc (.cells (tab (m + k)) 116)) (fun i _ => m - (intOf i).toNat)
      case atStart => exact ⟨0, by omega, rfl, rfl⟩
      case round =>
        obtain ⟨k, hk, rfl, rfl⟩ := hrel
        by_cases hkm : (k : Int) < m
        · have hsk := Crc.S8_lt k (by omega)
          have hm2 : (m : Int) + k < 256 := by have := h256.out; omega
          have hk2 : (k : Int) < 256 := by omega
          have hget := tab_get (m + k) k (by omega)
          rw [if_pos (by omega)] at hget
          obtain ⟨old, hold⟩ : ∃ v, (tab (m + k))[m + k]? = some v := ⟨_, tab_get (m + k) (m + k) (by omega)⟩
          have hset := hid (tab_set (m + k))
          have hxor := hid (hx.out k (by omega))
          have hbx := hid (u32_xor_nat a (Crc.S8 k) hS hsk)
          go_wp2
          go_roundw
          case rel =>
            refine ⟨k + 1, by omega, by go_num, ?_⟩
            rw [hbx.out, hxor.out, hset.out]; rfl
          case measure => simp [intOf]; omega
        · have hge : (m : Int) ≤ k := by omega
          have hmk : m = k := by omega
          clear hge hkm
          have hmk := hid hmk
          clear hk
          have hge : (m : Int) ≤ k := by have := hmk.out; omega
          go_wp2
          go_roundw
          case rel =>
            have := hmk.out
            subst this
            refine ⟨2 * m, hd.out, ?_, ?_⟩
            · congr 1; omega
            · rw [show m + m = 2 * m from by omega]
          case measure => simp [intOf]; omega
    · have hge : (256 : Int) ≤ m := by omega
      clear hlt
      have h4 : (256 : Nat) = m := by omega
      subst h4
      go_wp2_with (first | (refine wpList_load_row rfl 116 _ rfl (w.heap.size + 1) rfl 116 (tab 256) (0, 0) _ (heap_alloc2_new w _ _) Try.underlying116 rfl (by kernel_rfl) ?_) | (refine wpList_store_row rfl 116 _ _ rfl w.heap.size (tab 256) rfl rfl 116 (tab 0) (heap_alloc2_old w _ _) (by kernel_rfl) (by rw [tab_size, tab_size]) (by kernel_rfl) ?_))
      refine bodyPost_ret (v := .agg (tab 256)) (results_cell_row rfl _ _ w.heap.size 116 _ (0, 0) _ rfl (setRow_heap _ _ (tab 0) _ _ _ (heap_alloc2_old w _ _)) Try.underlying116 rfl (by kernel_rfl)) rfl ⟨rfl, ?_⟩
      exact below_setRow (((Below.refl _ _).alloc (Nat.le_refl _) _).alloc (by simp) _) (Nat.le_refl _) _
/-- What the document's register is behind k bits of the byte c. -/
def rz (x c j : Nat) : Nat := Sn j x ^^^ (c / 2 ^ j)
theorem rz_lt (x c j : Nat) (h : x < 4294967296) (hc : c < 256) : rz x c j < 4294967296 :=
  Crc.xor_lt (Sn_lt _ _ h) (Nat.lt_of_le_of_lt (Nat.div_le_self _ _) (by omega))
theorem half_pow (c j : Nat) : c / 2 ^ j / 2 = c / 2 ^ (j + 1) := by rw [Nat.div_div_eq_div_mul, Nat.pow_succ]
theorem rz_odd (x c j : Nat) : (rz x c j % 2 = c / 2 ^ j % 2 → rz x c j / 2 = rz x c (j + 1)) ∧ (rz x c j % 2 ≠ c / 2 ^ j % 2 → (rz x c j / 2) ^^^ 2197175160 = rz x c (j + 1)) := by
  unfold rz
  rw [← half_pow, Crc.xor_mod_two, Crc.xor_half, show Sn (j + 1) x = Crc.S (Sn j x) from rfl, Crc.S_eq]
  generalize Sn j x = y
  generalize c / 2 ^ j = t
  constructor
  · intro h
    rw [if_neg (by omega)]; simp
  · intro h
    rw [if_pos (by omega), Nat.xor_assoc, Nat.xor_comm (t / 2), ← Nat.xor_assoc]; rfl
theorem rz_end (r c : Nat) (hc : c < 256) : rz (r ^^^ c) c 8 = Crc.byte r c := by
  unfold rz
  rw [show c / 2 ^ 8 = 0 from by omega, Nat.xor_zero]; rfl
theorem rz_start (r c : Nat) : rz (r ^^^ c) c 0 = r := by
  unfold rz
  simp [Sn, Nat.xor_assoc]
set_option maxHeartbeats 1000000 in
theorem refSum_some (b off len cap : Nat) (bs : List Nat) (w : World) (hl : bs.length = len) (hm : (len : Int) ≤ 9223372036854775807)
   (hc : ∀ i, i < len → w.cell? ⟨b, off + i, none⟩ = some (.int .u8 ((bs.getD i 0 : Nat) : Int))) (hb : Bytes bs) :
    Calls Try.prog 33 #[.slice (some ⟨b, off, none⟩) len cap] w fun e w' => e = .returned (.int .u32 (Crc.sum bs : Nat)) ∧ w = w' := by
  have HC := hid hc
  have HL := hid hl
  clear hc hl
  have HB := hid hb
  clear hb
  go_enter Try.func33, Try.ntmps33
  go_wp2
  go_loop [3, 4] (fun r i => ∃ k : Nat, k ≤ len ∧ i = .int .i64 k ∧ r = .int .u32 (Crc.run 4294967295 (bs.take k) : Nat)) (fun _ i => len - (intOf i).toNat)
  case atStart => exact ⟨0, by omega, rfl, rfl⟩
  case round =>
    obtain ⟨k, hk, rfl, rfl⟩ := hrel
    have hR0 := Crc.run_lt (bs.take k) 4294967295 (by decide) (fun x hx => HB.out x (List.mem_of_mem_take hx))
    have hend : Hid ((k : Int) = len → Crc.run 4294967295 (bs.take k) ^^^ 4294967295 = Crc.sum bs) := hid fun h => by
      rw [List.take_of_length_le (by have := HL.out; omega)]; rfl
    have hnext : Hid (k < len → Crc.run 4294967295 (bs.take (k + 1)) = Crc.byte (Crc.run 4294967295 (bs.take k)) (bs.getD k 0)) := hid fun h => by
      rw [take_snoc (by have := HL.out; omega), Crc.run_snoc]
    generalize Crc.run 4294967295 (bs.take k) = R at *
    have hR : (R : Int) < 4294967296 := by omega
    clear hR0
    by_cases hlt : (k : Int) < len
    · clear hend
      have hcell := HC.out k (by omega)
      have hc1 := Bytes.getD HB.out k
      generalize bs.getD k 0 = c at *
      have hc0 : (c : Int) < 256 := by omega
      clear hc1
      go_wp2_with fail
      go_loop [3, 5] (fun r i => ∃ j : Nat, j ≤ 8 ∧ i = .int .i64 j ∧ r = .int .u32 (rz (R ^^^ c) c j : Nat)) (fun _ i => 8 - (intOf i).toNat)
      case atStart => exact ⟨0, by omega, rfl, by rw [rz_start]⟩
      case round =>
        obtain ⟨j, hj, rfl, rfl⟩ := hrel
        have hz0 := rz_lt (R ^^^ c) c j (Crc.xor_lt (by omega) (by omega)) (by omega)
        have hodd := hid (rz_odd (R ^^^ c) c j)
        have hend : Hid (j = 8 → rz (R ^^^ c) c j = Crc.byte R c) := hid fun h => by subst h; exact rz_end R c (by omega)
        generalize rz (R ^^^ c) c j = z at *
        have hz : (z : Int) < 4294967296 := by omega
        clear hz0
        by_cases hj8 : (j : Int) < 8
        · clear hend
          by_cases ht : z % 2 = c / 2 ^ j % 2
          · have hn := hid (hodd.out.1 ht)
            have hb0 : ((z : Int) % 2 != (c : Int) / 2 ^ j % 2) = false := by
              rw [bne_eq_false_iff_eq]; exact_mod_cast ht
            clear ht hodd
            go_wp2
            go_round
            case rel => exact ⟨j + 1, by omega, by go_num, by rw [← hn.out]; rfl⟩
            case measure => simp [intOf]; omega
          · have hn := hid (hodd.out.2 ht)
            have hb0 : ((z : Int) % 2 != (c : Int) / 2 ^ j % 2) = true := by
              rw [bne_iff_ne]; exact_mod_cast ht
            clear ht hodd
            have hx : Hid (bits .xor .u32 ((z : Int) / 2) 2197175160 = (((z / 2) ^^^ 2197175160 : Nat) : Int)) := u32_xor_nat (z / 2) 2197175160 (by omega) (by omega)
            go_wp2
            go_round
            case rel => exact ⟨j + 1, by omega, by go_num, by rw [← hn.out, hx.out]⟩
            case measure => simp [intOf]; omega
        · have h8 := hid (hend.out (by omega))
          clear hend hodd
          go_wp2
          go_round
          case rel => exact ⟨k + 1, by omega, by go_num, by rw [hnext.out (by omega), h8.out]⟩
          case measure => simp [intOf]; omega
    · have he := hid (hend.out (by omega))
      have hx := hid (u32_xor_nat R 4294967295 (by omega) (by omega))
      clear hend hnext
      go_wp2
      go_ret
      refine ⟨?_, rfl⟩
      show Ending.returned (Value.int IntKind.u32 (bits BinOp.xor IntKind.u32 (↑R) 4294967295)) = _
      rw [← he.out]; exact congrArg _ (congrArg _ hx.out)

/-- An empty slice. -/
theorem refSum_none (a : Option Addr) (cap : Nat) (w : World) :
    Calls Try.prog 33 #[.slice a 0 cap] w fun e w' => e = .returned (.int .u32 (Crc.sum [] : Nat)) ∧ w = w' := by
  go_enter Try.func33, Try.ntmps33
  go_wp2
  go_loop [3, 4] (fun r i => i = .int .i64 0 ∧ r = .int .u32 4294967295) (fun _ i => 0)
  case atStart => exact ⟨rfl, rfl⟩
  case round =>
    obtain ⟨rfl, rfl⟩ := hrel
    go_wp2
    go_ret
    exact ⟨rfl, rfl⟩
end Go.Proofs.Ytmdimhijbmeioaa

