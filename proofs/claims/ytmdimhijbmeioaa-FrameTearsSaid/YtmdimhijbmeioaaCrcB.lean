/- CONTRACTS OF crc.Register's CALLS AND OF crc.Sum: for every list of parts, wherever they lie. -/
import Derived.Test.YtmdimhijbmeioaaCrcA
namespace Go.Proofs.Ytmdimhijbmeioaa
open Go.RowKit Go.Inc

/-- A register in a row of its own. -/
def Reg (w : World) (rb t n : Nat) : Prop := w.heap[rb]? = some (.cells #[.int .u32 (t : Int), .int .i64 (n : Int)] 80 (0, 0))
section
variable {w : World} {rb t n : Nat}
theorem Reg.c0 (h : Reg w rb t n) : w.cell? ⟨rb, 0, none⟩ = some (.int .u32 (t : Int)) := cell_of_row w rb 0 _ _ _ h
theorem Reg.c1 (h : Reg w rb t n) : w.cell? ⟨rb, 1, none⟩ = some (.int .i64 (n : Int)) := cell_of_row w rb 1 _ _ _ h
theorem Reg.fz (h : Reg w rb t n) (j : Nat) : w.frozen? ⟨rb, j, none⟩ = false := frozen_of_row w rb j _ _ h
theorem Reg.set0 (h : Reg w rb t n) (t' : Nat) : Reg (w.setCell ⟨rb, 0, none⟩ (.int .u32 (t' : Int))) rb t' n := heap_setCell_same w rb 0 _ _ _ h
theorem Reg.set1 (h : Reg w rb t n) (n' : Nat) : Reg (w.setCell ⟨rb, 1, none⟩ (.int .i64 (n' : Int))) rb t n' := heap_setCell_same w rb 1 _ _ _ h
theorem Reg.below {w' : World} (h : Reg w rb t n) (hb : Below w.heap.size w w') : Reg w' rb t n := row_below h hb
theorem Reg.lt (h : Reg w rb t n) : rb < w.heap.size := row_lt h
end

theorem flat_snoc {ps : List (List Nat)} {k : Nat} (h : k < ps.length) : (ps.take (k + 1)).flatten = (ps.take k).flatten ++ ps.getD k [] := by
  rw [List.take_succ_eq_append_getElem h, List.getD_eq_getElem?_getD, List.getElem?_eq_getElem h, Option.getD_some, List.flatten_append]; simp only [List.flatten_cons, List.flatten_nil, List.append_nil]
theorem flat_le (ps : List (List Nat)) (k : Nat) : (ps.take k).flatten.length ≤ ps.flatten.length := by
  conv => rhs; rw [← List.take_append_drop k ps, List.flatten_append, List.length_append]
  omega

/-- How many bytes there are in all. -/
def totC (ps : List (List Nat)) : Nat := ps.flatten.length

theorem tab_full (i : Nat) (hi : i < 256) : (tab 256)[i]? = some (.int .u32 (Crc.S8 i : Nat)) := by rw [tab_get _ _ hi, if_pos hi]

set_option maxHeartbeats 1000000 in
theorem tell_any (ok : Nat → Prop) (rb b o pc t n : Nat) (ps : List (List Nat)) (A : Nat → Option Addr) (C : Nat → Nat) (w : World) (hr : Reg w rb t n) (ht : t < 4294967296)
    (hp : Parts ok w b o ps A C) (hby : ∀ p ∈ ps, Bytes p) (hkb : ok b) (hkk : ∀ b, ok b → b ≠ rb) (hn : (n : Int) + ps.flatten.length ≤ 9223372036854775807) (hl : (ps.length : Int) ≤ 9223372036854775807) :
    Calls Try.prog 57 #[.pointer (some ⟨rb, 0, none⟩), .slice (some ⟨b, o, none⟩) ps.length pc] w fun e w' =>
      e = .returned (.tuple #[]) ∧ Reg w' rb (Crc.run (t ^^^ 4294967295) ps.flatten ^^^ 4294967295) (n + totC ps) ∧ w.grownBy w' (some rb) := by
  have hr0 := hr.lt
  go_enter Try.func57, Try.ntmps57
  go_wp2_with fail
  refine (steps_any _).mono ?_
  rintro e w1 ⟨rfl, hb1⟩
  go_wp2_with (refine wpList_alloc_own rfl 116 rfl (tab 0) tab_zero ?_)
  intro w2 hrow2 hb2
  go_wp2_with (refine wpList_store_own rfl 116 _ _ rfl w1.heap.size (tab 256) rfl rfl 116 (tab 0) hrow2 (by kernel_rfl) (by rw [tab_size, tab_size]) (by kernel_rfl) ?_)
  intro w3 hrow3 hg3
  have hT : w.heap.size ≤ w1.heap.size := hb1.size
  have hg : w.grownBy w3 (some rb) := grown_own (grown_below (grown_below (grown_refl w (some rb)) hb1) hb2) hg3 hT
  have hT3 : w1.heap.size < w3.heap.size := row_lt hrow3
  have hr3 : Reg w3 rb t n := row_grown (row_below (row_below hr hb1) hb2) hg3 (by have := hr.lt; intro e; cases e; omega)
  clear hb1 hb2 hrow2 hg3 hr
  generalize w1.heap.size = T at *
  have c0 := hr3.c0
  obtain ⟨R0, hR0⟩ : ∃ R0, R0 = t ^^^ 4294967295 := ⟨_, rfl⟩
  have hR0l : R0 < 4294967296 := by rw [hR0]; exact Crc.xor_lt ht (by decide)
  have hx0 : bits .xor .u32 IntKind.u32.max (t : Int) = (R0 : Int) := by
    rw [hR0, Nat.xor_comm]; exact u32_xor_nat 4294967295 t (by omega) ht
  have HR0 := hid hR0
  clear hR0
  have HR := hid hr3
  have HT := hid hrow3
  have HG := hid hg
  clear hr3 hrow3 hg
  go_wp2_with fail
  go_loopw [5, 18] (fun r i wr => ∃ k : Nat, k ≤ ps.length ∧ i = .int .i64 k ∧ r = .int .u32 (Crc.run R0 (ps.take k).flatten : Nat) ∧ Reg wr rb t (n + (ps.take k).flatten.length) ∧ w3.grownBy wr (some rb)) (fun _ i _ => ps.length - (intOf i).toNat)
  case atStart => exact ⟨0, Nat.zero_le _, rfl, by simp [Crc.run], by simpa using HR.out, grown_refl _ _⟩
  case round =>
    obtain ⟨k, hk, rfl, rfl, hr, hgr⟩ := hrel
    clear c0 hx0
    by_cases hlt : (k : Int) < ps.length
    · have hcell : wr.cell? ⟨b, o + k, none⟩ = some (.slice (A k) (ps.getD k []).length (C k)) := by
        have h := hp.cell k (by omega)
        rw [← h]
        exact World.cell?_of_block ((grown_trans HG.out hgr).block b (cell_lt h) (by intro e; cases e; exact hkk _ hkb rfl))
      have hsl : Sl ok wr (A k) (ps.getD k []) := (hp.sl k (by omega)).grown (grown_trans HG.out hgr) hkk
      have hb : Bytes (ps.getD k []) := by
        rw [List.getD_eq_getElem?_getD, List.getElem?_eq_getElem (by omega)]
        exact hby _ (List.getElem_mem _)
      have hRl : Crc.run R0 (ps.take k).flatten < 4294967296 := Crc.run_lt _ _ hR0l (fun x hx => by
        obtain ⟨l, hl1, hl2⟩ := List.mem_flatten.1 hx
        exact hby l (List.mem_of_mem_take hl1) x hl2)
      have hnext : Hid (Crc.run R0 (ps.take (k + 1)).flatten = Crc.run (Crc.run R0 (ps.take k).flatten) (ps.getD k [])) := hid (by rw [flat_snoc (by omega), Crc.run_append])
      have hlen : Hid ((ps.take (k + 1)).flatten.length = (ps.take k).flatten.length + (ps.getD k []).length) := hid (by rw [flat_snoc (by omega), List.length_append])
      have hcap : ((n + (ps.take k).flatten.length : Nat) : Int) + (ps.getD k []).length ≤ 9223372036854775807 := by
        have h := flat_le ps (k + 1)
        have h2 := hlen.out
        omega
      have hN : Hid (n + (ps.take (k + 1)).flatten.length = n + (ps.take k).flatten.length + (ps.getD k []).length) := hid (by rw [hlen.out]; omega)
      generalize Crc.run R0 (ps.take k).flatten = R at *
      generalize ps.getD k [] = p at *
      generalize n + (ps.take k).flatten.length = N at *
      generalize A k = ak at *
      generalize C k = ck at *
      rcases hsl with rfl | ⟨sb, so, rfl, hsk, hsc⟩
      · have c1 := hr.c1
        have fz1 := hr.fz 1
        go_wp2_with fail
        go_loop [5, 24] (fun r i => i = .int .i64 0 ∧ r = .int .u32 (R : Nat)) (fun _ i => 0)
        case atStart => exact ⟨rfl, rfl⟩
        case round =>
          obtain ⟨rfl, rfl⟩ := hrel
          go_wp2
          go_roundw
          case rel => exact ⟨k + 1, by omega, by go_num, by rw [hnext.out]; rfl, by rw [hN.out]; exact hr.set1 N, grown_setCell hgr (.inl rfl) _⟩
          case measure => simp [intOf]; omega
      · have HSC := hid hsc
        clear hsc hsk
        go_wp2_with fail
        go_loop [5, 24] (fun r i => ∃ j : Nat, j ≤ p.length ∧ i = .int .i64 j ∧ r = .int .u32 (Crc.run R (p.take j) : Nat)) (fun _ i => p.length - (intOf i).toNat)
        case atStart => exact ⟨0, Nat.zero_le _, rfl, by simp [Crc.run]⟩
        case round =>
          obtain ⟨j, hj, rfl, rfl⟩ := hrel
          have hQ := Crc.run_lt (p.take j) R hRl (hb.take j)
          by_cases hjl : (j : Int) < p.length
          · have hcc := HSC.out j (by omega)
            have hn : Hid (Crc.run R (p.take (j + 1)) = Crc.byte (Crc.run R (p.take j)) (p.getD j 0)) := hid (by rw [take_snoc (by omega), Crc.run_snoc])
            have hc0 := hb.getD j
            generalize Crc.run R (p.take j) = Q at *
            generalize p.getD j 0 = c at *
            have hix : (Q % 256) ^^^ c < 256 := Nat.xor_lt_two_pow (n := 8) (by omega) hc0
            have hby := hid (Crc.byte_table Q c hc0)
            have hb8 : Hid (bits .xor .u8 ((Q : Int) % 256) (c : Int) = (((Q % 256) ^^^ c : Nat) : Int)) := u8_xor_nat (Q % 256) c (by omega) hc0
            generalize (Q % 256) ^^^ c = ix at *
            have hS := Crc.S8_lt ix (by omega)
            have htc : wr.cell? ⟨T, ix, none⟩ = some (.int .u32 (Crc.S8 ix : Nat)) := by
              rw [cell_of_row wr T ix _ _ _ (row_grown HT.out hgr (by have := hr0; intro e; cases e; omega))]
              exact tab_full ix hix
            have hb32 : Hid (bits .xor .u32 ((Q : Int) / 256) (Crc.S8 ix : Nat) = (((Q / 256) ^^^ Crc.S8 ix : Nat) : Int)) := u32_xor_nat (Q / 256) (Crc.S8 ix) (by omega) hS
            have hb8 := hb8.out
            have hix2 : (ix : Int) < 256 := by omega
            have hQ2 : (Q : Int) < 4294967296 := by omega
            clear hQ hc0 hix
            go_wp2
            go_round
            case rel => exact ⟨j + 1, by omega, by go_num, by rw [hn.out, hby.out, hb32.out]⟩
            case measure => simp [intOf]; omega
          · have hfull : Hid (p.take j = p) := hid (List.take_of_length_le (by omega))
            have c1 := hr.c1
            have fz1 := hr.fz 1
            go_wp2
            go_roundw
            case rel => exact ⟨k + 1, by omega, by go_num, by rw [hnext.out, hfull.out], by rw [hN.out]; exact hr.set1 (N + p.length), grown_setCell hgr (.inl rfl) _⟩
            case measure => simp [intOf]; omega
    · have c0 := hr.c0
      have fz0 := hr.fz 0
      have hall : ps.take k = ps := List.take_of_length_le (by omega)
      rw [hall] at hr
      have hR : Crc.run R0 (ps.take k).flatten = Crc.run R0 ps.flatten := by rw [hall]
      have hRl : Crc.run R0 ps.flatten < 4294967296 := Crc.run_lt _ _ hR0l (fun x hx => by
        obtain ⟨l, hl1, hl2⟩ := List.mem_flatten.1 hx
        exact hby l hl1 x hl2)
      rw [hR]
      have HR0 := HR0.out
      subst HR0
      have HF := hid (hr.set0 (Crc.run (t ^^^ 4294967295) ps.flatten ^^^ 4294967295))
      generalize hRR : Crc.run (t ^^^ 4294967295) ps.flatten = R at *
      have HRR := hid hRR
      clear hRR
      have hx0 : Hid (bits .xor .u32 IntKind.u32.max (R : Int) = ((R ^^^ 4294967295 : Nat) : Int)) := hid (by
        rw [Nat.xor_comm]; exact u32_xor_nat 4294967295 R (by omega) hRl)
      clear hall hR
      go_wp2
      refine bodyPost_end (results_none rfl _ _ _) rfl ⟨rfl, ?_, ?_⟩
      · rw [HRR.out, hx0.out]; exact HF.out
      · exact grown_setCell (grown_trans HG.out hgr) (.inl rfl) _

set_option maxHeartbeats 1000000 in
theorem tell_none (rb pc t n : Nat) (a : Option Addr) (w : World) (hr : Reg w rb t n) (ht : t < 4294967296) :
    Calls Try.prog 57 #[.pointer (some ⟨rb, 0, none⟩), .slice a 0 pc] w fun e w' =>
      e = .returned (.tuple #[]) ∧ Reg w' rb t n ∧ w.grownBy w' (some rb) := by
  have hr0 := hr.lt
  go_enter Try.func57, Try.ntmps57
  go_wp2_with fail
  refine (steps_any _).mono ?_
  rintro e w1 ⟨rfl, hb1⟩
  go_wp2_with (refine wpList_alloc_own rfl 116 rfl (tab 0) tab_zero ?_)
  intro w2 hrow2 hb2
  go_wp2_with (refine wpList_store_own rfl 116 _ _ rfl w1.heap.size (tab 256) rfl rfl 116 (tab 0) hrow2 (by kernel_rfl) (by rw [tab_size, tab_size]) (by kernel_rfl) ?_)
  intro w3 hrow3 hg3
  have hT : w.heap.size ≤ w1.heap.size := hb1.size
  have hg : w.grownBy w3 (some rb) := grown_own (grown_below (grown_below (grown_refl w (some rb)) hb1) hb2) hg3 hT
  have hT3 : w1.heap.size < w3.heap.size := row_lt hrow3
  have hr3 : Reg w3 rb t n := row_grown (row_below (row_below hr hb1) hb2) hg3 (by have := hr.lt; intro e; cases e; omega)
  clear hb1 hb2 hrow2 hg3 hr
  generalize w1.heap.size = T at *
  have c0 := hr3.c0
  have fz0 := hr3.fz 0
  obtain ⟨R0, hR0⟩ : ∃ R0, R0 = t ^^^ 4294967295 := ⟨_, rfl⟩
  have hR0l : R0 < 4294967296 := by rw [hR0]; exact Crc.xor_lt ht (by decide)
  have hback : Hid (R0 ^^^ 4294967295 = t) := hid (by rw [hR0, Nat.xor_assoc, Nat.xor_self, Nat.xor_zero])
  have hx0 : bits .xor .u32 IntKind.u32.max (t : Int) = (R0 : Int) := by
    rw [hR0, Nat.xor_comm]; exact u32_xor_nat 4294967295 t (by omega) ht
  have hx1 : Hid (bits .xor .u32 IntKind.u32.max (R0 : Int) = ((R0 ^^^ 4294967295 : Nat) : Int)) := hid (by
    rw [Nat.xor_comm]; exact u32_xor_nat 4294967295 R0 (by omega) hR0l)
  clear hR0
  have HR := hid hr3
  have HG := hid hg
  clear hr3 hrow3 hg
  go_wp2_with fail
  go_loop [5, 18] (fun r i => i = .int .i64 0 ∧ r = .int .u32 (R0 : Nat)) (fun _ i => 0)
  case atStart => exact ⟨rfl, rfl⟩
  case round =>
    obtain ⟨rfl, rfl⟩ := hrel
    clear hx0
    go_wp2
    refine bodyPost_end (results_none rfl _ _ _) rfl ⟨rfl, ?_, ?_⟩
    · rw [hx1.out, hback.out]; exact HR.out.set0 t
    · exact grown_setCell HG.out (.inl rfl) _

theorem tell_all (ok : Nat → Prop) (rb pc t n : Nat) (a : Option Addr) (ps : List (List Nat)) (w : World) (hr : Reg w rb t n) (ht : t < 4294967296) (hp : Pt ok w a ps) (hk : ∀ b, ok b → b ≠ rb)
    (hn : n + totC ps ≤ 9223372036854775807) (hl : ps.length ≤ 9223372036854775807) :
    Calls Try.prog 57 #[.pointer (some ⟨rb, 0, none⟩), .slice a ps.length pc] w fun e w' =>
      e = .returned (.tuple #[]) ∧ Reg w' rb (Crc.run (t ^^^ 4294967295) ps.flatten ^^^ 4294967295) (n + totC ps) ∧ w.grownBy w' (some rb) := by
  obtain ⟨hby, hp⟩ := hp
  rcases hp with rfl | ⟨b, o, A, C, rfl, hb, hp⟩
  · refine (tell_none rb pc t n a w hr ht).mono ?_
    rintro e w' ⟨h1, h2, h3⟩
    refine ⟨h1, ?_, h3⟩
    show Reg w' rb (t ^^^ 4294967295 ^^^ 4294967295) (n + 0)
    rw [Nat.xor_assoc, Nat.xor_self, Nat.xor_zero]; exact h2
  · exact tell_any ok rb b o pc t n ps A C w hr ht hp hby hb hk (by unfold totC at hn; omega) (by omega)

/-- What a register is told: all parts' bytes; the sum of what it was told before and of them. -/
def told (t : Nat) (ps : List (List Nat)) : Nat := Crc.run (t ^^^ 4294967295) ps.flatten ^^^ 4294967295

theorem add_some (ok : Nat → Prop) (rb pc t n : Nat) (a : Option Addr) (ps : List (List Nat)) (w : World) (hr : Reg w rb t n) (ht : t < 4294967296) (hp : Pt ok w a ps) (hk : ∀ b, ok b → b ≠ rb)
    (hn : n + totC ps ≤ 9223372036854775807) (hl : ps.length ≤ 9223372036854775807) :
    Calls Try.prog 45 #[.pointer (some ⟨rb, 0, none⟩), .slice a ps.length pc] w fun e w' =>
      e = .returned (.pointer (some ⟨rb, 0, none⟩)) ∧ Reg w' rb (told t ps) (n + totC ps) ∧ w.grownBy w' (some rb) := by
  have H := tell_all ok rb pc t n a ps w hr ht hp hk hn hl
  go_enter Try.func45, Try.ntmps45
  go_wp2_with (go_at_call 57; refine H.mono ?_; rintro e w1 ⟨rfl, hr1, hg1⟩)
  go_ret
  exact ⟨rfl, hr1, hg1⟩

theorem rsum_some (rb t n : Nat) (w : World) (hr : Reg w rb t n) :
    Calls Try.prog 46 #[.pointer (some ⟨rb, 0, none⟩)] w fun e w' => e = .returned (.int .u32 (t : Int)) ∧ w = w' := by
  have c0 := hr.c0
  go_enter Try.func46, Try.ntmps46
  go_wp2_with fail
  go_ret
  exact ⟨rfl, rfl⟩

theorem reg_zero : ((Try.prog.info? 80).bind (·.zero)).map (·.cells) = some #[.int .u32 0, .int .i64 0] := by kernel_rfl

theorem sum_any (ok : Nat → Prop) (pc : Nat) (a : Option Addr) (ps : List (List Nat)) (w : World) (hp : Pt ok w a ps)
    (hn : totC ps ≤ 9223372036854775807) (hl : ps.length ≤ 9223372036854775807) :
    Calls Try.prog 35 #[.slice a ps.length pc] w fun e w' => e = .returned (.int .u32 (Crc.sum ps.flatten : Nat)) ∧ Below w.heap.size w w' := by
  go_enter Try.func35, Try.ntmps35
  go_wp2_with (refine wpList_alloc_own rfl 80 rfl _ reg_zero ?_)
  intro w1 hrow hb
  have hr : Reg w1 w.heap.size 0 0 := hrow
  have hp1 : Pt (fun b => b < w.heap.size) w1 a ps := (hp.mono fun _ _ h => h).below hb
  have H := hid (add_some _ w.heap.size pc 0 0 a ps w1 hr (by decide) hp1 (fun b hb e => by omega) (by omega) hl)
  clear hrow
  go_wp2_with (go_at_call 45; refine H.out.mono ?_; rintro e w2 ⟨rfl, hr2, hg2⟩)
  have H2 := hid (rsum_some w.heap.size (told 0 ps) (0 + totC ps) w2 hr2)
  have hbel : Below w.heap.size w w2 := below_grown hb hg2 (Nat.le_refl _) hb.size
  go_wp2_with (go_at_call 46; refine H2.out.mono ?_; rintro e w3 ⟨rfl, rfl⟩)
  go_ret
  exact ⟨rfl, hbel⟩

end Go.Proofs.Ytmdimhijbmeioaa

