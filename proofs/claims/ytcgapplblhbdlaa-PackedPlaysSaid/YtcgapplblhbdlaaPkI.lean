/- CONTRACTS: an array's bytes. -/
import Derived.Test.YtcgapplblhbdlaaPkH
import Derived.Test.YtcgapplblhbdlaaVarE
namespace Go.Inc
open Go.RowKit
theorem belowDrew' (x : World) : Below x.heap.size x x.drew := (Below.refl _ _).drew
/-- A literal of one. -/
def LitZ (T B : Nat) (u : Value) (z : World) (v : Value) : Prop := ∃ q, v = .slice (some ⟨q, 0, none⟩) 1 1 ∧ B ≤ q ∧ z.heap[q]? = some (.cells #[u] T (0, 0))
theorem LitZ.kept {T B : Nat} {u : Value} {y z : World} {v : Value} (h : LitZ T B u y v) (hg : Grew y z) : LitZ T B u z v := by
  obtain ⟨q, h1, h2, h3⟩ := h
  exact ⟨q, h1, h2, row_below h3 hg⟩
theorem own_one {z : World} {T B q : Nat} {u : Value} (h : z.heap[q]? = some (.cells #[u] T (0, 0))) (hq : B ≤ q) : z.ownsRow B T 1 (.slice (some ⟨q, 0, none⟩) 1 1) 1 [u] :=
  ⟨rfl, .inr ⟨q, 1, _, rfl, hq, h, Nat.le_refl _, by unfold maxLen; omega, rfl, rfl⟩⟩
theorem run_append_any {P : Program} (w : World) (base : Nat) (t ty e : TypeId) (i : TypeInfo) (z : Value) (bytes : Nat) (ht : P.underlying t = some (.slice e)) (hi : P.info? e = some i) (hz : i.zero = some z)
    (hsize : i.size = 1) (hby : i.bytes = bytes) (hzs : z.cells.size = 1)
    (v : Value) (n : Nat) (xs : List Value) (hown : w.ownsRow base e 1 v n xs)
    (ao : Option Addr) (m c : Nat) (news : List Value) (hl : news.length = m) (hnone : ao = none → m = 0) (hnews : ∀ ad, ao = some ad → ∀ j u, news[j]? = some u → w.cell? (ad.add j) = some u) (h1 : ∀ u ∈ news, u.oneCell' = true)
    (h63 : n + m ≤ maxLen) (hbytes : (n + m) * bytes ≤ 140737488355328) (hbase : base ≤ w.heap.size) :
    ∃ v' w', (Builtin.append_ #[t, t] ty #[v, .slice ao m c]).run P w = .ok v' w' ∧ w'.ownsRow base e 1 v' (n + m) (xs ++ news) ∧ w.grownBy w' v.ownBlock := by
  cases ao with
  | some ad =>
    obtain ⟨v', w', h2, h3, h4, _⟩ := run_append_own w base t ty e i z 1 bytes ht hi hz hsize hby hzs (by decide) v n xs hown ad m c news (by omega) (hnews ad rfl) h1 h63 hbytes hbase
    exact ⟨v', w', h2, h3, h4⟩
  | none =>
    obtain rfl := hnone rfl
    obtain rfl : news = [] := List.eq_nil_of_length_eq_zero hl
    exact ⟨v, w, run_append_nil_any t ty i ht hi v n c xs hown, by simpa using hown, grown_refl _ _⟩
end Go.Inc
namespace Go.Proofs.Ytcgapplblhbdlaa
open Go.RowKit Go.Inc

theorem put_one_at (z : World) (q n : Nat) (hr : z.heap[q]? = some (.cells #[.int .i64 (n : Int)] 3 (0, 0))) (hn : (n : Int) ≤ 65536) :
    Calls Try.prog 41 #[.slice (some ⟨q, 0, none⟩) 1 1] z fun e w' => ∃ v, e = .returned v ∧ Row 5 z.heap.size w' v (Var.put n) ∧ Below z.heap.size z w' := by
  have H := put_any (fun _ => True) (some ⟨q, 0, none⟩) 1 [(n : Int)] z (.inr ⟨q, 0, rfl, trivial, fun i hi => by
    have : i = 0 := by simp at hi; omega
    subst this
    rw [cell_of_row _ _ _ _ _ _ hr]; rfl⟩) (by simp) (by intro a ha; simp at ha; omega)
  have e : putOf [(n : Int)] = Var.put n := by
    unfold putOf anyNeg
    have : ¬ (n : Int) < 0 := by omega
    simp [this, puts]
  rw [e] at H
  exact H
/-- An array's bytes. -/
def pkBs (w : Nat) (l : List Nat) : List Nat := w :: (Var.put l.length ++ pkB w l)
set_option maxRecDepth 20000 in
set_option maxHeartbeats 1000000 in
theorem pkBytes_any (x : World) (b B : Nat) (v : Value) (w : Nat) (l W : List Nat) (h : PkAt x b v w l W B) :
    Calls Try.prog 20 #[.pointer (some ⟨b, 0, none⟩)] x fun e w' => ∃ u, e = .returned u ∧ Row 5 x.heap.size w' u (pkBs w l) ∧ Below x.heap.size x w' := by
  obtain ⟨i0, hi, hz0, hz1, hz2⟩ := info_parts infoU8
  have HI := hid (And.intro hi (And.intro hz0 (And.intro hz1 hz2)))
  obtain ⟨n, hn⟩ : ∃ n, n = l.length := ⟨_, rfl⟩
  have hnb : (n : Int) ≤ 65536 := by have := h.n; omega
  have HN64 : Hid (n < 18446744073709551616) := hid (by omega)
  have hw1 : (1 : Int) ≤ w := by have := h.w1; omega
  have hwb : (w : Int) ≤ 31 := by have := h.w2; omega
  have hwu : IntKind.u8.wrap (w : Int) = (w : Int) := by rw [IntKind.wrap_u8]; omega
  have HPUT := hid (fun z q hr => put_one_at z q n hr hnb)
  have HC : Hid (∀ z, Below x.heap.size x z → z.cell? ⟨b, 0, none⟩ = some (.int .i64 (w : Int)) ∧ z.cell? ⟨b, 1, none⟩ = some (.int .i64 (n : Int))) := hid fun z hz => ⟨(h.below hz).raw.c0, by rw [hn]; exact (h.below hz).raw.c1⟩
  have HSZ := hid (fun z => pkSize_any w n z h.w1 h.w2 (by rw [hn]; exact h.n))
  obtain ⟨S, hS⟩ : ∃ S, S = (w * n + 7) / 8 := ⟨_, rfl⟩
  rw [← hS] at HSZ
  have HS := hid (show S = (pkB w l).length by rw [pkB_len, hS, hn])
  have hSb : (S : Int) ≤ 253952 := by
    have := mul_31 h.w2 h.n
    rw [Nat.mul_comm, ← hn] at this
    omega
  have HH := hid h
  have HN := hid hn
  clear hi hz0 hz1 hz2 h hn hS
  go_enter Try.func20, Try.ntmps20
  go_wp2_with fail
  refine wp_region_growsX 13 12 (fun z => Below x.heap.size x z) (fun z => Below x.heap.size x z) [5, 10, 11] [EqN (.pointer (some ⟨b, 0, none⟩)), EqN (.pointer (some ⟨b, 0, none⟩)), EqN (.pointer (some ⟨b, 0, none⟩)), EqN (.int .i64 (w : Int)), EqN (.int .u8 (w : Int)), LitZ 5 x.heap.size (.int .u8 (w : Int)), EqN (.pointer (some ⟨b, 0, none⟩)), EqN (.pointer (some ⟨b, 0, none⟩)), EqN (.pointer (some ⟨b, 1, none⟩)), EqN (.int .i64 (n : Int)), LitZ 3 x.heap.size (.int .i64 (n : Int)), fun z u => Row 5 x.heap.size z u (Var.put n), fun z u => Row 5 x.heap.size z u (w :: Var.put n)] (by kernel_rfl) (by decide) (by kernel_rfl) (by kernel_rfl) (by decide) ?_ ?_ ?_ ?_ ?_ ?_
  · exact belowDrew' x
  · exact fun p q hg h => h.trans (Below.mono hg h.size)
  · exact fun p q hg h => h.trans (Below.mono hg h.size)
  · repeat' (first | exact List.forall_mem_nil _ | refine List.forall_mem_cons.2 ⟨?_, ?_⟩)
    all_goals
      intro w w' v hw h
      first | exact h | exact LitZ.kept h hw | exact Row.kept h hw
  · simp only [AllLt]
    refine ⟨⟨⟨⟨⟨⟨⟨⟨⟨⟨⟨⟨⟨trivial, ?_⟩, ?_⟩, ?_⟩, ?_⟩, ?_⟩, ?_⟩, ?_⟩, ?_⟩, ?_⟩, ?_⟩, ?_⟩, ?_⟩, ?_⟩
    all_goals
      intro o' ho
      simp at ho
      subst ho
      intro ρ w5 hR hL hS hG
      obtain ⟨hl1, hl2, -⟩ := hL
    · refine plainG rfl ?_
      intro bA K Q' hK
      have e0 := hS 0 (by kernel_rfl)
      change ρ (.tmp 0) = _ at e0
      simp only [execOp]
      go_simp
      exact hK _ _ rfl (fun _ => Grew.refl _) (fun h => absurd h (by decide))
    · refine plainG rfl ?_
      intro bA K Q' hK
      have e7 := hG 0 7 (by decide) (by kernel_rfl) (by kernel_rfl)
      change ρ (.tmp 7) = _ at e7
      simp only [execOp]
      go_simp
      exact hK _ _ rfl (fun _ => Grew.refl _) (fun h => absurd h (by decide))
    · refine plainG rfl ?_
      intro bA K Q' hK
      have e8 := hG 1 8 (by decide) (by kernel_rfl) (by kernel_rfl)
      change ρ (.tmp 8) = _ at e8
      simp only [execOp]
      go_simp
      exact hK _ _ rfl (fun _ => Grew.refl _) (fun h => absurd h (by decide))
    · refine plainG rfl ?_
      intro bA K Q' hK
      have e9 := hG 2 9 (by decide) (by kernel_rfl) (by kernel_rfl)
      change ρ (.tmp 9) = _ at e9
      obtain ⟨y0, y1⟩ := HC.out w5 (hR.any.elim id id)
      simp only [execOp]
      go_simp
      exact hK _ _ rfl (fun _ => Grew.refl _) (fun h => absurd h (by decide))
    · refine plainG rfl ?_
      intro bA K Q' hK
      have e10 := hG 3 10 (by decide) (by kernel_rfl) (by kernel_rfl)
      change ρ (.tmp 10) = _ at e10
      simp only [execOp]
      go_simp
      exact hK _ _ rfl (fun _ => Grew.refl _) (fun h => absurd h (by decide))
    · refine plainG rfl ?_
      intro bA K Q' hK
      have e11 := hG 4 11 (by decide) (by kernel_rfl) (by kernel_rfl)
      change ρ (.tmp 11) = _ at e11
      have hz5 := hR.any.elim id id
      simp only [execOp]
      go_simp
      exact hK _ _ ⟨w5.heap.size, rfl, hz5.size, heap_alloc_new w5 _⟩ (fun _ => (Grew.refl _).alloc _) (fun h => absurd h (by decide))
    · refine plainG rfl ?_
      intro bA K Q' hK
      have e0 := hS 0 (by kernel_rfl)
      change ρ (.tmp 0) = _ at e0
      simp only [execOp]
      go_simp
      exact hK _ _ rfl (fun _ => Grew.refl _) (fun h => absurd h (by decide))
    · refine plainG rfl ?_
      intro bA K Q' hK
      have e13 := hG 6 13 (by decide) (by kernel_rfl) (by kernel_rfl)
      change ρ (.tmp 13) = _ at e13
      simp only [execOp]
      go_simp
      exact hK _ _ rfl (fun _ => Grew.refl _) (fun h => absurd h (by decide))
    · refine plainG rfl ?_
      intro bA K Q' hK
      have e14 := hG 7 14 (by decide) (by kernel_rfl) (by kernel_rfl)
      change ρ (.tmp 14) = _ at e14
      simp only [execOp]
      go_simp
      exact hK _ _ rfl (fun _ => Grew.refl _) (fun h => absurd h (by decide))
    · refine plainG rfl ?_
      intro bA K Q' hK
      have e15 := hG 8 15 (by decide) (by kernel_rfl) (by kernel_rfl)
      change ρ (.tmp 15) = _ at e15
      obtain ⟨y0, y1⟩ := HC.out w5 (hR.any.elim id id)
      simp only [execOp]
      go_simp
      exact hK _ _ rfl (fun _ => Grew.refl _) (fun h => absurd h (by decide))
    · refine plainG rfl ?_
      intro bA K Q' hK
      have e16 := hG 9 16 (by decide) (by kernel_rfl) (by kernel_rfl)
      change ρ (.tmp 16) = _ at e16
      have hz5 := hR.any.elim id id
      simp only [execOp]
      go_simp
      exact hK _ _ ⟨w5.heap.size, rfl, hz5.size, heap_alloc_new w5 _⟩ (fun _ => (Grew.refl _).alloc _) (fun h => absurd h (by decide))
    · refine plainG rfl ?_
      intro bA K Q' hK
      have e17 := hG 10 17 (by decide) (by kernel_rfl) (by kernel_rfl)
      obtain ⟨q1, e17, hq1, hr1⟩ := e17
      change ρ (.tmp 17) = _ at e17
      have hz5 := hR.any.elim id id
      simp only [execOp]
      go_simp
      refine (HPUT.out w5 q1 hr1).mono ?_
      rintro r9 w9 ⟨v9, rfl, h9, hb9⟩
      exact hK _ _ (h9.weaken hz5.size) (fun _ => hb9) (fun h => absurd h (by decide))
    · refine plainG rfl ?_
      intro bA K Q' hK
      have e12 := hG 5 12 (by decide) (by kernel_rfl) (by kernel_rfl)
      have e18 := hG 11 18 (by decide) (by kernel_rfl) (by kernel_rfl)
      obtain ⟨q1, e12, hq1, hr1⟩ := e12
      change ρ (.tmp 12) = _ at e12
      have hz5 := hR.ahead (by decide)
      obtain ⟨a2, c2, h18, hn2, hc2, hc3, hs2⟩ := Row.sl e18
      have hown := own_one hr1 hq1
      have hpl := Var.put_ten HN64.out
      obtain ⟨v', w6, hr, ho', hgr⟩ := run_append_any (P := Try.prog) w5 x.heap.size 44 44 5 i0 (.int .u8 0) 1 Try.underlying44 HI.out.1 HI.out.2.1 HI.out.2.2.1 HI.out.2.2.2 rfl _ 1 _ hown a2 (Var.put n).length c2 (u8s (Var.put n)) (u8s_length _) hs2.some_len hs2.cells (u8s_one _) (by unfold maxLen; omega) (by omega) hz5.size
      refine uponAppendZ (.tmp 12) (.tmp 18) 44 44 rfl e12 h18 hr ?_
      refine hK _ _ ?_ (fun h => absurd rfl h) (fun _ => ⟨hz5.grown hgr hz5.size fun k hk => (hown.lt k hk).1, ?_⟩)
      · show Row 5 x.heap.size w6 v' (w :: Var.put n)
        unfold Row
        rw [List.length_cons, Nat.add_comm]
        exact ho'
      · simp only [AllLt]
        refine ⟨⟨⟨⟨⟨⟨⟨⟨⟨⟨⟨⟨⟨trivial, ?_⟩, ?_⟩, ?_⟩, ?_⟩, ?_⟩, ?_⟩, ?_⟩, ?_⟩, ?_⟩, ?_⟩, ?_⟩, ?_⟩, ?_⟩
        · exact fun _ _ y hy => hy
        · exact fun _ _ y hy => hy
        · exact fun _ _ y hy => hy
        · exact fun _ _ y hy => hy
        · exact fun _ _ y hy => hy
        · exact fun _ hl => absurd hl (by decide)
        · exact fun _ _ y hy => hy
        · exact fun _ _ y hy => hy
        · exact fun _ _ y hy => hy
        · exact fun _ _ y hy => hy
        · exact fun _ hl => absurd hl (by decide)
        · exact fun _ hl => absurd hl (by decide)
        · exact fun hne _ => absurd rfl hne
  · intro vv w5 hJ hG
    have h12 : Row 5 x.heap.size w5 (vv 12) (w :: Var.put n) := hG.2 (by decide)
    obtain ⟨u0, hu0⟩ : ∃ u0, u0 = vv 12 := ⟨_, rfl⟩
    rw [← hu0] at h12
    have HU := hid h12
    have HJ5 := hid hJ
    obtain ⟨k0, k1⟩ := HC.out w5 hJ
    clear hG h12 hJ HPUT
    simp [stG, stU, dstAt, Act.put, ← hu0]
    clear hu0
    have l1 : ∀ n', Calls Try.prog 25 #[.int .i64 (w : Int), .int .i64 (n : Int)] (w5.drewN n') fun e w' => e = .returned (.int .i64 (S : Int)) ∧ ∃ m, w' = w5.drewN m := fun n' => Calls.quiet_of_same ((HSZ.out (w5.drewN n')).mono fun _ _ h => ⟨h.1, h.2.symm⟩)
    go_wp2_with fail
    go_quiet (with_reducible exact l1 _)
    have HU6 : Hid (Row 5 x.heap.size (w5.drewN nq) u0 (w :: Var.put n)) := hid (HU.out.kept (below_drewN _ _))
    have HJ6 : Hid (Below x.heap.size x (w5.drewN nq)) := hid (HJ5.out.trans (Below.mono (below_drewN _ _) HJ5.out.size))
    clear k0 k1 l1 HU HJ5 HC HSZ
    generalize w5.drewN nq = w6 at *
    go_wp2_with fail
    go_loopw [3, 29] (fun u i wr => ∃ t : Nat, t ≤ S ∧ i = .int .i64 (t : Int) ∧ Row 5 x.heap.size wr u ((w :: Var.put n) ++ (pkB w l).take t) ∧ Below x.heap.size x wr) (fun _ i _ => S - (intOf i).toNat)
    case atStart => exact ⟨0, Nat.zero_le _, rfl, by rw [List.take_zero, List.append_nil]; exact HU6.out, HJ6.out⟩
    case round =>
      clear HU6 HJ6
      obtain ⟨t, ht, rfl, hr, hb⟩ := hrel
      have HR := hid hr
      have HB := hid hb
      clear hr hb
      by_cases hlt : (t : Int) < S
      · have hat := HH.out.below HB.out
        obtain ⟨q, hq⟩ : ∃ q, q = t / 8 := ⟨_, rfl⟩
        have hql : q < W.length := by
          rw [hat.wd.len]
          have h1 := HS.out
          rw [pkB_len] at h1
          omega
        obtain ⟨g, c, rfl, -⟩ := hat.raw.here (by omega)
        have k2 := hat.raw.c2
        have kw := hat.raw.word hql
        have hby := hat.wd.byte t
        rw [← hq] at hby
        have hx0 := wget_lt hat.wd.lt q
        obtain ⟨x0, hx0e⟩ : ∃ x0, x0 = W.getD q 0 := ⟨_, rfl⟩
        rw [← hx0e] at kw hby hx0
        obtain ⟨r8, hr8⟩ : ∃ r8, r8 = t % 8 := ⟨_, rfl⟩
        obtain ⟨s8, hs8⟩ : ∃ s8, s8 = 8 * r8 := ⟨_, rfl⟩
        rw [← hr8, ← hs8] at hby
        obtain ⟨y, hy⟩ : ∃ y, y = x0 >>> s8 := ⟨_, rfl⟩
        rw [← hy] at hby
        obtain ⟨z, hz⟩ : ∃ z, z = y % 256 := ⟨_, rfl⟩
        rw [← hz] at hby
        have hsn := hid (take_snoc (bs := pkB w l) (k := t) (by rw [← HS.out]; omega))
        have hgd : (pkB w l).getD t 0 = z := by
          rw [hby]
          unfold pkB bytesB
          have : t < (w * l.length + 7) / 8 := by have h1 := HS.out; rw [pkB_len] at h1; omega
          rw [List.getD_eq_getElem?_getD, List.getElem?_map, List.getElem?_range this]; rfl
        rw [hgd] at hsn
        have hy64 : y < 18446744073709551616 := by rw [hy]; exact Nat.lt_of_le_of_lt (shr_le _ _) hx0
        have f1 : (x0 : Int) / 2 ^ s8 = (y : Int) := by rw [hy, Nat.shiftRight_eq_div_pow]; simp
        have f2 : IntKind.u8.wrap (y : Int) = (z : Int) := by rw [IntKind.wrap_u8, hz]; omega
        have f3 : (y : Int) % 256 = (z : Int) := by rw [hz]; omega
        have hq8 : (t : Int) / 8 = (q : Int) := by omega
        have hr8i : (t : Int) % 8 = (r8 : Int) := by omega
        have hr8t : Int.tmod (t : Int) 8 = (r8 : Int) := by rw [Int.tmod_eq_emod_of_nonneg (by omega)]; omega
        have hs8i : 8 * (r8 : Int) = (s8 : Int) := by omega
        have hs64 : (s8 : Int) < 64 := by omega
        have hz256 : (z : Int) < 256 := by omega
        obtain ⟨nw, hnw⟩ : ∃ nw, nw = W.length := ⟨_, rfl⟩
        have hwl := hat.wlen
        rw [← hnw] at k2 hql hwl
        have hqn : (q : Int) < (nw : Int) := by omega
        have hq31 : (nw : Int) ≤ 31745 := by omega
        have htk : (t < S) = True := eq_true (by omega)
        have HLEN : Hid (((w :: Var.put n) ++ (pkB w l).take t).length ≤ 300000) := hid (by
          rw [List.length_append, List.length_cons, List.length_take]
          have := Var.put_ten HN64.out
          omega)
        have hl3 : ((w :: Var.put n) ++ (pkB w l).take (t + 1)) = ((w :: Var.put n) ++ (pkB w l).take t) ++ [z] := by rw [hsn.out, List.append_assoc]
        have HL3 := hid hl3
        obtain ⟨bs0, hbs0⟩ : ∃ bs0, bs0 = (w :: Var.put n) ++ (pkB w l).take t := ⟨_, rfl⟩
        rw [← hbs0] at HR HLEN HL3
        clear hat hq hby hx0 hx0e hr8 hs8 hy hz hgd hy64 hnw hwl hql hl3 hbs0 hsn
        go_wp2_with (refine wpList_append_any rfl (.tmp 32) (.tmp 46) 44 rfl x.heap.size 5 (.int .u8 0) 1 Try.underlying44 infoU8 rfl _ _ _ rfl (HR.out.alloc _) (some ⟨wr.heap.size, 0, none⟩) 1 1 _ rfl rfl (by intro h; cases h) (one_new wr _ _) (by simp [Value.oneCell']) (by have := HLEN.out; unfold maxLen; omega) (by have := HLEN.out; omega) (by have := HB.out.size; simp; omega) ?_)
        intro v3 w3 hv3 hg3 _
        have HB3 := hid (below_owned (w0 := x) (HB.out.alloc HB.out.size _) (HR.out.alloc _) (Nat.le_refl _) hg3)
        have HV3 := hid (row_one hv3 rfl rfl)
        rw [← HL3.out] at HV3
        clear hv3 hg3
        go_wp2_with fail
        go_roundw
        case rel => exact ⟨t + 1, by omega, by go_num, HV3.out, HB3.out⟩
        case measure => simp [intOf]; omega
      · have htk : (t < S) = False := eq_false (by omega)
        have HT : Hid (t = S) := hid (by omega)
        clear hlt
        go_wp2_with fail
        go_ret
        refine ⟨_, rfl, ?_, HB.out⟩
        have := HR.out
        rw [HT.out, List.take_of_length_le (by rw [← HS.out]; exact Nat.le_refl _)] at this
        unfold pkBs
        rw [← HN.out]
        exact this
end Go.Proofs.Ytcgapplblhbdlaa
