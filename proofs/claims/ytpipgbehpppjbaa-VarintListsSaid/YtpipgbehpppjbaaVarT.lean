/- CONTRACTS: a text at the beginning of any bytes, and the rest. -/
import Derived.Test.YtpipgbehpppjbaaVarH
namespace Go.Proofs.Ytpipgbehpppjbaa
open Go.RowKit Go.Inc

theorem Rd.fault {ok : Nat → Prop} {w : World} {g f : Nat} {bs : List Nat} (hr : Rd ok w g bs f) (hg : ∀ b, ok b → b ≠ g) (f' : Nat) : Rd ok (w.setCell ⟨g, 1, none⟩ (.int .i64 (f' : Int))) g bs f' := by
  obtain ⟨a, c, hrow, hs, r⟩ := hr
  exact ⟨a, c, heap_setCell_same w g 1 _ _ _ hrow, hs.grown (grown_setCell (grown_refl _ _) (.inl rfl) _) hg, r⟩
theorem Rd.c1 {ok : Nat → Prop} {w : World} {g f : Nat} {bs : List Nat} (hr : Rd ok w g bs f) : w.cell? ⟨g, 1, none⟩ = some (.int .i64 (f : Int)) ∧ w.frozen? ⟨g, 1, none⟩ = false := by
  obtain ⟨a, c, hrow, _⟩ := hr
  exact ⟨cell_of_row w g 1 _ _ _ hrow, frozen_of_row w g 1 _ _ hrow⟩

theorem whole_yes (ok : Nat → Prop) (g k f : Nat) (bs : List Nat) (w : World) (hr : Rd ok w g bs f) (hg : ∀ b, ok b → b ≠ g) (hk : k ≤ bs.length) :
    Calls Try.prog 45 #[.pointer (some ⟨g, 0, none⟩), .int .i64 (k : Int)] w fun e w' => ∃ a' c', e = .returned (.slice a' k c') ∧ Sl ok w' a' (bs.take k) ∧ (a' = none → c' = 0) ∧ k ≤ c' ∧ c' ≤ maxLen ∧ Rd ok w' g (bs.drop k) f ∧ w.grownBy w' (some g) := by
  have H := hid (take_yes ok g k f bs w hr hg hk _ rfl)
  clear hr hg hk
  go_enter Try.func45, Try.ntmps45
  go_wp2_with fail
  refine H.out.mono ?_
  rintro e w' ⟨a', c', rfl, hs, hn, hk, hm, hr, hg⟩
  have R := hid (And.intro hs (And.intro hn (And.intro hk (And.intro hm (And.intro hr hg)))))
  clear hs hn hk hm hr hg H
  go_wp2_with fail
  go_ret
  exact ⟨_, _, rfl, R.out⟩
theorem whole_no (ok : Nat → Prop) (g f : Nat) (k : Int) (bs : List Nat) (w : World) (hr : Rd ok w g bs f) (hg : ∀ b, ok b → b ≠ g) (hk : (bs.length : Int) < k) :
    Calls Try.prog 45 #[.pointer (some ⟨g, 0, none⟩), .int .i64 k] w fun e w' => e = .returned (.slice none 0 0) ∧ Rd ok w' g bs 4 ∧ w.grownBy w' (some g) := by
  have H := hid (take_no ok g f k bs w hr hk)
  have HR := hid (hr.fault hg 4)
  obtain ⟨c1, fz⟩ := hr.c1
  clear hr hg hk
  go_enter Try.func45, Try.ntmps45
  go_wp2_with fail
  refine H.out.mono ?_
  rintro e w' ⟨rfl, rfl⟩
  clear H
  go_wp2_with fail
  go_ret
  exact ⟨rfl, HR.out, grown_setCell (grown_refl _ _) (.inl rfl) _⟩

/-- What stands behind the text's size. -/
def bodyOf (bs : List Nat) : List Nat := bs.drop (Var.pos 9223372036854775807 bs)
def textErr (bs : List Nat) : Nat := if Var.err 9223372036854775807 bs ≠ 0 then Var.err 9223372036854775807 bs else if (bodyOf bs).length < Var.val 9223372036854775807 bs then 4 else 0
def textVal (bs : List Nat) : List Nat := if textErr bs = 0 then (bodyOf bs).take (Var.val 9223372036854775807 bs) else []
def textRest (bs : List Nat) : List Nat := if textErr bs = 0 then (bodyOf bs).drop (Var.val 9223372036854775807 bs) else []
/-- What a reader has behind a text. -/
def TextRd (bs : List Nat) (B g : Nat) (w : World) (e : Ending) (w' : World) : Prop :=
  ∃ v l, e = .returned v ∧ Row 5 B w' v (textVal bs) ∧ l.length ≤ bs.length ∧ restOf (textErr bs) l = textRest bs ∧ Rd (fun b => b < g) w' g l (textErr bs) ∧ Below g w w'

set_option maxHeartbeats 1000000 in
theorem text_read (g : Nat) (bs : List Nat) (w : World) (hr : Rd (fun b => b < g) w g bs 0) (hby : Bytes bs) (hl : bs.length ≤ 70368744177664) :
    Calls Try.prog 37 #[.pointer (some ⟨g, 0, none⟩)] w (TextRd bs (g + 1) g w) := by
  have hgw : g < w.heap.size := by obtain ⟨a, c, h, _⟩ := hr; exact row_lt h
  have hok : ∀ b, b < g → b ≠ g := fun b h e => by omega
  have H := hid (plain_any _ g 0 bs w hr hok hby)
  have HGW := hid hgw
  have HL := hid hl
  have HOK := hid hok
  clear hr hby hgw hl hok
  go_enter Try.func37, Try.ntmps37
  go_wp2_with fail
  refine H.out.mono ?_
  rintro e w1 ⟨rfl, hr1⟩
  have hb1 : Below g w w1 := grown_is_below hr1.2 (Nat.le_refl _) (Nat.le_of_lt HGW.out)
  by_cases he : Var.err 9223372036854775807 bs = 0
  · have hr2 : Rd (fun b => b < g) w1 g (bodyOf bs) 0 := by
      have := hr1.1
      unfold leftOf faultOf at this
      rw [if_pos he, if_pos he] at this
      exact this
    have HE : Hid (textErr bs = if (bodyOf bs).length < Var.val 9223372036854775807 bs then 4 else 0) := hid (by unfold textErr; rw [if_neg (by simpa using he)])
    have hbl : (bodyOf bs).length ≤ bs.length := by unfold bodyOf; simp
    have HT : Hid (textVal bs = if textErr bs = 0 then (bodyOf bs).take (Var.val 9223372036854775807 bs) else []) := hid rfl
    have HR : Hid (textRest bs = if textErr bs = 0 then (bodyOf bs).drop (Var.val 9223372036854775807 bs) else []) := hid rfl
    have hv := Var.val_le 9223372036854775807 bs
    obtain ⟨c1, fz⟩ := hr2.c1
    have HR2 := hid hr2
    have HB1 := hid hb1
    have HBL := hid hbl
    have HGW1 : Hid (g < w1.heap.size) := hid (Nat.lt_of_lt_of_le HGW.out hr1.2.size)
    clear he hr1 hr2 hb1 H hbl
    have hvi : ((Var.val 9223372036854775807 bs : Nat) : Int) ≤ 9223372036854775807 := by omega
    clear hv
    generalize bodyOf bs = l at *
    generalize hvv : Var.val 9223372036854775807 bs = v at *
    have HVV := hid hvv
    clear hvv
    by_cases hk : v ≤ l.length
    · have H3 := hid (whole_yes _ g v 0 l w1 HR2.out HOK.out hk)
      have E0 : Hid (textErr bs = 0) := hid (by rw [HE.out, if_neg (by omega)])
      have HK : Hid ((l.take v).length = v) := hid (by rw [List.length_take]; omega)
      clear hk
      go_wp2_with fail
      refine H3.out.mono ?_
      rintro e w2 ⟨a', c', rfl, hs, hn, _, _, hr3, hg3⟩
      have H4 := clone_any _ a' c' (l.take v) w2 hs (by have := HBL.out; have := HL.out; rw [List.length_take]; omega) hn
      rw [HK.out] at H4
      have H4 := hid H4
      have HG3 := hid hg3
      have HR3 := hid hr3
      clear hs hn hr3 hg3 c1 fz H3
      go_wp2_with fail
      refine H4.out.mono ?_
      rintro e w3 ⟨u, rfl, hu, hb⟩
      have HU : Hid (Row 5 w2.heap.size w3 u (l.take v)) := hid (by
        unfold Row
        rw [HK.out]
        exact hu)
      have HB := hid hb
      clear hu hb H4
      go_wp2_with fail
      go_ret
      have hgw2 : g < w2.heap.size := Nat.lt_of_lt_of_le HGW1.out HG3.out.size
      have hr4 : Rd (fun b => b < g) w3 g (l.drop v) 0 := by
        obtain ⟨a, c, hrow, hs, r⟩ := HR3.out
        exact ⟨a, c, row_below hrow HB.out, hs.below HB.out, r⟩
      refine ⟨_, l.drop v, rfl, ?_, ?_, ?_, ?_, ?_⟩
      · rw [HT.out, if_pos E0.out]; exact HU.out.weaken hgw2
      · have := HBL.out; rw [List.length_drop]; omega
      · rw [HR.out, if_pos E0.out, E0.out]; rfl
      · rw [E0.out]; exact hr4
      · exact HB1.out.trans ((grown_is_below HG3.out (Nat.le_refl _) (Nat.le_of_lt HGW1.out)).trans (HB.out.mono (Nat.le_of_lt hgw2)))
    · have H3 := hid (whole_no _ g 0 (v : Int) l w1 HR2.out HOK.out (by omega))
      have E4 : Hid (textErr bs = 4) := hid (by rw [HE.out, if_pos (by omega)])
      clear hk
      go_wp2_with fail
      refine H3.out.mono ?_
      rintro e w2 ⟨rfl, hr3, hg3⟩
      have HG3 := hid hg3
      have HR3 := hid hr3
      clear hr3 hg3 c1 fz H3
      go_wp2_with fail
      refine (clone_nil w2).mono ?_
      rintro e w' ⟨rfl, rfl⟩
      go_wp2_with fail
      go_ret
      refine ⟨_, l, rfl, ?_, HBL.out, ?_, ?_, ?_⟩
      · rw [HT.out, E4.out]; exact Row.nil _ _ _
      · rw [HR.out, E4.out]; rfl
      · rw [E4.out]; exact HR3.out
      · exact HB1.out.trans (grown_is_below HG3.out (Nat.le_refl _) (Nat.le_of_lt HGW1.out))
  · have hr2 : Rd (fun b => b < g) w1 g bs (Var.err 9223372036854775807 bs) := by
      have := hr1.1
      unfold leftOf faultOf at this
      rw [if_neg he, if_neg he] at this
      exact this
    have HE : Hid (textErr bs = Var.err 9223372036854775807 bs) := hid (by unfold textErr; rw [if_pos he])
    have HT : Hid (textVal bs = []) := hid (by unfold textVal; rw [HE.out, if_neg he])
    have HR : Hid (textRest bs = []) := hid (by unfold textRest; rw [HE.out, if_neg he])
    obtain ⟨c1, fz⟩ := hr2.c1
    have hf : (((Var.err 9223372036854775807 bs : Nat) : Int) != 0) = true := by rw [bne_iff_ne]; omega
    have HB1 := hid hb1
    have HR2 := hid hr2
    have HEN := hid he
    clear hr1 hr2 hb1 H he
    go_wp2_with fail
    go_ret
    refine ⟨_, bs, rfl, ?_, Nat.le_refl _, ?_, ?_, HB1.out⟩
    · rw [HT.out]; exact Row.nil _ _ _
    · rw [HR.out, HE.out]; unfold restOf; rw [if_neg HEN.out]
    · rw [HE.out]; exact HR2.out

/-- Three results, the first a slice of bytes. -/
def AnsB (us : List Nat) (f : Nat) (rest : List Nat) (B : Nat) (e : Ending) (w' : World) : Prop :=
  ∃ u v, e = .returned (.tuple #[u, v, .int .i64 (f : Int)]) ∧ Row 5 B w' u us ∧ Row 5 B w' v rest
theorem answerB_good (ok : Nat → Prop) (g : Nat) (u : Value) (bs : List Nat) (w : World) (hr : Rd ok w g bs 0) (hl : bs.length ≤ 70368744177664) :
    Calls Try.prog 36 #[.pointer (some ⟨g, 0, none⟩), u] w fun e w' => (∃ v, e = .returned (.tuple #[u, v, .int .i64 0]) ∧ Row 5 w.heap.size w' v bs) ∧ Below w.heap.size w w' := by
  have H := hid (apart_any ok g 0 bs w hr hl)
  obtain ⟨c1, fz⟩ := hr.c1
  clear hr
  go_enter Try.func36, Try.ntmps36
  go_wp2_with fail
  refine H.out.mono ?_
  rintro e w' ⟨u, rfl, hr, hb⟩
  have HR := hid hr
  clear hr
  go_wp2_with fail
  go_ret3
  exact ⟨⟨_, rfl, HR.out⟩, hb⟩
theorem answerB_bad (ok : Nat → Prop) (g f : Nat) (u : Value) (bs : List Nat) (w : World) (hr : Rd ok w g bs f) (hf : f ≠ 0) :
    Calls Try.prog 36 #[.pointer (some ⟨g, 0, none⟩), u] w fun e w' => e = .returned (.tuple #[.slice none 0 0, .slice none 0 0, .int .i64 (f : Int)]) ∧ Below w.heap.size w w' := by
  obtain ⟨c1, fz⟩ := hr.c1
  have hf1 : ((f : Int) != 0) = true := by rw [bne_iff_ne]; omega
  clear hr hf
  go_enter Try.func36, Try.ntmps36
  go_wp2_with fail
  go_quiet (fail)
  go_wp2_with fail
  go_ret3
  exact ⟨rfl, ⟨rfl, rfl, rfl, Nat.le_refl _, fun _ _ => rfl⟩⟩
theorem answerB_any (ok : Nat → Prop) (g f B : Nat) (u : Value) (us bs : List Nat) (w : World) (hr : Rd ok w g bs f) (hl : bs.length ≤ 70368744177664) (hu : Row 5 B w u us) (hB : B ≤ w.heap.size) :
    Calls Try.prog 36 #[.pointer (some ⟨g, 0, none⟩), u] w fun e w' => AnsB (if f = 0 then us else []) f (restOf f bs) B e w' ∧ Below w.heap.size w w' := by
  by_cases h : f = 0
  · subst h
    refine (answerB_good ok g u bs w hr hl).mono ?_
    rintro e w' ⟨⟨v, rfl, hv⟩, hb⟩
    exact ⟨⟨u, v, rfl, hu.kept hb, hv.weaken hB⟩, hb⟩
  · refine (answerB_bad ok g f u bs w hr h).mono ?_
    rintro e w' ⟨rfl, hb⟩
    unfold restOf
    rw [if_neg h, if_neg h]
    exact ⟨⟨_, _, rfl, Row.nil _ _ _, Row.nil _ _ _⟩, hb⟩

theorem getText_any (ok : Nat → Prop) (a : Option Addr) (c : Nat) (bs : List Nat) (w : World) (hs : Sl ok w a bs) (hc : bs.length ≤ c ∧ c ≤ maxLen) (hn : a = none → c = 0) (hby : Bytes bs) (hl : bs.length ≤ 70368744177664) :
    Calls Try.prog 21 #[.slice a bs.length c] w fun e w' => AnsB (textVal bs) (textErr bs) (textRest bs) w.heap.size e w' ∧ Below w.heap.size w w' := by
  have H := hid (over_any (fun b => b < w.heap.size) a c bs w (hs.mono fun b _ h => h) hc hn)
  have HBY := hid hby
  have HL := hid hl
  clear hs hn hby hl hc
  go_enter Try.func21, Try.ntmps21
  go_wp2_with fail
  refine H.out.mono ?_
  rintro e w1 ⟨rfl, hr, hb1⟩
  have hgw : w.heap.size < w1.heap.size := by obtain ⟨a, c, h, _⟩ := hr; exact row_lt h
  have H1 := hid (text_read w.heap.size bs w1 hr HBY.out HL.out)
  have HB1 := hid hb1
  have HGW := hid hgw
  clear hr hb1 hgw H
  go_wp2_with fail
  refine H1.out.mono ?_
  rintro e w2 ⟨u, l, rfl, hu, hll, hre, hr2, hb2⟩
  have H2 := hid (answerB_any _ w.heap.size _ w.heap.size u _ l w2 hr2 (by have := HL.out; omega) (hu.weaken (Nat.le_succ _)) (Nat.le_trans HB1.out.size hb2.size))
  have HB2 := hid (HB1.out.trans hb2)
  have HRE := hid hre
  have HTV : Hid ((if textErr bs = 0 then textVal bs else []) = textVal bs) := hid (by unfold textVal; split <;> rfl)
  clear hu hll hre hr2 hb2 H1
  go_wp2_with fail
  refine H2.out.mono ?_
  rintro e w3 ⟨⟨u', v, rfl, hu, hv⟩, hb3⟩
  rw [HRE.out] at hv
  rw [HTV.out] at hu
  have HU := hid hu
  have HV := hid hv
  have HB3 := hid (HB2.out.trans (hb3.mono HB2.out.size))
  clear hu hv hb3
  go_wp2_with fail
  go_ret3
  exact ⟨⟨_, _, rfl, HU.out, HV.out⟩, HB3.out⟩
end Go.Proofs.Ytpipgbehpppjbaa
