/- PLAIN FACTS OF FRAMES: their bytes, what is picked from bytes, when bytes are a frame's, torn pages. -/
import Derived.Test.YtmdimhijbmeioaaCrcF
import Derived.Test.YtmdimhijbmeioaaVarMath
namespace Go.Proofs.Ytmdimhijbmeioaa
open Go.RowKit Go.Inc

/-- A frame. -/
structure Fr where
  k : Int
  e : Int
  p : Int
  b : List Nat

def Fr.ok (f : Fr) : Prop := 1 ≤ f.k ∧ f.k ≤ 9 ∧ 0 ≤ f.e ∧ f.e ≤ 4294967295 ∧ 0 ≤ f.p ∧ f.p ≤ 2047 ∧ f.b.length ≤ 238
/-- Is it right? -/
def chk (f : Fr) : Nat := if f.k < 1 ∨ 9 < f.k then 13 else if f.e < 0 ∨ 4294967295 < f.e ∨ f.p < 0 ∨ 2047 < f.p then 10 else if 238 < f.b.length then 2 else 0
theorem chk_zero (f : Fr) : chk f = 0 ↔ f.ok := by
  unfold chk Fr.ok
  repeat' split
  all_goals omega
theorem chk_ok {f : Fr} (h : f.ok) : chk f = 0 := (chk_zero f).2 h

def fr2 (n : Nat) : List Nat := [n % 256, n / 256 % 256]
def fr4 (n : Nat) : List Nat := [n % 256, n / 256 % 256, n / 65536 % 256, n / 16777216 % 256]
theorem fr2_bytes (n : Nat) : Bytes (fr2 n) := by intro x hx; simp only [fr2, List.mem_cons, List.not_mem_nil, or_false] at hx; omega
theorem fr4_bytes (n : Nat) : Bytes (fr4 n) := by intro x hx; simp only [fr4, List.mem_cons, List.not_mem_nil, or_false] at hx; omega
/-- The bytes but the sum. -/
def laid (f : Fr) : List Nat := [241, f.k.toNat % 256] ++ fr4 f.e.toNat ++ fr2 f.p.toNat ++ fr2 f.b.length ++ f.b ++ List.replicate (238 - f.b.length) 0 ++ fr4 f.e.toNat
theorem laid_len {f : Fr} (h : f.b.length ≤ 238) : (laid f).length = 252 := by
  simp [laid, fr4, fr2]; omega
theorem laid_bytes {f : Fr} (hb : Bytes f.b) : Bytes (laid f) := by
  unfold laid
  refine (((((Bytes.append ?_ (fr4_bytes _)).append (fr2_bytes _)).append (fr2_bytes _)).append hb).append ?_).append (fr4_bytes _)
  · intro x hx; simp at hx; omega
  · intro x hx; rw [List.mem_replicate] at hx; omega
def enc (f : Fr) : List Nat := mark (laid f)
theorem enc_len {f : Fr} (h : f.b.length ≤ 238) : (enc f).length = 256 := by unfold enc; rw [mark_len, laid_len h]
theorem enc_bytes {f : Fr} (hb : Bytes f.b) : Bytes (enc f) := mark_bytes (laid_bytes hb)
theorem enc_take {f : Fr} (h : f.b.length ≤ 238) : (enc f).take 252 = laid f := by unfold enc mark; exact List.take_left' (laid_len h)

/-- Bytes from a place on. -/
def frAt (bs : List Nat) (i j : Nat) : List Nat := (bs.drop i).take j
theorem frAt_len {bs : List Nat} {i j : Nat} (h : i + j ≤ bs.length) : (frAt bs i j).length = j := by unfold frAt; rw [List.length_take, List.length_drop]; omega
theorem frAt_bytes {bs : List Nat} (h : Bytes bs) (i j : Nat) : Bytes (frAt bs i j) := (h.drop i).take j
theorem frAt_get {bs : List Nat} {i j x : Nat} (h : x < j) : (frAt bs i j).getD x 0 = bs.getD (i + x) 0 := by
  unfold frAt
  rw [List.getD_eq_getElem?_getD, List.getElem?_take, if_pos h, List.getElem?_drop, ← List.getD_eq_getElem?_getD]
theorem frAt_take (bs : List Nat) (i j m : Nat) (h : i + j ≤ m) : frAt (bs.take m) i j = frAt bs i j := by
  unfold frAt
  rw [List.drop_take, List.take_take, Nat.min_eq_left (by omega)]
theorem frAt_left {a b : List Nat} {i j : Nat} (h : i + j ≤ a.length) : frAt (a ++ b) i j = frAt a i j := by
  have := frAt_take (a ++ b) i j a.length h
  rw [List.take_left] at this
  exact this.symm
theorem frAt_mid (a b c : List Nat) {i j : Nat} (hi : a.length = i) (hj : b.length = j) : frAt (a ++ b ++ c) i j = b := by
  unfold frAt
  rw [List.append_assoc, List.drop_left' hi, List.take_left' hj]
theorem num2 (a b : Nat) : Var.num [a, b] = a + 256 * b := by simp [Var.num]; try omega
theorem num1 (a : Nat) : Var.num [a] = a := by simp [Var.num]
theorem num4 (a b c d : Nat) : Var.num [a, b, c, d] = a + 256 * b + 65536 * c + 16777216 * d := by simp [Var.num]; omega
theorem of_len1 {l : List Nat} (h : l.length = 1) : l = [l.getD 0 0] := by
  match l, h with
  | [a], _ => rfl
theorem of_len2 {l : List Nat} (h : l.length = 2) : l = [l.getD 0 0, l.getD 1 0] := by
  match l, h with
  | [a, b], _ => rfl
theorem fr2_num {l : List Nat} (h : l.length = 2) (hb : Bytes l) : fr2 (Var.num l) = l := by
  match l, h with
  | [a, b], _ =>
    have ha := hb a (by simp)
    have hb := hb b (by simp)
    rw [num2]; unfold fr2
    congr 1
    · omega
    · congr 1; omega
theorem fr4_num {l : List Nat} (h : l.length = 4) (hb : Bytes l) : fr4 (Var.num l) = l := by
  match l, h with
  | [a, b, c, d], _ =>
    have ha := hb a (by simp)
    have hb' := hb b (by simp)
    have hc := hb c (by simp)
    have hd := hb d (by simp)
    rw [num4]; unfold fr4
    congr 1
    · omega
    · congr 1
      · omega
      · congr 1
        · omega
        · congr 1; omega
theorem num_fr2 {n : Nat} (h : n < 65536) : Var.num (fr2 n) = n := by unfold fr2; rw [num2]; omega
theorem num_fr4 {n : Nat} (h : n < 4294967296) : Var.num (fr4 n) = n := by unfold fr4; rw [num4]; omega
theorem num_lt2 {l : List Nat} (h : l.length = 2) (hb : Bytes l) : Var.num l < 65536 := by
  match l, h with
  | [a, b], _ =>
    have ha := hb a (by simp)
    have hb := hb b (by simp)
    rw [num2]; omega
theorem num_lt4 {l : List Nat} (h : l.length = 4) (hb : Bytes l) : Var.num l < 4294967296 := by
  match l, h with
  | [a, b, c, d], _ =>
    have ha := hb a (by simp)
    have hb' := hb b (by simp)
    have hc := hb c (by simp)
    have hd := hb d (by simp)
    rw [num4]; omega

/-- The size of the body, as the bytes tell it. -/
def frN (bs : List Nat) : Nat := Var.num (frAt bs 8 2)
/-- What stands in a page's bytes, right or not. -/
def picked (bs : List Nat) : Fr := ⟨(Var.num (frAt bs 1 1) : Nat), (Var.num (frAt bs 2 4) : Nat), (Var.num (frAt bs 6 2) : Nat), frAt bs 10 (min (frN bs) 238)⟩
theorem picked_bytes {bs : List Nat} (h : Bytes bs) : Bytes (picked bs).b := frAt_bytes h _ _
theorem picked_len {bs : List Nat} (h : bs.length = 256) : (picked bs).b.length = min (frN bs) 238 := by unfold picked; exact frAt_len (by omega)
theorem picked_248 {a b : List Nat} (h : a.take 248 = b.take 248) : picked a = picked b := by
  have key : ∀ i j, i + j ≤ 248 → frAt a i j = frAt b i j := fun i j hij => by rw [← frAt_take a i j 248 hij, h, frAt_take b i j 248 hij]
  have hn : frN a = frN b := by unfold frN; rw [key 8 2 (by omega)]
  unfold picked
  rw [key 1 1 (by omega), key 2 4 (by omega), key 6 2 (by omega), hn, key 10 _ (by omega)]

theorem picked_laid {f : Fr} (h : f.ok) (t : List Nat) : picked (laid f ++ t) = f := by
  obtain ⟨h1, h2, h3, h4, h5, h6, h7⟩ := h
  have hl := laid_len h7
  have e : ∀ i j, i + j ≤ 252 → frAt (laid f ++ t) i j = frAt (laid f) i j := fun i j hij => frAt_left (by omega)
  have p0 : frAt (laid f) 1 1 = [f.k.toNat % 256] := by
    unfold laid frAt
    simp
  have p2 : frAt (laid f) 2 4 = fr4 f.e.toNat := by
    unfold laid
    rw [List.append_assoc, List.append_assoc, List.append_assoc, List.append_assoc]
    exact frAt_mid [241, f.k.toNat % 256] (fr4 f.e.toNat) _ rfl rfl
  have p6 : frAt (laid f) 6 2 = fr2 f.p.toNat := by
    unfold laid
    rw [List.append_assoc, List.append_assoc, List.append_assoc]
    exact frAt_mid ([241, f.k.toNat % 256] ++ fr4 f.e.toNat) (fr2 f.p.toNat) _ rfl rfl
  have p8 : frAt (laid f) 8 2 = fr2 f.b.length := by
    unfold laid
    rw [List.append_assoc, List.append_assoc]
    exact frAt_mid ([241, f.k.toNat % 256] ++ fr4 f.e.toNat ++ fr2 f.p.toNat) (fr2 f.b.length) _ rfl rfl
  have p10 : frAt (laid f) 10 f.b.length = f.b := by
    unfold laid
    rw [List.append_assoc]
    exact frAt_mid ([241, f.k.toNat % 256] ++ fr4 f.e.toNat ++ fr2 f.p.toNat ++ fr2 f.b.length) f.b _ rfl rfl
  have hn : frN (laid f ++ t) = f.b.length := by unfold frN; rw [e 8 2 (by omega), p8, num_fr2 (by omega)]
  unfold picked
  rw [hn, Nat.min_eq_left h7, e 1 1 (by omega), e 2 4 (by omega), e 6 2 (by omega), e 10 _ (by omega), p0, p2, p6, p10, num1, num_fr4 (by omega), num_fr2 (by omega)]
  have a1 : ((f.k.toNat % 256 : Nat) : Int) = f.k := by omega
  have a2 : ((f.e.toNat : Nat) : Int) = f.e := by omega
  have a3 : ((f.p.toNat : Nat) : Int) = f.p := by omega
  rw [a1, a2, a3]
theorem picked_enc {f : Fr} (h : f.ok) : picked (enc f) = f := picked_laid h _

/-- Bytes are a frame's: the document's list of what is asked. -/
def Form (bs : List Nat) : Prop := bs.getD 0 0 = 241 ∧ frN bs ≤ 238 ∧ frAt bs (10 + frN bs) (238 - frN bs) = List.replicate (238 - frN bs) 0 ∧ frAt bs 248 4 = frAt bs 2 4
theorem split252 (bs : List Nat) (m : Nat) (hm : m ≤ 238) : bs.take 252 = bs.take 2 ++ frAt bs 2 4 ++ frAt bs 6 2 ++ frAt bs 8 2 ++ frAt bs 10 m ++ frAt bs (10 + m) (238 - m) ++ frAt bs 248 4 := by
  unfold frAt
  rw [show 252 = 248 + 4 from rfl, List.take_add]
  have h1 : bs.take 248 = bs.take (10 + m) ++ (bs.drop (10 + m)).take (238 - m) := by rw [← List.take_add]; congr 1; omega
  rw [h1, List.take_add (i := 10), show 10 = 8 + 2 from rfl, List.take_add (i := 8), show 8 = 6 + 2 from rfl, List.take_add (i := 6), show 6 = 2 + 4 from rfl, List.take_add (i := 2)]
theorem form_laid {bs : List Nat} (h : bs.length = 256) (hb : Bytes bs) : laid (picked bs) = bs.take 252 ↔ Form bs := by
  have hm : min (frN bs) 238 ≤ 238 := Nat.min_le_right _ _
  have hpl := picked_len h
  have h2 : bs.take 2 = [bs.getD 0 0, bs.getD 1 0] := by
    have := of_len2 (l := bs.take 2) (by rw [List.length_take]; omega)
    rw [this]
    simp only [List.getD_eq_getElem?_getD, List.getElem?_take]
    rfl
  have hk : (Var.num (frAt bs 1 1) : Nat) = bs.getD 1 0 := by
    have := of_len1 (l := frAt bs 1 1) (frAt_len (by omega))
    rw [this, num1, frAt_get (by omega)]
  have hk2 := hb.getD 1
  have e4 : fr4 (Var.num (frAt bs 2 4)) = frAt bs 2 4 := fr4_num (frAt_len (by omega)) (frAt_bytes hb _ _)
  have e2 : fr2 (Var.num (frAt bs 6 2)) = frAt bs 6 2 := fr2_num (frAt_len (by omega)) (frAt_bytes hb _ _)
  have e8 : fr2 (frN bs) = frAt bs 8 2 := fr2_num (frAt_len (by omega)) (frAt_bytes hb _ _)
  have hN : frN bs < 65536 := num_lt2 (frAt_len (by omega)) (frAt_bytes hb _ _)
  have hlaid : laid (picked bs) = [241, bs.getD 1 0] ++ frAt bs 2 4 ++ frAt bs 6 2 ++ fr2 (min (frN bs) 238) ++ frAt bs 10 (min (frN bs) 238) ++ List.replicate (238 - min (frN bs) 238) 0 ++ frAt bs 2 4 := by
    unfold laid
    rw [hpl]
    unfold picked
    simp only [Int.toNat_natCast]
    rw [hk, e4, e2, Nat.mod_eq_of_lt hk2]
  rw [hlaid, split252 bs _ hm, h2]
  have l4 : (frAt bs 248 4).length = 4 := frAt_len (by omega)
  have l2 : (frAt bs 2 4).length = 4 := frAt_len (by omega)
  have lz : (frAt bs (10 + min (frN bs) 238) (238 - min (frN bs) 238)).length = 238 - min (frN bs) 238 := frAt_len (by omega)
  have l8 : (frAt bs 8 2).length = 2 := frAt_len (by omega)
  constructor
  · intro hx
    obtain ⟨hx, x4⟩ := List.append_inj' hx (by rw [l2, l4])
    obtain ⟨hx, xz⟩ := List.append_inj' hx (by rw [lz, List.length_replicate])
    obtain ⟨hx, _⟩ := List.append_inj' hx rfl
    obtain ⟨hx, x8⟩ := List.append_inj' hx (by rw [l8]; rfl)
    obtain ⟨hx, _⟩ := List.append_inj' hx rfl
    obtain ⟨hx, _⟩ := List.append_inj' hx rfl
    have hn : frN bs = min (frN bs) 238 := by
      have := congrArg Var.num x8
      rw [num_fr2 (by omega)] at this
      exact this.symm
    rw [← hn] at xz
    refine ⟨?_, by omega, xz.symm, x4.symm⟩
    injection hx with hx _
    exact hx.symm
  · rintro ⟨f0, fn, fz, f4⟩
    rw [Nat.min_eq_left fn, fz, f4, f0, e8]

/-- What is wrong with bytes. -/
def decE (bs : List Nat) : Nat := if bs.length ≠ 256 then 2 else if holds bs = false then 5 else if chk (picked bs) = 0 ∧ laid (picked bs) = bs.take 252 then 0 else 3
def zeroFr : Fr := ⟨0, 0, 0, []⟩
def decF (bs : List Nat) : Fr := if decE bs = 0 then picked bs else zeroFr
theorem decE_zero {bs : List Nat} (h : decE bs = 0) : bs.length = 256 ∧ holds bs = true ∧ (picked bs).ok ∧ laid (picked bs) = bs.take 252 := by
  unfold decE at h
  split at h
  · cases h
  · split at h
    · cases h
    · split at h
      · rename_i a b c
        exact ⟨by omega, by simpa using b, (chk_zero _).1 c.1, c.2⟩
      · cases h
theorem decE_enc {f : Fr} (h : f.ok) : decE (enc f) = 0 := by
  have hl := h.2.2.2.2.2.2
  unfold decE
  rw [if_neg (by rw [enc_len hl]; simp), if_neg (by unfold enc; rw [holds_mark]; simp), if_pos]
  rw [picked_enc h]
  exact ⟨chk_ok h, (enc_take hl).symm⟩
theorem decF_enc {f : Fr} (h : f.ok) : decF (enc f) = f := by unfold decF; rw [if_pos (decE_enc h), picked_enc h]
theorem enc_dec {bs : List Nat} (h : decE bs = 0) : enc (picked bs) = bs := by
  obtain ⟨hl, hh, hok, hld⟩ := decE_zero h
  unfold enc
  rw [hld]
  unfold mark
  unfold holds at hh
  rw [decide_eq_true_iff, hl] at hh
  rw [← hh.2]
  exact List.take_append_drop 252 bs
theorem decE_turned {f : Fr} (h : f.ok) (hb : Bytes f.b) {m b : Nat} (hm : m < 256) (hb2 : b < 256) (h0 : b ≠ 0) : decE (turned (enc f) m b) = 5 := by
  have hl := enc_len h.2.2.2.2.2.2
  unfold decE
  rw [if_neg (by rw [turned_len, hl]; simp), if_pos]
  exact holds_turned _ (laid_bytes hb) m b (by unfold enc at hl; omega) hb2 h0
theorem decE_zeros : decE (List.replicate 256 0) = 5 := by
  unfold decE
  rw [if_neg (by rw [List.length_replicate]; decide), if_pos (by decide +kernel)]

theorem getD_append_left {a b : List Nat} {i : Nat} (h : i < a.length) : (a ++ b).getD i 0 = a.getD i 0 := by
  simp only [List.getD_eq_getElem?_getD, List.getElem?_append_left h]
theorem getD_append_right {a b : List Nat} {i : Nat} (h : a.length ≤ i) : (a ++ b).getD i 0 = b.getD (i - a.length) 0 := by
  simp only [List.getD_eq_getElem?_getD, List.getElem?_append_right h]
theorem getD_take {a : List Nat} {i m : Nat} (h : i < m) : (a.take m).getD i 0 = a.getD i 0 := by
  simp only [List.getD_eq_getElem?_getD, List.getElem?_take, if_pos h]
theorem getD_drop (a : List Nat) (i m : Nat) : (a.drop m).getD i 0 = a.getD (m + i) 0 := by
  simp only [List.getD_eq_getElem?_getD, List.getElem?_drop]
/-- The first byte of the epoch, at both ends. -/
theorem enc_2 (f : Fr) : (enc f).getD 2 0 = f.e.toNat % 256 := by
  unfold enc mark laid
  simp only [List.append_assoc]
  rfl
theorem enc_248 {f : Fr} (h : f.b.length ≤ 238) : (enc f).getD 248 0 = f.e.toNat % 256 := by
  unfold enc mark
  rw [getD_append_left (by rw [laid_len h]; omega)]
  unfold laid
  rw [getD_append_right (by simp [fr4, fr2]; omega)]
  have : ([241, f.k.toNat % 256] ++ fr4 f.e.toNat ++ fr2 f.p.toNat ++ fr2 f.b.length ++ f.b ++ List.replicate (238 - f.b.length) 0).length = 248 := by simp [fr4, fr2]; omega
  rw [this]
  rfl
theorem enc_two {f : Fr} (h : f.ok) : (enc f).take 2 = [241, f.k.toNat] := by
  have h2 : (enc f).take 2 = [241, f.k.toNat % 256] := by
    unfold enc mark laid
    simp only [List.append_assoc]
    rfl
  have := h.1
  have := h.2.1
  rw [h2, Nat.mod_eq_of_lt (by omega)]
theorem enc_parts {f : Fr} (h : f.ok) : enc f = [241, f.k.toNat] ++ (enc f).drop 2 := by rw [← enc_two h, List.take_append_drop]
/-- A page of which a beginning is a frame's, and the rest another one's of another epoch. -/
theorem torn {x y : Fr} (hx : x.ok) (hy : y.ok) (hxb : Bytes x.b) (hyb : Bytes y.b) (he : y.e = x.e + 2) (part : Nat) (hp : part ≤ 256) (h : decE ((enc y).take part ++ (enc x).drop part) = 0) :
    picked ((enc y).take part ++ (enc x).drop part) = x ∨ picked ((enc y).take part ++ (enc x).drop part) = y := by
  have lx := enc_len hx.2.2.2.2.2.2
  have ly := enc_len hy.2.2.2.2.2.2
  obtain ⟨hl, hh, hok, hld⟩ := decE_zero h
  have x2 := enc_parts hx
  have y2 := enc_parts hy
  have lt : ((enc y).take part).length = part := by rw [List.length_take]; omega
  by_cases h248 : 248 < part
  · right
    have e : ((enc y).take part ++ (enc x).drop part).take 248 = (enc y).take 248 := by
      rw [List.take_append_of_le_length (by omega), List.take_take, Nat.min_eq_left (by omega)]
    rw [picked_248 e, picked_enc hy]
  · by_cases h3 : 3 ≤ part
    · exfalso
      have hby : Bytes ((enc y).take part ++ (enc x).drop part) := ((enc_bytes hyb).take _).append ((enc_bytes hxb).drop _)
      have hf := (form_laid hl hby).1 hld
      have h4 := congrArg (fun l => l.getD 0 0) hf.2.2.2
      rw [frAt_get (by omega), frAt_get (by omega), getD_append_right (by omega), getD_append_left (by omega), getD_drop, getD_take (by omega), lt] at h4
      rw [show part + (248 + 0 - part) = 248 from by omega, enc_248 hx.2.2.2.2.2.2, show 2 + 0 = 2 from rfl, enc_2, he] at h4
      have := hx.2.2.1
      omega
    · left
      have h012 : part = 0 ∨ part = 1 ∨ part = 2 := by omega
      rcases h012 with rfl | rfl | rfl
      · rw [List.take_zero, List.nil_append, List.drop_zero, picked_enc hx]
      · have e : (enc y).take 1 ++ (enc x).drop 1 = enc x := by
          conv => lhs; rw [x2, y2]
          rw [x2]
          simp
        rw [e, picked_enc hx]
      · have e : (enc y).take 2 = [241, y.k.toNat] := enc_two hy
        rw [e] at h hh ⊢
        by_cases hk : y.k.toNat = x.k.toNat
        · rw [hk, ← x2, picked_enc hx]
        · exfalso
          have et : turned (enc x) (1 : Nat) (x.k.toNat ^^^ y.k.toNat) = [241, y.k.toNat] ++ (enc x).drop 2 := by
            rw [turned_in (by omega)]
            conv => lhs; rw [x2]
            simp [← Nat.xor_assoc]
          have hne : x.k.toNat ^^^ y.k.toNat ≠ 0 := by
            intro h0
            have h1 : x.k.toNat ^^^ (x.k.toNat ^^^ y.k.toNat) = x.k.toNat ^^^ 0 := by rw [h0]
            rw [← Nat.xor_assoc, Nat.xor_self, Nat.zero_xor, Nat.xor_zero] at h1
            exact hk h1
          have := decE_turned hx hxb (m := 1) (b := x.k.toNat ^^^ y.k.toNat) (by omega) (Nat.xor_lt_two_pow (n := 8) (by have := hx.2.1; omega) (by have := hy.2.1; omega)) hne
          rw [et] at this
          rw [this] at h
          cases h
end Go.Proofs.Ytmdimhijbmeioaa
