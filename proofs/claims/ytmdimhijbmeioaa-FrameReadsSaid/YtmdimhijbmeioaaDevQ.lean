/- CONTRACTS: the device's methods, what lies where left open. -/
import Derived.Test.YtmdimhijbmeioaaDevP
namespace Go.Proofs.Ytmdimhijbmeioaa
open Go.RowKit Go.Inc

/-- A device at g, of the blocks that C colours; of p pages; at most n waiting versions a page. -/
def Dv (C : Nat → Nat) (w : World) (g p n : Nat) (S : St) : Prop := ∃ L c M f I, DevAt C w g L c M f I p n S
/-- C' colours what C colours, and new blocks alone. -/
def Ext (w : World) (C C' : Nat → Nat) : Prop := ∀ b, b < w.heap.size → C' b = C b
section
variable {C : Nat → Nat} {w w' : World} {g p n : Nat} {S : St}
theorem Dv.keep (h : Dv C w g p n S) {F : Nat → Prop} (hm : Mv F w w') (hF : ∀ b, F b → C b = 0) : Dv C w' g p n S := let ⟨L, c, M, f, I, h⟩ := h; ⟨L, c, M, f, I, h.keep hm hF⟩
theorem Dv.below (h : Dv C w g p n S) (hb : Below w.heap.size w w') : Dv C w' g p n S := h.keep (Mv.of_below (F := fun _ => False) hb) fun _ h => h.elim
theorem Dv.lt (h : Dv C w g p n S) {b : Nat} (hb : C b ≠ 0) : b < w.heap.size := let ⟨_, _, _, _, _, h⟩ := h; h.lt b hb
theorem Dv.new (h : Dv C w g p n S) {b : Nat} (hb : w.heap.size ≤ b) : C b = 0 := by
  rcases Nat.eq_zero_or_pos (C b) with h0 | h0
  · exact h0
  · have := h.lt (b := b) (by omega); omega
theorem Dv.cg (h : Dv C w g p n S) : C g = 1 := let ⟨_, _, _, _, _, h⟩ := h; h.cg
theorem Dv.glt (h : Dv C w g p n S) : g < w.heap.size := h.lt (by rw [h.cg]; decide)
theorem Dv.pp (h : Dv C w g p n S) : 1 ≤ p ∧ p ≤ 2048 := let ⟨_, _, _, _, _, h⟩ := h; h.pp
theorem Dv.len (h : Dv C w g p n S) : S.B.length = 256 * p := let ⟨_, _, _, _, _, h⟩ := h; h.len
theorem Dv.few (h : Dv C w g p n S) (x : Int) : (S.W x).length ≤ n := by
  obtain ⟨_, _, _, _, _, h⟩ := h
  rw [h.wlen]; exact h.few x
theorem Dv.wl (h : Dv C w g p n S) {x : Int} {b : List Nat} (hb : b ∈ S.W x) : b.length = 256 := by
  obtain ⟨_, _, _, f, I, h⟩ := h
  rw [h.wait] at hb
  obtain ⟨q, hq, rfl⟩ := List.mem_map.1 hb
  have hI : I x ≠ [] := by intro e; rw [e] at hq; cases hq
  obtain ⟨v, hv, hV⟩ := look_some h hI
  exact (hV.all q hq).2.1
theorem Dv.mono (h : Dv C w g p n S) {n' : Nat} (hn : n ≤ n') : Dv C w g p n' S := by
  obtain ⟨L, c, M, f, I, h⟩ := h
  exact ⟨L, c, M, f, I, { h with map := h.map.mono hn, few := fun x => Nat.le_trans (h.few x) hn }⟩

theorem dv_read_range (h : Dv C w g p n S) (x : Int) (ho : S.on = true) (hx : ¬ (0 ≤ x ∧ x < p)) : Calls Try.prog 42 #[.pointer (some ⟨g, 0, none⟩), .int .i64 x] w fun e w' => e = .returned (.tuple #[.slice none 0 0, .int .i64 10]) ∧ w = w' := by
  obtain ⟨_, _, _, _, _, h⟩ := h
  exact read_range h x ho hx
theorem dv_read (h : Dv C w g p n S) (k : Nat) (hk : k < p) (ho : S.on = true) (hn : n ≤ 1000000) (hr : S.r ≤ 1000000) :
    Calls Try.prog 42 #[.pointer (some ⟨g, 0, none⟩), .int .i64 (k : Int)] w fun e w' => ∃ v, e = .returned (.tuple #[v, .int .i64 0]) ∧ Row 5 w.heap.size w' v (rd S k) ∧ Dv C w' g p n { S with r := S.r + 1 } ∧ Mv (fun b => C b ≠ 0) w w' := by
  obtain ⟨_, _, _, _, _, h⟩ := h
  refine (read_some h k hk ho hn hr).mono ?_
  rintro e w' ⟨v, rfl, hv, hd, hm⟩
  exact ⟨v, rfl, hv, ⟨_, _, _, _, _, hd⟩, hm.sub fun b _ e => by subst e; rw [h.cg]; decide⟩
theorem rd_len (h : Dv C w g p n S) {k : Nat} (hk : k < p) : (rd S k).length = 256 := by
  unfold rd
  split
  · exact pg_len h.len hk
  · rename_i hne
    have hpos := List.length_pos_iff.2 hne
    refine h.wl (x := k) ?_
    rw [List.getD_eq_getElem?_getD, List.getElem?_eq_getElem (by omega)]
    exact List.getElem_mem _
theorem dv_write_range (h : Dv C w g p n S) (x : Int) (a : Option Addr) (l cb : Nat) (ho : S.on = true) (hx : ¬ (0 ≤ x ∧ x < p)) : Calls Try.prog 41 #[.pointer (some ⟨g, 0, none⟩), .int .i64 x, .slice a l cb] w fun e w' => e = .returned (.int .i64 10) ∧ w = w' := by
  obtain ⟨_, _, _, _, _, h⟩ := h
  exact write_range h x a l cb ho hx
theorem dv_write (h : Dv C w g p n S) (k : Nat) (hk : k < p) (ok : Nat → Prop) (a : Option Addr) (cb : Nat) (bs : List Nat) (hsl : Sl ok w a bs) (hok : ∀ b, ok b → C b = 0) (hbl : bs.length = 256) (ho : S.on = true) (hs : spendOk S.armed S.left = true) (hn : n ≤ 1000000) (hsn : S.s ≤ 1000000) :
    Calls Try.prog 41 #[.pointer (some ⟨g, 0, none⟩), .int .i64 (k : Int), .slice a 256 cb] w fun e w' => e = .returned (.int .i64 0) ∧ (∃ C', Dv C' w' g p (n + 1) (wrote S k bs) ∧ Ext w C C') ∧ Mv (fun b => C b ≠ 0) w w' := by
  obtain ⟨_, _, _, _, _, h⟩ := h
  refine (write_some h k hk ok a cb bs hsl (fun b hb e => by subst e; have := hok _ hb; rw [h.cg] at this; omega) hbl ho hs hn hsn).mono ?_
  rintro e w' ⟨rfl, ⟨C', f', I', hd, hext⟩, hm⟩
  exact ⟨rfl, ⟨C', ⟨_, _, _, _, _, hd⟩, hext⟩, hm⟩
end
theorem dv_new (w : World) (p : Nat) (hp : 1 ≤ p ∧ p ≤ 2048) : Calls Try.prog 25 #[.int .i64 (p : Int)] w fun e w' => ∃ C g, e = .returned (.tuple #[.pointer (some ⟨g, 0, none⟩), .int .i64 0]) ∧
    Dv C w' g p 0 (fresh (List.replicate (256 * p) 0)) ∧ Below w.heap.size w w' ∧ ∀ b, C b ≠ 0 → w.heap.size ≤ b := by
  refine (new_good w p hp).mono ?_
  rintro e w' ⟨C, g, L, c, M, rfl, hd, hb, hc⟩
  exact ⟨C, g, rfl, ⟨_, _, _, _, _, hd⟩, hb, hc⟩
end Go.Proofs.Ytmdimhijbmeioaa

