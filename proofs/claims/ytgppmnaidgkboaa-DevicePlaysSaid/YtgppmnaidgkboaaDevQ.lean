/- CONTRACTS: the device's methods, what lies where left open. -/
import Derived.Test.YtgppmnaidgkboaaDevP
namespace Go.Proofs.Ytgppmnaidgkboaa
open Go.RowKit Go.Inc

theorem crash_empty {C w g L c M f I p n S} (h : DevAt C w g L c M f I p n S) (a : Option Addr) (cap : Nat) :
    Calls Try.prog 18 #[.pointer (some ⟨g, 0, none⟩), .slice a 0 cap] w fun e w' => e = .returned (.int .i64 0) ∧
      DevAt C w' g L c M noKeys (fun _ => []) p 0 { S with on := false, W := fun _ => [] } ∧ Mv (fun b => C b ≠ 0) w w' := by
  have HD := hid h
  have c4 := h.row.c4
  clear h
  go_enter Try.func18, Try.ntmps18
  go_wp2_with fail
  go_loopw [5, 12] (fun s i wr => s = .int .i64 0 ∧ i = .int .i64 0 ∧ w = wr) (fun _ _ _ => 0)
  case atStart => exact ⟨rfl, rfl, rfl⟩
  case round =>
    obtain ⟨rfl, rfl, rfl⟩ := hrel
    go_wp2_with (refine wpList_clear _ rfl (.tmp 31) 72 rfl 3 46 Try.underlying72 M n f rfl HD.out.map ?_)
    intro w1 hm1 hg1
    have hd1 := HD.out.cleared hg1 hm1
    have HD1 := hid hd1
    have HG1 := hid hg1
    have H := hid (cut_any w1 g _ _ _ _ _ _ _ _ hd1.row)
    clear hd1 hm1 hg1 c4
    go_wp2_with fail
    refine H.out.mono ?_
    rintro e w2 ⟨rfl, h1, h2⟩
    have hm2 : Mv (fun b => b = g) w1 w2 := Mv.of_grown h2 fun g h _ => by cases h; rfl
    have HD2 := hid (HD1.out.turn hm2 (fun _ h => h) h1 HD1.out.lb HD1.out.cnt)
    have HM2 : Hid (Mv (fun b => C b ≠ 0) w w2) := hid (by
      have hg : C g ≠ 0 := by rw [HD.out.cg]; decide
      have hMM : C M ≠ 0 := by rw [HD.out.cM]; decide
      exact (Mv.of_grown HG1.out fun j h _ => by cases h; exact hMM).trans (hm2.sub fun b _ h => by subst h; exact hg))
    clear h1 h2 hm2 H
    go_wp2_with fail
    go_ret
    exact ⟨rfl, HD2.out, HM2.out⟩

/-- A device at g, of the blocks that C colours; of p pages; at most n waiting versions a page. -/
def Dv (C : Nat → Nat) (w : World) (g p n : Nat) (S : St) : Prop := ∃ L c M f I, DevAt C w g L c M f I p n S
/-- C' colours what C colours, and new blocks alone. -/
def Ext (w : World) (C C' : Nat → Nat) : Prop := ∀ b, b < w.heap.size → C' b = C b
section
variable {C : Nat → Nat} {w w' : World} {g p n : Nat} {S : St}
theorem Dv.keep (h : Dv C w g p n S) {F : Nat → Prop} (hm : Mv F w w') (hF : ∀ b, F b → C b = 0) : Dv C w' g p n S := let ⟨L, c, M, f, I, h⟩ := h; ⟨L, c, M, f, I, h.keep hm hF⟩
theorem Dv.below (h : Dv C w g p n S) (hb : Below w.heap.size w w') : Dv C w' g p n S := h.keep (Mv.of_below (F := fun _ => False) hb) fun _ h => h.elim
theorem Dv.lt (h : Dv C w g p n S) {b : Nat} (hb : C b ≠ 0) : b < w.heap.size := let ⟨_, _, _, _, _, h⟩ := h; h.lt b hb
theorem Dv.new (h : Dv C w g p n S) {b : Nat} (hb : w.heap.size ≤ b) : C b = 0 := by
  rcases Nat.eq_zero_or_pos (C b) with h0 | h0
  · exact h0
  · have := h.lt (b := b) (by omega); omega
theorem Dv.cg (h : Dv C w g p n S) : C g = 1 := let ⟨_, _, _, _, _, h⟩ := h; h.cg
theorem Dv.glt (h : Dv C w g p n S) : g < w.heap.size := h.lt (by rw [h.cg]; decide)
theorem Dv.pp (h : Dv C w g p n S) : 1 ≤ p ∧ p ≤ 2048 := let ⟨_, _, _, _, _, h⟩ := h; h.pp
theorem Dv.lb (h : Dv C w g p n S) : 0 ≤ S.left ∧ S.left ≤ 9223372036854775807 ∨ S.armed = false := let ⟨_, _, _, _, _, h⟩ := h; h.lb
theorem Dv.len (h : Dv C w g p n S) : S.B.length = 256 * p := let ⟨_, _, _, _, _, h⟩ := h; h.len
theorem Dv.few (h : Dv C w g p n S) (x : Int) : (S.W x).length ≤ n := by
  obtain ⟨_, _, _, _, _, h⟩ := h
  rw [h.wlen]; exact h.few x
theorem Dv.dom (h : Dv C w g p n S) {x : Int} (hx : S.W x ≠ []) : 0 ≤ x ∧ x < p := by
  obtain ⟨_, _, _, f, I, h⟩ := h
  have hI : I x ≠ [] := fun e => hx (h.wnil e)
  obtain ⟨v, hv, _⟩ := look_some h hI
  exact h.dom x v hv
theorem Dv.wl (h : Dv C w g p n S) {x : Int} {b : List Nat} (hb : b ∈ S.W x) : b.length = 256 := by
  obtain ⟨_, _, _, f, I, h⟩ := h
  rw [h.wait] at hb
  obtain ⟨q, hq, rfl⟩ := List.mem_map.1 hb
  have hI : I x ≠ [] := by intro e; rw [e] at hq; cases hq
  obtain ⟨v, hv, hV⟩ := look_some h hI
  exact (hV.all q hq).2.1
theorem Dv.mono (h : Dv C w g p n S) {n' : Nat} (hn : n ≤ n') : Dv C w g p n' S := by
  obtain ⟨L, c, M, f, I, h⟩ := h
  exact ⟨L, c, M, f, I, { h with map := h.map.mono hn, few := fun x => Nat.le_trans (h.few x) hn }⟩

theorem dv_on (h : Dv C w g p n S) : Calls Try.prog 10 #[.pointer (some ⟨g, 0, none⟩)] w fun e w' => e = .returned (.bool S.on) ∧ w = w' := by
  obtain ⟨_, _, _, _, _, h⟩ := h
  exact on_some w g _ _ _ _ _ _ _ _ h.row
theorem dv_pages (h : Dv C w g p n S) : Calls Try.prog 9 #[.pointer (some ⟨g, 0, none⟩)] w fun e w' => e = .returned (.int .i64 (p : Int)) ∧ w = w' := by
  obtain ⟨_, _, _, _, _, h⟩ := h
  exact pages_some w g _ _ _ _ _ _ _ _ _ _ h.row h.pp.2
theorem dv_waiting (h : Dv C w g p n S) (hn : n ≤ 1000000) : Calls Try.prog 27 #[.pointer (some ⟨g, 0, none⟩)] w fun e w' => e = .returned (.int .i64 (tot (fun i => (S.W i).length) p : Nat)) ∧ Below w.heap.size w w' := by
  obtain ⟨_, _, _, _, _, h⟩ := h
  exact waiting_some h hn
theorem dv_counts (h : Dv C w g p n S) : Calls Try.prog 26 #[.pointer (some ⟨g, 0, none⟩)] w fun e w' => e = .returned (.tuple #[.int .i64 S.r, .int .i64 S.s, .int .i64 S.t]) ∧ Below w.heap.size w w' := by
  obtain ⟨_, _, _, _, _, h⟩ := h
  exact dcounts_some h
theorem dv_image (h : Dv C w g p n S) : Calls Try.prog 28 #[.pointer (some ⟨g, 0, none⟩)] w fun e w' => ∃ v, e = .returned v ∧ Row 5 w.heap.size w' v S.B ∧ Below w.heap.size w w' := by
  obtain ⟨_, _, _, _, _, h⟩ := h
  exact image_some h
theorem dv_arm (h : Dv C w g p n S) (k : Int) (hk : -9223372036854775808 ≤ k ∧ k ≤ 9223372036854775807) :
    Calls Try.prog 22 #[.pointer (some ⟨g, 0, none⟩), .int .i64 k] w fun e w' => e = .returned (.tuple #[]) ∧ Dv C w' g p n { S with armed := decide (0 ≤ k), left := k } ∧ Mv (fun b => C b ≠ 0) w w' := by
  obtain ⟨_, _, _, _, _, h⟩ := h
  refine (arm_some h k hk).mono ?_
  rintro e w' ⟨rfl, hd, hm⟩
  exact ⟨rfl, ⟨_, _, _, _, _, hd⟩, hm.sub fun b _ e => by subst e; rw [h.cg]; decide⟩
theorem dv_power (h : Dv C w g p n S) :
    Calls Try.prog 20 #[.pointer (some ⟨g, 0, none⟩)] w fun e w' => e = .returned (.tuple #[]) ∧ Dv C w' g p 0 { S with on := true, armed := false, left := 0, W := fun _ => [] } ∧ Mv (fun b => C b ≠ 0) w w' := by
  obtain ⟨_, _, _, _, _, h⟩ := h
  refine (power_some h).mono ?_
  rintro e w' ⟨rfl, hd, hm⟩
  exact ⟨rfl, ⟨_, _, _, _, _, hd⟩, hm⟩
theorem dv_read_down (h : Dv C w g p n S) (x : Int) (ho : S.on = false) : Calls Try.prog 23 #[.pointer (some ⟨g, 0, none⟩), .int .i64 x] w fun e w' => e = .returned (.tuple #[.slice none 0 0, .int .i64 9]) ∧ w = w' := by
  obtain ⟨_, _, _, _, _, h⟩ := h
  exact read_down h x ho
theorem dv_read_range (h : Dv C w g p n S) (x : Int) (ho : S.on = true) (hx : ¬ (0 ≤ x ∧ x < p)) : Calls Try.prog 23 #[.pointer (some ⟨g, 0, none⟩), .int .i64 x] w fun e w' => e = .returned (.tuple #[.slice none 0 0, .int .i64 10]) ∧ w = w' := by
  obtain ⟨_, _, _, _, _, h⟩ := h
  exact read_range h x ho hx
theorem dv_read (h : Dv C w g p n S) (k : Nat) (hk : k < p) (ho : S.on = true) (hn : n ≤ 1000000) (hr : S.r ≤ 1000000) :
    Calls Try.prog 23 #[.pointer (some ⟨g, 0, none⟩), .int .i64 (k : Int)] w fun e w' => ∃ v, e = .returned (.tuple #[v, .int .i64 0]) ∧ Row 5 w.heap.size w' v (rd S k) ∧ Dv C w' g p n { S with r := S.r + 1 } ∧ Mv (fun b => C b ≠ 0) w w' := by
  obtain ⟨_, _, _, _, _, h⟩ := h
  refine (read_some h k hk ho hn hr).mono ?_
  rintro e w' ⟨v, rfl, hv, hd, hm⟩
  exact ⟨v, rfl, hv, ⟨_, _, _, _, _, hd⟩, hm.sub fun b _ e => by subst e; rw [h.cg]; decide⟩
theorem rd_len (h : Dv C w g p n S) {k : Nat} (hk : k < p) : (rd S k).length = 256 := by
  unfold rd
  split
  · exact pg_len h.len hk
  · rename_i hne
    have hpos := List.length_pos_iff.2 hne
    refine h.wl (x := k) ?_
    rw [List.getD_eq_getElem?_getD, List.getElem?_eq_getElem (by omega)]
    exact List.getElem_mem _
theorem dv_write_down (h : Dv C w g p n S) (x : Int) (a : Option Addr) (l cb : Nat) (ho : S.on = false) : Calls Try.prog 14 #[.pointer (some ⟨g, 0, none⟩), .int .i64 x, .slice a l cb] w fun e w' => e = .returned (.int .i64 9) ∧ w = w' := by
  obtain ⟨_, _, _, _, _, h⟩ := h
  exact write_down h x a l cb ho
theorem dv_write_range (h : Dv C w g p n S) (x : Int) (a : Option Addr) (l cb : Nat) (ho : S.on = true) (hx : ¬ (0 ≤ x ∧ x < p)) : Calls Try.prog 14 #[.pointer (some ⟨g, 0, none⟩), .int .i64 x, .slice a l cb] w fun e w' => e = .returned (.int .i64 10) ∧ w = w' := by
  obtain ⟨_, _, _, _, _, h⟩ := h
  exact write_range h x a l cb ho hx
theorem dv_write_long (h : Dv C w g p n S) (x : Int) (a : Option Addr) (l cb : Nat) (ho : S.on = true) (hx : 0 ≤ x ∧ x < p) (hl : l ≠ 256) : Calls Try.prog 14 #[.pointer (some ⟨g, 0, none⟩), .int .i64 x, .slice a l cb] w fun e w' => e = .returned (.int .i64 2) ∧ w = w' := by
  obtain ⟨_, _, _, _, _, h⟩ := h
  exact write_long h x a l cb ho hx hl
theorem dv_write_spent (h : Dv C w g p n S) (x : Int) (a : Option Addr) (cb : Nat) (ho : S.on = true) (hx : 0 ≤ x ∧ x < p) (hs : spendOk S.armed S.left = false) :
    Calls Try.prog 14 #[.pointer (some ⟨g, 0, none⟩), .int .i64 x, .slice a 256 cb] w fun e w' => e = .returned (.int .i64 9) ∧ Dv C w' g p n { S with on := false, left := spendLeft S.armed S.left } ∧ Mv (fun b => C b ≠ 0) w w' := by
  obtain ⟨_, _, _, _, _, h⟩ := h
  refine (write_spent h x a cb ho hx hs).mono ?_
  rintro e w' ⟨rfl, hd, hm⟩
  exact ⟨rfl, ⟨_, _, _, _, _, hd⟩, hm.sub fun b _ e => by subst e; rw [h.cg]; decide⟩
theorem dv_write (h : Dv C w g p n S) (k : Nat) (hk : k < p) (ok : Nat → Prop) (a : Option Addr) (cb : Nat) (bs : List Nat) (hsl : Sl ok w a bs) (hok : ∀ b, ok b → C b = 0) (hbl : bs.length = 256) (ho : S.on = true) (hs : spendOk S.armed S.left = true) (hn : n ≤ 1000000) (hsn : S.s ≤ 1000000) :
    Calls Try.prog 14 #[.pointer (some ⟨g, 0, none⟩), .int .i64 (k : Int), .slice a 256 cb] w fun e w' => e = .returned (.int .i64 0) ∧ (∃ C', Dv C' w' g p (n + 1) (wrote S k bs) ∧ Ext w C C') ∧ Mv (fun b => C b ≠ 0) w w' := by
  obtain ⟨_, _, _, _, _, h⟩ := h
  refine (write_some h k hk ok a cb bs hsl (fun b hb e => by subst e; have := hok _ hb; rw [h.cg] at this; omega) hbl ho hs hn hsn).mono ?_
  rintro e w' ⟨rfl, ⟨C', f', I', hd, hext⟩, hm⟩
  exact ⟨rfl, ⟨C', ⟨_, _, _, _, _, hd⟩, hext⟩, hm⟩
theorem dv_sync_down (h : Dv C w g p n S) (ho : S.on = false) : Calls Try.prog 15 #[.pointer (some ⟨g, 0, none⟩)] w fun e w' => e = .returned (.int .i64 9) ∧ w = w' := by
  obtain ⟨_, _, _, _, _, h⟩ := h
  exact sync_down h ho
theorem dv_sync_spent (h : Dv C w g p n S) (ho : S.on = true) (hs : spendOk S.armed S.left = false) :
    Calls Try.prog 15 #[.pointer (some ⟨g, 0, none⟩)] w fun e w' => e = .returned (.int .i64 9) ∧ Dv C w' g p n { S with on := false, left := spendLeft S.armed S.left } ∧ Mv (fun b => C b ≠ 0) w w' := by
  obtain ⟨_, _, _, _, _, h⟩ := h
  refine (sync_spent h ho hs).mono ?_
  rintro e w' ⟨rfl, hd, hm⟩
  exact ⟨rfl, ⟨_, _, _, _, _, hd⟩, hm.sub fun b _ e => by subst e; rw [h.cg]; decide⟩
theorem dv_sync (h : Dv C w g p n S) (ho : S.on = true) (hs : spendOk S.armed S.left = true) (hn : n ≤ 1000000) (ht : S.t ≤ 1000000) :
    Calls Try.prog 15 #[.pointer (some ⟨g, 0, none⟩)] w fun e w' => e = .returned (.int .i64 0) ∧ (∃ B, Dv C w' g p 0 (synced S B) ∧ ∀ k, k < p → pg B k = rd S k) ∧ Mv (fun b => C b ≠ 0) w w' := by
  obtain ⟨_, _, _, _, _, h⟩ := h
  refine (sync_some h ho hs hn ht).mono ?_
  rintro e w' ⟨rfl, ⟨B, hd, hB⟩, hm⟩
  exact ⟨rfl, ⟨B, ⟨_, _, _, _, _, hd⟩, hB⟩, hm⟩
theorem dv_crash (h : Dv C w g p n S) (ok : Nat → Prop) (a : Option Addr) (cap : Nat) (ks : List Kp) (hk : KpS ok w a ks) (hok : ∀ b, ok b → C b = 0) (hn : n ≤ 1000000) (hl : ks.length ≤ 1000) :
    Calls Try.prog 18 #[.pointer (some ⟨g, 0, none⟩), .slice a ks.length cap] w fun e w' => e = .returned (.int .i64 ((crashAll S ks).2.2 : Nat)) ∧ Dv C w' g p 0 { S with on := false, B := (crashAll S ks).2.1, W := fun _ => [] } ∧ Mv (fun b => C b ≠ 0) w w' := by
  obtain ⟨_, _, _, _, _, h⟩ := h
  obtain ⟨hwf, hks⟩ := hk
  rcases hks with rfl | ⟨b, o, rfl, hb, hks⟩
  · refine (crash_empty h a cap).mono ?_
    rintro e w' ⟨rfl, hd, hm⟩
    exact ⟨rfl, ⟨_, _, _, _, _, hd⟩, hm⟩
  · refine (crash_some h b o cap ks hks hwf (hok b hb) hn hl).mono ?_
    rintro e w' ⟨rfl, hd, hm⟩
    exact ⟨rfl, ⟨_, _, _, _, _, hd⟩, hm⟩
end
theorem dv_new (w : World) (p : Nat) (hp : 1 ≤ p ∧ p ≤ 2048) : Calls Try.prog 7 #[.int .i64 (p : Int)] w fun e w' => ∃ C g, e = .returned (.tuple #[.pointer (some ⟨g, 0, none⟩), .int .i64 0]) ∧
    Dv C w' g p 0 (fresh (List.replicate (256 * p) 0)) ∧ Below w.heap.size w w' ∧ ∀ b, C b ≠ 0 → w.heap.size ≤ b := by
  refine (new_good w p hp).mono ?_
  rintro e w' ⟨C, g, L, c, M, rfl, hd, hb, hc⟩
  exact ⟨C, g, rfl, ⟨_, _, _, _, _, hd⟩, hb, hc⟩
theorem dv_load (w : World) (ok : Nat → Prop) (a : Option Addr) (c p : Nat) (bs : List Nat) (hs : Sl ok w a bs) (hl : bs.length = 256 * p) (hp : 1 ≤ p ∧ p ≤ 2048) : Calls Try.prog 30 #[.slice a bs.length c] w fun e w' => ∃ C g, e = .returned (.tuple #[.pointer (some ⟨g, 0, none⟩), .int .i64 0]) ∧
    Dv C w' g p 0 (fresh bs) ∧ Below w.heap.size w w' ∧ ∀ b, C b ≠ 0 → w.heap.size ≤ b := by
  refine (load_good w ok a c p bs hs hl hp).mono ?_
  rintro e w' ⟨C, g, L, c, M, rfl, hd, hb, hc⟩
  exact ⟨C, g, rfl, ⟨_, _, _, _, _, hd⟩, hb, hc⟩
end Go.Proofs.Ytgppmnaidgkboaa
