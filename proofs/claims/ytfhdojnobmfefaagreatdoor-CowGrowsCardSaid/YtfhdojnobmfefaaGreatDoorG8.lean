/- MADE SMALL. -/
import Derived.Test.YtfhdojnobmfefaaGreatDoorG7
import Derived.Test.YtfhdojnobmfefaaGreatDoorRows
import Derived.Test.YtfhdojnobmfefaaGreatDoorG0
import Derived.Lib.BitFns
import Derived.Lib.Strings
import Derived.Lib.Slices
import Derived.Lib.Small
import Derived.Lib.Walk
import Derived.Lib.MinMax
namespace Go.Proofs.YtfhdojnobmfefaaGreatDoor
open Go.RowKit Go.Inc
def CV (zs:List Int):Bool:=zs.any fun z=>decide (z < 0)
def Idx (zs:List Int) (w:World) (e:Ending) (w':World):Prop:=∃ r:Int,e=.returned (.int .i64 r)/\decide (0<=r)=CV zs/\w=w'
theorem TE (a:Option Addr) (c:Nat) (w:World) (F:Value):Calls Tryz.prog 192 #[.slice a 0 c,F] w (Idx [] w):=by
 go_enter Tryz.func192,Tryz.ntmps192
 go_wp2_with fail
 go_loop [8] (fun i=>i=.int .i64 0) (fun _=>0)
 case atStart=>rfl
 case round=>
  subst hrel
  go_wp2_with fail
  go_ret
  exact ⟨-1,rfl,by decide,rfl⟩
theorem RF {zs:List Int} {k:Nat} (h:k < zs.length):CV (zs.take (k+1))=(CV (zs.take k)||decide (zs.getD k 0 < 0)):=by
 unfold CV;rw [List.take_succ_eq_append_getElem h,List.getD_eq_getElem?_getD,List.getElem?_eq_getElem h];simp only [List.any_append,List.any_cons,List.any_nil,Bool.or_false,Option.getD_some]
theorem RG {zs:List Int} {k:Nat} (h:CV (zs.take k)=true):CV zs=true:=by
 unfold CV at *
 rw [List.any_eq_true] at *
 obtain ⟨x,hx,h2⟩:=h;exact ⟨x,List.mem_of_mem_take hx,h2⟩
set_option maxHeartbeats 1000000 in
theorem TD (b off c:Nat) (zs:List Int) (w:World) (hc:∀ i,i < zs.length->w.cell? ⟨b,off+i,none⟩=some (.int .i64 (zs.getD i 0))) (hl:zs.length<=9223372036854775807) :
  Calls Tryz.prog 192 #[.slice (some ⟨b,off,none⟩) zs.length c,.func (Fn.func 177) #[] #[]] w (Idx zs w):=by
 have HC:=hid hc;have hl':(zs.length:Int)<=9223372036854775807:=by omega
 clear hc hl
 go_enter Tryz.func192,Tryz.ntmps192
 go_wp2_with fail
 go_loop [8] (fun i=>∃ k:Nat,k<=zs.length/\i=.int .i64 (k:Int)/\CV (zs.take k)=false) (fun i=>zs.length - (intOf i).toNat)
 case atStart=>exact ⟨0,Nat.zero_le _,rfl,rfl⟩
 case round=>
  obtain ⟨k,hk,rfl,hn⟩:=hrel;have HN:=hid hn;clear hn;by_cases hlt:(k:Int) < zs.length
  ·have hcell:=HC.out k (by omega);have hs:=hid (RF (zs:=zs) (k:=k) (by omega));have hm:=hid (RG (zs:=zs) (k:=k+1));generalize zs.getD k 0=z at *
   by_cases hz:z < 0
   ·go_wp2_with fail
    refine (O3 _ _).mono ?_;rintro e w' ⟨rfl,rfl⟩
    go_wp2_with fail
    go_ret
    refine ⟨_,rfl,?_,rfl⟩;rw [hm.out (by rw [hs.out];simp [hz])];simp
   ·go_wp2_with fail
    refine (O3 _ _).mono ?_;rintro e w' ⟨rfl,rfl⟩
    go_wp2_with fail
    go_round
    case rel=>exact ⟨k+1,by omega,by go_num,by rw [hs.out,HN.out];simp [hz]⟩
    case measure=>simp [intOf];omega
  ·have hlt':(zs.length:Int)<=k:=by omega
   clear hlt
   go_wp2_with fail
   go_ret
   refine ⟨-1,rfl,?_,rfl⟩;have:=HN.out;rw [List.take_of_length_le (by omega)] at this;rw [this];decide
theorem N8 (ok:Nat->Prop) (a:Option Addr) (c:Nat) (zs:List Int) (w:World) (hs:Si ok w a zs) (hl:zs.length<=9223372036854775807) :
  Calls Tryz.prog 192 #[.slice a zs.length c,.func (Fn.func 177) #[] #[]] w (Idx zs w):=by
 rcases hs with rfl | ⟨b,off,rfl,_,hc⟩
 ·exact TE a c w _
 ·exact TD b off c zs w hc hl
theorem ED (ok:Nat->Prop) (a:Option Addr) (c:Nat) (zs:List Int) (w:World) (hs:Si ok w a zs) (hl:zs.length<=9223372036854775807) :
  Calls Tryz.prog 176 #[.slice a zs.length c,.func (Fn.func 177) #[] #[]] w fun e w'=>e=.returned (.bool (CV zs))/\w=w':=by
 have H:=hid (N8 ok a c zs w hs hl);clear hs hl
 go_enter Tryz.func176,Tryz.ntmps176
 go_wp2_with fail
 refine H.out.mono ?_;rintro e w' ⟨r,rfl,hr,rfl⟩;have HR:=hid hr;clear hr
 go_wp2_with fail
 go_ret
 exact ⟨Eg HR.out,rfl⟩
def puts (zs:List Int):List Nat:=(zs.map fun z=>Var.put z.toNat).flatten
theorem VS {zs:List Int} {k:Nat} (h:k < zs.length):puts (zs.take (k+1))=puts (zs.take k)++Var.put (zs.getD k 0).toNat:=by
 unfold puts;rw [List.take_succ_eq_append_getElem h,List.getD_eq_getElem?_getD,List.getElem?_eq_getElem h];simp only [List.map_append,List.map_cons,List.map_nil,List.flatten_append,List.flatten_cons,List.flatten_nil,List.append_nil,Option.getD_some]
theorem Yi (zs:List Int) (h:∀ z∈zs,z<=9223372036854775807):(puts zs).length<=10 * zs.length:=by
 induction zs with
 | nil=>simp [puts]
 | cons z zs ih=>
  have h1:=ih (fun x hx=>h x (List.mem_cons_of_mem _ hx));have h2:=Var.put_ten (n:=z.toNat) (by have:=h z (by simp);omega);simp only [puts,List.map_cons,List.flatten_cons,List.length_append,List.length_cons] at *
  omega
theorem Uo {zs:List Int} (h:CV zs=false) {k:Nat} (hk:k < zs.length):0<=zs.getD k 0:=by
 unfold CV at h;rw [List.any_eq_false] at h;rw [List.getD_eq_getElem?_getD,List.getElem?_eq_getElem hk];have:=h _ (List.getElem_mem hk);simpa using this
theorem aV (ok:Nat->Prop) (a:Option Addr) (c:Nat) (zs:List Int) (w:World) (hs:Si ok w a zs) (hl:zs.length<=9223372036854775807) (hn:CV zs=true) :
  Calls Tryz.prog 165 #[.slice a zs.length c] w fun e w'=>e=.returned (.slice none 0 0)/\w=w':=by
 have H:=hid (ED ok a c zs w hs hl);have HN:=hid hn;clear hs hl hn
 go_enter Tryz.func165,Tryz.ntmps165
 go_wp2_with fail
 refine H.out.mono ?_;rintro e w' ⟨rfl,rfl⟩;rw [HN.out]
 go_wp2_with fail
 go_ret
 exact ⟨rfl,rfl⟩
theorem aU (a:Option Addr) (c:Nat) (w:World) :
  Calls Tryz.prog 165 #[.slice a 0 c] w fun e w'=>e=.returned (.slice none 0 0)/\w=w':=by
 have H:Hid (Calls Tryz.prog 176 #[.slice a 0 c,.func (Fn.func 177) #[] #[]] w fun e w'=>e=.returned (.bool (CV []))/\w=w'):=hid (ED (fun _=>True) a c [] w (Si.nil _ _ _) (by decide))
 go_enter Tryz.func165,Tryz.ntmps165
 go_wp2_with fail
 refine H.out.mono ?_;rintro e w' ⟨rfl,rfl⟩;rw [show CV []=false from rfl]
 go_wp2_with fail
 go_loop [3,10] (fun v i=>v=.slice none 0 0/\i=.int .i64 0) (fun _ _=>0)
 case atStart=>exact ⟨rfl,rfl⟩
 case round=>
  obtain ⟨rfl,rfl⟩:=hrel
  go_wp2_with fail
  go_ret
  exact ⟨rfl,rfl⟩
set_option maxHeartbeats 1000000 in
theorem Yj (b off c:Nat) (zs:List Int) (w:World) (hc:∀ i,i < zs.length->w.cell? ⟨b,off+i,none⟩=some (.int .i64 (zs.getD i 0))) (hl:zs.length<=1099511627776) (hn:CV zs=false) (hz:∀ z∈zs,z<=9223372036854775807) :
  Calls Tryz.prog 165 #[.slice (some ⟨b,off,none⟩) zs.length c] w fun e w'=>∃ v,e=.returned v/\Row 5 w.heap.size w' v (puts zs)/\Below w.heap.size w w':=by
 have H:=hid (ED (fun _=>True) (some ⟨b,off,none⟩) c zs w (.inr ⟨b,off,rfl,trivial,hc⟩) (by omega));have HN:=hid hn;have HC:=hid hc;have HZ:=hid hz;have hl':(zs.length:Int)<=1099511627776:=by omega
 clear hl hn hc hz
 go_enter Tryz.func165,Tryz.ntmps165
 go_wp2_with fail
 refine H.out.mono ?_;rintro e w' ⟨rfl,rfl⟩;rw [HN.out];clear H
 go_wp2_with fail
 go_loopw [3,10] (fun v i wr=>∃ k:Nat,k<=zs.length/\i=.int .i64 (k:Int)/\Row 5 w.heap.size wr v (puts (zs.take k))/\Below w.heap.size w wr) (fun _ i _=>zs.length - (intOf i).toNat)
 case atStart=>exact ⟨0,Nat.zero_le _,rfl,Row.nil _ _ _,Below.refl _ _⟩
 case round=>
  obtain ⟨k,hk,rfl,hr,hb⟩:=hrel;have HR:=hid hr;clear hr;by_cases hlt:(k:Int) < zs.length
  ·have hcell:=HC.out k (by omega);rw [<- hb.cell (AA hcell)] at hcell;have hz0:=Uo HN.out (k:=k) (by omega);have hz1:zs.getD k 0<=9223372036854775807:=by
    rw [List.getD_eq_getElem?_getD,List.getElem?_eq_getElem (by omega)];exact HZ.out _ (List.getElem_mem _)
   have hs:=hid (VS (zs:=zs) (k:=k) (by omega));have hpl:=hid (Yi (zs.take k) (fun z hz=>HZ.out z (List.mem_of_mem_take hz)));have hlen:Hid ((puts (zs.take k)).length<=70368744177664):=hid (by
    have:=hpl.out;rw [List.length_take] at this;omega)
   generalize zs.getD k 0=z at *
   have HL:Hid (Calls Tryz.prog 178 #[u3,.int .u64 z] wr fun e w'=>∃ v',e=.returned v'/\Row 5 w.heap.size w' v' (puts (zs.take k)++Var.put z.toNat)/\Below w.heap.size wr w'):=hid (by
    have h:=QM w.heap.size u3 (puts (zs.take k)) z.toNat wr HR.out hb.size (by omega) hlen.out;rw [Int.toNat_of_nonneg hz0] at h;exact h)
   go_wp2_with fail
   refine HL.out.mono ?_;rintro e w2 ⟨v2,rfl,hr2,hb2⟩;have HR2:=hid hr2;have HB2:=hid (hb.trans hb2);clear hr2 hb2
   go_wp2_with fail
   go_roundw
   case rel=>exact ⟨k+1,by omega,by go_num,by rw [hs.out];exact HR2.out,HB2.out⟩
   case measure=>simp [intOf];omega
  ·have hlt':(zs.length:Int)<=k:=by omega
   clear hlt;have hR2:=HR.out;rw [List.take_of_length_le (by omega)] at hR2;have HR2:=hid hR2;clear hR2
   go_wp2_with fail
   go_ret
   exact ⟨_,rfl,HR2.out,hb⟩
def UR (zs:List Int):List Nat:=if CV zs then [] else puts zs
theorem UN (ok:Nat->Prop) (a:Option Addr) (c:Nat) (zs:List Int) (w:World) (hs:Si ok w a zs) (hl:zs.length<=1099511627776) (hz:∀ z∈zs,z<=9223372036854775807) :
  Calls Tryz.prog 165 #[.slice a zs.length c] w fun e w'=>∃ v,e=.returned v/\Row 5 w.heap.size w' v (UR zs)/\Below w.heap.size w w':=by
 unfold UR;by_cases hn:CV zs=true
 ·rw [if_pos hn];refine (aV ok a c zs w hs (by omega) hn).mono ?_;rintro e w' ⟨rfl,rfl⟩;exact ⟨_,rfl,Row.nil _ _ _,Below.refl _ _⟩
 ·rw [if_neg hn];rcases hs with rfl | ⟨b,off,rfl,_,hc⟩
  ·refine (aU a c w).mono ?_;rintro e w' ⟨rfl,rfl⟩;exact ⟨_,rfl,Row.nil _ _ _,Below.refl _ _⟩
  ·exact Yj b off c zs w hc hl (by simpa using hn) hz
end Go.Proofs.YtfhdojnobmfefaaGreatDoor
