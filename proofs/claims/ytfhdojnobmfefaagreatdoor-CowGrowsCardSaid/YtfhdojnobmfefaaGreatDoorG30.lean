/- MADE SMALL. -/
import Derived.Test.YtfhdojnobmfefaaGreatDoorRows
import Derived.Test.YtfhdojnobmfefaaGreatDoorG29
import Derived.Test.YtfhdojnobmfefaaGreatDoorG1
import Derived.Test.YtfhdojnobmfefaaGreatDoorG17
import Derived.Test.YtfhdojnobmfefaaGreatDoorG12
import Derived.Lib.MinMax
import Derived.Laws.Bits128
import Derived.Deep.QuietTactic
import Derived.BigQuiet
namespace Go.Proofs.YtfhdojnobmfefaaGreatDoor
open Go.RowKit Go.Inc
theorem Qb {x:Nat} (h:x < 18446744073709551616):IntKind.u64.wrap (x:Int)=(x:Int):=by rw [IntKind.wrap_u64];omega
theorem PZ (i:Nat) (w:World) (h:(i:Int) < 4096) :
  Calls Tryz.prog 117 #[.int .i64 (i:Int)] w fun e w'=>e=.returned (.int .u64 ((2 ^ (i % 64):Nat):Int))/\w=w':=by
 have hw:IntKind.u64.wrap (2 ^ (i % 64))=((2 ^ (i % 64):Nat):Int):=by
  have:=Qb (Ic i);rw [<- this];congr 1
 go_enter Tryz.func117,Tryz.ntmps117
 go_wp2_with fail
 go_ret
 exact ⟨by rw [<- hw];rfl,rfl⟩
theorem QA (n:Nat) (w:World) (h:(n:Int) < 4096) :
  Calls Tryz.prog 164 #[.int .i64 (n:Int),.int .i64 64] w fun e w'=>e=.returned (.int .i64 (((n+63) / 64:Nat):Int))/\w=w':=by
 go_enter Tryz.func164,Tryz.ntmps164
 go_wp2_with fail
 go_ret
 exact ⟨aO (by omega),rfl⟩
def D5 (W:List Nat):List Value:=W.map fun x:Nat=>Value.int .u64 (x:Int)
theorem Gh (W:List Nat):(D5 W).length=W.length:=by simp [D5]
theorem Vu (W:List Nat) (q x:Nat):(D5 W).set q (.int .u64 (x:Int))=D5 (W.set q x):=by simp [D5,List.map_set]
theorem JY {W:List Nat} {q:Nat} (h:q < W.length):(D5 W)[q]?=some (.int .u64 ((W.getD q 0:Nat):Int)):=by
 rw [List.getD_eq_getElem?_getD,List.getElem?_eq_getElem h];simp [D5,h]
theorem Vw (W:List Nat):∀ u∈D5 W,u.oneCell'=true:=by
 intro u hu;obtain ⟨_,_,rfl⟩:=List.mem_map.1 hu;rfl
structure BmAt (w:World) (b g c size:Nat) (W:List Nat):Prop where
 hsz:w.cell? ⟨b,0,none⟩=some (.int .i64 (size:Int))
 hw:w.cell? ⟨b,1,none⟩=some (.slice (some ⟨g,0,none⟩) W.length c)
 row:w.ownsRow g 24 1 (.slice (some ⟨g,0,none⟩) W.length c) W.length (D5 W)
 ne:b≠g
 s1:1<=size
 s2:size<=2048
 len:W.length=(size+63) / 64
 fits:∀ x∈W,x < 18446744073709551616
section
variable {w w':World} {b g c size:Nat} {W:List Nat}
theorem BmAt.blt (h:BmAt w b g c size W):b < w.heap.size:=AA h.hsz
theorem BmAt.wlen (h:BmAt w b g c size W):0 < W.length/\W.length<=32:=by have:=h.len;have:=h.s1;have:=h.s2;omega
theorem BmAt.cell (h:BmAt w b g c size W) {q:Nat} (hq:q < W.length):w.cell? ⟨g,q,none⟩=some (.int .u64 ((W.getD q 0:Nat):Int)):=by
 have hc:=h.row.cells (g:=g) rfl q _ (JY hq);rw [Addr.add_lit] at hc;simpa only [Nat.zero_add] using hc
theorem BmAt.glt (h:BmAt w b g c size W):g < w.heap.size:=AA (h.cell h.wlen.1)
theorem BmAt.mv {F:Nat->Prop} (h:BmAt w b g c size W) (hm:Mv F w w') (hb:¬ F b) (hg:¬ F g):BmAt w' b g c size W:=
 ⟨hm.cell h.hsz hb,hm.cell h.hw hb,Ag h.row hm (fun i hi hf=>by
  have:g=i:=by simpa [Value.ownBlock] using hi
  subst this;exact hg hf),h.ne,h.s1,h.s2,h.len,h.fits⟩
theorem BmAt.below (h:BmAt w b g c size W) (hb:Below w.heap.size w w'):BmAt w' b g c size W:=h.mv (F:=fun _=>False) (Mv.of_below hb) id id
theorem BmAt.put (h:BmAt w b g c size W) (q:Nat) {y:Nat} (hy:y < 18446744073709551616):BmAt (w.setCell ⟨g,q,none⟩ (.int .u64 (y:Int))) b g c size (W.set q y):=by
 have hst:=(h.row.stored q (.int .u64 (y:Int)))
 refine ⟨?_,?_,?_,h.ne,h.s1,h.s2,by rw [List.length_set];exact h.len,ZX h.fits hy⟩
 ·rw [<- h.hsz];exact World.cell?_of_block (Below.heap_setCell _ _ _ _ h.ne)
 ·rw [List.length_set,<- h.hw];exact World.cell?_of_block (Below.heap_setCell _ _ _ _ h.ne)
 ·rw [List.length_set,<- Vu];exact hst.1
end
def Bm (ok:Nat->Prop) (w:World) (v:Value) (m:List Bool):Prop:=
 (v=.pointer none/\m=[])\/∃ b g c W,v=.pointer (some ⟨b,0,none⟩)/\ok b/\ok g/\BmAt w b g c m.length W/\∀ i,BF W i=inB m i
section
variable {ok ok':Nat->Prop} {w w':World} {v:Value} {m:List Bool}
theorem Bm.mv {F:Nat->Prop} (h:Bm ok w v m) (hm:Mv F w w') (hk:∀ i,ok i->¬ F i):Bm ok w' v m:=by
 rcases h with h | ⟨b,g,c,W,h1,h2,h3,h4,h5⟩
 ·exact .inl h
 ·exact .inr ⟨b,g,c,W,h1,h2,h3,h4.mv hm (hk b h2) (hk g h3),h5⟩
theorem Bm.below (h:Bm ok w v m) (hb:Below w.heap.size w w'):Bm ok w' v m:=h.mv (F:=fun _=>False) (Mv.of_below hb) fun _ _=>id
theorem Bm.mono (h:Bm ok w v m) (hk:∀ b,ok b->b < w.heap.size->ok' b):Bm ok' w v m:=by
 rcases h with h | ⟨b,g,c,W,h1,h2,h3,h4,h5⟩
 ·exact .inl h
 ·exact .inr ⟨b,g,c,W,h1,hk b h2 h4.blt,hk g h3 h4.glt,h4,h5⟩
theorem Bm.len (h:Bm ok w v m):m.length<=2048:=by
 rcases h with ⟨_,rfl⟩ | ⟨b,g,c,W,_,_,_,h4,_⟩
 ·exact Nat.zero_le _
 ·exact h4.s2
end
theorem Hy (ok:Nat->Prop) (v:Value) (m:List Bool) (w:World) (h:Bm ok w v m) :
  Calls Tryz.prog 150 #[v] w fun e w'=>e=.returned (.int .i64 (m.length:Int))/\w=w':=by
 rcases h with ⟨rfl,rfl⟩ | ⟨b,g,c,W,rfl,_,_,h,_⟩
 ·go_enter Tryz.func150,Tryz.ntmps150
  go_wp2_with fail
  go_ret
  exact ⟨rfl,rfl⟩
 ·have hc:=h.hsz;clear h
  go_enter Tryz.func150,Tryz.ntmps150
  go_wp2_with fail
  go_ret
  exact ⟨rfl,rfl⟩
theorem Eh (ok:Nat->Prop) (v:Value) (m:List Bool) (no:Int) (w:World) (h:Bm ok w v m) :
  Calls Tryz.prog 118 #[v,.int .i64 no] w fun e w'=>e=.returned (.bool (decide (0<=no) && decide (no < m.length)))/\w=w':=by
 have H:=hid h;obtain ⟨n,hn⟩:∃ n,n=m.length:=⟨_,rfl⟩
 have HC:Hid (Calls Tryz.prog 150 #[v] w fun e w'=>e=.returned (.int .i64 (n:Int))/\w=w'):=hid (by rw [hn];exact Hy ok v m w h);rw [<- hn];clear hn h;by_cases h0:0<=no
 ·go_enter Tryz.func118,Tryz.ntmps118
  go_wp2_with fail
  refine HC.out.mono ?_;rintro e w1 ⟨rfl,rfl⟩
  go_wp2_with fail
  go_ret
  exact ⟨by simp [h0],rfl⟩
 ·have h0':(0<=no)=False:=eq_false h0
  go_enter Tryz.func118,Tryz.ntmps118
  go_wp2_with fail
  go_ret
  exact ⟨by simp,rfl⟩
end Go.Proofs.YtfhdojnobmfefaaGreatDoor
namespace Go.Proofs.YtfhdojnobmfefaaGreatDoor
open Go.RowKit Go.Inc
theorem Eb (w:World) (n:Nat):Below w.heap.size w (w.drewN n):=⟨rfl,rfl,rfl,Nat.le_refl _,fun _ _=>rfl⟩
def FV (m:List Bool) (no:Int):Bool:=decide (0<=no) && inB m no.toNat
theorem Ei (m:List Bool) (i:Nat):FV m (i:Int)=inB m i:=by simp [FV]
theorem QX {m:List Bool} {no:Int} (h:¬ (0<=no/\no < m.length)):FV m no=false:=by
 unfold FV;by_cases h0:0<=no
 ·rw [Lt (by omega)];simp
 ·simp [h0]
set_option maxRecDepth 20000 in
theorem Fq (ok:Nat->Prop) (v:Value) (m:List Bool) (no:Int) (w:World) (h:Bm ok w v m) :
  Calls Tryz.prog 74 #[v,.int .i64 no] w fun e w'=>e=.returned (.bool (FV m no))/\Below w.heap.size w w':=by
 have HB:=hid h;by_cases hin:0<=no/\no < m.length
 ·obtain ⟨i,rfl⟩:=Int.eq_ofNat_of_zero_le hin.1;have l1:∀ n,Calls Tryz.prog 118 #[v,.int .i64 (i:Int)] (w.drewN n) fun e w'=>e=.returned (.bool true)/\∃ m,w'=w.drewN m:=fun n=>Calls.quiet_of_same ((Eh ok v m i (w.drewN n) (h.below (Eb w n))).mono fun _ _ h=>⟨by rw [h.1];simp [hin.1,hin.2],h.2.symm⟩);rcases h with ⟨rfl,rfl⟩ | ⟨b,g,c,W,rfl,hb,hg,hat,hbits⟩
  ·simp at hin;omega
  have hlen:=hat.len;have hs2:=hat.s2;obtain ⟨q,hq⟩:∃ q,q=i / 64:=⟨_,rfl⟩
  have hqn:q < W.length:=by rw [hq,hlen];omega
  have hc1:=hat.hw;have hc2:=hat.cell hqn;have hx:=Ee hat.fits q;have l2:∀ n,Calls Tryz.prog 117 #[.int .i64 (i:Int)] (w.drewN n) fun e w'=>e=.returned (.int .u64 ((2 ^ (i % 64):Nat):Int))/\∃ m,w'=w.drewN m:=fun n=>Calls.quiet_of_same ((PZ i (w.drewN n) (by omega)).mono fun _ _ h=>⟨h.1,h.2.symm⟩);have hbit:inB m i=(W.getD q 0).testBit (i % 64):=by rw [<- hbits i,hq];rfl
  obtain ⟨x,hxe⟩:∃ x,x=W.getD q 0:=⟨_,rfl⟩
  rw [<- hxe] at hc2 hx hbit;obtain ⟨y,hy⟩:∃ y,y=x &&& 2 ^ (i % 64):=⟨_,rfl⟩
  have hand:bits .and .u64 (x:Int) ((2 ^ (i % 64):Nat):Int)=(y:Int):=by rw [hy];exact u64_and_nat x _ hx (Ic i)
  have hne:(!((y:Int) == 0))=(FV m i):=by
   rw [Ei,hbit];cases ht:x.testBit (i % 64)
   ·have:y=0:=by rw [hy,Vq,ht];rfl
    subst this;rfl
   ·have:y≠0:=by rw [hy];exact and_bit_ne.2 ht
    have h2:((y:Int) == 0)=false:=by rw [beq_eq_false_iff_ne];omega
    rw [h2];rfl
  have HN:=hid hne;have hqi:(i:Int) / 64=(q:Int):=by omega
  have hqn':(q:Int) < (W.length:Int):=by omega
  have hq32:(q:Int) < 32:=by omega
  generalize hp:(2 ^ (i % 64):Nat)=p at *
  obtain ⟨n,hn⟩:∃ n,n=W.length:=⟨_,rfl⟩
  rw [<- hn] at hc1 hqn hqn';clear hin hlen hbits hbit hxe hy hq hat hne hp hn hs2 hb hg
  go_enter Tryz.func74,Tryz.ntmps74
  go_wp2_with fail
  go_quiet (first | with_reducible exact l1 _ | with_reducible exact l2 _)
  go_wp2_with fail
  go_ret
  exact ⟨by rw [<- HN.out];rfl,Eb _ _⟩
 ·have l1:∀ n,Calls Tryz.prog 118 #[v,.int .i64 no] (w.drewN n) fun e w'=>e=.returned (.bool false)/\∃ m,w'=w.drewN m:=fun n=>Calls.quiet_of_same ((Eh ok v m no (w.drewN n) (h.below (Eb w n))).mono fun _ _ h=>⟨by rw [h.1];congr 2;rw [<- Bool.not_eq_true];simpa using hin,h.2.symm⟩);have HN:Hid (FV m no=false):=hid (QX hin);clear hin h
  go_enter Tryz.func74,Tryz.ntmps74
  go_wp2_with fail
  go_quiet (with_reducible exact l1 _)
  go_wp2_with fail
  go_ret
  exact ⟨by rw [HN.out];rfl,Eb _ _⟩
end Go.Proofs.YtfhdojnobmfefaaGreatDoor
