/- MADE SMALL. -/
import Derived.Test.YtfhdojnobmfefaaGreatDoorG4
import Derived.Test.YtfhdojnobmfefaaGreatDoorG10
import Derived.Lib.Bytes
namespace Go.Proofs.YtfhdojnobmfefaaGreatDoor
open Go.RowKit Go.Inc
def E5 (xs:List Nat):List Int:=xs.map fun x:Nat=>(x:Int)
theorem TM (xs:List Nat) (i:Nat):(E5 xs).getD i 0=((xs.getD i 0:Nat):Int):=by
 unfold E5;simp only [List.getD_eq_getElem?_getD,List.getElem?_map];cases xs[i]?<;>rfl
theorem QZ {xs ys:List Nat} (hx:Bytes xs) (hy:Bytes ys):(Lib.bytesOf (E5 xs) == Lib.bytesOf (E5 ys))=decide (xs=ys):=by
 have key:∀ {xs:List Nat},Bytes xs->(Lib.bytesOf (E5 xs)).map UInt8.toNat=xs:=by
  intro xs
  induction xs with
  | nil=>intro _;rfl
  | cons x xs ih=>
   intro h;have hx:=h x (by simp);have:=ih fun y hy=>h y (by simp [hy]);unfold Lib.bytesOf E5 at this ⊢;simp only [List.map_cons,this]
   congr 1
   simp;omega
 rw [Bool.eq_iff_iff,beq_iff_eq,decide_eq_true_iff];constructor
 ·intro h;have:=congrArg (fun l=>l.map UInt8.toNat) h;rwa [key hx,key hy] at this
 ·rintro rfl;rfl
theorem YY (ok:Nat->Prop) (a:Option Addr) (c:Nat) (xs:List Nat) (w:World) (h:Sl ok w a xs):(convert 74 9 (.slice a xs.length c)).run Tryz.prog w=.ok (.string (strOfNums (E5 xs))) w:=by
 have hn:(E5 xs).length=xs.length:=by unfold E5;simp
 cases a with
 | none=>
  have h0:=h.some_len rfl;have:=List.eq_nil_of_length_eq_zero h0;subst this;exact run_convert_bytes_nil w 74 5 Tryz.underlying74 Tryz.underlying5 _ _ 9 Tryz.underlying9
 | some ad=>
  rcases h with rfl | ⟨b,off,h,_,hc⟩
  ·have hl:(loadCells ad 0).run Tryz.prog w=.ok (([]:List Int).map (Value.int .u8)).toArray w:=run_loadCells_list w ad [] (fun j v hj=>by simp at hj);rw [show (List.length ([]:List Nat))=0 from rfl,run_convert_bytes_string w 74 9 5 _ 0 c Tryz.underlying74 Tryz.underlying5 Tryz.underlying9,run_bytesToString w _ 0 c [] hl,foldl_push_bytes];rfl
  ·cases h;exact run_convert_bytes_arg w 74 5 Tryz.underlying74 Tryz.underlying5 b off _ c (E5 xs) hn (fun i hi=>by rw [hc i hi,TM]) 9 Tryz.underlying9
theorem WM (ok ok':Nat->Prop) (a b:Option Addr) (c d:Nat) (xs ys:List Nat) (w:World) (ha:Sl ok w a xs) (hb:Sl ok' w b ys) (hx:Bytes xs) (hy:Bytes ys) :
  Calls Tryz.prog 188 #[.slice a xs.length c,.slice b ys.length d] w fun e w'=>e=.returned (.bool (decide (xs=ys)))/\w=w':=by
 have h1:=YY ok a c xs w ha;have h2:=YY ok' b d ys w hb;rw [<- QZ hx hy];generalize E5 xs=xs' at *
 generalize E5 ys=ys' at *
 clear hx hy ha hb;rw [<- Lib.strOfNums_toList,<- Lib.strOfNums_toList]
 go_enter Tryz.func188,Tryz.ntmps188
 go_wp2
 go_ret
 exact ⟨rfl,rfl⟩
theorem Sl.at {ok:Nat->Prop} {w:World} {b o:Nat} {bs:List Nat} (h:Sl ok w (some ⟨b,o,none⟩) bs) (i j:Nat):Sl ok w (some ⟨b,o+i,none⟩) (BH bs i j):=by
 unfold BH;exact (h.behind i (some ⟨b,o+i,none⟩) (fun _=>by simp [Addr.add])).front j
set_option maxHeartbeats 1000000 in
theorem EJ (ok:Nat->Prop) (b o c:Nat) (bs:List Nat) (i j:Nat) (zi zj:Int) (w:World) (hs:Sl ok w (some ⟨b,o,none⟩) bs) (hby:Bytes bs) (hl:bs.length=256) (hc:256<=c/\c<=maxLen)
  (h1:1<=j) (h4:j<=4) (hij:i+j<=256) (hzi:zi=i) (hzj:zj=i+j) :
  Calls Tryz.prog 198 #[.slice (some ⟨b,o,none⟩) 256 c,.int .i64 zi,.int .i64 zj] w fun e w'=>e=.returned (.int .i64 (Var.num (BH bs i j):Nat))/\Below w.heap.size w w':=by
 subst hzi hzj;have hfl:(BH bs i j).length=j:=Nh (by omega);have HA:=N9 ok (some ⟨b,o+i,none⟩) j j (BH bs i j) w (Sl.at hs i j) ⟨by omega,by unfold maxLen;omega⟩ (fun h=>by cases h) (G5 hby i j) (by omega) (by omega) (by omega);rw [hfl] at HA;have H:=hid HA;have hnum:Hid (KD j (BH bs i j)=Var.num (BH bs i j)):=hid (by
  have hlt:Var.num (BH bs i j) < 256 ^ j:=by
   have:=Var.num_lt (BH bs i j) (G5 hby i j);rwa [hfl] at this
  have h44:256 ^ j<=256 ^ 4:=Nat.pow_le_pow_right (by decide) h4;have ht:(BH bs i j).take j=BH bs i j:=List.take_of_length_le (by omega);have he:Dw j (BH bs i j)=0:=by
   unfold Dw;rw [if_neg (by omega),ht,if_neg (by omega)]
  unfold KD;rw [if_pos he,ht])
 have hc1:((i:Int)+j)<=c:=by omega
 have hc2:(i:Int)<=i+j:=by omega
 have hc3:(0:Int)<=(i:Int)+j:=by omega
 have hm:(c:Int)<=9223372036854775807:=by have:=hc.2;unfold maxLen at this;omega
 generalize Var.num (BH bs i j)=N at *
 generalize KD j (BH bs i j)=V at *
 clear HA hs hby hfl hl hc
 go_enter Tryz.func198,Tryz.ntmps198
 go_wp2_with fail
 rw [show i+j - i=j from by omega,show (i:Int)+j - i=j from by omega];refine H.out.mono ?_;rintro e w1 ⟨⟨v,rfl,_⟩,hb1⟩;rw [hnum.out];clear H
 go_wp2_with fail
 go_ret
 exact ⟨rfl,hb1⟩
theorem Xk (ok:Nat->Prop) (k:Int) (a:Option Addr) (c:Nat) (zs:List Int) (w:World) (hs:Si ok w a zs) (hl:(zs.length:Int)<=9223372036854775807) :
  Calls Tryz.prog 174 #[.int .i64 k,.slice a zs.length c] w fun e w'=>e=.returned (.bool (decide (k∈zs)))/\w=w':=by
 have HS:=hid hs;clear hs
 go_enter Tryz.func174,Tryz.ntmps174
 go_wp2_with fail
 go_step3
 go_wp2_with fail
 go_step3
 go_wp2_with fail
 go_loop [5,7,10] (fun f x i=>f=.bool false/\∃ j:Nat,j<=zs.length/\i=.int .i64 (j:Int)/\¬ k∈zs.take j) (fun _ _ i=>zs.length - (intOf i).toNat)
 case atStart=>exact ⟨rfl,0,by omega,rfl,by simp⟩
 case round=>
  obtain ⟨rfl,j,hj,rfl,hn⟩:=hrel;have HN:=hid hn;clear hn;by_cases hlt:(j:Int) < zs.length
  ·have hcell:∃ b off,Hid (a=some ⟨b,off,none⟩)/\w.cell? ⟨b,off+j,none⟩=some (.int .i64 (zs.getD j 0)):=by
    rcases HS.out with h | ⟨b,off,h,_,hc⟩
    ·rw [h] at hlt;simp at hlt;omega
    ·exact ⟨b,off,hid h,hc j (by omega)⟩
   obtain ⟨b,off,ha,hcell⟩:=hcell;have hsn:Hid (zs.take (j+1)=zs.take j++[zs.getD j 0]):=hid (by
    rw [List.take_succ_eq_append_getElem (by omega),List.getD_eq_getElem?_getD,List.getElem?_eq_getElem (by omega)];rfl)
   have hmem:Hid (zs.getD j 0∈zs):=hid (by
    rw [List.getD_eq_getElem?_getD,List.getElem?_eq_getElem (by omega)];exact List.getElem_mem _)
   have ha2:=ha.out;subst ha2;generalize zs.getD j 0=z at *
   by_cases hz:z=k
   ·have hd:((z:Int) == k)=true:=by rw [beq_iff_eq];exact hz
    have HZ:=hid hz;clear hz
    go_wp2_with fail
    go_ret
    exact ⟨Eg (by rw [decide_eq_true_iff.2];exact HZ.out ▸ hmem.out),rfl⟩
   ·have hd:((z:Int) == k)=false:=by rw [beq_eq_false_iff_ne];exact hz
    have HZ:=hid hz;clear hz
    go_wp2_with fail
    go_round
    case rel=>exact ⟨rfl,j+1,by omega,by go_num,by rw [hsn.out,List.mem_append];rintro (h | h);· exact HN.out h
                                                   ·simp at h;exact HZ.out h.symm⟩
    case measure=>simp [intOf];omega
  ·go_wp2_with fail
   go_ret
   refine ⟨Eg ?_,rfl⟩;have:=HN.out;rw [List.take_of_length_le (by omega)] at this;exact (decide_eq_false_iff_not.2 this).symm
end Go.Proofs.YtfhdojnobmfefaaGreatDoor
