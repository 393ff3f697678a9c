import Derived.Test.YtkiehemoiapkkaaGreatW25
import Derived.Test.YtkiehemoiapkkaaGreatW26
section
namespace Go.Proofs.YtkiehemoiapkkaaGreat
open Go.RowKit Go.Maps
set_option maxRecDepth 20000 in
set_option maxHeartbeats 2000000 in
theorem same6_any (b o b' o':Nat) (n c d:Nat) (l l':List Int) (w:World) (hn:n≤140737488355328) (hl:l.length=n) (hl':l'.length=n) (h1:∀i,i<n→w.cell? ⟨b,o+i,none⟩=some (.int .u8 (l.getD i 0))) (h2:∀i,i<n→w.cell? ⟨b',o'+i,none⟩=some (.int .u8 (l'.getD i 0))):
  Calls Tryz.prog 33 #[.slice (some ⟨b,o,none⟩) n c, .slice (some ⟨b',o',none⟩) n d] w fun e w'=>e= .returned (.bool (decide (l=l')))∧Below w.heap.size w w':=by
 have h':(((n:Int)) != (n:Int))=false:=by simp
 have H1:=Hid.mk h1
 have H2:=Hid.mk h2
 clear h1 h2
 go_enter Tryz.func33,Tryz.ntmps33
 go_wp2
 go_loopw [5] (fun i wr=>∃k:Nat,k≤n∧i= .int .i64 k∧l.take k=l'.take k∧Below w.heap.size w wr) (fun i _=>n-(intOf i).toNat)
 case atStart=>exact⟨0,Nat.zero_le _,rfl,by simp,Below.refl _ _⟩
 case round=>
  obtain⟨k,hk,rfl,htk,hb⟩:=hrel
  have Htk:=Hid.mk htk
  clear htk
  by_cases hlt:k<n
  ·have c1:=cell_later hb (H1.out k hlt)
   have c2:=cell_later hb (H2.out k hlt)
   have hlt':(k:Int)<(n:Int):=by omega
   by_cases hx:l.getD k 0=l'.getD k 0
   ·have Hnx:=Hid.mk (take_eq_next Htk.out (by omega) (by omega) hx)
    have hb2:=Hid.mk (fun j=>below_drewN hb j)
    rw [hx] at c1
    generalize l'.getD k 0=x at*
    clear hx
    go_wp2
    go_quiet (fail)
    go_wp2
    go_roundw
    case rel=>exact⟨k+1,by omega,by go_num,Hnx.out,below_drewN hb _⟩
    case measure=>simp [intOf];omega
   ·have hne:l≠l':=ne_of_getD hx
    have hd:Hid (decide (l=l')=false):=by show decide (l=l')=false;simp [hne]
    have hxx:((l.getD k 0) != (l'.getD k 0))=true:=by rw [bne_iff_ne];exact hx
    generalize l'.getD k 0=x at*
    generalize l.getD k 0=y at*
    clear hx hne
    go_wp2
    go_quiet (fail)
    go_wp2
    go_ret
    exact⟨by rw [hd.out];rfl,below_drewN hb _⟩
  ·have hlt':¬(k:Int)<(n:Int):=by omega
   have hd:Hid (decide (l=l')=true):=by
    have:=Htk.out
    rw [List.take_of_length_le (by omega),List.take_of_length_le (by omega)] at this
    show decide (l=l')=true
    simp [this]
   go_wp2
   go_ret
   exact⟨by rw [hd.out];rfl,hb⟩
end Go.Proofs.YtkiehemoiapkkaaGreat
end
section
namespace Go.Proofs.YtkiehemoiapkkaaGreat
open Go.RowKit
def blOf (d:List Int):List Bool:=(List.range 4096).map fun i=>bitOf d i
theorem blOf_len (d:List Int):(blOf d).length=4096:=by simp [blOf]
theorem blOf_get (d:List Int) {i:Nat} (hi:i<4096):(blOf d).getD i false=bitOf d i:=by simp [blOf,List.getD,hi]
theorem bm_bytes (l:List Bool):Bytes (bmOf l):=fun x hx=>by
 obtain⟨i,_,rfl⟩:=List.mem_map.1 hx
 have:=accB_lt l (8*i) 8
 exact⟨by omega,by omega⟩
theorem acc_bit (l:List Bool) (a:Nat) {k:Nat} (hk:k<8):decide (accB l a 8 / 2 ^ k%2=1)=l.getD (a+k) false:=by
 have e:accB l a 8=2*(2*(2*(2*(2*(2*(2*(2*0+(if l.getD (a+7) false then 1 else 0))+(if l.getD (a+6) false then 1 else 0))+(if l.getD (a+5) false then 1 else 0))+(if l.getD (a+4) false then 1 else 0))+(if l.getD (a+3) false then 1 else 0))+(if l.getD (a+2) false then 1 else 0))+(if l.getD (a+1) false then 1 else 0))+(if l.getD (a+0) false then 1 else 0):=rfl
 rw [e]
 have hh:∀(b0 b1 b2 b3 b4 b5 b6 b7:Bool),((List.range 8).all fun k=>decide ((2*(2*(2*(2*(2*(2*(2*(2*0+(if b7 then 1 else 0))+(if b6 then 1 else 0))+(if b5 then 1 else 0))+(if b4 then 1 else 0))+(if b3 then 1 else 0))+(if b2 then 1 else 0))+(if b1 then 1 else 0))+(if b0 then 1 else 0)) / 2 ^ k%2=1) == [b0,b1,b2,b3,b4,b5,b6,b7].getD k false)=true:=by decide+kernel
 have h9:=hh (l.getD (a+0) false) (l.getD (a+1) false) (l.getD (a+2) false) (l.getD (a+3) false) (l.getD (a+4) false) (l.getD (a+5) false) (l.getD (a+6) false) (l.getD (a+7) false)
 rw [List.all_eq_true] at h9
 have h8:=eq_of_beq (h9 k (List.mem_range.2 hk))
 rw [h8]
 match k,hk with
 |0,_=>rfl
 |1,_=>rfl
 |2,_=>rfl
 |3,_=>rfl
 |4,_=>rfl
 |5,_=>rfl
 |6,_=>rfl
 |7,_=>rfl
theorem bm_bit (l:List Bool) {i:Nat} (hi:i<4096):bitOf (bmOf l) i=l.getD i false:=by
 unfold bitOf
 rw [bmOf_getD l _ (by omega),bitIn_nat,acc_bit l _ (by omega)]
 congr 1
 omega
theorem bm_of_bl {d:List Int} (h:Bytes d) (hl:d.length=512):bmOf (blOf d)=d:=
 bits_same (bm_bytes _) h ((bmOf_len _).trans hl.symm) (fun i hi=>by rw [bmOf_len] at hi;rw [bm_bit _ (by omega),blOf_get d (by omega)])
theorem bl_of_bm {l:List Bool} (hl:l.length=4096):blOf (bmOf l)=l:=by
 apply List.ext_getElem ((blOf_len _).trans hl.symm)
 intro i h1 h2
 have e1:=blOf_get (bmOf l) (i:=i) (by omega)
 rw [bm_bit l (by omega)] at e1
 simp only [List.getD,List.getElem?_eq_getElem h1,List.getElem?_eq_getElem h2,Option.getD_some] at e1
 exact e1
theorem bm_inj {l l':List Bool} (hl:l.length=4096) (hl':l'.length=4096) (h:bmOf l=bmOf l'):l=l':=by
 rw [←bl_of_bm hl,←bl_of_bm hl',h]
def lowB (n:Nat):List Bool:=(List.range 4096).map fun i=>decide (i<n)
theorem lowB_len (n:Nat):(lowB n).length=4096:=by simp [lowB]
theorem lowB_get (n:Nat) {i:Nat} (hi:i<4096):(lowB n).getD i false=decide (i<n):=by simp [lowB,List.getD,hi]
theorem bm_low {n:Nat} (hn:n≤4096):bmOf (lowB n)=ebm n:=
 bits_same (bm_bytes _) (ebm_bytes n) ((bmOf_len _).trans (ebm_len n).symm) (fun i hi=>by rw [bmOf_len] at hi;rw [bm_bit _ (by omega),lowB_get n (by omega),ebm_bit n hn])
section
variable {w:World} {g c g' c':Nat} {l l':List Bool}
theorem RowAt.setTruth (h:RowAt w 4 g c (bls l)) (i:Nat) (x:Bool):RowAt (w.setCell ⟨g,i,none⟩ (.bool x)) 4 g c (bls (l.set i x)):=by
 obtain⟨cur,hb,hc,ht,hm⟩:=h
 refine⟨cur.setIfInBounds i (.bool x),heap_setCell_same _ _ _ _ _ _ hb,by simpa using hc,?_,hm⟩
 have e:(bls (l.set i x)).length=(bls l).length:=by simp [bls]
 rw [e,Array.toList_setIfInBounds,List.take_set,ht,bls,bls,List.map_set]
theorem takeB_next {k:Nat} (h:l.take k=l'.take k) (h1:k<l.length) (h2:k<l'.length) (e:l.getD k false=l'.getD k false):l.take (k+1)=l'.take (k+1):=by
 rw [List.take_succ_eq_append_getElem h1,List.take_succ_eq_append_getElem h2,h]
 simp [List.getD,h1,h2] at e
 rw [e]
set_option maxRecDepth 20000 in
set_option maxHeartbeats 2000000 in
theorem alike_any (h1:RowAt w 4 g c (bls l)) (h2:RowAt w 4 g' c' (bls l')) (hl:l.length=4096) (hl':l'.length=4096):
  Calls Tryz.prog 65 #[.slice (some ⟨g,0,none⟩) 4096 c, .slice (some ⟨g',0,none⟩) 4096 c'] w fun e w'=>e= .returned (.bool (decide (l=l')))∧Below w.heap.size w w':=by
 have H1:=Hid.mk h1
 have H2:=Hid.mk h2
 clear h1 h2
 go_enter Tryz.func65,Tryz.ntmps65
 go_wp2
 go_loopw [5] (fun i wr=>∃k:Nat,k≤4096∧i= .int .i64 (k:Int)∧l.take k=l'.take k∧Below w.heap.size w wr) (fun i _=>4096-(intOf i).toNat)
 case atStart=>exact⟨0,Nat.zero_le _,rfl,by simp,Below.refl _ _⟩
 case round=>
  obtain⟨k,hk,rfl,htk,hb⟩:=hrel
  have Htk:=Hid.mk htk
  clear htk
  by_cases hlt:k<4096
  ·have c1:=cell_later hb (H1.out.truth (i:=k) (by omega))
   have c2:=cell_later hb (H2.out.truth (i:=k) (by omega))
   have hlt':(k:Int)<4096:=by omega
   by_cases hx:l.getD k false=l'.getD k false
   ·have Hnx:=Hid.mk (takeB_next Htk.out (by omega) (by omega) hx)
    rw [hx] at c1
    generalize l'.getD k false=x at*
    clear hx
    go_wp2
    go_quiet (fail)
    go_wp2
    go_roundw
    case rel=>exact⟨k+1,by omega,by go_num,Hnx.out,below_drewN hb _⟩
    case measure=>simp [intOf];omega
   ·have hne:l≠l':=fun h=>hx (by rw [h])
    have hd:Hid (decide (l=l')=false):=by show decide (l=l')=false;simp [hne]
    generalize l'.getD k false=x at*
    generalize l.getD k false=y at*
    clear hne
    cases x <;> cases y
    ·exact absurd rfl hx
    ·clear hx
     go_wp2
     go_quiet (fail)
     go_wp2
     go_ret
     exact⟨by rw [hd.out];rfl,below_drewN hb _⟩
    ·clear hx
     go_wp2
     go_quiet (fail)
     go_wp2
     go_ret
     exact⟨by rw [hd.out];rfl,below_drewN hb _⟩
    ·exact absurd rfl hx
  ·have hlt':¬(k:Int)<4096:=by omega
   have hd:Hid (decide (l=l')=true):=by
    have:=Htk.out
    rw [List.take_of_length_le (by omega),List.take_of_length_le (by omega)] at this
    show decide (l=l')=true
    simp [this]
   go_wp2
   go_ret
   exact⟨by rw [hd.out];rfl,hb⟩
end
end Go.Proofs.YtkiehemoiapkkaaGreat
end
section
namespace Go.Proofs.YtkiehemoiapkkaaGreat
open Go.RowKit Go.Maps
def ints (l:List Nat):List Value:=l.map fun (x:Nat)=> .int .i64 ((x:Nat):Int)
structure IL (w:World) (X:Nat→Prop) (v:Value) (l:List Nat):Prop where
 own:w.ownsRow 0 3 1 v l.length (ints l)
 x:∀g,v.ownBlock=some g→X g
section
variable {w w':World} {X Y Z:Nat→Prop} {v:Value} {l:List Nat}
theorem IL.nil (w:World) (X:Nat→Prop):IL w X (.slice none 0 0) []:=⟨World.ownsRow_nil _ _ _ _,fun g h=>by simp [Value.ownBlock] at h⟩
theorem IL.mono (h:IL w X v l) (hX:∀g,X g→Y g):IL w Y v l:=⟨h.own,fun g hg=>hX g (h.x g hg)⟩
theorem IL.lt (h:IL w X v l) {g:Nat} (hg:v.ownBlock=some g):g<w.heap.size:=by
 obtain⟨cur,hc⟩:=owns_block h.own hg
 exact lt_there hc
theorem IL.keep (h:IL w X v l) (hk:Keeps Z w w') (hZ:∀g,v.ownBlock=some g→¬Z g):IL w' X v l:=
   ⟨owns_agree h.own (fun g hg=>hk.block g (h.lt hg) (hZ g hg)),h.x⟩
theorem IL.later (h:IL w X v l) (hb:Below w.heap.size w w'):IL w' X v l:=h.keep (Keeps.of_below (fun _=>False) hb) (fun _ _ h=>h)
theorem IL.form (h:IL w X v l):∃a c,v= .slice a l.length c:=by
 obtain⟨_,⟨rfl,h0⟩|⟨g,cap,cur,rfl,_⟩⟩:=h.own
 ·exact⟨none,0,by rw [h0]⟩
 ·exact⟨_,_,rfl⟩
theorem IL.at (h:IL w X v l) {i x:Nat} (hi:l[i]? =some x):∃g c,v= .slice (some ⟨g,0,none⟩) l.length c∧w.cell? ⟨g,i,none⟩=some (.int .i64 (x:Int)):=by
 have hx:(ints l)[i]? =some (.int .i64 (x:Int)):=by unfold ints;rw [List.getElem?_map,hi];rfl
 obtain⟨_,⟨rfl,h0⟩|⟨g,cap,cur,rfl,hr⟩⟩:=h.own
 ·rw [List.length_eq_zero_iff.1 h0] at hi
  cases hi
 ·refine⟨g,cap,rfl,?_⟩
  have:=h.own.cells (g:=g) rfl i _ hx
  rwa [addr_add,Nat.zero_add] at this
theorem IL.app (h:IL w X v l) (x:Nat) (hn:l.length≤1000000):
  ∃g2 cap2 w2,(Builtin.append_ #[26,26] 26 #[v, .slice (some ⟨w.heap.size,0,none⟩) 1 1]).run Tryz.prog (w.alloc (.cells #[.int .i64 (x:Int)] 3))= .ok (.slice (some ⟨g2,0,none⟩) (l.length+1) cap2) w2∧IL w2 (fun j=>X j∨w.heap.size≤j) (.slice (some ⟨g2,0,none⟩) (l.length+1) cap2) (l ++ [x])∧Keeps (fun j=>v.ownBlock=some j) w w2∧(v.ownBlock=some g2∨w.heap.size≤g2):=by
 obtain⟨i0,hi,hz0,hz1,hz2⟩:=info_parts infoInt
 obtain⟨g2,cap2,w2,hrun,hown,hgrow,hat,_⟩:=run_append_lies (P:=Tryz.prog) (w.alloc (.cells #[.int .i64 (x:Int)] 3)) 26 26 0 3 i0 (.int .i64 0) 1 8 Tryz.underlying26 hi hz0 hz1 hz2 rfl (by decide) v l.length (ints l) (owns_agree h.own (fun g hg=>Below.heap_alloc _ _ _ (h.lt hg))) ⟨w.heap.size,0,none⟩ 1 1 [.int .i64 (x:Int)] rfl (World.news_of_block (cs:= #[.int .i64 (x:Int)]) (t:=3) (fr:=(0,0)) (heap_alloc_new w _)) (by simp [Value.oneCell']) (by omega) (by unfold maxLen;omega) (by omega) (Nat.zero_le _) _ rfl
 have hbx:=below_box w (.cells #[.int .i64 (x:Int)] 3)
 have hk:Keeps (fun j=>v.ownBlock=some j) w w2:=⟨hgrow.os.trans hbx.os,hgrow.tape.trans hbx.tape,hgrow.output.trans hbx.output,Nat.le_trans hbx.size hgrow.size,fun k hk hq=>(hgrow.block k (Nat.lt_of_lt_of_le hk hbx.size) (fun e=>hq e.symm)).trans (hbx.block k hk)⟩
 have hat':v.ownBlock=some g2∨w.heap.size≤g2:=hat.imp (fun e=>e) (fun e=>by simp at e;omega)
 refine⟨g2,cap2,w2,hrun,⟨?_,fun g' hq=>?_⟩,hk,hat'⟩
 ·have e:ints (l ++ [x])=ints l ++ [.int .i64 (x:Int)]:=by unfold ints;rw [List.map_append];rfl
  rw [e,List.length_append]
  exact hown
 ·have eg:g2=g':=by simpa [Value.ownBlock] using hq
  subst eg
  exact hat'.imp (fun e=>h.x _ e) (fun e=>e)
end
section
variable {G:SG} {S:DS} {T:TG}
theorem sees_put {bm:Nat} {d:List Int} (hok:CM.Ok T.puts) (i:Nat):({T with puts:=CM.put T.puts bm d}:TG).sees G S i=if i=bm then d else T.sees G S i:=by
 show (CM.get (CM.put T.puts bm d) i).getD _=_
 rw [CM.get_put _ _ _ _ hok]
 split <;> rfl
end
section
variable {w:World} {F:Nat→Prop} {p s cR q l m t n:Nat} {S:DS} {G:SG} {T:TG}
theorem get6_any (h:TX w F p s cR q l m t n S G T) (b:Nat) (r0:T.refusal G S b=0):Calls Tryz.prog 32 #[.pointer (some ⟨t,0,none⟩), .int .i64 (b:Int)] w fun e w'=>(∃g,e= .returned (.tuple #[.slice (some ⟨g,0,none⟩) 512 512, .int .i64 0])∧w.heap.size≤g∧Blk w' 113 g (T.sees G S b))∧TX w' F p s (cR+1) q l m t n S G T∧Keeps F w w':=
   (Get_any h.st h.tx (b:Int) h.big).mono (fun e w' ⟨hx,hd,hk⟩=>by
  unfold GetOut at hx
  rw [if_neg (fun hh=>hh r0),Int.toNat_natCast] at hx
  exact⟨hx,h.asked hd hk,hk⟩)
end
end Go.Proofs.YtkiehemoiapkkaaGreat
end
section
namespace Go.Proofs.YtkiehemoiapkkaaGreat
open Go.RowKit
section
variable {w:World} {d:List Int}
def blTo (d:List Int) (m:Nat):List Bool:=(blOf d).take m ++ List.replicate (4096-m) false
theorem blTo_zero (d:List Int):blTo d 0=List.replicate 4096 false:=by unfold blTo;rw [List.take_zero,List.nil_append,Nat.sub_zero]
theorem blTo_full (d:List Int):blTo d 4096=blOf d:=by
 unfold blTo
 rw [List.take_of_length_le (by rw [blOf_len];exact Nat.le_refl _)]
 simp
theorem blTo_len (d:List Int) {m:Nat} (hm:m≤4096):(blTo d m).length=4096:=by
 unfold blTo
 rw [List.length_append,List.length_take,blOf_len,List.length_replicate]
 omega
theorem blTo_set (d:List Int) {m:Nat} (hm:m<4096):(blTo d m).set m (bitOf d m)=blTo d (m+1):=by
 unfold blTo
 have h1:((blOf d).take m).length=m:=by rw [List.length_take,blOf_len];omega
 have h2:m<(blOf d).length:=by rw [blOf_len];exact hm
 have h3:(blOf d)[m]=bitOf d m:=by
  have h9:=blOf_get d hm
  rw [List.getD,List.getElem?_eq_getElem h2,Option.getD_some] at h9
  exact h9
 rw [List.set_append_right _ _ (by omega),h1,Nat.sub_self,show 4096-m=(4096-(m+1))+1 by omega,List.replicate_succ,List.set_cons_zero,List.take_succ_eq_append_getElem h2,List.append_assoc,h3]
 rfl
theorem RowAt.thaw {e:TypeId} {g c:Nat} {xs:List Value} (h:RowAt w e g c xs) (j:Nat):w.frozen? ⟨g,j,none⟩=false:=by
 obtain⟨cur,hb,_⟩:=h
 exact frozen_of_block hb j
theorem half_bit {x k:Nat}:(((x / 2 ^ k:Nat):Int)%2 == 1)=decide (x / 2 ^ k%2=1):=by
 generalize x / 2 ^ k=y
 by_cases h:y%2=1
 ·rw [decide_eq_true h]
  simp
  omega
 ·rw [decide_eq_false h]
  simp
  omega
set_option maxRecDepth 20000 in
set_option maxHeartbeats 4000000 in
theorem fromBytes_any {a:Option Addr} {c:Nat} (hs:Src w a 512 d) (hd:Bytes d):Calls Tryz.prog 124 #[.slice a 512 c] w fun e w'=>∃g c',e= .returned (.slice (some ⟨g,0,none⟩) 4096 c')∧w.heap.size≤g∧RowAt w' 4 g c' (bls (blOf d))∧Below w.heap.size w w':=by
 have hk:=none_any w
 have HS:=Hid.mk hs
 have HD:=Hid.mk hd
 have hdl:d.length=512:=hs.1
 clear hs hd
 go_enter Tryz.func124,Tryz.ntmps124
 go_wp2_with fail
 refine hk.mono ?_
 rintro e w1 ⟨v,rfl,hbl,hb1⟩
 obtain⟨g,cg,hv,hg,hr⟩:=hbl.row (by simp)
 rw [List.length_replicate] at hv
 subst hv
 have hcg:4096≤cg:=by have:=hr.le;simpa [bls] using this
 have hcm:cg≤9223372036854775807:=by have:=hr.max;unfold maxLen at this;omega
 have HR:Hid (RowAt w1 4 g cg (bls (blTo d 0))∧Below w.heap.size w w1):=⟨by rw [blTo_zero];exact hr,hb1⟩
 clear hk hbl hr hb1
 go_wp2
 go_loopw [4] (fun iv wr=>∃i:Nat,i≤512∧iv= .int .i64 (i:Int)∧RowAt wr 4 g cg (bls (blTo d (8*i)))∧Below w.heap.size w wr) (fun iv _=>512-(intOf iv).toNat)
 case atStart=>exact⟨0,Nat.zero_le _,rfl,HR.out⟩
 case round=>
  clear HR
  obtain⟨i,hi,rfl,hr,hb⟩:=hrel
  have H1:=Hid.mk (And.intro hr hb)
  clear hr hb
  by_cases hlt:i<512
  ·have hlt':(i:Int)<512:=by omega
   obtain⟨x,hx,hx2⟩:=nat_of (getD_byte HD.out i)
   cases a with
   |none=>have:=HS.out.2.1 rfl;omega
   |some y=>
   obtain⟨b,o,rfl,hc⟩:=HS.out.spot (by omega)
   have hbw:b<w.heap.size:=World.block_lt_of_cell? _ _ (hc i hlt)
   have c0:wr.cell? ⟨b,o+i,none⟩=some (.int .u8 (x:Int)):=by
    rw [World.cell?_of_block (w:=w) (a:=⟨b,o+i,none⟩) (H1.out.2.block b hbw),hc i hlt,hx]
   have HX:Hid (∀k,k<8→bitOf d (8*i+k)=decide (x / 2 ^ k%2=1)):=fun k hk=>by
    unfold bitOf
    rw [show (8*i+k) / 8=i by omega,show (8*i+k)%8=k by omega,hx,bitIn_nat]
   have hi0:(0:Int)≤(i:Int):=by omega
   clear hx hc hbw
   go_wp2
   clear c0
   go_loopw [5,6] (fun vv kv wr=>∃k:Nat,k≤8∧kv= .int .i64 (k:Int)∧vv= .int .i64 ((x / 2 ^ k:Nat):Int)∧RowAt wr 4 g cg (bls (blTo d (8*i+k)))∧Below w.heap.size w wr) (fun _ kv _=>8-(intOf kv).toNat)
   case atStart=>exact⟨0,Nat.zero_le _,rfl,by simp,H1.out⟩
   case round=>
    clear H1
    obtain⟨k,hk,rfl,rfl,hr,hb⟩:=hrel
    by_cases hlt2:k<8
    ·have hlt2':(k:Int)<8:=by omega
     have hq:(((x / 2 ^ k:Nat):Int)).tmod 2=((x / 2 ^ k:Nat):Int)%2:=Int.tmod_eq_emod_of_nonneg (Int.natCast_nonneg _)
     have hq2:(((x / 2 ^ k:Nat):Int)).tdiv 2=((x / 2 ^ (k+1):Nat):Int):=by
      rw [Nat.pow_succ,←Nat.div_div_eq_div_mul]
      rfl
     obtain⟨m,hm⟩:∃m,m=8*i+k:=⟨_,rfl⟩
     have hw1:wrap64 (8*(i:Int))=8*(i:Int):=by rw [IntWalk.wrap64_in _ (by omega)]
     have hmi:8*(i:Int)+(k:Int)=(m:Int):=by omega
     have hm4:(m:Int)<4096:=by omega
     have hm0:(0:Int)≤(m:Int):=by omega
     rw [←hm] at hr
     have cm:=hr.truth (i:=m) (by rw [blTo_len d (by omega)];omega)
     have fm:=hr.thaw m
     have hbit:bitOf d m=(((x / 2 ^ k:Nat):Int)%2 == 1):=by rw [hm,HX.out k hlt2,half_bit]
     have hset:=hr.setTruth m (bitOf d m)
     rw [blTo_set d (by omega),hbit,show m+1=8*i+(k+1) by omega] at hset
     have HE:=Hid.mk (And.intro hset (hb.trans ((Below.refl w.heap.size wr).setCell (p:=⟨g,m,none⟩) (by simpa using hg) (.bool (((x / 2 ^ k:Nat):Int)%2 == 1)))))
     clear hr hb hset hbit hm HX
     obtain⟨y2,hy2⟩:∃y2,y2=x / 2 ^ (k+1):=⟨_,rfl⟩
     have hy3:y2<256:=by rw [hy2];exact Nat.lt_of_le_of_lt (Nat.div_le_self _ _) hx2
     rw [←hy2] at hq2
     have HY:=Hid.mk hy2
     clear hy2
     generalize ((x / 2 ^ k:Nat):Int)=y at*
     generalize (blTo d m).getD m false=z at*
     go_wp2
     go_roundw
     case rel=>exact⟨k+1,by omega,by go_num,by rw [←HY.out],HE.out⟩
     case measure=>simp [intOf];omega
    ·obtain rfl:k=8:=by omega
     have hlt2':¬(8:Int)<8:=by omega
     rw [show 8*i+8=8*(i+1) by omega] at hr
     have HE:=Hid.mk (And.intro hr hb)
     clear hr hb hlt2 HX
     generalize ((x / 2 ^ 8:Nat):Int)=y at*
     go_wp2
     go_roundw
     case rel=>exact⟨i+1,by omega,by go_num,HE.out⟩
     case measure=>simp [intOf];omega
  ·obtain rfl:i=512:=by omega
   have hlt':¬(512:Int)<512:=by omega
   go_wp2
   go_ret
   refine⟨g,cg,rfl,hg,?_,H1.out.2⟩
   have h9:=H1.out.1
   rw [show 8*512=4096 from rfl,blTo_full] at h9
   exact h9
end
end Go.Proofs.YtkiehemoiapkkaaGreat
end
section
namespace Go.Proofs.YtkiehemoiapkkaaGreat
open Go.RowKit
def MP.state (M:MP):Int:=if M.dead then 3 else if M.opn then M.bad else 4
def MP.puts (M:MP) (b:Nat):Int×MP:=if b∈M.put then (0,M) else if M.put.length=16 then (50,{M with bad:=50}) else (0,{M with put:=M.put ++ [b]})
def MP.lays (M:MP) (b:Nat) (l:List Bool):Int×MP:=
 if (if b=1 then M.nn else M.nb)=l then (0,M) else if (M.puts b).1≠0 then M.puts b else (0,if b=1 then {(M.puts b).2 with nn:=l} else {(M.puts b).2 with nb:=l})
section
variable {w w':World} {X Y Z:Nat→Prop} {k g1 c1 g2 c2 g3 c3 g4 c4:Nat} {v5 v6 v7 v7':Value} {M M':MP}
theorem MAt.turn (h:MAt w X k g1 c1 g2 c2 g3 c3 g4 c4 v5 v6 v7 M) (hk:Keeps Z w w') (hZ:∀g,Z g→∃cur t fz,w.heap[g]? =some (.cells cur t fz)∧t≠4∧t≠5∧t≠44) (hY:∀j,X j→Y j)
    (hb:w'.heap[k]? =some (.cells (mpC M' (slB g1 c1) (slB g2 c2) (slB g3 c3) (slB g4 c4) v5 v6 v7') 72 (0,0))) (hput:NX w' Y v7' M'.put) (e1:M'.ob=M.ob) (e2:M'.on=M.on) (e3:M'.nb=M.nb) (e4:M'.nn=M.nn) (e5:M'.oraw=M.oraw) (e6:M'.raw=M.raw) (e7:M'.opn=M.opn):
  MAt w' Y k g1 c1 g2 c2 g3 c3 g4 c4 v5 v6 v7' M':=by
 have hb1:∀g,Z g→∃cur t fz,w.heap[g]? =some (.cells cur t fz)∧t≠4:=fun g hg=>by obtain⟨a,t,f,q1,q2,_⟩:=hZ g hg;exact⟨a,t,f,q1,q2⟩
 have hb2:∀g,Z g→∃cur t fz,w.heap[g]? =some (.cells cur t fz)∧t≠5∧t≠44:=fun g hg=>by obtain⟨a,t,f,q1,_,q3⟩:=hZ g hg;exact⟨a,t,f,q1,q3⟩
 exact⟨hb,hY _ h.xk,by rw [e1];exact⟨hY _ h.ob.1,h.ob.2.1.unlike hk hb1,h.ob.2.2⟩,by rw [e2];exact⟨hY _ h.on.1,h.on.2.1.unlike hk hb1,h.on.2.2⟩,by rw [e3];exact⟨hY _ h.nb.1,h.nb.2.1.unlike hk hb1,h.nb.2.2⟩,by rw [e4];exact⟨hY _ h.nn.1,h.nn.2.1.unlike hk hb1,h.nn.2.2⟩,h.n12,h.n13,h.n14,h.n23,h.n24,h.n34,by rw [e5];exact(h.oraw.keep hk hb2).mono hY,by rw [e6];exact(h.raw.keep hk hb2).mono hY,hput,by rw [e7];exact h.own⟩
theorem MX.mono (h:MX w X k M) (hY:∀j,X j→Y j):MX w Y k M:=by
 obtain⟨g1,c1,g2,c2,g3,c3,g4,c4,v5,v6,v7,h⟩:=h
 exact⟨g1,c1,g2,c2,g3,c3,g4,c4,v5,v6,v7,h.b,hY _ h.xk,⟨hY _ h.ob.1,h.ob.2⟩,⟨hY _ h.on.1,h.on.2⟩,⟨hY _ h.nb.1,h.nb.2⟩,⟨hY _ h.nn.1,h.nn.2⟩,h.n12,h.n13,h.n14,h.n23,h.n24,h.n34,h.oraw.mono hY,h.raw.mono hY,⟨h.put.1,fun g hg=>hY _ (h.put.2 g hg)⟩,h.own⟩
theorem MX.later (h:MX w X k M) (hb:Below w.heap.size w w'):MX w' X k M:=h.apart (Keeps.of_below (fun _=>False) hb) (fun _ h=>h.elim)
set_option maxRecDepth 20000 in
theorem mstate_any (h:MX w X k M):Calls Tryz.prog 29 #[.pointer (some ⟨k,0,none⟩)] w fun e w'=>e= .returned (.int .i64 M.state)∧w'=w:=by
 obtain⟨g1,c1,g2,c2,g3,c3,g4,c4,v5,v6,v7,h⟩:=h
 have h10:w.cell? ⟨k,10,none⟩=some (.int .i64 M.bad):=cell_of_block h.b (j:=10) rfl
 have h11:w.cell? ⟨k,11,none⟩=some (.bool M.opn):=cell_of_block h.b (j:=11) rfl
 have h12:w.cell? ⟨k,12,none⟩=some (.bool M.dead):=cell_of_block h.b (j:=12) rfl
 clear h
 unfold MP.state
 generalize M.bad=x at*
 cases hd:M.dead
 ·cases ho:M.opn
  ·rw [hd] at h12
   rw [ho] at h11
   clear hd ho
   go_enter Tryz.func29,Tryz.ntmps29
   go_wp2
   go_ret
   exact⟨rfl,rfl⟩
  ·rw [hd] at h12
   rw [ho] at h11
   clear hd ho
   go_enter Tryz.func29,Tryz.ntmps29
   go_wp2
   go_ret
   exact⟨rfl,rfl⟩
 ·rw [hd] at h12
  clear hd h11
  go_enter Tryz.func29,Tryz.ntmps29
  go_wp2
  go_ret
  exact⟨rfl,rfl⟩
set_option maxRecDepth 20000 in
set_option maxHeartbeats 4000000 in
theorem puts_any (h:MX w X k M) (b:Nat) (hl:M.put.length≤16):Calls Tryz.prog 66 #[.pointer (some ⟨k,0,none⟩), .int .i64 (b:Int)] w fun e w'=>e= .returned (.int .i64 (M.puts b).1)∧MX w' (more X w w') k (M.puts b).2∧Keeps X w w':=by
 obtain⟨g1,c1,g2,c2,g3,c3,g4,c4,v5,v6,v7,h⟩:=h
 have hil:IL w X v7 M.put:=⟨h.put.1,h.put.2⟩
 obtain⟨pa,pc,hv⟩:=hil.form
 subst hv
 have c9:w.cell? ⟨k,9,none⟩=some (.slice pa M.put.length pc):=cell_of_block h.b (j:=9) rfl
 have c10:w.cell? ⟨k,10,none⟩=some (.int .i64 M.bad):=cell_of_block h.b (j:=10) rfl
 have f9:=frozen_of_block h.b 9
 have f10:=frozen_of_block h.b 10
 have H:=Hid.mk h
 have HL:=Hid.mk hil
 clear h hil
 obtain⟨n,hn⟩:∃n,n=M.put.length:=⟨_,rfl⟩
 rw [←hn] at c9 hl
 have HN:=Hid.mk hn
 clear hn
 go_enter Tryz.func66,Tryz.ntmps66
 go_wp2
 go_loopw [5] (fun iv wr=>∃j:Nat,j≤n∧iv= .int .i64 (j:Int)∧b∉M.put.take j∧wr=w) (fun iv _=>n-(intOf iv).toNat)
 case atStart=>exact⟨0,Nat.zero_le _,rfl,by simp,rfl⟩
 case round=>
  obtain⟨j,hj,rfl,hno,hwr⟩:=hrel
  subst hwr
  by_cases hlt:j<n
  ·have hlt':(j:Int)<(n:Int):=by omega
   have hjl:j<M.put.length:=by have:=HN.out;omega
   obtain⟨g,c',e1,e2⟩:=HL.out.at (List.getElem?_eq_getElem hjl)
   obtain⟨rfl,rfl⟩:pa=some ⟨g,0,none⟩∧pc=c':=by cases e1;exact⟨rfl,rfl⟩
   have hts:=List.take_succ_eq_append_getElem hjl
   obtain⟨y,hy⟩:∃y,y=M.put[j]:=⟨_,rfl⟩
   rw [←hy] at hts e2
   by_cases he:y=b
   ·subst he
    have hm:y∈M.put:=by rw [hy];exact List.getElem_mem _
    have HE:Hid (M.puts y=(0,M)):=by show M.puts y=(0,M);unfold MP.puts;rw [if_pos hm]
    clear hts hno hy e1 hm
    go_wp2
    go_ret
    rw [HE.out]
    exact⟨rfl,MX.mono ⟨_,_,_,_,_,_,_,_,_,_,_,H.out⟩ (fun _ h=> .inl h),Keeps.refl _ _⟩
   ·have he':((y:Int) == (b:Int))=false:=by rw [beq_eq_false_iff_ne];omega
    have HNo:Hid (b∉M.put.take (j+1)):=fun hm=>by
     rw [hts,List.mem_append] at hm
     rcases hm with hm|hm
     ·exact hno hm
     ·simp at hm
      exact he hm.symm
    clear hts hno hy e1 he
    go_wp2
    go_roundw
    case rel=>exact⟨j+1,by omega,by go_num,HNo.out,trivial⟩
    case measure=>simp [intOf];omega
  ·obtain rfl:j=n:=by omega
   have hlt':¬(j:Int)<(j:Int):=by omega
   have hnm:b∉M.put:=by
    rw [List.take_of_length_le (by have:=HN.out;omega)] at hno
    exact hno
   by_cases h16:j=16
   ·subst h16
    have HE:Hid (M.puts b=(50,{M with bad:=50})):=by show M.puts b=_;unfold MP.puts;rw [if_neg hnm,if_pos HN.out.symm]
    have hbl:=H.out.b
    have hs:(wr.setCell ⟨k,10,none⟩ (.int .i64 50)).heap[k]? =some (.cells (mpC {M with bad:=50} (slB g1 c1) (slB g2 c2) (slB g3 c3) (slB g4 c4) v5 v6 (.slice pa M.put.length pc)) 72 (0,0)):=heap_setCell_same _ _ _ _ _ _ hbl
    have hk:=Keeps.setCell (F:=fun j=>j=k) wr (p:=⟨k,10,none⟩) rfl (.int .i64 50)
    have HR:Hid (MX (wr.setCell ⟨k,10,none⟩ (.int .i64 50)) (more X wr (wr.setCell ⟨k,10,none⟩ (.int .i64 50))) k {M with bad:=50}∧Keeps X wr (wr.setCell ⟨k,10,none⟩ (.int .i64 50))):=by
     refine⟨⟨_,_,_,_,_,_,_,_,_,_,_,H.out.turn (Y:=more X wr _) (M':={M with bad:=50}) hk (fun g hg=>by subst hg;exact⟨_,_,_,hbl,by decide,by decide,by decide⟩) (fun _ h=> .inl h) hs ⟨?_,fun g hg=> .inl (H.out.put.2 g hg)⟩ rfl rfl rfl rfl rfl rfl rfl⟩,hk.mono (fun j hj=>by rw [hj];exact H.out.xk)⟩
     exact(HL.out.keep hk (fun g hg e=>by
      obtain⟨cur,hc⟩:=owns_block HL.out.own hg
      rw [e,hbl] at hc
      cases hc)).own
    clear hno hnm hbl hs hk
    go_wp2
    go_ret
    rw [HE.out]
    exact⟨rfl,HR.out⟩
   ·have h16':¬(j:Int)=16:=by omega
    have HE:Hid (M.puts b=(0,{M with put:=M.put ++ [b]})):=by show M.puts b=_;unfold MP.puts;rw [if_neg hnm,if_neg (by have:=HN.out;omega)]
    obtain⟨g2',cap2,w2,hrun,hil2,hk2,hat⟩:=HL.out.app b (by have:=HN.out;omega)
    have hkb:w2.heap[k]? =some _:=(hk2.block k (lt_there H.out.b) (fun e=>by
     obtain⟨cur,hc⟩:=owns_block HL.out.own e
     rw [H.out.b] at hc
     cases hc)).trans H.out.b
    have hs:(w2.setCell ⟨k,9,none⟩ (.slice (some ⟨g2',0,none⟩) (M.put.length+1) cap2)).heap[k]? =some (.cells (mpC {M with put:=M.put ++ [b]} (slB g1 c1) (slB g2 c2) (slB g3 c3) (slB g4 c4) v5 v6 (.slice (some ⟨g2',0,none⟩) (M.put.length+1) cap2)) 72 (0,0)):=heap_setCell_same _ _ _ _ _ _ hkb
    have hk3:=Keeps.setCell (F:=fun j=>j=k) w2 (p:=⟨k,9,none⟩) rfl (.slice (some ⟨g2',0,none⟩) (M.put.length+1) cap2)
    have hk23:Keeps (fun j=>(Value.slice pa M.put.length pc).ownBlock=some j∨j=k) wr (w2.setCell ⟨k,9,none⟩ (.slice (some ⟨g2',0,none⟩) (M.put.length+1) cap2)):=(hk2.mono (fun _ h=> .inl h)).trans hk3 (fun j h=> .inl (.inr h))
    have hil3:=hil2.keep hk3 (fun g hg e=>by
     obtain⟨cur,hc⟩:=owns_block hil2.own hg
     rw [e,hkb] at hc
     cases hc)
    have HR:Hid (MX (w2.setCell ⟨k,9,none⟩ (.slice (some ⟨g2',0,none⟩) (M.put.length+1) cap2)) (more X wr (w2.setCell ⟨k,9,none⟩ (.slice (some ⟨g2',0,none⟩) (M.put.length+1) cap2))) k {M with put:=M.put ++ [b]}∧Keeps X wr (w2.setCell ⟨k,9,none⟩ (.slice (some ⟨g2',0,none⟩) (M.put.length+1) cap2))):=by
     refine⟨⟨_,_,_,_,_,_,_,_,_,_,_,H.out.turn (Y:=more X wr _) (M':={M with put:=M.put ++ [b]}) hk23 (fun g hg=>?_) (fun _ h=> .inl h) hs ⟨hil3.own,fun g hg=>?_⟩ rfl rfl rfl rfl rfl rfl rfl⟩,hk23.mono (fun j hj=>?_)⟩
     ·rcases hg with hg|hg
      ·obtain⟨cur,hc⟩:=owns_block HL.out.own hg
       exact⟨_,_,_,hc,by decide,by decide,by decide⟩
      ·subst hg
       exact⟨_,_,_,H.out.b,by decide,by decide,by decide⟩
     ·exact(hil3.x g hg).imp (fun e=>e) (fun e=>⟨e,hil3.lt hg⟩)
     ·rcases hj with hj|hj
      ·exact HL.out.x j hj
      ·rw [hj]
       exact H.out.xk
    have c9':w2.cell? ⟨k,9,none⟩=some (.slice pa M.put.length pc):=cell_of_block hkb (j:=9) rfl
    have f9':=frozen_of_block hkb 9
    have HRun:=Hid.mk hrun
    rw [←HN.out] at HR HRun c9'
    clear hno hnm hkb hs hk3 hk23 hil3 hil2 hk2 hat hrun
    go_wp2_with (at_builtin;refine wpList_append_run rfl _ _ 26 rfl (.slice pa j pc) (.slice (some ⟨wr.heap.size,0,none⟩) 1 1) _ rfl rfl HRun.out ?_)
    go_ret
    rw [HE.out]
    exact⟨rfl,HR.out⟩
end
end Go.Proofs.YtkiehemoiapkkaaGreat
end
section
namespace Go.Proofs.YtkiehemoiapkkaaGreat
open Go.RowKit
def MO (w w':World) (X:Nat→Prop) (B k:Nat) (R:Int×MP) (e:Ending):Prop:=
 e= .returned (.int .i64 R.1)∧MX w' (fun j=>X j∨(B≤j∧j<w'.heap.size)) k R.2∧Keeps X w w'
def noBits:List Bool:=List.replicate 4096 false
def MP.clear (M:MP):Int×MP:=
 if M.state≠0 then (M.state,M) else if (M.lays 0 (lowB (2+M.nodes / 4))).1≠0 then M.lays 0 (lowB (2+M.nodes / 4)) else (M.lays 0 (lowB (2+M.nodes / 4))).2.lays 1 noBits
def MP.wmap (M:MP) (b:Nat) (d:List Int):Int×MP:=if M.state≠0 then (M.state,M) else M.lays b (blOf d)
theorem puts_len {M:MP} {b:Nat} (h:M.put.length≤16):(M.puts b).2.put.length≤16:=by
 unfold MP.puts
 split
 ·exact h
 ·split
  ·exact h
  ·simp
   omega
theorem lays_len {M:MP} {b:Nat} {l:List Bool} (h:M.put.length≤16):(M.lays b l).2.put.length≤16:=by
 have h2:=puts_len (b:=b) h
 unfold MP.lays
 repeat' split
 all_goals first|exact h|exact h2
theorem puts_nodes (M:MP) (b:Nat):(M.puts b).2.nodes=M.nodes:=by
 unfold MP.puts
 split
 ·rfl
 ·split <;> rfl
theorem lays_nodes (M:MP) (b:Nat) (l:List Bool):(M.lays b l).2.nodes=M.nodes:=by
 unfold MP.lays
 repeat' split
 all_goals first|rfl|exact puts_nodes M b
section
variable {w w':World} {X Y Z:Nat→Prop} {k g1 c1 g2 c2 g3 c3 g4 c4 g5 c5 g6 c6 B g' c':Nat} {v5 v6 v7:Value} {M:MP} {l lb ln:List Bool}
theorem MAt.now (h:MAt w X k g1 c1 g2 c2 g3 c3 g4 c4 v5 v6 v7 M) (hk:Keeps (fun j=>j=k) w w') (hY:∀j,X j→Y j)
    (hb:w'.heap[k]? =some (.cells (mpC {M with nb:=lb,nn:=ln} (slB g1 c1) (slB g2 c2) (slB g5 c5) (slB g6 c6) v5 v6 v7) 72 (0,0))) (h5:BX w Y g5 c5 lb) (h6:BX w Y g6 c6 ln) (n15:g1≠g5) (n16:g1≠g6) (n25:g2≠g5) (n26:g2≠g6) (n56:g5≠g6):
  MAt w' Y k g1 c1 g2 c2 g5 c5 g6 c6 v5 v6 v7 {M with nb:=lb,nn:=ln}:=by
 have hbl:=h.b
 have hb1:∀g,g=k→∃cur t fz,w.heap[g]? =some (.cells cur t fz)∧t≠4:=fun g hg=>by subst hg;exact⟨_,_,_,hbl,by decide⟩
 have hb2:∀g,g=k→∃cur t fz,w.heap[g]? =some (.cells cur t fz)∧t≠5∧t≠44:=fun g hg=>by subst hg;exact⟨_,_,_,hbl,by decide,by decide⟩
 have hil:IL w X v7 M.put:=⟨h.put.1,h.put.2⟩
 have hil2:=hil.keep hk (fun g hg e=>by
  obtain⟨cur,hc⟩:=owns_block hil.own hg
  rw [e,hbl] at hc
  cases hc)
 exact⟨hb,hY _ h.xk,⟨hY _ h.ob.1,h.ob.2.1.unlike hk hb1,h.ob.2.2⟩,⟨hY _ h.on.1,h.on.2.1.unlike hk hb1,h.on.2.2⟩,⟨h5.1,h5.2.1.unlike hk hb1,h5.2.2⟩,⟨h6.1,h6.2.1.unlike hk hb1,h6.2.2⟩,h.n12,n15,n16,n25,n26,n56,(h.oraw.keep hk hb2).mono hY,(h.raw.keep hk hb2).mono hY,⟨hil2.own,fun g hg=>hY _ (hil2.x g hg)⟩,h.own⟩
theorem MX.setNow (h:MX w Y k M) (hY:∀j,Y j→j≠g') (hr:RowAt w 4 g' c' (bls l)) (hl:l.length=4096) (b:Bool):
  ∃x y:Value,w.cell? ⟨k,if b then 6 else 5,none⟩=some x∧w.frozen? ⟨k,if b then 6 else 5,none⟩=false∧MX (w.setCell ⟨k,if b then 6 else 5,none⟩ (slB g' c')) (fun j=>Y j∨j=g') k (if b then {M with nn:=l} else {M with nb:=l})∧Keeps Y w (w.setCell ⟨k,if b then 6 else 5,none⟩ (slB g' c'))∧x=y:=by
 obtain⟨g1,c1,g2,c2,g3,c3,g4,c4,v5,v6,v7,h⟩:=h
 have hk:=Keeps.setCell (F:=fun j=>j=k) w (p:=⟨k,if b then 6 else 5,none⟩) rfl (slB g' c')
 have hkY:=hk.mono (G:=Y) (fun j e=>by rw [e];exact h.xk)
 cases b
 ·have hs:(w.setCell ⟨k,5,none⟩ (slB g' c')).heap[k]? =some (.cells (mpC {M with nb:=l,nn:=M.nn} (slB g1 c1) (slB g2 c2) (slB g' c') (slB g4 c4) v5 v6 v7) 72 (0,0)):=heap_setCell_same _ _ _ _ _ _ h.b
  exact⟨_,_,cell_of_block h.b (j:=5) rfl,frozen_of_block h.b 5,⟨_,_,_,_,_,_,_,_,_,_,_,h.now (Y:=fun j=>Y j∨j=g') hk (fun _ h=> .inl h) hs ⟨.inr rfl,hr,hl⟩ ⟨.inl h.nn.1,h.nn.2⟩ (hY _ h.ob.1) h.n14 (hY _ h.on.1) h.n24 (fun e=>hY _ h.nn.1 e.symm)⟩,hkY,rfl⟩
 ·have hs:(w.setCell ⟨k,6,none⟩ (slB g' c')).heap[k]? =some (.cells (mpC {M with nb:=M.nb,nn:=l} (slB g1 c1) (slB g2 c2) (slB g3 c3) (slB g' c') v5 v6 v7) 72 (0,0)):=heap_setCell_same _ _ _ _ _ _ h.b
  exact⟨_,_,cell_of_block h.b (j:=6) rfl,frozen_of_block h.b 6,⟨_,_,_,_,_,_,_,_,_,_,_,h.now (Y:=fun j=>Y j∨j=g') hk (fun _ h=> .inl h) hs ⟨.inl h.nb.1,h.nb.2⟩ ⟨.inr rfl,hr,hl⟩ h.n13 (hY _ h.ob.1) h.n23 (hY _ h.on.1) (hY _ h.nb.1)⟩,hkY,rfl⟩
theorem lays0_is (M:MP) (l:List Bool):M.lays 0 l=if M.nb=l then (0,M) else if (M.puts 0).1≠0 then M.puts 0 else (0,{(M.puts 0).2 with nb:=l}):=rfl
set_option maxRecDepth 20000 in
set_option maxHeartbeats 4000000 in
theorem lays0_any (h:MX w X k M) (hX:∀j,X j→j<B) (hB:B≤w.heap.size) (hg:B≤g') (hr:RowAt w 4 g' c' (bls l)) (hl:l.length=4096) (hp:M.put.length≤16):
  Calls Tryz.prog 31 #[.pointer (some ⟨k,0,none⟩), .int .i64 0,slB g' c'] w fun e w'=>MO w w' X B k (M.lays 0 l) e:=by
 have hpu:=fun (w1:World) (h1:MX w1 X k M)=>puts_any h1 0 hp
 rw [lays0_is]
 obtain⟨g1,c1,g2,c2,g3,c3,g4,c4,v5,v6,v7,hm⟩:=id h
 have c5':w.cell? ⟨k,5,none⟩=some (slB g3 c3):=cell_of_block hm.b (j:=5) rfl
 have c6':w.cell? ⟨k,6,none⟩=some (slB g4 c4):=cell_of_block hm.b (j:=6) rfl
 have ka:=alike_any hm.nb.2.1 hr hm.nb.2.2 hl
 have H:=Hid.mk h
 have HR:=Hid.mk (And.intro hr hX)
 clear h hr hm hX hp
 by_cases he:M.nb=l
 ·rw [decide_eq_true he] at ka
  rw [if_pos he]
  clear he hpu
  go_enter Tryz.func31,Tryz.ntmps31
  go_wp2_with fail
  refine ka.mono ?_
  rintro e w1 ⟨rfl,hb1⟩
  go_wp2
  go_ret
  exact⟨rfl,(H.out.later hb1).mono (fun _ h=> .inl h),Keeps.of_below _ hb1⟩
 ·rw [decide_eq_false he] at ka
  rw [if_neg he]
  clear he
  obtain⟨R,hR⟩:∃R,R=M.puts 0:=⟨_,rfl⟩
  rw [←hR] at hpu⊢
  by_cases h0:R.1=0
  ·rw [if_neg (fun e=>e h0)]
   go_enter Tryz.func31,Tryz.ntmps31
   go_wp2_with fail
   refine ka.mono ?_
   rintro e w1 ⟨rfl,hb1⟩
   have kp:Calls Tryz.prog 66 #[.pointer (some ⟨k,0,none⟩), .int .i64 0] w1 fun e w'=>e= .returned (.int .i64 0)∧MX w' (more X w1 w') k R.2∧Keeps X w1 w':=by have:=hpu w1 (H.out.later hb1);rw [h0] at this;exact this
   have HB:=Hid.mk hb1
   clear ka hb1 hpu c5' c6' hR h0
   go_wp2_with fail
   refine kp.mono ?_
   rintro e w2 ⟨rfl,hm2,hk2⟩
   have hgw:g'<w.heap.size:=HR.out.1.lt
   have hr2:=HR.out.1.agree ((hk2.block g' (Nat.lt_of_lt_of_le hgw HB.out.size) (fun e=>by have:=HR.out.2 _ e;omega)).trans (HB.out.block g' hgw))
   obtain⟨x,y,cx,fx,hmx,hkx,_⟩:=hm2.setNow (fun j hj e=>by
    rcases hj with hj|hj
    ·have:=HR.out.2 _ hj;omega
    ·have:=hj.1;have:=HB.out.size;omega) hr2 hl false
   have cx':w2.cell? ⟨k,5,none⟩=some x:=cx
   have fx':w2.frozen? ⟨k,5,none⟩=false:=fx
   have HE:Hid (MX (w2.setCell ⟨k,5,none⟩ (slB g' c')) (fun j=>X j∨(B≤j∧j<(w2.setCell ⟨k,5,none⟩ (slB g' c')).heap.size)) k {R.2 with nb:=l}∧Keeps X w (w2.setCell ⟨k,5,none⟩ (slB g' c'))):=by
    have z1:=HB.out.size
    have z2:=hk2.size
    have z3:w2.heap.size≤(w2.setCell ⟨k,5,none⟩ (slB g' c')).heap.size:=hkx.size
    refine⟨MX.mono hmx (fun j hj=>?_),((Keeps.of_below X HB.out).trans hk2 (fun _ h=> .inl h)).trans hkx (fun j hj=>hj.imp (fun e=>e) (fun e=>by have:=e.1;omega))⟩
    rcases hj with (hj|hj)|hj
    ·exact .inl hj
    ·exact .inr ⟨by have:=hj.1;omega,by have:=hj.2;omega⟩
    ·exact .inr ⟨by omega,by omega⟩
   clear kp hm2 hk2 hr2 hmx hkx cx fx HB
   go_wp2
   go_ret
   exact⟨rfl,HE.out⟩
  ·rw [if_pos h0]
   go_enter Tryz.func31,Tryz.ntmps31
   go_wp2_with fail
   refine ka.mono ?_
   rintro e w1 ⟨rfl,hb1⟩
   have kp:=hpu w1 (H.out.later hb1)
   have HB:=Hid.mk hb1
   clear ka hb1 hpu c5' c6' hR
   obtain⟨r,hr⟩:∃r,r=R.1:=⟨_,rfl⟩
   rw [←hr] at kp h0
   have HRR:=Hid.mk hr
   clear hr
   go_wp2_with fail
   refine kp.mono ?_
   rintro e w2 ⟨rfl,hm2,hk2⟩
   have HE:Hid (MX w2 (fun j=>X j∨(B≤j∧j<w2.heap.size)) k R.2∧Keeps X w w2):=by
    have z1:=HB.out.size
    refine⟨hm2.mono (fun j hj=>hj.imp (fun e=>e) (fun e=>⟨by have:=e.1;omega,e.2⟩)),(Keeps.of_below X HB.out).trans hk2 (fun _ h=> .inl h)⟩
   clear kp hm2 hk2 HB
   go_wp2
   go_ret
   exact⟨by rw [HRR.out];rfl,HE.out⟩
theorem lays1_is (M:MP) (l:List Bool):M.lays 1 l=if M.nn=l then (0,M) else if (M.puts 1).1≠0 then M.puts 1 else (0,{(M.puts 1).2 with nn:=l}):=rfl
set_option maxRecDepth 20000 in
set_option maxHeartbeats 4000000 in
theorem lays1_any (h:MX w X k M) (hX:∀j,X j→j<B) (hB:B≤w.heap.size) (hg:B≤g') (hr:RowAt w 4 g' c' (bls l)) (hl:l.length=4096) (hp:M.put.length≤16):
  Calls Tryz.prog 31 #[.pointer (some ⟨k,0,none⟩), .int .i64 1,slB g' c'] w fun e w'=>MO w w' X B k (M.lays 1 l) e:=by
 have hpu:=fun (w1:World) (h1:MX w1 X k M)=>puts_any h1 1 hp
 rw [lays1_is]
 obtain⟨g1,c1,g2,c2,g3,c3,g4,c4,v5,v6,v7,hm⟩:=id h
 have c5':w.cell? ⟨k,5,none⟩=some (slB g3 c3):=cell_of_block hm.b (j:=5) rfl
 have c6':w.cell? ⟨k,6,none⟩=some (slB g4 c4):=cell_of_block hm.b (j:=6) rfl
 have ka:=alike_any hm.nn.2.1 hr hm.nn.2.2 hl
 have H:=Hid.mk h
 have HR:=Hid.mk (And.intro hr hX)
 clear h hr hm hX hp
 by_cases he:M.nn=l
 ·rw [decide_eq_true he] at ka
  rw [if_pos he]
  clear he hpu
  go_enter Tryz.func31,Tryz.ntmps31
  go_wp2_with fail
  refine ka.mono ?_
  rintro e w1 ⟨rfl,hb1⟩
  go_wp2
  go_ret
  exact⟨rfl,(H.out.later hb1).mono (fun _ h=> .inl h),Keeps.of_below _ hb1⟩
 ·rw [decide_eq_false he] at ka
  rw [if_neg he]
  clear he
  obtain⟨R,hR⟩:∃R,R=M.puts 1:=⟨_,rfl⟩
  rw [←hR] at hpu⊢
  by_cases h0:R.1=0
  ·rw [if_neg (fun e=>e h0)]
   go_enter Tryz.func31,Tryz.ntmps31
   go_wp2_with fail
   refine ka.mono ?_
   rintro e w1 ⟨rfl,hb1⟩
   have kp:Calls Tryz.prog 66 #[.pointer (some ⟨k,0,none⟩), .int .i64 1] w1 fun e w'=>e= .returned (.int .i64 0)∧MX w' (more X w1 w') k R.2∧Keeps X w1 w':=by have:=hpu w1 (H.out.later hb1);rw [h0] at this;exact this
   have HB:=Hid.mk hb1
   clear ka hb1 hpu c5' c6' hR h0
   go_wp2_with fail
   refine kp.mono ?_
   rintro e w2 ⟨rfl,hm2,hk2⟩
   have hgw:g'<w.heap.size:=HR.out.1.lt
   have hr2:=HR.out.1.agree ((hk2.block g' (Nat.lt_of_lt_of_le hgw HB.out.size) (fun e=>by have:=HR.out.2 _ e;omega)).trans (HB.out.block g' hgw))
   obtain⟨x,y,cx,fx,hmx,hkx,_⟩:=hm2.setNow (fun j hj e=>by
    rcases hj with hj|hj
    ·have:=HR.out.2 _ hj;omega
    ·have:=hj.1;have:=HB.out.size;omega) hr2 hl true
   have cx':w2.cell? ⟨k,6,none⟩=some x:=cx
   have fx':w2.frozen? ⟨k,6,none⟩=false:=fx
   have HE:Hid (MX (w2.setCell ⟨k,6,none⟩ (slB g' c')) (fun j=>X j∨(B≤j∧j<(w2.setCell ⟨k,6,none⟩ (slB g' c')).heap.size)) k {R.2 with nn:=l}∧Keeps X w (w2.setCell ⟨k,6,none⟩ (slB g' c'))):=by
    have z1:=HB.out.size
    have z2:=hk2.size
    have z3:w2.heap.size≤(w2.setCell ⟨k,6,none⟩ (slB g' c')).heap.size:=hkx.size
    refine⟨MX.mono hmx (fun j hj=>?_),((Keeps.of_below X HB.out).trans hk2 (fun _ h=> .inl h)).trans hkx (fun j hj=>hj.imp (fun e=>e) (fun e=>by have:=e.1;omega))⟩
    rcases hj with (hj|hj)|hj
    ·exact .inl hj
    ·exact .inr ⟨by have:=hj.1;omega,by have:=hj.2;omega⟩
    ·exact .inr ⟨by omega,by omega⟩
   clear kp hm2 hk2 hr2 hmx hkx cx fx HB
   go_wp2
   go_ret
   exact⟨rfl,HE.out⟩
  ·rw [if_pos h0]
   go_enter Tryz.func31,Tryz.ntmps31
   go_wp2_with fail
   refine ka.mono ?_
   rintro e w1 ⟨rfl,hb1⟩
   have kp:=hpu w1 (H.out.later hb1)
   have HB:=Hid.mk hb1
   clear ka hb1 hpu c5' c6' hR
   obtain⟨r,hr⟩:∃r,r=R.1:=⟨_,rfl⟩
   rw [←hr] at kp h0
   have HRR:=Hid.mk hr
   clear hr
   go_wp2_with fail
   refine kp.mono ?_
   rintro e w2 ⟨rfl,hm2,hk2⟩
   have HE:Hid (MX w2 (fun j=>X j∨(B≤j∧j<w2.heap.size)) k R.2∧Keeps X w w2):=by
    have z1:=HB.out.size
    refine⟨hm2.mono (fun j hj=>hj.imp (fun e=>e) (fun e=>⟨by have:=e.1;omega,e.2⟩)),(Keeps.of_below X HB.out).trans hk2 (fun _ h=> .inl h)⟩
   clear kp hm2 hk2 HB
   go_wp2
   go_ret
   exact⟨by rw [HRR.out];rfl,HE.out⟩
end
end Go.Proofs.YtkiehemoiapkkaaGreat
end
section
namespace Go.Proofs.YtkiehemoiapkkaaGreat
open Go.RowKit
def lowTo (m:Nat):List Bool:=List.replicate m true ++ List.replicate (4096-m) false
theorem lowTo_zero:lowTo 0=List.replicate 4096 false:=by unfold lowTo;rw [List.replicate_zero,List.nil_append,Nat.sub_zero]
theorem lowTo_len {m:Nat} (hm:m≤4096):(lowTo m).length=4096:=by unfold lowTo;rw [List.length_append,List.length_replicate,List.length_replicate];omega
theorem lowTo_set {m:Nat} (hm:m<4096):(lowTo m).set m true=lowTo (m+1):=by
 unfold lowTo
 rw [List.set_append_right _ _ (by rw [List.length_replicate];exact Nat.le_refl _),List.length_replicate,Nat.sub_self,show 4096-m=(4096-(m+1))+1 by omega,List.replicate_succ,List.set_cons_zero,List.replicate_succ' (n:=m),List.append_assoc]
 rfl
theorem lowTo_get {m i:Nat} (hi:i<4096):(lowTo m).getD i false=decide (i<m):=by
 unfold lowTo
 by_cases h:i<m
 ·rw [List.getD,List.getElem?_append_left (by rw [List.length_replicate];exact h),List.getElem?_replicate,if_pos h]
  simp [h]
 ·rw [List.getD,List.getElem?_append_right (by rw [List.length_replicate];omega),List.length_replicate,List.getElem?_replicate,if_pos (by omega)]
  simp [h]
theorem lowTo_is {m:Nat} (hm:m≤4096):lowTo m=lowB m:=by
 apply List.ext_getElem ((lowTo_len hm).trans (lowB_len m).symm)
 intro i h1 h2
 have hi:i<4096:=by rw [lowB_len] at h2;exact h2
 have e1:=lowB_get m hi
 have e2:=lowTo_get (m:=m) hi
 rw [List.getD,List.getElem?_eq_getElem h2,Option.getD_some] at e1
 rw [List.getD,List.getElem?_eq_getElem h1,Option.getD_some] at e2
 rw [e1,e2]
section
variable {w w':World} {X Y Z:Nat→Prop} {k B g' c':Nat} {M:MP} {l:List Bool} {d:List Int}
theorem MX.lt (h:MX w X k M):MX w (fun j=>X j∧j<w.heap.size) k M:=by
 obtain⟨g1,c1,g2,c2,g3,c3,g4,c4,v5,v6,v7,h⟩:=h
 have hil:IL w X v7 M.put:=⟨h.put.1,h.put.2⟩
 exact⟨g1,c1,g2,c2,g3,c3,g4,c4,v5,v6,v7,h.b,⟨h.xk,lt_there h.b⟩,⟨⟨h.ob.1,h.ob.2.1.lt⟩,h.ob.2⟩,⟨⟨h.on.1,h.on.2.1.lt⟩,h.on.2⟩,⟨⟨h.nb.1,h.nb.2.1.lt⟩,h.nb.2⟩,⟨⟨h.nn.1,h.nn.2.1.lt⟩,h.nn.2⟩,h.n12,h.n13,h.n14,h.n23,h.n24,h.n34,h.oraw.bound,h.raw.bound,⟨h.put.1,fun g hg=>⟨h.put.2 g hg,hil.lt hg⟩⟩,h.own⟩
set_option maxRecDepth 20000 in
set_option maxHeartbeats 4000000 in
theorem mclear_any (h:MX w X k M) (hX:∀j,X j→j<w.heap.size) (hp:M.put.length≤16) (hn:M.nodes≤4096):
  Calls Tryz.prog 12 #[.pointer (some ⟨k,0,none⟩)] w fun e w'=>MO w w' X w.heap.size k M.clear e:=by
 have ks:=mstate_any h
 by_cases h0:M.state=0
 ·have hc:M.clear=if (M.lays 0 (lowB (2+M.nodes / 4))).1≠0 then M.lays 0 (lowB (2+M.nodes / 4)) else (M.lays 0 (lowB (2+M.nodes / 4))).2.lays 1 noBits:=by unfold MP.clear;rw [if_neg (fun e=>e h0)]
  rw [h0] at ks
  rw [hc]
  obtain⟨D,hD⟩:∃D,D=2+M.nodes / 4:=⟨_,rfl⟩
  have hD4:D≤4096:=by omega
  have c2':w.cell? ⟨k,2,none⟩=some (.int .i64 (D:Int)):=by
   obtain⟨g1,c1,g2,c2,g3,c3,g4,c4,v5,v6,v7,hm⟩:=h
   rw [hD]
   exact cell_of_block hm.b (j:=2) rfl
  rw [←hD]
  have hkl:k<w.heap.size:=by
   obtain⟨g1,c1,g2,c2,g3,c3,g4,c4,v5,v6,v7,hm⟩:=h
   exact lt_there hm.b
  obtain⟨R,hR⟩:∃R,R=M.lays 0 (lowB D):=⟨_,rfl⟩
  have HRp:Hid (R.2.put.length≤16):=by rw [hR];exact lays_len hp
  rw [←hR]
  have HR0:=Hid.mk hR
  have H:=Hid.mk (And.intro h (And.intro hX hp))
  clear h hX hc h0 hD hp hR
  go_enter Tryz.func12,Tryz.ntmps12
  go_wp2_with fail
  refine ks.mono ?_
  rintro e w0 ⟨rfl,hw0⟩
  have hw0':=hw0.symm
  subst hw0'
  clear hw0 ks
  have kn:=none_any w
  go_wp2_with fail
  refine kn.mono ?_
  rintro e w1 ⟨v,rfl,hbl,hb1⟩
  obtain⟨g,cg,hv,hg,hr⟩:=hbl.row (by simp)
  rw [List.length_replicate] at hv
  subst hv
  have hcg:4096≤cg:=by have:=hr.le;simpa [bls] using this
  have hcm:cg≤9223372036854775807:=by have:=hr.max;unfold maxLen at this;omega
  have HR:Hid (RowAt w1 4 g cg (bls (lowTo 0))∧Below w.heap.size w w1):=⟨by rw [lowTo_zero];exact hr,hb1⟩
  clear kn hbl hr hb1
  go_wp2
  go_loopw [5] (fun iv wr=>∃i:Nat,i≤D∧iv= .int .i64 (i:Int)∧RowAt wr 4 g cg (bls (lowTo i))∧Below w.heap.size w wr) (fun iv _=>D-(intOf iv).toNat)
  case atStart=>exact⟨0,Nat.zero_le _,rfl,HR.out⟩
  case round=>
   clear HR
   obtain⟨i,hi,rfl,hr,hb⟩:=hrel
   have c2'':=(World.cell?_of_block (w:=w) (a:=⟨k,2,none⟩) (hb.block k hkl)).trans c2'
   by_cases hlt:i<D
   ·have hlt':(i:Int)<(D:Int):=by omega
    have hi4:(i:Int)<4096:=by omega
    have hi0:(0:Int)≤(i:Int):=by omega
    have cm:=hr.truth (i:=i) (by rw [lowTo_len (by omega)];omega)
    have fm:=hr.thaw i
    have hset:=hr.setTruth i true
    rw [lowTo_set (by omega)] at hset
    have HE:=Hid.mk (And.intro hset (hb.trans ((Below.refl w.heap.size wr).setCell (p:=⟨g,i,none⟩) (by simpa using hg) (.bool true))))
    clear hr hb hset
    generalize (lowTo i).getD i false=z at*
    go_wp2
    go_roundw
    case rel=>exact⟨i+1,by omega,by go_num,HE.out⟩
    case measure=>simp [intOf];omega
   ·obtain rfl:i=D:=by omega
    have hlt':¬(i:Int)<(i:Int):=by omega
    rw [lowTo_is hD4] at hr
    have kl:=lays0_any (B:=w.heap.size) (H.out.1.apart (Keeps.of_below (fun _=>False) (show Below w.heap.size w wr from hb)) (fun _ h=>h.elim)) H.out.2.1 hb.size hg hr (lowB_len _) H.out.2.2
    have HB:=Hid.mk hb
    rw [←HR0.out] at kl
    clear hr hb
    by_cases hR0:R.1=0
    ·have HZ:=Hid.mk hR0
     unfold MO at kl
     rw [hR0] at kl
     clear hR0
     go_wp2_with fail
     refine kl.mono ?_
     rintro e w3 ⟨rfl,hm3,hk3⟩
     have kn2:=none_any w3
     have H3:=Hid.mk (And.intro hm3 hk3)
     clear kl hm3 hk3 c2''
     go_wp2_with fail
     refine kn2.mono ?_
     rintro e w4 ⟨v4,rfl,hbl4,hb4⟩
     obtain⟨g4,cg4,hv4,hg4,hr4⟩:=hbl4.row (by simp)
     rw [List.length_replicate] at hv4
     subst hv4
     have z0:=HB.out.size
     have z3:=H3.out.2.size
     have kl2:=lays1_any (B:=w3.heap.size) (H3.out.1.later hb4) (fun j hj=>by
      rcases hj with hj|hj
      ·have:=H.out.2.1 _ hj;omega
      ·exact hj.2) hb4.size hg4 (show RowAt w4 4 g4 cg4 (bls noBits) from hr4) (by unfold noBits;simp) HRp.out
     have HB4:=Hid.mk hb4
     clear kn2 hbl4 hb4 hr4
     go_wp2_with fail
     refine kl2.mono ?_
     rintro e w5 ⟨rfl,hm5,hk5⟩
     have HE:Hid (MX w5 (fun j=>X j∨(w.heap.size≤j∧j<w5.heap.size)) k (R.2.lays 1 noBits).2∧Keeps X w w5):=by
      have z4:=HB4.out.size
      have z5:=hk5.size
      refine⟨hm5.mono (fun j hj=>?_),(((Keeps.of_below X HB.out).trans H3.out.2 (fun _ h=> .inl h)).trans (Keeps.of_below (fun _=>False) HB4.out) (fun _ h=>h.elim)).trans hk5 (fun j hj=>hj.imp (fun e=>e) (fun e=>e.1))⟩
      rcases hj with (hj|hj)|hj
      ·exact .inl hj
      ·exact .inr ⟨hj.1,by have:=hj.2;omega⟩
      ·exact .inr ⟨by have:=hj.1;omega,hj.2⟩
     clear kl2 hm5 hk5 HB4 H3
     go_wp2
     go_ret
     try rw [if_neg (fun e=>e HZ.out)]
     exact⟨rfl,HE.out⟩
    ·have HZ:=Hid.mk hR0
     unfold MO at kl
     obtain⟨r,hr⟩:∃r,r=R.1:=⟨_,rfl⟩
     rw [←hr] at kl hR0
     have HRR:=Hid.mk hr
     clear hr
     go_wp2_with fail
     refine kl.mono ?_
     rintro e w3 ⟨rfl,hm3,hk3⟩
     have HE:Hid (MX w3 (fun j=>X j∨(w.heap.size≤j∧j<w3.heap.size)) k R.2∧Keeps X w w3):=⟨hm3,(Keeps.of_below X HB.out).trans hk3 (fun _ h=> .inl h)⟩
     clear kl hm3 hk3
     go_wp2
     go_ret
     try rw [if_pos HZ.out]
     exact⟨by rw [HRR.out];rfl,HE.out⟩
 ·have hc:M.clear=(M.state,M):=by unfold MP.clear;rw [if_pos h0]
  rw [hc]
  have H:=Hid.mk h
  clear h hX hc
  generalize M.state=x at*
  go_enter Tryz.func12,Tryz.ntmps12
  go_wp2_with fail
  refine ks.mono ?_
  rintro e w0 ⟨rfl,hw0⟩
  have hw0':=hw0.symm
  subst hw0'
  clear hw0 ks
  go_wp2
  go_ret
  exact⟨rfl,H.out.mono (fun _ h=> .inl h),Keeps.refl _ _⟩
end
end Go.Proofs.YtkiehemoiapkkaaGreat
end
section
namespace Go.Proofs.YtkiehemoiapkkaaGreat
open Go.RowKit
section
variable {w w':World} {X:Nat→Prop} {k:Nat} {M:MP} {d:List Int} {a:Option Addr} {c:Nat}
set_option maxRecDepth 20000 in
set_option maxHeartbeats 4000000 in
theorem mwmap_any (h:MX w X k M) (hX:∀j,X j→j<w.heap.size) (hp:M.put.length≤16) (hs:Src w a 512 d) (hd:Bytes d) (b:Nat) (hb:b=0∨b=1):
  Calls Tryz.prog 84 #[.pointer (some ⟨k,0,none⟩), .int .i64 (b:Int), .slice a 512 c] w fun e w'=>MO w w' X w.heap.size k (M.wmap b d) e:=by
 have ks:=mstate_any h
 have kf:=fromBytes_any (c:=c) hs hd
 by_cases h0:M.state=0
 ·have hc:M.wmap b d=M.lays b (blOf d):=by unfold MP.wmap;rw [if_neg (fun e=>e h0)]
  rw [h0] at ks
  rw [hc]
  obtain⟨R,hR⟩:∃R,R=M.lays b (blOf d):=⟨_,rfl⟩
  rw [←hR]
  have HR0:=Hid.mk hR
  have H:=Hid.mk (And.intro h (And.intro hX hp))
  clear h hX hc h0 hp hs hd hR
  have hbi:(b:Int)<2:=by omega
  go_enter Tryz.func84,Tryz.ntmps84
  go_wp2_with fail
  refine ks.mono ?_
  rintro e w0 ⟨rfl,hw0⟩
  have hw0':=hw0.symm
  subst hw0'
  clear hw0 ks
  go_wp2_with fail
  refine kf.mono ?_
  rintro e w1 ⟨g,c1,rfl,hg,hr,hb1⟩
  have kl:Calls Tryz.prog 31 #[.pointer (some ⟨k,0,none⟩), .int .i64 (b:Int),slB g c1] w1 fun e w'=>MO w1 w' X w.heap.size k R e:=by
   rw [HR0.out]
   rcases hb with rfl|rfl
   ·exact lays0_any (H.out.1.later hb1) H.out.2.1 hb1.size hg hr (blOf_len d) H.out.2.2
   ·exact lays1_any (H.out.1.later hb1) H.out.2.1 hb1.size hg hr (blOf_len d) H.out.2.2
  have HB:=Hid.mk hb1
  clear kf hr hb1
  go_wp2_with fail
  refine kl.mono ?_
  rintro e w2 ⟨rfl,hm2,hk2⟩
  have HE:=Hid.mk (And.intro hm2 ((Keeps.of_below X HB.out).trans hk2 (fun _ h=> .inl h)))
  clear kl hm2 hk2
  go_wp2
  go_ret
  exact⟨rfl,HE.out⟩
 ·have hc:M.wmap b d=(M.state,M):=by unfold MP.wmap;rw [if_pos h0]
  rw [hc]
  have H:=Hid.mk h
  clear h hX hc kf
  generalize M.state=x at*
  go_enter Tryz.func84,Tryz.ntmps84
  go_wp2_with fail
  refine ks.mono ?_
  rintro e w0 ⟨rfl,hw0⟩
  have hw0':=hw0.symm
  subst hw0'
  clear hw0 ks
  go_wp2
  go_ret
  exact⟨rfl,H.out.mono (fun _ h=> .inl h),Keeps.refl _ _⟩
def pad5 (l:List Int):List Int:=(List.range 512).map fun i=>l.getD i 0
theorem pad5_len (l:List Int):(pad5 l).length=512:=by simp [pad5]
theorem pad5_get (l:List Int) {i:Nat} (hi:i<512):(pad5 l).getD i 0=l.getD i 0:=by simp [pad5,List.getD,hi]
theorem pad5_bytes {l:List Int} (h:Bytes l):Bytes (pad5 l):=fun x hx=>by
 obtain⟨i,_,rfl⟩:=List.mem_map.1 hx
 exact getD_byte h i
set_option maxRecDepth 20000 in
set_option maxHeartbeats 4000000 in
theorem padded_any {n:Nat} {l:List Int} (hs:Src w a n l) (hn:n≤140737488355328):Calls Tryz.prog 83 #[.slice a n c] w fun e w'=>∃g c',e= .returned (.slice (some ⟨g,0,none⟩) 512 c')∧w.heap.size≤g∧RowAt w' 5 g c' (bs (pad5 l))∧Below w.heap.size w w':=by
 have HS:=Hid.mk hs
 have hln:l.length=n:=hs.1
 clear hs
 go_enter Tryz.func83,Tryz.ntmps83
 go_wp2
 go_loopw [3,4] (fun v iv wr=>∃j:Nat,j≤512∧iv= .int .i64 (j:Int)∧Own wr w.heap.size v ((pad5 l).take j)∧Below w.heap.size w wr) (fun _ iv _=>512-(intOf iv).toNat)
 case atStart=>exact⟨0,Nat.zero_le _,rfl,Own.nil _ _,Below.refl _ _⟩
 case round=>
  obtain⟨j,hj,rfl,hown,hbx⟩:=hrel
  have Hown:=Hid.mk hown
  have HBx:=Hid.mk hbx
  have hzx:=hbx.size
  clear hown hbx
  by_cases hlm:j<512
  ·have hlm':(j:Int)<512:=by omega
   have hll:((pad5 l).take j).length≤512:=by rw [List.length_take];omega
   have hsn:=take_snoc (pad5 l) j (by rw [pad5_len];exact hlm)
   rw [pad5_get l hlm] at hsn
   by_cases hjn:j<n
   ·have hjn':(j:Int)<(n:Int):=by omega
    cases a with
    |none=>have:=HS.out.2.1 rfl;omega
    |some y=>
    obtain⟨b,o,rfl,hc⟩:=HS.out.spot (by omega)
    have hc0:wr.cell? ⟨b,o+j,none⟩=some (.int .u8 (l.getD j 0)):=(World.cell?_of_block (w:=w) (a:=⟨b,o+j,none⟩) (HBx.out.block b (World.block_lt_of_cell? _ _ (hc j hjn)))).trans (hc j hjn)
    have HeN:=Hid.mk hsn
    clear hsn hc
    generalize l.getD j 0=x at*
    go_wp2_with (at_builtin;refine wpList_app1 rfl _ _ rfl w.heap.size u3 _ x rfl rfl Hown.out ?b1 ?b2 ?_)
    case b1=>omega
    case b2=>exact hzx
    intro v' w' ho hb'
    have HO:Hid (Own w' w.heap.size v' ((pad5 l).take (j+1))):=by rw [←HeN.out];exact ho
    have HB':=Hid.mk (HBx.out.trans hb')
    clear ho hb' Hown HBx HeN
    go_wp2
    go_roundw
    case rel=>exact⟨j+1,by omega,by go_num,HO.out,HB'.out⟩
    case measure=>simp [intOf];omega
   ·have hjn':¬(j:Int)<(n:Int):=by omega
    have hz:l.getD j 0=0:=by rw [List.getD,List.getElem?_eq_none (by omega)];rfl
    rw [hz] at hsn
    have HeN:=Hid.mk hsn
    clear hsn hz
    go_wp2_with (at_builtin;refine wpList_app1 rfl _ _ rfl w.heap.size u3 _ 0 rfl rfl Hown.out (by omega) hzx ?_)
    intro v' w' ho hb'
    have HO:Hid (Own w' w.heap.size v' ((pad5 l).take (j+1))):=by rw [←HeN.out];exact ho
    have HB':=Hid.mk (HBx.out.trans hb')
    clear ho hb' Hown HBx HeN
    go_wp2
    go_roundw
    case rel=>exact⟨j+1,by omega,by go_num,HO.out,HB'.out⟩
    case measure=>simp [intOf];omega
  ·have hlm':¬(j:Int)<512:=by omega
   have ho:=Hown.out
   rw [List.take_of_length_le (by rw [pad5_len];omega)] at ho
   obtain⟨g5,c5,e5,hg5,hr5⟩:=ho.row' (by rw [pad5_len];omega)
   rw [pad5_len] at e5
   subst e5
   have HE:=Hid.mk (And.intro hg5 hr5)
   clear Hown ho hg5 hr5
   go_wp2
   go_ret
   exact⟨g5,c5,rfl,HE.out.1,HE.out.2,HBx.out⟩
end
end Go.Proofs.YtkiehemoiapkkaaGreat
end
