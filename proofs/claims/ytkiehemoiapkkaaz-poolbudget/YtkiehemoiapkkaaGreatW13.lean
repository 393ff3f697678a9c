import Derived.Test.YtkiehemoiapkkaaGreatW01
import Derived.Test.YtkiehemoiapkkaaGreatW10
import Derived.Test.YtkiehemoiapkkaaGreatW12
import Derived.Laws.AppendOwn
import Derived.Lib.AppendStr
import Derived.OwnWalk
import Derived.Deep.RegionLaw
section
namespace Go.Proofs.YtkiehemoiapkkaaGreat
open Go.RowKit
theorem zero_cells (m:Nat):Builtin.zeroCells (Value.int .u8 0).cells m=(bs (List.replicate m 0)).toArray:=by
 apply Array.ext'
 apply List.ext_getElem
 ·simp [Builtin.zeroCells,bs,Value.cells]
 ·intro i h1 h2
  simp [Builtin.zeroCells,bs,Nat.mod_one,Value.cells]
theorem append_zeros (w:World) (base:Nat) (ty:TypeId) (v:Value) (n:Nat) (l:List Int) (m:Nat) (hown:w.ownsRow base 5 1 v n (bs l)) (hm:n+m≤1000000) (hbase:base≤w.heap.size) (hpos:0<n+m):
  ∃g c w',(Builtin.append_ #[44,3] ty #[v, .int .i64 (m:Int)]).run Tryz.prog w= .ok (.slice (some ⟨g,0,none⟩) (n+m) c) w'∧
   w'.ownsRow base 5 1 (.slice (some ⟨g,0,none⟩) (n+m) c) (n+m) (bs (l ++ List.replicate m 0))∧w.grownBy w' v.ownBlock:=by
 obtain⟨i,hi,hz0,hz1,hz2⟩:=info_parts infoU8
 have hll:(bs l).length=n:=by simpa using hown.1
 have hll':l.length=n:=by simpa [bs] using hll
 have hwr:IntKind.i64.wrap (m:Int)=(m:Int):=by rw [IntKind.wrap_i64];omega
 have h0:¬(m:Int)<0:=by omega
 have h48:¬(281474976710656<(m:Int)):=by omega
 have hai:∀w,(asInt (.int .i64 (m:Int))).run Tryz.prog w= .ok (m:Int) w:=fun _=>rfl
 have hbl:(bs (l ++ List.replicate m 0))=bs l ++ bs (List.replicate m 0):=by simp [bs]
 have fresh:∀(old:Nat) (row:Option Nat),
     (w.drew.alloc (.cells ((bs l).toArray ++ (bs (List.replicate m 0)).toArray ++ Builtin.zeroCells (Value.int .u8 0).cells (grownCap w (n+m) old 5-(n+m))) 5)).ownsRow base 5 1
      (.slice (some ⟨w.heap.size,0,none⟩) (n+m) (grownCap w (n+m) old 5)) (n+m) (bs (l ++ List.replicate m 0))∧
   w.grownBy (w.drew.alloc (.cells ((bs l).toArray ++ (bs (List.replicate m 0)).toArray ++ Builtin.zeroCells (Value.int .u8 0).cells (grownCap w (n+m) old 5-(n+m))) 5)) row:=by
  intro old row
  have hge:=grownCap_ge w (n+m) old 5
  have hcm:=grownCap_le_maxLen w (n+m) old 5 (by unfold maxLen;omega)
  refine⟨⟨by simp [bs,hll'], .inr ⟨w.heap.size,_,_,rfl,hbase,heap_alloc_new w.drew _,hge,hcm,?_,?_⟩⟩,⟨rfl,rfl,rfl,by simp,fun k hk _=>heap_alloc_old w.drew _ hk⟩⟩
  ·rw [zero_cells];simp [bs,hll'];omega
  ·rw [hbl]
   simp only [Array.toList_append,Nat.mul_one]
   exact List.take_left' (by simp [bs,hll'])
 rcases hown.2 with ⟨rfl,rfl⟩|⟨g,cap,cur,rfl,hbg,hg,hnc,hcm,hcs,htake⟩
 ·have hl0:=List.eq_nil_of_length_eq_zero hll'
  subst hl0
  have hm0:m≠0:=by omega
  have h1:¬(281474976710656<Builtin.nextslicecap m 0):=by rw [nextslicecap_zero (by omega)];omega
  obtain⟨f1,f2⟩:=fresh 0 (Value.ownBlock (.slice none 0 0))
  simp only [Nat.zero_add] at f1 f2⊢
  refine⟨w.heap.size,_,_,?_,f1,f2⟩
  have h63:¬9223372036854775807<(m:Int):=by omega
  simp [Builtin.append_,hai,sizeOf,typeInfo,zeroValue,hi,hz0,hz1,hz2,hwr,h0,h48,hm0,h1,h63,Question.forced,run_firstCells_none,newRow,grownCap,zero_cells]
 ·have hcs':cur.size=cap:=by simpa using hcs
  have ht':cur.toList.take n=bs l:=by simpa using htake
  by_cases hm0:m=0
  ·subst hm0
   have hai0:∀w,(asInt (.int .i64 0)).run Tryz.prog w= .ok 0 w:=fun _=>rfl
   have hwr0:IntKind.i64.wrap 0=0:=by decide
   have hst:(storeCells ⟨g,n,none⟩ []).run Tryz.prog w= .ok () w:=rfl
   refine⟨g,cap,w,?_,by simpa using hown,⟨rfl,rfl,rfl,Nat.le_refl _,fun _ _ _=>rfl⟩⟩
   simp [Builtin.append_,hai0,sizeOf,typeInfo,hi,hz1,hz2,hwr0,hnc,Addr.add_lit,hst]
  by_cases hroom:n+m≤cap
  ·refine⟨g,cap,w.setRow g (cur.toList.take n ++ bs (List.replicate m 0) ++ cur.toList.drop (n+m)).toArray,?_,⟨by simp [bs,hll'], .inr ⟨g,cap,_,rfl,hbg,setRow_heap w g cur _ 5 _ hg,hroom,hcm,?_,?_⟩⟩,⟨rfl,rfl,rfl,by simp,fun k _ hk=>setRow_other w g k _ (fun e=>hk (by simp [Value.ownBlock,e]))⟩⟩
   ·have hst:=run_storeCells_at Tryz.prog g n 5 (bs (List.replicate m 0)) 0 cur w hg (by simp [bs];omega) (by intro u hu;obtain⟨x,_,rfl⟩:=List.mem_map.1 hu;rfl)
    simp only [Nat.add_zero] at hst
    have hlr:(bs (List.replicate m 0)).length=m:=by simp [bs]
    rw [hlr] at hst
    have hzt:(Builtin.zeroCells (Value.int .u8 0).cells m).toList=bs (List.replicate m 0):=by rw [zero_cells]
    simp [Builtin.append_,hai,sizeOf,typeInfo,zeroValue,hi,hz0,hz1,hz2,hwr,h0,h48,hm0,hroom,Addr.add_lit]
    rw [hzt,hst]
    simp [bs]
   ·simp [bs];omega
   ·rw [ht',hbl]
    exact List.take_left' (by simp [bs,hll'])
  ·have hcn:cap<n+m:=by omega
   have h1:¬(281474976710656<Builtin.nextslicecap (n+m) cap):=by have:=growslice_fits (need:=n+m) (old:=cap) (bytes:=1) (by omega) (by omega);omega
   obtain⟨f1,f2⟩:=fresh cap (Value.ownBlock (.slice (some ⟨g,0,none⟩) n cap))
   refine⟨w.heap.size,_,_,?_,f1,f2⟩
   have h63:¬9223372036854775807<(n:Int)+(m:Int):=by omega
   simp [Builtin.append_,hai,sizeOf,typeInfo,zeroValue,hi,hz0,hz1,hz2,hwr,h0,h48,hm0,hroom,h1,h63,Question.forced,(run_firstCells_some (P:=Tryz.prog) w.drew 1 n ⟨g,0,none⟩ n cap (bs l) (by omega) (by simpa using (hown.cells (g:=g) rfl))),newRow,grownCap,zero_cells]
end Go.Proofs.YtkiehemoiapkkaaGreat
end
section
namespace Go.Proofs.YtkiehemoiapkkaaGreat
open Go.RowKit
theorem cleb_snoc:∀k m,leb (k+1) m=leb k m ++ [((m / 256 ^ k%256:Nat):Int)]
 |0,m=>by simp [leb]
 |k+1,m=>by
  rw [leb,cleb_snoc k (m / 256),leb]
  simp [Nat.div_div_eq_div_mul,Nat.pow_succ,Nat.mul_comm]
theorem cleb_bytes:∀k m,Bytes (leb k m)
 |0,_=>by intro x hx;cases hx
 |k+1,m=>by
  intro x hx
  rcases List.mem_cons.1 hx with rfl|hx
  ·omega
  ·exact cleb_bytes k _ x hx
def WAt (w:World) (B p:Nat) (l:List Int):Prop:=
 B≤p∧B≤w.heap.size∧∃v,w.heap[p]? =some (.cells #[v] 131 (0,0))∧w.ownsRow B 5 1 v l.length (bs l)∧v.ownBlock≠some p
theorem WAt.put {w w1:World} {B p:Nat} {l':List Int} {v:Value} {g c:Nat} (hB:B≤p) (hz:B≤w.heap.size) (hp:w.heap[p]? =some (.cells #[v] 131 (0,0))) (hn:v.ownBlock≠some p) (hlt:∀k,v.ownBlock=some k→B≤k)
    (hgrow:w.grownBy w1 v.ownBlock) (hown:w1.ownsRow B 5 1 (.slice (some ⟨g,0,none⟩) l'.length c) l'.length (bs l')):
  w1.cell? ⟨p,0,none⟩=some v∧w1.frozen? ⟨p,0,none⟩=false∧WAt (w1.setCell ⟨p,0,none⟩ (.slice (some ⟨g,0,none⟩) l'.length c)) B p l'∧Below B w (w1.setCell ⟨p,0,none⟩ (.slice (some ⟨g,0,none⟩) l'.length c)):=by
 have hp1:=(hgrow.block p ((Array.getElem?_eq_some_iff.1 hp).1) (fun e=>hn e.symm)).trans hp
 have hg:g≠p:=by
  obtain⟨g',c',hv,_,hr,_⟩:=RowAt.of_owns hown (by simp)
  cases hv
  exact hr.ne hp1 (by decide)
 refine⟨cell_of_block hp1 rfl,frozen_of_block hp1 0,⟨hB,?_,_,heap_setCell_same _ _ _ _ _ _ hp1,?_,?_⟩,?_⟩
 ·simp [World.setCell];exact Nat.le_trans hz hgrow.size
 ·exact hown.kept (grown_setCell w1 ⟨p,0,none⟩ _) (.inr (by simpa [Value.ownBlock] using hg))
 ·simpa [Value.ownBlock] using hg
 ·exact((Below.refl _ w).grown hgrow hz (fun k e=>hlt k e)).trans ((Keeps.setCell (F:=fun j=>j=p) (p:=⟨p,0,none⟩) w1 rfl _).below (fun j hj=>by omega) (Nat.le_trans hz hgrow.size))
set_option maxHeartbeats 4000000 in
theorem wnumber_any (p B:Nat) (l:List Int) (m width:Nat) (w:World) (h:WAt w B p l) (hl:l.length+width≤100000) (_hm:m≤9223372036854775807):
  Calls Tryz.prog 91 #[.pointer (some ⟨p,0,none⟩), .int .i64 (m:Int), .int .i64 (width:Int)] w fun e w'=>e= .returned (.tuple #[])∧WAt w' B p (l ++ leb width m)∧Below B w w':=by
 obtain⟨i0,hi,hz0,hz1,hz2⟩:=info_parts infoU8
 have H:=h
 clear h
 go_enter Tryz.func91,Tryz.ntmps91
 go_wp2
 go_loopw [1,7] (fun r i wr=>∃k:Nat,k≤width∧i= .int .i64 k∧r= .int .i64 ((m / 256 ^ k:Nat):Int)∧WAt wr B p (l ++ leb k m)∧Below B w wr) (fun _ i _=>width-(intOf i).toNat)
 case atStart=>exact⟨0,Nat.zero_le _,rfl,by simp,by simpa [leb] using H,Below.refl _ _⟩
 case round=>
  obtain⟨k,hk,rfl,rfl,hat,hbr⟩:=hrel
  by_cases hlt:k<width
  ·have hlt':(k:Int)<(width:Int):=by omega
   obtain⟨hB,hz,v,hp,hown,hn⟩:=hat
   have hcell:=cell_of_block hp (j:=0) rfl
   have hlen:(l ++ leb k m).length=l.length+k:=by simp [leb_len]
   rw [hlen] at hown
   have e1:m / 256 ^ (k+1)=m / 256 ^ k / 256:=by rw [Nat.div_div_eq_div_mul,Nat.pow_succ]
   have e2:=cleb_snoc k m
   generalize hQ:m / 256 ^ k=Q at*
   have Hown:=hown
   have Hp:=hp
   have HB:=hbr
   have Hn:=hn
   have He1:=e1
   have He2:=e2
   clear hown hp hbr hn hQ e1 e2
   go_wp2_with (at_builtin;refine wpList_append_own _ rfl _ _ 44 rfl B 5 i0 (.int .u8 0) 1 1 Tryz.underlying44 hi hz0 hz1 hz2 rfl (by decide) _ _ _ rfl (Hown.alloc _) ⟨wr.heap.size,0,none⟩ 1 1 [.int .u8 ((Q:Int)%256)] rfl rfl ?n1 ?n2 ?n3 ?n4 ?n5 ?_)
   case n1=>exact cell_one_new _ _ _
   case n2=>intro u hu;simp at hu;subst hu;rfl
   case n3=>unfold maxLen;omega
   case n4=>omega
   case n5=>simp;omega
   intro v' w1 hown' hgrow' hnil
   obtain⟨g,c,rfl,hg,hr,hlr⟩:=RowAt.of_owns hown' hnil
   have eN:List.map (Value.int .u8) l ++ (List.map (Value.int .u8) (leb k m) ++ [.int .u8 ((Q:Int)%256)])=bs (l ++ leb (k+1) m):=by
    rw [He2]
    simp [bs]
   have eL:l.length+k+1=(l ++ leb (k+1) m).length:=by simp [leb_len];omega
   rw [eN,eL] at hown'
   have hz':B≤(wr.alloc (.cells #[.int .u8 ((Q:Int)%256)] 5)).heap.size:=by simp;omega
   have hpl:=(Array.getElem?_eq_some_iff.1 Hp).1
   obtain⟨k1,k2,k3,k4⟩:=WAt.put hB hz' ((Below.heap_alloc _ _ _ hpl).trans Hp) Hn (fun k e=>(Hown.lt k e).1) hgrow' hown'
   rw [←eL] at k3 k4
   have HK:=(And.intro k3 (((HB.alloc hz _).trans k4)))
   clear hown' hgrow' hnil hr hg eN eL k3 k4 Hown Hp HB Hn He2
   go_wp2
   go_roundw
   case rel=>exact⟨k+1,by omega,by go_num,by rw [He1];simp,HK⟩
   case measure=>simp [intOf];omega
  ·have hlt':¬(k:Int)<(width:Int):=by omega
   have hkw:k=width:=by omega
   subst hkw
   have HH:=(And.intro hat hbr)
   clear hat hbr
   go_wp2
   go_end0
   exact⟨rfl,HH⟩
def txt (s:ByteArray):List Int:=s.data.toList.map (fun b=>(b.toNat:Int))
theorem txt_len (s:ByteArray):(txt s).length=s.size:=by simp [txt]
theorem txt_cells (s:ByteArray):Lib.strCells s=bs (txt s):=by simp [Lib.strCells,bs,txt]
set_option maxHeartbeats 4000000 in
theorem wtext_any (p B:Nat) (l:List Int) (s:ByteArray) (w:World) (h:WAt w B p l) (hs:0<s.size) (hl:l.length+s.size≤100000):
  Calls Tryz.prog 90 #[.pointer (some ⟨p,0,none⟩), .string s] w fun e w'=>e= .returned (.tuple #[])∧WAt w' B p (l ++ txt s)∧Below B w w':=by
 obtain⟨i0,hi,hz0,hz1,hz2⟩:=info_parts infoU8
 obtain⟨hB,hz,v,hp,hown,hn⟩:=h
 have hcell:=cell_of_block hp (j:=0) rfl
 have Hown:=hown
 have Hp:=hp
 have Hn:=hn
 clear hown hp hn
 go_enter Tryz.func90,Tryz.ntmps90
 go_wp2_with (at_builtin;refine Lib.wpList_append_own_string _ rfl _ _ 44 9 rfl B 5 i0 Tryz.underlying44 Tryz.underlying9 hi hz0 hz1 hz2 _ _ _ rfl Hown s rfl ?n3 ?n4 ?n5 ?_)
 case n3=>unfold maxLen;omega
 case n4=>omega
 case n5=>exact hz
 intro v' w1 hown' hgrow' hnil
 have hv:v'≠ .slice none 0 0:=by rintro rfl;rcases hown'.2 with ⟨_,h⟩|⟨_,_,_,h,_⟩;omega;cases h
 obtain⟨g,c,rfl,hg,hr,hlr⟩:=RowAt.of_owns hown' hv
 rw [txt_cells] at hown'
 have eN:bs l ++ bs (txt s)=bs (l ++ txt s):=by simp [bs]
 have eL:l.length+s.size=(l ++ txt s).length:=by simp [txt_len]
 rw [eN,eL] at hown'
 obtain⟨k1,k2,k3,k4⟩:=WAt.put hB hz Hp Hn (fun k e=>(Hown.lt k e).1) hgrow' hown'
 rw [←eL] at k3 k4
 have HK:=(And.intro k3 k4)
 clear hown' hgrow' hnil hr hg eN eL k3 k4 Hown Hp Hn hv hlr
 go_wp2
 go_end0
 exact⟨rfl,HK⟩
theorem step_zeros {ops:Array Oper} {o:Oper} {a:Act} {w:World} {K:Act→World→Prop} {Q:Exit→Act→World→Prop} {E:Prop}
    (hg:o.guard=none) (s x:Operand) (hop:o.op=Op.call {callee:=Callee.builtin Builtin.append,args:= #[s,x],argTypes:= #[44,3]})
    (base:Nat) (v:Value) (n:Nat) (l:List Int) (m:Nat) (hs:a.eval s=v) (hx:a.eval x= .int .i64 (m:Int)) (hown:w.ownsRow base 5 1 v n (bs l)) (hm:n+m≤1000000) (hbase:base≤w.heap.size) (hpos:0<n+m)
    (hK:∀g c w',w'.ownsRow base 5 1 (.slice (some ⟨g,0,none⟩) (n+m) c) (n+m) (bs (l ++ List.replicate m 0))→w.grownBy w' v.ownBlock→K (a.put o.dst (.slice (some ⟨g,0,none⟩) (n+m) c)) w'):
  if Region.wanted o (yielded ops a.tmps)=true then Oper.wp Tryz.prog o a w K Q else E:=by
 have hw:Region.wanted o (yielded ops a.tmps)=true:=by simp [Region.wanted,hg]
 rw [if_pos hw]
 obtain⟨g,c,w',hrun,r1,r2⟩:=append_zeros w base o.type v n l m hown hm hbase hpos
 unfold Oper.wp
 simp [execOp,hop,resolve,invoke,builtin,hs,hx,hrun,Result.andThen]
 exact hK g c w' r1 r2
set_option maxHeartbeats 4000000 in
theorem wzeros_any (p B:Nat) (l:List Int) (m:Nat) (w:World) (h:WAt w B p l) (hl0:0<l.length) (hl:l.length+m≤100000):
  Calls Tryz.prog 92 #[.pointer (some ⟨p,0,none⟩), .int .i64 ((l.length+m:Nat):Int)] w fun e w'=>e= .returned (.tuple #[])∧WAt w' B p (l ++ List.replicate m 0)∧Below B w w':=by
 obtain⟨hB,hz,v,hp,hown,hn⟩:=h
 obtain⟨g,c,hv,hgB,hr,_⟩:=RowAt.of_owns hown (by rintro rfl;rcases hown.2 with ⟨_,h⟩|⟨_,_,_,h,_⟩;omega;cases h)
 subst hv
 have hcell:=cell_of_block hp (j:=0) rfl
 have hdr:w.drew.ownsRow B 5 1 (.slice (some ⟨g,0,none⟩) l.length c) l.length (bs l):=hown
 have esub:((l.length+m:Nat):Int)-(l.length:Int)=(m:Int):=by omega
 have keyz:∀{g2 c2:Nat} {w2:World},w2.ownsRow B 5 1 (.slice (some ⟨g2,0,none⟩) (l.length+m) c2) (l.length+m) (bs (l ++ List.replicate m 0))→w.drew.grownBy w2 (Value.ownBlock (.slice (some ⟨g,0,none⟩) l.length c))→
   w2.cell? ⟨p,0,none⟩=some (.slice (some ⟨g,0,none⟩) l.length c)∧w2.frozen? ⟨p,0,none⟩=false∧Hid (WAt (w2.setCell ⟨p,0,none⟩ (.slice (some ⟨g2,0,none⟩) (l.length+m) c2)) B p (l ++ List.replicate m 0)∧Below B w (w2.setCell ⟨p,0,none⟩ (.slice (some ⟨g2,0,none⟩) (l.length+m) c2))):=by
  intro g2 c2 w2 hown2 hgrow2
  have eL:l.length+m=(l ++ List.replicate m (0:Int)).length:=by simp
  rw [eL] at hown2
  obtain⟨k1,k2,k3,k4⟩:=WAt.put (w:=w.drew) hB hz hp hn (fun k e=>(hown.lt k e).1) hgrow2 hown2
  rw [←eL] at k3 k4
  exact⟨k1,k2,k3,⟨k4.os,k4.tape,k4.output,k4.size,k4.block⟩⟩
 have hwm:IntKind.i64.wrap (m:Int)=(m:Int):=by rw [IntKind.wrap_i64];omega
 generalize hN:l.length+m=N at*
 go_enter Tryz.func92,Tryz.ntmps92
 go_wp2
 go_region_law
  (first
   |(refine step_zeros (by rfl) _ _ (by rfl) B (.slice (some ⟨g,0,none⟩) l.length c) l.length l m (by rfl) (by rfl) (Hid.mk hdr).out (by omega) hz (by omega) ?_;intro g2 c2 w2 hown2 hgrow2;obtain⟨k1,k2,k3⟩:=keyz (hN▸hown2) hgrow2))
 all_goals
  go_end0
  exact⟨rfl,k3.out⟩
end Go.Proofs.YtkiehemoiapkkaaGreat
end
section
namespace Go.Proofs.YtkiehemoiapkkaaGreat
open Go.RowKit
def Geo (s l n:Int):Prop:=(18≤l∧l≤256)∧(4≤n∧n≤1024)∧n%4=0∧(l+n / 4+6≤s∧s≤2048)
def planOut (s l n:Int) (v:Value) (x:Int):Prop:=
   (Geo s l n∧v= .agg #[.int .i64 l, .int .i64 (3+l), .int .i64 (s-(3+l)), .int .i64 n, .int .i64 (2+n / 4)]∧x=0)∨(¬Geo s l n∧v= .agg #[.int .i64 0, .int .i64 0, .int .i64 0, .int .i64 0, .int .i64 0]∧x=22)
theorem cbelow_two (w:World) (a b:Obj):Below w.heap.size w ((w.alloc a).alloc b):=Below.alloc (Below.alloc (Below.refl _ _) (Nat.le_refl _) _) (by simp) _
set_option maxHeartbeats 1000000 in
theorem plan_good (s l n:Int) (w:World) (l1:18≤l) (l2:l≤256) (n1:4≤n) (n2:n≤1024) (h3:n%4=0) (s1:l+n / 4+6≤s) (s2:s≤2048):
  Calls Tryz.prog 89 #[.agg #[.int .i64 s, .int .i64 l, .int .i64 n]] w fun e w'=>e= .returned (.tuple #[.agg #[.int .i64 l, .int .i64 (3+l), .int .i64 (s-(3+l)), .int .i64 n, .int .i64 (2+n / 4)], .int .i64 0])∧Below w.heap.size w w':=by
 have hm:n.tmod 4=n%4:=Int.tmod_eq_emod_of_nonneg (by omega)
 have hd:n.tdiv 4=n / 4:=Int.tdiv_eq_ediv_of_nonneg (by omega)
 have s3:3+l+(2+n / 4)+1≤s:=by omega
 go_enter Tryz.func89,Tryz.ntmps89
 go_wp2
 refine bodyPost_ret (v:= .tuple #[.agg #[.int .i64 l, .int .i64 (3+l), .int .i64 (s-(3+l)), .int .i64 n, .int .i64 (2+n / 4)], .int .i64 0]) (by simp [results,Tryz.results89,go_sem]) rfl ⟨rfl,cbelow_two w _ _⟩
set_option maxHeartbeats 1000000 in
theorem plan_badl (s l n:Int) (w:World) (h:¬(18≤l∧l≤256)):
  Calls Tryz.prog 89 #[.agg #[.int .i64 s, .int .i64 l, .int .i64 n]] w fun e w'=>e= .returned (.tuple #[.agg #[.int .i64 0, .int .i64 0, .int .i64 0, .int .i64 0, .int .i64 0], .int .i64 22])∧Below w.heap.size w w':=by
 by_cases h1:18≤l
 ·have h2:¬l≤256:=by omega
  go_enter Tryz.func89,Tryz.ntmps89
  go_wp2
  exact bodyPost_ret (v:= .tuple #[.agg #[.int .i64 0, .int .i64 0, .int .i64 0, .int .i64 0, .int .i64 0], .int .i64 22]) (by simp [results,Tryz.results89,go_sem]) rfl ⟨rfl,cbelow_two w _ _⟩
 ·have h3:l<18:=by omega
  go_enter Tryz.func89,Tryz.ntmps89
  go_wp2
  exact bodyPost_ret (v:= .tuple #[.agg #[.int .i64 0, .int .i64 0, .int .i64 0, .int .i64 0, .int .i64 0], .int .i64 22]) (by simp [results,Tryz.results89,go_sem]) rfl ⟨rfl,cbelow_two w _ _⟩
set_option maxHeartbeats 1000000 in
theorem plan_badn (s l n:Int) (w:World) (l1:18≤l) (l2:l≤256) (h:¬(4≤n∧n≤1024)):
  Calls Tryz.prog 89 #[.agg #[.int .i64 s, .int .i64 l, .int .i64 n]] w fun e w'=>e= .returned (.tuple #[.agg #[.int .i64 0, .int .i64 0, .int .i64 0, .int .i64 0, .int .i64 0], .int .i64 22])∧Below w.heap.size w w':=by
 by_cases h1:4≤n
 ·have h2:¬n≤1024:=by omega
  go_enter Tryz.func89,Tryz.ntmps89
  go_wp2
  exact bodyPost_ret (v:= .tuple #[.agg #[.int .i64 0, .int .i64 0, .int .i64 0, .int .i64 0, .int .i64 0], .int .i64 22]) (by simp [results,Tryz.results89,go_sem]) rfl ⟨rfl,cbelow_two w _ _⟩
 ·have h3:n<4:=by omega
  go_enter Tryz.func89,Tryz.ntmps89
  go_wp2
  exact bodyPost_ret (v:= .tuple #[.agg #[.int .i64 0, .int .i64 0, .int .i64 0, .int .i64 0, .int .i64 0], .int .i64 22]) (by simp [results,Tryz.results89,go_sem]) rfl ⟨rfl,cbelow_two w _ _⟩
set_option maxHeartbeats 1000000 in
theorem plan_badm (s l n:Int) (w:World) (l1:18≤l) (l2:l≤256) (n1:4≤n) (n2:n≤1024) (h:¬n%4=0):
  Calls Tryz.prog 89 #[.agg #[.int .i64 s, .int .i64 l, .int .i64 n]] w fun e w'=>e= .returned (.tuple #[.agg #[.int .i64 0, .int .i64 0, .int .i64 0, .int .i64 0, .int .i64 0], .int .i64 22])∧Below w.heap.size w w':=by
 have hm:n.tmod 4=n%4:=Int.tmod_eq_emod_of_nonneg (by omega)
 have h3':(n%4 != 0)=true:=by rw [bne_iff_ne];exact h
 go_enter Tryz.func89,Tryz.ntmps89
 go_wp2
 exact bodyPost_ret (v:= .tuple #[.agg #[.int .i64 0, .int .i64 0, .int .i64 0, .int .i64 0, .int .i64 0], .int .i64 22]) (by simp [results,Tryz.results89,go_sem]) rfl ⟨rfl,cbelow_two w _ _⟩
set_option maxHeartbeats 1000000 in
theorem plan_bads (s l n:Int) (w:World) (l1:18≤l) (l2:l≤256) (n1:4≤n) (n2:n≤1024) (h3:n%4=0) (h:¬(l+n / 4+6≤s∧s≤2048)):
  Calls Tryz.prog 89 #[.agg #[.int .i64 s, .int .i64 l, .int .i64 n]] w fun e w'=>e= .returned (.tuple #[.agg #[.int .i64 0, .int .i64 0, .int .i64 0, .int .i64 0, .int .i64 0], .int .i64 22])∧Below w.heap.size w w':=by
 have hm:n.tmod 4=n%4:=Int.tmod_eq_emod_of_nonneg (by omega)
 have hd:n.tdiv 4=n / 4:=Int.tdiv_eq_ediv_of_nonneg (by omega)
 by_cases h1:3+l+(2+n / 4)+1≤s
 ·have h2:¬s≤2048:=by omega
  go_enter Tryz.func89,Tryz.ntmps89
  go_wp2
  exact bodyPost_ret (v:= .tuple #[.agg #[.int .i64 0, .int .i64 0, .int .i64 0, .int .i64 0, .int .i64 0], .int .i64 22]) (by simp [results,Tryz.results89,go_sem]) rfl ⟨rfl,cbelow_two w _ _⟩
 ·have h4:s<3+l+(2+n / 4)+1:=by omega
  by_cases h2:2048<s
  ·omega
  ·clear h
   go_enter Tryz.func89,Tryz.ntmps89
   go_wp2
   exact bodyPost_ret (v:= .tuple #[.agg #[.int .i64 0, .int .i64 0, .int .i64 0, .int .i64 0, .int .i64 0], .int .i64 22]) (by simp [results,Tryz.results89,go_sem]) rfl ⟨rfl,cbelow_two w _ _⟩
theorem plan_any (s l n:Int) (w:World):
  Calls Tryz.prog 89 #[.agg #[.int .i64 s, .int .i64 l, .int .i64 n]] w fun e w'=>∃v x,e= .returned (.tuple #[v, .int .i64 x])∧planOut s l n v x∧Below w.heap.size w w':=by
 have bad:¬Geo s l n→∀(e:Ending) (w':World),(e= .returned (.tuple #[.agg #[.int .i64 0, .int .i64 0, .int .i64 0, .int .i64 0, .int .i64 0], .int .i64 22])∧Below w.heap.size w w')→∃v x,e= .returned (.tuple #[v, .int .i64 x])∧planOut s l n v x∧Below w.heap.size w w':=
  fun hn e w' h=>⟨_,_,h.1, .inr ⟨hn,rfl,rfl⟩,h.2⟩
 by_cases h1:18≤l∧l≤256
 ·by_cases h2:4≤n∧n≤1024
  ·by_cases h3:n%4=0
   ·by_cases h4:l+n / 4+6≤s∧s≤2048
    ·exact(plan_good s l n w h1.1 h1.2 h2.1 h2.2 h3 h4.1 h4.2).mono (fun e w' h=>⟨_,_,h.1, .inl ⟨⟨h1,h2,h3,h4⟩,rfl,rfl⟩,h.2⟩)
    ·exact(plan_bads s l n w h1.1 h1.2 h2.1 h2.2 h3 h4).mono (bad (fun g=>h4 g.2.2.2))
   ·exact(plan_badm s l n w h1.1 h1.2 h2.1 h2.2 h3).mono (bad (fun g=>h3 g.2.2.1))
  ·exact(plan_badn s l n w h1.1 h1.2 h2).mono (bad (fun g=>h2 g.2.1))
 ·exact(plan_badl s l n w h1).mono (bad (fun g=>h1 g.1))
end Go.Proofs.YtkiehemoiapkkaaGreat
end
section
namespace Go.Proofs.YtkiehemoiapkkaaGreat
open Go.RowKit
theorem WAt.far {w w':World} {B p:Nat} {l:List Int} (h:WAt w B p l) (hb:Below w.heap.size w w'):WAt w' B p l:=by
 obtain⟨hB,hz,v,hp,hown,hn⟩:=h
 exact⟨hB,Nat.le_trans hz hb.size,v,(hb.block p ((Array.getElem?_eq_some_iff.1 hp).1)).trans hp,hown.kept (row:=none) ⟨hb.os,hb.tape,hb.output,hb.size,fun k hk _=>hb.block k hk⟩ (by cases hv:v.ownBlock <;> simp),hn⟩
theorem WAt.new (w:World):WAt (w.alloc (.cells #[.slice none 0 0] 131)) w.heap.size w.heap.size []:=
   ⟨Nat.le_refl _,by simp,_,heap_alloc_new w _,World.ownsRow_nil _ _ _ _,by simp [Value.ownBlock]⟩
theorem WAt.row {w:World} {B p:Nat} {l:List Int} (h:WAt w B p l) (h0:0<l.length):∃g c,w.cell? ⟨p,0,none⟩=some (.slice (some ⟨g,0,none⟩) l.length c)∧B≤g∧RowAt w 5 g c (bs l):=by
 obtain⟨hB,hz,v,hp,hown,hn⟩:=h
 obtain⟨g,c,hv,hgB,hr,_⟩:=RowAt.of_owns hown (by rintro rfl;rcases hown.2 with ⟨_,h⟩|⟨_,_,_,h,_⟩;omega;cases h)
 subst hv
 exact⟨g,c,cell_of_block hp rfl,hgB,hr⟩
def sealed (l:List Int):List Int:=l ++ leb 4 (sumOf l)
theorem sealed_len (l:List Int):(sealed l).length=l.length+4:=by simp [sealed,leb_len]
set_option maxHeartbeats 2000000 in
theorem wsummed_any (p B:Nat) (l:List Int) (w:World) (h:WAt w B p l) (h0:0<l.length) (hl:l.length+4≤100000) (hb:Bytes l):
  Calls Tryz.prog 93 #[.pointer (some ⟨p,0,none⟩)] w fun e w'=>∃g c,e= .returned (.slice (some ⟨g,0,none⟩) (l.length+4) c)∧B≤g∧RowAt w' 5 g c (bs (sealed l))∧Below B w w':=by
 obtain⟨g,c,hcell,hg,hr⟩:=h.row h0
 have hz:=h.2.1
 have hsum:=sum_any (some ⟨g,0,none⟩) l.length c l w hb (by omega) hr.src
 have hs:=sumOf_lt hb
 have hS:=(show sealed l=l ++ leb 4 (sumOf l) from rfl)
 generalize sumOf l=S at*
 go_enter Tryz.func93,Tryz.ntmps93
 go_wp2_with fail
 refine hsum.mono ?_
 rintro e w1 ⟨rfl,hb1⟩
 have hnum:Calls Tryz.prog 91 #[.pointer (some ⟨p,0,none⟩), .int .i64 (S:Int), .int .i64 4] w1 fun e w'=>e= .returned (.tuple #[])∧WAt w' B p (l ++ leb 4 S)∧Below B w1 w':=wnumber_any p B l S 4 w1 (h.far hb1) hl (by omega)
 have HB1:=hb1.mono hz
 go_wp2_with fail
 refine hnum.mono ?_
 rintro e w2 ⟨rfl,hat2,hb2⟩
 obtain⟨g2,c2,hcell2,hg2,hr2⟩:=hat2.row (by simp [leb_len])
 have eL:(l ++ leb 4 S).length=l.length+4:=by simp [leb_len]
 rw [eL] at hcell2
 have HF:(B≤g2∧RowAt w2 5 g2 c2 (bs (sealed l))∧Below B w w2):=⟨hg2,by rw [hS];exact hr2,HB1.trans hb2⟩
 go_wp2
 go_ret
 exact⟨g2,c2,rfl,HF⟩
def headB:ByteArray:=⟨#[118,101,108,108,117,109,0,1]⟩
def headL:List Int:= [118,101,108,108,117,109,0,1]
theorem head_txt:txt headB=headL:=by decide+kernel
def supBody (s l n:Nat):List Int:=headL ++ leb 4 s ++ leb 4 l ++ leb 4 n ++ List.replicate 488 0
theorem supBody_len (s l n:Nat):(supBody s l n).length=508:=by simp only [supBody,headL,List.length_append,leb_len,List.length_replicate,List.length_cons,List.length_nil]
theorem supBody_bytes (s l n:Nat):Bytes (supBody s l n):=by
 intro x hx
 simp only [supBody,List.mem_append] at hx
 rcases hx with (((h|h)|h)|h)|h
 ·simp [headL] at h;omega
 ·exact cleb_bytes _ _ x h
 ·exact cleb_bytes _ _ x h
 ·exact cleb_bytes _ _ x h
 ·have:=List.eq_of_mem_replicate h;omega
def Made (w w':World) (v:Value) (l:List Int):Prop:=∃g c,v= .slice (some ⟨g,0,none⟩) l.length c∧w.heap.size≤g∧RowAt w' 5 g c (bs l)∧Below w.heap.size w w'
set_option maxHeartbeats 4000000 in
theorem encsuper_ok (s l n:Nat) (w:World) (hg:Geo s l n):
  Calls Tryz.prog 45 #[.agg #[.int .i64 (s:Int), .int .i64 (l:Int), .int .i64 (n:Int)]] w fun e w'=>∃v,e= .returned (.tuple #[v, .int .i64 0])∧Made w w' v (sealed (supBody s l n)):=by
 obtain⟨⟨l1,l2⟩,⟨n1,n2⟩,h3,s1,s2⟩:=hg
 go_enter Tryz.func45,Tryz.ntmps45
 go_wp2_with fail
 refine((fun w=>plan_good s l n w l1 l2 n1 n2 h3 s1 s2) _).mono ?_
 rintro e w1 ⟨rfl,hb1⟩
 have hB1:=((Below.refl _ w).alloc (Nat.le_refl _) _).trans (hb1.mono (by simp))
 have hq:w1.heap[w.heap.size]? =some (.cells #[.int .i64 (s:Int), .int .i64 (l:Int), .int .i64 (n:Int)] 31 (0,0)):=(hb1.block _ (by simp)).trans (heap_alloc_new _ _)
 have hql:=(Array.getElem?_eq_some_iff.1 hq).1
 have hnew:=fun o=>by have:=WAt.new (w1.alloc o);simpa using this
 have hold:∀o,Below w.heap.size w ((w1.alloc o).alloc (.cells #[.slice none 0 0] 131))∧((w1.alloc o).alloc (.cells #[.slice none 0 0] 131)).heap[w.heap.size]? =some (.cells #[.int .i64 (s:Int), .int .i64 (l:Int), .int .i64 (n:Int)] 31 (0,0)):=fun o=>
    ⟨(hB1.alloc (by omega) _).alloc (by simp;omega) _,(Below.heap_alloc _ _ _ (by simp;omega)).trans ((Below.heap_alloc _ _ _ hql).trans hq)⟩
 have hlt:w.heap.size<w1.heap.size+1:=by omega
 go_wp2_with fail
 refine((fun o=>wtext_any (w1.heap.size+1) (w1.heap.size+1) [] headB _ (hnew o) (by decide) (by decide)) _).mono ?_
 rintro e w2 ⟨rfl,hat2,hb2⟩
 obtain⟨hB2,hq2⟩:Below w.heap.size w w2∧w2.heap[w.heap.size]? =some (.cells #[.int .i64 (s:Int), .int .i64 (l:Int), .int .i64 (n:Int)] 31 (0,0)):=⟨(hold _).1.trans (hb2.mono (by omega)),(hb2.block _ hlt).trans (hold _).2⟩
 rw [head_txt,List.nil_append] at hat2
 have c2:=cell_of_block hq2 (j:=0) rfl
 have hn2:Calls Tryz.prog 91 #[.pointer (some ⟨w1.heap.size+1,0,none⟩), .int .i64 (s:Int), .int .i64 4] w2 fun e w'=>e= .returned (.tuple #[])∧WAt w' (w1.heap.size+1) (w1.heap.size+1) (headL ++ leb 4 s)∧Below (w1.heap.size+1) w2 w':=wnumber_any _ _ _ s 4 w2 hat2 (by decide) (by omega)
 go_wp2_with fail
 refine hn2.mono ?_
 rintro e w3 ⟨rfl,hat3,hb3⟩
 obtain⟨hB3,hq3⟩:Below w.heap.size w w3∧w3.heap[w.heap.size]? =some (.cells #[.int .i64 (s:Int), .int .i64 (l:Int), .int .i64 (n:Int)] 31 (0,0)):=⟨hB2.trans (hb3.mono (by omega)),(hb3.block _ hlt).trans hq2⟩
 have c3:=cell_of_block hq3 (j:=1) rfl
 have hn3:Calls Tryz.prog 91 #[.pointer (some ⟨w1.heap.size+1,0,none⟩), .int .i64 (l:Int), .int .i64 4] w3 fun e w'=>e= .returned (.tuple #[])∧WAt w' (w1.heap.size+1) (w1.heap.size+1) (headL ++ leb 4 s ++ leb 4 l)∧Below (w1.heap.size+1) w3 w':=wnumber_any _ _ _ l 4 w3 hat3 (by rw [List.length_append,leb_len];decide) (by omega)
 go_wp2_with fail
 refine hn3.mono ?_
 rintro e w4 ⟨rfl,hat4,hb4⟩
 obtain⟨hB4,hq4⟩:Below w.heap.size w w4∧w4.heap[w.heap.size]? =some (.cells #[.int .i64 (s:Int), .int .i64 (l:Int), .int .i64 (n:Int)] 31 (0,0)):=⟨hB3.trans (hb4.mono (by omega)),(hb4.block _ hlt).trans hq3⟩
 have c4:=cell_of_block hq4 (j:=2) rfl
 have hn4:Calls Tryz.prog 91 #[.pointer (some ⟨w1.heap.size+1,0,none⟩), .int .i64 (n:Int), .int .i64 4] w4 fun e w'=>e= .returned (.tuple #[])∧WAt w' (w1.heap.size+1) (w1.heap.size+1) (headL ++ leb 4 s ++ leb 4 l ++ leb 4 n)∧Below (w1.heap.size+1) w4 w':=wnumber_any _ _ _ n 4 w4 hat4 (by rw [List.length_append,List.length_append,leb_len,leb_len];decide) (by omega)
 go_wp2_with fail
 refine hn4.mono ?_
 rintro e w5 ⟨rfl,hat5,hb5⟩
 have e20:(headL ++ leb 4 s ++ leb 4 l ++ leb 4 n).length=20:=by rw [List.length_append,List.length_append,List.length_append,leb_len,leb_len,leb_len];rfl
 have hn5:Calls Tryz.prog 92 #[.pointer (some ⟨w1.heap.size+1,0,none⟩), .int .i64 508] w5 fun e w'=>e= .returned (.tuple #[])∧WAt w' (w1.heap.size+1) (w1.heap.size+1) (supBody s l n)∧Below (w1.heap.size+1) w5 w':=by
  have:=wzeros_any _ _ _ 488 w5 hat5 (by rw [e20];decide) (by rw [e20];decide)
  rw [e20] at this
  exact this
 go_wp2_with fail
 refine hn5.mono ?_
 rintro e w6 ⟨rfl,hat6,hb6⟩
 have hn6:=wsummed_any _ _ _ w6 hat6 (by rw [supBody_len];decide) (by rw [supBody_len];decide) (supBody_bytes s l n)
 rw [supBody_len] at hn6
 go_wp2_with fail
 refine hn6.mono ?_
 rintro e w7 ⟨g,c,rfl,hg,hr,hb7⟩
 have HF:(Made w w7 (.slice (some ⟨g,0,none⟩) 512 c) (sealed (supBody s l n))):=⟨g,c,by rw [sealed_len,supBody_len],by omega,hr,((hB4.trans (hb5.mono (by omega))).trans (hb6.mono (by omega))).trans (hb7.mono (by omega))⟩
 go_wp2
 go_ret2
 exact⟨_,rfl,HF⟩
set_option maxHeartbeats 2000000 in
theorem encsuper_bad (s l n:Int) (w:World) (hg:¬Geo s l n):
  Calls Tryz.prog 45 #[.agg #[.int .i64 s, .int .i64 l, .int .i64 n]] w fun e w'=>e= .returned (.tuple #[.slice none 0 0, .int .i64 22])∧Below w.heap.size w w':=by
 have hp:∀w,Calls Tryz.prog 89 #[.agg #[.int .i64 s, .int .i64 l, .int .i64 n]] w fun e w'=>e= .returned (.tuple #[.agg #[.int .i64 0, .int .i64 0, .int .i64 0, .int .i64 0, .int .i64 0], .int .i64 22])∧Below w.heap.size w w':=fun w=>by
  refine(plan_any s l n w).mono ?_
  rintro e w' ⟨v,x,rfl,⟨h,_⟩|⟨_,rfl,rfl⟩,hb⟩
  ·exact absurd h hg
  ·exact⟨rfl,hb⟩
 go_enter Tryz.func45,Tryz.ntmps45
 go_wp2_with fail
 refine(hp _).mono ?_
 rintro e w1 ⟨rfl,hb1⟩
 have hB1:=((Below.refl _ w).alloc (Nat.le_refl _) _).trans (hb1.mono (by simp))
 go_wp2
 go_ret2
 exact⟨rfl,(fun o=>hB1.alloc hB1.size o) _⟩
end Go.Proofs.YtkiehemoiapkkaaGreat
end
section
namespace Go.Proofs.YtkiehemoiapkkaaGreat
open Go.RowKit Go.Maps
abbrev supOf (s l n:Nat):List Int:=sealed (supBody s l n)
def fmt1 (S:DS) (s:Nat):Int×DS:=swipe S.take s 0 1
def fmt2 (S:DS) (s:Nat):Int×DS:=swipe (fmt1 S s).2 s 1 (s-1)
def fmt3 (S:DS) (s l:Nat):Int×DS:=lformat (fmt2 S s).2 s 1 (l:Int)
def fmt4 (S:DS) (s l n:Nat):Int×DS:=(fmt3 S s l).2.wr s 0 512 (supOf s l n)
def sformed (S:DS) (s l n:Nat):Int×DS:=
 if (fmt1 S s).1≠0 then fmt1 S s else if (fmt2 S s).1≠0 then fmt2 S s else if (fmt3 S s l).1≠0 then fmt3 S s l else if (fmt4 S s l n).1≠0 then fmt4 S s l n else (fmt4 S s l n).2.fl s
def geoDec (a b c:Int):Decidable (Geo a b c):=by unfold Geo;exact inferInstance
def sformat (S:DS) (s:Nat) (a b c:Int):Int×DS:=
 if S.fuse=0 then (3,S) else haveI:=geoDec a b c;if Geo a b c∧a=(s:Int) then sformed S s b.toNat c.toNat else (22,S)
section
variable {w:World} {F:Nat→Prop} {p s cR:Nat} {S:DS}
theorem geo_nat {a b c:Int} (h:Geo a b c):∃x y z:Nat,a=(x:Int)∧b=(y:Int)∧c=(z:Int):=by
 obtain⟨⟨l1,l2⟩,⟨n1,n2⟩,h3,s1,s2⟩:=h
 exact⟨a.toNat,b.toNat,c.toNat,by omega,by omega,by omega⟩
theorem swipe_byt {S:DS} (h:S.Byt) (s a n:Nat):(swipe S s a n).2.Byt:=by
 have h1:=sbring_byt h s a (ms:=zrow n) (fun x hx=>by
  unfold zrow at hx
  obtain⟨i,_,rfl⟩:=List.mem_map.1 hx
  intro v hv
  rw [zs,List.mem_replicate] at hv
  omega)
 unfold swipe
 split
 ·exact h1
 ·exact h1.fl s
theorem step_fr {w0 w1 w2:World} {c:Nat} {S':DS} (hl:∀k,F k→k<w0.heap.size) (hk0:Keeps F w0 w1) (hd:B.DiskR w2 (more (more F w0 w1) w1 w2) p s S' c) (hk:Keeps (more F w0 w1) w1 w2):B.DiskR w2 (more F w0 w2) p s S' c∧Keeps F w0 w2:=
   ⟨hd.mono (more_more hk0.size hk.size) (more_lt hl (Nat.le_trans hk0.size hk.size)),hk0.trans hk (fun _k h=>h.elim .inl (fun h=> .inr h.1))⟩
theorem step_fl {w0 w1 w2:World} {c:Nat} {S':DS} (hl:∀k,F k→k<w0.heap.size) (hk0:Keeps F w0 w1) (hd:B.DiskR w2 (more F w0 w1) p s S' c) (hk:Keeps (more F w0 w1) w1 w2):B.DiskR w2 (more F w0 w2) p s S' c∧Keeps F w0 w2:=by
 have h1:=hk.size
 exact⟨hd.mono (fun k h=>h.elim .inl (fun h=> .inr ⟨h.1,by omega⟩)) (more_lt hl (Nat.le_trans hk0.size hk.size)),hk0.trans hk (fun k h=>h.elim .inl (fun h=> .inr h.1))⟩
theorem exit_fr {w0 w1:World} {c c':Nat} {S':DS} (hl:∀k,F k→k<w.heap.size) (hk0:Keeps F w w0) (h:B.DiskR w1 (more F w0 w1) p s S' c∧Keeps F w0 w1) (hc:c≤c'):B.DiskR w1 (more F w w1) p s S' c'∧Keeps F w w1:=by
 have h1:=hk0.size
 have h2:=h.2.size
 exact⟨(h.1.mono (fun k h=>h.elim .inl (fun h=> .inr ⟨by omega,h.2⟩)) (more_lt hl (by omega))).le hc,hk0.trans h.2 (fun k h=> .inl h)⟩
theorem lformat_puts (S:DS) (s:Nat) (f n:Int) (hn:n≤256):(lformat S s f n).2.puts.length≤S.puts.length+400:=by
 have h1:=awipe_puts S.take s f.toNat n.toNat
 have h2:S.take.puts.length=S.puts.length:=rfl
 have h3:=anew_putsS (awipe S.take s f.toNat n.toNat).2 s f.toNat 4294967296
 unfold lformat
 split
 ·show S.puts.length≤_;omega
 ·split
  ·omega
  ·omega
set_option maxRecDepth 20000 in
set_option maxHeartbeats 8000000 in
theorem sformat_any (h:B.DiskR w F p s S cR) (hby:S.Byt) (a b c:Int) (hbig:S.puts.length+6000≤4000000000000):
  Calls Tryz.prog 18 #[.pointer (some ⟨p,0,none⟩), .agg #[.int .i64 a, .int .i64 b, .int .i64 c]] w fun e w'=>e= .returned (.int .i64 (sformat S s a b c).1)∧B.DiskR w' (more F w w') p s (sformat S s a b c).2 (cR+2)∧Keeps F w w':=by
 obtain⟨wB,hwB⟩:∃wB,wB=w.alloc (.cells #[.int .i64 a, .int .i64 b, .int .i64 c] 31):=⟨_,rfl⟩
 have hbB:Below w.heap.size w wB:=by rw [hwB];exact below_box _ _
 have hzB:wB.heap.size=w.heap.size+1:=by rw [hwB,World.size_alloc]
 have hbox:wB.heap[w.heap.size]? =some (.cells #[.int .i64 a, .int .i64 b, .int .i64 c] 31 (0,0)):=by rw [hwB];exact heap_alloc_new _ _
 have hd1:=h.later hbB
 have h1:=B.dburnt hd1
 have HLt:=h.lt
 obtain⟨R,hR⟩:∃R,R=sformat S s a b c:=⟨_,rfl⟩
 rw [←hR]
 unfold sformat at hR
 subst hwB
 go_enter Tryz.func18,Tryz.ntmps18
 go_wp2_with fail
 refine h1.mono ?_
 rintro e w1 ⟨rfl,hw1⟩
 subst hw1
 by_cases k1:S.fuse=0
 ·rw [if_pos k1] at hR
  have d1:(S.fuse == 0)=true:=by rw [beq_iff_eq];exact k1
  rw [d1] at h1
  go_wp2
  go_ret
  rw [hR]
  exact⟨rfl,(hd1.more (w:=w)).le (by omega),Keeps.of_below F hbB⟩
 ·rw [if_neg k1] at hR
  have d1:(S.fuse == 0)=false:=by rw [beq_eq_false_iff_ne];exact k1
  rw [d1] at h1
  by_cases kg:Geo a b c
  ·obtain⟨x,y,z,rfl,rfl,rfl⟩:=geo_nat kg
   have H2:=(fun w=>encsuper_ok x y z w kg)
   have hsl:(supOf x y z).length=512:=by rw [supOf,sealed_len,supBody_len]
   have c0:=cell_of_block hbox (j:=0) rfl
   have c1:=cell_of_block hbox (j:=1) rfl
   have c2:=cell_of_block hbox (j:=2) rfl
   have hgx:=kg.2.2.2.2
   have hss:=hd1.ok.hi
   by_cases ks:x=s
   ·have ks':=ks.symm
    subst ks'
    rw [if_pos ⟨kg,rfl⟩] at hR
    simp only [Int.toNat_natCast] at hR
    have h2:=H2 (w.alloc (.cells #[.int .i64 (s:Int), .int .i64 (y:Int), .int .i64 (z:Int)] 31))
    go_wp2_with fail
    refine h2.mono ?_
    rintro e w2 ⟨v,rfl,g,cg,rfl,hg,hrow,hb2⟩
    have hz2:=hb2.size
    have c02:=cell_of_block ((hb2.block _ (by omega)).trans hbox) (j:=0) rfl
    have HX2:=((hb2.block _ (by omega)).trans hbox)
    have HD2:=(hd1.later hb2)
    have HSec:=(fun (wx:World) (hb:Below w2.heap.size w2 wx)=>B.dsectors (HD2.later hb))
    have HN:(B.DiskR w2.drew (more F w w2.drew) p s S (cR+2)∧Keeps F w w2.drew):=⟨((hd1.later (below_drew hb2)).more (w:=w)).le (by omega),(Keeps.of_below F hbB).trans (Keeps.of_below (fun _=>False) (below_drew hb2)) (fun _ h=>h.elim)⟩
    go_wp2
    go_region_held3 (fun w'=>w'.cell? ⟨w.heap.size,0,none⟩=some (.int .i64 (s:Int))) (exact c02)
     (first
      |(go_at_call 46;refine(HSec _ (below_drew (Below.refl _ _))).mono ?_;rintro e wy ⟨rfl,hwy⟩;have hwy':=hwy.symm;subst hwy';clear hwy))
    have hWz:=(below_drew (Below.refl w2.heap.size w2)).size
    have HDW:=HD2.later (below_drew (Below.refl _ _))
    have HXW:=(((below_drew (Below.refl w2.heap.size w2)).block _ (by omega)).trans HX2)
    have hsr0:=hrow.src
    rw [hsl] at hsr0
    have hgl:g<w2.heap.size:=hsr0.old _ rfl (by omega)
    have HSW:=(hsr0.later (below_drew (Below.refl w2.heap.size w2)))
    generalize w2.drew=W at*
    have h3:=B.dtake HDW
    have hyy:=kg.1.2
    have hs1:(17:Int)≤(s:Int):=by obtain⟨⟨l1,l2⟩,⟨n1,n2⟩,h3,s1,s2⟩:=kg;omega
    have hp1:(fmt1 S s).2.puts.length≤S.puts.length+1:=swipe_puts S.take s 0 1
    have hp2:(fmt2 S s).2.puts.length≤(fmt1 S s).2.puts.length+(s-1):=swipe_puts (fmt1 S s).2 s 1 (s-1)
    have hp3:(fmt3 S s y).2.puts.length≤(fmt2 S s).2.puts.length+400:=lformat_puts _ _ _ _ hyy
    have hp4:(fmt4 S s y z).2.puts.length≤(fmt3 S s y).2.puts.length+1:=wr_puts _ _ _ _ _
    have HB2:((fmt2 S s).2.Byt):=swipe_byt (swipe_byt hby.take s 0 1) s 1 (s-1)
    have HT1:=(fun (w3:World) (hd:B.DiskR w3 F p s S.take cR)=>show Calls Tryz.prog 47 #[.pointer (some ⟨p,0,none⟩), .int .i64 0, .int .i64 1] w3 fun e w'=>e= .returned (.int .i64 (fmt1 S s).1)∧B.DiskR w' (more F w3 w') p s (fmt1 S s).2 cR∧Keeps F w3 w' from swipe_any hd 0 1 (by omega) (by omega) (by show S.puts.length+_+1≤_;omega))
    have HT2:=(fun (w3:World) (F3:Nat→Prop) (hd:B.DiskR w3 F3 p s (fmt1 S s).2 cR)=>show Calls Tryz.prog 47 #[.pointer (some ⟨p,0,none⟩), .int .i64 1, .int .i64 (s:Int)] w3 fun e w'=>e= .returned (.int .i64 (fmt2 S s).1)∧B.DiskR w' (more F3 w3 w') p s (fmt2 S s).2 cR∧Keeps F3 w3 w' from swipe_any hd 1 s (by omega) (by omega) (by omega))
    have HT3:=(fun (w3:World) (F3:Nat→Prop) (hd:B.DiskR w3 F3 p s (fmt2 S s).2 cR)=>show Calls Tryz.prog 48 #[.pointer (some ⟨p,0,none⟩), .int .i64 1, .int .i64 (y:Int)] w3 fun e w'=>e= .returned (.int .i64 (fmt3 S s y).1)∧B.DiskR w' (more F3 w3 w') p s (fmt3 S s y).2 (cR+2)∧Keeps F3 w3 w' from B.Format_any hd HB2 1 (y:Int) (by omega))
    have HT4:=(fun (w3:World) (F3:Nat→Prop) (hd:B.DiskR w3 F3 p s (fmt3 S s y).2 (cR+2)) (hs:Src w3 (some ⟨g,0,none⟩) 512 (supOf s y z))=>show Calls Tryz.prog 49 #[.pointer (some ⟨p,0,none⟩), .int .i64 0, .slice (some ⟨g,0,none⟩) 512 cg] w3 fun e w'=>e= .returned (.int .i64 (fmt4 S s y z).1)∧B.DiskR w' (more F3 w3 w') p s (fmt4 S s y z).2 (cR+2)∧Keeps F3 w3 w' from B.dwrite hd 0 (some ⟨g,0,none⟩) 512 cg (supOf s y z) hs (by omega))
    have HT5:=(fun (w3:World) (F3:Nat→Prop) (hd:B.DiskR w3 F3 p s (fmt4 S s y z).2 (cR+2))=>B.dflush hd (by omega))
    unfold sformed at hR
    generalize fmt1 S s=Y1 at*
    generalize fmt2 S s=Y2 at*
    generalize fmt3 S s y=Y3 at*
    generalize fmt4 S s y z=Y4 at*
    go_wp2_with fail
    refine h3.mono ?_
    rintro e w3 ⟨rfl,hd3,hk3⟩
    have hz3:=hk3.size
    have h4:=HT1 w3 hd3
    have hF:∀j,w.heap.size≤j→¬F j:=fun j hj hf=>by have:=HLt _ hf;omega
    have HLt3:(∀k,F k→k<w3.heap.size):=fun k hf=>by have:=HLt k hf;omega
    have HK3:=HN.2.trans hk3 (fun _ h=> .inl h)
    have HX3:=((hk3.block _ (by omega) (hF _ (by omega))).trans HXW)
    have HS3:=(HSW.avoid hk3 (fun y hy _ e=>by
     cases hy
     exact hF g (by omega) e))
    go_wp2_with fail
    refine h4.mono ?_
    rintro e w4 ⟨rfl,hd,hk⟩
    have HE1:=(And.intro hd hk)
    by_cases kY1:Y1.1≠0
    ·rw [if_pos kY1] at hR
     have dY:(Y1.1 != 0)=true:=by rw [bne_iff_ne];exact kY1
     have HN:=(exit_fr (c':=cR+2) HLt HK3 HE1 (by omega))
     go_wp2
     go_ret
     rw [hR]
     exact⟨rfl,HN⟩
    ·rw [if_neg kY1] at hR
     have dY1:(Y1.1 != 0)=false:=by rw [Decidable.byContradiction kY1];rfl
     have cS:=cell_of_block ((HE1.2.block _ (by omega) (hF _ (by omega))).trans HX3) (j:=0) rfl
     have h5:=HT2 _ _ HE1.1
     go_wp2_with fail
     refine h5.mono ?_
     rintro e w5 ⟨rfl,hd,hk⟩
     have HE2:=(step_fr HLt3 HE1.2 hd hk)
     by_cases kY2:Y2.1≠0
     ·rw [if_pos kY2] at hR
      have dY:(Y2.1 != 0)=true:=by rw [bne_iff_ne];exact kY2
      have HN:=(exit_fr (c':=cR+2) HLt HK3 HE2 (by omega))
      go_wp2
      go_ret
      rw [hR]
      exact⟨rfl,HN⟩
     ·rw [if_neg kY2] at hR
      have dY2:(Y2.1 != 0)=false:=by rw [Decidable.byContradiction kY2];rfl
      have cL:=cell_of_block ((HE2.2.block _ (by omega) (hF _ (by omega))).trans HX3) (j:=1) rfl
      have h6:=HT3 _ _ HE2.1
      go_wp2_with fail
      refine h6.mono ?_
      rintro e w6 ⟨rfl,hd,hk⟩
      have HE3:=(step_fr HLt3 HE2.2 hd hk)
      by_cases kY3:Y3.1≠0
      ·rw [if_pos kY3] at hR
       have dY:(Y3.1 != 0)=true:=by rw [bne_iff_ne];exact kY3
       have HN:=(exit_fr (c':=cR+2) HLt HK3 HE3 (by omega))
       go_wp2
       go_ret
       rw [hR]
       exact⟨rfl,HN⟩
      ·rw [if_neg kY3] at hR
       have dY3:(Y3.1 != 0)=false:=by rw [Decidable.byContradiction kY3];rfl
       have h7:=HT4 _ _ HE3.1 (HS3.avoid HE3.2 (fun y hy _ e=>by
        cases hy
        exact hF g (by omega) e))
       go_wp2_with fail
       refine h7.mono ?_
       rintro e w7 ⟨rfl,hd,hk⟩
       have HE4:=(step_fr HLt3 HE3.2 hd hk)
       by_cases kY4:Y4.1≠0
       ·rw [if_pos kY4] at hR
        have dY:(Y4.1 != 0)=true:=by rw [bne_iff_ne];exact kY4
        have HN:=(exit_fr (c':=cR+2) HLt HK3 HE4 (by omega))
        go_wp2
        go_ret
        rw [hR]
        exact⟨rfl,HN⟩
       ·rw [if_neg kY4] at hR
        have dY4:(Y4.1 != 0)=false:=by rw [Decidable.byContradiction kY4];rfl
        have h8:=HT5 _ _ HE4.1
        go_wp2_with fail
        refine h8.mono ?_
        rintro e w8 ⟨rfl,hd,hk⟩
        have HN:=(exit_fr (c':=cR+2) HLt HK3 (step_fl HLt3 HE4.2 hd hk) (by omega))
        go_wp2
        go_ret
        rw [hR]
        exact⟨rfl,HN⟩
   ·rw [if_neg (fun h=>ks (by have:=h.2;omega))] at hR
    have hne:((x:Int) != (s:Int))=true:=by rw [bne_iff_ne];omega
    have h2:=H2 (w.alloc (.cells #[.int .i64 (x:Int), .int .i64 (y:Int), .int .i64 (z:Int)] 31))
    go_wp2_with fail
    refine h2.mono ?_
    rintro e w2 ⟨v,rfl,g,cg,rfl,hg,hrow,hb2⟩
    have hz2:=hb2.size
    have c02:=cell_of_block ((hb2.block _ (by omega)).trans hbox) (j:=0) rfl
    have HX2:=((hb2.block _ (by omega)).trans hbox)
    have HD2:=(hd1.later hb2)
    have HSec:=(fun (wx:World) (hb:Below w2.heap.size w2 wx)=>B.dsectors (HD2.later hb))
    have HN:(B.DiskR w2.drew (more F w w2.drew) p s S (cR+2)∧Keeps F w w2.drew):=⟨((hd1.later (below_drew hb2)).more (w:=w)).le (by omega),(Keeps.of_below F hbB).trans (Keeps.of_below (fun _=>False) (below_drew hb2)) (fun _ h=>h.elim)⟩
    go_wp2
    go_region_held3 (fun w'=>w'.cell? ⟨w.heap.size,0,none⟩=some (.int .i64 (x:Int))) (exact c02)
     (first
      |(go_at_call 46;refine(HSec _ (below_drew (Below.refl _ _))).mono ?_;rintro e wy ⟨rfl,hwy⟩;have hwy':=hwy.symm;subst hwy';clear hwy))
    go_wp2
    go_ret
    rw [hR]
    exact⟨rfl,HN⟩
  ·have h2:=fun w=>encsuper_bad a b c w kg
   rw [if_neg (fun h=>kg h.1)] at hR
   have H2:=h2
   have c0:=cell_of_block hbox (j:=0) rfl
   have c1:=cell_of_block hbox (j:=1) rfl
   have c2:=cell_of_block hbox (j:=2) rfl
   have h2:=H2 (w.alloc (.cells #[.int .i64 a, .int .i64 b, .int .i64 c] 31))
   go_wp2_with fail
   refine h2.mono ?_
   rintro e w2 ⟨rfl,hb2⟩
   have HN:(B.DiskR w2.drew (more F w w2.drew) p s S (cR+2)∧Keeps F w w2.drew):=⟨((hd1.later (below_drew hb2)).more (w:=w)).le (by omega),(Keeps.of_below F hbB).trans (Keeps.of_below (fun _=>False) (below_drew hb2)) (fun _ h=>h.elim)⟩
   go_wp2
   refine wp_region_held_drew (S:=(fun _=>True)) (by kernel_rfl) (trivial) (fun hHeld=>?_)
   refine wpAnyH_take (i:=0) (oi:={dst:=some 18,op:=Op.move (Operand.tmp 6),type:=39,pos:= "store.go:35",after:= #[],guard:=none}) (v:= .int .i64 22) rfl (by kernel_rfl) (by kernel_rfl) (by kernel_rfl) (fun _ _ _ h=>h) (Or.inl ⟨by rfl,?_⟩) (by assumption) ?_
   ·intro w hSw
    (try dsimp only at hSw)
    go_simp
   try simp only [Act.put,List.setIfInBounds_toArray,List.set_cons_zero,List.set_cons_succ]
   refine wpAnyH_take (i:=1) (oi:={dst:=some 19,op:=Op.binOp BinOp.neq 39 (Operand.tmp 18) (Operand.const (Value.int IntKind.i64 0)) 39,type:=4,pos:= "store.go:35",after:= #[{on:=0,ground:=Ground.data}],guard:=none}) (v:= .bool true) rfl (by kernel_rfl) (by kernel_rfl) (by kernel_rfl) (fun _ _ _ h=>h) (Or.inl ⟨by rfl,?_⟩) (by assumption) ?_
   ·intro w hSw
    (try dsimp only at hSw)
    go_simp
   try simp only [Act.put,List.setIfInBounds_toArray,List.set_cons_zero,List.set_cons_succ]
   refine wpAnyH_take (i:=2) (oi:={dst:=some 20,op:=Op.move (Operand.tmp 19),type:=4,pos:= "store.go:35",after:= #[{on:=1,ground:=Ground.data}],guard:=none}) (v:= .bool true) rfl (by kernel_rfl) (by kernel_rfl) (by kernel_rfl) (fun _ _ _ h=>h) (Or.inl ⟨by rfl,?_⟩) (by assumption) ?_
   ·intro w hSw
    (try dsimp only at hSw)
    go_simp
   try simp only [Act.put,List.setIfInBounds_toArray,List.set_cons_zero,List.set_cons_succ]
   refine wpAnyH_take (i:=3) (oi:={dst:=some 21,op:=Op.fieldAddr 31 (Operand.tmp 3) 0,type:=0,pos:= "store.go:35",after:= #[{on:=2,ground:=Ground.guard}],guard:=some (2,false)}) (v:=undef) rfl (by kernel_rfl) (by kernel_rfl) (by kernel_rfl) (fun _ _ _ h=>h) (Or.inr ⟨by rfl,rfl⟩) (by assumption) ?_
   try simp only [Act.put,List.setIfInBounds_toArray,List.set_cons_zero,List.set_cons_succ]
   refine wpAnyH_take (i:=4) (oi:={dst:=some 22,op:=Op.load 3 (Operand.tmp 21),type:=3,pos:= "store.go:35",after:= #[{on:=3,ground:=Ground.data},{on:=2,ground:=Ground.guard}],guard:=some (2,false)}) (v:=undef) rfl (by kernel_rfl) (by kernel_rfl) (by kernel_rfl) (fun _ _ _ h=>h) (Or.inr ⟨by rfl,rfl⟩) (by assumption) ?_
   try simp only [Act.put,List.setIfInBounds_toArray,List.set_cons_zero,List.set_cons_succ]
   refine wpAnyH_take (i:=5) (oi:={dst:=some 23,op:=Op.move (Operand.tmp 0),type:=33,pos:= "store.go:35",after:= #[{on:=2,ground:=Ground.guard}],guard:=some (2,false)}) (v:=undef) rfl (by kernel_rfl) (by kernel_rfl) (by kernel_rfl) (fun _ _ _ h=>h) (Or.inr ⟨by rfl,rfl⟩) (by assumption) ?_
   try simp only [Act.put,List.setIfInBounds_toArray,List.set_cons_zero,List.set_cons_succ]
   refine wpAnyH_take (i:=6) (oi:={dst:=some 24,op:=Op.call {callee:=Callee.value (Operand.func 46),args:= #[Operand.tmp 23],argTypes:= #[33]},type:=3,pos:= "store.go:35",after:= #[{on:=5,ground:=Ground.data},{on:=2,ground:=Ground.chain},{on:=2,ground:=Ground.guard}],guard:=some (2,false)}) (v:=undef) rfl (by kernel_rfl) (by kernel_rfl) (by kernel_rfl) (fun _ _ _ h=>h) (Or.inr ⟨by rfl,rfl⟩) (by assumption) ?_
   try simp only [Act.put,List.setIfInBounds_toArray,List.set_cons_zero,List.set_cons_succ]
   refine wpAnyH_take (i:=7) (oi:={dst:=some 25,op:=Op.binOp BinOp.neq 3 (Operand.tmp 22) (Operand.tmp 24) 3,type:=4,pos:= "store.go:35",after:= #[{on:=4,ground:=Ground.data},{on:=6,ground:=Ground.data},{on:=2,ground:=Ground.guard}],guard:=some (2,false)}) (v:=undef) rfl (by kernel_rfl) (by kernel_rfl) (by kernel_rfl) (fun _ _ _ h=>h) (Or.inr ⟨by rfl,rfl⟩) (by assumption) ?_
   try simp only [Act.put,List.setIfInBounds_toArray,List.set_cons_zero,List.set_cons_succ]
   refine wpAnyH_take (i:=8) (oi:={dst:=some 26,op:=Op.pick (Operand.tmp 20) (Operand.const (Value.bool true)) (Operand.tmp 25),type:=4,pos:= "store.go:35",after:= #[{on:=2,ground:=Ground.data},{on:=7,ground:=Ground.data}],guard:=none}) (v:= .bool true) rfl (by kernel_rfl) (by kernel_rfl) (by kernel_rfl) (fun _ _ _ h=>h) (Or.inl ⟨by rfl,?_⟩) (by assumption) ?_
   ·intro w hSw
    (try dsimp only at hSw)
    go_simp
   try simp only [Act.put,List.setIfInBounds_toArray,List.set_cons_zero,List.set_cons_succ]
   refine wpAnyH_done (by kernel_rfl) ?_ _
   go_wp2
   go_ret
   rw [hR]
   exact⟨rfl,HN⟩
end
end Go.Proofs.YtkiehemoiapkkaaGreat
end
section
namespace Go.Proofs.YtkiehemoiapkkaaGreat
open Go.RowKit Go.Maps
abbrev lyV (y:LY):Value:= .agg #[.int .i64 (y.log:Int), .int .i64 (y.home:Int), .int .i64 (y.blocks:Int), .int .i64 (y.nodes:Int), .int .i64 (y.data:Int)]
theorem infoLy:(Tryz.prog.info? 87).map (·.size)=some 5:=by kernel_rfl
theorem ly_range (w:World) (y:LY):(w.alloc (.cells #[.int .i64 (y.log:Int), .int .i64 (y.home:Int), .int .i64 (y.blocks:Int), .int .i64 (y.nodes:Int), .int .i64 (y.data:Int)] 87)).rangeAt w.heap.size 0 [.int .i64 (y.log:Int), .int .i64 (y.home:Int), .int .i64 (y.blocks:Int), .int .i64 (y.nodes:Int), .int .i64 (y.data:Int)]:=by
 have hx:=heap_alloc_new w (.cells #[.int .i64 (y.log:Int), .int .i64 (y.home:Int), .int .i64 (y.blocks:Int), .int .i64 (y.nodes:Int), .int .i64 (y.data:Int)] 87)
 intro j v hv
 match j,hv with
 |0,hv=>cases hv;exact cell_of_block hx (j:=0) rfl
 |1,hv=>cases hv;exact cell_of_block hx (j:=1) rfl
 |2,hv=>cases hv;exact cell_of_block hx (j:=2) rfl
 |3,hv=>cases hv;exact cell_of_block hx (j:=3) rfl
 |4,hv=>cases hv;exact cell_of_block hx (j:=4) rfl
 |j+5,hv=>simp at hv
section
variable {w:World} {F:Nat→Prop} {p q l m t n:Nat} {y:LY} {busy:Bool} {G:SG} {T:TG}
set_option maxRecDepth 20000 in
theorem tlayout_any (h:StP w q p l m G.y busy) (ht:TxW w F q l m t n G T):
  Calls Tryz.prog 61 #[.pointer (some ⟨t,0,none⟩)] w fun e w'=>e= .returned (lyV G.y)∧Below w.heap.size w w':=by
 have hb:=below_box w (.cells #[.int .i64 0, .int .i64 0, .int .i64 0, .int .i64 0, .int .i64 0] 87)
 have c0:=(ht.later hb).c0
 have h:=h.later hb
 have c2:=cell_of_block h (j:=2) rfl
 have c3:=cell_of_block h (j:=3) rfl
 have c4:=cell_of_block h (j:=4) rfl
 have c5:=cell_of_block h (j:=5) rfl
 have c6:=cell_of_block h (j:=6) rfl
 go_enter Tryz.func61,Tryz.ntmps61
 go_wp2
 refine bodyPost_ret (results_cell_mid (P:=Tryz.prog) rfl _ _ w.heap.size _ _ rfl (ly_range w G.y) Tryz.underlying87 rfl infoLy) rfl ⟨rfl,below_box _ _⟩
end
end Go.Proofs.YtkiehemoiapkkaaGreat
end
