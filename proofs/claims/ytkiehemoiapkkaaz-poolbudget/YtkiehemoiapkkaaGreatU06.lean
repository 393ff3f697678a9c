import Derived.Test.YtkiehemoiapkkaaGreatU05
import Derived.Test.YtkiehemoiapkkaaGreatU02
section
namespace Go.Proofs.YtkiehemoiapkkaaGreat
open Go.RowKit Go.Maps
def RGL (w:World) (E:Nat→Prop) (kr:Nat):Prop:=
 ∃F X p s cR q l m t n a1 a2 k S G T M,RgW w F X kr p s cR q l m t n a1 a2 k S G T M∧LK G S T M∧G.L.dead S=false∧G.y.data=2+G.y.nodes / 4∧(∀j,F j→E j)∧(∀j,X j→E j)∧E kr∧E q∧E l∧E m∧E t∧E n∧E a1∧E a2∧(∀j,E j→j<w.heap.size)
section
variable {w w' w0:World} {E E2 Z:Nat→Prop} {kr W0:Nat} {N:Int} {who two:Bool} {da:Option Addr} {dn dc:Nat} {dl:List Int}
theorem RGL.apart (h:RGL w E kr) (hk:Keeps Z w w') (hZ:∀j,Z j→¬E j):RGL w' E kr:=by
 obtain⟨F,X,p,s,cR,q,l,m,t,n,a1,a2,k,S,G,T,M,h,hc,hd,hdt,eF,eX,e0,e1,e2,e3,e4,e5,e6,e7,hl⟩:=h
 have hp:∀a,E a→PoolAt w F a t n→PoolAt w' F a t n:=fun a ea ha=>⟨(hk.block a ha.lt (fun e=>hZ a e ea)).trans ha.b,ha.nf⟩
 refine⟨F,X,p,s,cR,q,l,m,t,n,a1,a2,k,S,G,T,M,⟨(hk.block kr (lt_there h.b) (fun e=>hZ kr e e0)).trans h.b,h.x.apart hk (fun j hj=>?_),hp a1 e6 h.p1,hp a2 e7 h.p2,h.mm.apart hk (fun j hj hx=>hZ j hj (eX j hx)),fun j hj=>Nat.lt_of_lt_of_le (h.xl j hj) hk.size,h.nk,h.xa⟩,hc,hd,hdt,eF,eX,e0,e1,e2,e3,e4,e5,e6,e7,fun j hj=>Nat.lt_of_lt_of_le (hl j hj) hk.size⟩
 have h9:=hZ j hj
 exact⟨fun e=>h9 (eF j e),fun e=>h9 (e▸e1),fun e=>h9 (e▸e2),fun e=>h9 (e▸e3),fun e=>h9 (e▸e4),fun e=>h9 (e▸e5)⟩
theorem RGL.later (h:RGL w E kr) (hb:Below w.heap.size w w'):RGL w' E kr:=h.apart (Keeps.of_below (fun _=>False) hb) (fun _ h=>h.elim)
theorem RGL.lt (h:RGL w E kr):∀j,E j→j<w.heap.size:=by
 obtain⟨F,X,p,s,cR,q,l,m,t,n,a1,a2,k,S,G,T,M,h,hc,hd,hdt,eF,eX,e0,e1,e2,e3,e4,e5,e6,e7,hl⟩:=h
 exact hl
def RGLO (w w':World) (E:Nat→Prop) (kr:Nat) (e:Ending):Prop:=e= .returned (.bool true)∧RGL w' (fun j=>E j∨(w.heap.size≤j∧j<w'.heap.size)) kr∧Keeps E w w'
theorem StpL.rg {F X:Nat→Prop} {p s q l m t n a1 a2 k:Nat} {S:DS} {G:SG} {e:Ending} (h:StpL w w' F X kr p s q l m t n a1 a2 k S G e) (hd:G.L.dead S=false) (hdt:G.y.data=2+G.y.nodes / 4) (eF:∀j,F j→E j) (eX:∀j,X j→E j) (e0:E kr) (e1:E q) (e2:E l) (e3:E m) (e4:E t) (e5:E n) (e6:E a1) (e7:E a2) (hl:∀j,E j→j<w.heap.size):RGLO w w' E kr e:=by
 obtain⟨he,X',T',M',c',h1,h2,h3,h4⟩:=h
 refine⟨he,⟨F,X',p,s,c',q,l,m,t,n,a1,a2,k,S,G,T',M',h1,h2,hd,hdt,fun j hj=> .inl (eF j hj),fun j hj=>(h4 j hj).imp (eX j) (fun e=>e), .inl e0, .inl e1, .inl e2, .inl e3, .inl e4, .inl e5, .inl e6, .inl e7,fun j hj=>?_⟩,h3.mono (fun j hj=>?_)⟩
 ·rcases hj with hj|hj
  ·exact Nat.lt_of_lt_of_le (hl j hj) h3.size
  ·exact hj.2
 ·rcases hj with (hj|hj|hj)|hj
  ·exact eF j hj
  ·exact hj▸e4
  ·exact hj▸e5
  ·exact eX j hj
theorem RGL.mono (h:RGL w E kr) (hE:∀j,E j→E2 j) (hl:∀j,E2 j→j<w.heap.size):RGL w E2 kr:=by
 obtain⟨F,X,p,s,cR,q,l,m,t,n,a1,a2,k,S,G,T,M,h,hc,hd,hdt,eF,eX,e0,e1,e2,e3,e4,e5,e6,e7,_⟩:=h
 exact⟨F,X,p,s,cR,q,l,m,t,n,a1,a2,k,S,G,T,M,h,hc,hd,hdt,fun j hj=>hE j (eF j hj),fun j hj=>hE j (eX j hj),hE _ e0,hE _ e1,hE _ e2,hE _ e3,hE _ e4,hE _ e5,hE _ e6,hE _ e7,hl⟩
theorem RGL.still (h:RGL w E kr) (hb:Below w.heap.size w w'):RGLO w w' E kr (.returned (.bool true)):=
   ⟨rfl,(h.later hb).mono (fun _ h=> .inl h) (fun j hj=>by
  rcases hj with hj|hj
  ·exact Nat.lt_of_lt_of_le (h.lt j hj) hb.size
  ·exact hj.2),Keeps.of_below _ hb⟩
theorem RGLO.of_later {e:Ending} (h:RGLO w0 w' E kr e) (hb:Below w.heap.size w w0):RGLO w w' E kr e:=by
 obtain⟨he,hr,hk⟩:=h
 have z:=hb.size
 have hl:=hr.lt
 exact⟨he,hr.mono (fun j hj=>hj.imp (fun e=>e) (fun e=>⟨by omega,e.2⟩)) (fun j hj=>by
  rcases hj with hj|hj
  ·exact hl j (.inl hj)
  ·exact hj.2),(Keeps.of_below _ hb).trans hk (fun _ h=> .inl h)⟩
theorem EndO.rg {F X:Nat→Prop} {p s q l m t n k:Nat} {S:DS} {G:SG} {M:MP} {e:Ending} (h:EndO w w' F F X kr p s q l m t n k S G M e) (hc:LK {G with busy:=true} S ⟨[],0,false⟩ M.begun) (hd:G.L.dead S=false) (hdt:G.y.data=2+G.y.nodes / 4) (eF:∀j,F j→E j) (eX:∀j,X j→E j) (e0:E kr) (e1:E q) (e2:E l) (e3:E m) (e4:E t) (e5:E n) (hl:∀j,E j→j<w.heap.size):RGLO w w' E kr e:=by
 obtain⟨he,c',t',n',b1,b2,X',h1,h2,h3,z1,z2,z3,z4⟩:=h
 have o:=h1.x.low
 refine⟨he,⟨F,X',p,s,c',q,l,m,t',n',b1,b2,k,S,_,_,_,h1,hc,hd,hdt,fun j hj=> .inl (eF j hj),fun j hj=>(h2 j hj).imp (eX j) (fun e=>⟨e,h1.xl j hj⟩), .inl e0, .inl e1, .inl e2, .inl e3, .inr ⟨z1,o.2.2.2.2.1⟩, .inr ⟨z2,o.2.2.2.2.2⟩, .inr ⟨z3,h1.p1.lt⟩, .inr ⟨z4,h1.p2.lt⟩,fun j hj=>?_⟩,h3.mono (fun j hj=>?_)⟩
 ·rcases hj with hj|hj
  ·exact Nat.lt_of_lt_of_le (hl j hj) h3.size
  ·exact hj.2
 ·rcases hj with (hj|hj|hj)|hj|hj|hj|hj|hj
  ·exact eF j hj
  ·exact hj▸e4
  ·exact hj▸e5
  ·exact hj▸e1
  ·exact hj▸e2
  ·exact hj▸e3
  ·exact hj▸e0
  ·exact eX j hj
theorem RigO.rgl {g:GEO} {e:Ending} (h:RigO w w' g e):∃kr,e= .returned (.pointer (some ⟨kr,0,none⟩))∧RGL w' (fun j=>w.heap.size≤j∧j<w'.heap.size) kr∧Below w.heap.size w w':=by
 obtain⟨F,X,kr,p,cR,q,l,m,t,n,a1,a2,k,S,L,rfl,hkr,h,hf,eF,eX,e1,e2,e3,e4,e5,e6,e7,hb⟩:=h
 obtain⟨o1,o2,o3,o4,o5,o6⟩:=h.x.low
 have hse:∀b,b<(lyG g).blocks→(⟨[],0,false⟩:TG).sees ⟨lyG g,L, [],true⟩ S b=zs 512:=fun b hb=>by
  unfold TG.sees SG.block
  show S.now (3+g.l+b)=zs 512
  exact hf.z _ (by omega) (by have:b<g.s-(3+g.l):=hb;omega)
 have hy2:2≤(lyG g).blocks:=h.x.yk.b2
 have hbk:(MP.new g).begun.blocks=(lyG g).blocks:=by show g.s-3-g.l=g.s-(3+g.l);omega
 have hraw:(MP.new g).begun.raw=List.replicate (g.s-3-g.l) (zs 512):=rfl
 refine⟨kr,rfl,⟨F,X,p,g.s,cR,q,l,m,t,n,a1,a2,k,S,_,_,_,h,?_,hf.dead,rfl,fun j hj=>⟨eF j hj,o1 j hj⟩,fun j hj=>⟨eX j hj,h.xl j hj⟩,⟨hkr,lt_there h.b⟩,⟨e1,o2⟩,⟨e2,o3⟩,⟨e3,o4⟩,⟨e4,o5⟩,⟨e5,o6⟩,⟨e6,h.p1.lt⟩,⟨e7,h.p2.lt⟩,fun j hj=>hj.2⟩,hb⟩
 have hso:∀b,2≤b→b<(lyG g).blocks→(MP.new g).begun.raw[b]? =some ((⟨[],0,false⟩:TG).sees ⟨lyG g,L, [],true⟩ S b):=fun b h1 h2=>by
  have h2':b<g.s-(3+g.l):=h2
  rw [hraw,hse b h2,List.getElem?_replicate,if_pos (by omega)]
 have hrl:(MP.new g).begun.raw.length=(lyG g).blocks:=by
  rw [hraw,List.length_replicate]
  exact hbk
 exact⟨rfl,rfl,rfl,hf.dead,fun b=>⟨(fun e=>by cases e),(fun e=>by cases e)⟩,List.nodup_nil,Nat.zero_le _,(hse 0 (by omega)).trans bmOf_none.symm,(hse 1 (by omega)).trans bmOf_none.symm,hso,hbk,rfl,hrl,List.length_replicate,List.length_replicate,(hse 0 (by omega)).trans bmOf_none.symm,(hse 1 (by omega)).trans bmOf_none.symm,hso,hrl,List.length_replicate,List.length_replicate⟩
theorem RGL.cells (h:RGL w E kr):w.cell? ⟨kr,5,none⟩=some (.bool true):=by
 obtain⟨F,X,p,s,cR,q,l,m,t,n,a1,a2,k,S,G,T,M,h,hc,hd,hdt,eF,eX,e0,e1,e2,e3,e4,e5,e6,e7,hl⟩:=h
 exact cell_of_block h.b (j:=5) rfl
theorem RGL.looks (h:RGL w E kr):∃a2,w.cell? ⟨kr,3,none⟩=some (.pointer (some ⟨a2,0,none⟩))∧Calls Tryz.prog 14 #[.pointer (some ⟨kr,0,none⟩), .pointer (some ⟨a2,0,none⟩)] w fun e w'=>RGLO w w' E kr e:=by
 obtain⟨F,X,p,s,cR,q,l,m,t,n,a1,a2,k,S,G,T,M,h,hc,hd,hdt,eF,eX,e0,e1,e2,e3,e4,e5,e6,e7,hl⟩:=h
 exact⟨a2,cell_of_block h.b (j:=3) rfl,(looksL h hc h.p2).mono (fun e w' h9=>h9.rg hd hdt eF eX e0 e1 e2 e3 e4 e5 e6 e7 hl)⟩
theorem RGL.clear (h:RGL w E kr):∃a1 k,∃zz:Int,w.cell? ⟨kr,2,none⟩=some (.pointer (some ⟨a1,0,none⟩))∧Calls Tryz.prog 11 #[.pointer (some ⟨a1,0,none⟩)] w fun e w1=>e= .returned (.int .i64 zz)∧w1.cell? ⟨kr,4,none⟩=some (.pointer (some ⟨k,0,none⟩))∧Calls Tryz.prog 12 #[.pointer (some ⟨k,0,none⟩)] w1 fun e w2=>e= .returned (.int .i64 zz)∧RGL w2 (fun j=>E j∨(w.heap.size≤j∧j<w2.heap.size)) kr∧Keeps E w w2:=by
 obtain⟨F,X,p,s,cR,q,l,m,t,n,a1,a2,k,S,G,T,M,h,hc,hd,hdt,eF,eX,e0,e1,e2,e3,e4,e5,e6,e7,hl⟩:=h
 obtain⟨zz,T1,M1,q1,q2,hc1⟩:=hc.clear h.x.yk hdt h.x.tx.ch.ok
 have kc:=clear_any h.x h.p1
 rw [q1] at kc
 refine⟨a1,k,zz,cell_of_block h.b (j:=2) rfl,kc.mono (fun e w1 ⟨he,hx1,hk1⟩=>⟨he,?_⟩)⟩
 have hk1':Keeps (fun j=>OwT F t n j∨X j) w w1:=hk1.mono (fun _ h=> .inl h)
 have h1:=h.after (Y:=X) hx1 (h.mm.apart hk1 (fun j ej hx=>h.offX j hx ej)) hk1' (fun _ h=> .inl h)
 have km:=mclear_any h1.mm h1.xl (by have:=hc.plen;omega) (by have:=h1.x.yk.nd;have:=hc.mn;omega)
 unfold MO at km
 rw [q2] at km
 refine⟨cell_of_block h1.b (j:=4) rfl,km.mono (fun e w2 ⟨he2,hm2,hk2⟩=>?_)⟩
 have z1:=hk1.size
 have hS:StpL w w2 F X kr p s q l m t n a1 a2 k S G (.returned (.bool true)):=by
  refine⟨rfl,_,T1,M1,_,h1.after (h1.x.apart hk2 (fun j hj=>?_)) hm2 (hk2.mono (fun _ h=> .inr h)) (fun _ h=>h),hc1,hk1'.trans (hk2.mono (fun _ h=> .inr h)) (fun _ h=> .inl h),fun j hj=>hj.imp (fun e=>e) (fun e=>⟨by have:=e.1;omega,e.2⟩)⟩
  have h9:=h1.xa j hj
  exact⟨h9.1,h9.2.1,h9.2.2.1,h9.2.2.2.1,h9.2.2.2.2.1,h9.2.2.2.2.2.1⟩
 have hR:=hS.rg hd hdt eF eX e0 e1 e2 e3 e4 e5 e6 e7 hl
 exact⟨he2,hR.2.1,hR.2.2⟩
def KdC (kd:Int):Prop:=kd=1∨kd=2∨kd=3∨kd=4∨kd=5
theorem KdC.of1:KdC 1:= .inl rfl
theorem KdC.of2:KdC 2:= .inr (.inl rfl)
theorem KdC.of3:KdC 3:= .inr (.inr (.inl rfl))
theorem KdC.of4:KdC 4:= .inr (.inr (.inr (.inl rfl)))
theorem KdC.of5:KdC 5:= .inr (.inr (.inr (.inr (rfl))))
def KdA (kd:Int):Prop:=kd=1∨kd=2∨kd=3∨kd=4∨kd=5∨kd=9∨kd=10∨kd=11∨kd=12∨kd=13
set_option maxRecDepth 20000 in
set_option maxHeartbeats 32000000 in
theorem RGL.step (h:RGL w E kr) (hN:I64 N) (hs:∀w',Keeps E w w'→Src w' da dn dl) (hby:Bytes dl) (hdn:dn≤140737488355328) (kd:Int) (hkd:KdA kd):
  Calls Tryz.prog 15 #[.pointer (some ⟨kr,0,none⟩),stpV kd N who two da dn dc] w fun e w'=>RGLO w w' E kr e:=by
 have hRG:=h
 obtain⟨F,X,p,s,cR,q,l,m,t,n,a1,a2,k,S,G,T,M,h,hc,hd,hdt,eF,eX,e0,e1,e2,e3,e4,e5,e6,e7,hl⟩:=h
 have hB0:=below_box w (stpC kd N who two da dn dc)
 have hbx:=heap_alloc_new w (stpC kd N who two da dn dc)
 have g0:(w.alloc (stpC kd N who two da dn dc)).cell? ⟨w.heap.size,0,none⟩=some (.int .i64 kd):=cell_of_block hbx (j:=0) rfl
 have g1:(w.alloc (stpC kd N who two da dn dc)).cell? ⟨w.heap.size,1,none⟩=some (.int .i64 N):=cell_of_block hbx (j:=1) rfl
 have g2:(w.alloc (stpC kd N who two da dn dc)).cell? ⟨w.heap.size,2,none⟩=some (.bool who):=cell_of_block hbx (j:=2) rfl
 have g3:(w.alloc (stpC kd N who two da dn dc)).cell? ⟨w.heap.size,3,none⟩=some (.bool two):=cell_of_block hbx (j:=3) rfl
 have g4:(w.alloc (stpC kd N who two da dn dc)).cell? ⟨w.heap.size,4,none⟩=some (.slice da dn dc):=cell_of_block hbx (j:=4) rfl
 have h0:=h.later hB0
 have hl0:∀j,E j→j<(w.alloc (stpC kd N who two da dn dc)).heap.size:=fun j hj=>Nat.lt_of_lt_of_le (hl j hj) hB0.size
 have r2:(w.alloc (stpC kd N who two da dn dc)).cell? ⟨kr,2,none⟩=some (.pointer (some ⟨a1,0,none⟩)):=cell_of_block h0.b (j:=2) rfl
 have r3:(w.alloc (stpC kd N who two da dn dc)).cell? ⟨kr,3,none⟩=some (.pointer (some ⟨a2,0,none⟩)):=cell_of_block h0.b (j:=3) rfl
 have r4:(w.alloc (stpC kd N who two da dn dc)).cell? ⟨kr,4,none⟩=some (.pointer (some ⟨k,0,none⟩)):=cell_of_block h0.b (j:=4) rfl
 obtain⟨pa,hpa,hpw,hpq⟩:∃pa,PoolAt (w.alloc (stpC kd N who two da dn dc)) F pa t n∧pa=(if who then a2 else a1)∧(pa=a1∨pa=a2):=by
  cases who
  ·exact⟨a1,h0.p1,rfl, .inl rfl⟩
  ·exact⟨a2,h0.p2,rfl, .inr rfl⟩
 have toR:∀{e:Ending} {w':World},StpL (w.alloc (stpC kd N who two da dn dc)) w' F X kr p s q l m t n a1 a2 k S G e→RGLO w w' E kr e:=fun h9=>RGLO.of_later (h9.rg hd hdt eF eX e0 e1 e2 e3 e4 e5 e6 e7 hl0) hB0
 have K1:Hid (KdC kd→Calls Tryz.prog 36 #[.pointer (some ⟨kr,0,none⟩), .pointer (some ⟨pa,0,none⟩),stpV kd N who two da dn dc] (w.alloc (stpC kd N who two da dn dc)) fun e w'=>RGLO w w' E kr e):=fun e=>by
  rcases e with rfl|rfl|rfl|rfl|rfl
  ·exact(callsK1_any h0 hc hdt hpa).mono (fun e w' h9=>toR h9)
  ·exact(calls2_any h0 hc hdt hpa).mono (fun e w' h9=>toR h9)
  ·exact(calls3_any h0 hc hdt hpa).mono (fun e w' h9=>toR h9)
  ·exact(calls4_any h0 hc hdt hpa).mono (fun e w' h9=>toR h9)
  ·exact(calls5_any h0 hc hdt hpa).mono (fun e w' h9=>toR h9)
 have K11:Hid (kd=11→Calls Tryz.prog 38 #[.pointer (some ⟨kr,0,none⟩), .pointer (some ⟨pa,0,none⟩),stpV kd N who two da dn dc] (w.alloc (stpC kd N who two da dn dc)) fun e w'=>RGLO w w' E kr e):=fun e=>by
  subst e
  exact(rawK_any h0 hc hpa hN (fun w' hk=>hs w' ((Keeps.of_below _ hB0).trans (hk.mono (fun j hj=>by
   rcases hj with (hj|hj|hj)|hj
   ·exact eF j hj
   ·exact hj▸e4
   ·exact hj▸e5
   ·exact eX j hj)) (fun _ h=> .inl h))) hby hdn).mono (fun e w' h9=>toR h9)
 have K9:Hid (Calls Tryz.prog 37 #[.pointer (some ⟨kr,0,none⟩), .pointer (some ⟨pa,0,none⟩), .int .i64 9] (w.alloc (stpC kd N who two da dn dc)) fun e w'=>RGLO w w' E kr e):=(endsA_any h0 hc (hc.dd.symm.trans hd) hpa hpq).mono (fun e w' h9=>RGLO.of_later (h9.rg hc.begun hd hdt eF eX e0 e1 e2 e3 e4 e5 hl0) hB0)
 have K12:Hid (Calls Tryz.prog 39 #[.pointer (some ⟨t,0,none⟩)] (w.alloc (stpC kd N who two da dn dc)) fun e w'=>e= .returned (.int .i64 M.state)∧Below (w.alloc (stpC kd N who two da dn dc)).heap.size (w.alloc (stpC kd N who two da dn dc)) w'):=by
  rw [←hc.state]
  exact state_any h0.x.st h0.x.tx
 have K10:Hid (kd=10→Calls Tryz.prog 38 #[.pointer (some ⟨kr,0,none⟩), .pointer (some ⟨pa,0,none⟩),stpV kd N who two da dn dc] (w.alloc (stpC kd N who two da dn dc)) fun e w'=>RGLO w w' E kr e):=fun e=>by
  subst e
  by_cases hbb:2+wthn N 0 29<G.y.blocks
  ·exact(raw10_in h0 hc hpa hN (fun w' hk=>hs w' ((Keeps.of_below _ hB0).trans (hk.mono (fun j hj=>by
    rcases hj with (hj|hj|hj)|hj
    ·exact eF j hj
    ·exact hj▸e4
    ·exact hj▸e5
    ·exact eX j hj)) (fun _ h=> .inl h))) hby hdn hbb).mono (fun e w' h9=>toR h9)
  ·exact(raw10_out h0 hc hN hbb).mono (fun e w' h9=>toR h9)
 obtain⟨zs,hzs⟩:∃zs,zs=(M.spoil N).1:=⟨_,rfl⟩
 have K13:Hid (∀w1,Below (w.alloc (stpC kd N who two da dn dc)).heap.size (w.alloc (stpC kd N who two da dn dc)) w1→Calls Tryz.prog 24 #[.pointer (some ⟨t,0,none⟩), .int .i64 N] w1 fun e w2=>e= .returned (.int .i64 zs)∧w2.cell? ⟨pa,0,none⟩=some (.pointer (some ⟨t,0,none⟩))∧w2.cell? ⟨w.heap.size,1,none⟩=some (.int .i64 N)∧w2.cell? ⟨kr,4,none⟩=some (.pointer (some ⟨k,0,none⟩))∧(∀w3,Below w2.heap.size w2 w3→Calls Tryz.prog 40 #[.pointer (some ⟨k,0,none⟩), .int .i64 N] w3 fun e w4=>e= .returned (.int .i64 zs)∧RGLO w w4 E kr (.returned (.bool true))∧w4.cell? ⟨kr,4,none⟩=some (.pointer (some ⟨k,0,none⟩))∧w4.cell? ⟨w.heap.size,1,none⟩=some (.int .i64 N))):=fun w1 hb1=>by
  have h1:=h0.later hb1
  have hlow:=h.x.low
  refine(h1.x.spoil N).mono ?_
  rintro e w2 ⟨rfl,hx2,hk2⟩
  obtain⟨q1,hc2⟩:=hc.spoil N
  have hk2':Keeps (OwT F t n) w1 w2:=hk2.mono (fun j e=> .inr (.inl e))
  have h2:=h1.after (Y:=X) hx2 (h1.mm.apart hk2' (fun j ej hx=>h1.offX j hx ej)) (hk2'.mono (fun _ h=> .inl h)) (fun _ h=> .inl h)
  have hbw1:=(hb1.block _ (lt_there hbx)).trans hbx
  have hbw2:=(hk2.block _ (lt_there hbw1) (fun e=>by have:=hlow.2.2.2.2.1;omega)).trans hbw1
  refine⟨by rw [q1,hzs],((hpa.later hb1).keep hk2').c0,cell_of_block hbw2 (j:=1) rfl,cell_of_block h2.b (j:=4) rfl,fun w3 hb3=>?_⟩
  have h3:=h2.later hb3
  have hbw3:=(hb3.block _ (lt_there hbw2)).trans hbw2
  refine(mspoil_any h3.mm N).mono ?_
  rintro e w4 ⟨rfl,hm4,hk4⟩
  refine⟨by rw [hzs],toR (h3.both hb1 ((hk2'.mono (fun _ h=> .inl h)).trans (Keeps.of_below (fun _=>False) hb3) (fun _ h=>h.elim)) hc2 (hm4.mono (fun _ h=> .inl h)) hk4),?_,?_⟩
  ·exact cell_of_block ((hk4.block kr (lt_there h3.b) (fun e=>(h3.xa kr e).2.2.2.2.2.2.1 rfl)).trans h3.b) (j:=4) rfl
  ·exact cell_of_block ((hk4.block _ (lt_there hbw3) (fun e=>Nat.lt_irrefl _ (h.xl _ e))).trans hbw3) (j:=1) rfl
 have HMM:=Hid.mk h0.mm
 have HRG:=Hid.mk (And.intro hRG hB0)
 have c0:=hpa.c0
 have HW:=Hid.mk hpw
 clear h hc hd hdt hN hs hby hB0 hbx h0 hpa hpw toR hl0 hRG hpq hzs
 rcases hkd with rfl|rfl|rfl|rfl|rfl|rfl|rfl|rfl|rfl|rfl
 ·have kc:=K1.out KdC.of1
  clear K1 K11 K9 K12 K10 K13
  cases who
  case' false=>obtain rfl:pa=a1:=HW.out
  case' true=>obtain rfl:pa=a2:=HW.out
  all_goals
   go_enter Tryz.func15,Tryz.ntmps15
   go_wp2_with fail
   refine kc.mono ?_
   intro e w1 hP
   have he:=hP.1
   subst he
   have HE:=Hid.mk hP
   clear kc hP g0 g1 g2 g3 g4 r2 r3 r4 c0
   go_wp2
   go_ret
   exact HE.out
 ·have kc:=K1.out KdC.of2
  clear K1 K11 K9 K12 K10 K13
  cases who
  case' false=>obtain rfl:pa=a1:=HW.out
  case' true=>obtain rfl:pa=a2:=HW.out
  all_goals
   go_enter Tryz.func15,Tryz.ntmps15
   go_wp2_with fail
   refine kc.mono ?_
   intro e w1 hP
   have he:=hP.1
   subst he
   have HE:=Hid.mk hP
   clear kc hP g0 g1 g2 g3 g4 r2 r3 r4 c0
   go_wp2
   go_ret
   exact HE.out
 ·have kc:=K1.out KdC.of3
  clear K1 K11 K9 K12 K10 K13
  cases who
  case' false=>obtain rfl:pa=a1:=HW.out
  case' true=>obtain rfl:pa=a2:=HW.out
  all_goals
   go_enter Tryz.func15,Tryz.ntmps15
   go_wp2_with fail
   refine kc.mono ?_
   intro e w1 hP
   have he:=hP.1
   subst he
   have HE:=Hid.mk hP
   clear kc hP g0 g1 g2 g3 g4 r2 r3 r4 c0
   go_wp2
   go_ret
   exact HE.out
 ·have kc:=K1.out KdC.of4
  clear K1 K11 K9 K12 K10 K13
  cases who
  case' false=>obtain rfl:pa=a1:=HW.out
  case' true=>obtain rfl:pa=a2:=HW.out
  all_goals
   go_enter Tryz.func15,Tryz.ntmps15
   go_wp2_with fail
   refine kc.mono ?_
   intro e w1 hP
   have he:=hP.1
   subst he
   have HE:=Hid.mk hP
   clear kc hP g0 g1 g2 g3 g4 r2 r3 r4 c0
   go_wp2
   go_ret
   exact HE.out
 ·have kc:=K1.out KdC.of5
  clear K1 K11 K9 K12 K10 K13
  cases who
  case' false=>obtain rfl:pa=a1:=HW.out
  case' true=>obtain rfl:pa=a2:=HW.out
  all_goals
   go_enter Tryz.func15,Tryz.ntmps15
   go_wp2_with fail
   refine kc.mono ?_
   intro e w1 hP
   have he:=hP.1
   subst he
   have HE:=Hid.mk hP
   clear kc hP g0 g1 g2 g3 g4 r2 r3 r4 c0
   go_wp2
   go_ret
   exact HE.out
 ·have kc:=K9.out
  clear K1 K11 K9 K12 K10 K13
  cases who
  case' false=>obtain rfl:pa=a1:=HW.out
  case' true=>obtain rfl:pa=a2:=HW.out
  all_goals
   go_enter Tryz.func15,Tryz.ntmps15
   go_wp2_with fail
   refine kc.mono ?_
   intro e w1 hP
   have he:=hP.1
   subst he
   have HE:=Hid.mk hP
   clear kc hP g0 g1 g2 g3 g4 r2 r3 r4 c0
   go_wp2
   go_ret
   exact HE.out
 ·have kc:=K10.out rfl
  clear K1 K11 K9 K12 K10 K13
  cases who
  case' false=>obtain rfl:pa=a1:=HW.out
  case' true=>obtain rfl:pa=a2:=HW.out
  all_goals
   go_enter Tryz.func15,Tryz.ntmps15
   go_wp2_with fail
   refine kc.mono ?_
   intro e w1 hP
   have he:=hP.1
   subst he
   have HE:=Hid.mk hP
   clear kc hP g0 g1 g2 g3 g4 r2 r3 r4 c0
   go_wp2
   go_ret
   exact HE.out
 ·have kc:=K11.out rfl
  clear K1 K11 K9 K12 K10 K13
  cases who
  case' false=>obtain rfl:pa=a1:=HW.out
  case' true=>obtain rfl:pa=a2:=HW.out
  all_goals
   go_enter Tryz.func15,Tryz.ntmps15
   go_wp2_with fail
   refine kc.mono ?_
   intro e w1 hP
   have he:=hP.1
   subst he
   have HE:=Hid.mk hP
   clear kc hP g0 g1 g2 g3 g4 r2 r3 r4 c0
   go_wp2
   go_ret
   exact HE.out
 ·have kc:=K12.out
  clear K1 K11 K9 K12 K10 K13
  cases who
  case' false=>obtain rfl:pa=a1:=HW.out
  case' true=>obtain rfl:pa=a2:=HW.out
  all_goals
   go_enter Tryz.func15,Tryz.ntmps15
   go_wp2_with fail
   refine kc.mono ?_
   rintro e w1 ⟨rfl,hb1⟩
   have r4':=cell_later hb1 r4
   have HD1:Hid (Below w1.heap.size w1 w1.drew):=below_drew (Below.refl _ _)
   have H7:Hid (∀w',Below w1.heap.size w1 w'→w'.cell? ⟨kr,4,none⟩=some (.pointer (some ⟨k,0,none⟩))):=fun w' hb=>cell_later hb r4'
   have km:=mstate_any ((HMM.out.later hb1).later HD1.out)
   have kn:=num6_any M.state w1.drew
   have HE:Hid (RGLO w w1.drew E kr (.returned (.bool true))):=HRG.out.1.still (HRG.out.2.trans ((hb1.trans (HD1.out.mono hb1.size)).mono HRG.out.2.size))
   clear kc hb1 g0 g1 g2 g3 g4 r2 r3 r4 r4' c0
   generalize M.state=x at*
   have hxx:(x == x)=true:=by simp
   go_wp2_with fail
   refine wp_region_held_drew (S:=(fun w'=>w'.cell? ⟨kr,4,none⟩=some (.pointer (some ⟨k,0,none⟩)))) (by kernel_rfl) (H7.out _ HD1.out) (fun hHeld=>?_)
   refine wpAnyH_take (i:=0) (oi:={dst:=some 60,op:=Op.move (Operand.tmp 6),type:=39,pos:= "exact.go:237",after:= #[],guard:=none}) (v:= .int .i64 x) rfl (by kernel_rfl) (by kernel_rfl) (by kernel_rfl) (fun _ _ _ h=>h) (Or.inl ⟨by rfl,?_⟩) (by assumption) ?_
   ·intro w hSw
    (try dsimp only at hSw)
    go_simp
   try simp only [Act.put,List.setIfInBounds_toArray,List.set_cons_zero,List.set_cons_succ]
   refine wpAnyH_take (i:=2) (oi:={dst:=some 62,op:=Op.move (Operand.tmp 0),type:=28,pos:= "exact.go:237",after:= #[],guard:=none}) (v:= .pointer (some ⟨kr,0,none⟩)) rfl (by kernel_rfl) (by kernel_rfl) (by kernel_rfl) (fun _ _ _ h=>h) (Or.inl ⟨by rfl,?_⟩) (by assumption) ?_
   ·intro w hSw
    (try dsimp only at hSw)
    go_simp
   try simp only [Act.put,List.setIfInBounds_toArray,List.set_cons_zero,List.set_cons_succ]
   refine wpAnyH_take (i:=3) (oi:={dst:=some 63,op:=Op.nilCheck (Operand.tmp 62),type:=0,pos:= "exact.go:237",after:= #[{on:=2,ground:=Ground.data}],guard:=none}) (v:= .pointer (some ⟨kr,0,none⟩)) rfl (by kernel_rfl) (by kernel_rfl) (by kernel_rfl) (fun _ _ _ h=>h) (Or.inl ⟨by rfl,?_⟩) (by assumption) ?_
   ·intro w hSw
    (try dsimp only at hSw)
    go_simp
   try simp only [Act.put,List.setIfInBounds_toArray,List.set_cons_zero,List.set_cons_succ]
   refine wpAnyH_take (i:=4) (oi:={dst:=some 64,op:=Op.fieldAddr 38 (Operand.tmp 63) 4,type:=0,pos:= "exact.go:237",after:= #[{on:=3,ground:=Ground.data}],guard:=none}) (v:= .pointer (some ⟨kr,4,none⟩)) rfl (by kernel_rfl) (by kernel_rfl) (by kernel_rfl) (fun _ _ _ h=>h) (Or.inl ⟨by rfl,?_⟩) (by assumption) ?_
   ·intro w hSw
    (try dsimp only at hSw)
    go_simp
   try simp only [Act.put,List.setIfInBounds_toArray,List.set_cons_zero,List.set_cons_succ]
   refine wpAnyH_take (i:=5) (oi:={dst:=some 65,op:=Op.load 36 (Operand.tmp 64),type:=36,pos:= "exact.go:237",after:= #[{on:=4,ground:=Ground.data}],guard:=none}) (v:= .pointer (some ⟨k,0,none⟩)) rfl (by kernel_rfl) (by kernel_rfl) (by kernel_rfl) (fun _ _ _ h=>h) (Or.inl ⟨by rfl,?_⟩) (by assumption) ?_
   ·intro w hSw
    (try dsimp only at hSw)
    go_simp
   try simp only [Act.put,List.setIfInBounds_toArray,List.set_cons_zero,List.set_cons_succ]
   refine wpAnyH_ready (rs:= [1]) (by kernel_rfl) (by simp) ?_
   refine AllReadyH.cons (o:={dst:=some 61,op:=Op.call {callee:=Callee.value (Operand.func 13),args:= #[Operand.tmp 60],argTypes:= #[39]},type:=3,pos:= "exact.go:237",after:= #[{on:=0,ground:=Ground.data}],guard:=none}) rfl (fun K hK=>?_) AllReadyH.nil
   go_simp
   refine kn.mono ?_
   rintro e wx ⟨rfl,hwx⟩
   have hwx':=hwx.symm
   subst hwx'
   clear hwx
   refine hK.out _ _ ?_ (fun hHeld=>?_)
   ·exact H7.out _ HD1.out
   clear hK K
   try simp only [Act.put,List.setIfInBounds_toArray,List.set_cons_zero,List.set_cons_succ]
   refine wpAnyH_ready (rs:= [6]) (by kernel_rfl) (by simp) ?_
   refine AllReadyH.cons (o:={dst:=some 66,op:=Op.call {callee:=Callee.value (Operand.func 29),args:= #[Operand.tmp 65],argTypes:= #[36]},type:=3,pos:= "exact.go:237",after:= #[{on:=5,ground:=Ground.data},{on:=1,ground:=Ground.chain}],guard:=none}) rfl (fun K hK=>?_) AllReadyH.nil
   go_simp
   refine km.mono ?_
   rintro e wx ⟨rfl,hwx⟩
   have hwx':=hwx.symm
   subst hwx'
   clear hwx
   refine hK.out _ _ ?_ (fun hHeld=>?_)
   ·exact H7.out _ HD1.out
   clear hK K
   try simp only [Act.put,List.setIfInBounds_toArray,List.set_cons_zero,List.set_cons_succ]
   refine wpAnyH_take (i:=7) (oi:={dst:=some 67,op:=Op.binOp BinOp.eql 3 (Operand.tmp 61) (Operand.tmp 66) 3,type:=4,pos:= "exact.go:237",after:= #[{on:=1,ground:=Ground.data},{on:=6,ground:=Ground.data}],guard:=none}) (v:= .bool true) rfl (by kernel_rfl) (by kernel_rfl) (by kernel_rfl) (fun _ _ _ h=>h) (Or.inl ⟨by rfl,?_⟩) (by assumption) ?_
   ·intro w hSw
    (try dsimp only at hSw)
    go_simp
   try simp only [Act.put,List.setIfInBounds_toArray,List.set_cons_zero,List.set_cons_succ]
   refine wpAnyH_ready (rs:= [8]) (by kernel_rfl) (by simp) ?_
   refine AllReadyH.cons (o:={dst:=some 4,op:=Op.assign (Operand.tmp 67),type:=4,pos:= "exact.go:237",after:= #[{on:=7,ground:=Ground.data},{on:=6,ground:=Ground.chain},{on:=0,ground:=Ground.phase},{on:=1,ground:=Ground.phase},{on:=2,ground:=Ground.phase},{on:=3,ground:=Ground.phase},{on:=4,ground:=Ground.phase},{on:=5,ground:=Ground.phase},{on:=6,ground:=Ground.phase},{on:=7,ground:=Ground.phase}],guard:=none}) rfl (fun K hK=>?_) AllReadyH.nil
   go_simp
   refine hK.out _ _ ?_ (fun hHeld=>?_)
   ·exact H7.out _ HD1.out
   clear hK K
   try simp only [Act.put,List.setIfInBounds_toArray,List.set_cons_zero,List.set_cons_succ]
   refine wpAnyH_done (by kernel_rfl) ?_ _
   go_wp2
   go_ret
   exact HE.out
 ·have kc:=K13.out
  clear K1 K11 K9 K12 K10 K13
  have HD1:Hid (Below (w.alloc (stpC 13 N who two da dn dc)).heap.size (w.alloc (stpC 13 N who two da dn dc)) (w.alloc (stpC 13 N who two da dn dc)).drew):=below_drew (Below.refl _ _)
  have H24:Hid (∀w',Below (w.alloc (stpC 13 N who two da dn dc)).heap.size (w.alloc (stpC 13 N who two da dn dc)) w'→w'.cell? ⟨pa,0,none⟩=some (.pointer (some ⟨t,0,none⟩))∧w'.cell? ⟨w.heap.size,1,none⟩=some (.int .i64 N)):=fun w' hb=>⟨cell_later hb c0,cell_later hb g1⟩
  have hxx:(zs == zs)=true:=by simp
  cases who
  case' false=>obtain rfl:pa=a1:=HW.out
  case' true=>obtain rfl:pa=a2:=HW.out
  all_goals
   go_enter Tryz.func15,Tryz.ntmps15
   go_wp2_with fail
   refine wp_region_held_drew (S:=(fun w'=>w'.cell? ⟨pa,0,none⟩=some (.pointer (some ⟨t,0,none⟩))∧w'.cell? ⟨w.heap.size,1,none⟩=some (.int .i64 N))) (by kernel_rfl) (H24.out _ HD1.out) (fun hHeld=>?_)
   refine wpAnyH_take (i:=0) (oi:={dst:=some 70,op:=Op.move (Operand.tmp 5),type:=35,pos:= "exact.go:239",after:= #[],guard:=none}) (v:= .pointer (some ⟨pa,0,none⟩)) rfl (by kernel_rfl) (by kernel_rfl) (by kernel_rfl) (fun _ _ _ h=>h) (Or.inl ⟨by rfl,?_⟩) (by assumption) ?_
   ·intro w hSw
    (try dsimp only at hSw)
    go_simp
   try simp only [Act.put,List.setIfInBounds_toArray,List.set_cons_zero,List.set_cons_succ]
   refine wpAnyH_take (i:=1) (oi:={dst:=some 71,op:=Op.nilCheck (Operand.tmp 70),type:=0,pos:= "exact.go:239",after:= #[{on:=0,ground:=Ground.data}],guard:=none}) (v:= .pointer (some ⟨pa,0,none⟩)) rfl (by kernel_rfl) (by kernel_rfl) (by kernel_rfl) (fun _ _ _ h=>h) (Or.inl ⟨by rfl,?_⟩) (by assumption) ?_
   ·intro w hSw
    (try dsimp only at hSw)
    go_simp
   try simp only [Act.put,List.setIfInBounds_toArray,List.set_cons_zero,List.set_cons_succ]
   refine wpAnyH_take (i:=2) (oi:={dst:=some 72,op:=Op.fieldAddr 59 (Operand.tmp 71) 0,type:=0,pos:= "exact.go:239",after:= #[{on:=1,ground:=Ground.data}],guard:=none}) (v:= .pointer (some ⟨pa,0,none⟩)) rfl (by kernel_rfl) (by kernel_rfl) (by kernel_rfl) (fun _ _ _ h=>h) (Or.inl ⟨by rfl,?_⟩) (by assumption) ?_
   ·intro w hSw
    (try dsimp only at hSw)
    go_simp
   try simp only [Act.put,List.setIfInBounds_toArray,List.set_cons_zero,List.set_cons_succ]
   refine wpAnyH_take (i:=3) (oi:={dst:=some 73,op:=Op.load 57 (Operand.tmp 72),type:=57,pos:= "exact.go:239",after:= #[{on:=2,ground:=Ground.data}],guard:=none}) (v:= .pointer (some ⟨t,0,none⟩)) rfl (by kernel_rfl) (by kernel_rfl) (by kernel_rfl) (fun _ _ _ h=>h) (Or.inl ⟨by rfl,?_⟩) (by assumption) ?_
   ·intro w hSw
    (try dsimp only at hSw)
    go_simp
   try simp only [Act.put,List.setIfInBounds_toArray,List.set_cons_zero,List.set_cons_succ]
   refine wpAnyH_take (i:=4) (oi:={dst:=some 74,op:=Op.fieldAddr 46 (Operand.tmp 3) 1,type:=0,pos:= "exact.go:239",after:= #[],guard:=none}) (v:= .pointer (some ⟨w.heap.size,1,none⟩)) rfl (by kernel_rfl) (by kernel_rfl) (by kernel_rfl) (fun _ _ _ h=>h) (Or.inl ⟨by rfl,?_⟩) (by assumption) ?_
   ·intro w hSw
    (try dsimp only at hSw)
    go_simp
   try simp only [Act.put,List.setIfInBounds_toArray,List.set_cons_zero,List.set_cons_succ]
   refine wpAnyH_take (i:=5) (oi:={dst:=some 75,op:=Op.load 3 (Operand.tmp 74),type:=3,pos:= "exact.go:239",after:= #[{on:=4,ground:=Ground.data}],guard:=none}) (v:= .int .i64 N) rfl (by kernel_rfl) (by kernel_rfl) (by kernel_rfl) (fun _ _ _ h=>h) (Or.inl ⟨by rfl,?_⟩) (by assumption) ?_
   ·intro w hSw
    (try dsimp only at hSw)
    go_simp
   try simp only [Act.put,List.setIfInBounds_toArray,List.set_cons_zero,List.set_cons_succ]
   refine wpAnyH_ready (rs:= [6]) (by kernel_rfl) (by simp) ?_
   refine AllReadyH.cons (o:={dst:=some 76,op:=Op.call {callee:=Callee.value (Operand.func 24),args:= #[Operand.tmp 73,Operand.tmp 75],argTypes:= #[57,39]},type:=39,pos:= "exact.go:239",after:= #[{on:=3,ground:=Ground.data},{on:=5,ground:=Ground.data}],guard:=none}) rfl (fun K hK=>?_) AllReadyH.nil
   go_simp
   refine(kc _ HD1.out).mono ?_
   rintro e w2 ⟨rfl,p1,p2,p3,KM⟩
   refine hK.out _ _ ?_ (fun hHeld=>?_)
   ·exact⟨p1,p2⟩
   clear hK K
   try simp only [Act.put,List.setIfInBounds_toArray,List.set_cons_zero,List.set_cons_succ]
   refine wpAnyH_ready (rs:= [7]) (by kernel_rfl) (by simp) ?_
   refine AllReadyH.cons (o:={dst:=some 7,op:=Op.assign (Operand.tmp 76),type:=39,pos:= "exact.go:239",after:= #[{on:=6,ground:=Ground.data},{on:=6,ground:=Ground.chain},{on:=0,ground:=Ground.phase},{on:=1,ground:=Ground.phase},{on:=2,ground:=Ground.phase},{on:=3,ground:=Ground.phase},{on:=4,ground:=Ground.phase},{on:=5,ground:=Ground.phase},{on:=6,ground:=Ground.phase}],guard:=none}) rfl (fun K hK=>?_) AllReadyH.nil
   go_simp
   refine hK.out _ _ ?_ (fun hHeld=>?_)
   ·exact⟨p1,p2⟩
   clear hK K
   try simp only [Act.put,List.setIfInBounds_toArray,List.set_cons_zero,List.set_cons_succ]
   refine wpAnyH_done (by kernel_rfl) ?_ _
   have HKM:=Hid.mk KM
   have HD2:Hid (Below w2.heap.size w2 w2.drew):=below_drew (Below.refl _ _)
   have H25:Hid (∀w',Below w2.heap.size w2 w'→w'.cell? ⟨kr,4,none⟩=some (.pointer (some ⟨k,0,none⟩))∧w'.cell? ⟨w.heap.size,1,none⟩=some (.int .i64 N)):=fun w' hb=>⟨cell_later hb p3,cell_later hb p2⟩
   clear kc KM hHeld p1 p2 p3 g0 g1 g2 g3 g4 r2 r3 r4 c0
   go_wp2_with fail
   refine wp_region_held_drew (S:=(fun w'=>w'.cell? ⟨kr,4,none⟩=some (.pointer (some ⟨k,0,none⟩))∧w'.cell? ⟨w.heap.size,1,none⟩=some (.int .i64 N))) (by kernel_rfl) (H25.out _ HD2.out) (fun hHeld=>?_)
   refine wpAnyH_take (i:=0) (oi:={dst:=some 77,op:=Op.move (Operand.tmp 0),type:=28,pos:= "exact.go:240",after:= #[],guard:=none}) (v:= .pointer (some ⟨kr,0,none⟩)) rfl (by kernel_rfl) (by kernel_rfl) (by kernel_rfl) (fun _ _ _ h=>h) (Or.inl ⟨by rfl,?_⟩) (by assumption) ?_
   ·intro w hSw
    (try dsimp only at hSw)
    go_simp
   try simp only [Act.put,List.setIfInBounds_toArray,List.set_cons_zero,List.set_cons_succ]
   refine wpAnyH_take (i:=1) (oi:={dst:=some 78,op:=Op.nilCheck (Operand.tmp 77),type:=0,pos:= "exact.go:240",after:= #[{on:=0,ground:=Ground.data}],guard:=none}) (v:= .pointer (some ⟨kr,0,none⟩)) rfl (by kernel_rfl) (by kernel_rfl) (by kernel_rfl) (fun _ _ _ h=>h) (Or.inl ⟨by rfl,?_⟩) (by assumption) ?_
   ·intro w hSw
    (try dsimp only at hSw)
    go_simp
   try simp only [Act.put,List.setIfInBounds_toArray,List.set_cons_zero,List.set_cons_succ]
   refine wpAnyH_take (i:=2) (oi:={dst:=some 79,op:=Op.fieldAddr 38 (Operand.tmp 78) 4,type:=0,pos:= "exact.go:240",after:= #[{on:=1,ground:=Ground.data}],guard:=none}) (v:= .pointer (some ⟨kr,4,none⟩)) rfl (by kernel_rfl) (by kernel_rfl) (by kernel_rfl) (fun _ _ _ h=>h) (Or.inl ⟨by rfl,?_⟩) (by assumption) ?_
   ·intro w hSw
    (try dsimp only at hSw)
    go_simp
   try simp only [Act.put,List.setIfInBounds_toArray,List.set_cons_zero,List.set_cons_succ]
   refine wpAnyH_take (i:=3) (oi:={dst:=some 80,op:=Op.load 36 (Operand.tmp 79),type:=36,pos:= "exact.go:240",after:= #[{on:=2,ground:=Ground.data}],guard:=none}) (v:= .pointer (some ⟨k,0,none⟩)) rfl (by kernel_rfl) (by kernel_rfl) (by kernel_rfl) (fun _ _ _ h=>h) (Or.inl ⟨by rfl,?_⟩) (by assumption) ?_
   ·intro w hSw
    (try dsimp only at hSw)
    go_simp
   try simp only [Act.put,List.setIfInBounds_toArray,List.set_cons_zero,List.set_cons_succ]
   refine wpAnyH_take (i:=4) (oi:={dst:=some 81,op:=Op.fieldAddr 46 (Operand.tmp 3) 1,type:=0,pos:= "exact.go:240",after:= #[],guard:=none}) (v:= .pointer (some ⟨w.heap.size,1,none⟩)) rfl (by kernel_rfl) (by kernel_rfl) (by kernel_rfl) (fun _ _ _ h=>h) (Or.inl ⟨by rfl,?_⟩) (by assumption) ?_
   ·intro w hSw
    (try dsimp only at hSw)
    go_simp
   try simp only [Act.put,List.setIfInBounds_toArray,List.set_cons_zero,List.set_cons_succ]
   refine wpAnyH_take (i:=5) (oi:={dst:=some 82,op:=Op.load 3 (Operand.tmp 81),type:=3,pos:= "exact.go:240",after:= #[{on:=4,ground:=Ground.data}],guard:=none}) (v:= .int .i64 N) rfl (by kernel_rfl) (by kernel_rfl) (by kernel_rfl) (fun _ _ _ h=>h) (Or.inl ⟨by rfl,?_⟩) (by assumption) ?_
   ·intro w hSw
    (try dsimp only at hSw)
    go_simp
   try simp only [Act.put,List.setIfInBounds_toArray,List.set_cons_zero,List.set_cons_succ]
   refine wpAnyH_ready (rs:= [6]) (by kernel_rfl) (by simp) ?_
   refine AllReadyH.cons (o:={dst:=some 83,op:=Op.call {callee:=Callee.value (Operand.func 40),args:= #[Operand.tmp 80,Operand.tmp 82],argTypes:= #[36,3]},type:=3,pos:= "exact.go:240",after:= #[{on:=3,ground:=Ground.data},{on:=5,ground:=Ground.data}],guard:=none}) rfl (fun K hK=>?_) AllReadyH.nil
   go_simp
   refine(HKM.out _ HD2.out).mono ?_
   rintro e w4 ⟨rfl,hE,p4,p5⟩
   refine hK.out _ _ ?_ (fun hHeld=>?_)
   ·exact⟨p4,p5⟩
   clear hK K
   try simp only [Act.put,List.setIfInBounds_toArray,List.set_cons_zero,List.set_cons_succ]
   refine wpAnyH_ready (rs:= [7]) (by kernel_rfl) (by simp) ?_
   refine AllReadyH.cons (o:={dst:=some 8,op:=Op.assign (Operand.tmp 83),type:=3,pos:= "exact.go:240",after:= #[{on:=6,ground:=Ground.data},{on:=6,ground:=Ground.chain},{on:=0,ground:=Ground.phase},{on:=1,ground:=Ground.phase},{on:=2,ground:=Ground.phase},{on:=3,ground:=Ground.phase},{on:=4,ground:=Ground.phase},{on:=5,ground:=Ground.phase},{on:=6,ground:=Ground.phase}],guard:=none}) rfl (fun K hK=>?_) AllReadyH.nil
   go_simp
   refine hK.out _ _ ?_ (fun hHeld=>?_)
   ·exact⟨p4,p5⟩
   clear hK K
   try simp only [Act.put,List.setIfInBounds_toArray,List.set_cons_zero,List.set_cons_succ]
   refine wpAnyH_done (by kernel_rfl) ?_ _
   have HE:=Hid.mk hE
   have kn:=num6_any zs w4
   clear hHeld hE p4 p5
   go_wp2_with fail
   refine kn.mono ?_
   rintro e wx ⟨rfl,hwx⟩
   have hwx':=hwx.symm
   subst hwx'
   clear hwx kn
   go_wp2
   go_ret
   exact HE.out
end
end Go.Proofs.YtkiehemoiapkkaaGreat
end
section
namespace Go.Proofs.YtkiehemoiapkkaaGreat
open Go.RowKit Go.Maps
def PlL (w wr:World) (ka kb:Nat):Prop:=∃E1 E2,RGL wr E1 ka∧RGL wr E2 kb∧(∀j,E1 j→¬E2 j)∧(∀j,E1 j→w.heap.size≤j)∧(∀j,E2 j→w.heap.size≤j)∧Below w.heap.size w wr
theorem PlL.later {w wr w':World} {ka kb:Nat} (h:PlL w wr ka kb) (hb:Below wr.heap.size wr w'):PlL w w' ka kb:=by
 obtain⟨E1,E2,h1,h2,h3,h4,h5,h6⟩:=h
 exact⟨E1,E2,h1.later hb,h2.later hb,h3,h4,h5,h6.trans (hb.mono h6.size)⟩
theorem PlL.a {w wr w':World} {ka kb:Nat} {E1 E2:Nat→Prop} (h1:RGL w' (fun j=>E1 j∨(wr.heap.size≤j∧j<w'.heap.size)) ka) (hk:Keeps E1 wr w') (h2:RGL wr E2 kb) (h3:∀j,E1 j→¬E2 j) (h4:∀j,E1 j→w.heap.size≤j) (h5:∀j,E2 j→w.heap.size≤j) (h6:Below w.heap.size w wr):PlL w w' ka kb:=by
 have hl:=h2.lt
 have z:=h6.size
 refine⟨_,E2,h1,h2.apart hk h3,fun j hj e=>?_,fun j hj=>?_,h5,h6.trans (hk.below h4 h6.size)⟩
 ·rcases hj with hj|hj
  ·exact h3 j hj e
  ·have:=hl j e
   omega
 ·rcases hj with hj|hj
  ·exact h4 j hj
  ·omega
theorem PlL.swap {w wr:World} {ka kb:Nat} (h:PlL w wr ka kb):PlL w wr kb ka:=by
 obtain⟨E1,E2,h1,h2,h3,h4,h5,h6⟩:=h
 exact⟨E2,E1,h2,h1,fun j hj e=>h3 j e hj,h5,h4,h6⟩
theorem PlL.step {w wr:World} {ka kb:Nat} {N:Int} {who two:Bool} {da:Option Addr} {dn dc:Nat} {dl:List Int} (h:PlL w wr ka kb) (hN:I64 N) (hs:Src wr da dn dl) (hsl:∀x,da=some x→0<dn→x.block<w.heap.size) (hby:Bytes dl) (hdn:dn≤140737488355328) (kd:Int) (hkd:KdA kd):
  Calls Tryz.prog 15 #[.pointer (some ⟨ka,0,none⟩),stpV kd N who two da dn dc] wr fun e w'=>e= .returned (.bool true)∧PlL w w' ka kb:=by
 obtain⟨E1,E2,h1,h2,h3,h4,h5,h6⟩:=h
 exact(h1.step hN (fun w' hk=>hs.far (hk.below h4 h6.size) hsl) hby hdn kd hkd).mono (fun e w' ⟨he,hr,hk⟩=>⟨he,PlL.a hr hk h2 h3 h4 h5 h6⟩)
def inK (kf:Nat→Int) (kd:Int):Nat→Bool
 |0=>false
 |j+1=>inK kf kd j || (kf j == kd)
set_option maxRecDepth 20000 in
set_option maxHeartbeats 16000000 in
theorem playsL_any (B1 L1 N1 B2 L2 N2:Int) (i1:I64 B1) (i2:I64 L1) (i3:I64 N1) (i4:I64 B2) (i5:I64 L2) (i6:I64 N2) (sa:Option Addr) (sn sc kk kc:Nat) (kf:Nat→Int) (nk:Nat) (hnk:nk≤100) (hkf:∀kd,inK kf kd nk=true→KdA kd) (w:World) (hst:Steps6 w w.heap.size sa sn) (_hsn:48*sn≤140737488355328) (hkk:kk<w.heap.size) (hkc:∀j,j<nk→w.cell? ⟨kk,j,none⟩=some (.int .i64 (kf j))):
  Calls Tryz.prog 8 #[.agg #[.int .i64 B1, .int .i64 L1, .int .i64 N1], .agg #[.int .i64 B2, .int .i64 L2, .int .i64 N2], .slice sa sn sc, .slice (some ⟨kk,0,none⟩) nk kc] w fun e w'=>e= .returned (.bool true)∧Below w.heap.size w w':=by
 obtain⟨hG1,_,_,_,_,_,_,_⟩:=geoOf_ok B1 L1 N1
 obtain⟨hG2,_,_,_,_,_,_,_⟩:=geoOf_ok B2 L2 N2
 have b1:=below_box w (.cells #[.int .i64 B1, .int .i64 L1, .int .i64 N1] 23)
 have b2:=below_box (w.alloc (.cells #[.int .i64 B1, .int .i64 L1, .int .i64 N1] 23)) (.cells #[.int .i64 B2, .int .i64 L2, .int .i64 N2] 23)
 have n1:=heap_alloc_new w (.cells #[.int .i64 B1, .int .i64 L1, .int .i64 N1] 23)
 have n2:=heap_alloc_new (w.alloc (.cells #[.int .i64 B1, .int .i64 L1, .int .i64 N1] 23)) (.cells #[.int .i64 B2, .int .i64 L2, .int .i64 N2] 23)
 have z1:(w.alloc (.cells #[.int .i64 B1, .int .i64 L1, .int .i64 N1] 23)).heap.size=w.heap.size+1:=by rw [World.size_alloc]
 rw [z1] at n2
 have n1':=(b2.block _ (lt_there n1)).trans n1
 have b12:Below w.heap.size w _:=b1.trans (b2.mono b1.size)
 have g0:=cell_of_block n1' (j:=0) rfl
 have g1:=cell_of_block n1' (j:=1) rfl
 have g2:=cell_of_block n1' (j:=2) rfl
 have ks1:=super6_any B1 L1 N1 i1 i2 i3 ((w.alloc (.cells #[.int .i64 B1, .int .i64 L1, .int .i64 N1] 23)).alloc (.cells #[.int .i64 B2, .int .i64 L2, .int .i64 N2] 23))
 have KR1:Hid (∀w,Calls Tryz.prog 9 #[supV (geoOf B1 L1 N1)] w fun e w'=>RigO w w' (geoOf B1 L1 N1) e):=fun w=>rig_any (geoOf B1 L1 N1) hG1 w
 have KS2:Hid (∀w,Calls Tryz.prog 10 #[.agg #[.int .i64 B2, .int .i64 L2, .int .i64 N2]] w fun e w'=>e= .returned (supV (geoOf B2 L2 N2))∧Below w.heap.size w w'):=fun w=>super6_any B2 L2 N2 i4 i5 i6 w
 have KR2:Hid (∀w,Calls Tryz.prog 9 #[supV (geoOf B2 L2 N2)] w fun e w'=>RigO w w' (geoOf B2 L2 N2) e):=fun w=>rig_any (geoOf B2 L2 N2) hG2 w
 generalize geoOf B1 L1 N1=ga at*
 generalize geoOf B2 L2 N2=gb at*
 have HN2:=Hid.mk (And.intro n2 b12)
 have HST:=Hid.mk (And.intro hst hkc)
 have HKF:=Hid.mk hkf
 clear hG1 hG2 i1 i2 i3 i4 i5 i6 b1 b2 n1 n2 n1' b12 z1 hst hkc hkf
 go_enter Tryz.func8,Tryz.ntmps8
 go_wp2_with fail
 refine ks1.mono ?_
 rintro e w1 ⟨rfl,hb1⟩
 have kr1:=KR1.out w1
 have HB1:=Hid.mk (HN2.out.2.trans (hb1.mono HN2.out.2.size))
 have n2':=(hb1.block _ (lt_there HN2.out.1)).trans HN2.out.1
 have HN3:=Hid.mk n2'
 clear ks1 hb1 n2' g0 g1 g2 HN2
 go_wp2_with fail
 refine kr1.mono ?_
 intro e w2 hR
 obtain⟨ka,he,hra,hb2⟩:=hR.rgl
 subst he
 have n3:=(hb2.block _ (lt_there HN3.out)).trans HN3.out
 have g0:=cell_of_block n3 (j:=0) rfl
 have g1:=cell_of_block n3 (j:=1) rfl
 have g2:=cell_of_block n3 (j:=2) rfl
 have ks2:=KS2.out w2
 have HA:=Hid.mk (And.intro hra hb2)
 clear kr1 hR hra hb2 n3
 go_wp2_with fail
 refine ks2.mono ?_
 rintro e w3 ⟨rfl,hb3⟩
 have kr2:=KR2.out w3
 have HB3:=Hid.mk hb3
 clear ks2 hb3 g0 g1 g2
 go_wp2_with fail
 refine kr2.mono ?_
 intro e w4 hR
 obtain⟨kb,he,hrb,hb4⟩:=hR.rgl
 subst he
 have hrr:=HA.out.1.later (HB3.out.trans (hb4.mono HB3.out.size))
 have ca:=hrr.cells
 have cb:=hrb.cells
 obtain⟨a1,k,zz,c2,kc1⟩:=hrr.clear
 have HP:Hid (RGL w4 (fun j=>w3.heap.size≤j∧j<w4.heap.size) kb∧(∀j,(w1.heap.size≤j∧j<w2.heap.size)→¬(w3.heap.size≤j∧j<w4.heap.size))∧(∀j,(w1.heap.size≤j∧j<w2.heap.size)→w.heap.size≤j)∧(∀j,(w3.heap.size≤j∧j<w4.heap.size)→w.heap.size≤j)∧Below w.heap.size w w4):=by
  have y1:=HB1.out.size
  have y2:=HA.out.2.size
  have y3:=HB3.out.size
  exact⟨hrb,fun j h1 h2=>by omega,fun j h1=>by omega,fun j h1=>by omega,((HB1.out.trans (HA.out.2.mono y1)).trans (HB3.out.mono (by omega))).trans (hb4.mono (by omega))⟩
 clear kr2 hR hrb hb4 hrr HA HB1 HB3 HN3
 go_wp2_with fail
 refine kc1.mono ?_
 rintro e w5 ⟨rfl,c4,km⟩
 clear kc1 c2 ca cb
 go_wp2_with fail
 refine km.mono ?_
 rintro e w6 ⟨rfl,hr6,hk6⟩
 have HI6:Hid (PlL w w6 ka kb):=PlL.a hr6 hk6 HP.out.1 HP.out.2.1 HP.out.2.2.1 HP.out.2.2.2.1 HP.out.2.2.2.2
 have kn:=num6_any zz w6
 clear km hr6 hk6 HP c4
 go_wp2_with fail
 refine kn.mono ?_
 rintro e wx ⟨rfl,hwx⟩
 have hwx':=hwx.symm
 subst hwx'
 clear hwx kn
 obtain⟨E1,E2,r1,r2,r3,r4,r5,r6⟩:=HI6.out
 obtain⟨a2,c3,kl⟩:=r1.looks
 have HI:Hid (RGL w6 E2 kb∧(∀j,E1 j→¬E2 j)∧(∀j,E1 j→w.heap.size≤j)∧(∀j,E2 j→w.heap.size≤j)∧Below w.heap.size w w6):=⟨r2,r3,r4,r5,r6⟩
 clear r1 r2 r3 r4 r5 r6 HI6
 go_wp2_with fail
 refine kl.mono ?_
 rintro e w7 ⟨rfl,hr7,hk7⟩
 have HI7:Hid (PlL w w7 ka kb):=PlL.a hr7 hk7 HI.out.1 HI.out.2.1 HI.out.2.2.1 HI.out.2.2.2.1 HI.out.2.2.2.2
 clear kl hr7 hk7 HI c3
 go_wp2
 go_loopw [13] (fun iv wr=>∃i:Nat,i≤sn∧iv= .int .i64 (i:Int)∧PlL w wr ka kb) (fun iv _=>sn-(intOf iv).toNat)
 case atStart=>exact⟨0,Nat.zero_le _,rfl,HI7.out⟩
 case round=>
  clear HI7
  obtain⟨i,hi,rfl,hI⟩:=hrel
  have HJ:=Hid.mk hI
  clear hI
  by_cases hlt:i<sn
  ·have hlt':(i:Int)<(sn:Int):=by omega
   by_cases hl2:i<3000
   ·have hl2':(i:Int)<3000:=by omega
    have hbw:Below w.heap.size w wr:=by obtain⟨E1,E2,_,_,_,_,_,r6⟩:=HJ.out;exact r6
    cases sa with
    |none=>have:=HST.out.1.1 rfl;omega
    |some y=>
    obtain⟨b,o,rfl,hbb,kd,N,who,two,da,dn,dc,dl,s0,s1,s2,s3,s4,hN,hsr,hby,hdn,hsl⟩:=(HST.out.1.far hbw).2 y rfl i hlt
    have hkc:∀j,j<nk→wr.cell? ⟨kk,j,none⟩=some (.int .i64 (kf j)):=fun j hj=>(World.cell?_of_block (w:=w) (a:=⟨kk,j,none⟩) (hbw.block kk hkk)).trans (HST.out.2 j hj)
    have HK:=Hid.mk (And.intro hkc (And.intro s0 (And.intro s1 (And.intro s2 (And.intro s3 s4)))))
    have HD:=Hid.mk (And.intro hN (And.intro hsr (And.intro hsl (And.intro hby hdn))))
    have hi0:(0:Int)≤(i:Int):=by omega
    clear hkc s0 s1 s2 s3 s4 hN hsr hsl hby hdn hbw hbb
    go_wp2
    rename World=>wo
    go_loopw [14,15] (fun nv jv wx=>∃j:Nat,j≤nk∧jv= .int .i64 (j:Int)∧nv= .bool (inK kf kd j)∧Below wo.heap.size wo wx) (fun _ jv _=>nk-(intOf jv).toNat)
    case atStart=>exact⟨0,Nat.zero_le _,rfl,rfl,Below.refl _ _⟩
    case round=>
     obtain⟨j,hj,rfl,rfl,hbx⟩:=hrel
     by_cases hlt3:j<nk
     ·have hlt3':(j:Int)<(nk:Int):=by omega
      have hj0:(0:Int)≤(j:Int):=by omega
      have k0:=cell_later hbx (HK.out.1 j hlt3)
      have t0:=cell_later hbx HK.out.2.1
      cases hin:inK kf kd j
      ·have HIn:Hid (inK kf kd (j+1)=(kf j == kd)):=by show (inK kf kd j || (kf j == kd))=_;rw [hin];rfl
       clear hin
       generalize kf j=kv at*
       go_wp2
       go_quiet (fail)
       go_wp2
       go_roundw
       case rel=>exact⟨j+1,by omega,by go_num,by rw [HIn.out],below_drewN hbx _⟩
       case measure=>simp [intOf];omega
      ·have HIn:Hid (inK kf kd (j+1)=true):=by show (inK kf kd j || (kf j == kd))=_;rw [hin];rfl
       clear hin k0
       go_wp2
       go_quiet (fail)
       go_wp2
       go_roundw
       case rel=>exact⟨j+1,by omega,by go_num,by rw [HIn.out],below_drewN hbx _⟩
       case measure=>simp [intOf];omega
     ·obtain rfl:nk=j:=by omega
      have hlt3':¬(nk:Int)<(nk:Int):=by omega
      have HJ2:=Hid.mk (HJ.out.later hbx)
      cases hin:inK kf kd nk
      ·clear hin
       go_wp2
       go_roundw
       case rel=>exact⟨i+1,by omega,by go_num,HJ2.out⟩
       case measure=>simp [intOf];omega
      ·have hkd:=HKF.out kd hin
       have t0:=cell_later hbx HK.out.2.1
       have t1:=cell_later hbx HK.out.2.2.1
       have t2:=cell_later hbx HK.out.2.2.2.1
       have t3:=cell_later hbx HK.out.2.2.2.2.1
       have t4:=cell_later hbx HK.out.2.2.2.2.2
       have hsr:=HD.out.2.1.later hbx
       have HKd:=Hid.mk hkd
       clear hin hkd
       cases two
       ·have kst:=HJ2.out.step (who:=who) (two:=false) (dc:=dc) HD.out.1 hsr HD.out.2.2.1 HD.out.2.2.2.1 HD.out.2.2.2.2 kd HKd.out
        clear hsr
        go_wp2_with fail
        refine kst.mono ?_
        rintro e w8 ⟨rfl,hI8⟩
        have HI8:=Hid.mk hI8
        clear kst hI8 t0 t1 t2 t3 t4
        go_wp2
        go_roundw
        case rel=>exact⟨i+1,by omega,by go_num,HI8.out⟩
        case measure=>simp [intOf];omega
       ·have kst:=HJ2.out.swap.step (who:=who) (two:=true) (dc:=dc) HD.out.1 hsr HD.out.2.2.1 HD.out.2.2.2.1 HD.out.2.2.2.2 kd HKd.out
        clear hsr
        go_wp2_with fail
        refine kst.mono ?_
        rintro e w8 ⟨rfl,hI8⟩
        have HI8:=Hid.mk hI8.swap
        clear kst hI8 t0 t1 t2 t3 t4
        go_wp2
        go_roundw
        case rel=>exact⟨i+1,by omega,by go_num,HI8.out⟩
        case measure=>simp [intOf];omega
   ·have hl2':¬(i:Int)<3000:=by omega
    go_wp2
    go_ret
    obtain⟨E1,E2,_,_,_,_,_,r6⟩:=HJ.out
    exact⟨rfl,r6⟩
  ·have hlt':¬(i:Int)<(sn:Int):=by omega
   go_wp2
   go_ret
   obtain⟨E1,E2,_,_,_,_,_,r6⟩:=HJ.out
   exact⟨rfl,r6⟩
theorem Steps6.mono {w:World} {B B':Nat} {sa:Option Addr} {n:Nat} (h:Steps6 w B sa n) (hb:B≤B'):Steps6 w B' sa n:=by
 refine⟨h.1,fun y hy i hi=>?_⟩
 obtain⟨b,o,rfl,hbB,kd,N,who,two,da,dn,dc,dl,c0,c1,c2,c3,c4,h5,h6,h7,h8,h9⟩:=h.2 y hy i hi
 exact⟨b,o,rfl,by omega,kd,N,who,two,da,dn,dc,dl,c0,c1,c2,c3,c4,h5,h6,h7,h8,fun x hx h0=>Nat.lt_of_lt_of_le (h9 x hx h0) hb⟩
end Go.Proofs.YtkiehemoiapkkaaGreat
end
